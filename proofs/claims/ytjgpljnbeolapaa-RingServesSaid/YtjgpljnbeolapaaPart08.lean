/- 8 texts in one file, in build order. -/
import Derived.Test.YtjgpljnbeolapaaPart02
import Derived.Test.YtjgpljnbeolapaaPart07
import Derived.Test.YtjgpljnbeolapaaPart03
import Derived.BigQuiet
import Derived.StillTailTactics
import Derived.Test.YtjgpljnbeolapaaRows
import Derived.Deep.Cut
set_option linter.unusedVariables false
set_option linter.unusedSimpArgs false
set_option linter.unusedSectionVars false
set_option maxHeartbeats 8000000
set_option maxRecDepth 100000
namespace Go.Proofs.Ytjgpljnbeolapaa
namespace Ru
open Go Go.ChangeShapes Go.WideShapes Go.ChangeAt Go.RowKit
open Tab Flat TabArg QL
open May (infoP)
open Ped (ft cu idl Ft infoFt)
open Gap (lm lf gr Tn infoTn)
theorem wpQuiet_build {P : Program} {C : World → Prop} {ops : Array Oper} {Q : Act → Prop} {a : Act} {o : Oper} {rest : List Oper} (hw : Region.wanted o (yielded ops a.tmps) = true) (t : TypeId) (parts : List (Nat × Operand)) (ho : o.op = .build t parts.toArray) (cells : Array Value) (vs : List (Nat × Value)) (hv : parts.map (fun (i, x) => (i, a.eval x)) = vs) (hb : P.built t vs = some cells)
    (h : wpQuiet P ops C Q rest (a.put o.dst (.agg cells))) : wpQuiet P ops C Q (o :: rest) a :=
  wpQuiet_step fun K hK => by
    subst hv
    rw [if_pos hw]
    refine ⟨_, fun w hw' => ?_, hK _ h⟩
    unfold Oper.quietAt execOp
    have hb' : P.built t (parts.toArray.map fun (i, x) => (i, a.eval x)).toList = some cells := by simpa using hb
    simp only [ho, Sem.run_bind, run_build w t _ _ hb', Result.andThen_ok, Sem.run_pure]
    exact ⟨rfl, rfl⟩
theorem rstep_end (p : Ph) (r : Ru) (c : Cu) (hco : r.co = 1) (hen : c.en = true) (w : World) : Calls Try.prog 50 #[.agg p.cells.toArray, .agg r.cells.toArray, .agg c.cells.toArray] w fun e w' => e = .returned (.agg (Ru.cells (stp p r c)).toArray) ∧ Below w.heap.size w w' := by
  obtain ⟨⟨x, y, z⟩, ht⟩ : ∃ t, tre p r = t := ⟨_, rfl⟩
  have HE : Hid (stp p r c = ⟨2, 1, 0, 0, 0, 0, 0, false, false, x, y, z⟩) := Lib.hid (by unfold stp fin; rw [if_pos hco, if_pos hen, ht])
  obtain ⟨dn, hdn⟩ : ∃ x, r.dn = x := ⟨_, rfl⟩
  unfold tre at ht
  rw [hdn] at ht
  have hn0 := Blk.Bks.nil w
  have hn1 := hn0.alloc p.cells.toArray 24
  have hn2 := hn1.alloc (Ru.cells r).toArray 45
  rw [show (w.alloc (.cells p.cells.toArray 24)).heap.size = w.heap.size + 1 by simp] at hn2
  have hn3 := hn2.alloc c.cells.toArray 107
  rw [show ((w.alloc (.cells p.cells.toArray 24)).alloc (.cells (Ru.cells r).toArray 45)).heap.size = w.heap.size + 1 + 1 by simp] at hn3
  have hn4 := hn3.alloc #[I 0, I 0, I 0, I 0, I 0, I 0, I 0, .bool false, .bool false, I 0, I 0, I 0] 45
  rw [show (((w.alloc (.cells p.cells.toArray 24)).alloc (.cells (Ru.cells r).toArray 45)).alloc (.cells c.cells.toArray 107)).heap.size = w.heap.size + 1 + 1 + 1 by simp] at hn4
  clear hn0
  clear hn1
  clear hn2
  clear hn3
  go_enter Try.func50, Try.ntmps50
  go_upto_region 1 with fail
  generalize World.alloc (World.alloc (World.alloc (World.alloc w _) _) _) _ = v at hn4 ⊢
  generalize hg3 : w.heap.size + 1 + 1 + 1 = gz at hn4 ⊢
  generalize hg2 : w.heap.size + 1 + 1 = gc at hn4 ⊢
  generalize hg1 : w.heap.size + 1 = gr at hn4 ⊢
  generalize hg0 : w.heap.size = gp at hn4 ⊢
  clear hg0 hg1 hg2 hg3
  have H0 := Lib.hid hn4
  clear hn4
  have t_rco : v.cell? ⟨gr, 0, none⟩ = some (I r.co) := H0.out.cell 2 0 rfl rfl
  have t_cen : v.cell? ⟨gc, 1, none⟩ = some (.bool c.en) := H0.out.cell 1 1 rfl rfl
  have t_rdn : v.cell? ⟨gr, 7, none⟩ = some (.bool r.dn) := H0.out.cell 2 7 rfl rfl
  rw [hco] at t_rco
  rw [hen] at t_cen
  go_upto_region 5 with (first | (refine Row.wpList_load_g 43 _ rfl (by first | rfl | (go_simp; done) | fail) ⟨gr, 9, none⟩ rfl [I r.tl, I r.tu, I r.td] _ (seg H0.out 2 9 rfl _ rfl) Try.underlying43 rfl infoTn ?_) | (refine wpList_build rfl 45 [(0, .const (I 2)), (1, .const (I 1)), (8, .tmp 17)] rfl (Ru.cells ⟨2, 1, 0, 0, 0, 0, 0, false, false, r.tl, r.tu, r.td⟩).toArray _ (by rfl) (built3 2 1 r.tl r.tu r.td) ?_) | (refine Row.wpList_store_new rfl 45 _ _ rfl _ _ (Ru.cells ⟨2, 1, 0, 0, 0, 0, 0, false, false, r.tl, r.tu, r.td⟩).toArray rfl rfl rfl infoRu rfl (one_ru _) ?_))
  have hn := H0.out.alloc (Ru.cells ⟨2, 1, 0, 0, 0, 0, 0, false, false, r.tl, r.tu, r.td⟩).toArray 45
  generalize World.alloc v _ = v1 at hn ⊢
  generalize v.heap.size = gn at hn ⊢
  have H1 := Lib.hid hn
  clear hn
  clear H0 t_rco t_cen t_rdn
  have t_rdn : v1.cell? ⟨gr, 7, none⟩ = some (.bool r.dn) := H1.out.cell 3 7 rfl rfl
  rw [hdn] at t_rdn
  cases dn
  · rw [if_neg (by simp)] at ht
    injection ht with e1 e2 e3
    subst e1 e2 e3
    go_upto_region 7 with fail
    go_wp2_with (first | (refine Row.wpList_load_g 45 _ rfl (by first | rfl | (go_simp; done) | fail) ⟨gn, 0, none⟩ rfl (Ru.cells ⟨2, 1, 0, 0, 0, 0, 0, false, false, r.tl, r.tu, r.td⟩) _ (seg H1.out 0 0 rfl _ rfl) Try.underlying45 rfl infoRu ?_) | (refine wpList_store_row rfl 45 _ _ rfl gz (Ru.cells ⟨2, 1, 0, 0, 0, 0, 0, false, false, r.tl, r.tu, r.td⟩).toArray rfl rfl 45 _ (H1.out.at 1 rfl) infoRu rfl (one_ru _) ?_))
    have hput := H1.out.put 1 rfl (Ru.cells ⟨2, 1, 0, 0, 0, 0, 0, false, false, r.tl, r.tu, r.td⟩).toArray
    simp only [List.set_cons_succ, List.set_cons_zero] at hput
    generalize World.setRow v1 gz _ = vz at hput ⊢
    have HG := Lib.hid hput
    clear hput
    go_wp2_with fail
    (try simp only [Exit.inBlock, Exit.then])
    refine bodyPost_ret (v := .agg (Ru.cells ⟨2, 1, 0, 0, 0, 0, 0, false, false, r.tl, r.tu, r.td⟩).toArray) ?_ rfl ⟨ret_ru HE.out.symm, HG.out.bel⟩
    exact results_cell_row rfl _ _ gz 45 _ (0, 0) _ rfl (HG.out.at 1 rfl) Try.underlying45 rfl infoRu
  · rw [if_pos rfl] at ht
    have GR : Hid (∀ W, Calls Try.prog 68 #[.agg p.cells.toArray, .agg #[I r.tl, I r.tu, I r.td], .bool r.mx] W fun e w' => e = .returned (.agg #[I x, I y, I z]) ∧ Below W.heap.size W w') := Lib.hid (fun W => Gap.rgrow_is ht W)
    clear ht
    go_upto_region 6 with fail
    clear t_rdn
    have t_rmx : v1.cell? ⟨gr, 8, none⟩ = some (.bool r.mx) := H1.out.cell 3 8 rfl rfl
    go_wp2_with (first | (refine Row.wpList_load_g 24 _ rfl (by first | rfl | (go_simp; done) | fail) ⟨gp, 0, none⟩ rfl p.cells _ (seg H1.out 4 0 rfl _ rfl) Try.underlying24 rfl infoP ?_) | (refine Row.wpList_load_g 43 _ rfl (by first | rfl | (go_simp; done) | fail) ⟨gr, 9, none⟩ rfl [I r.tl, I r.tu, I r.td] _ (seg H1.out 3 9 rfl _ rfl) Try.underlying43 rfl infoTn ?_))
    refine (GR.out _).mono ?_
    rintro e v3 ⟨rfl, bc⟩
    have H3 := Lib.hid (H1.out.step bc)
    clear bc
    go_upto_region 7 with (refine store_mid rfl 43 _ _ rfl gn 9 #[I x, I y, I z] rfl rfl 45 _ (Ru.cells ⟨2, 1, 0, 0, 0, 0, 0, false, false, x, y, z⟩).toArray H3.out 0 rfl infoTn (by first | decide | (simp [Ru.cells]; done) | fail) (by simp [Value.oneCell']) rfl ?_)
    have hput := H3.out.put 0 rfl (Ru.cells ⟨2, 1, 0, 0, 0, 0, 0, false, false, x, y, z⟩).toArray
    simp only [List.set_cons_succ, List.set_cons_zero] at hput
    generalize World.setRow _ gn _ = v4 at hput ⊢
    have H4 := Lib.hid hput
    clear hput
    clear H1 H3 GR t_rmx
    go_wp2_with (first | (refine Row.wpList_load_g 45 _ rfl (by first | rfl | (go_simp; done) | fail) ⟨gn, 0, none⟩ rfl (Ru.cells ⟨2, 1, 0, 0, 0, 0, 0, false, false, x, y, z⟩) _ (seg H4.out 0 0 rfl _ rfl) Try.underlying45 rfl infoRu ?_) | (refine wpList_store_row rfl 45 _ _ rfl gz (Ru.cells ⟨2, 1, 0, 0, 0, 0, 0, false, false, x, y, z⟩).toArray rfl rfl 45 _ (H4.out.at 1 rfl) infoRu rfl (one_ru _) ?_))
    have hput := H4.out.put 1 rfl (Ru.cells ⟨2, 1, 0, 0, 0, 0, 0, false, false, x, y, z⟩).toArray
    simp only [List.set_cons_succ, List.set_cons_zero] at hput
    generalize World.setRow v4 gz _ = vz at hput ⊢
    have HG := Lib.hid hput
    clear hput
    go_wp2_with fail
    (try simp only [Exit.inBlock, Exit.then])
    refine bodyPost_ret (v := .agg (Ru.cells ⟨2, 1, 0, 0, 0, 0, 0, false, false, x, y, z⟩).toArray) ?_ rfl ⟨ret_ru HE.out.symm, HG.out.bel⟩
    exact results_cell_row rfl _ _ gz 45 _ (0, 0) _ rfl (HG.out.at 1 rfl) Try.underlying45 rfl infoRu
theorem rstep_stay (p : Ph) (r : Ru) (c : Cu) (hco : r.co = 1) (hen : c.en = false) (w : World) : Calls Try.prog 50 #[.agg p.cells.toArray, .agg r.cells.toArray, .agg c.cells.toArray] w fun e w' => e = .returned (.agg (Ru.cells (stp p r c)).toArray) ∧ Below w.heap.size w w' := by
  have HE : Hid (stp p r c = sty p c (lon p r c)) := Lib.hid (by unfold stp; rw [if_pos hco, hen, if_neg (by simp)])
  obtain ⟨D, hD⟩ : ∃ D, sty p c (lon p r c) = D := ⟨_, rfl⟩
  rw [hD] at HE
  obtain ⟨du, hdu⟩ : ∃ x, duB p c (lon p r c) = x := ⟨_, rfl⟩
  have GN : Hid (∀ W, Calls Try.prog 69 #[.agg p.cells.toArray, .agg r.cells.toArray, .agg c.cells.toArray] W fun e w' => e = .returned (.tuple #[.agg D.cells.toArray, .bool du]) ∧ Below W.heap.size W w') := Lib.hid (fun W => by rw [← hD, ← hdu]; exact green_any p r c W)
  clear hdu
  have hn0 := Blk.Bks.nil w
  have hn1 := hn0.alloc p.cells.toArray 24
  have hn2 := hn1.alloc (Ru.cells r).toArray 45
  rw [show (w.alloc (.cells p.cells.toArray 24)).heap.size = w.heap.size + 1 by simp] at hn2
  have hn3 := hn2.alloc c.cells.toArray 107
  rw [show ((w.alloc (.cells p.cells.toArray 24)).alloc (.cells (Ru.cells r).toArray 45)).heap.size = w.heap.size + 1 + 1 by simp] at hn3
  have hn4 := hn3.alloc #[I 0, I 0, I 0, I 0, I 0, I 0, I 0, .bool false, .bool false, I 0, I 0, I 0] 45
  rw [show (((w.alloc (.cells p.cells.toArray 24)).alloc (.cells (Ru.cells r).toArray 45)).alloc (.cells c.cells.toArray 107)).heap.size = w.heap.size + 1 + 1 + 1 by simp] at hn4
  clear hn0
  clear hn1
  clear hn2
  clear hn3
  go_enter Try.func50, Try.ntmps50
  go_upto_region 1 with fail
  generalize World.alloc (World.alloc (World.alloc (World.alloc w _) _) _) _ = v at hn4 ⊢
  generalize hg3 : w.heap.size + 1 + 1 + 1 = gz at hn4 ⊢
  generalize hg2 : w.heap.size + 1 + 1 = gc at hn4 ⊢
  generalize hg1 : w.heap.size + 1 = gr at hn4 ⊢
  generalize hg0 : w.heap.size = gp at hn4 ⊢
  clear hg0 hg1 hg2 hg3
  have H0 := Lib.hid hn4
  clear hn4
  have t_rco : v.cell? ⟨gr, 0, none⟩ = some (I r.co) := H0.out.cell 2 0 rfl rfl
  have t_cen : v.cell? ⟨gc, 1, none⟩ = some (.bool c.en) := H0.out.cell 1 1 rfl rfl
  rw [hco] at t_rco
  rw [hen] at t_cen
  go_wp2_with (first | (refine Row.wpList_load_g 24 _ rfl (by first | rfl | (go_simp; done) | fail) ⟨gp, 0, none⟩ rfl p.cells _ (seg H0.out 3 0 rfl _ rfl) Try.underlying24 rfl infoP ?_) | (refine Row.wpList_load_g 45 _ rfl (by first | rfl | (go_simp; done) | fail) ⟨gr, 0, none⟩ rfl r.cells _ (seg H0.out 2 0 rfl _ rfl) Try.underlying45 rfl infoRu ?_) | (refine Row.wpList_load_g 107 _ rfl (by first | rfl | (go_simp; done) | fail) ⟨gc, 0, none⟩ rfl c.cells _ (seg H0.out 1 0 rfl _ rfl) Try.underlying107 rfl infoCu ?_))
  refine (GN.out _).mono ?_
  rintro e v1 ⟨rfl, bc⟩
  have H1 := Lib.hid (H0.out.step bc)
  clear bc
  clear t_rco t_cen
  go_upto_region 9 with (refine Row.wpList_store_new rfl 45 _ _ rfl _ _ D.cells.toArray rfl rfl rfl infoRu rfl (one_ru _) ?_)
  have hn := H1.out.alloc D.cells.toArray 45
  generalize World.alloc v1 _ = v2 at hn ⊢
  generalize v1.heap.size = gn at hn ⊢
  have H2 := Lib.hid hn
  clear hn
  clear H0 H1 GN
  go_wp2_with (first | (refine Row.wpList_load_g 45 _ rfl (by first | rfl | (go_simp; done) | fail) ⟨gn, 0, none⟩ rfl D.cells _ (seg H2.out 0 0 rfl _ rfl) Try.underlying45 rfl infoRu ?_) | (refine wpList_store_row rfl 45 _ _ rfl gz D.cells.toArray rfl rfl 45 _ (H2.out.at 1 rfl) infoRu rfl (one_ru _) ?_))
  have hput := H2.out.put 1 rfl D.cells.toArray
  simp only [List.set_cons_succ, List.set_cons_zero] at hput
  generalize World.setRow v2 gz _ = vz at hput ⊢
  have HG := Lib.hid hput
  clear hput
  go_wp2_with fail
  (try simp only [Exit.inBlock, Exit.then])
  refine bodyPost_ret (v := .agg D.cells.toArray) ?_ rfl ⟨ret_ru HE.out.symm, HG.out.bel⟩
  exact results_cell_row rfl _ _ gz 45 _ (0, 0) _ rfl (HG.out.at 1 rfl) Try.underlying45 rfl infoRu
theorem moreB (n : Int) (w : World) : Calls Try.prog 70 #[.int .i64 n] w fun e w' => e = .returned (.int .i64 (Cnt.more n)) ∧ Below w.heap.size w w' := (Cnt.rmore_any n w).mono fun e w' h => ⟨h.1, h.2 ▸ Below.refl _ _⟩
theorem rstep_yellow (p : Ph) (r : Ru) (c : Cu) (hco : r.co = 2) (w : World) : Calls Try.prog 50 #[.agg p.cells.toArray, .agg r.cells.toArray, .agg c.cells.toArray] w fun e w' => e = .returned (.agg (Ru.cells (stp p r c)).toArray) ∧ Below w.heap.size w w' := by
  obtain ⟨tm, htm⟩ : ∃ x, r.tm = x := ⟨_, rfl⟩
  obtain ⟨ye, hye⟩ : ∃ x, p.yellow = x := ⟨_, rfl⟩
  obtain ⟨re, hre⟩ : ∃ x, p.red = x := ⟨_, rfl⟩
  by_cases h1 : tm < ye
  · obtain ⟨n1, hn1⟩ : ∃ x, Cnt.more r.tm = x := ⟨_, rfl⟩
    have OM : Hid (∀ W, Calls Try.prog 70 #[.int .i64 r.tm] W fun e w' => e = .returned (.int .i64 n1) ∧ Below W.heap.size W w') := Lib.hid (fun W => by rw [← hn1]; exact moreB _ W)
    have HE : Hid (stp p r c = ⟨2, n1, 0, 0, 0, 0, 0, false, false, r.tl, r.tu, r.td⟩) := Lib.hid (by unfold stp yel; rw [if_neg (by rw [hco]; decide), if_pos hco, htm, hye, if_pos h1]; unfold lst; rw [hn1])
    clear hn1
    rw [htm] at OM
    have hn0 := Blk.Bks.nil w
    have hn1 := hn0.alloc p.cells.toArray 24
    have hn2 := hn1.alloc (Ru.cells r).toArray 45
    rw [show (w.alloc (.cells p.cells.toArray 24)).heap.size = w.heap.size + 1 by simp] at hn2
    have hn3 := hn2.alloc c.cells.toArray 107
    rw [show ((w.alloc (.cells p.cells.toArray 24)).alloc (.cells (Ru.cells r).toArray 45)).heap.size = w.heap.size + 1 + 1 by simp] at hn3
    have hn4 := hn3.alloc #[I 0, I 0, I 0, I 0, I 0, I 0, I 0, .bool false, .bool false, I 0, I 0, I 0] 45
    rw [show (((w.alloc (.cells p.cells.toArray 24)).alloc (.cells (Ru.cells r).toArray 45)).alloc (.cells c.cells.toArray 107)).heap.size = w.heap.size + 1 + 1 + 1 by simp] at hn4
    clear hn0
    clear hn1
    clear hn2
    clear hn3
    go_enter Try.func50, Try.ntmps50
    go_upto_region 1 with fail
    generalize World.alloc (World.alloc (World.alloc (World.alloc w _) _) _) _ = v at hn4 ⊢
    generalize hg3 : w.heap.size + 1 + 1 + 1 = gz at hn4 ⊢
    generalize hg2 : w.heap.size + 1 + 1 = gc at hn4 ⊢
    generalize hg1 : w.heap.size + 1 = gr at hn4 ⊢
    generalize hg0 : w.heap.size = gp at hn4 ⊢
    clear hg0 hg1 hg2 hg3
    have H0 := Lib.hid hn4
    clear hn4
    have t_rco : v.cell? ⟨gr, 0, none⟩ = some (I r.co) := H0.out.cell 2 0 rfl rfl
    have t_rtm : v.cell? ⟨gr, 1, none⟩ = some (I r.tm) := H0.out.cell 2 1 rfl rfl
    have t_pyellow : v.cell? ⟨gp, 6, none⟩ = some (I p.yellow) := H0.out.cell 3 6 rfl rfl
    have t_pred : v.cell? ⟨gp, 7, none⟩ = some (I p.red) := H0.out.cell 3 7 rfl rfl
    rw [hco] at t_rco
    rw [htm] at t_rtm
    rw [hye] at t_pyellow
    rw [hre] at t_pred
    go_upto_region 12 with fail
    (try dsimp only [Act.put])
    have q1 : ∀ q : QB.By v.heap.size v, q.world.cell? ⟨gr, 1, none⟩ = some (I r.tm) := fun q => (H0.out.by q).cell 2 1 rfl rfl
    refine QT.region v.heap.size 5 (by kernel_rfl) (by kernel_rfl) ?_
    simp only [List.take_succ_cons, List.take_zero]
    repeat first
      | (refine wpQuiet_load rfl 43 _ rfl ⟨gr, 9, none⟩ rfl [I r.tl, I r.tu, I r.td] _ (fun w' ⟨pw, e⟩ => by rw [e]; exact seg (H0.out.by pw) 2 9 rfl _ rfl) Try.underlying43 rfl infoTn ?_
         dsimp only [Act.put]
         simp only [List.setIfInBounds_toArray, List.set_cons_zero, List.set_cons_succ])
      | (quiet_step (first | (go_at_call 70; with_reducible exact QB.call_of (Nat.le_refl _) (fun b => OM.out _))))
    refine wpQuiet_nil ?_
    intro _ hw'
    obtain ⟨pq, rfl⟩ := hw'
    have HP := Lib.hid (H0.out.by pq)
    generalize pq.world = vp at HP ⊢
    simp only [List.drop_succ_cons, List.drop_zero]
    clear q1
    go_wp2_with (first | (refine wpList_build rfl 45 [(0, .const (I 2)), (1, .tmp 46), (8, .tmp 48)] rfl (Ru.cells ⟨2, n1, 0, 0, 0, 0, 0, false, false, r.tl, r.tu, r.td⟩).toArray _ (by rfl) (built3 2 n1 r.tl r.tu r.td) ?_) | (refine wpList_store_row rfl 45 _ _ rfl gz (Ru.cells ⟨2, n1, 0, 0, 0, 0, 0, false, false, r.tl, r.tu, r.td⟩).toArray rfl rfl 45 _ (HP.out.at 0 rfl) infoRu rfl (one_ru _) ?_))
    have hput := HP.out.put 0 rfl (Ru.cells ⟨2, n1, 0, 0, 0, 0, 0, false, false, r.tl, r.tu, r.td⟩).toArray
    simp only [List.set_cons_succ, List.set_cons_zero] at hput
    generalize World.setRow vp gz _ = vz at hput ⊢
    have HG := Lib.hid hput
    clear hput
    go_wp2_with fail
    (try simp only [Exit.inBlock, Exit.then])
    refine bodyPost_ret (v := .agg (Ru.cells ⟨2, n1, 0, 0, 0, 0, 0, false, false, r.tl, r.tu, r.td⟩).toArray) ?_ rfl ⟨ret_ru HE.out.symm, HG.out.bel⟩
    exact results_cell_row rfl _ _ gz 45 _ (0, 0) _ rfl (HG.out.at 0 rfl) Try.underlying45 rfl infoRu
  by_cases h2 : 0 < re
  · have HE : Hid (stp p r c = ⟨3, 1, 0, 0, 0, 0, 0, false, false, r.tl, r.tu, r.td⟩) := Lib.hid (by unfold stp yel; rw [if_neg (by rw [hco]; decide), if_pos hco, htm, hye, hre, if_neg h1, if_pos h2]; rfl)
    have hn0 := Blk.Bks.nil w
    have hn1 := hn0.alloc p.cells.toArray 24
    have hn2 := hn1.alloc (Ru.cells r).toArray 45
    rw [show (w.alloc (.cells p.cells.toArray 24)).heap.size = w.heap.size + 1 by simp] at hn2
    have hn3 := hn2.alloc c.cells.toArray 107
    rw [show ((w.alloc (.cells p.cells.toArray 24)).alloc (.cells (Ru.cells r).toArray 45)).heap.size = w.heap.size + 1 + 1 by simp] at hn3
    have hn4 := hn3.alloc #[I 0, I 0, I 0, I 0, I 0, I 0, I 0, .bool false, .bool false, I 0, I 0, I 0] 45
    rw [show (((w.alloc (.cells p.cells.toArray 24)).alloc (.cells (Ru.cells r).toArray 45)).alloc (.cells c.cells.toArray 107)).heap.size = w.heap.size + 1 + 1 + 1 by simp] at hn4
    clear hn0
    clear hn1
    clear hn2
    clear hn3
    go_enter Try.func50, Try.ntmps50
    go_upto_region 1 with fail
    generalize World.alloc (World.alloc (World.alloc (World.alloc w _) _) _) _ = v at hn4 ⊢
    generalize hg3 : w.heap.size + 1 + 1 + 1 = gz at hn4 ⊢
    generalize hg2 : w.heap.size + 1 + 1 = gc at hn4 ⊢
    generalize hg1 : w.heap.size + 1 = gr at hn4 ⊢
    generalize hg0 : w.heap.size = gp at hn4 ⊢
    clear hg0 hg1 hg2 hg3
    have H0 := Lib.hid hn4
    clear hn4
    have t_rco : v.cell? ⟨gr, 0, none⟩ = some (I r.co) := H0.out.cell 2 0 rfl rfl
    have t_rtm : v.cell? ⟨gr, 1, none⟩ = some (I r.tm) := H0.out.cell 2 1 rfl rfl
    have t_pyellow : v.cell? ⟨gp, 6, none⟩ = some (I p.yellow) := H0.out.cell 3 6 rfl rfl
    have t_pred : v.cell? ⟨gp, 7, none⟩ = some (I p.red) := H0.out.cell 3 7 rfl rfl
    rw [hco] at t_rco
    rw [htm] at t_rtm
    rw [hye] at t_pyellow
    rw [hre] at t_pred
    go_wp2_with (first | (refine Row.wpList_load_g 43 _ rfl (by first | rfl | (go_simp; done) | fail) ⟨gr, 9, none⟩ rfl [I r.tl, I r.tu, I r.td] _ (seg H0.out 2 9 rfl _ rfl) Try.underlying43 rfl infoTn ?_) | (refine wpList_build rfl 45 [(0, .const (I 3)), (1, .const (I 1)), (8, .tmp 54)] rfl (Ru.cells ⟨3, 1, 0, 0, 0, 0, 0, false, false, r.tl, r.tu, r.td⟩).toArray _ (by rfl) (built3 3 1 r.tl r.tu r.td) ?_) | (refine wpList_store_row rfl 45 _ _ rfl gz (Ru.cells ⟨3, 1, 0, 0, 0, 0, 0, false, false, r.tl, r.tu, r.td⟩).toArray rfl rfl 45 _ (H0.out.at 0 rfl) infoRu rfl (one_ru _) ?_))
    have hput := H0.out.put 0 rfl (Ru.cells ⟨3, 1, 0, 0, 0, 0, 0, false, false, r.tl, r.tu, r.td⟩).toArray
    simp only [List.set_cons_succ, List.set_cons_zero] at hput
    generalize World.setRow v gz _ = vz at hput ⊢
    have HG := Lib.hid hput
    clear hput
    go_wp2_with fail
    (try simp only [Exit.inBlock, Exit.then])
    refine bodyPost_ret (v := .agg (Ru.cells ⟨3, 1, 0, 0, 0, 0, 0, false, false, r.tl, r.tu, r.td⟩).toArray) ?_ rfl ⟨ret_ru HE.out.symm, HG.out.bel⟩
    exact results_cell_row rfl _ _ gz 45 _ (0, 0) _ rfl (HG.out.at 0 rfl) Try.underlying45 rfl infoRu
  · have HE : Hid (stp p r c = ⟨0, 1, 0, 0, 0, 0, 0, false, false, r.tl, r.tu, r.td⟩) := Lib.hid (by unfold stp yel; rw [if_neg (by rw [hco]; decide), if_pos hco, htm, hye, hre, if_neg h1, if_neg h2]; rfl)
    have hn0 := Blk.Bks.nil w
    have hn1 := hn0.alloc p.cells.toArray 24
    have hn2 := hn1.alloc (Ru.cells r).toArray 45
    rw [show (w.alloc (.cells p.cells.toArray 24)).heap.size = w.heap.size + 1 by simp] at hn2
    have hn3 := hn2.alloc c.cells.toArray 107
    rw [show ((w.alloc (.cells p.cells.toArray 24)).alloc (.cells (Ru.cells r).toArray 45)).heap.size = w.heap.size + 1 + 1 by simp] at hn3
    have hn4 := hn3.alloc #[I 0, I 0, I 0, I 0, I 0, I 0, I 0, .bool false, .bool false, I 0, I 0, I 0] 45
    rw [show (((w.alloc (.cells p.cells.toArray 24)).alloc (.cells (Ru.cells r).toArray 45)).alloc (.cells c.cells.toArray 107)).heap.size = w.heap.size + 1 + 1 + 1 by simp] at hn4
    clear hn0
    clear hn1
    clear hn2
    clear hn3
    go_enter Try.func50, Try.ntmps50
    go_upto_region 1 with fail
    generalize World.alloc (World.alloc (World.alloc (World.alloc w _) _) _) _ = v at hn4 ⊢
    generalize hg3 : w.heap.size + 1 + 1 + 1 = gz at hn4 ⊢
    generalize hg2 : w.heap.size + 1 + 1 = gc at hn4 ⊢
    generalize hg1 : w.heap.size + 1 = gr at hn4 ⊢
    generalize hg0 : w.heap.size = gp at hn4 ⊢
    clear hg0 hg1 hg2 hg3
    have H0 := Lib.hid hn4
    clear hn4
    have t_rco : v.cell? ⟨gr, 0, none⟩ = some (I r.co) := H0.out.cell 2 0 rfl rfl
    have t_rtm : v.cell? ⟨gr, 1, none⟩ = some (I r.tm) := H0.out.cell 2 1 rfl rfl
    have t_pyellow : v.cell? ⟨gp, 6, none⟩ = some (I p.yellow) := H0.out.cell 3 6 rfl rfl
    have t_pred : v.cell? ⟨gp, 7, none⟩ = some (I p.red) := H0.out.cell 3 7 rfl rfl
    rw [hco] at t_rco
    rw [htm] at t_rtm
    rw [hye] at t_pyellow
    rw [hre] at t_pred
    go_wp2_with (first | (refine Row.wpList_load_g 43 _ rfl (by first | rfl | (go_simp; done) | fail) ⟨gr, 9, none⟩ rfl [I r.tl, I r.tu, I r.td] _ (seg H0.out 2 9 rfl _ rfl) Try.underlying43 rfl infoTn ?_) | (refine wpList_build rfl 45 [(0, .const (I 0)), (1, .const (I 1)), (8, .tmp 57)] rfl (Ru.cells ⟨0, 1, 0, 0, 0, 0, 0, false, false, r.tl, r.tu, r.td⟩).toArray _ (by rfl) (built3 0 1 r.tl r.tu r.td) ?_) | (refine wpList_store_row rfl 45 _ _ rfl gz (Ru.cells ⟨0, 1, 0, 0, 0, 0, 0, false, false, r.tl, r.tu, r.td⟩).toArray rfl rfl 45 _ (H0.out.at 0 rfl) infoRu rfl (one_ru _) ?_))
    have hput := H0.out.put 0 rfl (Ru.cells ⟨0, 1, 0, 0, 0, 0, 0, false, false, r.tl, r.tu, r.td⟩).toArray
    simp only [List.set_cons_succ, List.set_cons_zero] at hput
    generalize World.setRow v gz _ = vz at hput ⊢
    have HG := Lib.hid hput
    clear hput
    go_wp2_with fail
    (try simp only [Exit.inBlock, Exit.then])
    refine bodyPost_ret (v := .agg (Ru.cells ⟨0, 1, 0, 0, 0, 0, 0, false, false, r.tl, r.tu, r.td⟩).toArray) ?_ rfl ⟨ret_ru HE.out.symm, HG.out.bel⟩
    exact results_cell_row rfl _ _ gz 45 _ (0, 0) _ rfl (HG.out.at 0 rfl) Try.underlying45 rfl infoRu
theorem rstep_clear (p : Ph) (r : Ru) (c : Cu) (hco : r.co = 3) (w : World) : Calls Try.prog 50 #[.agg p.cells.toArray, .agg r.cells.toArray, .agg c.cells.toArray] w fun e w' => e = .returned (.agg (Ru.cells (stp p r c)).toArray) ∧ Below w.heap.size w w' := by
  obtain ⟨tm, htm⟩ : ∃ x, r.tm = x := ⟨_, rfl⟩
  obtain ⟨ye, hye⟩ : ∃ x, p.yellow = x := ⟨_, rfl⟩
  obtain ⟨re, hre⟩ : ∃ x, p.red = x := ⟨_, rfl⟩
  by_cases h1 : tm < re
  · obtain ⟨n1, hn1⟩ : ∃ x, Cnt.more r.tm = x := ⟨_, rfl⟩
    have OM : Hid (∀ W, Calls Try.prog 70 #[.int .i64 r.tm] W fun e w' => e = .returned (.int .i64 n1) ∧ Below W.heap.size W w') := Lib.hid (fun W => by rw [← hn1]; exact moreB _ W)
    have HE : Hid (stp p r c = ⟨3, n1, 0, 0, 0, 0, 0, false, false, r.tl, r.tu, r.td⟩) := Lib.hid (by unfold stp cle; rw [if_neg (by rw [hco]; decide), if_neg (by rw [hco]; decide), if_pos hco, htm, hre, if_pos h1]; unfold lst; rw [hn1])
    clear hn1
    rw [htm] at OM
    have hn0 := Blk.Bks.nil w
    have hn1 := hn0.alloc p.cells.toArray 24
    have hn2 := hn1.alloc (Ru.cells r).toArray 45
    rw [show (w.alloc (.cells p.cells.toArray 24)).heap.size = w.heap.size + 1 by simp] at hn2
    have hn3 := hn2.alloc c.cells.toArray 107
    rw [show ((w.alloc (.cells p.cells.toArray 24)).alloc (.cells (Ru.cells r).toArray 45)).heap.size = w.heap.size + 1 + 1 by simp] at hn3
    have hn4 := hn3.alloc #[I 0, I 0, I 0, I 0, I 0, I 0, I 0, .bool false, .bool false, I 0, I 0, I 0] 45
    rw [show (((w.alloc (.cells p.cells.toArray 24)).alloc (.cells (Ru.cells r).toArray 45)).alloc (.cells c.cells.toArray 107)).heap.size = w.heap.size + 1 + 1 + 1 by simp] at hn4
    clear hn0
    clear hn1
    clear hn2
    clear hn3
    go_enter Try.func50, Try.ntmps50
    go_upto_region 1 with fail
    generalize World.alloc (World.alloc (World.alloc (World.alloc w _) _) _) _ = v at hn4 ⊢
    generalize hg3 : w.heap.size + 1 + 1 + 1 = gz at hn4 ⊢
    generalize hg2 : w.heap.size + 1 + 1 = gc at hn4 ⊢
    generalize hg1 : w.heap.size + 1 = gr at hn4 ⊢
    generalize hg0 : w.heap.size = gp at hn4 ⊢
    clear hg0 hg1 hg2 hg3
    have H0 := Lib.hid hn4
    clear hn4
    have t_rco : v.cell? ⟨gr, 0, none⟩ = some (I r.co) := H0.out.cell 2 0 rfl rfl
    have t_rtm : v.cell? ⟨gr, 1, none⟩ = some (I r.tm) := H0.out.cell 2 1 rfl rfl
    have t_pred : v.cell? ⟨gp, 7, none⟩ = some (I p.red) := H0.out.cell 3 7 rfl rfl
    rw [hco] at t_rco
    rw [htm] at t_rtm
    rw [hre] at t_pred
    go_upto_region 18 with fail
    (try dsimp only [Act.put])
    have q1 : ∀ q : QB.By v.heap.size v, q.world.cell? ⟨gr, 1, none⟩ = some (I r.tm) := fun q => (H0.out.by q).cell 2 1 rfl rfl
    refine QT.region v.heap.size 5 (by kernel_rfl) (by kernel_rfl) ?_
    simp only [List.take_succ_cons, List.take_zero]
    repeat first
      | (refine wpQuiet_load rfl 43 _ rfl ⟨gr, 9, none⟩ rfl [I r.tl, I r.tu, I r.td] _ (fun w' ⟨pw, e⟩ => by rw [e]; exact seg (H0.out.by pw) 2 9 rfl _ rfl) Try.underlying43 rfl infoTn ?_
         dsimp only [Act.put]
         simp only [List.setIfInBounds_toArray, List.set_cons_zero, List.set_cons_succ])
      | (quiet_step (first | (go_at_call 70; with_reducible exact QB.call_of (Nat.le_refl _) (fun b => OM.out _))))
    refine wpQuiet_nil ?_
    intro _ hw'
    obtain ⟨pq, rfl⟩ := hw'
    have HP := Lib.hid (H0.out.by pq)
    generalize pq.world = vp at HP ⊢
    simp only [List.drop_succ_cons, List.drop_zero]
    clear q1
    go_wp2_with (first | (refine wpList_build rfl 45 [(0, .const (I 3)), (1, .tmp 68), (8, .tmp 70)] rfl (Ru.cells ⟨3, n1, 0, 0, 0, 0, 0, false, false, r.tl, r.tu, r.td⟩).toArray _ (by rfl) (built3 3 n1 r.tl r.tu r.td) ?_) | (refine wpList_store_row rfl 45 _ _ rfl gz (Ru.cells ⟨3, n1, 0, 0, 0, 0, 0, false, false, r.tl, r.tu, r.td⟩).toArray rfl rfl 45 _ (HP.out.at 0 rfl) infoRu rfl (one_ru _) ?_))
    have hput := HP.out.put 0 rfl (Ru.cells ⟨3, n1, 0, 0, 0, 0, 0, false, false, r.tl, r.tu, r.td⟩).toArray
    simp only [List.set_cons_succ, List.set_cons_zero] at hput
    generalize World.setRow vp gz _ = vz at hput ⊢
    have HG := Lib.hid hput
    clear hput
    go_wp2_with fail
    (try simp only [Exit.inBlock, Exit.then])
    refine bodyPost_ret (v := .agg (Ru.cells ⟨3, n1, 0, 0, 0, 0, 0, false, false, r.tl, r.tu, r.td⟩).toArray) ?_ rfl ⟨ret_ru HE.out.symm, HG.out.bel⟩
    exact results_cell_row rfl _ _ gz 45 _ (0, 0) _ rfl (HG.out.at 0 rfl) Try.underlying45 rfl infoRu
  · have HE : Hid (stp p r c = ⟨0, 1, 0, 0, 0, 0, 0, false, false, r.tl, r.tu, r.td⟩) := Lib.hid (by unfold stp cle; rw [if_neg (by rw [hco]; decide), if_neg (by rw [hco]; decide), if_pos hco, htm, hre, if_neg h1]; rfl)
    have hn0 := Blk.Bks.nil w
    have hn1 := hn0.alloc p.cells.toArray 24
    have hn2 := hn1.alloc (Ru.cells r).toArray 45
    rw [show (w.alloc (.cells p.cells.toArray 24)).heap.size = w.heap.size + 1 by simp] at hn2
    have hn3 := hn2.alloc c.cells.toArray 107
    rw [show ((w.alloc (.cells p.cells.toArray 24)).alloc (.cells (Ru.cells r).toArray 45)).heap.size = w.heap.size + 1 + 1 by simp] at hn3
    have hn4 := hn3.alloc #[I 0, I 0, I 0, I 0, I 0, I 0, I 0, .bool false, .bool false, I 0, I 0, I 0] 45
    rw [show (((w.alloc (.cells p.cells.toArray 24)).alloc (.cells (Ru.cells r).toArray 45)).alloc (.cells c.cells.toArray 107)).heap.size = w.heap.size + 1 + 1 + 1 by simp] at hn4
    clear hn0
    clear hn1
    clear hn2
    clear hn3
    go_enter Try.func50, Try.ntmps50
    go_upto_region 1 with fail
    generalize World.alloc (World.alloc (World.alloc (World.alloc w _) _) _) _ = v at hn4 ⊢
    generalize hg3 : w.heap.size + 1 + 1 + 1 = gz at hn4 ⊢
    generalize hg2 : w.heap.size + 1 + 1 = gc at hn4 ⊢
    generalize hg1 : w.heap.size + 1 = gr at hn4 ⊢
    generalize hg0 : w.heap.size = gp at hn4 ⊢
    clear hg0 hg1 hg2 hg3
    have H0 := Lib.hid hn4
    clear hn4
    have t_rco : v.cell? ⟨gr, 0, none⟩ = some (I r.co) := H0.out.cell 2 0 rfl rfl
    have t_rtm : v.cell? ⟨gr, 1, none⟩ = some (I r.tm) := H0.out.cell 2 1 rfl rfl
    have t_pred : v.cell? ⟨gp, 7, none⟩ = some (I p.red) := H0.out.cell 3 7 rfl rfl
    rw [hco] at t_rco
    rw [htm] at t_rtm
    rw [hre] at t_pred
    go_wp2_with (first | (refine Row.wpList_load_g 43 _ rfl (by first | rfl | (go_simp; done) | fail) ⟨gr, 9, none⟩ rfl [I r.tl, I r.tu, I r.td] _ (seg H0.out 2 9 rfl _ rfl) Try.underlying43 rfl infoTn ?_) | (refine wpList_build rfl 45 [(0, .const (I 0)), (1, .const (I 1)), (8, .tmp 73)] rfl (Ru.cells ⟨0, 1, 0, 0, 0, 0, 0, false, false, r.tl, r.tu, r.td⟩).toArray _ (by rfl) (built3 0 1 r.tl r.tu r.td) ?_) | (refine wpList_store_row rfl 45 _ _ rfl gz (Ru.cells ⟨0, 1, 0, 0, 0, 0, 0, false, false, r.tl, r.tu, r.td⟩).toArray rfl rfl 45 _ (H0.out.at 0 rfl) infoRu rfl (one_ru _) ?_))
    have hput := H0.out.put 0 rfl (Ru.cells ⟨0, 1, 0, 0, 0, 0, 0, false, false, r.tl, r.tu, r.td⟩).toArray
    simp only [List.set_cons_succ, List.set_cons_zero] at hput
    generalize World.setRow v gz _ = vz at hput ⊢
    have HG := Lib.hid hput
    clear hput
    go_wp2_with fail
    (try simp only [Exit.inBlock, Exit.then])
    refine bodyPost_ret (v := .agg (Ru.cells ⟨0, 1, 0, 0, 0, 0, 0, false, false, r.tl, r.tu, r.td⟩).toArray) ?_ rfl ⟨ret_ru HE.out.symm, HG.out.bel⟩
    exact results_cell_row rfl _ _ gz 45 _ (0, 0) _ rfl (HG.out.at 0 rfl) Try.underlying45 rfl infoRu
theorem rstep_red (p : Ph) (r : Ru) (c : Cu) (k : Int) (hco : r.co = k) (h1 : ¬ k = 1) (h2 : ¬ k = 2) (h3 : ¬ k = 3) (w : World) : Calls Try.prog 50 #[.agg p.cells.toArray, .agg r.cells.toArray, .agg c.cells.toArray] w fun e w' => e = .returned (.agg (Ru.cells (stp p r c)).toArray) ∧ Below w.heap.size w w' := by
  obtain ⟨st, hst⟩ : ∃ x, c.st = x := ⟨_, rfl⟩
  cases st
  · obtain ⟨n1, hn1⟩ : ∃ x, Cnt.more r.tm = x := ⟨_, rfl⟩
    have OM : Hid (∀ W, Calls Try.prog 70 #[.int .i64 r.tm] W fun e w' => e = .returned (.int .i64 n1) ∧ Below W.heap.size W w') := Lib.hid (fun W => by rw [← hn1]; exact moreB _ W)
    have HE : Hid (stp p r c = ⟨0, n1, 0, 0, 0, 0, 0, false, false, r.tl, r.tu, r.td⟩) := Lib.hid (by unfold stp rdR; rw [if_neg (by rw [hco]; exact h1), if_neg (by rw [hco]; exact h2), if_neg (by rw [hco]; exact h3), hst, if_neg (by simp)]; unfold lst; rw [hn1])
    clear hn1
    have hn0 := Blk.Bks.nil w
    have hn1 := hn0.alloc p.cells.toArray 24
    have hn2 := hn1.alloc (Ru.cells r).toArray 45
    rw [show (w.alloc (.cells p.cells.toArray 24)).heap.size = w.heap.size + 1 by simp] at hn2
    have hn3 := hn2.alloc c.cells.toArray 107
    rw [show ((w.alloc (.cells p.cells.toArray 24)).alloc (.cells (Ru.cells r).toArray 45)).heap.size = w.heap.size + 1 + 1 by simp] at hn3
    have hn4 := hn3.alloc #[I 0, I 0, I 0, I 0, I 0, I 0, I 0, .bool false, .bool false, I 0, I 0, I 0] 45
    rw [show (((w.alloc (.cells p.cells.toArray 24)).alloc (.cells (Ru.cells r).toArray 45)).alloc (.cells c.cells.toArray 107)).heap.size = w.heap.size + 1 + 1 + 1 by simp] at hn4
    clear hn0
    clear hn1
    clear hn2
    clear hn3
    go_enter Try.func50, Try.ntmps50
    go_upto_region 1 with fail
    generalize World.alloc (World.alloc (World.alloc (World.alloc w _) _) _) _ = v at hn4 ⊢
    generalize hg3 : w.heap.size + 1 + 1 + 1 = gz at hn4 ⊢
    generalize hg2 : w.heap.size + 1 + 1 = gc at hn4 ⊢
    generalize hg1 : w.heap.size + 1 = gr at hn4 ⊢
    generalize hg0 : w.heap.size = gp at hn4 ⊢
    clear hg0 hg1 hg2 hg3
    have H0 := Lib.hid hn4
    clear hn4
    have t_rco : v.cell? ⟨gr, 0, none⟩ = some (I r.co) := H0.out.cell 2 0 rfl rfl
    have t_cst : v.cell? ⟨gc, 0, none⟩ = some (.bool c.st) := H0.out.cell 1 0 rfl rfl
    rw [hco] at t_rco
    rw [hst] at t_cst
    have z1 : (k == 1) = false := by rw [beq_eq_false_iff_ne]; exact h1
    have z2 : (k == 2) = false := by rw [beq_eq_false_iff_ne]; exact h2
    have z3 : (k == 3) = false := by rw [beq_eq_false_iff_ne]; exact h3
    go_upto_region 22 with fail
    (try dsimp only [Act.put])
    have q1 : ∀ q : QB.By v.heap.size v, q.world.cell? ⟨gr, 1, none⟩ = some (I r.tm) := fun q => (H0.out.by q).cell 2 1 rfl rfl
    refine QT.region v.heap.size 5 (by kernel_rfl) (by kernel_rfl) ?_
    simp only [List.take_succ_cons, List.take_zero]
    repeat first
      | (refine wpQuiet_load rfl 43 _ rfl ⟨gr, 9, none⟩ rfl [I r.tl, I r.tu, I r.td] _ (fun w' ⟨pw, e⟩ => by rw [e]; exact seg (H0.out.by pw) 2 9 rfl _ rfl) Try.underlying43 rfl infoTn ?_
         dsimp only [Act.put]
         simp only [List.setIfInBounds_toArray, List.set_cons_zero, List.set_cons_succ])
      | (quiet_step (first | (go_at_call 70; with_reducible exact QB.call_of (Nat.le_refl _) (fun b => OM.out _))))
    refine wpQuiet_nil ?_
    intro _ hw'
    obtain ⟨pq, rfl⟩ := hw'
    have HP := Lib.hid (H0.out.by pq)
    generalize pq.world = vp at HP ⊢
    simp only [List.drop_succ_cons, List.drop_zero]
    clear q1
    go_wp2_with (first | (refine wpList_build rfl 45 [(0, .const (I 0)), (1, .tmp 89), (8, .tmp 91)] rfl (Ru.cells ⟨0, n1, 0, 0, 0, 0, 0, false, false, r.tl, r.tu, r.td⟩).toArray _ (by rfl) (built3 0 n1 r.tl r.tu r.td) ?_) | (refine wpList_store_row rfl 45 _ _ rfl gz (Ru.cells ⟨0, n1, 0, 0, 0, 0, 0, false, false, r.tl, r.tu, r.td⟩).toArray rfl rfl 45 _ (HP.out.at 0 rfl) infoRu rfl (one_ru _) ?_))
    have hput := HP.out.put 0 rfl (Ru.cells ⟨0, n1, 0, 0, 0, 0, 0, false, false, r.tl, r.tu, r.td⟩).toArray
    simp only [List.set_cons_succ, List.set_cons_zero] at hput
    generalize World.setRow vp gz _ = vz at hput ⊢
    have HG := Lib.hid hput
    clear hput
    go_wp2_with fail
    (try simp only [Exit.inBlock, Exit.then])
    refine bodyPost_ret (v := .agg (Ru.cells ⟨0, n1, 0, 0, 0, 0, 0, false, false, r.tl, r.tu, r.td⟩).toArray) ?_ rfl ⟨ret_ru HE.out.symm, HG.out.bel⟩
    exact results_cell_row rfl _ _ gz 45 _ (0, 0) _ rfl (HG.out.at 0 rfl) Try.underlying45 rfl infoRu
  · obtain ⟨⟨a, b⟩, hf⟩ : ∃ x, ft p.walk p.blinks 0 0 c.pu = x := ⟨_, rfl⟩
    have HE : Hid (stp p r c = ⟨1, 1, a, b, p.gap, 0, 0, false, false, r.tl, r.tu, r.td⟩) := Lib.hid (by unfold stp rdR; rw [if_neg (by rw [hco]; exact h1), if_neg (by rw [hco]; exact h2), if_neg (by rw [hco]; exact h3), hst, if_pos rfl, hf])
    have SE : Hid (∀ W, Calls Try.prog 71 #[.agg p.cells.toArray, .agg #[I 0, I 0], .bool c.pu] W fun e w' => e = .returned (.agg #[I a, I b]) ∧ Below W.heap.size W w') := Lib.hid (fun W => Ped.foot_is hf W)
    clear hf
    have hn0 := Blk.Bks.nil w
    have hn1 := hn0.alloc p.cells.toArray 24
    have hn2 := hn1.alloc (Ru.cells r).toArray 45
    rw [show (w.alloc (.cells p.cells.toArray 24)).heap.size = w.heap.size + 1 by simp] at hn2
    have hn3 := hn2.alloc c.cells.toArray 107
    rw [show ((w.alloc (.cells p.cells.toArray 24)).alloc (.cells (Ru.cells r).toArray 45)).heap.size = w.heap.size + 1 + 1 by simp] at hn3
    have hn4 := hn3.alloc #[I 0, I 0, I 0, I 0, I 0, I 0, I 0, .bool false, .bool false, I 0, I 0, I 0] 45
    rw [show (((w.alloc (.cells p.cells.toArray 24)).alloc (.cells (Ru.cells r).toArray 45)).alloc (.cells c.cells.toArray 107)).heap.size = w.heap.size + 1 + 1 + 1 by simp] at hn4
    clear hn0
    clear hn1
    clear hn2
    clear hn3
    go_enter Try.func50, Try.ntmps50
    go_upto_region 1 with fail
    generalize World.alloc (World.alloc (World.alloc (World.alloc w _) _) _) _ = v at hn4 ⊢
    generalize hg3 : w.heap.size + 1 + 1 + 1 = gz at hn4 ⊢
    generalize hg2 : w.heap.size + 1 + 1 = gc at hn4 ⊢
    generalize hg1 : w.heap.size + 1 = gr at hn4 ⊢
    generalize hg0 : w.heap.size = gp at hn4 ⊢
    clear hg0 hg1 hg2 hg3
    have H0 := Lib.hid hn4
    clear hn4
    have t_rco : v.cell? ⟨gr, 0, none⟩ = some (I r.co) := H0.out.cell 2 0 rfl rfl
    have t_cst : v.cell? ⟨gc, 0, none⟩ = some (.bool c.st) := H0.out.cell 1 0 rfl rfl
    rw [hco] at t_rco
    rw [hst] at t_cst
    have z1 : (k == 1) = false := by rw [beq_eq_false_iff_ne]; exact h1
    have z2 : (k == 2) = false := by rw [beq_eq_false_iff_ne]; exact h2
    have z3 : (k == 3) = false := by rw [beq_eq_false_iff_ne]; exact h3
    go_upto_region 21 with fail
    (try dsimp only [Act.put])
    have q3 : ∀ q : QB.By v.heap.size v, q.world.cell? ⟨gc, 3, none⟩ = some (.bool c.pu) := fun q => (H0.out.by q).cell 1 3 rfl rfl
    have q2 : ∀ q : QB.By v.heap.size v, q.world.cell? ⟨gp, 2, none⟩ = some (I p.gap) := fun q => (H0.out.by q).cell 3 2 rfl rfl
    refine QT.region v.heap.size 9 (by kernel_rfl) (by kernel_rfl) ?_
    simp only [List.take_succ_cons, List.take_zero]
    repeat first
      | (refine wpQuiet_load rfl 24 _ rfl ⟨gp, 0, none⟩ rfl p.cells _ (fun w' ⟨pw, e⟩ => by rw [e]; exact seg (H0.out.by pw) 3 0 rfl _ rfl) Try.underlying24 rfl infoP ?_
         dsimp only [Act.put]
         simp only [List.setIfInBounds_toArray, List.set_cons_zero, List.set_cons_succ])
      | (refine wpQuiet_load rfl 43 _ rfl ⟨gr, 9, none⟩ rfl [I r.tl, I r.tu, I r.td] _ (fun w' ⟨pw, e⟩ => by rw [e]; exact seg (H0.out.by pw) 2 9 rfl _ rfl) Try.underlying43 rfl infoTn ?_
         dsimp only [Act.put]
         simp only [List.setIfInBounds_toArray, List.set_cons_zero, List.set_cons_succ])
      | (refine wpQuiet_build rfl 41 [] rfl #[I 0, I 0] [] rfl built0 ?_
         dsimp only [Act.put]
         simp only [List.setIfInBounds_toArray, List.set_cons_zero, List.set_cons_succ])
      | (quiet_step (first | (go_at_call 71; with_reducible exact QB.call_of (Nat.le_refl _) (fun b => SE.out _))))
    refine wpQuiet_nil ?_
    intro _ hw'
    obtain ⟨pq, rfl⟩ := hw'
    have HP := Lib.hid (H0.out.by pq)
    generalize pq.world = vp at HP ⊢
    simp only [List.drop_succ_cons, List.drop_zero]
    clear q3 q2
    go_wp2_with (first | (refine wpList_build rfl 45 [(0, .const (I 1)), (1, .const (I 1)), (2, .tmp 81), (3, .tmp 83), (8, .tmp 85)] rfl (Ru.cells ⟨1, 1, a, b, p.gap, 0, 0, false, false, r.tl, r.tu, r.td⟩).toArray _ (by rfl) (built5 1 1 a b p.gap r.tl r.tu r.td) ?_) | (refine wpList_store_row rfl 45 _ _ rfl gz (Ru.cells ⟨1, 1, a, b, p.gap, 0, 0, false, false, r.tl, r.tu, r.td⟩).toArray rfl rfl 45 _ (HP.out.at 0 rfl) infoRu rfl (one_ru _) ?_))
    have hput := HP.out.put 0 rfl (Ru.cells ⟨1, 1, a, b, p.gap, 0, 0, false, false, r.tl, r.tu, r.td⟩).toArray
    simp only [List.set_cons_succ, List.set_cons_zero] at hput
    generalize World.setRow vp gz _ = vz at hput ⊢
    have HG := Lib.hid hput
    clear hput
    go_wp2_with fail
    (try simp only [Exit.inBlock, Exit.then])
    refine bodyPost_ret (v := .agg (Ru.cells ⟨1, 1, a, b, p.gap, 0, 0, false, false, r.tl, r.tu, r.td⟩).toArray) ?_ rfl ⟨ret_ru HE.out.symm, HG.out.bel⟩
    exact results_cell_row rfl _ _ gz 45 _ (0, 0) _ rfl (HG.out.at 0 rfl) Try.underlying45 rfl infoRu
theorem rstep_any (p : Ph) (r : Ru) (c : Cu) (w : World) : Calls Try.prog 50 #[.agg p.cells.toArray, .agg r.cells.toArray, .agg c.cells.toArray] w fun e w' => e = .returned (.agg (Ru.cells (stp p r c)).toArray) ∧ Below w.heap.size w w' := by
  by_cases h1 : r.co = 1
  · cases he : c.en with
    | true => exact rstep_end p r c h1 he w
    | false => exact rstep_stay p r c h1 he w
  by_cases h2 : r.co = 2
  · exact rstep_yellow p r c h2 w
  by_cases h3 : r.co = 3
  · exact rstep_clear p r c h3 w
  exact rstep_red p r c r.co rfl h1 h2 h3 w
theorem rbegin_any (p : Ph) (w : World) : Calls Try.prog 48 #[.agg p.cells.toArray] w fun e w' => e = .returned (.agg (Ru.cells (bgn p)).toArray) ∧ Below w.heap.size w w' := by
  have hn0 := Blk.Bks.nil w
  have hn1 := hn0.alloc p.cells.toArray 24
  have hn2 := hn1.alloc #[I 0, I 0, I 0, I 0, I 0, I 0, I 0, .bool false, .bool false, I 0, I 0, I 0] 45
  rw [show (w.alloc (.cells p.cells.toArray 24)).heap.size = w.heap.size + 1 by simp] at hn2
  clear hn0
  clear hn1
  go_enter Try.func48, Try.ntmps48
  go_upto_region 1 with fail
  generalize World.alloc (World.alloc w _) _ = v at hn2 ⊢
  generalize hg1 : w.heap.size + 1 = gz at hn2 ⊢
  generalize hg0 : w.heap.size = gp at hn2 ⊢
  clear hg0 hg1
  have H0 := Lib.hid hn2
  clear hn2
  have t_pmax : v.cell? ⟨gp, 3, none⟩ = some (I p.max) := H0.out.cell 1 3 rfl rfl
  go_wp2_with (first | (refine wpList_build rfl 43 [(0, .tmp 4)] rfl #[I p.max, I 0, I 0] _ (by rfl) (builtT p.max) ?_) | (refine wpList_build rfl 45 [(0, .const (I 0)), (1, .const (I 9999)), (8, .tmp 5)] rfl (Ru.cells (bgn p)).toArray _ (by rfl) (built3 0 9999 p.max 0 0) ?_) | (refine wpList_store_row rfl 45 _ _ rfl gz (Ru.cells (bgn p)).toArray rfl rfl 45 _ (H0.out.at 0 rfl) infoRu rfl (one_ru _) ?_))
  have hput := H0.out.put 0 rfl (Ru.cells (bgn p)).toArray
  simp only [List.set_cons_succ, List.set_cons_zero] at hput
  generalize World.setRow v gz _ = vz at hput ⊢
  have HG := Lib.hid hput
  clear hput
  go_wp2_with fail
  (try simp only [Exit.inBlock, Exit.then])
  refine bodyPost_ret (v := .agg (Ru.cells (bgn p)).toArray) ?_ rfl ⟨rfl, HG.out.bel⟩
  exact results_cell_row rfl _ _ gz 45 _ (0, 0) _ rfl (HG.out.at 0 rfl) Try.underlying45 rfl infoRu
end Ru
namespace Rg
open Go Go.ChangeShapes Go.WideShapes Go.ChangeAt Go.RowKit
open Tab Flat TabArg QL Ru PlanM
open ChkM (cfAt)
open Clear (phAt)
open PlaceM (where_ spots Spt)
open May (infoP)
theorem take_len {α : Type} {a b : List α} (n : Nat) : (a ++ b).take (a.length + n) = a ++ b.take n := by
  induction a with
  | nil => simp
  | cons x a ih => rw [List.cons_append, List.length_cons, Nat.add_right_comm, List.take_succ_cons, ih, List.cons_append]
theorem drop_len {α : Type} {a b : List α} {n : Nat} : (a ++ b).drop (a.length + n) = b.drop n := by
  rw [← List.drop_drop, List.drop_left]
theorem runs_set : ∀ (l : List Ru) (q : Nat) (u : Ru), q < l.length → runsC (l.set q u) = (runsC l).take (q * 12) ++ u.cells ++ (runsC l).drop (q * 12 + 12)
  | [], q, u, h => by simp at h
  | x :: l, 0, u, h => by
    rw [show (x :: l).set 0 u = u :: l from rfl, show runsC (u :: l) = u.cells ++ runsC l from rfl, show runsC (x :: l) = x.cells ++ runsC l from rfl, Nat.zero_mul, Nat.zero_add, List.drop_left' (show x.cells.length = 12 from rfl)]
    rfl
  | x :: l, q + 1, u, h => by
    have hx : x.cells.length = 12 := rfl
    rw [show (x :: l).set (q + 1) u = x :: l.set q u from rfl, show runsC (x :: l.set q u) = x.cells ++ runsC (l.set q u) from rfl, show runsC (x :: l) = x.cells ++ runsC l from rfl, runs_set l q u (by simpa using h)]
    rw [show (q + 1) * 12 = x.cells.length + q * 12 by rw [hx]; omega, take_len, Nat.add_assoc, drop_len]
    simp [List.append_assoc]
/-- the runs as they begin -/
def begunS (T : Tab) : List Ru := GenT.upd (fun p => bgn (phAt T (p : Nat))) zRu 8
theorem begun_len (T : Tab) : (begunS T).length = 8 := GenT.upd_len _ _ _
theorem begun_at (T : Tab) {p : Nat} (hp : p < 8) : ruAt (begunS T) p = bgn (phAt T p) := by
  unfold ruAt begunS
  rw [Int.toNat_natCast, List.getD_eq_getElem?_getD, GenT.upd_at _ _ _ _ hp, if_pos hp]
  rfl
theorem begun_any (T : Tab) (hd : Hd) (w : World) (ht : IsTab w hd T) : Calls Try.prog 19 #[.agg (T.cells hd).toArray] w fun e w' => e = .returned (.agg (runsC (begunS T)).toArray) ∧ Below w.heap.size w w' := by
  have h1 : (T.cells hd).length = 131 := by have := (cells_ok ht).size; rwa [List.size_toArray] at this
  have hz := (zero_of_info (show (Try.prog.info? 46).map (fun i => (i.zero, i.size)) = some (some (.agg (runsC (GenT.upd (fun p => bgn (phAt T (p : Nat))) zRu 0)).toArray), 96) by kernel_rfl)).1
  have LPH : Hid (∀ p : Nat, p < 8 → ∀ W, Lies W ⟨w.heap.size, 0, none⟩ (T.cells hd) → Lies W ⟨w.heap.size, p * 13, none⟩ (phAt T p).cells) := Lib.hid (fun p hp W hl j v hj => by
    have := hl (p * 13 + j) v (GenQ.cells_at ht hp hj)
    rw [Addr.add_mid, Nat.zero_add] at this
    rwa [Addr.add_mid])
  have BN : Hid (∀ q, q < 8 → ((runsC (GenT.upd (fun p => bgn (phAt T (p : Nat))) zRu q)).toArray.toList.take (q * 12) ++ (bgn (phAt T q)).cells.toArray.toList ++ (runsC (GenT.upd (fun p => bgn (phAt T (p : Nat))) zRu q)).toArray.toList.drop (q * 12 + (bgn (phAt T q)).cells.toArray.size)).toArray = (runsC (GenT.upd (fun p => bgn (phAt T (p : Nat))) zRu (q + 1))).toArray) := Lib.hid (fun q hq => by
    rw [← GenT.upd_succ, List.toList_toArray, List.toList_toArray, runs_set _ _ _ (by rw [GenT.upd_len]; exact hq)]
    rfl)
  have LN : Hid (∀ q, (runsC (GenT.upd (fun p => bgn (phAt T (p : Nat))) zRu q)).toArray.size = 96) := Lib.hid (fun q => by rw [List.size_toArray, runs_len, GenT.upd_len])
  have HR : Hid (begunS T = GenT.upd (fun p => bgn (phAt T (p : Nat))) zRu 8) := Lib.hid rfl
  generalize begunS T = res at HR ⊢
  generalize hbq : (fun q => GenT.upd (fun p => bgn (phAt T (p : Nat))) zRu q) = bq
  have BQ : ∀ q, GenT.upd (fun p => bgn (phAt T (p : Nat))) zRu q = bq q := fun q => by rw [← hbq]
  rw [BQ] at hz
  simp only [BQ] at BN LN HR
  generalize T.cells hd = tc at *
  clear ht hbq BQ
  have hn0 := Blk.Bks.nil w
  have hn1 := hn0.alloc tc.toArray 32
  have hn2 := hn1.alloc (runsC (bq 0)).toArray 46
  rw [show (w.alloc (.cells tc.toArray 32)).heap.size = w.heap.size + 1 by simp] at hn2
  clear hn0
  clear hn1
  go_enter Try.func19, Try.ntmps19
  go_upto_region 1 with fail
  generalize World.alloc (World.alloc w _) _ = v at hn2 ⊢
  generalize hg1 : w.heap.size + 1 = gz at hn2 ⊢
  generalize hg0 : w.heap.size = gt at hn2 LPH ⊢
  clear hg0 hg1
  have H0 := Lib.hid hn2
  clear hn2
  go_upto_region 2 with fail
  have hn := H0.out.alloc (runsC (bq 0)).toArray 46
  generalize World.alloc v _ = v2 at hn ⊢
  generalize v.heap.size = gr at hn ⊢
  have H2 := Lib.hid hn
  clear hn H0 hz
  go_wp2_with fail
  go_loopw [4] (fun i wr => ∃ q : Nat, q ≤ 8 ∧ i = .int .i64 q ∧ Blk.Bks w [(gr, (runsC (bq q)).toArray, 46), (gz, (runsC (bq 0)).toArray, 46), (gt, tc.toArray, 32)] wr) (fun i _ => 8 - (intOf i).toNat)
  case atStart => exact ⟨0, by omega, rfl, H2.out⟩
  case round =>
    obtain ⟨q, hq, rfl, hB⟩ := hrel
    have HB := Lib.hid hB
    clear hB H2
    by_cases hlt : q < 8
    · have LX := Lib.hid (LPH.out q hlt wr (by have := HB.out.lies 2 rfl; simpa using this))
      have BNq := Lib.hid (BN.out q hlt)
      have hq8 : (q : Int) < 8 := by omega
      generalize phAt T q = p at LX BNq
      go_wp2_with (refine Row.wpList_load_g 24 _ rfl (by first | rfl | (go_simp; done) | fail) ⟨gt, q * 13, none⟩ rfl p.cells _ LX.out Try.underlying24 rfl infoP ?_)
      refine (Ru.rbegin_any p _).mono ?_
      rintro e w3 ⟨rfl, b3⟩
      have H3 := Lib.hid (HB.out.step b3)
      clear b3 HB LX
      go_wp2_with (refine Ru.store_mid rfl 45 _ _ rfl gr (q * 12) (bgn p).cells.toArray rfl rfl 46 _ _ H3.out 0 rfl infoRu (by rw [LN.out]; show q * 12 + 12 ≤ 96; omega) (one_ru _) BNq.out ?_)
      have hput := H3.out.put 0 rfl (runsC (bq (q + 1))).toArray
      simp only [List.set_cons_succ, List.set_cons_zero] at hput
      generalize World.setRow w3 gr _ = w4 at hput ⊢
      have H4 := Lib.hid hput
      clear hput H3
      (try go_wp2)
      go_roundw
      case rel => exact ⟨q + 1, by omega, by go_num, H4.out⟩
      case measure => simp [intOf]; omega
    · obtain rfl : q = 8 := by omega
      have IR : (Try.prog.info? 46).map (·.size) = some (runsC (bq 8)).length := by have := LN.out 8; rw [List.size_toArray] at this; rw [this]; exact infoRs
      have IR2 : (Try.prog.info? 46).map (·.size) = some (runsC (bq 8)).toArray.size := by rw [LN.out]; exact infoRs
      go_wp2_with (first | (refine Row.wpList_load_g 46 _ rfl (by first | rfl | (go_simp; done) | fail) ⟨gr, 0, none⟩ rfl (runsC (bq 8)) _ (by have := HB.out.lies 0 rfl; simpa using this) Try.underlying46 rfl IR ?_) | (refine wpList_store_row rfl 46 _ _ rfl gz (runsC (bq 8)).toArray rfl rfl 46 _ (HB.out.at 1 rfl) IR2 (by rw [LN.out, LN.out]) (one_runs _) ?_))
      have hput := HB.out.put 1 rfl (runsC (bq 8)).toArray
      simp only [List.set_cons_succ, List.set_cons_zero] at hput
      generalize World.setRow wr gz _ = w4 at hput ⊢
      have H4 := Lib.hid hput
      clear hput HB
      go_wp2_with fail
      (try simp only [Exit.inBlock, Exit.then])
      refine bodyPost_ret (v := .agg (runsC (bq 8)).toArray) ?_ rfl ⟨by rw [HR.out], H4.out.bel⟩
      exact results_cell_row rfl _ _ gz 46 _ (0, 0) _ rfl (H4.out.at 1 rfl) Try.underlying46 rfl IR2
end Rg
namespace Rg
open Go Go.ChangeShapes Go.WideShapes Go.ChangeAt Go.RowKit
open Tab Flat TabArg QL Ru PlanM
open ChkM (cfAt)
open Clear (phAt)
open PlaceM (where_ spots Spt)
open May (infoP)
theorem ends_any (T : Tab) (hd : Hd) (r : Rg) (rs : List Ru) (want gr bu : Int) (l : Ln) (w : World) (ht : IsTab w hd T) (h8 : rs.length = 8) : Calls Try.prog 44 #[.agg (kC (T.cells hd) r (runsC rs) want gr bu).toArray, .agg l.cells.toArray] w fun e w' => e = .returned (.bool (endS T rs want gr l)) ∧ Below w.heap.size w w' := by
  have h1 : (T.cells hd).length = 131 := by have := (cells_ok ht).size; rwa [List.size_toArray] at this
  have h2 : (runsC rs).length = 96 := by rw [runs_len, h8]
  have RE : Hid (∀ p : Nat, p < 8 → ∀ W, Below w.heap.size w W → Calls Try.prog 65 #[.agg (kC (T.cells hd) r (runsC rs) want gr bu).toArray, .int .i64 p] W fun e w' => e = .returned (.bool (resS T rs want p)) ∧ Below W.heap.size W w') := Lib.hid (fun p hp W hb => rests_any T hd r rs want gr bu W (ht.below hb) h8 p hp)
  have LRU : Hid (∀ p : Nat, p < 8 → ∀ u gk, KB u gk (T.cells hd) r (runsC rs) want gr bu → u.cell? ⟨gk, 135 + p * 12 + 7, none⟩ = some (.bool (ruAt rs p).dn)) := Lib.hid (fun p hp u gk k => k.run h8 hp rfl)
  have HR : Hid (endS T rs want gr l = (SetM.has gr l.n && (((ruAt rs l.n).dn && decide (0 ≤ l.x)) || resS T rs want l.n))) := Lib.hid rfl
  have HN : SetM.has gr l.n = true → 0 ≤ l.n ∧ l.n < 8 := has_range
  obtain ⟨hh, hhh⟩ : ∃ b, SetM.has gr l.n = b := ⟨_, rfl⟩
  have HA : Hid (∀ W, Calls Try.prog 59 #[.int .i64 gr, .int .i64 l.n] W fun e w' => e = .returned (.bool hh) ∧ W = w') := Lib.hid (fun W => by rw [← hhh]; exact Set.has_any _ _ W)
  rw [hhh] at HR HN
  clear hhh
  generalize endS T rs want gr l = res at HR ⊢
  cases hh
  · clear RE LRU HN
    generalize T.cells hd = tc at *
    generalize runsC rs = rc at *
    clear ht h8
    have L1 := Lib.hid h1
    have L2 := Lib.hid h2
    have hn0 := Blk.Bks.nil w
    have hn1 := hn0.alloc (kC tc r rc want gr bu).toArray 96
    have hn2 := hn1.alloc l.cells.toArray 99
    rw [show (w.alloc (.cells (kC tc r rc want gr bu).toArray 96)).heap.size = w.heap.size + 1 by simp] at hn2
    clear hn0
    clear hn1
    go_enter Try.func44, Try.ntmps44
    go_upto_region 1 with fail
    generalize World.alloc (World.alloc w _) _ = v at hn2 ⊢
    generalize hg1 : w.heap.size + 1 = gl at hn2 ⊢
    generalize hg0 : w.heap.size = gk at hn2 ⊢
    clear hg0 hg1
    have H0 := Lib.hid hn2
    clear hn2
    have KF : Hid (∀ W, Below v.heap.size v W → KB W gk tc r rc want gr bu) := Lib.hid (fun W hb => kb (H0.out.step hb) 1 L1.out L2.out rfl)
    clear h1 h2
    have kb0 := Lib.hid (KF.out v (Below.refl _ _))
    have kg := kb0.out.gr
    have l0 : v.cell? ⟨gl, 0, none⟩ = some (I l.n) := H0.out.cell 0 0 rfl rfl
    have l1 : v.cell? ⟨gl, 1, none⟩ = some (I l.x) := H0.out.cell 0 1 rfl rfl
    have HS : Hid (res = false) := Lib.hid (by rw [HR.out]; rfl)
    clear HR
    go_wp2_with (go_at_call 59; with_reducible refine (HA.out _).mono ?_; rintro e w' ⟨rfl, rfl⟩)
    go_ret
    exact ⟨ret_bool HS.out.symm, H0.out.bel⟩
  obtain ⟨p, hp⟩ := Int.eq_ofNat_of_zero_le (HN rfl).1
  have hp8 : p < 8 := by have := (HN rfl).2; omega
  have hp9 : (p : Int) < 8 := by omega
  clear HN
  obtain ⟨n, x, t⟩ := l
  dsimp only at hp HR HA ⊢
  subst hp
  have RP := Lib.hid (RE.out p hp8)
  have LP := Lib.hid (LRU.out p hp8)
  generalize hdn : (ruAt rs p).dn = dn at *
  generalize resS T rs want p = rr at *
  clear RE LRU hdn
  have IK : (Try.prog.info? 96).map (·.size) = some (kC (T.cells hd) r (runsC rs) want gr bu).length := by rw [kC_len h1 h2]; exact infoK
  generalize T.cells hd = tc at *
  generalize runsC rs = rc at *
  clear ht h8
  by_cases hx : dn = true ∧ 0 ≤ x
  · obtain ⟨rfl, hx⟩ := hx
    have L1 := Lib.hid h1
    have L2 := Lib.hid h2
    have hn0 := Blk.Bks.nil w
    have hn1 := hn0.alloc (kC tc r rc want gr bu).toArray 96
    have hn2 := hn1.alloc (Ln.cells ⟨p, x, t⟩).toArray 99
    rw [show (w.alloc (.cells (kC tc r rc want gr bu).toArray 96)).heap.size = w.heap.size + 1 by simp] at hn2
    clear hn0
    clear hn1
    go_enter Try.func44, Try.ntmps44
    go_upto_region 1 with fail
    generalize World.alloc (World.alloc w _) _ = v at hn2 ⊢
    generalize hg1 : w.heap.size + 1 = gl at hn2 ⊢
    generalize hg0 : w.heap.size = gk at hn2 ⊢
    clear hg0 hg1
    have H0 := Lib.hid hn2
    clear hn2
    have KF : Hid (∀ W, Below v.heap.size v W → KB W gk tc r rc want gr bu) := Lib.hid (fun W hb => kb (H0.out.step hb) 1 L1.out L2.out rfl)
    clear h1 h2
    have kb0 := Lib.hid (KF.out v (Below.refl _ _))
    have kg := kb0.out.gr
    have l0 : v.cell? ⟨gl, 0, none⟩ = some (I (p : Int)) := H0.out.cell 0 0 rfl rfl
    have l1 : v.cell? ⟨gl, 1, none⟩ = some (I x) := H0.out.cell 0 1 rfl rfl
    have kd := LP.out v gk kb0.out
    have HS : Hid (res = true) := Lib.hid (by rw [HR.out]; rw [decide_eq_true hx]; rfl)
    clear HR
    go_wp2_with (go_at_call 59; with_reducible refine (HA.out _).mono ?_; rintro e w' ⟨rfl, rfl⟩)
    go_ret
    exact ⟨ret_bool HS.out.symm, H0.out.bel⟩
  have hc : (dn && decide (0 ≤ x)) = false := by
    cases dn
    · rfl
    · rw [decide_eq_false (fun h => hx ⟨rfl, h⟩)]; rfl
  have HS : Hid (res = rr) := Lib.hid (by rw [HR.out, hc]; rfl)
  clear HR
  have L1 := Lib.hid h1
  have L2 := Lib.hid h2
  have hn0 := Blk.Bks.nil w
  have hn1 := hn0.alloc (kC tc r rc want gr bu).toArray 96
  have hn2 := hn1.alloc (Ln.cells ⟨p, x, t⟩).toArray 99
  rw [show (w.alloc (.cells (kC tc r rc want gr bu).toArray 96)).heap.size = w.heap.size + 1 by simp] at hn2
  clear hn0
  clear hn1
  go_enter Try.func44, Try.ntmps44
  go_upto_region 1 with fail
  generalize World.alloc (World.alloc w _) _ = v at hn2 ⊢
  generalize hg1 : w.heap.size + 1 = gl at hn2 ⊢
  generalize hg0 : w.heap.size = gk at hn2 ⊢
  clear hg0 hg1
  have H0 := Lib.hid hn2
  clear hn2
  have KF : Hid (∀ W, Below v.heap.size v W → KB W gk tc r rc want gr bu) := Lib.hid (fun W hb => kb (H0.out.step hb) 1 L1.out L2.out rfl)
  clear h1 h2
  have kb0 := Lib.hid (KF.out v (Below.refl _ _))
  have kg := kb0.out.gr
  have l0 : v.cell? ⟨gl, 0, none⟩ = some (I (p : Int)) := H0.out.cell 0 0 rfl rfl
  have l1 : v.cell? ⟨gl, 1, none⟩ = some (I x) := H0.out.cell 0 1 rfl rfl
  have kd := LP.out v gk kb0.out
  cases dn
  · go_wp2_with (first | (go_at_call 59; with_reducible refine (HA.out _).mono ?_; rintro e w' ⟨rfl, rfl⟩) | (refine Row.wpList_load_g 96 _ rfl (by first | rfl | (go_simp; done) | fail) ⟨gk, 0, none⟩ rfl (kC tc r rc want gr bu) _ (seg H0.out 1 0 rfl _ (by simp)) Try.underlying96 rfl IK ?_))
    refine (RP.out _ H0.out.bel).mono ?_
    rintro e w9 ⟨rfl, b9⟩
    go_wp2
    go_ret
    exact ⟨ret_bool HS.out.symm, (H0.out.step b9).bel⟩
  · have hx2 : ¬ 0 ≤ x := fun h => hx ⟨rfl, h⟩
    have dx : decide (0 ≤ x) = false := decide_eq_false hx2
    go_wp2_with (first | (go_at_call 59; with_reducible refine (HA.out _).mono ?_; rintro e w' ⟨rfl, rfl⟩) | (refine Row.wpList_load_g 96 _ rfl (by first | rfl | (go_simp; done) | fail) ⟨gk, 0, none⟩ rfl (kC tc r rc want gr bu) _ (seg H0.out 1 0 rfl _ (by simp)) Try.underlying96 rfl IK ?_))
    refine (RP.out _ H0.out.bel).mono ?_
    rintro e w9 ⟨rfl, b9⟩
    go_wp2
    go_ret
    exact ⟨ret_bool HS.out.symm, (H0.out.step b9).bel⟩
end Rg
namespace Rg
open Go Go.ChangeShapes Go.WideShapes Go.ChangeAt Go.RowKit
open Tab Flat TabArg QL Ru PlanM
open ChkM (cfAt)
open Clear (phAt)
open PlaceM (where_ spots Spt)
open May (infoP)
theorem begs_any (T : Tab) (hd : Hd) (r : Rg) (rs : List Ru) (want gr bu : Int) (l : Ln) (w : World) (ht : IsTab w hd T) (h8 : rs.length = 8) (hx : 0 ≤ l.x → 0 ≤ l.t ∧ l.t < 8) : Calls Try.prog 42 #[.agg (kC (T.cells hd) r (runsC rs) want gr bu).toArray, .agg l.cells.toArray] w fun e w' => e = .returned (.bool (begS T rs bu l)) ∧ Below w.heap.size w w' := by
  have h1 : (T.cells hd).length = 131 := by have := (cells_ok ht).size; rwa [List.size_toArray] at this
  have h2 : (runsC rs).length = 96 := by rw [runs_len, h8]
  have LRU : Hid (∀ p : Nat, p < 8 → ∀ u gk, KB u gk (T.cells hd) r (runsC rs) want gr bu → u.cell? ⟨gk, 135 + p * 12 + 1, none⟩ = some (I (ruAt rs p).tm)) := Lib.hid (fun p hp u gk k => k.run h8 hp rfl)
  have LCF : Hid (∀ p : Nat, p < 8 → ∀ u gk, KB u gk (T.cells hd) r (runsC rs) want gr bu → u.cell? ⟨gk, 105 + p, none⟩ = some (I (cfAt T p))) := Lib.hid (fun p hp u gk k => k.tab (tab_cf ht hp))
  have LRV : Hid (∀ u gk, KB u gk (T.cells hd) r (runsC rs) want gr bu → u.cell? ⟨gk, 119, none⟩ = some (I T.revert)) := Lib.hid (fun u gk k => k.tab (tab_rv ht))
  have HR : Hid (begS T rs bu l = (!SetM.has bu l.n && (decide (0 ≤ l.x) && (!SetM.has bu l.t && (decide (T.revert ≤ (ruAt rs l.t).tm) && decide (bits .and .i64 (cfAt T l.t) bu = 0)))))) := Lib.hid rfl
  obtain ⟨hh, hhh⟩ : ∃ b, SetM.has bu l.n = b := ⟨_, rfl⟩
  obtain ⟨hk, hhk⟩ : ∃ b, SetM.has bu l.t = b := ⟨_, rfl⟩
  have HA : Hid (∀ W, Calls Try.prog 59 #[.int .i64 bu, .int .i64 l.n] W fun e w' => e = .returned (.bool hh) ∧ Below W.heap.size W w') := Lib.hid (fun W => by rw [← hhh]; exact (Set.has_any _ _ W).mono fun e w' h => ⟨h.1, h.2 ▸ Below.refl _ _⟩)
  have HK : Hid (∀ W, Calls Try.prog 59 #[.int .i64 bu, .int .i64 l.t] W fun e w' => e = .returned (.bool hk) ∧ Below W.heap.size W w') := Lib.hid (fun W => by rw [← hhk]; exact (Set.has_any _ _ W).mono fun e w' h => ⟨h.1, h.2 ▸ Below.refl _ _⟩)
  rw [hhh, hhk] at HR
  clear hhh hhk
  generalize begS T rs bu l = res at HR ⊢
  obtain ⟨n, x, t⟩ := l
  dsimp only at HR HA HK hx ⊢
  have HX := Lib.hid hx
  clear hx
  generalize T.revert = rv at *
  cases hh
  rotate_left
  · clear LRU LCF
    generalize T.cells hd = tc at *
    generalize runsC rs = rc at *
    clear ht h8
    have L1 := Lib.hid h1
    have L2 := Lib.hid h2
    have hn0 := Blk.Bks.nil w
    have hn1 := hn0.alloc (kC tc r rc want gr bu).toArray 96
    have hn2 := hn1.alloc (Ln.cells ⟨n, x, t⟩).toArray 99
    rw [show (w.alloc (.cells (kC tc r rc want gr bu).toArray 96)).heap.size = w.heap.size + 1 by simp] at hn2
    clear hn0
    clear hn1
    go_enter Try.func42, Try.ntmps42
    go_upto_region 1 with fail
    generalize World.alloc (World.alloc w _) _ = v at hn2 ⊢
    generalize hg1 : w.heap.size + 1 = gl at hn2 ⊢
    generalize hg0 : w.heap.size = gk at hn2 ⊢
    clear hg0 hg1
    have H0 := Lib.hid hn2
    clear hn2
    have KF : Hid (∀ W, Below v.heap.size v W → KB W gk tc r rc want gr bu) := Lib.hid (fun W hb => kb (H0.out.step hb) 1 L1.out L2.out rfl)
    clear h1 h2
    have kb0 : Hid (∀ q : QB.By v.heap.size v, KB q.world gk tc r rc want gr bu) := Lib.hid (fun q => KF.out _ q.below)
    have q1 : ∀ q : QB.By v.heap.size v, q.world.cell? ⟨gk, 233, none⟩ = some (I bu) := fun q => (kb0.out q).bu
    have q2 : ∀ q : QB.By v.heap.size v, q.world.cell? ⟨gk, 119, none⟩ = some (I rv) := fun q => LRV.out _ _ (kb0.out q)
    have q3 : ∀ q : QB.By v.heap.size v, q.world.cell? ⟨gl, 0, none⟩ = some (I n) := fun q => (H0.out.by q).cell 0 0 rfl rfl
    have q4 : ∀ q : QB.By v.heap.size v, q.world.cell? ⟨gl, 1, none⟩ = some (I x) := fun q => (H0.out.by q).cell 0 1 rfl rfl
    have q5 : ∀ q : QB.By v.heap.size v, q.world.cell? ⟨gl, 2, none⟩ = some (I t) := fun q => (H0.out.by q).cell 0 2 rfl rfl
    have HS : Hid (res = false) := Lib.hid (by rw [HR.out]; rfl)
    clear HR
    refine QB.region_below v.heap.size (by kernel_rfl) (by kernel_rfl) ?_
    repeat (go_big_quiet_step (first | (go_at_call 59; with_reducible exact QB.call_of (Nat.le_refl _) (fun b => HA.out _)) | (go_at_call 59; with_reducible exact QB.call_of (Nat.le_refl _) (fun b => HK.out _))))
    refine wpQuiet_nil ?_
    intro _ hw'
    obtain ⟨pq, rfl⟩ := hw'
    have HP := Lib.hid (H0.out.by pq)
    go_wp2
    go_ret
    exact ⟨ret_bool HS.out.symm, HP.out.bel⟩
  by_cases hx : 0 ≤ x
  rotate_left
  · have dx : decide (0 ≤ x) = false := decide_eq_false hx
    clear LRU LCF
    generalize T.cells hd = tc at *
    generalize runsC rs = rc at *
    clear ht h8
    have L1 := Lib.hid h1
    have L2 := Lib.hid h2
    have hn0 := Blk.Bks.nil w
    have hn1 := hn0.alloc (kC tc r rc want gr bu).toArray 96
    have hn2 := hn1.alloc (Ln.cells ⟨n, x, t⟩).toArray 99
    rw [show (w.alloc (.cells (kC tc r rc want gr bu).toArray 96)).heap.size = w.heap.size + 1 by simp] at hn2
    clear hn0
    clear hn1
    go_enter Try.func42, Try.ntmps42
    go_upto_region 1 with fail
    generalize World.alloc (World.alloc w _) _ = v at hn2 ⊢
    generalize hg1 : w.heap.size + 1 = gl at hn2 ⊢
    generalize hg0 : w.heap.size = gk at hn2 ⊢
    clear hg0 hg1
    have H0 := Lib.hid hn2
    clear hn2
    have KF : Hid (∀ W, Below v.heap.size v W → KB W gk tc r rc want gr bu) := Lib.hid (fun W hb => kb (H0.out.step hb) 1 L1.out L2.out rfl)
    clear h1 h2
    have kb0 : Hid (∀ q : QB.By v.heap.size v, KB q.world gk tc r rc want gr bu) := Lib.hid (fun q => KF.out _ q.below)
    have q1 : ∀ q : QB.By v.heap.size v, q.world.cell? ⟨gk, 233, none⟩ = some (I bu) := fun q => (kb0.out q).bu
    have q2 : ∀ q : QB.By v.heap.size v, q.world.cell? ⟨gk, 119, none⟩ = some (I rv) := fun q => LRV.out _ _ (kb0.out q)
    have q3 : ∀ q : QB.By v.heap.size v, q.world.cell? ⟨gl, 0, none⟩ = some (I n) := fun q => (H0.out.by q).cell 0 0 rfl rfl
    have q4 : ∀ q : QB.By v.heap.size v, q.world.cell? ⟨gl, 1, none⟩ = some (I x) := fun q => (H0.out.by q).cell 0 1 rfl rfl
    have q5 : ∀ q : QB.By v.heap.size v, q.world.cell? ⟨gl, 2, none⟩ = some (I t) := fun q => (H0.out.by q).cell 0 2 rfl rfl
    have HS : Hid (res = false) := Lib.hid (by rw [HR.out]; rw [dx]; rfl)
    clear HR
    refine QB.region_below v.heap.size (by kernel_rfl) (by kernel_rfl) ?_
    repeat (go_big_quiet_step (first | (go_at_call 59; with_reducible exact QB.call_of (Nat.le_refl _) (fun b => HA.out _)) | (go_at_call 59; with_reducible exact QB.call_of (Nat.le_refl _) (fun b => HK.out _))))
    refine wpQuiet_nil ?_
    intro _ hw'
    obtain ⟨pq, rfl⟩ := hw'
    have HP := Lib.hid (H0.out.by pq)
    go_wp2
    go_ret
    exact ⟨ret_bool HS.out.symm, HP.out.bel⟩
  have dx : decide (0 ≤ x) = true := decide_eq_true hx
  cases hk
  rotate_left
  · clear LRU LCF
    generalize T.cells hd = tc at *
    generalize runsC rs = rc at *
    clear ht h8
    have L1 := Lib.hid h1
    have L2 := Lib.hid h2
    have hn0 := Blk.Bks.nil w
    have hn1 := hn0.alloc (kC tc r rc want gr bu).toArray 96
    have hn2 := hn1.alloc (Ln.cells ⟨n, x, t⟩).toArray 99
    rw [show (w.alloc (.cells (kC tc r rc want gr bu).toArray 96)).heap.size = w.heap.size + 1 by simp] at hn2
    clear hn0
    clear hn1
    go_enter Try.func42, Try.ntmps42
    go_upto_region 1 with fail
    generalize World.alloc (World.alloc w _) _ = v at hn2 ⊢
    generalize hg1 : w.heap.size + 1 = gl at hn2 ⊢
    generalize hg0 : w.heap.size = gk at hn2 ⊢
    clear hg0 hg1
    have H0 := Lib.hid hn2
    clear hn2
    have KF : Hid (∀ W, Below v.heap.size v W → KB W gk tc r rc want gr bu) := Lib.hid (fun W hb => kb (H0.out.step hb) 1 L1.out L2.out rfl)
    clear h1 h2
    have kb0 : Hid (∀ q : QB.By v.heap.size v, KB q.world gk tc r rc want gr bu) := Lib.hid (fun q => KF.out _ q.below)
    have q1 : ∀ q : QB.By v.heap.size v, q.world.cell? ⟨gk, 233, none⟩ = some (I bu) := fun q => (kb0.out q).bu
    have q2 : ∀ q : QB.By v.heap.size v, q.world.cell? ⟨gk, 119, none⟩ = some (I rv) := fun q => LRV.out _ _ (kb0.out q)
    have q3 : ∀ q : QB.By v.heap.size v, q.world.cell? ⟨gl, 0, none⟩ = some (I n) := fun q => (H0.out.by q).cell 0 0 rfl rfl
    have q4 : ∀ q : QB.By v.heap.size v, q.world.cell? ⟨gl, 1, none⟩ = some (I x) := fun q => (H0.out.by q).cell 0 1 rfl rfl
    have q5 : ∀ q : QB.By v.heap.size v, q.world.cell? ⟨gl, 2, none⟩ = some (I t) := fun q => (H0.out.by q).cell 0 2 rfl rfl
    have HS : Hid (res = false) := Lib.hid (by rw [HR.out]; rw [dx]; rfl)
    clear HR
    refine QB.region_below v.heap.size (by kernel_rfl) (by kernel_rfl) ?_
    repeat (go_big_quiet_step (first | (go_at_call 59; with_reducible exact QB.call_of (Nat.le_refl _) (fun b => HA.out _)) | (go_at_call 59; with_reducible exact QB.call_of (Nat.le_refl _) (fun b => HK.out _))))
    refine wpQuiet_nil ?_
    intro _ hw'
    obtain ⟨pq, rfl⟩ := hw'
    have HP := Lib.hid (H0.out.by pq)
    go_wp2
    go_ret
    exact ⟨ret_bool HS.out.symm, HP.out.bel⟩
  obtain ⟨p, hp⟩ := Int.eq_ofNat_of_zero_le (HX.out hx).1
  have hp8 : p < 8 := by have := (HX.out hx).2; omega
  have hp9 : (p : Int) < 8 := by omega
  subst hp
  have LP := Lib.hid (LRU.out p hp8)
  have LC := Lib.hid (LCF.out p hp8)
  generalize htm : (ruAt rs p).tm = tm at *
  generalize hcf : cfAt T p = cf at *
  clear htm hcf
  clear LRU LCF
  generalize T.cells hd = tc at *
  generalize runsC rs = rc at *
  clear ht h8
  by_cases hr : rv ≤ tm
  rotate_left
  · have dr : decide (rv ≤ tm) = false := decide_eq_false hr
    have L1 := Lib.hid h1
    have L2 := Lib.hid h2
    have hn0 := Blk.Bks.nil w
    have hn1 := hn0.alloc (kC tc r rc want gr bu).toArray 96
    have hn2 := hn1.alloc (Ln.cells ⟨n, x, p⟩).toArray 99
    rw [show (w.alloc (.cells (kC tc r rc want gr bu).toArray 96)).heap.size = w.heap.size + 1 by simp] at hn2
    clear hn0
    clear hn1
    go_enter Try.func42, Try.ntmps42
    go_upto_region 1 with fail
    generalize World.alloc (World.alloc w _) _ = v at hn2 ⊢
    generalize hg1 : w.heap.size + 1 = gl at hn2 ⊢
    generalize hg0 : w.heap.size = gk at hn2 ⊢
    clear hg0 hg1
    have H0 := Lib.hid hn2
    clear hn2
    have KF : Hid (∀ W, Below v.heap.size v W → KB W gk tc r rc want gr bu) := Lib.hid (fun W hb => kb (H0.out.step hb) 1 L1.out L2.out rfl)
    clear h1 h2
    have kb0 : Hid (∀ q : QB.By v.heap.size v, KB q.world gk tc r rc want gr bu) := Lib.hid (fun q => KF.out _ q.below)
    have q1 : ∀ q : QB.By v.heap.size v, q.world.cell? ⟨gk, 233, none⟩ = some (I bu) := fun q => (kb0.out q).bu
    have q2 : ∀ q : QB.By v.heap.size v, q.world.cell? ⟨gk, 119, none⟩ = some (I rv) := fun q => LRV.out _ _ (kb0.out q)
    have q3 : ∀ q : QB.By v.heap.size v, q.world.cell? ⟨gl, 0, none⟩ = some (I n) := fun q => (H0.out.by q).cell 0 0 rfl rfl
    have q4 : ∀ q : QB.By v.heap.size v, q.world.cell? ⟨gl, 1, none⟩ = some (I x) := fun q => (H0.out.by q).cell 0 1 rfl rfl
    have q5 : ∀ q : QB.By v.heap.size v, q.world.cell? ⟨gl, 2, none⟩ = some (I p) := fun q => (H0.out.by q).cell 0 2 rfl rfl
    have q6 : ∀ q : QB.By v.heap.size v, q.world.cell? ⟨gk, 135 + p * 12 + 1, none⟩ = some (I tm) := fun q => LP.out _ _ (kb0.out q)
    have q7 : ∀ q : QB.By v.heap.size v, q.world.cell? ⟨gk, 105 + p, none⟩ = some (I cf) := fun q => LC.out _ _ (kb0.out q)
    have HS : Hid (res = false) := Lib.hid (by rw [HR.out]; rw [dx, dr]; rfl)
    clear HR
    refine QB.region_below v.heap.size (by kernel_rfl) (by kernel_rfl) ?_
    repeat (go_big_quiet_step (first | (go_at_call 59; with_reducible exact QB.call_of (Nat.le_refl _) (fun b => HA.out _)) | (go_at_call 59; with_reducible exact QB.call_of (Nat.le_refl _) (fun b => HK.out _))))
    refine wpQuiet_nil ?_
    intro _ hw'
    obtain ⟨pq, rfl⟩ := hw'
    have HP := Lib.hid (H0.out.by pq)
    go_wp2
    go_ret
    exact ⟨ret_bool HS.out.symm, HP.out.bel⟩
  have dr : decide (rv ≤ tm) = true := decide_eq_true hr
  by_cases hz : bits .and .i64 cf bu = 0
  · have dz : decide (bits .and .i64 cf bu = 0) = true := decide_eq_true hz
    have dz2 : (bits .and .i64 cf bu == 0) = true := beq_iff_eq.2 hz
    have L1 := Lib.hid h1
    have L2 := Lib.hid h2
    have hn0 := Blk.Bks.nil w
    have hn1 := hn0.alloc (kC tc r rc want gr bu).toArray 96
    have hn2 := hn1.alloc (Ln.cells ⟨n, x, p⟩).toArray 99
    rw [show (w.alloc (.cells (kC tc r rc want gr bu).toArray 96)).heap.size = w.heap.size + 1 by simp] at hn2
    clear hn0
    clear hn1
    go_enter Try.func42, Try.ntmps42
    go_upto_region 1 with fail
    generalize World.alloc (World.alloc w _) _ = v at hn2 ⊢
    generalize hg1 : w.heap.size + 1 = gl at hn2 ⊢
    generalize hg0 : w.heap.size = gk at hn2 ⊢
    clear hg0 hg1
    have H0 := Lib.hid hn2
    clear hn2
    have KF : Hid (∀ W, Below v.heap.size v W → KB W gk tc r rc want gr bu) := Lib.hid (fun W hb => kb (H0.out.step hb) 1 L1.out L2.out rfl)
    clear h1 h2
    have kb0 : Hid (∀ q : QB.By v.heap.size v, KB q.world gk tc r rc want gr bu) := Lib.hid (fun q => KF.out _ q.below)
    have q1 : ∀ q : QB.By v.heap.size v, q.world.cell? ⟨gk, 233, none⟩ = some (I bu) := fun q => (kb0.out q).bu
    have q2 : ∀ q : QB.By v.heap.size v, q.world.cell? ⟨gk, 119, none⟩ = some (I rv) := fun q => LRV.out _ _ (kb0.out q)
    have q3 : ∀ q : QB.By v.heap.size v, q.world.cell? ⟨gl, 0, none⟩ = some (I n) := fun q => (H0.out.by q).cell 0 0 rfl rfl
    have q4 : ∀ q : QB.By v.heap.size v, q.world.cell? ⟨gl, 1, none⟩ = some (I x) := fun q => (H0.out.by q).cell 0 1 rfl rfl
    have q5 : ∀ q : QB.By v.heap.size v, q.world.cell? ⟨gl, 2, none⟩ = some (I p) := fun q => (H0.out.by q).cell 0 2 rfl rfl
    have q6 : ∀ q : QB.By v.heap.size v, q.world.cell? ⟨gk, 135 + p * 12 + 1, none⟩ = some (I tm) := fun q => LP.out _ _ (kb0.out q)
    have q7 : ∀ q : QB.By v.heap.size v, q.world.cell? ⟨gk, 105 + p, none⟩ = some (I cf) := fun q => LC.out _ _ (kb0.out q)
    have HS : Hid (res = true) := Lib.hid (by rw [HR.out]; rw [dx, dr, dz]; rfl)
    clear HR
    refine QB.region_below v.heap.size (by kernel_rfl) (by kernel_rfl) ?_
    repeat (go_big_quiet_step (first | (go_at_call 59; with_reducible exact QB.call_of (Nat.le_refl _) (fun b => HA.out _)) | (go_at_call 59; with_reducible exact QB.call_of (Nat.le_refl _) (fun b => HK.out _))))
    refine wpQuiet_nil ?_
    intro _ hw'
    obtain ⟨pq, rfl⟩ := hw'
    have HP := Lib.hid (H0.out.by pq)
    go_wp2
    go_ret
    exact ⟨ret_bool HS.out.symm, HP.out.bel⟩
  · have dz : decide (bits .and .i64 cf bu = 0) = false := decide_eq_false hz
    have dz2 : (bits .and .i64 cf bu == 0) = false := beq_eq_false_iff_ne.2 hz
    have L1 := Lib.hid h1
    have L2 := Lib.hid h2
    have hn0 := Blk.Bks.nil w
    have hn1 := hn0.alloc (kC tc r rc want gr bu).toArray 96
    have hn2 := hn1.alloc (Ln.cells ⟨n, x, p⟩).toArray 99
    rw [show (w.alloc (.cells (kC tc r rc want gr bu).toArray 96)).heap.size = w.heap.size + 1 by simp] at hn2
    clear hn0
    clear hn1
    go_enter Try.func42, Try.ntmps42
    go_upto_region 1 with fail
    generalize World.alloc (World.alloc w _) _ = v at hn2 ⊢
    generalize hg1 : w.heap.size + 1 = gl at hn2 ⊢
    generalize hg0 : w.heap.size = gk at hn2 ⊢
    clear hg0 hg1
    have H0 := Lib.hid hn2
    clear hn2
    have KF : Hid (∀ W, Below v.heap.size v W → KB W gk tc r rc want gr bu) := Lib.hid (fun W hb => kb (H0.out.step hb) 1 L1.out L2.out rfl)
    clear h1 h2
    have kb0 : Hid (∀ q : QB.By v.heap.size v, KB q.world gk tc r rc want gr bu) := Lib.hid (fun q => KF.out _ q.below)
    have q1 : ∀ q : QB.By v.heap.size v, q.world.cell? ⟨gk, 233, none⟩ = some (I bu) := fun q => (kb0.out q).bu
    have q2 : ∀ q : QB.By v.heap.size v, q.world.cell? ⟨gk, 119, none⟩ = some (I rv) := fun q => LRV.out _ _ (kb0.out q)
    have q3 : ∀ q : QB.By v.heap.size v, q.world.cell? ⟨gl, 0, none⟩ = some (I n) := fun q => (H0.out.by q).cell 0 0 rfl rfl
    have q4 : ∀ q : QB.By v.heap.size v, q.world.cell? ⟨gl, 1, none⟩ = some (I x) := fun q => (H0.out.by q).cell 0 1 rfl rfl
    have q5 : ∀ q : QB.By v.heap.size v, q.world.cell? ⟨gl, 2, none⟩ = some (I p) := fun q => (H0.out.by q).cell 0 2 rfl rfl
    have q6 : ∀ q : QB.By v.heap.size v, q.world.cell? ⟨gk, 135 + p * 12 + 1, none⟩ = some (I tm) := fun q => LP.out _ _ (kb0.out q)
    have q7 : ∀ q : QB.By v.heap.size v, q.world.cell? ⟨gk, 105 + p, none⟩ = some (I cf) := fun q => LC.out _ _ (kb0.out q)
    have HS : Hid (res = false) := Lib.hid (by rw [HR.out]; rw [dx, dr, dz]; rfl)
    clear HR
    refine QB.region_below v.heap.size (by kernel_rfl) (by kernel_rfl) ?_
    repeat (go_big_quiet_step (first | (go_at_call 59; with_reducible exact QB.call_of (Nat.le_refl _) (fun b => HA.out _)) | (go_at_call 59; with_reducible exact QB.call_of (Nat.le_refl _) (fun b => HK.out _))))
    refine wpQuiet_nil ?_
    intro _ hw'
    obtain ⟨pq, rfl⟩ := hw'
    have HP := Lib.hid (H0.out.by pq)
    go_wp2
    go_ret
    exact ⟨ret_bool HS.out.symm, HP.out.bel⟩
end Rg
namespace Rg
open Go Go.ChangeShapes Go.WideShapes Go.ChangeAt Go.RowKit
open Tab Flat TabArg QL Ru PlanM
open ChkM (cfAt)
open Clear (phAt)
open PlaceM (where_ spots Spt)
open May (infoP)
theorem put_at (r : Rg) {k : Nat} (hk : k < 2) (x : Int) : (r.put k x).at k = x ∧ (r.put k x).g = r.g := by
  match k, hk with
  | 0, _ => exact ⟨rfl, rfl⟩
  | 1, _ => exact ⟨rfl, rfl⟩
theorem put_cells (r : Rg) {k : Nat} (hk : k < 2) (x : Int) : r.cells.toArray.setIfInBounds (1 + k) (I x) = (r.put k x).cells.toArray := by
  match k, hk with
  | 0, _ => rfl
  | 1, _ => rfl
theorem put_get (r : Rg) {k : Nat} (hk : k < 2) (x : Int) : (r.put k x).cells.toArray[1 + k]? = some (I x) := by
  match k, hk with
  | 0, _ => rfl
  | 1, _ => rfl
theorem KB.at {u : World} {g : Nat} {tc : List Value} {r : Rg} {rc : List Value} {want gr bu : Int} (h : KB u g tc r rc want gr bu) {k : Nat} (hk : k < 2) : u.cell? ⟨g, 132 + k, none⟩ = some (I (r.at k)) := by
  match k, hk with
  | 0, _ => exact h.r0
  | 1, _ => exact h.r1
theorem builtL (a b c : Int) : Try.prog.built 99 [(0, I a), (1, I b), (2, I c)] = some (Ln.cells ⟨a, b, c⟩).toArray := by kernel_rfl
theorem lane_any (T : Tab) (hd : Hd) (r : Rg) (rs : List Ru) (want gr bu : Int) (k : Nat) (w : World) (ht : IsTab w hd T) (h8 : rs.length = 8) (hg : 0 ≤ r.g ∧ r.g < T.groups.length) (hk : k < 2) : Calls Try.prog 41 #[.agg (kC (T.cells hd) r (runsC rs) want gr bu).toArray, .int .i64 k] w fun e w' => e = .returned (.agg (Ln.cells (lnS T r want k)).toArray) ∧ Below w.heap.size w w' := by
  have h1 : (T.cells hd).length = 131 := by have := (cells_ok ht).size; rwa [List.size_toArray] at this
  have h2 : (runsC rs).length = 96 := by rw [runs_len, h8]
  have HV0 : Hid (lnS T r want k = ⟨nowS T r.g k (r.at k), nextS T r.g k (r.at k) want, nowS T r.g k (nextS T r.g k (r.at k) want)⟩) := Lib.hid rfl
  generalize lnS T r want k = L at HV0 ⊢
  obtain ⟨x, hx⟩ : ∃ x, nextS T r.g k (r.at k) want = x := ⟨_, rfl⟩
  obtain ⟨n, hn⟩ : ∃ x, nowS T r.g k (r.at k) = x := ⟨_, rfl⟩
  obtain ⟨t, ht2⟩ : ∃ y, nowS T r.g k x = y := ⟨_, rfl⟩
  rw [hx, hn, ht2] at HV0
  have NX : Hid (∀ W, Below w.heap.size w W → Calls Try.prog 63 #[.agg (T.cells hd).toArray, .int .i64 r.g, .int .i64 k, .int .i64 (r.at k), .int .i64 want] W fun e w' => e = .returned (.int .i64 x) ∧ Below W.heap.size W w') := Lib.hid (fun W hb => by rw [← hx]; exact PlanN.next_any T hd r.g k (r.at k) want W (ht.below hb))
  have N1 : Hid (∀ W, Below w.heap.size w W → Calls Try.prog 36 #[.agg (T.cells hd).toArray, .agg r.cells.toArray, .int .i64 k] W fun e w' => e = .returned (.int .i64 n) ∧ Below W.heap.size W w') := Lib.hid (fun W hb => by rw [← hn]; exact now_any T hd r k W (ht.below hb) hg hk)
  have N2 : Hid (∀ W, Below w.heap.size w W → Calls Try.prog 36 #[.agg (T.cells hd).toArray, .agg (r.put k x).cells.toArray, .int .i64 k] W fun e w' => e = .returned (.int .i64 t) ∧ Below W.heap.size W w') := Lib.hid (fun W hb => by
    have h := now_any T hd (r.put k x) k W (ht.below hb) (by rw [(put_at r hk x).2]; exact hg) hk
    rw [(put_at r hk x).1, (put_at r hk x).2, ht2] at h
    exact h)
  have IA : (Try.prog.info? 32).map (·.size) = some (T.cells hd).length := by rw [h1]; exact PlanW.infoT
  have PC := Lib.hid (put_cells r hk x)
  have PG := Lib.hid (put_get r hk x)
  have KA2 : Hid (∀ u gk, KB u gk (T.cells hd) r (runsC rs) want gr bu → u.cell? ⟨gk, 132 + k, none⟩ = some (I (r.at k))) := Lib.hid (fun u gk h => h.at hk)
  have kk0 : 0 ≤ (k : Int) := by omega
  have kk1 : (k : Int) < 2 := by omega
  generalize T.cells hd = tc at *
  generalize runsC rs = rc at *
  generalize r.at k = a at *
  clear ht h8 hx hn ht2 hg
  have L1 := Lib.hid h1
  have L2 := Lib.hid h2
  have hn0 := Blk.Bks.nil w
  have hn1 := hn0.alloc (kC tc r rc want gr bu).toArray 96
  have hn2 := hn1.alloc #[I 0, I 0, I 0] 99
  rw [show (w.alloc (.cells (kC tc r rc want gr bu).toArray 96)).heap.size = w.heap.size + 1 by simp] at hn2
  clear hn0
  clear hn1
  go_enter Try.func41, Try.ntmps41
  go_upto_region 1 with fail
  generalize World.alloc (World.alloc w _) _ = v at hn2 ⊢
  generalize hg1 : w.heap.size + 1 = gz at hn2 ⊢
  generalize hg0 : w.heap.size = gk at hn2 ⊢
  clear hg0 hg1
  have H0 := Lib.hid hn2
  clear hn2
  have KF0 := Lib.hid (kb H0.out 1 L1.out L2.out rfl)
  clear h1 h2
  go_upto_region 2 with (first | (refine Row.wpList_load_g 36 _ rfl (by first | rfl | (go_simp; done) | fail) ⟨gk, 131, none⟩ rfl r.cells _ KF0.out.lr Try.underlying36 rfl infoRg ?_) | (refine Row.wpList_store_new rfl 36 _ _ rfl _ _ r.cells.toArray rfl rfl rfl infoRg rfl (one_rg _) ?_))
  dsimp only [Act.put]
  (try simp only [List.setIfInBounds_toArray, List.set_cons_zero, List.set_cons_succ])
  have hn := H0.out.alloc r.cells.toArray 36
  generalize World.alloc v _ = v1 at hn ⊢
  generalize v.heap.size = gx at hn ⊢
  have H1 := Lib.hid hn
  clear hn H0 KF0
  have HV := Lib.hid H1.out.bel
  have KF : Hid (∀ W, Below v1.heap.size v1 W → KB W gk tc r rc want gr bu) := Lib.hid (fun W hb => kb (H1.out.step hb) 2 L1.out L2.out rfl)
  have q1 : ∀ q : QB.By v1.heap.size v1, q.world.cell? ⟨gk, 131, none⟩ = some (I r.g) := fun q => (KF.out _ q.below).rg
  have q2 : ∀ q : QB.By v1.heap.size v1, q.world.cell? ⟨gk, 132 + k, none⟩ = some (I a) := fun q => KA2.out _ _ (KF.out _ q.below)
  have q3 : ∀ q : QB.By v1.heap.size v1, q.world.cell? ⟨gk, 231, none⟩ = some (I want) := fun q => (KF.out _ q.below).w
  refine QT.region v1.heap.size 17 (by kernel_rfl) (by kernel_rfl) ?_
  simp only [List.take_succ_cons, List.take_zero]
  repeat first
    | (refine wpQuiet_load rfl 32 _ rfl ⟨gk, 0, none⟩ rfl tc _ (fun w' ⟨pw, e⟩ => by rw [e]; exact (KF.out _ pw.below).lt) Try.underlying32 rfl IA ?_
       dsimp only [Act.put]
       simp only [List.setIfInBounds_toArray, List.set_cons_zero, List.set_cons_succ])
    | (quiet_step (first | (go_at_call 63; with_reducible exact QB.call_of (Nat.le_refl _) (fun b => NX.out _ (HV.out.trans (b.mono HV.out.size))))))
  refine wpQuiet_nil ?_
  intro _ hw'
  obtain ⟨pq, rfl⟩ := hw'
  have HP := Lib.hid (H1.out.by pq)
  generalize pq.world = vp at HP ⊢
  simp only [List.drop_succ_cons, List.drop_zero]
  clear q1 q2 q3
  have kx : vp.cell? ⟨gx, 1 + k, none⟩ = some (r.cells.toArray[1 + k]'(by show 1 + k < 4; omega)) := HP.out.cell 0 (1 + k) rfl (Array.getElem?_eq_getElem _)
  have fx : vp.frozen? ⟨gx, 1 + k, none⟩ = false := HP.out.frozen 0 (1 + k) rfl
  go_upto_region 3 with fail
  have hput := HP.out.set 0 (1 + k) rfl (I x)
  rw [PC.out] at hput
  simp only [List.set_cons_succ, List.set_cons_zero] at hput
  generalize World.setCell vp _ _ = v2 at hput ⊢
  have H2 := Lib.hid hput
  clear hput kx fx HP KF H1 HV
  have HV := Lib.hid H2.out.bel
  have KF : Hid (∀ W, Below v2.heap.size v2 W → KB W gk tc r rc want gr bu) := Lib.hid (fun W hb => kb (H2.out.step hb) 2 L1.out L2.out rfl)
  have q4 : ∀ q : QB.By v2.heap.size v2, q.world.cell? ⟨gx, 1 + k, none⟩ = some (I x) := fun q => (H2.out.by q).cell 0 (1 + k) rfl PG.out
  refine QT.region v2.heap.size 15 (by kernel_rfl) (by kernel_rfl) ?_
  simp only [List.take_succ_cons, List.take_zero]
  repeat first
    | (refine wpQuiet_load rfl 32 _ rfl ⟨gk, 0, none⟩ rfl tc _ (fun w' ⟨pw, e⟩ => by rw [e]; exact (KF.out _ pw.below).lt) Try.underlying32 rfl IA ?_
       dsimp only [Act.put]
       simp only [List.setIfInBounds_toArray, List.set_cons_zero, List.set_cons_succ])
    | (refine wpQuiet_load rfl 36 _ rfl ⟨gk, 131, none⟩ rfl r.cells _ (fun w' ⟨pw, e⟩ => by rw [e]; exact (KF.out _ pw.below).lr) Try.underlying36 rfl infoRg ?_
       dsimp only [Act.put]
       simp only [List.setIfInBounds_toArray, List.set_cons_zero, List.set_cons_succ])
    | (refine wpQuiet_load rfl 36 _ rfl ⟨gx, 0, none⟩ rfl (r.put k x).cells _ (fun w' ⟨pw, e⟩ => by rw [e]; exact seg (H2.out.by pw) 0 0 rfl _ rfl) Try.underlying36 rfl infoRg ?_
       dsimp only [Act.put]
       simp only [List.setIfInBounds_toArray, List.set_cons_zero, List.set_cons_succ])
    | (quiet_step (first | (go_at_call 36; with_reducible exact QB.call_of (Nat.le_refl _) (fun b => N1.out _ (HV.out.trans (b.mono HV.out.size)))) | (go_at_call 36; with_reducible exact QB.call_of (Nat.le_refl _) (fun b => N2.out _ (HV.out.trans (b.mono HV.out.size))))))
  refine wpQuiet_nil ?_
  intro _ hw'
  obtain ⟨pq, rfl⟩ := hw'
  have HP := Lib.hid (H2.out.by pq)
  generalize pq.world = vp at HP ⊢
  simp only [List.drop_succ_cons, List.drop_zero]
  clear q4
  go_wp2_with (first | (refine wpList_build rfl 99 [(0, .tmp 30), (1, .tmp 34), (2, .tmp 39)] rfl (Ln.cells ⟨n, x, t⟩).toArray _ (by rfl) (builtL n x t) ?_) | (refine wpList_store_row rfl 99 _ _ rfl gz (Ln.cells ⟨n, x, t⟩).toArray rfl rfl 99 _ (HP.out.at 1 rfl) infoLn rfl (one_ln _) ?_))
  have hput := HP.out.put 1 rfl (Ln.cells ⟨n, x, t⟩).toArray
  simp only [List.set_cons_succ, List.set_cons_zero] at hput
  generalize World.setRow vp gz _ = v3 at hput ⊢
  have HG := Lib.hid hput
  clear hput
  go_wp2_with fail
  (try simp only [Exit.inBlock, Exit.then])
  refine bodyPost_ret (v := .agg (Ln.cells ⟨n, x, t⟩).toArray) ?_ rfl ⟨by rw [HV0.out], HG.out.bel⟩
  exact results_cell_row rfl _ _ gz 99 _ (0, 0) _ rfl (HG.out.at 1 rfl) Try.underlying99 rfl infoLn
end Rg
namespace PlanF
open Go.ChangeShapes Go.WideShapes Go.ChangeAt Go.RowKit
open Tab PlaceM PlanM PlanC
open May (infoP St)
theorem follow_any (T : Tab) (h : Hd) (g want : Int) (w : World) (ht : IsTab w h T) (few : T.groups.length ≤ 1000) :
    Calls Try.prog 62 #[.agg (T.cells h).toArray, .int .i64 g, .int .i64 want] w fun e w' => e = .returned (.int .i64 (followS T g want)) ∧ Below w.heap.size w w' := by
  have hsz := (cells_ok ht).size
  have C := Lib.hid (cells_ok ht)
  have IA : Hid ((Try.prog.info? 32).map (·.size) = some (T.cells h).length) := Lib.hid (by rw [List.size_toArray] at hsz; rw [hsz]; exact infoT)
  have MB : Hid (∀ z W, Below w.heap.size w W → Calls Try.prog 79 #[.agg (T.cells h).toArray, .int .i64 z] W fun e w' => e = .returned (.int .i64 (membS T z : Nat)) ∧ Below W.heap.size W w') := Lib.hid (fun z W hb => members_any T h z W (ht.below hb))
  have HG : Hid (∀ W, Below w.heap.size w W → Calls Try.prog 78 #[.agg (T.cells h).toArray, .int .i64 g] W fun e w' => e = .returned (.bool (decide (0 ≤ g ∧ g < T.groups.length))) ∧ Below W.heap.size W w') := Lib.hid (fun W hb => hasGroup_any T h g W (ht.below hb))
  obtain ⟨gs, hgd, hgr⟩ := ht.groups
  have Hgl := Lib.hid (show T.groups.length = gs.length by rw [← hgd, List.length_map])
  have K : gs.length ≤ 1000 := by have := Hgl.out; omega
  have A0 : Hid (Below w.heap.size w (w.alloc (.cells (T.cells h).toArray 32))) := Lib.hid ((Below.refl _ _).alloc (Nat.le_refl _) _)
  have A1 : Hid ((w.alloc (.cells (T.cells h).toArray 32)).heap[w.heap.size]? = some (.cells (T.cells h).toArray 32 (0, 0))) := Lib.hid (heap_alloc_new _ _)
  obtain ⟨res, hres⟩ : ∃ r, followS T g want = r := ⟨_, rfl⟩
  have NS : Hid (res = followS T g want) := Lib.hid hres.symm
  rw [hres]
  clear ht hgr hgd hres few
  generalize T.cells h = c at *
  go_enter Try.func62, Try.ntmps62
  go_upto_region 1 with fail
  generalize w.alloc (.cells c.toArray 32) = u at A0 A1 ⊢
  clear hsz
  have q104 : u.cell? ⟨w.heap.size, 104, none⟩ = some (.slice h.g.a gs.length h.g.cap) := by
    rw [cell_of_row _ _ _ _ _ _ A1.out, C.out.g, Hgl.out]
  have LT : Hid (Lies u ⟨w.heap.size, 0, none⟩ c) := Lib.hid (by have := Row.lies_of_block A1.out; simpa using this)
  go_upto_region 2 with fail
  clear q104
  go_wp2_with (refine Row.wpList_load_g 32 _ rfl (by first | rfl | go_simp) ⟨w.heap.size, 0, none⟩ rfl c _ LT.out Try.underlying32 rfl IA.out ?_)
  refine (HG.out _ A0.out).mono ?_
  rintro e u1 ⟨rfl, hb⟩
  have B0 : Hid (Below w.heap.size w u1) := Lib.hid (A0.out.trans (hb.mono A0.out.size))
  have B1 : Hid (u1.heap[w.heap.size]? = some (.cells c.toArray 32 (0, 0))) := Lib.hid ((hb.block _ (Array.getElem?_eq_some_iff.1 A1.out).1).trans A1.out)
  clear hb A0 A1 LT HG
  by_cases hg : 0 ≤ g ∧ g < T.groups.length
  · rw [decide_eq_true hg]
    obtain ⟨f, hf⟩ : ∃ f, f = g := ⟨_, rfl⟩
    have FE : Hid (fromG T g = f) := Lib.hid (by unfold fromG; rw [if_pos hg, hf])
    have FB : Hid (0 < gs.length → 0 ≤ f ∧ f < gs.length) := Lib.hid (fun _ => by rw [hf, ← Hgl.out]; exact hg)
    have HFG := Lib.hid hf
    clear hg
    go_wp2_with fail
    rw [show (Value.int .i64 g) = .int .i64 f by rw [hf]]
    clear hf
    go_loopw [20] (fun i wr => ∃ j : Nat, j ≤ gs.length ∧ i = .int .i64 j ∧ (∀ i, i < j → folC T g want i = false) ∧ Below w.heap.size w wr ∧ wr.heap[w.heap.size]? = some (.cells c.toArray 32 (0, 0))) (fun i _ => gs.length - (intOf i).toNat)
    case atStart => exact ⟨0, by omega, rfl, (fun i h => by omega), B0.out, B1.out⟩
    case round =>
      obtain ⟨j, hj, rfl, hall, hbel, hblk⟩ := hrel
      have HA := Lib.hid hall
      have HB := Lib.hid hbel
      have LT : Hid (Lies wr ⟨w.heap.size, 0, none⟩ c) := Lib.hid (by have := Row.lies_of_block hblk; simpa using this)
      have HK := Lib.hid hblk
      clear hall hbel hblk
      by_cases hjl : j < gs.length
      · obtain ⟨kf, hkf, hkl⟩ : ∃ kf : Nat, f = (kf : Int) ∧ kf < gs.length := by
          have := FB.out (by omega)
          exact ⟨f.toNat, by omega, by omega⟩
        have htm : ((kf : Int) + 1 + (j : Int)).tmod (gs.length : Int) = ((kf : Int) + 1 + (j : Int)) % (gs.length : Int) := Int.tmod_eq_emod_of_nonneg (by omega)
        have HZ : Hid (((kf : Int) + 1 + (j : Int)) % (gs.length : Int) = (fromG T g + 1 + j) % T.groups.length) := Lib.hid (by rw [FE.out, hkf, Hgl.out])
        have hz0 : 0 ≤ ((kf : Int) + 1 + (j : Int)) % (gs.length : Int) := Int.emod_nonneg _ (by omega)
        have hz1 : ((kf : Int) + 1 + (j : Int)) % (gs.length : Int) < (gs.length : Int) := Int.emod_lt_of_pos _ (by omega)
        generalize hzz : ((kf : Int) + 1 + (j : Int)) % (gs.length : Int) = z at htm HZ hz0 hz1
        clear hzz
        have HKF := Lib.hid hkf
        subst hkf
        have hn0 : (gs.length : Int) ≠ 0 := by omega
        go_wp2_with (refine Row.wpList_load_g 32 _ rfl (by first | rfl | go_simp) ⟨w.heap.size, 0, none⟩ rfl c _ LT.out Try.underlying32 rfl IA.out ?_)
        refine (MB.out z _ HB.out).mono ?_
        rintro e u2 ⟨rfl, hb⟩
        have HB2 : Hid (Below w.heap.size w u2) := Lib.hid (HB.out.trans (hb.mono HB.out.size))
        have HK2 : Hid (u2.heap[w.heap.size]? = some (.cells c.toArray 32 (0, 0))) := Lib.hid ((hb.block _ (Array.getElem?_eq_some_iff.1 HK.out).1).trans HK.out)
        have FC : Hid (folC T g want j = decide (bits .and .i64 (membS T z : Nat) want ≠ 0)) := Lib.hid (by unfold folC; rw [HZ.out])
        clear hb LT HK htm
        generalize ((membS T z : Nat) : Int) = m at FC ⊢
        by_cases hm : bits .and .i64 m want = 0
        · have FC2 : Hid (folC T g want j = false) := Lib.hid (by rw [FC.out, hm]; rfl)
          go_wp2
          go_roundw
          case rel => exact ⟨j + 1, by omega, by go_num, (fun i hi => by
            by_cases e2 : i = j
            · subst e2; exact FC2.out
            · exact HA.out i (by omega)), HB2.out, HK2.out⟩
          case measure => simp [intOf]; omega
        · have FC2 : Hid (folC T g want j = true) := Lib.hid (by rw [FC.out]; exact decide_eq_true hm)
          have HF : Hid (z = res) := Lib.hid (by rw [NS.out, HZ.out]; exact (follow_hit (by rw [Hgl.out]; exact hjl) FC2.out HA.out).symm)
          go_wp2
          go_ret
          exact ⟨ret_int HF.out, HB2.out⟩
      · have HF : Hid (-1 = res) := Lib.hid (by rw [NS.out]; exact (follow_miss (fun i hi => HA.out i (by rw [Hgl.out] at hi; omega))).symm)
        go_wp2
        go_ret
        exact ⟨ret_int HF.out, HB.out⟩
  · rw [decide_eq_false hg]
    obtain ⟨f, hf⟩ : ∃ f : Int, f = (gs.length : Int) - 1 := ⟨_, rfl⟩
    have FE : Hid (fromG T g = f) := Lib.hid (by unfold fromG; rw [if_neg hg, hf, Hgl.out])
    have FB : Hid (0 < gs.length → 0 ≤ f ∧ f < gs.length) := Lib.hid (fun _ => by omega)
    clear hg
    have hfs := hf.symm
    have HFS := Lib.hid hf
    clear hf
    go_wp2_with fail
    clear hfs
    go_loopw [20] (fun i wr => ∃ j : Nat, j ≤ gs.length ∧ i = .int .i64 j ∧ (∀ i, i < j → folC T g want i = false) ∧ Below w.heap.size w wr ∧ wr.heap[w.heap.size]? = some (.cells c.toArray 32 (0, 0))) (fun i _ => gs.length - (intOf i).toNat)
    case atStart => exact ⟨0, by omega, rfl, (fun i h => by omega), B0.out, B1.out⟩
    case round =>
      obtain ⟨j, hj, rfl, hall, hbel, hblk⟩ := hrel
      have HA := Lib.hid hall
      have HB := Lib.hid hbel
      have LT : Hid (Lies wr ⟨w.heap.size, 0, none⟩ c) := Lib.hid (by have := Row.lies_of_block hblk; simpa using this)
      have HK := Lib.hid hblk
      clear hall hbel hblk
      by_cases hjl : j < gs.length
      · obtain ⟨kf, hkf, hkl⟩ : ∃ kf : Nat, f = (kf : Int) ∧ kf < gs.length := by
          have := FB.out (by omega)
          exact ⟨f.toNat, by omega, by omega⟩
        have htm : ((kf : Int) + 1 + (j : Int)).tmod (gs.length : Int) = ((kf : Int) + 1 + (j : Int)) % (gs.length : Int) := Int.tmod_eq_emod_of_nonneg (by omega)
        have HZ : Hid (((kf : Int) + 1 + (j : Int)) % (gs.length : Int) = (fromG T g + 1 + j) % T.groups.length) := Lib.hid (by rw [FE.out, hkf, Hgl.out])
        have hz0 : 0 ≤ ((kf : Int) + 1 + (j : Int)) % (gs.length : Int) := Int.emod_nonneg _ (by omega)
        have hz1 : ((kf : Int) + 1 + (j : Int)) % (gs.length : Int) < (gs.length : Int) := Int.emod_lt_of_pos _ (by omega)
        generalize hzz : ((kf : Int) + 1 + (j : Int)) % (gs.length : Int) = z at htm HZ hz0 hz1
        clear hzz
        have HKF := Lib.hid hkf
        subst hkf
        have hn0 : (gs.length : Int) ≠ 0 := by omega
        go_wp2_with (refine Row.wpList_load_g 32 _ rfl (by first | rfl | go_simp) ⟨w.heap.size, 0, none⟩ rfl c _ LT.out Try.underlying32 rfl IA.out ?_)
        refine (MB.out z _ HB.out).mono ?_
        rintro e u2 ⟨rfl, hb⟩
        have HB2 : Hid (Below w.heap.size w u2) := Lib.hid (HB.out.trans (hb.mono HB.out.size))
        have HK2 : Hid (u2.heap[w.heap.size]? = some (.cells c.toArray 32 (0, 0))) := Lib.hid ((hb.block _ (Array.getElem?_eq_some_iff.1 HK.out).1).trans HK.out)
        have FC : Hid (folC T g want j = decide (bits .and .i64 (membS T z : Nat) want ≠ 0)) := Lib.hid (by unfold folC; rw [HZ.out])
        clear hb LT HK htm
        generalize ((membS T z : Nat) : Int) = m at FC ⊢
        by_cases hm : bits .and .i64 m want = 0
        · have FC2 : Hid (folC T g want j = false) := Lib.hid (by rw [FC.out, hm]; rfl)
          go_wp2
          go_roundw
          case rel => exact ⟨j + 1, by omega, by go_num, (fun i hi => by
            by_cases e2 : i = j
            · subst e2; exact FC2.out
            · exact HA.out i (by omega)), HB2.out, HK2.out⟩
          case measure => simp [intOf]; omega
        · have FC2 : Hid (folC T g want j = true) := Lib.hid (by rw [FC.out]; exact decide_eq_true hm)
          have HF : Hid (z = res) := Lib.hid (by rw [NS.out, HZ.out]; exact (follow_hit (by rw [Hgl.out]; exact hjl) FC2.out HA.out).symm)
          go_wp2
          go_ret
          exact ⟨ret_int HF.out, HB2.out⟩
      · have HF : Hid (-1 = res) := Lib.hid (by rw [NS.out]; exact (follow_miss (fun i hi => HA.out i (by rw [Hgl.out] at hi; omega))).symm)
        go_wp2
        go_ret
        exact ⟨ret_int HF.out, HB.out⟩
end PlanF
namespace Rg
open Go Go.ChangeShapes Go.WideShapes Go.ChangeAt Go.RowKit
open Tab Flat TabArg QL Ru PlanM
open ChkM (cfAt)
open Clear (phAt)
open PlaceM (where_ spots Spt)
open May (infoP)
theorem cellsL : Try.prog.cellsOf 99 = 3 := by kernel_rfl
theorem rowL : Flat.rowT Try.prog 99 = true := by kernel_rfl
theorem infoLz : ∃ i, Try.prog.info? 99 = some i ∧ i.size = 3 := by
  have h : (Try.prog.info? 99).map (·.size) = some 3 := infoLn
  cases e : Try.prog.info? 99 with
  | none => rw [e] at h; cases h
  | some i => rw [e] at h; exact ⟨i, rfl, Option.some.inj h⟩
theorem idx_ln (l0 l1 : Ln) {q : Nat} (hq : q < 2) (w : World) : Sem.run Try.prog (Instr.index 101 (.agg (Ln.cells l0 ++ Ln.cells l1).toArray) (.int .i64 q)) w = .ok (.agg (Ln.cells (if q = 0 then l0 else l1)).toArray) w := by
  obtain ⟨i, hi, hs⟩ := infoLz
  have hp := Flat.run_part (P := Try.prog) w (t := 99) (d := _) Try.underlying99 (by rw [rowL]; simp) (Ln.cells l0 ++ Ln.cells l1) (q * 3) (by rw [cellsL]; simp [Ln.cells]; omega)
  have ht : ((Ln.cells l0 ++ Ln.cells l1).drop (q * 3)).take 3 = Ln.cells (if q = 0 then l0 else l1) := by
    match q, hq with
    | 0, _ => rfl
    | 1, _ => rfl
  rw [cellsL, Flat.vOf, if_pos rowL, ht] at hp
  unfold Instr.index
  have hc : 0 ≤ (q : Int) ∧ (q : Int) < 2 := by omega
  simp [run_underlying Try.underlying101, asIntOf]
  rw [if_pos (by omega)]
  first | exact hp | (rw [cellsL]; exact hp)
theorem settled_any (T : Tab) (hd : Hd) (r : Rg) (rs : List Ru) (want gr bu : Int) (l0 l1 : Ln) (w : World) (ht : IsTab w hd T) (h8 : rs.length = 8) : Calls Try.prog 45 #[.agg (kC (T.cells hd) r (runsC rs) want gr bu).toArray, .agg (Ln.cells l0 ++ Ln.cells l1).toArray] w fun e w' => e = .returned (.bool (setS rs gr bu l0 && setS rs gr bu l1)) ∧ Below w.heap.size w w' := by
  have h1 : (T.cells hd).length = 131 := by have := (cells_ok ht).size; rwa [List.size_toArray] at this
  have h2 : (runsC rs).length = 96 := by rw [runs_len, h8]
  have LRU : Hid (∀ p : Nat, p < 8 → ∀ u gk, KB u gk (T.cells hd) r (runsC rs) want gr bu → u.cell? ⟨gk, 135 + p * 12 + 7, none⟩ = some (.bool (ruAt rs p).dn)) := Lib.hid (fun p hp u gk k => k.run h8 hp rfl)
  have HR : Hid ((setS rs gr bu l0 && setS rs gr bu l1) = (setS rs gr bu l0 && setS rs gr bu l1)) := Lib.hid rfl
  have HS0 : Hid (∀ l, setS rs gr bu l = (!decide (0 ≤ l.x) && (!SetM.has bu l.n || (SetM.has gr l.n && (ruAt rs l.n).dn)))) := Lib.hid (fun l => rfl)
  generalize T.cells hd = tc at *
  generalize hrc : runsC rs = rc at *
  clear ht h8 hrc
  have L1 := Lib.hid h1
  have L2 := Lib.hid h2
  have hn0 := Blk.Bks.nil w
  have hn1 := hn0.alloc (kC tc r rc want gr bu).toArray 96
  have hn2 := hn1.alloc (Ln.cells l0 ++ Ln.cells l1).toArray 101
  rw [show (w.alloc (.cells (kC tc r rc want gr bu).toArray 96)).heap.size = w.heap.size + 1 by simp] at hn2
  clear hn0
  clear hn1
  go_enter Try.func45, Try.ntmps45
  go_upto_region 1 with fail
  generalize World.alloc (World.alloc w _) _ = v at hn2 ⊢
  generalize hg1 : w.heap.size + 1 = gl at hn2 ⊢
  generalize hg0 : w.heap.size = gk at hn2 ⊢
  clear hg0 hg1
  have H0 := Lib.hid hn2
  clear hn2
  have KF : Hid (∀ W, Below v.heap.size v W → KB W gk tc r rc want gr bu) := Lib.hid (fun W hb => kb (H0.out.step hb) 1 L1.out L2.out rfl)
  clear h1 h2
  go_wp2_with (refine Row.wpList_load_g 101 _ rfl (by first | rfl | (go_simp; done) | fail) ⟨gl, 0, none⟩ rfl (Ln.cells l0 ++ Ln.cells l1) _ (seg H0.out 0 0 rfl _ rfl) Try.underlying101 rfl infoL2 ?_)
  go_loopw [9] (fun i wr => ∃ q : Nat, q ≤ 2 ∧ i = .int .i64 q ∧ (0 < q → setS rs gr bu l0 = true) ∧ (1 < q → setS rs gr bu l1 = true) ∧ Below v.heap.size v wr) (fun i _ => 2 - (intOf i).toNat)
  case atStart => exact ⟨0, by omega, rfl, fun h => absurd h (by omega), fun h => absurd h (by omega), Below.refl _ _⟩
  case round =>
    obtain ⟨q, hq, rfl, s0, s1, hbel⟩ := hrel
    have HB := Lib.hid hbel
    have S0 := Lib.hid s0
    have S1 := Lib.hid s1
    clear hbel s0 s1
    by_cases hlt : q < 2
    · obtain ⟨l, hl⟩ : ∃ l, (if q = 0 then l0 else l1) = l := ⟨_, rfl⟩
      have hidx := idx_ln l0 l1 hlt
      rw [hl] at hidx
      have HL : Hid ((q = 0 ∧ l = l0) ∨ (q = 1 ∧ l = l1)) := Lib.hid (by
        by_cases h0 : q = 0
        · rw [if_pos h0] at hl; exact .inl ⟨h0, hl.symm⟩
        · rw [if_neg h0] at hl; exact .inr ⟨by omega, hl.symm⟩)
      clear hl
      have hsz := HB.out.size
      go_upto_region 4 with (refine Row.wpList_store_new rfl 99 _ _ rfl wr _ l.cells.toArray rfl rfl rfl infoLn rfl (one_ln _) ?_)
      clear hidx
      have hbn : Below v.heap.size v (wr.alloc (.cells l.cells.toArray 99)) := HB.out.alloc hsz _
      have hg := Row.lies_of_block (heap_alloc_new wr (.cells l.cells.toArray 99))
      have HL2 := Lib.hid hg
      have HN := Lib.hid hbn
      clear hg hbn hsz
      generalize wr.alloc (.cells l.cells.toArray 99) = w4 at HL2 HN ⊢
      generalize wr.heap.size = b4 at HL2 ⊢
      have k0 : w4.cell? ⟨b4, 0, none⟩ = some (I l.n) := by have := HL2.out 0 _ rfl; rwa [Tab.add_zero] at this
      have k1 : w4.cell? ⟨b4, 1, none⟩ = some (I l.x) := by have := HL2.out 1 _ rfl; rwa [Addr.add_mid] at this
      have kb0 := Lib.hid (KF.out w4 HN.out)
      have kg := kb0.out.gr
      have kbb := kb0.out.bu
      have HS := Lib.hid (HS0.out l)
      have HH : SetM.has gr l.n = true → 0 ≤ l.n ∧ l.n < 8 := has_range
      obtain ⟨hb, hhb⟩ : ∃ b, SetM.has bu l.n = b := ⟨_, rfl⟩
      obtain ⟨hg, hhg⟩ : ∃ b, SetM.has gr l.n = b := ⟨_, rfl⟩
      have HA : Hid (∀ W, Calls Try.prog 59 #[.int .i64 bu, .int .i64 l.n] W fun e w' => e = .returned (.bool hb) ∧ W = w') := Lib.hid (fun W => by rw [← hhb]; exact Set.has_any _ _ W)
      have HG : Hid (∀ W, Calls Try.prog 59 #[.int .i64 gr, .int .i64 l.n] W fun e w' => e = .returned (.bool hg) ∧ W = w') := Lib.hid (fun W => by rw [← hhg]; exact Set.has_any _ _ W)
      rw [hhb, hhg] at HS
      rw [hhg] at HH
      clear hhb hhg
      have NXT : Hid (∀ v : Bool, setS rs gr bu l = v → (v = true → (0 < q + 1 → setS rs gr bu l0 = true) ∧ (1 < q + 1 → setS rs gr bu l1 = true)) ∧ (v = false → (setS rs gr bu l0 && setS rs gr bu l1) = false)) := Lib.hid (fun v hv => by
        rcases HL.out with ⟨rfl, rfl⟩ | ⟨rfl, rfl⟩
        · exact ⟨fun h => ⟨fun _ => hv.trans h, fun h => absurd h (by omega)⟩, fun h => by rw [hv, h]; rfl⟩
        · exact ⟨fun h => ⟨fun _ => S0.out (by omega), fun _ => hv.trans h⟩, fun h => by rw [hv, h]; exact Bool.and_false _⟩)
      clear HL
      by_cases hx : 0 ≤ l.x
      · have HV : Hid (setS rs gr bu l = false) := Lib.hid (by rw [HS.out, decide_eq_true hx]; rfl)
        cases hb
        · go_wp2_with (first | (go_at_call 59; with_reducible refine (HA.out _).mono ?_; rintro e w' ⟨rfl, rfl⟩) | (go_at_call 59; with_reducible refine (HG.out _).mono ?_; rintro e w' ⟨rfl, rfl⟩))
          go_ret
          exact ⟨ret_bool (((NXT.out _ HV.out).2 rfl).symm), H0.out.bel.trans (HN.out.mono H0.out.bel.size)⟩
        cases hg
        · go_wp2_with (first | (go_at_call 59; with_reducible refine (HA.out _).mono ?_; rintro e w' ⟨rfl, rfl⟩) | (go_at_call 59; with_reducible refine (HG.out _).mono ?_; rintro e w' ⟨rfl, rfl⟩))
          go_ret
          exact ⟨ret_bool (((NXT.out _ HV.out).2 rfl).symm), H0.out.bel.trans (HN.out.mono H0.out.bel.size)⟩
        obtain ⟨p, hp⟩ := Int.eq_ofNat_of_zero_le (HH rfl).1
        have hp8 : p < 8 := by have := (HH rfl).2; omega
        have hp9 : (p : Int) < 8 := by omega
        have LD := LRU.out p hp8 w4 gk kb0.out
        obtain ⟨n, x, t⟩ := l
        dsimp only at hp HS HA HG k0 k1 hx hd NXT
        subst hp
        generalize hdn : (ruAt rs p).dn = dn at *
        clear hdn
        cases dn
        · go_wp2_with (first | (go_at_call 59; with_reducible refine (HA.out _).mono ?_; rintro e w' ⟨rfl, rfl⟩) | (go_at_call 59; with_reducible refine (HG.out _).mono ?_; rintro e w' ⟨rfl, rfl⟩))
          go_ret
          exact ⟨ret_bool (((NXT.out _ HV.out).2 rfl).symm), H0.out.bel.trans (HN.out.mono H0.out.bel.size)⟩
        · go_wp2_with (first | (go_at_call 59; with_reducible refine (HA.out _).mono ?_; rintro e w' ⟨rfl, rfl⟩) | (go_at_call 59; with_reducible refine (HG.out _).mono ?_; rintro e w' ⟨rfl, rfl⟩))
          go_ret
          exact ⟨ret_bool (((NXT.out _ HV.out).2 rfl).symm), H0.out.bel.trans (HN.out.mono H0.out.bel.size)⟩
      by_cases hd : hb = false ∨ (hg = true ∧ (ruAt rs l.n).dn = true)
      · have HV : Hid (setS rs gr bu l = true) := Lib.hid (by rw [HS.out, decide_eq_false hx]; rcases hd with rfl | ⟨rfl, h⟩ <;> simp_all)
        cases hb
        · go_wp2_with (first | (go_at_call 59; with_reducible refine (HA.out _).mono ?_; rintro e w' ⟨rfl, rfl⟩) | (go_at_call 59; with_reducible refine (HG.out _).mono ?_; rintro e w' ⟨rfl, rfl⟩))
          go_roundw
          case rel => exact ⟨q + 1, by omega, by go_num, ((NXT.out _ HV.out).1 rfl).1, ((NXT.out _ HV.out).1 rfl).2, HN.out⟩
          case measure => simp [intOf]; omega
        cases hg
        · simp at hd
        obtain ⟨p, hp⟩ := Int.eq_ofNat_of_zero_le (HH rfl).1
        have hp8 : p < 8 := by have := (HH rfl).2; omega
        have hp9 : (p : Int) < 8 := by omega
        have LD := LRU.out p hp8 w4 gk kb0.out
        obtain ⟨n, x, t⟩ := l
        dsimp only at hp HS HA HG k0 k1 hx hd HV
        subst hp
        have hdn : (ruAt rs p).dn = true := by simpa using hd
        rw [hdn] at LD
        clear hdn hd
        go_wp2_with (first | (go_at_call 59; with_reducible refine (HA.out _).mono ?_; rintro e w' ⟨rfl, rfl⟩) | (go_at_call 59; with_reducible refine (HG.out _).mono ?_; rintro e w' ⟨rfl, rfl⟩))
        go_roundw
        case rel => exact ⟨q + 1, by omega, by go_num, ((NXT.out _ HV.out).1 rfl).1, ((NXT.out _ HV.out).1 rfl).2, HN.out⟩
        case measure => simp [intOf]; omega
      · have HV : Hid (setS rs gr bu l = false) := Lib.hid (by rw [HS.out, decide_eq_false hx]; cases hb <;> cases hg <;> simp_all)
        cases hb
        · exact absurd (.inl rfl) hd
        cases hg
        · go_wp2_with (first | (go_at_call 59; with_reducible refine (HA.out _).mono ?_; rintro e w' ⟨rfl, rfl⟩) | (go_at_call 59; with_reducible refine (HG.out _).mono ?_; rintro e w' ⟨rfl, rfl⟩))
          go_ret
          exact ⟨ret_bool (((NXT.out _ HV.out).2 rfl).symm), H0.out.bel.trans (HN.out.mono H0.out.bel.size)⟩
        obtain ⟨p, hp⟩ := Int.eq_ofNat_of_zero_le (HH rfl).1
        have hp8 : p < 8 := by have := (HH rfl).2; omega
        have hp9 : (p : Int) < 8 := by omega
        have LD := LRU.out p hp8 w4 gk kb0.out
        obtain ⟨n, x, t⟩ := l
        dsimp only at hp HS HA HG k0 k1 hx hd HV
        subst hp
        have hdn : (ruAt rs p).dn = false := by cases e : (ruAt rs p).dn with | true => exact absurd (.inr ⟨rfl, e⟩) hd | false => rfl
        rw [hdn] at LD
        clear hdn hd
        go_wp2_with (first | (go_at_call 59; with_reducible refine (HA.out _).mono ?_; rintro e w' ⟨rfl, rfl⟩) | (go_at_call 59; with_reducible refine (HG.out _).mono ?_; rintro e w' ⟨rfl, rfl⟩))
        go_ret
        exact ⟨ret_bool (((NXT.out _ HV.out).2 rfl).symm), H0.out.bel.trans (HN.out.mono H0.out.bel.size)⟩
    · obtain rfl : q = 2 := by omega
      have HE : Hid ((setS rs gr bu l0 && setS rs gr bu l1) = true) := Lib.hid (by rw [S0.out (by omega), S1.out (by omega)]; rfl)
      go_wp2
      go_ret
      exact ⟨ret_bool HE.out.symm, H0.out.bel.trans (HB.out.mono H0.out.bel.size)⟩
end Rg
namespace Rg
open Go Go.ChangeShapes Go.WideShapes Go.ChangeAt Go.RowKit
open Tab Flat TabArg QL Ru PlanM
open ChkM (cfAt)
open Clear (phAt)
open PlaceM (where_ spots Spt)
open May (infoP)
theorem builtA : Try.prog.built 34 [(0, I (-1)), (1, I (-1))] = some #[I (-1), I (-1)] := by kernel_rfl
theorem builtR (g : Int) : Try.prog.built 36 [(0, I g), (1, .agg #[I (-1), I (-1)])] = some (Rg.cells ⟨g, -1, -1, false⟩).toArray := by kernel_rfl
theorem across_any (T : Tab) (hd : Hd) (r : Rg) (rs : List Ru) (want gr bu : Int) (w : World) (ht : IsTab w hd T) (h8 : rs.length = 8) (few : T.groups.length ≤ 1000) : Calls Try.prog 40 #[.agg (kC (T.cells hd) r (runsC rs) want gr bu).toArray] w fun e w' => e = .returned (.agg (Rg.cells (acrS T r want bu)).toArray) ∧ Below w.heap.size w w' := by
  have h1 : (T.cells hd).length = 131 := by have := (cells_ok ht).size; rwa [List.size_toArray] at this
  have h2 : (runsC rs).length = 96 := by rw [runs_len, h8]
  have IA : (Try.prog.info? 32).map (·.size) = some (T.cells hd).length := by rw [h1]; exact PlanW.infoT
  obtain ⟨x, hx⟩ : ∃ x, followS T r.g want = x := ⟨_, rfl⟩
  have FO : Hid (∀ W, Below w.heap.size w W → Calls Try.prog 62 #[.agg (T.cells hd).toArray, .int .i64 r.g, .int .i64 want] W fun e w' => e = .returned (.int .i64 x) ∧ Below W.heap.size W w') := Lib.hid (fun W hb => by rw [← hx]; exact PlanF.follow_any T hd r.g want W (ht.below hb) few)
  have HR : Hid (acrS T r want bu = if bu = 0 then ⟨if x < 0 then r.g else x, -1, -1, false⟩ else r) := Lib.hid (by rw [← hx]; rfl)
  generalize acrS T r want bu = res at HR ⊢
  generalize T.cells hd = tc at *
  generalize runsC rs = rc at *
  clear ht h8 hx few
  have L1 := Lib.hid h1
  have L2 := Lib.hid h2
  have hn0 := Blk.Bks.nil w
  have hn1 := hn0.alloc (kC tc r rc want gr bu).toArray 96
  have hn2 := hn1.alloc #[I 0, I 0, I 0, .bool false] 36
  rw [show (w.alloc (.cells (kC tc r rc want gr bu).toArray 96)).heap.size = w.heap.size + 1 by simp] at hn2
  clear hn0
  clear hn1
  go_enter Try.func40, Try.ntmps40
  go_upto_region 1 with fail
  generalize World.alloc (World.alloc w _) _ = v at hn2 ⊢
  generalize hg1 : w.heap.size + 1 = gz at hn2 ⊢
  generalize hg0 : w.heap.size = gk at hn2 ⊢
  clear hg0 hg1
  have H0 := Lib.hid hn2
  clear hn2
  have kb0 := Lib.hid (kb H0.out 1 L1.out L2.out rfl)
  clear h1 h2
  have kbb := kb0.out.bu
  have k1 := kb0.out.rg
  have k2 := kb0.out.w
  by_cases hz : bu = 0
  rotate_left
  · have HS : Hid (r = res) := Lib.hid (by rw [HR.out, if_neg hz])
    have hzb : (bu != 0) = true := bne_iff_ne.2 hz
    go_upto_region 2 with fail
    go_wp2_with (first | (refine Row.wpList_load_g 36 _ rfl (by first | rfl | (go_simp; done) | fail) ⟨gk, 131, none⟩ rfl r.cells _ kb0.out.lr Try.underlying36 rfl infoRg ?_) | (refine wpList_store_row rfl 36 _ _ rfl gz r.cells.toArray rfl rfl 36 _ (H0.out.at 0 rfl) infoRg rfl (one_rg _) ?_))
    have hput := H0.out.put 0 rfl r.cells.toArray
    simp only [List.set_cons_succ, List.set_cons_zero] at hput
    generalize World.setRow v gz _ = v2 at hput ⊢
    have HG := Lib.hid hput
    clear hput
    go_wp2_with fail
    (try simp only [Exit.inBlock, Exit.then])
    refine bodyPost_ret (v := .agg r.cells.toArray) ?_ rfl ⟨by rw [HS.out], HG.out.bel⟩
    exact results_cell_row rfl _ _ gz 36 _ (0, 0) _ rfl (HG.out.at 0 rfl) Try.underlying36 rfl infoRg
  subst hz
  replace HR := Lib.hid (HR.out.trans (if_pos rfl))
  go_wp2_with (refine Row.wpList_load_g 32 _ rfl (by first | rfl | (go_simp; done) | fail) ⟨gk, 0, none⟩ rfl tc _ kb0.out.lt Try.underlying32 rfl IA ?_)
  refine (FO.out _ H0.out.bel).mono ?_
  rintro e v3 ⟨rfl, b3⟩
  have H3 := Lib.hid (H0.out.step b3)
  have kb3 := Lib.hid (kb H3.out 1 L1.out L2.out rfl)
  clear b3 H0 kb0 kbb k1 k2 FO
  have k1 := kb3.out.rg
  by_cases hn : x < 0
  · have HS : Hid (⟨r.g, -1, -1, false⟩ = res) := Lib.hid (by rw [HR.out, if_pos hn])
    go_upto_region 6 with fail
    clear k1
    go_wp2_with (first | (refine wpList_build rfl 34 [(0, .const (I (-1))), (1, .const (I (-1)))] rfl #[I (-1), I (-1)] _ (by rfl) (builtA) ?_) | (refine wpList_build rfl 36 [(0, .tmp 22), (1, .tmp 23)] rfl (Rg.cells ⟨r.g, -1, -1, false⟩).toArray _ (by rfl) (builtR _) ?_) | (refine wpList_store_row rfl 36 _ _ rfl gz (Rg.cells ⟨r.g, -1, -1, false⟩).toArray rfl rfl 36 _ (H3.out.at 0 rfl) infoRg rfl (one_rg _) ?_))
    have hput := H3.out.put 0 rfl (Rg.cells ⟨r.g, -1, -1, false⟩).toArray
    simp only [List.set_cons_succ, List.set_cons_zero] at hput
    generalize World.setRow v3 gz _ = v4 at hput ⊢
    have HG := Lib.hid hput
    clear hput
    go_wp2_with fail
    (try simp only [Exit.inBlock, Exit.then])
    refine bodyPost_ret (v := .agg (Rg.cells ⟨r.g, -1, -1, false⟩).toArray) ?_ rfl ⟨by rw [HS.out], HG.out.bel⟩
    exact results_cell_row rfl _ _ gz 36 _ (0, 0) _ rfl (HG.out.at 0 rfl) Try.underlying36 rfl infoRg
  · have HS : Hid (⟨x, -1, -1, false⟩ = res) := Lib.hid (by rw [HR.out, if_neg hn])
    go_upto_region 6 with fail
    clear k1
    go_wp2_with (first | (refine wpList_build rfl 34 [(0, .const (I (-1))), (1, .const (I (-1)))] rfl #[I (-1), I (-1)] _ (by rfl) (builtA) ?_) | (refine wpList_build rfl 36 [(0, .tmp 22), (1, .tmp 23)] rfl (Rg.cells ⟨x, -1, -1, false⟩).toArray _ (by rfl) (builtR _) ?_) | (refine wpList_store_row rfl 36 _ _ rfl gz (Rg.cells ⟨x, -1, -1, false⟩).toArray rfl rfl 36 _ (H3.out.at 0 rfl) infoRg rfl (one_rg _) ?_))
    have hput := H3.out.put 0 rfl (Rg.cells ⟨x, -1, -1, false⟩).toArray
    simp only [List.set_cons_succ, List.set_cons_zero] at hput
    generalize World.setRow v3 gz _ = v4 at hput ⊢
    have HG := Lib.hid hput
    clear hput
    go_wp2_with fail
    (try simp only [Exit.inBlock, Exit.then])
    refine bodyPost_ret (v := .agg (Rg.cells ⟨x, -1, -1, false⟩).toArray) ?_ rfl ⟨by rw [HS.out], HG.out.bel⟩
    exact results_cell_row rfl _ _ gz 36 _ (0, 0) _ rfl (HG.out.at 0 rfl) Try.underlying36 rfl infoRg
end Rg
end Go.Proofs.Ytjgpljnbeolapaa
