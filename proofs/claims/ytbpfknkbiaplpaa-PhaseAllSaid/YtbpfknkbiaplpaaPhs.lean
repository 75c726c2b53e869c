/- The document's Step, Kept and Begin of a phase. -/
import Derived.Test.YtbpfknkbiaplpaaRu
import Derived.Test.YtbpfknkbiaplpaaPhr
namespace Go.Proofs.Ytbpfknkbiaplpaa.Ru
open Go Go.ChangeShapes Go.WideShapes Go.ChangeAt Go.RowKit
open Tab Flat TabArg QL
open May (infoP)
open Ped (ft cu idl Ft infoFt)
open Gap (lm lf gr Tn infoTn)
set_option linter.unusedVariables false
set_option linter.unusedSimpArgs false
set_option maxRecDepth 100000
theorem wpQuiet_build {P : Program} {C : World → Prop} {ops : Array Oper} {Q : Act → Prop} {a : Act} {o : Oper} {rest : List Oper} (hw : Region.wanted o (yielded ops a.tmps) = true) (t : TypeId) (parts : List (Nat × Operand)) (ho : o.op = .build t parts.toArray) (cells : Array Value) (vs : List (Nat × Value)) (hv : parts.map (fun (i, x) => (i, a.eval x)) = vs) (hb : P.built t vs = some cells)
    (h : wpQuiet P ops C Q rest (a.put o.dst (.agg cells))) : wpQuiet P ops C Q (o :: rest) a :=
  wpQuiet_step fun K hK => by
    subst hv
    rw [if_pos hw]
    refine ⟨_, fun w hw' => ?_, hK _ h⟩
    unfold Oper.quietAt execOp
    have hb' : P.built t (parts.toArray.map fun (i, x) => (i, a.eval x)).toList = some cells := by simpa using hb
    simp only [ho, Sem.run_bind, run_build w t _ _ hb', Result.andThen_ok, Sem.run_pure]
    exact ⟨rfl, rfl⟩
set_option maxHeartbeats 8000000 in
theorem rstep_end (p : Ph) (r : Ru) (c : Cu) (hco : r.co = 1) (hen : c.en = true) (w : World) : Calls Try.prog 12 #[.agg p.cells.toArray, .agg r.cells.toArray, .agg c.cells.toArray] w fun e w' => e = .returned (.agg (Ru.cells (stp p r c)).toArray) ∧ Below w.heap.size w w' := by
  obtain ⟨⟨x, y, z⟩, ht⟩ : ∃ t, tre p r = t := ⟨_, rfl⟩
  have HE : Hid (stp p r c = ⟨2, 1, 0, 0, 0, 0, 0, false, false, x, y, z⟩) := Lib.hid (by unfold stp fin; rw [if_pos hco, if_pos hen, ht])
  obtain ⟨dn, hdn⟩ : ∃ x, r.dn = x := ⟨_, rfl⟩
  unfold tre at ht
  rw [hdn] at ht
  have hn0 := Blk.Bks.nil w
  have hn1 := hn0.alloc p.cells.toArray 23
  have hn2 := hn1.alloc (Ru.cells r).toArray 29
  rw [show (w.alloc (.cells p.cells.toArray 23)).heap.size = w.heap.size + 1 by simp] at hn2
  have hn3 := hn2.alloc c.cells.toArray 31
  rw [show ((w.alloc (.cells p.cells.toArray 23)).alloc (.cells (Ru.cells r).toArray 29)).heap.size = w.heap.size + 1 + 1 by simp] at hn3
  have hn4 := hn3.alloc #[I 0, I 0, I 0, I 0, I 0, I 0, I 0, .bool false, .bool false, I 0, I 0, I 0] 29
  rw [show (((w.alloc (.cells p.cells.toArray 23)).alloc (.cells (Ru.cells r).toArray 29)).alloc (.cells c.cells.toArray 31)).heap.size = w.heap.size + 1 + 1 + 1 by simp] at hn4
  clear hn0
  clear hn1
  clear hn2
  clear hn3
  go_enter Try.func12, Try.ntmps12
  go_upto_region 1 with fail
  generalize World.alloc (World.alloc (World.alloc (World.alloc w _) _) _) _ = v at hn4 ⊢
  generalize hg3 : w.heap.size + 1 + 1 + 1 = gz at hn4 ⊢
  generalize hg2 : w.heap.size + 1 + 1 = gc at hn4 ⊢
  generalize hg1 : w.heap.size + 1 = gr at hn4 ⊢
  generalize hg0 : w.heap.size = gp at hn4 ⊢
  clear hg0 hg1 hg2 hg3
  have H0 := Lib.hid hn4
  clear hn4
  have t_rco : v.cell? ⟨gr, 0, none⟩ = some (I r.co) := H0.out.cell 2 0 rfl rfl
  have t_cen : v.cell? ⟨gc, 1, none⟩ = some (.bool c.en) := H0.out.cell 1 1 rfl rfl
  have t_rdn : v.cell? ⟨gr, 7, none⟩ = some (.bool r.dn) := H0.out.cell 2 7 rfl rfl
  rw [hco] at t_rco
  rw [hen] at t_cen
  go_upto_region 5 with (first | (refine Row.wpList_load_g 27 _ rfl (by first | rfl | (go_simp; done) | fail) ⟨gr, 9, none⟩ rfl [I r.tl, I r.tu, I r.td] _ (seg H0.out 2 9 rfl _ rfl) Try.underlying27 rfl infoTn ?_) | (refine wpList_build rfl 29 [(0, .const (I 2)), (1, .const (I 1)), (8, .tmp 17)] rfl (Ru.cells ⟨2, 1, 0, 0, 0, 0, 0, false, false, r.tl, r.tu, r.td⟩).toArray _ (by rfl) (built3 2 1 r.tl r.tu r.td) ?_) | (refine Row.wpList_store_new rfl 29 _ _ rfl _ _ (Ru.cells ⟨2, 1, 0, 0, 0, 0, 0, false, false, r.tl, r.tu, r.td⟩).toArray rfl rfl rfl infoRu rfl (one_ru _) ?_))
  have hn := H0.out.alloc (Ru.cells ⟨2, 1, 0, 0, 0, 0, 0, false, false, r.tl, r.tu, r.td⟩).toArray 29
  generalize World.alloc v _ = v1 at hn ⊢
  generalize v.heap.size = gn at hn ⊢
  have H1 := Lib.hid hn
  clear hn
  clear H0 t_rco t_cen t_rdn
  have t_rdn : v1.cell? ⟨gr, 7, none⟩ = some (.bool r.dn) := H1.out.cell 3 7 rfl rfl
  rw [hdn] at t_rdn
  cases dn
  · rw [if_neg (by simp)] at ht
    injection ht with e1 e2 e3
    subst e1 e2 e3
    go_upto_region 7 with fail
    go_wp2_with (first | (refine Row.wpList_load_g 29 _ rfl (by first | rfl | (go_simp; done) | fail) ⟨gn, 0, none⟩ rfl (Ru.cells ⟨2, 1, 0, 0, 0, 0, 0, false, false, r.tl, r.tu, r.td⟩) _ (seg H1.out 0 0 rfl _ rfl) Try.underlying29 rfl infoRu ?_) | (refine wpList_store_row rfl 29 _ _ rfl gz (Ru.cells ⟨2, 1, 0, 0, 0, 0, 0, false, false, r.tl, r.tu, r.td⟩).toArray rfl rfl 29 _ (H1.out.at 1 rfl) infoRu rfl (one_ru _) ?_))
    have hput := H1.out.put 1 rfl (Ru.cells ⟨2, 1, 0, 0, 0, 0, 0, false, false, r.tl, r.tu, r.td⟩).toArray
    simp only [List.set_cons_succ, List.set_cons_zero] at hput
    generalize World.setRow v1 gz _ = vz at hput ⊢
    have HG := Lib.hid hput
    clear hput
    go_wp2_with fail
    (try simp only [Exit.inBlock, Exit.then])
    refine bodyPost_ret (v := .agg (Ru.cells ⟨2, 1, 0, 0, 0, 0, 0, false, false, r.tl, r.tu, r.td⟩).toArray) ?_ rfl ⟨ret_ru HE.out.symm, HG.out.bel⟩
    exact results_cell_row rfl _ _ gz 29 _ (0, 0) _ rfl (HG.out.at 1 rfl) Try.underlying29 rfl infoRu
  · rw [if_pos rfl] at ht
    have GR : Hid (∀ W, Calls Try.prog 20 #[.agg p.cells.toArray, .agg #[I r.tl, I r.tu, I r.td], .bool r.mx] W fun e w' => e = .returned (.agg #[I x, I y, I z]) ∧ Below W.heap.size W w') := Lib.hid (fun W => Gap.rgrow_is ht W)
    clear ht
    go_upto_region 6 with fail
    clear t_rdn
    have t_rmx : v1.cell? ⟨gr, 8, none⟩ = some (.bool r.mx) := H1.out.cell 3 8 rfl rfl
    go_wp2_with (first | (refine Row.wpList_load_g 23 _ rfl (by first | rfl | (go_simp; done) | fail) ⟨gp, 0, none⟩ rfl p.cells _ (seg H1.out 4 0 rfl _ rfl) Try.underlying23 rfl infoP ?_) | (refine Row.wpList_load_g 27 _ rfl (by first | rfl | (go_simp; done) | fail) ⟨gr, 9, none⟩ rfl [I r.tl, I r.tu, I r.td] _ (seg H1.out 3 9 rfl _ rfl) Try.underlying27 rfl infoTn ?_))
    refine (GR.out _).mono ?_
    rintro e v3 ⟨rfl, bc⟩
    have H3 := Lib.hid (H1.out.step bc)
    clear bc
    go_upto_region 7 with (refine store_mid rfl 27 _ _ rfl gn 9 #[I x, I y, I z] rfl rfl 29 _ (Ru.cells ⟨2, 1, 0, 0, 0, 0, 0, false, false, x, y, z⟩).toArray H3.out 0 rfl infoTn (by first | decide | (simp [Ru.cells]; done) | fail) (by simp [Value.oneCell']) rfl ?_)
    have hput := H3.out.put 0 rfl (Ru.cells ⟨2, 1, 0, 0, 0, 0, 0, false, false, x, y, z⟩).toArray
    simp only [List.set_cons_succ, List.set_cons_zero] at hput
    generalize World.setRow _ gn _ = v4 at hput ⊢
    have H4 := Lib.hid hput
    clear hput
    clear H1 H3 GR t_rmx
    go_wp2_with (first | (refine Row.wpList_load_g 29 _ rfl (by first | rfl | (go_simp; done) | fail) ⟨gn, 0, none⟩ rfl (Ru.cells ⟨2, 1, 0, 0, 0, 0, 0, false, false, x, y, z⟩) _ (seg H4.out 0 0 rfl _ rfl) Try.underlying29 rfl infoRu ?_) | (refine wpList_store_row rfl 29 _ _ rfl gz (Ru.cells ⟨2, 1, 0, 0, 0, 0, 0, false, false, x, y, z⟩).toArray rfl rfl 29 _ (H4.out.at 1 rfl) infoRu rfl (one_ru _) ?_))
    have hput := H4.out.put 1 rfl (Ru.cells ⟨2, 1, 0, 0, 0, 0, 0, false, false, x, y, z⟩).toArray
    simp only [List.set_cons_succ, List.set_cons_zero] at hput
    generalize World.setRow v4 gz _ = vz at hput ⊢
    have HG := Lib.hid hput
    clear hput
    go_wp2_with fail
    (try simp only [Exit.inBlock, Exit.then])
    refine bodyPost_ret (v := .agg (Ru.cells ⟨2, 1, 0, 0, 0, 0, 0, false, false, x, y, z⟩).toArray) ?_ rfl ⟨ret_ru HE.out.symm, HG.out.bel⟩
    exact results_cell_row rfl _ _ gz 29 _ (0, 0) _ rfl (HG.out.at 1 rfl) Try.underlying29 rfl infoRu
set_option maxHeartbeats 8000000 in
theorem rstep_stay (p : Ph) (r : Ru) (c : Cu) (hco : r.co = 1) (hen : c.en = false) (w : World) : Calls Try.prog 12 #[.agg p.cells.toArray, .agg r.cells.toArray, .agg c.cells.toArray] w fun e w' => e = .returned (.agg (Ru.cells (stp p r c)).toArray) ∧ Below w.heap.size w w' := by
  have HE : Hid (stp p r c = sty p c (lon p r c)) := Lib.hid (by unfold stp; rw [if_pos hco, hen, if_neg (by simp)])
  obtain ⟨D, hD⟩ : ∃ D, sty p c (lon p r c) = D := ⟨_, rfl⟩
  rw [hD] at HE
  obtain ⟨du, hdu⟩ : ∃ x, duB p c (lon p r c) = x := ⟨_, rfl⟩
  have GN : Hid (∀ W, Calls Try.prog 24 #[.agg p.cells.toArray, .agg r.cells.toArray, .agg c.cells.toArray] W fun e w' => e = .returned (.tuple #[.agg D.cells.toArray, .bool du]) ∧ Below W.heap.size W w') := Lib.hid (fun W => by rw [← hD, ← hdu]; exact green_any p r c W)
  clear hdu
  have hn0 := Blk.Bks.nil w
  have hn1 := hn0.alloc p.cells.toArray 23
  have hn2 := hn1.alloc (Ru.cells r).toArray 29
  rw [show (w.alloc (.cells p.cells.toArray 23)).heap.size = w.heap.size + 1 by simp] at hn2
  have hn3 := hn2.alloc c.cells.toArray 31
  rw [show ((w.alloc (.cells p.cells.toArray 23)).alloc (.cells (Ru.cells r).toArray 29)).heap.size = w.heap.size + 1 + 1 by simp] at hn3
  have hn4 := hn3.alloc #[I 0, I 0, I 0, I 0, I 0, I 0, I 0, .bool false, .bool false, I 0, I 0, I 0] 29
  rw [show (((w.alloc (.cells p.cells.toArray 23)).alloc (.cells (Ru.cells r).toArray 29)).alloc (.cells c.cells.toArray 31)).heap.size = w.heap.size + 1 + 1 + 1 by simp] at hn4
  clear hn0
  clear hn1
  clear hn2
  clear hn3
  go_enter Try.func12, Try.ntmps12
  go_upto_region 1 with fail
  generalize World.alloc (World.alloc (World.alloc (World.alloc w _) _) _) _ = v at hn4 ⊢
  generalize hg3 : w.heap.size + 1 + 1 + 1 = gz at hn4 ⊢
  generalize hg2 : w.heap.size + 1 + 1 = gc at hn4 ⊢
  generalize hg1 : w.heap.size + 1 = gr at hn4 ⊢
  generalize hg0 : w.heap.size = gp at hn4 ⊢
  clear hg0 hg1 hg2 hg3
  have H0 := Lib.hid hn4
  clear hn4
  have t_rco : v.cell? ⟨gr, 0, none⟩ = some (I r.co) := H0.out.cell 2 0 rfl rfl
  have t_cen : v.cell? ⟨gc, 1, none⟩ = some (.bool c.en) := H0.out.cell 1 1 rfl rfl
  rw [hco] at t_rco
  rw [hen] at t_cen
  go_wp2_with (first | (refine Row.wpList_load_g 23 _ rfl (by first | rfl | (go_simp; done) | fail) ⟨gp, 0, none⟩ rfl p.cells _ (seg H0.out 3 0 rfl _ rfl) Try.underlying23 rfl infoP ?_) | (refine Row.wpList_load_g 29 _ rfl (by first | rfl | (go_simp; done) | fail) ⟨gr, 0, none⟩ rfl r.cells _ (seg H0.out 2 0 rfl _ rfl) Try.underlying29 rfl infoRu ?_) | (refine Row.wpList_load_g 31 _ rfl (by first | rfl | (go_simp; done) | fail) ⟨gc, 0, none⟩ rfl c.cells _ (seg H0.out 1 0 rfl _ rfl) Try.underlying31 rfl infoCu ?_))
  refine (GN.out _).mono ?_
  rintro e v1 ⟨rfl, bc⟩
  have H1 := Lib.hid (H0.out.step bc)
  clear bc
  clear t_rco t_cen
  go_upto_region 9 with (refine Row.wpList_store_new rfl 29 _ _ rfl _ _ D.cells.toArray rfl rfl rfl infoRu rfl (one_ru _) ?_)
  have hn := H1.out.alloc D.cells.toArray 29
  generalize World.alloc v1 _ = v2 at hn ⊢
  generalize v1.heap.size = gn at hn ⊢
  have H2 := Lib.hid hn
  clear hn
  clear H0 H1 GN
  go_wp2_with (first | (refine Row.wpList_load_g 29 _ rfl (by first | rfl | (go_simp; done) | fail) ⟨gn, 0, none⟩ rfl D.cells _ (seg H2.out 0 0 rfl _ rfl) Try.underlying29 rfl infoRu ?_) | (refine wpList_store_row rfl 29 _ _ rfl gz D.cells.toArray rfl rfl 29 _ (H2.out.at 1 rfl) infoRu rfl (one_ru _) ?_))
  have hput := H2.out.put 1 rfl D.cells.toArray
  simp only [List.set_cons_succ, List.set_cons_zero] at hput
  generalize World.setRow v2 gz _ = vz at hput ⊢
  have HG := Lib.hid hput
  clear hput
  go_wp2_with fail
  (try simp only [Exit.inBlock, Exit.then])
  refine bodyPost_ret (v := .agg D.cells.toArray) ?_ rfl ⟨ret_ru HE.out.symm, HG.out.bel⟩
  exact results_cell_row rfl _ _ gz 29 _ (0, 0) _ rfl (HG.out.at 1 rfl) Try.underlying29 rfl infoRu
theorem moreB (n : Int) (w : World) : Calls Try.prog 25 #[.int .i64 n] w fun e w' => e = .returned (.int .i64 (Cnt.more n)) ∧ Below w.heap.size w w' := (Cnt.rmore_any n w).mono fun e w' h => ⟨h.1, h.2 ▸ Below.refl _ _⟩
set_option maxHeartbeats 8000000 in
theorem rstep_yellow (p : Ph) (r : Ru) (c : Cu) (hco : r.co = 2) (w : World) : Calls Try.prog 12 #[.agg p.cells.toArray, .agg r.cells.toArray, .agg c.cells.toArray] w fun e w' => e = .returned (.agg (Ru.cells (stp p r c)).toArray) ∧ Below w.heap.size w w' := by
  obtain ⟨tm, htm⟩ : ∃ x, r.tm = x := ⟨_, rfl⟩
  obtain ⟨ye, hye⟩ : ∃ x, p.yellow = x := ⟨_, rfl⟩
  obtain ⟨re, hre⟩ : ∃ x, p.red = x := ⟨_, rfl⟩
  by_cases h1 : tm < ye
  · obtain ⟨n1, hn1⟩ : ∃ x, Cnt.more r.tm = x := ⟨_, rfl⟩
    have OM : Hid (∀ W, Calls Try.prog 25 #[.int .i64 r.tm] W fun e w' => e = .returned (.int .i64 n1) ∧ Below W.heap.size W w') := Lib.hid (fun W => by rw [← hn1]; exact moreB _ W)
    have HE : Hid (stp p r c = ⟨2, n1, 0, 0, 0, 0, 0, false, false, r.tl, r.tu, r.td⟩) := Lib.hid (by unfold stp yel; rw [if_neg (by rw [hco]; decide), if_pos hco, htm, hye, if_pos h1]; unfold lst; rw [hn1])
    clear hn1
    rw [htm] at OM
    have hn0 := Blk.Bks.nil w
    have hn1 := hn0.alloc p.cells.toArray 23
    have hn2 := hn1.alloc (Ru.cells r).toArray 29
    rw [show (w.alloc (.cells p.cells.toArray 23)).heap.size = w.heap.size + 1 by simp] at hn2
    have hn3 := hn2.alloc c.cells.toArray 31
    rw [show ((w.alloc (.cells p.cells.toArray 23)).alloc (.cells (Ru.cells r).toArray 29)).heap.size = w.heap.size + 1 + 1 by simp] at hn3
    have hn4 := hn3.alloc #[I 0, I 0, I 0, I 0, I 0, I 0, I 0, .bool false, .bool false, I 0, I 0, I 0] 29
    rw [show (((w.alloc (.cells p.cells.toArray 23)).alloc (.cells (Ru.cells r).toArray 29)).alloc (.cells c.cells.toArray 31)).heap.size = w.heap.size + 1 + 1 + 1 by simp] at hn4
    clear hn0
    clear hn1
    clear hn2
    clear hn3
    go_enter Try.func12, Try.ntmps12
    go_upto_region 1 with fail
    generalize World.alloc (World.alloc (World.alloc (World.alloc w _) _) _) _ = v at hn4 ⊢
    generalize hg3 : w.heap.size + 1 + 1 + 1 = gz at hn4 ⊢
    generalize hg2 : w.heap.size + 1 + 1 = gc at hn4 ⊢
    generalize hg1 : w.heap.size + 1 = gr at hn4 ⊢
    generalize hg0 : w.heap.size = gp at hn4 ⊢
    clear hg0 hg1 hg2 hg3
    have H0 := Lib.hid hn4
    clear hn4
    have t_rco : v.cell? ⟨gr, 0, none⟩ = some (I r.co) := H0.out.cell 2 0 rfl rfl
    have t_rtm : v.cell? ⟨gr, 1, none⟩ = some (I r.tm) := H0.out.cell 2 1 rfl rfl
    have t_pyellow : v.cell? ⟨gp, 6, none⟩ = some (I p.yellow) := H0.out.cell 3 6 rfl rfl
    have t_pred : v.cell? ⟨gp, 7, none⟩ = some (I p.red) := H0.out.cell 3 7 rfl rfl
    rw [hco] at t_rco
    rw [htm] at t_rtm
    rw [hye] at t_pyellow
    rw [hre] at t_pred
    go_upto_region 12 with fail
    (try dsimp only [Act.put])
    have q1 : ∀ q : QB.By v.heap.size v, q.world.cell? ⟨gr, 1, none⟩ = some (I r.tm) := fun q => (H0.out.by q).cell 2 1 rfl rfl
    refine QT.region v.heap.size 5 (by kernel_rfl) (by kernel_rfl) ?_
    simp only [List.take_succ_cons, List.take_zero]
    repeat first
      | (refine wpQuiet_load rfl 27 _ rfl ⟨gr, 9, none⟩ rfl [I r.tl, I r.tu, I r.td] _ (fun w' ⟨pw, e⟩ => by rw [e]; exact seg (H0.out.by pw) 2 9 rfl _ rfl) Try.underlying27 rfl infoTn ?_
         dsimp only [Act.put]
         simp only [List.setIfInBounds_toArray, List.set_cons_zero, List.set_cons_succ])
      | (quiet_step (first | (go_at_call 25; with_reducible exact QB.call_of (Nat.le_refl _) (fun b => OM.out _))))
    refine wpQuiet_nil ?_
    intro _ hw'
    obtain ⟨pq, rfl⟩ := hw'
    have HP := Lib.hid (H0.out.by pq)
    generalize pq.world = vp at HP ⊢
    simp only [List.drop_succ_cons, List.drop_zero]
    clear q1
    go_wp2_with (first | (refine wpList_build rfl 29 [(0, .const (I 2)), (1, .tmp 46), (8, .tmp 48)] rfl (Ru.cells ⟨2, n1, 0, 0, 0, 0, 0, false, false, r.tl, r.tu, r.td⟩).toArray _ (by rfl) (built3 2 n1 r.tl r.tu r.td) ?_) | (refine wpList_store_row rfl 29 _ _ rfl gz (Ru.cells ⟨2, n1, 0, 0, 0, 0, 0, false, false, r.tl, r.tu, r.td⟩).toArray rfl rfl 29 _ (HP.out.at 0 rfl) infoRu rfl (one_ru _) ?_))
    have hput := HP.out.put 0 rfl (Ru.cells ⟨2, n1, 0, 0, 0, 0, 0, false, false, r.tl, r.tu, r.td⟩).toArray
    simp only [List.set_cons_succ, List.set_cons_zero] at hput
    generalize World.setRow vp gz _ = vz at hput ⊢
    have HG := Lib.hid hput
    clear hput
    go_wp2_with fail
    (try simp only [Exit.inBlock, Exit.then])
    refine bodyPost_ret (v := .agg (Ru.cells ⟨2, n1, 0, 0, 0, 0, 0, false, false, r.tl, r.tu, r.td⟩).toArray) ?_ rfl ⟨ret_ru HE.out.symm, HG.out.bel⟩
    exact results_cell_row rfl _ _ gz 29 _ (0, 0) _ rfl (HG.out.at 0 rfl) Try.underlying29 rfl infoRu
  by_cases h2 : 0 < re
  · have HE : Hid (stp p r c = ⟨3, 1, 0, 0, 0, 0, 0, false, false, r.tl, r.tu, r.td⟩) := Lib.hid (by unfold stp yel; rw [if_neg (by rw [hco]; decide), if_pos hco, htm, hye, hre, if_neg h1, if_pos h2]; rfl)
    have hn0 := Blk.Bks.nil w
    have hn1 := hn0.alloc p.cells.toArray 23
    have hn2 := hn1.alloc (Ru.cells r).toArray 29
    rw [show (w.alloc (.cells p.cells.toArray 23)).heap.size = w.heap.size + 1 by simp] at hn2
    have hn3 := hn2.alloc c.cells.toArray 31
    rw [show ((w.alloc (.cells p.cells.toArray 23)).alloc (.cells (Ru.cells r).toArray 29)).heap.size = w.heap.size + 1 + 1 by simp] at hn3
    have hn4 := hn3.alloc #[I 0, I 0, I 0, I 0, I 0, I 0, I 0, .bool false, .bool false, I 0, I 0, I 0] 29
    rw [show (((w.alloc (.cells p.cells.toArray 23)).alloc (.cells (Ru.cells r).toArray 29)).alloc (.cells c.cells.toArray 31)).heap.size = w.heap.size + 1 + 1 + 1 by simp] at hn4
    clear hn0
    clear hn1
    clear hn2
    clear hn3
    go_enter Try.func12, Try.ntmps12
    go_upto_region 1 with fail
    generalize World.alloc (World.alloc (World.alloc (World.alloc w _) _) _) _ = v at hn4 ⊢
    generalize hg3 : w.heap.size + 1 + 1 + 1 = gz at hn4 ⊢
    generalize hg2 : w.heap.size + 1 + 1 = gc at hn4 ⊢
    generalize hg1 : w.heap.size + 1 = gr at hn4 ⊢
    generalize hg0 : w.heap.size = gp at hn4 ⊢
    clear hg0 hg1 hg2 hg3
    have H0 := Lib.hid hn4
    clear hn4
    have t_rco : v.cell? ⟨gr, 0, none⟩ = some (I r.co) := H0.out.cell 2 0 rfl rfl
    have t_rtm : v.cell? ⟨gr, 1, none⟩ = some (I r.tm) := H0.out.cell 2 1 rfl rfl
    have t_pyellow : v.cell? ⟨gp, 6, none⟩ = some (I p.yellow) := H0.out.cell 3 6 rfl rfl
    have t_pred : v.cell? ⟨gp, 7, none⟩ = some (I p.red) := H0.out.cell 3 7 rfl rfl
    rw [hco] at t_rco
    rw [htm] at t_rtm
    rw [hye] at t_pyellow
    rw [hre] at t_pred
    go_wp2_with (first | (refine Row.wpList_load_g 27 _ rfl (by first | rfl | (go_simp; done) | fail) ⟨gr, 9, none⟩ rfl [I r.tl, I r.tu, I r.td] _ (seg H0.out 2 9 rfl _ rfl) Try.underlying27 rfl infoTn ?_) | (refine wpList_build rfl 29 [(0, .const (I 3)), (1, .const (I 1)), (8, .tmp 54)] rfl (Ru.cells ⟨3, 1, 0, 0, 0, 0, 0, false, false, r.tl, r.tu, r.td⟩).toArray _ (by rfl) (built3 3 1 r.tl r.tu r.td) ?_) | (refine wpList_store_row rfl 29 _ _ rfl gz (Ru.cells ⟨3, 1, 0, 0, 0, 0, 0, false, false, r.tl, r.tu, r.td⟩).toArray rfl rfl 29 _ (H0.out.at 0 rfl) infoRu rfl (one_ru _) ?_))
    have hput := H0.out.put 0 rfl (Ru.cells ⟨3, 1, 0, 0, 0, 0, 0, false, false, r.tl, r.tu, r.td⟩).toArray
    simp only [List.set_cons_succ, List.set_cons_zero] at hput
    generalize World.setRow v gz _ = vz at hput ⊢
    have HG := Lib.hid hput
    clear hput
    go_wp2_with fail
    (try simp only [Exit.inBlock, Exit.then])
    refine bodyPost_ret (v := .agg (Ru.cells ⟨3, 1, 0, 0, 0, 0, 0, false, false, r.tl, r.tu, r.td⟩).toArray) ?_ rfl ⟨ret_ru HE.out.symm, HG.out.bel⟩
    exact results_cell_row rfl _ _ gz 29 _ (0, 0) _ rfl (HG.out.at 0 rfl) Try.underlying29 rfl infoRu
  · have HE : Hid (stp p r c = ⟨0, 1, 0, 0, 0, 0, 0, false, false, r.tl, r.tu, r.td⟩) := Lib.hid (by unfold stp yel; rw [if_neg (by rw [hco]; decide), if_pos hco, htm, hye, hre, if_neg h1, if_neg h2]; rfl)
    have hn0 := Blk.Bks.nil w
    have hn1 := hn0.alloc p.cells.toArray 23
    have hn2 := hn1.alloc (Ru.cells r).toArray 29
    rw [show (w.alloc (.cells p.cells.toArray 23)).heap.size = w.heap.size + 1 by simp] at hn2
    have hn3 := hn2.alloc c.cells.toArray 31
    rw [show ((w.alloc (.cells p.cells.toArray 23)).alloc (.cells (Ru.cells r).toArray 29)).heap.size = w.heap.size + 1 + 1 by simp] at hn3
    have hn4 := hn3.alloc #[I 0, I 0, I 0, I 0, I 0, I 0, I 0, .bool false, .bool false, I 0, I 0, I 0] 29
    rw [show (((w.alloc (.cells p.cells.toArray 23)).alloc (.cells (Ru.cells r).toArray 29)).alloc (.cells c.cells.toArray 31)).heap.size = w.heap.size + 1 + 1 + 1 by simp] at hn4
    clear hn0
    clear hn1
    clear hn2
    clear hn3
    go_enter Try.func12, Try.ntmps12
    go_upto_region 1 with fail
    generalize World.alloc (World.alloc (World.alloc (World.alloc w _) _) _) _ = v at hn4 ⊢
    generalize hg3 : w.heap.size + 1 + 1 + 1 = gz at hn4 ⊢
    generalize hg2 : w.heap.size + 1 + 1 = gc at hn4 ⊢
    generalize hg1 : w.heap.size + 1 = gr at hn4 ⊢
    generalize hg0 : w.heap.size = gp at hn4 ⊢
    clear hg0 hg1 hg2 hg3
    have H0 := Lib.hid hn4
    clear hn4
    have t_rco : v.cell? ⟨gr, 0, none⟩ = some (I r.co) := H0.out.cell 2 0 rfl rfl
    have t_rtm : v.cell? ⟨gr, 1, none⟩ = some (I r.tm) := H0.out.cell 2 1 rfl rfl
    have t_pyellow : v.cell? ⟨gp, 6, none⟩ = some (I p.yellow) := H0.out.cell 3 6 rfl rfl
    have t_pred : v.cell? ⟨gp, 7, none⟩ = some (I p.red) := H0.out.cell 3 7 rfl rfl
    rw [hco] at t_rco
    rw [htm] at t_rtm
    rw [hye] at t_pyellow
    rw [hre] at t_pred
    go_wp2_with (first | (refine Row.wpList_load_g 27 _ rfl (by first | rfl | (go_simp; done) | fail) ⟨gr, 9, none⟩ rfl [I r.tl, I r.tu, I r.td] _ (seg H0.out 2 9 rfl _ rfl) Try.underlying27 rfl infoTn ?_) | (refine wpList_build rfl 29 [(0, .const (I 0)), (1, .const (I 1)), (8, .tmp 57)] rfl (Ru.cells ⟨0, 1, 0, 0, 0, 0, 0, false, false, r.tl, r.tu, r.td⟩).toArray _ (by rfl) (built3 0 1 r.tl r.tu r.td) ?_) | (refine wpList_store_row rfl 29 _ _ rfl gz (Ru.cells ⟨0, 1, 0, 0, 0, 0, 0, false, false, r.tl, r.tu, r.td⟩).toArray rfl rfl 29 _ (H0.out.at 0 rfl) infoRu rfl (one_ru _) ?_))
    have hput := H0.out.put 0 rfl (Ru.cells ⟨0, 1, 0, 0, 0, 0, 0, false, false, r.tl, r.tu, r.td⟩).toArray
    simp only [List.set_cons_succ, List.set_cons_zero] at hput
    generalize World.setRow v gz _ = vz at hput ⊢
    have HG := Lib.hid hput
    clear hput
    go_wp2_with fail
    (try simp only [Exit.inBlock, Exit.then])
    refine bodyPost_ret (v := .agg (Ru.cells ⟨0, 1, 0, 0, 0, 0, 0, false, false, r.tl, r.tu, r.td⟩).toArray) ?_ rfl ⟨ret_ru HE.out.symm, HG.out.bel⟩
    exact results_cell_row rfl _ _ gz 29 _ (0, 0) _ rfl (HG.out.at 0 rfl) Try.underlying29 rfl infoRu
set_option maxHeartbeats 8000000 in
theorem rstep_clear (p : Ph) (r : Ru) (c : Cu) (hco : r.co = 3) (w : World) : Calls Try.prog 12 #[.agg p.cells.toArray, .agg r.cells.toArray, .agg c.cells.toArray] w fun e w' => e = .returned (.agg (Ru.cells (stp p r c)).toArray) ∧ Below w.heap.size w w' := by
  obtain ⟨tm, htm⟩ : ∃ x, r.tm = x := ⟨_, rfl⟩
  obtain ⟨ye, hye⟩ : ∃ x, p.yellow = x := ⟨_, rfl⟩
  obtain ⟨re, hre⟩ : ∃ x, p.red = x := ⟨_, rfl⟩
  by_cases h1 : tm < re
  · obtain ⟨n1, hn1⟩ : ∃ x, Cnt.more r.tm = x := ⟨_, rfl⟩
    have OM : Hid (∀ W, Calls Try.prog 25 #[.int .i64 r.tm] W fun e w' => e = .returned (.int .i64 n1) ∧ Below W.heap.size W w') := Lib.hid (fun W => by rw [← hn1]; exact moreB _ W)
    have HE : Hid (stp p r c = ⟨3, n1, 0, 0, 0, 0, 0, false, false, r.tl, r.tu, r.td⟩) := Lib.hid (by unfold stp cle; rw [if_neg (by rw [hco]; decide), if_neg (by rw [hco]; decide), if_pos hco, htm, hre, if_pos h1]; unfold lst; rw [hn1])
    clear hn1
    rw [htm] at OM
    have hn0 := Blk.Bks.nil w
    have hn1 := hn0.alloc p.cells.toArray 23
    have hn2 := hn1.alloc (Ru.cells r).toArray 29
    rw [show (w.alloc (.cells p.cells.toArray 23)).heap.size = w.heap.size + 1 by simp] at hn2
    have hn3 := hn2.alloc c.cells.toArray 31
    rw [show ((w.alloc (.cells p.cells.toArray 23)).alloc (.cells (Ru.cells r).toArray 29)).heap.size = w.heap.size + 1 + 1 by simp] at hn3
    have hn4 := hn3.alloc #[I 0, I 0, I 0, I 0, I 0, I 0, I 0, .bool false, .bool false, I 0, I 0, I 0] 29
    rw [show (((w.alloc (.cells p.cells.toArray 23)).alloc (.cells (Ru.cells r).toArray 29)).alloc (.cells c.cells.toArray 31)).heap.size = w.heap.size + 1 + 1 + 1 by simp] at hn4
    clear hn0
    clear hn1
    clear hn2
    clear hn3
    go_enter Try.func12, Try.ntmps12
    go_upto_region 1 with fail
    generalize World.alloc (World.alloc (World.alloc (World.alloc w _) _) _) _ = v at hn4 ⊢
    generalize hg3 : w.heap.size + 1 + 1 + 1 = gz at hn4 ⊢
    generalize hg2 : w.heap.size + 1 + 1 = gc at hn4 ⊢
    generalize hg1 : w.heap.size + 1 = gr at hn4 ⊢
    generalize hg0 : w.heap.size = gp at hn4 ⊢
    clear hg0 hg1 hg2 hg3
    have H0 := Lib.hid hn4
    clear hn4
    have t_rco : v.cell? ⟨gr, 0, none⟩ = some (I r.co) := H0.out.cell 2 0 rfl rfl
    have t_rtm : v.cell? ⟨gr, 1, none⟩ = some (I r.tm) := H0.out.cell 2 1 rfl rfl
    have t_pred : v.cell? ⟨gp, 7, none⟩ = some (I p.red) := H0.out.cell 3 7 rfl rfl
    rw [hco] at t_rco
    rw [htm] at t_rtm
    rw [hre] at t_pred
    go_upto_region 18 with fail
    (try dsimp only [Act.put])
    have q1 : ∀ q : QB.By v.heap.size v, q.world.cell? ⟨gr, 1, none⟩ = some (I r.tm) := fun q => (H0.out.by q).cell 2 1 rfl rfl
    refine QT.region v.heap.size 5 (by kernel_rfl) (by kernel_rfl) ?_
    simp only [List.take_succ_cons, List.take_zero]
    repeat first
      | (refine wpQuiet_load rfl 27 _ rfl ⟨gr, 9, none⟩ rfl [I r.tl, I r.tu, I r.td] _ (fun w' ⟨pw, e⟩ => by rw [e]; exact seg (H0.out.by pw) 2 9 rfl _ rfl) Try.underlying27 rfl infoTn ?_
         dsimp only [Act.put]
         simp only [List.setIfInBounds_toArray, List.set_cons_zero, List.set_cons_succ])
      | (quiet_step (first | (go_at_call 25; with_reducible exact QB.call_of (Nat.le_refl _) (fun b => OM.out _))))
    refine wpQuiet_nil ?_
    intro _ hw'
    obtain ⟨pq, rfl⟩ := hw'
    have HP := Lib.hid (H0.out.by pq)
    generalize pq.world = vp at HP ⊢
    simp only [List.drop_succ_cons, List.drop_zero]
    clear q1
    go_wp2_with (first | (refine wpList_build rfl 29 [(0, .const (I 3)), (1, .tmp 68), (8, .tmp 70)] rfl (Ru.cells ⟨3, n1, 0, 0, 0, 0, 0, false, false, r.tl, r.tu, r.td⟩).toArray _ (by rfl) (built3 3 n1 r.tl r.tu r.td) ?_) | (refine wpList_store_row rfl 29 _ _ rfl gz (Ru.cells ⟨3, n1, 0, 0, 0, 0, 0, false, false, r.tl, r.tu, r.td⟩).toArray rfl rfl 29 _ (HP.out.at 0 rfl) infoRu rfl (one_ru _) ?_))
    have hput := HP.out.put 0 rfl (Ru.cells ⟨3, n1, 0, 0, 0, 0, 0, false, false, r.tl, r.tu, r.td⟩).toArray
    simp only [List.set_cons_succ, List.set_cons_zero] at hput
    generalize World.setRow vp gz _ = vz at hput ⊢
    have HG := Lib.hid hput
    clear hput
    go_wp2_with fail
    (try simp only [Exit.inBlock, Exit.then])
    refine bodyPost_ret (v := .agg (Ru.cells ⟨3, n1, 0, 0, 0, 0, 0, false, false, r.tl, r.tu, r.td⟩).toArray) ?_ rfl ⟨ret_ru HE.out.symm, HG.out.bel⟩
    exact results_cell_row rfl _ _ gz 29 _ (0, 0) _ rfl (HG.out.at 0 rfl) Try.underlying29 rfl infoRu
  · have HE : Hid (stp p r c = ⟨0, 1, 0, 0, 0, 0, 0, false, false, r.tl, r.tu, r.td⟩) := Lib.hid (by unfold stp cle; rw [if_neg (by rw [hco]; decide), if_neg (by rw [hco]; decide), if_pos hco, htm, hre, if_neg h1]; rfl)
    have hn0 := Blk.Bks.nil w
    have hn1 := hn0.alloc p.cells.toArray 23
    have hn2 := hn1.alloc (Ru.cells r).toArray 29
    rw [show (w.alloc (.cells p.cells.toArray 23)).heap.size = w.heap.size + 1 by simp] at hn2
    have hn3 := hn2.alloc c.cells.toArray 31
    rw [show ((w.alloc (.cells p.cells.toArray 23)).alloc (.cells (Ru.cells r).toArray 29)).heap.size = w.heap.size + 1 + 1 by simp] at hn3
    have hn4 := hn3.alloc #[I 0, I 0, I 0, I 0, I 0, I 0, I 0, .bool false, .bool false, I 0, I 0, I 0] 29
    rw [show (((w.alloc (.cells p.cells.toArray 23)).alloc (.cells (Ru.cells r).toArray 29)).alloc (.cells c.cells.toArray 31)).heap.size = w.heap.size + 1 + 1 + 1 by simp] at hn4
    clear hn0
    clear hn1
    clear hn2
    clear hn3
    go_enter Try.func12, Try.ntmps12
    go_upto_region 1 with fail
    generalize World.alloc (World.alloc (World.alloc (World.alloc w _) _) _) _ = v at hn4 ⊢
    generalize hg3 : w.heap.size + 1 + 1 + 1 = gz at hn4 ⊢
    generalize hg2 : w.heap.size + 1 + 1 = gc at hn4 ⊢
    generalize hg1 : w.heap.size + 1 = gr at hn4 ⊢
    generalize hg0 : w.heap.size = gp at hn4 ⊢
    clear hg0 hg1 hg2 hg3
    have H0 := Lib.hid hn4
    clear hn4
    have t_rco : v.cell? ⟨gr, 0, none⟩ = some (I r.co) := H0.out.cell 2 0 rfl rfl
    have t_rtm : v.cell? ⟨gr, 1, none⟩ = some (I r.tm) := H0.out.cell 2 1 rfl rfl
    have t_pred : v.cell? ⟨gp, 7, none⟩ = some (I p.red) := H0.out.cell 3 7 rfl rfl
    rw [hco] at t_rco
    rw [htm] at t_rtm
    rw [hre] at t_pred
    go_wp2_with (first | (refine Row.wpList_load_g 27 _ rfl (by first | rfl | (go_simp; done) | fail) ⟨gr, 9, none⟩ rfl [I r.tl, I r.tu, I r.td] _ (seg H0.out 2 9 rfl _ rfl) Try.underlying27 rfl infoTn ?_) | (refine wpList_build rfl 29 [(0, .const (I 0)), (1, .const (I 1)), (8, .tmp 73)] rfl (Ru.cells ⟨0, 1, 0, 0, 0, 0, 0, false, false, r.tl, r.tu, r.td⟩).toArray _ (by rfl) (built3 0 1 r.tl r.tu r.td) ?_) | (refine wpList_store_row rfl 29 _ _ rfl gz (Ru.cells ⟨0, 1, 0, 0, 0, 0, 0, false, false, r.tl, r.tu, r.td⟩).toArray rfl rfl 29 _ (H0.out.at 0 rfl) infoRu rfl (one_ru _) ?_))
    have hput := H0.out.put 0 rfl (Ru.cells ⟨0, 1, 0, 0, 0, 0, 0, false, false, r.tl, r.tu, r.td⟩).toArray
    simp only [List.set_cons_succ, List.set_cons_zero] at hput
    generalize World.setRow v gz _ = vz at hput ⊢
    have HG := Lib.hid hput
    clear hput
    go_wp2_with fail
    (try simp only [Exit.inBlock, Exit.then])
    refine bodyPost_ret (v := .agg (Ru.cells ⟨0, 1, 0, 0, 0, 0, 0, false, false, r.tl, r.tu, r.td⟩).toArray) ?_ rfl ⟨ret_ru HE.out.symm, HG.out.bel⟩
    exact results_cell_row rfl _ _ gz 29 _ (0, 0) _ rfl (HG.out.at 0 rfl) Try.underlying29 rfl infoRu
set_option maxHeartbeats 8000000 in
theorem rstep_red (p : Ph) (r : Ru) (c : Cu) (k : Int) (hco : r.co = k) (h1 : ¬ k = 1) (h2 : ¬ k = 2) (h3 : ¬ k = 3) (w : World) : Calls Try.prog 12 #[.agg p.cells.toArray, .agg r.cells.toArray, .agg c.cells.toArray] w fun e w' => e = .returned (.agg (Ru.cells (stp p r c)).toArray) ∧ Below w.heap.size w w' := by
  obtain ⟨st, hst⟩ : ∃ x, c.st = x := ⟨_, rfl⟩
  cases st
  · obtain ⟨n1, hn1⟩ : ∃ x, Cnt.more r.tm = x := ⟨_, rfl⟩
    have OM : Hid (∀ W, Calls Try.prog 25 #[.int .i64 r.tm] W fun e w' => e = .returned (.int .i64 n1) ∧ Below W.heap.size W w') := Lib.hid (fun W => by rw [← hn1]; exact moreB _ W)
    have HE : Hid (stp p r c = ⟨0, n1, 0, 0, 0, 0, 0, false, false, r.tl, r.tu, r.td⟩) := Lib.hid (by unfold stp rdR; rw [if_neg (by rw [hco]; exact h1), if_neg (by rw [hco]; exact h2), if_neg (by rw [hco]; exact h3), hst, if_neg (by simp)]; unfold lst; rw [hn1])
    clear hn1
    have hn0 := Blk.Bks.nil w
    have hn1 := hn0.alloc p.cells.toArray 23
    have hn2 := hn1.alloc (Ru.cells r).toArray 29
    rw [show (w.alloc (.cells p.cells.toArray 23)).heap.size = w.heap.size + 1 by simp] at hn2
    have hn3 := hn2.alloc c.cells.toArray 31
    rw [show ((w.alloc (.cells p.cells.toArray 23)).alloc (.cells (Ru.cells r).toArray 29)).heap.size = w.heap.size + 1 + 1 by simp] at hn3
    have hn4 := hn3.alloc #[I 0, I 0, I 0, I 0, I 0, I 0, I 0, .bool false, .bool false, I 0, I 0, I 0] 29
    rw [show (((w.alloc (.cells p.cells.toArray 23)).alloc (.cells (Ru.cells r).toArray 29)).alloc (.cells c.cells.toArray 31)).heap.size = w.heap.size + 1 + 1 + 1 by simp] at hn4
    clear hn0
    clear hn1
    clear hn2
    clear hn3
    go_enter Try.func12, Try.ntmps12
    go_upto_region 1 with fail
    generalize World.alloc (World.alloc (World.alloc (World.alloc w _) _) _) _ = v at hn4 ⊢
    generalize hg3 : w.heap.size + 1 + 1 + 1 = gz at hn4 ⊢
    generalize hg2 : w.heap.size + 1 + 1 = gc at hn4 ⊢
    generalize hg1 : w.heap.size + 1 = gr at hn4 ⊢
    generalize hg0 : w.heap.size = gp at hn4 ⊢
    clear hg0 hg1 hg2 hg3
    have H0 := Lib.hid hn4
    clear hn4
    have t_rco : v.cell? ⟨gr, 0, none⟩ = some (I r.co) := H0.out.cell 2 0 rfl rfl
    have t_cst : v.cell? ⟨gc, 0, none⟩ = some (.bool c.st) := H0.out.cell 1 0 rfl rfl
    rw [hco] at t_rco
    rw [hst] at t_cst
    have z1 : (k == 1) = false := by rw [beq_eq_false_iff_ne]; exact h1
    have z2 : (k == 2) = false := by rw [beq_eq_false_iff_ne]; exact h2
    have z3 : (k == 3) = false := by rw [beq_eq_false_iff_ne]; exact h3
    go_upto_region 22 with fail
    (try dsimp only [Act.put])
    have q1 : ∀ q : QB.By v.heap.size v, q.world.cell? ⟨gr, 1, none⟩ = some (I r.tm) := fun q => (H0.out.by q).cell 2 1 rfl rfl
    refine QT.region v.heap.size 5 (by kernel_rfl) (by kernel_rfl) ?_
    simp only [List.take_succ_cons, List.take_zero]
    repeat first
      | (refine wpQuiet_load rfl 27 _ rfl ⟨gr, 9, none⟩ rfl [I r.tl, I r.tu, I r.td] _ (fun w' ⟨pw, e⟩ => by rw [e]; exact seg (H0.out.by pw) 2 9 rfl _ rfl) Try.underlying27 rfl infoTn ?_
         dsimp only [Act.put]
         simp only [List.setIfInBounds_toArray, List.set_cons_zero, List.set_cons_succ])
      | (quiet_step (first | (go_at_call 25; with_reducible exact QB.call_of (Nat.le_refl _) (fun b => OM.out _))))
    refine wpQuiet_nil ?_
    intro _ hw'
    obtain ⟨pq, rfl⟩ := hw'
    have HP := Lib.hid (H0.out.by pq)
    generalize pq.world = vp at HP ⊢
    simp only [List.drop_succ_cons, List.drop_zero]
    clear q1
    go_wp2_with (first | (refine wpList_build rfl 29 [(0, .const (I 0)), (1, .tmp 89), (8, .tmp 91)] rfl (Ru.cells ⟨0, n1, 0, 0, 0, 0, 0, false, false, r.tl, r.tu, r.td⟩).toArray _ (by rfl) (built3 0 n1 r.tl r.tu r.td) ?_) | (refine wpList_store_row rfl 29 _ _ rfl gz (Ru.cells ⟨0, n1, 0, 0, 0, 0, 0, false, false, r.tl, r.tu, r.td⟩).toArray rfl rfl 29 _ (HP.out.at 0 rfl) infoRu rfl (one_ru _) ?_))
    have hput := HP.out.put 0 rfl (Ru.cells ⟨0, n1, 0, 0, 0, 0, 0, false, false, r.tl, r.tu, r.td⟩).toArray
    simp only [List.set_cons_succ, List.set_cons_zero] at hput
    generalize World.setRow vp gz _ = vz at hput ⊢
    have HG := Lib.hid hput
    clear hput
    go_wp2_with fail
    (try simp only [Exit.inBlock, Exit.then])
    refine bodyPost_ret (v := .agg (Ru.cells ⟨0, n1, 0, 0, 0, 0, 0, false, false, r.tl, r.tu, r.td⟩).toArray) ?_ rfl ⟨ret_ru HE.out.symm, HG.out.bel⟩
    exact results_cell_row rfl _ _ gz 29 _ (0, 0) _ rfl (HG.out.at 0 rfl) Try.underlying29 rfl infoRu
  · obtain ⟨⟨a, b⟩, hf⟩ : ∃ x, ft p.walk p.blinks 0 0 c.pu = x := ⟨_, rfl⟩
    have HE : Hid (stp p r c = ⟨1, 1, a, b, p.gap, 0, 0, false, false, r.tl, r.tu, r.td⟩) := Lib.hid (by unfold stp rdR; rw [if_neg (by rw [hco]; exact h1), if_neg (by rw [hco]; exact h2), if_neg (by rw [hco]; exact h3), hst, if_pos rfl, hf])
    have SE : Hid (∀ W, Calls Try.prog 26 #[.agg p.cells.toArray, .agg #[I 0, I 0], .bool c.pu] W fun e w' => e = .returned (.agg #[I a, I b]) ∧ Below W.heap.size W w') := Lib.hid (fun W => Ped.foot_is hf W)
    clear hf
    have hn0 := Blk.Bks.nil w
    have hn1 := hn0.alloc p.cells.toArray 23
    have hn2 := hn1.alloc (Ru.cells r).toArray 29
    rw [show (w.alloc (.cells p.cells.toArray 23)).heap.size = w.heap.size + 1 by simp] at hn2
    have hn3 := hn2.alloc c.cells.toArray 31
    rw [show ((w.alloc (.cells p.cells.toArray 23)).alloc (.cells (Ru.cells r).toArray 29)).heap.size = w.heap.size + 1 + 1 by simp] at hn3
    have hn4 := hn3.alloc #[I 0, I 0, I 0, I 0, I 0, I 0, I 0, .bool false, .bool false, I 0, I 0, I 0] 29
    rw [show (((w.alloc (.cells p.cells.toArray 23)).alloc (.cells (Ru.cells r).toArray 29)).alloc (.cells c.cells.toArray 31)).heap.size = w.heap.size + 1 + 1 + 1 by simp] at hn4
    clear hn0
    clear hn1
    clear hn2
    clear hn3
    go_enter Try.func12, Try.ntmps12
    go_upto_region 1 with fail
    generalize World.alloc (World.alloc (World.alloc (World.alloc w _) _) _) _ = v at hn4 ⊢
    generalize hg3 : w.heap.size + 1 + 1 + 1 = gz at hn4 ⊢
    generalize hg2 : w.heap.size + 1 + 1 = gc at hn4 ⊢
    generalize hg1 : w.heap.size + 1 = gr at hn4 ⊢
    generalize hg0 : w.heap.size = gp at hn4 ⊢
    clear hg0 hg1 hg2 hg3
    have H0 := Lib.hid hn4
    clear hn4
    have t_rco : v.cell? ⟨gr, 0, none⟩ = some (I r.co) := H0.out.cell 2 0 rfl rfl
    have t_cst : v.cell? ⟨gc, 0, none⟩ = some (.bool c.st) := H0.out.cell 1 0 rfl rfl
    rw [hco] at t_rco
    rw [hst] at t_cst
    have z1 : (k == 1) = false := by rw [beq_eq_false_iff_ne]; exact h1
    have z2 : (k == 2) = false := by rw [beq_eq_false_iff_ne]; exact h2
    have z3 : (k == 3) = false := by rw [beq_eq_false_iff_ne]; exact h3
    go_upto_region 21 with fail
    (try dsimp only [Act.put])
    have q3 : ∀ q : QB.By v.heap.size v, q.world.cell? ⟨gc, 3, none⟩ = some (.bool c.pu) := fun q => (H0.out.by q).cell 1 3 rfl rfl
    have q2 : ∀ q : QB.By v.heap.size v, q.world.cell? ⟨gp, 2, none⟩ = some (I p.gap) := fun q => (H0.out.by q).cell 3 2 rfl rfl
    refine QT.region v.heap.size 9 (by kernel_rfl) (by kernel_rfl) ?_
    simp only [List.take_succ_cons, List.take_zero]
    repeat first
      | (refine wpQuiet_load rfl 23 _ rfl ⟨gp, 0, none⟩ rfl p.cells _ (fun w' ⟨pw, e⟩ => by rw [e]; exact seg (H0.out.by pw) 3 0 rfl _ rfl) Try.underlying23 rfl infoP ?_
         dsimp only [Act.put]
         simp only [List.setIfInBounds_toArray, List.set_cons_zero, List.set_cons_succ])
      | (refine wpQuiet_load rfl 27 _ rfl ⟨gr, 9, none⟩ rfl [I r.tl, I r.tu, I r.td] _ (fun w' ⟨pw, e⟩ => by rw [e]; exact seg (H0.out.by pw) 2 9 rfl _ rfl) Try.underlying27 rfl infoTn ?_
         dsimp only [Act.put]
         simp only [List.setIfInBounds_toArray, List.set_cons_zero, List.set_cons_succ])
      | (refine wpQuiet_build rfl 25 [] rfl #[I 0, I 0] [] rfl built0 ?_
         dsimp only [Act.put]
         simp only [List.setIfInBounds_toArray, List.set_cons_zero, List.set_cons_succ])
      | (quiet_step (first | (go_at_call 26; with_reducible exact QB.call_of (Nat.le_refl _) (fun b => SE.out _))))
    refine wpQuiet_nil ?_
    intro _ hw'
    obtain ⟨pq, rfl⟩ := hw'
    have HP := Lib.hid (H0.out.by pq)
    generalize pq.world = vp at HP ⊢
    simp only [List.drop_succ_cons, List.drop_zero]
    clear q3 q2
    go_wp2_with (first | (refine wpList_build rfl 29 [(0, .const (I 1)), (1, .const (I 1)), (2, .tmp 81), (3, .tmp 83), (8, .tmp 85)] rfl (Ru.cells ⟨1, 1, a, b, p.gap, 0, 0, false, false, r.tl, r.tu, r.td⟩).toArray _ (by rfl) (built5 1 1 a b p.gap r.tl r.tu r.td) ?_) | (refine wpList_store_row rfl 29 _ _ rfl gz (Ru.cells ⟨1, 1, a, b, p.gap, 0, 0, false, false, r.tl, r.tu, r.td⟩).toArray rfl rfl 29 _ (HP.out.at 0 rfl) infoRu rfl (one_ru _) ?_))
    have hput := HP.out.put 0 rfl (Ru.cells ⟨1, 1, a, b, p.gap, 0, 0, false, false, r.tl, r.tu, r.td⟩).toArray
    simp only [List.set_cons_succ, List.set_cons_zero] at hput
    generalize World.setRow vp gz _ = vz at hput ⊢
    have HG := Lib.hid hput
    clear hput
    go_wp2_with fail
    (try simp only [Exit.inBlock, Exit.then])
    refine bodyPost_ret (v := .agg (Ru.cells ⟨1, 1, a, b, p.gap, 0, 0, false, false, r.tl, r.tu, r.td⟩).toArray) ?_ rfl ⟨ret_ru HE.out.symm, HG.out.bel⟩
    exact results_cell_row rfl _ _ gz 29 _ (0, 0) _ rfl (HG.out.at 0 rfl) Try.underlying29 rfl infoRu
theorem rstep_any (p : Ph) (r : Ru) (c : Cu) (w : World) : Calls Try.prog 12 #[.agg p.cells.toArray, .agg r.cells.toArray, .agg c.cells.toArray] w fun e w' => e = .returned (.agg (Ru.cells (stp p r c)).toArray) ∧ Below w.heap.size w w' := by
  by_cases h1 : r.co = 1
  · cases he : c.en with
    | true => exact rstep_end p r c h1 he w
    | false => exact rstep_stay p r c h1 he w
  by_cases h2 : r.co = 2
  · exact rstep_yellow p r c h2 w
  by_cases h3 : r.co = 3
  · exact rstep_clear p r c h3 w
  exact rstep_red p r c r.co rfl h1 h2 h3 w
set_option maxHeartbeats 4000000 in
theorem rbegin_any (p : Ph) (w : World) : Calls Try.prog 16 #[.agg p.cells.toArray] w fun e w' => e = .returned (.agg (Ru.cells (bgn p)).toArray) ∧ Below w.heap.size w w' := by
  have hn0 := Blk.Bks.nil w
  have hn1 := hn0.alloc p.cells.toArray 23
  have hn2 := hn1.alloc #[I 0, I 0, I 0, I 0, I 0, I 0, I 0, .bool false, .bool false, I 0, I 0, I 0] 29
  rw [show (w.alloc (.cells p.cells.toArray 23)).heap.size = w.heap.size + 1 by simp] at hn2
  clear hn0
  clear hn1
  go_enter Try.func16, Try.ntmps16
  go_upto_region 1 with fail
  generalize World.alloc (World.alloc w _) _ = v at hn2 ⊢
  generalize hg1 : w.heap.size + 1 = gz at hn2 ⊢
  generalize hg0 : w.heap.size = gp at hn2 ⊢
  clear hg0 hg1
  have H0 := Lib.hid hn2
  clear hn2
  have t_pmax : v.cell? ⟨gp, 3, none⟩ = some (I p.max) := H0.out.cell 1 3 rfl rfl
  go_wp2_with (first | (refine wpList_build rfl 27 [(0, .tmp 4)] rfl #[I p.max, I 0, I 0] _ (by rfl) (builtT p.max) ?_) | (refine wpList_build rfl 29 [(0, .const (I 0)), (1, .const (I 9999)), (8, .tmp 5)] rfl (Ru.cells (bgn p)).toArray _ (by rfl) (built3 0 9999 p.max 0 0) ?_) | (refine wpList_store_row rfl 29 _ _ rfl gz (Ru.cells (bgn p)).toArray rfl rfl 29 _ (H0.out.at 0 rfl) infoRu rfl (one_ru _) ?_))
  have hput := H0.out.put 0 rfl (Ru.cells (bgn p)).toArray
  simp only [List.set_cons_succ, List.set_cons_zero] at hput
  generalize World.setRow v gz _ = vz at hput ⊢
  have HG := Lib.hid hput
  clear hput
  go_wp2_with fail
  (try simp only [Exit.inBlock, Exit.then])
  refine bodyPost_ret (v := .agg (Ru.cells (bgn p)).toArray) ?_ rfl ⟨rfl, HG.out.bel⟩
  exact results_cell_row rfl _ _ gz 29 _ (0, 0) _ rfl (HG.out.at 0 rfl) Try.underlying29 rfl infoRu
set_option maxHeartbeats 8000000 in
theorem kept_any (p : Ph) (r : Ru) (c : Cu) (w : World) : Calls Try.prog 14 #[.agg p.cells.toArray, .agg r.cells.toArray, .agg c.cells.toArray] w fun e w' => e = .returned (.bool (hld p r c)) ∧ Below w.heap.size w w' := by
  obtain ⟨du, hdu⟩ : ∃ x, duB p c (lon p r c) = x := ⟨_, rfl⟩
  obtain ⟨D, hD⟩ : ∃ D, sty p c (lon p r c) = D := ⟨_, rfl⟩
  obtain ⟨k, hk⟩ : ∃ x, r.co = x := ⟨_, rfl⟩
  obtain ⟨en, hen⟩ : ∃ x, c.en = x := ⟨_, rfl⟩
  obtain ⟨ho, hho⟩ : ∃ x, c.ho = x := ⟨_, rfl⟩
  have HE : Hid (hld p r c = (decide (k = 1) && (!en && (ho && du)))) := Lib.hid (by unfold hld; rw [hdu, hk, hen, hho])
  have GN : Hid (∀ W, Calls Try.prog 24 #[.agg p.cells.toArray, .agg r.cells.toArray, .agg c.cells.toArray] W fun e w' => e = .returned (.tuple #[.agg D.cells.toArray, .bool du]) ∧ Below W.heap.size W w') := Lib.hid (fun W => by rw [← hD, ← hdu]; exact green_any p r c W)
  clear hD hdu
  have hn0 := Blk.Bks.nil w
  have hn1 := hn0.alloc p.cells.toArray 23
  have hn2 := hn1.alloc (Ru.cells r).toArray 29
  rw [show (w.alloc (.cells p.cells.toArray 23)).heap.size = w.heap.size + 1 by simp] at hn2
  have hn3 := hn2.alloc c.cells.toArray 31
  rw [show ((w.alloc (.cells p.cells.toArray 23)).alloc (.cells (Ru.cells r).toArray 29)).heap.size = w.heap.size + 1 + 1 by simp] at hn3
  clear hn0
  clear hn1
  clear hn2
  go_enter Try.func14, Try.ntmps14
  go_upto_region 1 with fail
  generalize World.alloc (World.alloc (World.alloc w _) _) _ = v at hn3 ⊢
  generalize hg2 : w.heap.size + 1 + 1 = gc at hn3 ⊢
  generalize hg1 : w.heap.size + 1 = gr at hn3 ⊢
  generalize hg0 : w.heap.size = gp at hn3 ⊢
  clear hg0 hg1 hg2
  have H0 := Lib.hid hn3
  clear hn3
  have t_rco : v.cell? ⟨gr, 0, none⟩ = some (I r.co) := H0.out.cell 1 0 rfl rfl
  have t_cen : v.cell? ⟨gc, 1, none⟩ = some (.bool c.en) := H0.out.cell 0 1 rfl rfl
  rw [hk] at t_rco
  rw [hen] at t_cen
  by_cases h1 : k = 1
  rotate_left
  · have z1 : (k == 1) = false := by rw [beq_eq_false_iff_ne]; exact h1
    replace HE : Hid (hld p r c = false) := Lib.hid (by rw [HE.out]; simp [*])
    go_wp2
    go_ret
    exact ⟨ret_bool HE.out.symm, H0.out.bel⟩
  subst h1
  cases en
  rotate_left
  · replace HE : Hid (hld p r c = false) := Lib.hid (by rw [HE.out]; simp [*])
    go_wp2
    go_ret
    exact ⟨ret_bool HE.out.symm, H0.out.bel⟩
  go_wp2_with (first | (refine Row.wpList_load_g 23 _ rfl (by first | rfl | (go_simp; done) | fail) ⟨gp, 0, none⟩ rfl p.cells _ (seg H0.out 2 0 rfl _ rfl) Try.underlying23 rfl infoP ?_) | (refine Row.wpList_load_g 29 _ rfl (by first | rfl | (go_simp; done) | fail) ⟨gr, 0, none⟩ rfl r.cells _ (seg H0.out 1 0 rfl _ rfl) Try.underlying29 rfl infoRu ?_) | (refine Row.wpList_load_g 31 _ rfl (by first | rfl | (go_simp; done) | fail) ⟨gc, 0, none⟩ rfl c.cells _ (seg H0.out 0 0 rfl _ rfl) Try.underlying31 rfl infoCu ?_))
  refine (GN.out _).mono ?_
  rintro e v1 ⟨rfl, bc⟩
  have H1 := Lib.hid (H0.out.step bc)
  clear bc
  clear t_rco t_cen
  go_upto_region 4 with (refine Row.wpList_store_new rfl 29 _ _ rfl _ _ D.cells.toArray rfl rfl rfl infoRu rfl (one_ru _) ?_)
  have hn := H1.out.alloc D.cells.toArray 29
  generalize World.alloc v1 _ = v2 at hn ⊢
  generalize v1.heap.size = gn at hn ⊢
  have H2 := Lib.hid hn
  clear hn
  clear H0 H1 GN
  have t_cho : v2.cell? ⟨gc, 5, none⟩ = some (.bool c.ho) := H2.out.cell 1 5 rfl rfl
  rw [hho] at t_cho
  clear hho
  cases du
  · replace HE : Hid (hld p r c = false) := Lib.hid (by rw [HE.out]; simp [*])
    go_wp2
    go_ret
    exact ⟨ret_bool HE.out.symm, H2.out.bel⟩
  cases ho
  · replace HE : Hid (hld p r c = false) := Lib.hid (by rw [HE.out]; simp [*])
    go_wp2
    go_ret
    exact ⟨ret_bool HE.out.symm, H2.out.bel⟩
  · replace HE : Hid (hld p r c = true) := Lib.hid (by rw [HE.out]; simp [*])
    go_wp2
    go_ret
    exact ⟨ret_bool HE.out.symm, H2.out.bel⟩
end Go.Proofs.Ytbpfknkbiaplpaa.Ru
