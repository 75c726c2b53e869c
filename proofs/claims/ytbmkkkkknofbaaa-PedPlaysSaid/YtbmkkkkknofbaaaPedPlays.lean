/- PedPlays returns true at any phase and any rows of beginnings and cuts: the states of package ped are the document's own, tick by tick. No condition. -/
import Derived.Test.YtbmkkkkknofbaaaRows
import Derived.Test.YtbmkkkkknofbaaaPedW
import Derived.Test.YtbmkkkkknofbaaaQT
import Derived.Test.YtbmkkkkknofbaaaArg
import Derived.Deep.Cut
import Derived.LoopTactic
import Derived.BigQuiet
import Derived.WalkKit
import Derived.WalkLawsBesides
import Derived.ProofKit
import Derived.OpenShut
import Derived.ShutString
import Derived.ChangeOld
import Derived.Below
namespace Go.Proofs.Ytbmkkkkknofbaaa.pedPlays
open Go.ChangeShapes Go.WideShapes Go.ChangeAt Go.RowKit
open Tab Ped QL
open May (infoP)
set_option linter.unusedVariables false
set_option linter.unusedSimpArgs false

theorem own : ownKnob Try.prog.godebug = none := by kernel_rfl
theorem laidOut : laidOutB Try.prog = true := by kernel_rfl

/-- WHAT THE WALK IS TOLD OF A SLICE OF INTEGERS THAT CAME IN: it is nil; or it leads to a row of 'cap' cells, the numbers 'zs' (the first 'len' are its elements, the rest its spare room), each fitting its kind. -/
def IsRow (k : IntKind) (w : World) (a : Option Addr) (len cap : Nat) (zs : List Int) : Prop :=
  (a = none ∧ len = 0 ∧ cap = 0 ∧ zs = []) ∨
  ∃ x, a = some x ∧ len ≤ cap ∧ cap ≤ maxLen ∧ zs.length = cap ∧ (∀ i, i < zs.length → w.cell? (x.add i) = some (.int k (zs.getD i 0))) ∧ ∀ n ∈ zs, (Lit.int k n).wf = true

/-! ### the walk -/
set_option maxRecDepth 100000 in
set_option maxHeartbeats 8000000 in
theorem walk (x0 : Tab.Ph) (s1 : Tab.Sl) (l1 : List Bool) (s2 : Tab.Sl) (l2 : List Bool) (w : World) (w1 : Tab.RowOf 1 (fun b : Bool => [Value.bool b]) w s1 l1) (w2 : Tab.RowOf 1 (fun b : Bool => [Value.bool b]) w s2 l2) :
    Calls Try.prog 4 #[.agg x0.cells.toArray, .slice s1.a l1.length s1.cap, .slice s2.a l2.length s2.cap] w fun e w' => e = .returned (.bool true) ∧ Below w.heap.size w w' := by
  obtain ⟨x1, z1, hA1, hl1, hc1⟩ := Arg.bools_at w1
  obtain ⟨sa1, cap1⟩ := s1
  dsimp only at hA1 hl1 hc1 ⊢
  generalize l1.length = len1 at hA1 hl1 ⊢
  have HA1 := Lib.hid hA1
  unfold maxLen at hc1
  clear hA1 w1
  obtain ⟨x2, z2, hA2, hl2, hc2⟩ := Arg.bools_at w2
  obtain ⟨sa2, cap2⟩ := s2
  dsimp only at hA2 hl2 hc2 ⊢
  generalize l2.length = len2 at hA2 hl2 ⊢
  have HA2 := Lib.hid hA2
  unfold maxLen at hc2
  clear hA2 w2
  generalize x0 = p at *
  have h0 := (Blk.Bks.nil w).alloc p.cells.toArray 23
  go_enter Try.func4, Try.ntmps4
  go_upto_region 1 with fail
  generalize World.alloc w _ = v at h0 ⊢
  generalize w.heap.size = gp at h0 ⊢
  have H0 := Lib.hid h0
  clear h0
  by_cases hl : 200 < len1
  · go_wp2_with fail
    refine (awake_any _).mono ?_
    rintro e u9 ⟨rfl, b9⟩
    go_wp2
    go_ret
    exact ⟨rfl, (H0.out.step b9).bel⟩
  go_upto_region 4 with fail
  have ha := (H0.out.alloc #[I 0, I 0] 25).alloc #[I 0, I 0] 25
  rw [show (v.alloc (.cells #[I 0, I 0] 25)).heap.size = v.heap.size + 1 by simp] at ha
  generalize World.alloc (World.alloc v _) _ = vx at ha ⊢
  generalize hgb : v.heap.size + 1 = gb at ha ⊢
  generalize v.heap.size = ga at ha ⊢
  clear hgb
  have HB0 := Lib.hid ha
  clear ha H0
  go_wp2_with fail
  go_loopw [9] (fun i wr => ∃ (q : Nat) (a b : Int), q ≤ len1 ∧ i = .int .i64 q ∧ Blk.Bks w [(gb, #[I a, I b], 25), (ga, #[I a, I b], 25), (gp, p.cells.toArray, 23)] wr) (fun i _ => len1 - (intOf i).toNat)
  case atStart => exact ⟨0, 0, 0, by omega, rfl, HB0.out⟩
  case round =>
    obtain ⟨q, a, b, hq, rfl, hB⟩ := hrel
    have HB := Lib.hid hB
    clear hB HB0
    by_cases hlt : q < len1
    · obtain ⟨hx, hzl⟩ := HA1.out q hlt
      have HZ := Lib.hid hzl
      clear hzl
      subst hx
      generalize z1 q = bq at HZ
      by_cases hlc : q < len2
      · obtain ⟨hx2, hz2⟩ := HA2.out q hlc
        have kc := Arg.one_below hz2 HB.out.bel
        clear hz2
        subst hx2
        generalize z2 q = bc at kc
        cases bc
        · go_upto_region 10 with fail
          clear kc
          obtain ⟨⟨a', b'⟩, hs⟩ : ∃ r, ft p.walk p.blinks a b bq = r := ⟨_, rfl⟩
          have G1 : Hid (∀ W, Calls Try.prog 7 #[.agg p.cells.toArray, .agg #[I a, I b], .bool bq] W fun e w' => e = .returned (.agg #[I a', I b']) ∧ Below W.heap.size W w') := Lib.hid (fun W => step_is hs W)
          have G2 : Hid (∀ W, Calls Try.prog 8 #[.agg p.cells.toArray, .agg #[I a, I b], .bool bq] W fun e w' => e = .returned (.agg #[I a', I b']) ∧ Below W.heap.size W w') := Lib.hid (fun W => foot_is hs W)
          clear hs
          have kq : ∀ r : QB.By wr.heap.size wr, r.world.cell? (x1.add q) = some (.bool bq) := fun r => Arg.one_below HZ.out (HB.out.by r).bel
          go_upto_region 10 with fail
          refine QT.region wr.heap.size 6 (by kernel_rfl) (by kernel_rfl) ?_
          simp only [List.take_succ_cons, List.take_zero]
          repeat first
            | (refine wpQuiet_load rfl 23 _ rfl ⟨gp, 0, none⟩ rfl p.cells _ (fun w' ⟨p, e⟩ => by rw [e]; have := Row.lies_of_block ((HB.out.by p).at 2 rfl); simpa using this) Try.underlying23 rfl infoP ?_
               dsimp only [Act.put]
               simp only [List.setIfInBounds_toArray, List.set_cons_zero, List.set_cons_succ])
            | (refine wpQuiet_load rfl 25 _ rfl ⟨ga, 0, none⟩ rfl [I a, I b] _ (fun w' ⟨p, e⟩ => by rw [e]; have := Row.lies_of_block ((HB.out.by p).at 1 rfl); simpa using this) Try.underlying25 rfl infoFt ?_
               dsimp only [Act.put]
               simp only [List.setIfInBounds_toArray, List.set_cons_zero, List.set_cons_succ])
            | (quiet_step (fail))
          refine wpQuiet_nil ?_
          intro _ hw'
          obtain ⟨pq, rfl⟩ := hw'
          have HP := Lib.hid (HB.out.by pq)
          generalize pq.world = vp at HP ⊢
          simp only [List.drop_succ_cons, List.drop_zero]
          go_wp2_with fail
          refine (G1.out _).mono ?_
          rintro e vc ⟨rfl, bc⟩
          have HD := Lib.hid (HP.out.step bc)
          clear bc HP
          go_upto_region 11 with (refine wpList_store_row rfl 25 _ _ rfl ga #[I a', I b'] rfl rfl 25 _ (HD.out.at 1 rfl) infoFt rfl (by simp [Value.oneCell']) ?_)
          have he := HD.out.put 1 rfl #[I a', I b']
          simp only [List.set_cons_succ, List.set_cons_zero] at he
          generalize World.setRow _ ga _ = v5 at he ⊢
          have HE := Lib.hid he
          clear he HD
          clear kq
          have kq : ∀ r : QB.By v5.heap.size v5, r.world.cell? (x1.add q) = some (.bool bq) := fun r => Arg.one_below HZ.out (HE.out.by r).bel
          go_upto_region 11 with fail
          refine QT.region v5.heap.size 6 (by kernel_rfl) (by kernel_rfl) ?_
          simp only [List.take_succ_cons, List.take_zero]
          repeat first
            | (refine wpQuiet_load rfl 23 _ rfl ⟨gp, 0, none⟩ rfl p.cells _ (fun w' ⟨p, e⟩ => by rw [e]; have := Row.lies_of_block ((HE.out.by p).at 2 rfl); simpa using this) Try.underlying23 rfl infoP ?_
               dsimp only [Act.put]
               simp only [List.setIfInBounds_toArray, List.set_cons_zero, List.set_cons_succ])
            | (refine wpQuiet_load rfl 25 _ rfl ⟨gb, 0, none⟩ rfl [I a, I b] _ (fun w' ⟨p, e⟩ => by rw [e]; have := Row.lies_of_block ((HE.out.by p).at 0 rfl); simpa using this) Try.underlying25 rfl infoFt ?_
               dsimp only [Act.put]
               simp only [List.setIfInBounds_toArray, List.set_cons_zero, List.set_cons_succ])
            | (quiet_step (fail))
          refine wpQuiet_nil ?_
          intro _ hw'
          obtain ⟨pq, rfl⟩ := hw'
          have HP := Lib.hid (HE.out.by pq)
          generalize pq.world = vp at HP ⊢
          simp only [List.drop_succ_cons, List.drop_zero]
          go_wp2_with fail
          refine (G2.out _).mono ?_
          rintro e vc ⟨rfl, bc⟩
          have HD := Lib.hid (HP.out.step bc)
          clear bc HP
          go_upto_region 12 with (refine wpList_store_row rfl 25 _ _ rfl gb #[I a', I b'] rfl rfl 25 _ (HD.out.at 0 rfl) infoFt rfl (by simp [Value.oneCell']) ?_)
          have he := HD.out.put 0 rfl #[I a', I b']
          simp only [List.set_cons_succ, List.set_cons_zero] at he
          generalize World.setRow _ gb _ = v6 at he ⊢
          have HF := Lib.hid he
          clear he HD
          clear kq
          go_wp2_with (first | (refine Row.wpList_load_g 25 _ rfl (by first | rfl | go_simp) ⟨ga, 0, none⟩ rfl [I a', I b'] _ (by have := Row.lies_of_block (HF.out.at 1 rfl); simpa using this) Try.underlying25 rfl infoFt ?_) | (refine Row.wpList_load_g 25 _ rfl (by first | rfl | go_simp) ⟨gb, 0, none⟩ rfl [I a', I b'] _ (by have := Row.lies_of_block (HF.out.at 0 rfl); simpa using this) Try.underlying25 rfl infoFt ?_) | (refine Row.wpList_neq 25 _ _ _ rfl (by rfl) #[I a', I b'] #[I a', I b'] rfl rfl guardFt true (ft_same _ _) ?_))
          go_roundw
          case rel => exact ⟨q + 1, a', b', by omega, by go_num, HF.out⟩
          case measure => simp [intOf]; omega
        · obtain ⟨⟨c, d⟩, hcu⟩ : ∃ r, cu a b = r := ⟨_, rfl⟩
          have K1 : Hid (∀ W, Calls Try.prog 9 #[.agg #[I a, I b]] W fun e w' => e = .returned (.agg #[I c, I d]) ∧ Below W.heap.size W w') := Lib.hid (fun W => cut_is hcu W)
          have K2 : Hid (∀ W, Calls Try.prog 10 #[.agg #[I a, I b]] W fun e w' => e = .returned (.agg #[I c, I d]) ∧ Below W.heap.size W w') := Lib.hid (fun W => rcut_is hcu W)
          clear hcu
          go_upto_region 8 with fail
          clear kc
          go_wp2_with (refine Row.wpList_load_g 25 _ rfl (by first | rfl | go_simp) ⟨ga, 0, none⟩ rfl [I a, I b] _ (by have := Row.lies_of_block (HB.out.at 1 rfl); simpa using this) Try.underlying25 rfl infoFt ?_)
          refine (K1.out _).mono ?_
          rintro e vc ⟨rfl, bc⟩
          have HD := Lib.hid (HB.out.step bc)
          clear bc
          go_upto_region 9 with (refine wpList_store_row rfl 25 _ _ rfl ga #[I c, I d] rfl rfl 25 _ (HD.out.at 1 rfl) infoFt rfl (by simp [Value.oneCell']) ?_)
          have he := HD.out.put 1 rfl #[I c, I d]
          simp only [List.set_cons_succ, List.set_cons_zero] at he
          generalize World.setRow _ ga _ = v3 at he ⊢
          have HK1 := Lib.hid he
          clear he HD
          go_wp2_with (refine Row.wpList_load_g 25 _ rfl (by first | rfl | go_simp) ⟨gb, 0, none⟩ rfl [I a, I b] _ (by have := Row.lies_of_block (HK1.out.at 0 rfl); simpa using this) Try.underlying25 rfl infoFt ?_)
          refine (K2.out _).mono ?_
          rintro e vc ⟨rfl, bc⟩
          have HD := Lib.hid (HK1.out.step bc)
          clear bc
          go_upto_region 10 with (refine wpList_store_row rfl 25 _ _ rfl gb #[I c, I d] rfl rfl 25 _ (HD.out.at 0 rfl) infoFt rfl (by simp [Value.oneCell']) ?_)
          have he := HD.out.put 0 rfl #[I c, I d]
          simp only [List.set_cons_succ, List.set_cons_zero] at he
          generalize World.setRow _ gb _ = v4 at he ⊢
          have HK2 := Lib.hid he
          clear he HD
          obtain ⟨⟨a', b'⟩, hs⟩ : ∃ r, ft p.walk p.blinks c d bq = r := ⟨_, rfl⟩
          have G1 : Hid (∀ W, Calls Try.prog 7 #[.agg p.cells.toArray, .agg #[I c, I d], .bool bq] W fun e w' => e = .returned (.agg #[I a', I b']) ∧ Below W.heap.size W w') := Lib.hid (fun W => step_is hs W)
          have G2 : Hid (∀ W, Calls Try.prog 8 #[.agg p.cells.toArray, .agg #[I c, I d], .bool bq] W fun e w' => e = .returned (.agg #[I a', I b']) ∧ Below W.heap.size W w') := Lib.hid (fun W => foot_is hs W)
          clear hs
          have kq : ∀ r : QB.By v4.heap.size v4, r.world.cell? (x1.add q) = some (.bool bq) := fun r => Arg.one_below HZ.out (HK2.out.by r).bel
          go_upto_region 10 with fail
          refine QT.region v4.heap.size 6 (by kernel_rfl) (by kernel_rfl) ?_
          simp only [List.take_succ_cons, List.take_zero]
          repeat first
            | (refine wpQuiet_load rfl 23 _ rfl ⟨gp, 0, none⟩ rfl p.cells _ (fun w' ⟨p, e⟩ => by rw [e]; have := Row.lies_of_block ((HK2.out.by p).at 2 rfl); simpa using this) Try.underlying23 rfl infoP ?_
               dsimp only [Act.put]
               simp only [List.setIfInBounds_toArray, List.set_cons_zero, List.set_cons_succ])
            | (refine wpQuiet_load rfl 25 _ rfl ⟨ga, 0, none⟩ rfl [I c, I d] _ (fun w' ⟨p, e⟩ => by rw [e]; have := Row.lies_of_block ((HK2.out.by p).at 1 rfl); simpa using this) Try.underlying25 rfl infoFt ?_
               dsimp only [Act.put]
               simp only [List.setIfInBounds_toArray, List.set_cons_zero, List.set_cons_succ])
            | (quiet_step (fail))
          refine wpQuiet_nil ?_
          intro _ hw'
          obtain ⟨pq, rfl⟩ := hw'
          have HP := Lib.hid (HK2.out.by pq)
          generalize pq.world = vp at HP ⊢
          simp only [List.drop_succ_cons, List.drop_zero]
          go_wp2_with fail
          refine (G1.out _).mono ?_
          rintro e vc ⟨rfl, bc⟩
          have HD := Lib.hid (HP.out.step bc)
          clear bc HP
          go_upto_region 11 with (refine wpList_store_row rfl 25 _ _ rfl ga #[I a', I b'] rfl rfl 25 _ (HD.out.at 1 rfl) infoFt rfl (by simp [Value.oneCell']) ?_)
          have he := HD.out.put 1 rfl #[I a', I b']
          simp only [List.set_cons_succ, List.set_cons_zero] at he
          generalize World.setRow _ ga _ = v5 at he ⊢
          have HE := Lib.hid he
          clear he HD
          clear kq
          have kq : ∀ r : QB.By v5.heap.size v5, r.world.cell? (x1.add q) = some (.bool bq) := fun r => Arg.one_below HZ.out (HE.out.by r).bel
          go_upto_region 11 with fail
          refine QT.region v5.heap.size 6 (by kernel_rfl) (by kernel_rfl) ?_
          simp only [List.take_succ_cons, List.take_zero]
          repeat first
            | (refine wpQuiet_load rfl 23 _ rfl ⟨gp, 0, none⟩ rfl p.cells _ (fun w' ⟨p, e⟩ => by rw [e]; have := Row.lies_of_block ((HE.out.by p).at 2 rfl); simpa using this) Try.underlying23 rfl infoP ?_
               dsimp only [Act.put]
               simp only [List.setIfInBounds_toArray, List.set_cons_zero, List.set_cons_succ])
            | (refine wpQuiet_load rfl 25 _ rfl ⟨gb, 0, none⟩ rfl [I c, I d] _ (fun w' ⟨p, e⟩ => by rw [e]; have := Row.lies_of_block ((HE.out.by p).at 0 rfl); simpa using this) Try.underlying25 rfl infoFt ?_
               dsimp only [Act.put]
               simp only [List.setIfInBounds_toArray, List.set_cons_zero, List.set_cons_succ])
            | (quiet_step (fail))
          refine wpQuiet_nil ?_
          intro _ hw'
          obtain ⟨pq, rfl⟩ := hw'
          have HP := Lib.hid (HE.out.by pq)
          generalize pq.world = vp at HP ⊢
          simp only [List.drop_succ_cons, List.drop_zero]
          go_wp2_with fail
          refine (G2.out _).mono ?_
          rintro e vc ⟨rfl, bc⟩
          have HD := Lib.hid (HP.out.step bc)
          clear bc HP
          go_upto_region 12 with (refine wpList_store_row rfl 25 _ _ rfl gb #[I a', I b'] rfl rfl 25 _ (HD.out.at 0 rfl) infoFt rfl (by simp [Value.oneCell']) ?_)
          have he := HD.out.put 0 rfl #[I a', I b']
          simp only [List.set_cons_succ, List.set_cons_zero] at he
          generalize World.setRow _ gb _ = v6 at he ⊢
          have HF := Lib.hid he
          clear he HD
          clear kq
          go_wp2_with (first | (refine Row.wpList_load_g 25 _ rfl (by first | rfl | go_simp) ⟨ga, 0, none⟩ rfl [I a', I b'] _ (by have := Row.lies_of_block (HF.out.at 1 rfl); simpa using this) Try.underlying25 rfl infoFt ?_) | (refine Row.wpList_load_g 25 _ rfl (by first | rfl | go_simp) ⟨gb, 0, none⟩ rfl [I a', I b'] _ (by have := Row.lies_of_block (HF.out.at 0 rfl); simpa using this) Try.underlying25 rfl infoFt ?_) | (refine Row.wpList_neq 25 _ _ _ rfl (by rfl) #[I a', I b'] #[I a', I b'] rfl rfl guardFt true (ft_same _ _) ?_))
          go_roundw
          case rel => exact ⟨q + 1, a', b', by omega, by go_num, HF.out⟩
          case measure => simp [intOf]; omega
      · go_upto_region 10 with fail
        obtain ⟨⟨a', b'⟩, hs⟩ : ∃ r, ft p.walk p.blinks a b bq = r := ⟨_, rfl⟩
        have G1 : Hid (∀ W, Calls Try.prog 7 #[.agg p.cells.toArray, .agg #[I a, I b], .bool bq] W fun e w' => e = .returned (.agg #[I a', I b']) ∧ Below W.heap.size W w') := Lib.hid (fun W => step_is hs W)
        have G2 : Hid (∀ W, Calls Try.prog 8 #[.agg p.cells.toArray, .agg #[I a, I b], .bool bq] W fun e w' => e = .returned (.agg #[I a', I b']) ∧ Below W.heap.size W w') := Lib.hid (fun W => foot_is hs W)
        clear hs
        have kq : ∀ r : QB.By wr.heap.size wr, r.world.cell? (x1.add q) = some (.bool bq) := fun r => Arg.one_below HZ.out (HB.out.by r).bel
        go_upto_region 10 with fail
        refine QT.region wr.heap.size 6 (by kernel_rfl) (by kernel_rfl) ?_
        simp only [List.take_succ_cons, List.take_zero]
        repeat first
          | (refine wpQuiet_load rfl 23 _ rfl ⟨gp, 0, none⟩ rfl p.cells _ (fun w' ⟨p, e⟩ => by rw [e]; have := Row.lies_of_block ((HB.out.by p).at 2 rfl); simpa using this) Try.underlying23 rfl infoP ?_
             dsimp only [Act.put]
             simp only [List.setIfInBounds_toArray, List.set_cons_zero, List.set_cons_succ])
          | (refine wpQuiet_load rfl 25 _ rfl ⟨ga, 0, none⟩ rfl [I a, I b] _ (fun w' ⟨p, e⟩ => by rw [e]; have := Row.lies_of_block ((HB.out.by p).at 1 rfl); simpa using this) Try.underlying25 rfl infoFt ?_
             dsimp only [Act.put]
             simp only [List.setIfInBounds_toArray, List.set_cons_zero, List.set_cons_succ])
          | (quiet_step (fail))
        refine wpQuiet_nil ?_
        intro _ hw'
        obtain ⟨pq, rfl⟩ := hw'
        have HP := Lib.hid (HB.out.by pq)
        generalize pq.world = vp at HP ⊢
        simp only [List.drop_succ_cons, List.drop_zero]
        go_wp2_with fail
        refine (G1.out _).mono ?_
        rintro e vc ⟨rfl, bc⟩
        have HD := Lib.hid (HP.out.step bc)
        clear bc HP
        go_upto_region 11 with (refine wpList_store_row rfl 25 _ _ rfl ga #[I a', I b'] rfl rfl 25 _ (HD.out.at 1 rfl) infoFt rfl (by simp [Value.oneCell']) ?_)
        have he := HD.out.put 1 rfl #[I a', I b']
        simp only [List.set_cons_succ, List.set_cons_zero] at he
        generalize World.setRow _ ga _ = v5 at he ⊢
        have HE := Lib.hid he
        clear he HD
        clear kq
        have kq : ∀ r : QB.By v5.heap.size v5, r.world.cell? (x1.add q) = some (.bool bq) := fun r => Arg.one_below HZ.out (HE.out.by r).bel
        go_upto_region 11 with fail
        refine QT.region v5.heap.size 6 (by kernel_rfl) (by kernel_rfl) ?_
        simp only [List.take_succ_cons, List.take_zero]
        repeat first
          | (refine wpQuiet_load rfl 23 _ rfl ⟨gp, 0, none⟩ rfl p.cells _ (fun w' ⟨p, e⟩ => by rw [e]; have := Row.lies_of_block ((HE.out.by p).at 2 rfl); simpa using this) Try.underlying23 rfl infoP ?_
             dsimp only [Act.put]
             simp only [List.setIfInBounds_toArray, List.set_cons_zero, List.set_cons_succ])
          | (refine wpQuiet_load rfl 25 _ rfl ⟨gb, 0, none⟩ rfl [I a, I b] _ (fun w' ⟨p, e⟩ => by rw [e]; have := Row.lies_of_block ((HE.out.by p).at 0 rfl); simpa using this) Try.underlying25 rfl infoFt ?_
             dsimp only [Act.put]
             simp only [List.setIfInBounds_toArray, List.set_cons_zero, List.set_cons_succ])
          | (quiet_step (fail))
        refine wpQuiet_nil ?_
        intro _ hw'
        obtain ⟨pq, rfl⟩ := hw'
        have HP := Lib.hid (HE.out.by pq)
        generalize pq.world = vp at HP ⊢
        simp only [List.drop_succ_cons, List.drop_zero]
        go_wp2_with fail
        refine (G2.out _).mono ?_
        rintro e vc ⟨rfl, bc⟩
        have HD := Lib.hid (HP.out.step bc)
        clear bc HP
        go_upto_region 12 with (refine wpList_store_row rfl 25 _ _ rfl gb #[I a', I b'] rfl rfl 25 _ (HD.out.at 0 rfl) infoFt rfl (by simp [Value.oneCell']) ?_)
        have he := HD.out.put 0 rfl #[I a', I b']
        simp only [List.set_cons_succ, List.set_cons_zero] at he
        generalize World.setRow _ gb _ = v6 at he ⊢
        have HF := Lib.hid he
        clear he HD
        clear kq
        go_wp2_with (first | (refine Row.wpList_load_g 25 _ rfl (by first | rfl | go_simp) ⟨ga, 0, none⟩ rfl [I a', I b'] _ (by have := Row.lies_of_block (HF.out.at 1 rfl); simpa using this) Try.underlying25 rfl infoFt ?_) | (refine Row.wpList_load_g 25 _ rfl (by first | rfl | go_simp) ⟨gb, 0, none⟩ rfl [I a', I b'] _ (by have := Row.lies_of_block (HF.out.at 0 rfl); simpa using this) Try.underlying25 rfl infoFt ?_) | (refine Row.wpList_neq 25 _ _ _ rfl (by rfl) #[I a', I b'] #[I a', I b'] rfl rfl guardFt true (ft_same _ _) ?_))
        go_roundw
        case rel => exact ⟨q + 1, a', b', by omega, by go_num, HF.out⟩
        case measure => simp [intOf]; omega
    · obtain rfl : q = len1 := by omega
      go_wp2_with fail
      refine (awake_any _).mono ?_
      rintro e u9 ⟨rfl, b9⟩
      go_wp2
      go_ret
      exact ⟨rfl, (HB.out.step b9).bel⟩

/-! ### the row's step -/
set_option maxRecDepth 100000 in
theorem lifted (os : Os) (started : os.Started) (H : Type) (enc : TypeId × Value → H) :
    ReturnsInHanded {} Try.checked os 4 .any (Rows.pedPlaysSpec.pre6 enc Try.prog Try.f4 Rows.pedPlaysRow.domain false) (Rows.pedPlaysSpec.post enc Try.prog Try.f4 false true false false) := by
  refine returnsInHanded_of_change (C := Try.checked) own started (by kernel_rfl) Try.func4
    (ChangeSpec.witness6 (enc := enc) (C := Try.checked) false ⟨#[], #[.agg (Tab.Ph.cells ⟨false, 0, 0, 0, 0, 0, 0, 0, 0, 0, 0, false, false⟩).toArray, .slice none 0 0, .slice none 0 0], []⟩ 8 (by kernel_rfl) (by kernel_rfl) (by kernel_rfl) (by kernel_rfl)) ?_
  intro W base args ds gs before hval0 hW hcnd _
  have hval : ∀ (j : Nat) t v, Try.f4.params[j]? = some t → args[j]? = some v → Value.okWide Try.prog W .any base t v := hval0
  have hW' := hW
  obtain ⟨p, q, hA0, hV, rfl, hfz, hnd⟩ := hW
  have hA : DataW.TrodAll enc Try.prog W 0 (fun _ => true) true Try.f4.params.toList args.toList ds p := hA0
  rw [Try.params4] at hA hval
  obtain ⟨v0, vs0, d0, ds0, p0, q0, hargs, rfl, rfl, h0, r0⟩ := trodAll_cons hA
  obtain ⟨v1, vs1, d1, ds1, p1, q1, rfl, rfl, rfl, h1, r1⟩ := trodAll_cons r0
  obtain ⟨v2, vs2, d2, ds2, p2, q2, rfl, rfl, rfl, h2, r2⟩ := trodAll_cons r1
  obtain ⟨rfl, rfl, rfl⟩ := trodAll_nil r2
  obtain rfl : args = #[v0, v1, v2] := by cases args; simp_all
  obtain ⟨rfl, rfl⟩ := trodVars_none hV
  obtain ⟨c0, rfl, _⟩ := okWide_struct Try.underlying23 (hval 0 23 v0 rfl rfl)
  have k0 := h0
  have lt0 : ∀ x ∈ p0, x.block < W.heap.size := by obtain ⟨m, hm⟩ := k0; exact DataW.trod_lt m _ _ _ hm
  obtain ⟨x0, e0⟩ : ∃ x : Tab.Ph, c0 = x.cells.toArray := by
    obtain ⟨fuel, hf⟩ := h0
    obtain ⟨x, e⟩ := TabArg.ph_el (Flat.trod_flat 4 _ _ TabArg.flP fuel _ _ hf)
    exact ⟨x, by rw [← e]; simp [Value.cells]⟩
  subst e0
  obtain ⟨a1, len1, cap1, rfl⟩ := okWide_slice Try.underlying31 (hval 1 31 v1 rfl rfl)
  have k1 := h1
  have lt1 : ∀ x ∈ p1, x.block < W.heap.size := by obtain ⟨m, hm⟩ := k1; exact DataW.trod_lt m _ _ _ hm
  obtain ⟨s1, l1, e1, w1⟩ : ∃ (s : Tab.Sl) (l : List Bool), Value.slice a1 len1 cap1 = s.val l.length ∧ Tab.RowOf 1 (fun b : Bool => [Value.bool b]) W s l := by
    obtain ⟨fuel, hf⟩ := h1
    obtain ⟨s, l, e, r, _⟩ := TabArg.tr_row (k := 1) (f := (fun b : Bool => [Value.bool b])) (p := fun _ => True) Try.underlying31 (by kernel_rfl) (fun n cs x hx => by obtain ⟨z, hz, _⟩ := DataW.trod_bool Try.underlying4 hx; exact ⟨z, hz, trivial⟩) ⟨fuel, _, hf⟩
    exact ⟨s, l, e, r⟩
  simp only [Tab.Sl.val, Value.slice.injEq] at e1
  obtain ⟨rfl, rfl, rfl⟩ := e1
  obtain ⟨a2, len2, cap2, rfl⟩ := okWide_slice Try.underlying31 (hval 2 31 v2 rfl rfl)
  have k2 := h2
  have lt2 : ∀ x ∈ p2, x.block < W.heap.size := by obtain ⟨m, hm⟩ := k2; exact DataW.trod_lt m _ _ _ hm
  obtain ⟨s2, l2, e2, w2⟩ : ∃ (s : Tab.Sl) (l : List Bool), Value.slice a2 len2 cap2 = s.val l.length ∧ Tab.RowOf 1 (fun b : Bool => [Value.bool b]) W s l := by
    obtain ⟨fuel, hf⟩ := h2
    obtain ⟨s, l, e, r, _⟩ := TabArg.tr_row (k := 1) (f := (fun b : Bool => [Value.bool b])) (p := fun _ => True) Try.underlying31 (by kernel_rfl) (fun n cs x hx => by obtain ⟨z, hz, _⟩ := DataW.trod_bool Try.underlying4 hx; exact ⟨z, hz, trivial⟩) ⟨fuel, _, hf⟩
    exact ⟨s, l, e, r⟩
  simp only [Tab.Sl.val, Value.slice.injEq] at e2
  obtain ⟨rfl, rfl, rfl⟩ := e2
  clear hA0 hval0
  refine (walk x0 s1 l1 s2 l2 W w1 w2).mono fun e W' ⟨he, bel⟩ => ?_
  subst he
  exact ⟨_, rfl, _, _, _, [], _, [], hW', trodAll_mk1 (shut_bool Try.underlying4 _), (trodAll_cons_mk (Below.trod laidOut (by kernel_rfl) (of_decide_eq_true (by kernel_rfl)) k0 bel lt0) (trodAll_cons_mk (Below.trod laidOut (by kernel_rfl) (of_decide_eq_true (by kernel_rfl)) k1 bel lt1) (trodAll_cons_mk (Below.trod laidOut (by kernel_rfl) (of_decide_eq_true (by kernel_rfl)) k2 bel lt2) trodAll_mk0))), rfl, bel.frame _, fun h => by cases h⟩

theorem over : Rows.pedPlaysRow.holds Try.pinned (OpenSpec.ofChange Rows.pedPlaysSpec) :=
  OpenClaim.holds_of_wide 4 Try.f4 rfl rfl rfl rfl rfl rfl rfl ⟨rfl, rfl, rfl, rfl, rfl⟩ rfl rfl rfl rfl rfl (by kernel_rfl) Try.func4 (by kernel_rfl)
    (of_decide_eq_true (by kernel_rfl)) (by unfold Func.isWrapper; first | (rw [if_pos (by decide +kernel)]; kernel_rfl) | (rw [if_neg (by decide +kernel)]; exact ⟨rfl, rfl⟩))
    (fun os started H enc _ => lifted os started H enc)

/-- the statement -/
theorem proved : Rows.PedPlaysSaid :=
  over
#print axioms proved
end Go.Proofs.Ytbmkkkkknofbaaa.pedPlays
