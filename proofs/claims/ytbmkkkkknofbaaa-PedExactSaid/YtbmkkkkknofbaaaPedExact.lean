/- PedExact returns true at any numbers and any row of beginnings: a walk takes just its ticks, and what blinks behind it its own. No condition. -/
import Derived.Test.YtbmkkkkknofbaaaRows
import Derived.Test.YtbmkkkkknofbaaaPedW
import Derived.Test.YtbmkkkkknofbaaaQT
import Derived.Test.YtbmkkkkknofbaaaArg
import Derived.Deep.Cut
import Derived.LoopTactic
import Derived.BigQuiet
import Derived.WalkKit
import Derived.WalkLawsBesides
import Derived.ProofKit
import Derived.OpenShut
import Derived.ShutString
import Derived.ChangeOld
import Derived.Below
namespace Go.Proofs.Ytbmkkkkknofbaaa.pedExact
open Go.ChangeShapes Go.WideShapes Go.ChangeAt Go.RowKit
open Tab Ped QL
open May (infoP)
set_option linter.unusedVariables false
set_option linter.unusedSimpArgs false

theorem own : ownKnob Try.prog.godebug = none := by kernel_rfl
theorem laidOut : laidOutB Try.prog = true := by kernel_rfl

/-- WHAT THE WALK IS TOLD OF A SLICE OF INTEGERS THAT CAME IN: it is nil; or it leads to a row of 'cap' cells, the numbers 'zs' (the first 'len' are its elements, the rest its spare room), each fitting its kind. -/
def IsRow (k : IntKind) (w : World) (a : Option Addr) (len cap : Nat) (zs : List Int) : Prop :=
  (a = none ∧ len = 0 ∧ cap = 0 ∧ zs = []) ∨
  ∃ x, a = some x ∧ len ≤ cap ∧ cap ≤ maxLen ∧ zs.length = cap ∧ (∀ i, i < zs.length → w.cell? (x.add i) = some (.int k (zs.getD i 0))) ∧ ∀ n ∈ zs, (Lit.int k n).wf = true

/-- The state at tick q of a walk of k ticks and l that blink. -/
def st (k l q : Int) : Ft := if q ≤ k then ⟨1, q⟩ else if q ≤ k + l then ⟨2, q - k⟩ else ⟨0, 0⟩
theorem st_step {k l q : Int} (hk : 1 ≤ k) (hk2 : k ≤ 60) (hl : 1 ≤ l) (hl2 : l ≤ 60) (h1 : 1 ≤ q) (h2 : q ≤ k + l) (b : Bool) : ft k l (st k l q).st (st k l q).tm b = st k l (q + 1) := by
  unfold st ft
  by_cases c1 : q ≤ k
  · rw [if_pos c1]
    dsimp only
    rw [if_pos rfl, Cnt.more_in (by omega) (by omega)]
    by_cases c2 : k ≤ q
    · obtain rfl : q = k := by omega
      rw [if_pos c2, if_neg (by omega), if_pos (by omega)]
      congr 1; omega
    · rw [if_neg c2, if_pos (by omega)]
  · rw [if_neg c1, if_pos h2]
    dsimp only
    rw [if_neg (by decide), if_pos rfl, Cnt.more_in (by omega) (by omega), if_neg (show ¬ q + 1 ≤ k by omega)]
    by_cases c2 : l ≤ q - k
    · rw [if_pos c2, if_neg (by omega)]
    · rw [if_neg c2, if_pos (by omega)]
      congr 1; omega

/-! ### the walk -/
set_option maxRecDepth 100000 in
set_option maxHeartbeats 8000000 in
theorem walk (a0 : Int) (a1 : Int) (s2 : Tab.Sl) (l2 : List Bool) (w : World) (w0 : (Lit.int .i64 a0).wf = true) (w1 : (Lit.int .i64 a1).wf = true) (w2 : Tab.RowOf 1 (fun b : Bool => [Value.bool b]) w s2 l2) :
    Calls Try.prog 5 #[.int .i64 a0, .int .i64 a1, .slice s2.a l2.length s2.cap] w fun e w' => e = .returned (.bool true) ∧ Below w.heap.size w w' := by
  obtain ⟨x2, z2, hA2, hl2, hc2⟩ := Arg.bools_at w2
  obtain ⟨sa2, cap2⟩ := s2
  dsimp only at hA2 hl2 hc2 ⊢
  generalize l2.length = len2 at hA2 hl2 ⊢
  have HA2 := Lib.hid hA2
  unfold maxLen at hc2
  clear hA2 w2
  obtain ⟨m0, hm0⟩ : ∃ m, a0 % 60 = m := ⟨_, rfl⟩
  have q0 : 0 ≤ m0 := by omega
  have r0 : m0 < 60 := by omega
  have PL0 : Hid (∀ W, Calls Try.prog 14 #[.int .i64 a0, .int .i64 60] W fun e w' => e = .returned (.int .i64 m0) ∧ W = w') := Lib.hid (fun W => by have := Cnt.place_any a0 60 W (by decide) (by decide); rwa [hm0] at this)
  clear hm0
  obtain ⟨k, hk⟩ : ∃ k, 1 + m0 = k := ⟨_, rfl⟩
  have Hk := Lib.hid hk
  clear hk
  obtain ⟨m1, hm1⟩ : ∃ m, a1 % 60 = m := ⟨_, rfl⟩
  have q1 : 0 ≤ m1 := by omega
  have r1 : m1 < 60 := by omega
  have PL1 : Hid (∀ W, Calls Try.prog 14 #[.int .i64 a1, .int .i64 60] W fun e w' => e = .returned (.int .i64 m1) ∧ W = w') := Lib.hid (fun W => by have := Cnt.place_any a1 60 W (by decide) (by decide); rwa [hm1] at this)
  clear hm1
  obtain ⟨l, hl⟩ : ∃ k, 1 + m1 = k := ⟨_, rfl⟩
  have Hl := Lib.hid hl
  clear hl
  obtain ⟨p, hp⟩ : ∃ p : Ph, p = wb k l := ⟨_, rfl⟩
  have hc := wb_cells hp
  have hpk : p.walk = k := by rw [hp]; rfl
  have hpl : p.blinks = l := by rw [hp]; rfl
  have h0 := (Blk.Bks.nil w).alloc p.cells.toArray 23
  rw [hc] at h0
  go_enter Try.func5, Try.ntmps5
  go_upto_region 2 with (first | (go_at_call 14; with_reducible refine (PL0.out _).mono ?_; rintro e w' ⟨rfl, rfl⟩) | (go_at_call 14; with_reducible refine (PL1.out _).mono ?_; rintro e w' ⟨rfl, rfl⟩))
  rw [Hk.out, Hl.out]
  rw [← hc] at h0 ⊢
  clear hc hp
  generalize World.alloc w _ = v0 at h0 ⊢
  generalize w.heap.size = gp at h0 ⊢
  have H0 := Lib.hid h0
  clear h0 PL0 PL1
  have hk := Hk.out
  have hl := Hl.out
  clear Hk Hl
  have K0 : 1 ≤ k ∧ k ≤ 60 := by omega
  have L0 : 1 ≤ l ∧ l ≤ 60 := by omega
  clear q0 r0 q1 r1 hk hl
  obtain ⟨k0, k1⟩ := K0
  obtain ⟨l0, l1⟩ := L0
  have S0 : Hid (∀ W, Calls Try.prog 7 #[.agg p.cells.toArray, .agg #[I 0, I 0], .bool true] W fun e w' => e = .returned (.agg #[I 1, I 1]) ∧ Below W.heap.size W w') := Lib.hid (fun W => step_is (by rw [hpk, hpl]; unfold ft; rw [if_neg (by decide), if_neg (by decide), if_pos ⟨rfl, by omega⟩]) W)
  have ST : Hid (∀ (q : Int) (S T S' T' : Int), 1 ≤ q → q ≤ k + l → st k l q = ⟨S, T⟩ → st k l (q + 1) = ⟨S', T'⟩ → ∀ (g : Bool) W, Calls Try.prog 7 #[.agg p.cells.toArray, .agg #[I S, I T], .bool g] W fun e w' => e = .returned (.agg #[I S', I T']) ∧ Below W.heap.size W w') := Lib.hid (fun q S T S' T' h1 h2 hs hs' g W => step_is (by rw [hpk, hpl]; have := st_step k0 k1 l0 l1 h1 h2 g; rw [hs, hs'] at this; exact this) W)
  go_wp2_with (refine Row.wpList_load_g 23 _ rfl (by first | rfl | (go_simp; done) | fail) ⟨gp, 0, none⟩ rfl p.cells _ (by have := Row.lies_of_block (H0.out.at 0 rfl); simpa using this) Try.underlying23 rfl infoP ?_)
  refine (S0.out _).mono ?_
  rintro e vc ⟨rfl, bc⟩
  go_upto_region 3 with fail
  have hn := (H0.out.step bc).alloc #[I 1, I 1] 25
  clear bc H0
  generalize World.alloc vc _ = u1 at hn ⊢
  generalize vc.heap.size = gf at hn ⊢
  have H1 := Lib.hid hn
  clear hn S0
  clear vc
  go_wp2_with fail
  go_loopw [9] (fun i wr => ∃ (q S T : Int), 1 ≤ q ∧ q ≤ k + l + 1 ∧ i = .int .i64 q ∧ Hid (st k l q = ⟨S, T⟩) ∧ Blk.Bks w [(gf, #[I S, I T], 25), (gp, p.cells.toArray, 23)] wr) (fun i _ => (k + l + 2 - intOf i).toNat)
  case atStart => exact ⟨1, 1, 1, by omega, by omega, rfl, Lib.hid (by unfold st; rw [if_pos (by omega)]), H1.out⟩
  case round =>
    obtain ⟨q, S, T, hq1, hq2, rfl, HS, hB⟩ := hrel
    have HB := Lib.hid hB
    clear hB H1
    rename World => wr
    have kk : wr.cell? ⟨gp, 8, none⟩ = some (I k) := by have : wr.cell? ⟨gp, 8, none⟩ = some (I p.walk) := HB.out.cell 1 8 rfl rfl; rwa [hpk] at this
    have kl : wr.cell? ⟨gp, 9, none⟩ = some (I l) := by have : wr.cell? ⟨gp, 9, none⟩ = some (I p.blinks) := HB.out.cell 1 9 rfl rfl; rwa [hpl] at this
    have ekl : wrap64 (k + l) = k + l := IntWalk.wrap64_in _ (by omega)
    by_cases hle : q ≤ k + l
    · obtain ⟨⟨S', T'⟩, hs'⟩ : ∃ r, st k l (q + 1) = r := ⟨_, rfl⟩
      have SS : Hid (∀ (g : Bool) W, Calls Try.prog 7 #[.agg p.cells.toArray, .agg #[I S, I T], .bool g] W fun e w' => e = .returned (.agg #[I S', I T']) ∧ Below W.heap.size W w') := Lib.hid (ST.out q S T S' T' hq1 hle HS.out hs')
      have HS' := Lib.hid hs'
      clear hs'
      by_cases hc1 : q ≤ k
      · have hz := HS.out
        unfold st at hz
        rw [if_pos hc1] at hz
        injection hz with z1 z2
        subst z1 z2
        have el1 : wrap64 (l + 1) = l + 1 := IntWalk.wrap64_in _ (by omega)
        go_upto_region 7 with fail
        have hn := HB.out.alloc #[I 1, I q] 25
        clear HB kk kl
        generalize World.alloc wr _ = u2 at hn ⊢
        generalize wr.heap.size = gw at hn ⊢
        have H2 := Lib.hid hn
        clear hn
        have kk : u2.cell? ⟨gp, 8, none⟩ = some (I k) := by have : u2.cell? ⟨gp, 8, none⟩ = some (I p.walk) := H2.out.cell 2 8 rfl rfl; rwa [hpk] at this
        have kl : u2.cell? ⟨gp, 9, none⟩ = some (I l) := by have : u2.cell? ⟨gp, 9, none⟩ = some (I p.blinks) := H2.out.cell 2 9 rfl rfl; rwa [hpl] at this
        have O1 : Hid (∀ W, Calls Try.prog 11 #[.agg #[I 1, I q], .int .i64 0] W fun e w' => e = .returned (.bool false) ∧ Below W.heap.size W w') := Lib.hid (fun W => by have := over_any 1 q 0 W; rwa [show ov 1 q 0 = false by unfold ov; simp] at this)
        have O2 : Hid (∀ W, Calls Try.prog 11 #[.agg #[I 1, I q], .int .i64 (l + 1)] W fun e w' => e = .returned (.bool false) ∧ Below W.heap.size W w') := Lib.hid (fun W => by have := over_any 1 q (l + 1) W; rwa [show ov 1 q (l + 1) = false by unfold ov; simp] at this)
        go_wp2_with (first | (refine Row.wpList_load_g 25 _ rfl (by first | rfl | (go_simp; done) | fail) ⟨gf, 0, none⟩ rfl [I 1, I q] _ (by have := Row.lies_of_block (H2.out.at 1 rfl); simpa using this) Try.underlying25 rfl infoFt ?_) | (refine Row.wpList_load_g 25 _ rfl (by first | rfl | (go_simp; done) | fail) ⟨gw, 0, none⟩ rfl [I 1, I q] _ (by have := Row.lies_of_block (H2.out.at 0 rfl); simpa using this) Try.underlying25 rfl infoFt ?_) | (refine Row.wpList_neq 25 _ _ _ rfl (by rfl) #[I 1, I q] #[I 1, I q] rfl rfl guardFt true (ft_same _ _) ?_))
        refine (O1.out _).mono ?_
        rintro e u4 ⟨rfl, b4⟩
        have H4 := Lib.hid (H2.out.step b4)
        clear b4 kk kl
        have kk : u4.cell? ⟨gp, 8, none⟩ = some (I k) := by have : u4.cell? ⟨gp, 8, none⟩ = some (I p.walk) := H4.out.cell 2 8 rfl rfl; rwa [hpk] at this
        have kl : u4.cell? ⟨gp, 9, none⟩ = some (I l) := by have : u4.cell? ⟨gp, 9, none⟩ = some (I p.blinks) := H4.out.cell 2 9 rfl rfl; rwa [hpl] at this
        go_wp2_with (first | (refine Row.wpList_load_g 25 _ rfl (by first | rfl | (go_simp; done) | fail) ⟨gf, 0, none⟩ rfl [I 1, I q] _ (by have := Row.lies_of_block (H4.out.at 1 rfl); simpa using this) Try.underlying25 rfl infoFt ?_) | (refine Row.wpList_load_g 25 _ rfl (by first | rfl | (go_simp; done) | fail) ⟨gw, 0, none⟩ rfl [I 1, I q] _ (by have := Row.lies_of_block (H4.out.at 0 rfl); simpa using this) Try.underlying25 rfl infoFt ?_))
        refine (O2.out _).mono ?_
        rintro e u5 ⟨rfl, b5⟩
        have H5 := Lib.hid (H4.out.step b5)
        clear b5 kk kl O1 O2
        go_upto_region 11 with fail
        by_cases hb : q < (len2 : Int)
        · obtain ⟨n, rfl⟩ : ∃ n : Nat, q = (n : Int) := ⟨q.toNat, by omega⟩
          obtain ⟨hx, hzl⟩ := HA2.out n (by omega)
          subst hx
          have kb : ∀ r : QB.By u5.heap.size u5, r.world.cell? (x2.add n) = some (.bool (z2 n)) := fun r => Arg.one_below hzl (H5.out.by r).bel
          generalize z2 n = bq at kb
          go_upto_region 11 with fail
          refine QT.region u5.heap.size 12 (by kernel_rfl) (by kernel_rfl) ?_
          simp only [List.take_succ_cons, List.take_zero]
          repeat first
            | (refine wpQuiet_load rfl 23 _ rfl ⟨gp, 0, none⟩ rfl p.cells _ (fun w' ⟨p, e⟩ => by rw [e]; have := Row.lies_of_block ((H5.out.by p).at 2 rfl); simpa using this) Try.underlying23 rfl infoP ?_
               dsimp only [Act.put]
               simp only [List.setIfInBounds_toArray, List.set_cons_zero, List.set_cons_succ])
            | (refine wpQuiet_load rfl 25 _ rfl ⟨gf, 0, none⟩ rfl [I 1, I n] _ (fun w' ⟨p, e⟩ => by rw [e]; have := Row.lies_of_block ((H5.out.by p).at 1 rfl); simpa using this) Try.underlying25 rfl infoFt ?_
               dsimp only [Act.put]
               simp only [List.setIfInBounds_toArray, List.set_cons_zero, List.set_cons_succ])
            | (go_big_quiet_step (fail))
          refine wpQuiet_nil ?_
          intro _ hw'
          obtain ⟨pq, rfl⟩ := hw'
          have HP := Lib.hid (H5.out.by pq)
          generalize pq.world = vp at HP ⊢
          simp only [List.drop_succ_cons, List.drop_zero]
          go_wp2_with fail
          refine (SS.out _ _).mono ?_
          rintro e vc ⟨rfl, bc⟩
          have HD := Lib.hid (HP.out.step bc)
          clear bc HP
          go_upto_region 5 with (refine wpList_store_row rfl 25 _ _ rfl gf #[I S', I T'] rfl rfl 25 _ (HD.out.at 1 rfl) infoFt rfl (by simp [Value.oneCell']) ?_)
          have he := HD.out.put 1 rfl #[I S', I T']
          simp only [List.set_cons_succ, List.set_cons_zero] at he
          generalize World.setRow _ gf _ = u6 at he ⊢
          have H6 := Lib.hid he
          clear he HD
          clear kb
          go_wp2_with fail
          go_roundw
          case rel => exact ⟨(n : Int) + 1, S', T', by omega, by omega, by go_num, HS', H6.out.drop⟩
          case measure => simp [intOf]; omega
        · go_upto_region 11 with fail
          refine QT.region u5.heap.size 12 (by kernel_rfl) (by kernel_rfl) ?_
          simp only [List.take_succ_cons, List.take_zero]
          repeat first
            | (refine wpQuiet_load rfl 23 _ rfl ⟨gp, 0, none⟩ rfl p.cells _ (fun w' ⟨p, e⟩ => by rw [e]; have := Row.lies_of_block ((H5.out.by p).at 2 rfl); simpa using this) Try.underlying23 rfl infoP ?_
               dsimp only [Act.put]
               simp only [List.setIfInBounds_toArray, List.set_cons_zero, List.set_cons_succ])
            | (refine wpQuiet_load rfl 25 _ rfl ⟨gf, 0, none⟩ rfl [I 1, I q] _ (fun w' ⟨p, e⟩ => by rw [e]; have := Row.lies_of_block ((H5.out.by p).at 1 rfl); simpa using this) Try.underlying25 rfl infoFt ?_
               dsimp only [Act.put]
               simp only [List.setIfInBounds_toArray, List.set_cons_zero, List.set_cons_succ])
            | (go_big_quiet_step (fail))
          refine wpQuiet_nil ?_
          intro _ hw'
          obtain ⟨pq, rfl⟩ := hw'
          have HP := Lib.hid (H5.out.by pq)
          generalize pq.world = vp at HP ⊢
          simp only [List.drop_succ_cons, List.drop_zero]
          go_wp2_with fail
          refine (SS.out _ _).mono ?_
          rintro e vc ⟨rfl, bc⟩
          have HD := Lib.hid (HP.out.step bc)
          clear bc HP
          go_upto_region 5 with (refine wpList_store_row rfl 25 _ _ rfl gf #[I S', I T'] rfl rfl 25 _ (HD.out.at 1 rfl) infoFt rfl (by simp [Value.oneCell']) ?_)
          have he := HD.out.put 1 rfl #[I S', I T']
          simp only [List.set_cons_succ, List.set_cons_zero] at he
          generalize World.setRow _ gf _ = u6 at he ⊢
          have H6 := Lib.hid he
          clear he HD
          go_wp2_with fail
          go_roundw
          case rel => exact ⟨q + 1, S', T', by omega, by omega, by go_num, HS', H6.out.drop⟩
          case measure => simp [intOf]; omega
      · have hz := HS.out
        unfold st at hz
        rw [if_neg hc1, if_pos hle] at hz
        injection hz with z1 z2
        subst z1 z2
        have eqk : wrap64 (q - k) = q - k := IntWalk.wrap64_in _ (by omega)
        have el1 : wrap64 (l + 1) = l + 1 := IntWalk.wrap64_in _ (by omega)
        obtain ⟨t, ht⟩ : ∃ t, q - k = t := ⟨_, rfl⟩
        have ht1 : t ≤ l := by omega
        rw [ht] at eqk HB SS HS
        clear HS
        go_upto_region 7 with fail
        have hn := HB.out.alloc #[I 1, I q] 25
        clear HB kk kl
        generalize World.alloc wr _ = u2 at hn ⊢
        generalize wr.heap.size = gw at hn ⊢
        have H2 := Lib.hid hn
        clear hn
        have kk : u2.cell? ⟨gp, 8, none⟩ = some (I k) := by have : u2.cell? ⟨gp, 8, none⟩ = some (I p.walk) := H2.out.cell 2 8 rfl rfl; rwa [hpk] at this
        have kl : u2.cell? ⟨gp, 9, none⟩ = some (I l) := by have : u2.cell? ⟨gp, 9, none⟩ = some (I p.blinks) := H2.out.cell 2 9 rfl rfl; rwa [hpl] at this
        go_upto_region 9 with (refine wpList_store_row rfl 25 _ _ rfl gw #[I 2, I t] rfl rfl 25 _ (H2.out.at 0 rfl) infoFt rfl (by simp [Value.oneCell']) ?_)
        have he := H2.out.put 0 rfl #[I 2, I t]
        simp only [List.set_cons_succ, List.set_cons_zero] at he
        generalize World.setRow _ gw _ = u3 at he ⊢
        have H3 := Lib.hid he
        clear he kk kl
        have kk : u3.cell? ⟨gp, 8, none⟩ = some (I k) := by have : u3.cell? ⟨gp, 8, none⟩ = some (I p.walk) := H3.out.cell 2 8 rfl rfl; rwa [hpk] at this
        have kl : u3.cell? ⟨gp, 9, none⟩ = some (I l) := by have : u3.cell? ⟨gp, 9, none⟩ = some (I p.blinks) := H3.out.cell 2 9 rfl rfl; rwa [hpl] at this
        have O1 : Hid (∀ W, Calls Try.prog 11 #[.agg #[I 2, I t], .int .i64 t] W fun e w' => e = .returned (.bool true) ∧ Below W.heap.size W w') := Lib.hid (fun W => by have := over_any 2 t t W; rwa [show ov 2 t t = true by unfold ov; simp] at this)
        have O2 : Hid (∀ W, Calls Try.prog 11 #[.agg #[I 2, I t], .int .i64 (l + 1)] W fun e w' => e = .returned (.bool false) ∧ Below W.heap.size W w') := Lib.hid (fun W => by have := over_any 2 t (l + 1) W; rwa [show ov 2 t (l + 1) = false by unfold ov; simp; omega] at this)
        go_wp2_with (first | (refine Row.wpList_load_g 25 _ rfl (by first | rfl | (go_simp; done) | fail) ⟨gf, 0, none⟩ rfl [I 2, I t] _ (by have := Row.lies_of_block (H3.out.at 1 rfl); simpa using this) Try.underlying25 rfl infoFt ?_) | (refine Row.wpList_load_g 25 _ rfl (by first | rfl | (go_simp; done) | fail) ⟨gw, 0, none⟩ rfl [I 2, I t] _ (by have := Row.lies_of_block (H3.out.at 0 rfl); simpa using this) Try.underlying25 rfl infoFt ?_) | (refine Row.wpList_neq 25 _ _ _ rfl (by rfl) #[I 2, I t] #[I 2, I t] rfl rfl guardFt true (ft_same _ _) ?_))
        refine (O1.out _).mono ?_
        rintro e u4 ⟨rfl, b4⟩
        have H4 := Lib.hid (H3.out.step b4)
        clear b4 kk kl
        have kk : u4.cell? ⟨gp, 8, none⟩ = some (I k) := by have : u4.cell? ⟨gp, 8, none⟩ = some (I p.walk) := H4.out.cell 2 8 rfl rfl; rwa [hpk] at this
        have kl : u4.cell? ⟨gp, 9, none⟩ = some (I l) := by have : u4.cell? ⟨gp, 9, none⟩ = some (I p.blinks) := H4.out.cell 2 9 rfl rfl; rwa [hpl] at this
        go_wp2_with (first | (refine Row.wpList_load_g 25 _ rfl (by first | rfl | (go_simp; done) | fail) ⟨gf, 0, none⟩ rfl [I 2, I t] _ (by have := Row.lies_of_block (H4.out.at 1 rfl); simpa using this) Try.underlying25 rfl infoFt ?_) | (refine Row.wpList_load_g 25 _ rfl (by first | rfl | (go_simp; done) | fail) ⟨gw, 0, none⟩ rfl [I 2, I t] _ (by have := Row.lies_of_block (H4.out.at 0 rfl); simpa using this) Try.underlying25 rfl infoFt ?_))
        refine (O2.out _).mono ?_
        rintro e u5 ⟨rfl, b5⟩
        have H5 := Lib.hid (H4.out.step b5)
        clear b5 kk kl O1 O2
        go_upto_region 11 with fail
        by_cases hb : q < (len2 : Int)
        · obtain ⟨n, rfl⟩ : ∃ n : Nat, q = (n : Int) := ⟨q.toNat, by omega⟩
          obtain ⟨hx, hzl⟩ := HA2.out n (by omega)
          subst hx
          have kb : ∀ r : QB.By u5.heap.size u5, r.world.cell? (x2.add n) = some (.bool (z2 n)) := fun r => Arg.one_below hzl (H5.out.by r).bel
          generalize z2 n = bq at kb
          go_upto_region 11 with fail
          refine QT.region u5.heap.size 12 (by kernel_rfl) (by kernel_rfl) ?_
          simp only [List.take_succ_cons, List.take_zero]
          repeat first
            | (refine wpQuiet_load rfl 23 _ rfl ⟨gp, 0, none⟩ rfl p.cells _ (fun w' ⟨p, e⟩ => by rw [e]; have := Row.lies_of_block ((H5.out.by p).at 2 rfl); simpa using this) Try.underlying23 rfl infoP ?_
               dsimp only [Act.put]
               simp only [List.setIfInBounds_toArray, List.set_cons_zero, List.set_cons_succ])
            | (refine wpQuiet_load rfl 25 _ rfl ⟨gf, 0, none⟩ rfl [I 2, I t] _ (fun w' ⟨p, e⟩ => by rw [e]; have := Row.lies_of_block ((H5.out.by p).at 1 rfl); simpa using this) Try.underlying25 rfl infoFt ?_
               dsimp only [Act.put]
               simp only [List.setIfInBounds_toArray, List.set_cons_zero, List.set_cons_succ])
            | (go_big_quiet_step (fail))
          refine wpQuiet_nil ?_
          intro _ hw'
          obtain ⟨pq, rfl⟩ := hw'
          have HP := Lib.hid (H5.out.by pq)
          generalize pq.world = vp at HP ⊢
          simp only [List.drop_succ_cons, List.drop_zero]
          go_wp2_with fail
          refine (SS.out _ _).mono ?_
          rintro e vc ⟨rfl, bc⟩
          have HD := Lib.hid (HP.out.step bc)
          clear bc HP
          go_upto_region 5 with (refine wpList_store_row rfl 25 _ _ rfl gf #[I S', I T'] rfl rfl 25 _ (HD.out.at 1 rfl) infoFt rfl (by simp [Value.oneCell']) ?_)
          have he := HD.out.put 1 rfl #[I S', I T']
          simp only [List.set_cons_succ, List.set_cons_zero] at he
          generalize World.setRow _ gf _ = u6 at he ⊢
          have H6 := Lib.hid he
          clear he HD
          clear kb
          go_wp2_with fail
          go_roundw
          case rel => exact ⟨(n : Int) + 1, S', T', by omega, by omega, by go_num, HS', H6.out.drop⟩
          case measure => simp [intOf]; omega
        · go_upto_region 11 with fail
          refine QT.region u5.heap.size 12 (by kernel_rfl) (by kernel_rfl) ?_
          simp only [List.take_succ_cons, List.take_zero]
          repeat first
            | (refine wpQuiet_load rfl 23 _ rfl ⟨gp, 0, none⟩ rfl p.cells _ (fun w' ⟨p, e⟩ => by rw [e]; have := Row.lies_of_block ((H5.out.by p).at 2 rfl); simpa using this) Try.underlying23 rfl infoP ?_
               dsimp only [Act.put]
               simp only [List.setIfInBounds_toArray, List.set_cons_zero, List.set_cons_succ])
            | (refine wpQuiet_load rfl 25 _ rfl ⟨gf, 0, none⟩ rfl [I 2, I t] _ (fun w' ⟨p, e⟩ => by rw [e]; have := Row.lies_of_block ((H5.out.by p).at 1 rfl); simpa using this) Try.underlying25 rfl infoFt ?_
               dsimp only [Act.put]
               simp only [List.setIfInBounds_toArray, List.set_cons_zero, List.set_cons_succ])
            | (go_big_quiet_step (fail))
          refine wpQuiet_nil ?_
          intro _ hw'
          obtain ⟨pq, rfl⟩ := hw'
          have HP := Lib.hid (H5.out.by pq)
          generalize pq.world = vp at HP ⊢
          simp only [List.drop_succ_cons, List.drop_zero]
          go_wp2_with fail
          refine (SS.out _ _).mono ?_
          rintro e vc ⟨rfl, bc⟩
          have HD := Lib.hid (HP.out.step bc)
          clear bc HP
          go_upto_region 5 with (refine wpList_store_row rfl 25 _ _ rfl gf #[I S', I T'] rfl rfl 25 _ (HD.out.at 1 rfl) infoFt rfl (by simp [Value.oneCell']) ?_)
          have he := HD.out.put 1 rfl #[I S', I T']
          simp only [List.set_cons_succ, List.set_cons_zero] at he
          generalize World.setRow _ gf _ = u6 at he ⊢
          have H6 := Lib.hid he
          clear he HD
          go_wp2_with fail
          go_roundw
          case rel => exact ⟨q + 1, S', T', by omega, by omega, by go_num, HS', H6.out.drop⟩
          case measure => simp [intOf]; omega
    · obtain rfl : q = k + l + 1 := by omega
      have hz := HS.out
      unfold st at hz
      rw [if_neg (by omega), if_neg (by omega)] at hz
      injection hz with z1 z2
      subst z1 z2
      have O3 : Hid (∀ W, Calls Try.prog 11 #[.agg #[I 0, I 0], .int .i64 1000] W fun e w' => e = .returned (.bool true) ∧ Below W.heap.size W w') := Lib.hid (fun W => by have := over_any 0 0 1000 W; rwa [show ov 0 0 1000 = true by decide] at this)
      go_wp2_with (first | (refine Row.wpList_load_g 25 _ rfl (by first | rfl | (go_simp; done) | fail) ⟨gf, 0, none⟩ rfl [I 0, I 0] _ (by have := Row.lies_of_block (HB.out.at 0 rfl); simpa using this) Try.underlying25 rfl infoFt ?_) | (refine Row.wpList_eql 25 _ _ _ rfl (by rfl) #[I 0, I 0] #[I 0, I 0] rfl rfl guardFt true (ft_same _ _) ?_))
      refine (O3.out _).mono ?_
      rintro e u4 ⟨rfl, b4⟩
      have H4 := Lib.hid (HB.out.step b4)
      clear b4 kk kl
      go_wp2_with fail
      refine (awake_any _).mono ?_
      rintro e u9 ⟨rfl, b9⟩
      go_wp2
      go_ret
      exact ⟨rfl, (H4.out.step b9).bel⟩

/-! ### the row's step -/
set_option maxRecDepth 100000 in
theorem lifted (os : Os) (started : os.Started) (H : Type) (enc : TypeId × Value → H) :
    ReturnsInHanded {} Try.checked os 5 .any (Rows.pedExactSpec.pre6 enc Try.prog Try.f5 Rows.pedExactRow.domain false) (Rows.pedExactSpec.post enc Try.prog Try.f5 false true false false) := by
  refine returnsInHanded_of_change (C := Try.checked) own started (by kernel_rfl) Try.func5
    (ChangeSpec.witness6 (enc := enc) (C := Try.checked) false ⟨#[], #[.int .i64 0, .int .i64 0, .slice none 0 0], []⟩ 8 (by kernel_rfl) (by kernel_rfl) (by kernel_rfl) (by kernel_rfl)) ?_
  intro W base args ds gs before hval0 hW hcnd _
  have hval : ∀ (j : Nat) t v, Try.f5.params[j]? = some t → args[j]? = some v → Value.okWide Try.prog W .any base t v := hval0
  have hW' := hW
  obtain ⟨p, q, hA0, hV, rfl, hfz, hnd⟩ := hW
  have hA : DataW.TrodAll enc Try.prog W 0 (fun _ => true) true Try.f5.params.toList args.toList ds p := hA0
  rw [Try.params5] at hA hval
  obtain ⟨v0, vs0, d0, ds0, p0, q0, hargs, rfl, rfl, h0, r0⟩ := trodAll_cons hA
  obtain ⟨v1, vs1, d1, ds1, p1, q1, rfl, rfl, rfl, h1, r1⟩ := trodAll_cons r0
  obtain ⟨v2, vs2, d2, ds2, p2, q2, rfl, rfl, rfl, h2, r2⟩ := trodAll_cons r1
  obtain ⟨rfl, rfl, rfl⟩ := trodAll_nil r2
  obtain rfl : args = #[v0, v1, v2] := by cases args; simp_all
  obtain ⟨rfl, rfl⟩ := trodVars_none hV
  obtain ⟨a0, rfl, rfl, rfl, w0⟩ := open_int Try.underlying3 (hval 0 3 v0 rfl rfl) h0
  obtain ⟨a1, rfl, rfl, rfl, w1⟩ := open_int Try.underlying3 (hval 1 3 v1 rfl rfl) h1
  obtain ⟨a2, len2, cap2, rfl⟩ := okWide_slice Try.underlying31 (hval 2 31 v2 rfl rfl)
  have k2 := h2
  have lt2 : ∀ x ∈ p2, x.block < W.heap.size := by obtain ⟨m, hm⟩ := k2; exact DataW.trod_lt m _ _ _ hm
  obtain ⟨s2, l2, e2, w2⟩ : ∃ (s : Tab.Sl) (l : List Bool), Value.slice a2 len2 cap2 = s.val l.length ∧ Tab.RowOf 1 (fun b : Bool => [Value.bool b]) W s l := by
    obtain ⟨fuel, hf⟩ := h2
    obtain ⟨s, l, e, r, _⟩ := TabArg.tr_row (k := 1) (f := (fun b : Bool => [Value.bool b])) (p := fun _ => True) Try.underlying31 (by kernel_rfl) (fun n cs x hx => by obtain ⟨z, hz, _⟩ := DataW.trod_bool Try.underlying4 hx; exact ⟨z, hz, trivial⟩) ⟨fuel, _, hf⟩
    exact ⟨s, l, e, r⟩
  simp only [Tab.Sl.val, Value.slice.injEq] at e2
  obtain ⟨rfl, rfl, rfl⟩ := e2
  clear hA0 hval0
  refine (walk a0 a1 s2 l2 W w0 w1 w2).mono fun e W' ⟨he, bel⟩ => ?_
  subst he
  exact ⟨_, rfl, _, _, _, [], _, [], hW', trodAll_mk1 (shut_bool Try.underlying4 _), (trodAll_cons_mk (shut_int Try.underlying3 w0) (trodAll_cons_mk (shut_int Try.underlying3 w1) (trodAll_cons_mk (Below.trod laidOut (by kernel_rfl) (of_decide_eq_true (by kernel_rfl)) k2 bel lt2) trodAll_mk0))), rfl, bel.frame _, fun h => by cases h⟩

theorem over : Rows.pedExactRow.holds Try.pinned (OpenSpec.ofChange Rows.pedExactSpec) :=
  OpenClaim.holds_of_wide 5 Try.f5 rfl rfl rfl rfl rfl rfl rfl ⟨rfl, rfl, rfl, rfl, rfl⟩ rfl rfl rfl rfl rfl (by kernel_rfl) Try.func5 (by kernel_rfl)
    (of_decide_eq_true (by kernel_rfl)) (by unfold Func.isWrapper; first | (rw [if_pos (by decide +kernel)]; kernel_rfl) | (rw [if_neg (by decide +kernel)]; exact ⟨rfl, rfl⟩))
    (fun os started H enc _ => lifted os started H enc)

/-- the statement -/
theorem proved : Rows.PedExactSaid :=
  over
#print axioms proved
end Go.Proofs.Ytbmkkkkknofbaaa.pedExact
