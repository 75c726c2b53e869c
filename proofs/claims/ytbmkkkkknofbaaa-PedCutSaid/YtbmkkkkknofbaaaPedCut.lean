/- PedCut returns true at any numbers: a walk that is cut blinks at once for as long as ever, what is not a walk is not cut, and nobody begins without a walk. No condition. -/
import Derived.Test.YtbmkkkkknofbaaaRows
import Derived.Test.YtbmkkkkknofbaaaPedW
import Derived.Test.YtbmkkkkknofbaaaQT
import Derived.Test.YtbmkkkkknofbaaaArg
import Derived.Deep.Cut
import Derived.LoopTactic
import Derived.BigQuiet
import Derived.WalkKit
import Derived.WalkLawsBesides
import Derived.ProofKit
import Derived.OpenShut
import Derived.ShutString
import Derived.ChangeOld
import Derived.Below
namespace Go.Proofs.Ytbmkkkkknofbaaa.pedCut
open Go.ChangeShapes Go.WideShapes Go.ChangeAt Go.RowKit
open Tab Ped QL
open May (infoP)
set_option linter.unusedVariables false
set_option linter.unusedSimpArgs false

theorem own : ownKnob Try.prog.godebug = none := by kernel_rfl
theorem laidOut : laidOutB Try.prog = true := by kernel_rfl

/-- The state at tick q of a walk of k ticks and l that blink. -/
def st (k l q : Int) : Ft := if q ≤ k then ⟨1, q⟩ else if q ≤ k + l then ⟨2, q - k⟩ else ⟨0, 0⟩
theorem st_step {k l q : Int} (hk : 1 ≤ k) (hk2 : k ≤ 60) (hl : 1 ≤ l) (hl2 : l ≤ 60) (h1 : 1 ≤ q) (h2 : q ≤ k + l) (b : Bool) : ft k l (st k l q).st (st k l q).tm b = st k l (q + 1) := by
  unfold st ft
  by_cases c1 : q ≤ k
  · rw [if_pos c1]
    dsimp only
    rw [if_pos rfl, Cnt.more_in (by omega) (by omega)]
    by_cases c2 : k ≤ q
    · obtain rfl : q = k := by omega
      rw [if_pos c2, if_neg (by omega), if_pos (by omega)]
      congr 1; omega
    · rw [if_neg c2, if_pos (by omega)]
  · rw [if_neg c1, if_pos h2]
    dsimp only
    rw [if_neg (by decide), if_pos rfl, Cnt.more_in (by omega) (by omega), if_neg (show ¬ q + 1 ≤ k by omega)]
    by_cases c2 : l ≤ q - k
    · rw [if_pos c2, if_neg (by omega)]
    · rw [if_neg c2, if_pos (by omega)]
      congr 1; omega

/-! ### the walk -/
set_option maxRecDepth 100000 in
set_option maxHeartbeats 8000000 in
theorem walk (a0 : Int) (a1 : Int) (a2 : Int) (w : World) (w0 : (Lit.int .i64 a0).wf = true) (w1 : (Lit.int .i64 a1).wf = true) (w2 : (Lit.int .i64 a2).wf = true) :
    Calls Try.prog 6 #[.int .i64 a0, .int .i64 a1, .int .i64 a2] w fun e w' => e = .returned (.bool true) ∧ Below w.heap.size w w' := by
  obtain ⟨m0, hm0⟩ : ∃ m, a0 % 40 = m := ⟨_, rfl⟩
  have q0 : 0 ≤ m0 := by omega
  have r0 : m0 < 40 := by omega
  have PL0 : Hid (∀ W, Calls Try.prog 14 #[.int .i64 a0, .int .i64 40] W fun e w' => e = .returned (.int .i64 m0) ∧ W = w') := Lib.hid (fun W => by have := Cnt.place_any a0 40 W (by decide) (by decide); rwa [hm0] at this)
  clear hm0
  obtain ⟨k, hk⟩ : ∃ k, 1 + m0 = k := ⟨_, rfl⟩
  have Hk := Lib.hid hk
  clear hk
  obtain ⟨m1, hm1⟩ : ∃ m, a1 % 40 = m := ⟨_, rfl⟩
  have q1 : 0 ≤ m1 := by omega
  have r1 : m1 < 40 := by omega
  have PL1 : Hid (∀ W, Calls Try.prog 14 #[.int .i64 a1, .int .i64 40] W fun e w' => e = .returned (.int .i64 m1) ∧ W = w') := Lib.hid (fun W => by have := Cnt.place_any a1 40 W (by decide) (by decide); rwa [hm1] at this)
  clear hm1
  obtain ⟨l, hl⟩ : ∃ k, 1 + m1 = k := ⟨_, rfl⟩
  have Hl := Lib.hid hl
  clear hl
  obtain ⟨c, hcv⟩ : ∃ c, a2 % (k + l) = c := ⟨_, rfl⟩
  have c0 : 0 ≤ c := by rw [← hcv]; exact Int.emod_nonneg _ (by have := Hk.out; have := Hl.out; omega)
  have c1 : c < k + l := by rw [← hcv]; exact Int.emod_lt_of_pos _ (by have := Hk.out; have := Hl.out; omega)
  have PL2 : Hid (∀ W, Calls Try.prog 14 #[.int .i64 a2, .int .i64 (k + l)] W fun e w' => e = .returned (.int .i64 c) ∧ W = w') := Lib.hid (fun W => by have := Cnt.place_any a2 (k + l) W (by have := Hk.out; have := Hl.out; omega) (by have := Hk.out; have := Hl.out; omega); rwa [hcv] at this)
  clear hcv
  obtain ⟨p, hp⟩ : ∃ p : Ph, p = wb k l := ⟨_, rfl⟩
  have hc := wb_cells hp
  have hpk : p.walk = k := by rw [hp]; rfl
  have hpl : p.blinks = l := by rw [hp]; rfl
  have h0 := (Blk.Bks.nil w).alloc p.cells.toArray 23
  rw [hc] at h0
  go_enter Try.func6, Try.ntmps6
  go_upto_region 2 with (first | (go_at_call 14; with_reducible refine (PL0.out _).mono ?_; rintro e w' ⟨rfl, rfl⟩) | (go_at_call 14; with_reducible refine (PL1.out _).mono ?_; rintro e w' ⟨rfl, rfl⟩))
  rw [Hk.out, Hl.out]
  rw [← hc] at h0 ⊢
  clear hc hp
  generalize World.alloc w _ = v0 at h0 ⊢
  generalize w.heap.size = gp at h0 ⊢
  have H0 := Lib.hid h0
  clear h0 PL0 PL1
  have hk := Hk.out
  have hl := Hl.out
  clear Hk Hl
  have K0 : 1 ≤ k ∧ k ≤ 40 := by omega
  have L0 : 1 ≤ l ∧ l ≤ 40 := by omega
  clear q0 r0 q1 r1 hk hl
  obtain ⟨k0, k1⟩ := K0
  obtain ⟨l0, l1⟩ := L0
  have S0 : Hid (∀ W, Calls Try.prog 7 #[.agg p.cells.toArray, .agg #[I 0, I 0], .bool true] W fun e w' => e = .returned (.agg #[I 1, I 1]) ∧ Below W.heap.size W w') := Lib.hid (fun W => step_is (by rw [hpk, hpl]; unfold ft; rw [if_neg (by decide), if_neg (by decide), if_pos ⟨rfl, by omega⟩]) W)
  have ST : Hid (∀ (q : Int) (S T S' T' : Int), 1 ≤ q → q ≤ k + l → st k l q = ⟨S, T⟩ → st k l (q + 1) = ⟨S', T'⟩ → ∀ (g : Bool) W, Calls Try.prog 7 #[.agg p.cells.toArray, .agg #[I S, I T], .bool g] W fun e w' => e = .returned (.agg #[I S', I T']) ∧ Below W.heap.size W w') := Lib.hid (fun q S T S' T' h1 h2 hs hs' g W => step_is (by rw [hpk, hpl]; have := st_step k0 (by omega) l0 (by omega) h1 h2 g; rw [hs, hs'] at this; exact this) W)
  go_wp2_with (refine Row.wpList_load_g 23 _ rfl (by first | rfl | (go_simp; done) | fail) ⟨gp, 0, none⟩ rfl p.cells _ (by have := Row.lies_of_block (H0.out.at 0 rfl); simpa using this) Try.underlying23 rfl infoP ?_)
  refine (S0.out _).mono ?_
  rintro e vc ⟨rfl, bc⟩
  go_upto_region 3 with fail
  have hn := (H0.out.step bc).alloc #[I 1, I 1] 25
  clear bc H0
  generalize World.alloc vc _ = u1 at hn ⊢
  generalize vc.heap.size = gf at hn ⊢
  have H1 := Lib.hid hn
  clear hn S0
  clear vc
  have kk : u1.cell? ⟨gp, 8, none⟩ = some (I k) := by have : u1.cell? ⟨gp, 8, none⟩ = some (I p.walk) := H1.out.cell 1 8 rfl rfl; rwa [hpk] at this
  have kl : u1.cell? ⟨gp, 9, none⟩ = some (I l) := by have : u1.cell? ⟨gp, 9, none⟩ = some (I p.blinks) := H1.out.cell 1 9 rfl rfl; rwa [hpl] at this
  have ekl : wrap64 (k + l) = k + l := IntWalk.wrap64_in _ (by omega)
  go_upto_region 4 with (go_at_call 14; with_reducible refine (PL2.out _).mono ?_; rintro e w' ⟨rfl, rfl⟩)
  clear kk kl ekl PL2
  go_wp2_with fail
  go_loopw [10] (fun i wr => ∃ (q S T : Int), 0 ≤ q ∧ q ≤ c ∧ i = .int .i64 q ∧ Hid (st k l (q + 1) = ⟨S, T⟩) ∧ Blk.Bks w [(gf, #[I S, I T], 25), (gp, p.cells.toArray, 23)] wr) (fun i _ => (c + 1 - intOf i).toNat)
  case atStart => exact ⟨0, 1, 1, by omega, by omega, rfl, Lib.hid (by unfold st; rw [if_pos (by omega)]; rfl), H1.out⟩
  case round =>
    obtain ⟨q, S, T, hq1, hq2, rfl, HS, hB⟩ := hrel
    have HB := Lib.hid hB
    clear hB H1
    by_cases hle : q < c
    · obtain ⟨⟨S', T'⟩, hs'⟩ : ∃ r, st k l (q + 1 + 1) = r := ⟨_, rfl⟩
      have SS : Hid (∀ (g : Bool) W, Calls Try.prog 7 #[.agg p.cells.toArray, .agg #[I S, I T], .bool g] W fun e w' => e = .returned (.agg #[I S', I T']) ∧ Below W.heap.size W w') := Lib.hid (ST.out (q + 1) S T S' T' (by omega) (by omega) HS.out hs')
      have HS' := Lib.hid hs'
      clear hs'
      go_wp2_with (first | (refine Row.wpList_load_g 23 _ rfl (by first | rfl | (go_simp; done) | fail) ⟨gp, 0, none⟩ rfl p.cells _ (by have := Row.lies_of_block (HB.out.at 1 rfl); simpa using this) Try.underlying23 rfl infoP ?_) | (refine Row.wpList_load_g 25 _ rfl (by first | rfl | (go_simp; done) | fail) ⟨gf, 0, none⟩ rfl [I S, I T] _ (by have := Row.lies_of_block (HB.out.at 0 rfl); simpa using this) Try.underlying25 rfl infoFt ?_))
      refine (SS.out _ _).mono ?_
      rintro e vc ⟨rfl, bc⟩
      have HD := Lib.hid (HB.out.step bc)
      clear bc
      go_wp2_with (refine wpList_store_row rfl 25 _ _ rfl gf #[I S', I T'] rfl rfl 25 _ (HD.out.at 0 rfl) infoFt rfl (by simp [Value.oneCell']) ?_)
      have he := HD.out.put 0 rfl #[I S', I T']
      simp only [List.set_cons_succ, List.set_cons_zero] at he
      generalize World.setRow _ gf _ = v3 at he ⊢
      have H6 := Lib.hid he
      clear he HD
      go_wp2_with fail
      go_roundw
      case rel => exact ⟨q + 1, S', T', by omega, by omega, by go_num, HS', H6.out⟩
      case measure => simp [intOf]; omega
    · obtain rfl : q = c := by omega
      by_cases hw : q < k
      · have hz := HS.out
        unfold st at hz
        rw [if_pos (by omega)] at hz
        injection hz with z1 z2
        subst z1 z2
        obtain ⟨e1, he1⟩ : ∃ e1, q + 1 = e1 := ⟨_, rfl⟩
        rw [he1] at HB HS
        have CU : Hid (∀ W, Calls Try.prog 9 #[.agg #[I 1, I e1]] W fun e w' => e = .returned (.agg #[I 2, I 1]) ∧ Below W.heap.size W w') := Lib.hid (fun W => cut_is (by unfold cu; rw [if_pos rfl]) W)
        go_wp2_with (refine Row.wpList_load_g 25 _ rfl (by first | rfl | (go_simp; done) | fail) ⟨gf, 0, none⟩ rfl [I 1, I e1] _ (by have := Row.lies_of_block (HB.out.at 0 rfl); simpa using this) Try.underlying25 rfl infoFt ?_)
        refine (CU.out _).mono ?_
        rintro e vc ⟨rfl, bc⟩
        go_upto_region 9 with fail
        have hn := (HB.out.step bc).alloc #[I 2, I 1] 25
        clear bc HB
        generalize World.alloc vc _ = u2 at hn ⊢
        generalize vc.heap.size = gc at hn ⊢
        have H2 := Lib.hid hn
        clear hn CU HS
        clear vc
        have s0 : u2.cell? ⟨gf, 0, none⟩ = some (I 1) := H2.out.cell 1 0 rfl rfl
        go_upto_region 11 with (first | (refine Row.wpList_load_g 25 _ rfl (by first | rfl | (go_simp; done) | fail) ⟨gc, 0, none⟩ rfl [I 2, I 1] _ (by have := Row.lies_of_block (H2.out.at 0 rfl); simpa using this) Try.underlying25 rfl infoFt ?_) | (refine Row.wpList_load_g 25 _ rfl (by first | rfl | (go_simp; done) | fail) ⟨gf, 0, none⟩ rfl [I 1, I e1] _ (by have := Row.lies_of_block (H2.out.at 1 rfl); simpa using this) Try.underlying25 rfl infoFt ?_) | (refine Row.wpList_neq 25 _ _ _ rfl (by rfl) #[I 2, I 1] #[I 2, I 1] rfl rfl guardFt true (ft_same _ _) ?_))
        clear s0
        have f00 : (1 : Int) ≤ 1 := by omega
        have f01 : 1 ≤ l := by omega
        go_wp2_with fail
        go_loopw [12] (fun i wr => ∃ (n S T : Int), 0 ≤ n ∧ n ≤ l - 1 + 1 ∧ i = .int .i64 n ∧ Hid (st k l (k + 1 + n) = ⟨S, T⟩) ∧ Blk.Bks w [(gc, #[I S, I T], 25), (gf, #[I 1, I e1], 25), (gp, p.cells.toArray, 23)] wr) (fun i _ => (l + 2 - intOf i).toNat)
        case atStart => exact ⟨0, 2, 1, by omega, by omega, rfl, Lib.hid (by unfold st; rw [if_neg (by omega), if_pos (by omega)]; congr 1; omega), H2.out⟩
        case round =>
          obtain ⟨n, S, T, hn1, hn2, rfl, HS, hB⟩ := hrel
          have HB := Lib.hid hB
          clear hB H2
          by_cases hle : n ≤ l - 1
          · have hz := HS.out
            unfold st at hz
            rw [if_neg (by omega), if_pos (by omega)] at hz
            injection hz with z1 z2
            subst z1
            obtain ⟨⟨S', T'⟩, hs'⟩ : ∃ r, st k l (k + 1 + n + 1) = r := ⟨_, rfl⟩
            have SS : Hid (∀ (g : Bool) W, Calls Try.prog 7 #[.agg p.cells.toArray, .agg #[I 2, I T], .bool g] W fun e w' => e = .returned (.agg #[I S', I T']) ∧ Below W.heap.size W w') := Lib.hid (ST.out (k + 1 + n) 2 T S' T' (by omega) (by omega) HS.out hs')
            have HS' := Lib.hid hs'
            clear hs' z2
            rename World => wr
            have s0 : wr.cell? ⟨gc, 0, none⟩ = some (I 2) := HB.out.cell 0 0 rfl rfl
            have hn3 : n < 100 := by omega
            go_wp2_with (first | (refine Row.wpList_load_g 23 _ rfl (by first | rfl | (go_simp; done) | fail) ⟨gp, 0, none⟩ rfl p.cells _ (by have := Row.lies_of_block (HB.out.at 2 rfl); simpa using this) Try.underlying23 rfl infoP ?_) | (refine Row.wpList_load_g 25 _ rfl (by first | rfl | (go_simp; done) | fail) ⟨gc, 0, none⟩ rfl [I 2, I T] _ (by have := Row.lies_of_block (HB.out.at 0 rfl); simpa using this) Try.underlying25 rfl infoFt ?_))
            refine (SS.out _ _).mono ?_
            rintro e vc ⟨rfl, bc⟩
            have HD := Lib.hid (HB.out.step bc)
            clear bc s0
            go_upto_region 14 with (refine wpList_store_row rfl 25 _ _ rfl gc #[I S', I T'] rfl rfl 25 _ (HD.out.at 0 rfl) infoFt rfl (by simp [Value.oneCell']) ?_)
            have he := HD.out.put 0 rfl #[I S', I T']
            simp only [List.set_cons_succ, List.set_cons_zero] at he
            generalize World.setRow _ gc _ = v3 at he ⊢
            have H6 := Lib.hid he
            clear he HD
            go_wp2_with fail
            go_roundw
            case rel => exact ⟨n + 1, S', T', by omega, by omega, by go_num, Lib.hid (by have := HS'.out; rwa [show k + 1 + (n + 1) = k + 1 + n + 1 by omega]), H6.out⟩
            case measure => simp [intOf]; omega
          · obtain rfl : n = l - 1 + 1 := by omega
            have hz := HS.out
            unfold st at hz
            rw [if_neg (by omega), if_neg (by omega)] at hz
            injection hz with z1 z2
            subst z1 z2
            clear HS
            rename World => wr
            have s0 : wr.cell? ⟨gc, 0, none⟩ = some (I 0) := HB.out.cell 0 0 rfl rfl
            have kk : wr.cell? ⟨gp, 8, none⟩ = some (I k) := by have : wr.cell? ⟨gp, 8, none⟩ = some (I p.walk) := HB.out.cell 2 8 rfl rfl; rwa [hpk] at this
            have kl : wr.cell? ⟨gp, 9, none⟩ = some (I l) := by have : wr.cell? ⟨gp, 9, none⟩ = some (I p.blinks) := HB.out.cell 2 9 rfl rfl; rwa [hpl] at this
            have n1 : wrap64 (q - k) = q - k := IntWalk.wrap64_in _ (by omega)
            have n2 : wrap64 (l - (q - k)) = l - (q - k) := IntWalk.wrap64_in _ (by omega)
            obtain ⟨p2, hp2⟩ : ∃ p : Ph, p = wb 0 5 := ⟨_, rfl⟩
            have hc2 := wb_cells hp2
            have S5 : Hid (∀ W, Calls Try.prog 7 #[.agg p2.cells.toArray, .agg #[I 0, I 0], .bool true] W fun e w' => e = .returned (.agg #[I 0, I 0]) ∧ Below W.heap.size W w') := Lib.hid (fun W => step_is (by rw [hp2]; decide +kernel) W)
            rw [hc2] at S5
            have hnl : l - 1 + 1 = l := by omega
            rw [hnl]
            go_wp2_with fail
            refine (S5.out _).mono ?_
            rintro e u4 ⟨rfl, b4⟩
            have H4 := Lib.hid (HB.out.step b4)
            clear b4 s0 kk kl
            go_wp2_with (refine Row.wpList_eql 25 _ _ _ rfl (by rfl) #[I 0, I 0] #[I 0, I 0] rfl rfl guardFt true (ft_same _ _) ?_)
            refine (awake_any _).mono ?_
            rintro e u9 ⟨rfl, b9⟩
            go_wp2
            go_ret
            exact ⟨rfl, (H4.out.step b9).bel⟩
      · have hz := HS.out
        unfold st at hz
        rw [if_neg (by omega), if_pos (by omega)] at hz
        injection hz with z1 z2
        subst z1 z2
        obtain ⟨e0, he0⟩ : ∃ e0, q + 1 - k = e0 := ⟨_, rfl⟩
        rw [he0] at HB HS
        have CU : Hid (∀ W, Calls Try.prog 9 #[.agg #[I 2, I e0]] W fun e w' => e = .returned (.agg #[I 2, I e0]) ∧ Below W.heap.size W w') := Lib.hid (fun W => cut_is (by unfold cu; rw [if_neg (by decide)]) W)
        go_wp2_with (refine Row.wpList_load_g 25 _ rfl (by first | rfl | (go_simp; done) | fail) ⟨gf, 0, none⟩ rfl [I 2, I e0] _ (by have := Row.lies_of_block (HB.out.at 0 rfl); simpa using this) Try.underlying25 rfl infoFt ?_)
        refine (CU.out _).mono ?_
        rintro e vc ⟨rfl, bc⟩
        go_upto_region 9 with fail
        have hn := (HB.out.step bc).alloc #[I 2, I e0] 25
        clear bc HB
        generalize World.alloc vc _ = u2 at hn ⊢
        generalize vc.heap.size = gc at hn ⊢
        have H2 := Lib.hid hn
        clear hn CU HS
        clear vc
        have s0 : u2.cell? ⟨gf, 0, none⟩ = some (I 2) := H2.out.cell 1 0 rfl rfl
        go_upto_region 11 with (first | (refine Row.wpList_load_g 25 _ rfl (by first | rfl | (go_simp; done) | fail) ⟨gc, 0, none⟩ rfl [I 2, I e0] _ (by have := Row.lies_of_block (H2.out.at 0 rfl); simpa using this) Try.underlying25 rfl infoFt ?_) | (refine Row.wpList_load_g 25 _ rfl (by first | rfl | (go_simp; done) | fail) ⟨gf, 0, none⟩ rfl [I 2, I e0] _ (by have := Row.lies_of_block (H2.out.at 1 rfl); simpa using this) Try.underlying25 rfl infoFt ?_) | (refine Row.wpList_neq 25 _ _ _ rfl (by rfl) #[I 2, I e0] #[I 2, I e0] rfl rfl guardFt true (ft_same _ _) ?_))
        clear s0
        have f00 : (1 : Int) ≤ e0 := by omega
        have f01 : e0 ≤ l := by omega
        go_wp2_with fail
        go_loopw [12] (fun i wr => ∃ (n S T : Int), 0 ≤ n ∧ n ≤ l - e0 + 1 ∧ i = .int .i64 n ∧ Hid (st k l (k + e0 + n) = ⟨S, T⟩) ∧ Blk.Bks w [(gc, #[I S, I T], 25), (gf, #[I 2, I e0], 25), (gp, p.cells.toArray, 23)] wr) (fun i _ => (l + 2 - intOf i).toNat)
        case atStart => exact ⟨0, 2, e0, by omega, by omega, rfl, Lib.hid (by unfold st; rw [if_neg (by omega), if_pos (by omega)]; congr 1; omega), H2.out⟩
        case round =>
          obtain ⟨n, S, T, hn1, hn2, rfl, HS, hB⟩ := hrel
          have HB := Lib.hid hB
          clear hB H2
          by_cases hle : n ≤ l - e0
          · have hz := HS.out
            unfold st at hz
            rw [if_neg (by omega), if_pos (by omega)] at hz
            injection hz with z1 z2
            subst z1
            obtain ⟨⟨S', T'⟩, hs'⟩ : ∃ r, st k l (k + e0 + n + 1) = r := ⟨_, rfl⟩
            have SS : Hid (∀ (g : Bool) W, Calls Try.prog 7 #[.agg p.cells.toArray, .agg #[I 2, I T], .bool g] W fun e w' => e = .returned (.agg #[I S', I T']) ∧ Below W.heap.size W w') := Lib.hid (ST.out (k + e0 + n) 2 T S' T' (by omega) (by omega) HS.out hs')
            have HS' := Lib.hid hs'
            clear hs' z2
            rename World => wr
            have s0 : wr.cell? ⟨gc, 0, none⟩ = some (I 2) := HB.out.cell 0 0 rfl rfl
            have hn3 : n < 100 := by omega
            go_wp2_with (first | (refine Row.wpList_load_g 23 _ rfl (by first | rfl | (go_simp; done) | fail) ⟨gp, 0, none⟩ rfl p.cells _ (by have := Row.lies_of_block (HB.out.at 2 rfl); simpa using this) Try.underlying23 rfl infoP ?_) | (refine Row.wpList_load_g 25 _ rfl (by first | rfl | (go_simp; done) | fail) ⟨gc, 0, none⟩ rfl [I 2, I T] _ (by have := Row.lies_of_block (HB.out.at 0 rfl); simpa using this) Try.underlying25 rfl infoFt ?_))
            refine (SS.out _ _).mono ?_
            rintro e vc ⟨rfl, bc⟩
            have HD := Lib.hid (HB.out.step bc)
            clear bc s0
            go_upto_region 14 with (refine wpList_store_row rfl 25 _ _ rfl gc #[I S', I T'] rfl rfl 25 _ (HD.out.at 0 rfl) infoFt rfl (by simp [Value.oneCell']) ?_)
            have he := HD.out.put 0 rfl #[I S', I T']
            simp only [List.set_cons_succ, List.set_cons_zero] at he
            generalize World.setRow _ gc _ = v3 at he ⊢
            have H6 := Lib.hid he
            clear he HD
            go_wp2_with fail
            go_roundw
            case rel => exact ⟨n + 1, S', T', by omega, by omega, by go_num, Lib.hid (by have := HS'.out; rwa [show k + e0 + (n + 1) = k + e0 + n + 1 by omega]), H6.out⟩
            case measure => simp [intOf]; omega
          · obtain rfl : n = l - e0 + 1 := by omega
            have hz := HS.out
            unfold st at hz
            rw [if_neg (by omega), if_neg (by omega)] at hz
            injection hz with z1 z2
            subst z1 z2
            clear HS
            rename World => wr
            have s0 : wr.cell? ⟨gc, 0, none⟩ = some (I 0) := HB.out.cell 0 0 rfl rfl
            have kk : wr.cell? ⟨gp, 8, none⟩ = some (I k) := by have : wr.cell? ⟨gp, 8, none⟩ = some (I p.walk) := HB.out.cell 2 8 rfl rfl; rwa [hpk] at this
            have kl : wr.cell? ⟨gp, 9, none⟩ = some (I l) := by have : wr.cell? ⟨gp, 9, none⟩ = some (I p.blinks) := HB.out.cell 2 9 rfl rfl; rwa [hpl] at this
            have n1 : wrap64 (q - k) = q - k := IntWalk.wrap64_in _ (by omega)
            have n2 : wrap64 (l - (q - k)) = l - (q - k) := IntWalk.wrap64_in _ (by omega)
            obtain ⟨p2, hp2⟩ : ∃ p : Ph, p = wb 0 5 := ⟨_, rfl⟩
            have hc2 := wb_cells hp2
            have S5 : Hid (∀ W, Calls Try.prog 7 #[.agg p2.cells.toArray, .agg #[I 0, I 0], .bool true] W fun e w' => e = .returned (.agg #[I 0, I 0]) ∧ Below W.heap.size W w') := Lib.hid (fun W => step_is (by rw [hp2]; decide +kernel) W)
            rw [hc2] at S5
            have hnl : l - e0 + 1 = l - (q - k) := by omega
            rw [hnl]
            go_wp2_with fail
            refine (S5.out _).mono ?_
            rintro e u4 ⟨rfl, b4⟩
            have H4 := Lib.hid (HB.out.step b4)
            clear b4 s0 kk kl
            go_wp2_with (refine Row.wpList_eql 25 _ _ _ rfl (by rfl) #[I 0, I 0] #[I 0, I 0] rfl rfl guardFt true (ft_same _ _) ?_)
            refine (awake_any _).mono ?_
            rintro e u9 ⟨rfl, b9⟩
            go_wp2
            go_ret
            exact ⟨rfl, (H4.out.step b9).bel⟩

/-! ### the row's step -/
set_option maxRecDepth 100000 in
theorem lifted (os : Os) (started : os.Started) (H : Type) (enc : TypeId × Value → H) :
    ReturnsInHanded {} Try.checked os 6 .any (Rows.pedCutSpec.pre6 enc Try.prog Try.f6 Rows.pedCutRow.domain false) (Rows.pedCutSpec.post enc Try.prog Try.f6 false true false false) := by
  refine returnsInHanded_of_change (C := Try.checked) own started (by kernel_rfl) Try.func6
    (ChangeSpec.witness6 (enc := enc) (C := Try.checked) false ⟨#[], #[.int .i64 0, .int .i64 0, .int .i64 0], []⟩ 8 (by kernel_rfl) (by kernel_rfl) (by kernel_rfl) (by kernel_rfl)) ?_
  intro W base args ds gs before hval0 hW hcnd _
  have hval : ∀ (j : Nat) t v, Try.f6.params[j]? = some t → args[j]? = some v → Value.okWide Try.prog W .any base t v := hval0
  have hW' := hW
  obtain ⟨p, q, hA0, hV, rfl, hfz, hnd⟩ := hW
  have hA : DataW.TrodAll enc Try.prog W 0 (fun _ => true) true Try.f6.params.toList args.toList ds p := hA0
  rw [Try.params6] at hA hval
  obtain ⟨v0, vs0, d0, ds0, p0, q0, hargs, rfl, rfl, h0, r0⟩ := trodAll_cons hA
  obtain ⟨v1, vs1, d1, ds1, p1, q1, rfl, rfl, rfl, h1, r1⟩ := trodAll_cons r0
  obtain ⟨v2, vs2, d2, ds2, p2, q2, rfl, rfl, rfl, h2, r2⟩ := trodAll_cons r1
  obtain ⟨rfl, rfl, rfl⟩ := trodAll_nil r2
  obtain rfl : args = #[v0, v1, v2] := by cases args; simp_all
  obtain ⟨rfl, rfl⟩ := trodVars_none hV
  obtain ⟨a0, rfl, rfl, rfl, w0⟩ := open_int Try.underlying3 (hval 0 3 v0 rfl rfl) h0
  obtain ⟨a1, rfl, rfl, rfl, w1⟩ := open_int Try.underlying3 (hval 1 3 v1 rfl rfl) h1
  obtain ⟨a2, rfl, rfl, rfl, w2⟩ := open_int Try.underlying3 (hval 2 3 v2 rfl rfl) h2
  clear hA0 hval0
  simp only [List.append_nil] at hW'
  refine (walk a0 a1 a2 W w0 w1 w2).mono fun e W' ⟨he, bel⟩ => ?_
  subst he
  exact ⟨_, rfl, _, _, _, [], _, [], hW', trodAll_mk1 (shut_bool Try.underlying4 _), (trodAll_cons_mk (shut_int Try.underlying3 w0) (trodAll_cons_mk (shut_int Try.underlying3 w1) (trodAll_cons_mk (shut_int Try.underlying3 w2) trodAll_mk0))), rfl, bel.frame _, fun h => by cases h⟩

theorem over : Rows.pedCutRow.holds Try.pinned (OpenSpec.ofChange Rows.pedCutSpec) :=
  OpenClaim.holds_of_wide 6 Try.f6 rfl rfl rfl rfl rfl rfl rfl ⟨rfl, rfl, rfl, rfl, rfl⟩ rfl rfl rfl rfl rfl (by kernel_rfl) Try.func6 (by kernel_rfl)
    (of_decide_eq_true (by kernel_rfl)) (by unfold Func.isWrapper; first | (rw [if_pos (by decide +kernel)]; kernel_rfl) | (rw [if_neg (by decide +kernel)]; exact ⟨rfl, rfl⟩))
    (fun os started H enc _ => lifted os started H enc)

/-- the statement -/
theorem proved : Rows.PedCutSaid :=
  over
#print axioms proved
end Go.Proofs.Ytbmkkkkknofbaaa.pedCut
