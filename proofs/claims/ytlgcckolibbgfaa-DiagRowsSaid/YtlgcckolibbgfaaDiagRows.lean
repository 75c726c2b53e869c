/- DiagRows returns true at any inputs and any bounds: a detector is stuck just if its last inputs, as many as the bound, were alike, and a bound of 0 is none. No condition. -/
import Derived.Test.YtlgcckolibbgfaaRows
import Derived.Test.YtlgcckolibbgfaaDig
import Derived.LoopTactic
import Derived.BigQuiet
import Derived.WalkKit
import Derived.WalkLawsBesides
import Derived.ProofKit
import Derived.OpenShut
import Derived.ShutString
import Derived.ChangeOld
import Derived.Below
namespace Go.Proofs.Ytlgcckolibbgfaa.diagRows
open Go.ChangeShapes Go.WideShapes Go.ChangeAt Go.RowKit
open Tab Dig
set_option linter.unusedVariables false
set_option linter.unusedSimpArgs false

theorem own : ownKnob Try.prog.godebug = none := by kernel_rfl
theorem laidOut : laidOutB Try.prog = true := by kernel_rfl

/-- WHAT THE WALK IS TOLD OF A SLICE OF INTEGERS THAT CAME IN: it is nil; or it leads to a row of 'cap' cells, the numbers 'zs' (the first 'len' are its elements, the rest its spare room), each fitting its kind. -/
def IsRow (k : IntKind) (w : World) (a : Option Addr) (len cap : Nat) (zs : List Int) : Prop :=
  (a = none ∧ len = 0 ∧ cap = 0 ∧ zs = []) ∨
  ∃ x, a = some x ∧ len ≤ cap ∧ cap ≤ maxLen ∧ zs.length = cap ∧ (∀ i, i < zs.length → w.cell? (x.add i) = some (.int k (zs.getD i 0))) ∧ ∀ n ∈ zs, (Lit.int k n).wf = true

/-- What is known between two ticks: n ticks in a row were alike. -/
def Rw (z : Nat → Bool) (q : Nat) (n on off : Int) : Prop := (q = 0 ∧ n = 0 ∧ on = 0 ∧ off = 0) ∨ (0 < q ∧ 1 ≤ n ∧ n ≤ q ∧ on = (if z (q - 1) = true then n else 0) ∧ off = if z (q - 1) = true then 0 else n)
/-- One tick: the row goes on, or begins anew. -/
theorem row {z : Nat → Bool} {q : Nat} {n on off : Int} (h : Rw z q n on off) (hq : q < 9999) : ∃ n', wat ⟨on, off⟩ (z q) = ⟨if z q = true then n' else 0, if z q = true then 0 else n'⟩ ∧ Rw z (q + 1) n' (if z q = true then n' else 0) (if z q = true then 0 else n') ∧ 1 ≤ n' ∧ n' ≤ 1 + q ∧ n' = (if 0 < q ∧ z q ≠ z (q - 1) then 0 else n) + 1 ∧ 0 ≤ n ∧ n ≤ q := by
  rcases h with ⟨rfl, rfl, rfl, rfl⟩ | ⟨h0, h1, h2, rfl, rfl⟩
  · refine ⟨1, ?_, .inr ⟨by omega, by omega, by omega, rfl, rfl⟩, by omega, by omega, by simp, by omega, by omega⟩
    cases z 0 <;> rfl
  · have hm : Cnt.more n = n + 1 := Cnt.more_in (by omega) (by omega)
    have h00 : Cnt.more 0 = 1 := rfl
    refine ⟨(if 0 < q ∧ z q ≠ z (q - 1) then 0 else n) + 1, ?_, .inr ⟨by omega, ?_, ?_, rfl, rfl⟩, ?_, ?_, rfl, by omega, by omega⟩
    · unfold wat
      cases z q <;> cases z (q - 1) <;> simp [h0, hm, h00]
    all_goals (split <;> omega)

/-! ### the walk -/
set_option maxRecDepth 100000 in
set_option maxHeartbeats 8000000 in
theorem walk (s0 : Tab.Sl) (l0 : List Bool) (a1 : Int) (a2 : Int) (w : World) (w0 : Tab.RowOf 1 (fun b : Bool => [Value.bool b]) w s0 l0) (w1 : (Lit.int .i64 a1).wf = true) (w2 : (Lit.int .i64 a2).wf = true) :
    Calls Try.prog 4 #[.slice s0.a l0.length s0.cap, .int .i64 a1, .int .i64 a2] w fun e w' => e = .returned (.bool true) ∧ Below w.heap.size w w' := by
  obtain ⟨x, z, hA, hl1, hc1⟩ := Arg.bools_at w0
  obtain ⟨sa, cap⟩ := s0
  dsimp only at hA hl1 hc1 ⊢
  generalize l0.length = len at hA hl1 ⊢
  have HA := Lib.hid hA
  unfold maxLen at hc1
  clear hA w0
  go_enter Try.func4, Try.ntmps4
  go_upto_region 1 with fail
  by_cases hl : 200 < len
  · go_wp2_with fail
    refine (Dig.awake_any _).mono ?_
    rintro e u9 ⟨rfl, b9⟩
    go_wp2
    go_ret
    exact ⟨rfl, b9⟩
  obtain ⟨a, ha⟩ : ∃ d, a1 % 9 = d := ⟨_, rfl⟩
  obtain ⟨b, hb⟩ : ∃ e, a2 % 9 = e := ⟨_, rfl⟩
  have a0 : 0 ≤ a := by omega
  have b0 : 0 ≤ b := by omega
  have a9 : a < 9 := by omega
  have b9 : b < 9 := by omega
  have HA0 := Lib.hid ha
  have HB0 := Lib.hid hb
  clear ha hb
  go_upto_region 5 with (first | (go_at_call 12; with_reducible refine (Cnt.place_any a1 9 _ (by decide) (by decide)).mono ?_; rintro e w' ⟨rfl, rfl⟩; rw [HA0.out]) | (go_at_call 12; with_reducible refine (Cnt.place_any a2 9 _ (by decide) (by decide)).mono ?_; rintro e w' ⟨rfl, rfl⟩; rw [HB0.out]))
  have h0 := (Blk.Bks.nil w).alloc #[I 0, I 0] 23
  go_upto_region 6 with fail
  generalize World.alloc w _ = u1 at h0 ⊢
  generalize w.heap.size = gs at h0 ⊢
  have H0 := Lib.hid h0
  clear h0
  go_wp2_with fail
  go_loopw [10, 11] (fun m i wr => ∃ (q : Nat) (n on off : Int), q ≤ len ∧ m = .int .i64 n ∧ i = .int .i64 q ∧ Hid (Rw z q n on off) ∧ Blk.Bks w [(gs, #[I on, I off], 23)] wr) (fun _ i _ => len - (intOf i).toNat)
  case atStart => exact ⟨0, 0, 0, 0, by omega, rfl, rfl, Lib.hid (.inl ⟨rfl, rfl, rfl, rfl⟩), H0.out⟩
  case round =>
    obtain ⟨q, n, on, off, hq, rfl, rfl, HRW, hB⟩ := hrel
    have HB := Lib.hid hB
    clear hB
    by_cases hlt : q < len
    · obtain ⟨hx, hzl⟩ := HA.out q hlt
      have HZ := Lib.hid hzl
      obtain ⟨n', hs, hw, n1, n2, hn, n3, n4⟩ := row HRW.out (by omega)
      have HW := Lib.hid hw
      have HN := Lib.hid hn
      clear hzl hw hn HRW
      subst hx
      cases hbq : z q
      · rw [hbq] at hs HW HN HZ
        simp only [Bool.false_eq_true, if_true, if_false] at hs HW
        have HS := Lib.hid hs
        clear hs
        go_upto_region 10 with fail
        refine QB.region_tail 5 (by kernel_rfl) (by kernel_rfl) ?_
        have hk := HB.out.drew
        have hz : wr.drew.cell? (x.add q) = some (.bool false) := Arg.one_below HZ.out HB.out.drew.bel
        generalize World.drew wr = vd at hk hz ⊢
        have HK := Lib.hid hk
        clear hk
        have k0_0 : vd.cell? ⟨gs, 0, none⟩ = some (I on) := HK.out.cell 0 0 rfl rfl
        have k0_1 : vd.cell? ⟨gs, 1, none⟩ = some (I off) := HK.out.cell 0 1 rfl rfl
        simp only [List.take_succ_cons, List.take_zero, List.drop_succ_cons, List.drop_zero]
        repeat still_step
        refine wpStill_nil ?_
        go_wp2_with fail
        clear k0_0 k0_1 hz
        refine (step_is HS.out _).mono ?_
        rintro e vc ⟨rfl, bc⟩
        have hd := HK.out.step bc
        have HD := Lib.hid hd
        clear hd bc HK
        go_upto_region 11 with (refine wpList_store_row rfl 23 _ _ rfl gs #[I 0, I n'] rfl rfl 23 _ (HD.out.at 0 rfl) infoW rfl (by simp [Value.oneCell']) ?_)
        have he := HD.out.put 0 rfl #[I 0, I n']
        simp only [List.set_cons_succ, List.set_cons_zero] at he
        generalize World.setRow vc _ _ = v1 at he ⊢
        have HE := Lib.hid he
        clear he HD
        clear HS HB
        have HE := HE
        rcases Nat.eq_zero_or_pos q with hq0 | hq0'
        · dsimp only [Act.put]
          subst hq0
          rw [show ((0 : Nat) : Int) = (0 : Int) from rfl]
          obtain rfl : n' = n + 1 := by have := HN.out; simpa using this
          have hq1 : ∀ p : QB.By v1.heap.size v1, p.world.cell? x = some (.bool false) := fun p => by have := Arg.one_below HZ.out (HE.out.by p).bel; rwa [Tab.add_zero] at this
          refine QB.region_below v1.heap.size (by kernel_rfl) (by kernel_rfl) ?_
          repeat (go_big_quiet_step (fail))
          refine wpQuiet_nil ?_
          intro _ hw'
          obtain ⟨p, rfl⟩ := hw'
          have HG := Lib.hid (HE.out.by p)
          clear hq1 
          have hz1 : p.world.cell? x = some (.bool false) := by have := Arg.one_below HZ.out HG.out.bel; rwa [Tab.add_zero] at this
          have k0_0 : p.world.cell? ⟨gs, 0, none⟩ = some (I 0) := HG.out.cell 0 0 rfl rfl
          have k0_1 : p.world.cell? ⟨gs, 1, none⟩ = some (I (n + 1)) := HG.out.cell 0 1 rfl rfl
          by_cases h1 : 0 < b
          · by_cases h2 : b ≤ (n + 1)
            · have HS3 := Lib.hid (show stk a b ⟨0, (n + 1)⟩ = true from by unfold stk; simp only [Bool.or_eq_true, decide_eq_true_eq]; omega)
              go_wp2_with fail
              refine (stuck_is (m := a) (n := b) HS3.out _).mono ?_
              rintro e v3 ⟨rfl, b3⟩
              have hh := HG.out.step b3
              have HI := Lib.hid hh
              clear hh b3 k0_0 k0_1 hz1
              have k0_0 : v3.cell? ⟨gs, 0, none⟩ = some (I 0) := HI.out.cell 0 0 rfl rfl
              have k0_1 : v3.cell? ⟨gs, 1, none⟩ = some (I (n + 1)) := HI.out.cell 0 1 rfl rfl
              go_wp2
              go_roundw
              case rel => exact ⟨0 + 1, (n + 1), 0, (n + 1), by omega, rfl, by go_num, HW.out, HI.out⟩
              case measure => simp [intOf]; omega
            · have HS3 := Lib.hid (show stk a b ⟨0, (n + 1)⟩ = false from by unfold stk; simp only [Bool.or_eq_false_iff, decide_eq_false_iff_not]; omega)
              go_wp2_with fail
              refine (stuck_is (m := a) (n := b) HS3.out _).mono ?_
              rintro e v3 ⟨rfl, b3⟩
              have hh := HG.out.step b3
              have HI := Lib.hid hh
              clear hh b3 k0_0 k0_1 hz1
              have k0_0 : v3.cell? ⟨gs, 0, none⟩ = some (I 0) := HI.out.cell 0 0 rfl rfl
              have k0_1 : v3.cell? ⟨gs, 1, none⟩ = some (I (n + 1)) := HI.out.cell 0 1 rfl rfl
              go_wp2
              go_roundw
              case rel => exact ⟨0 + 1, (n + 1), 0, (n + 1), by omega, rfl, by go_num, HW.out, HI.out⟩
              case measure => simp [intOf]; omega
          · have HS3 := Lib.hid (show stk a b ⟨0, (n + 1)⟩ = false from by unfold stk; simp only [Bool.or_eq_false_iff, decide_eq_false_iff_not]; omega)
            go_wp2_with fail
            refine (stuck_is (m := a) (n := b) HS3.out _).mono ?_
            rintro e v3 ⟨rfl, b3⟩
            have hh := HG.out.step b3
            have HI := Lib.hid hh
            clear hh b3 k0_0 k0_1 hz1
            have k0_0 : v3.cell? ⟨gs, 0, none⟩ = some (I 0) := HI.out.cell 0 0 rfl rfl
            have k0_1 : v3.cell? ⟨gs, 1, none⟩ = some (I (n + 1)) := HI.out.cell 0 1 rfl rfl
            go_wp2
            go_roundw
            case rel => exact ⟨0 + 1, (n + 1), 0, (n + 1), by omega, rfl, by go_num, HW.out, HI.out⟩
            case measure => simp [intOf]; omega
        · cases hpr : z (q - 1)
          · dsimp only [Act.put]
            have hg : decide ((q : Int) > 0) = true := decide_eq_true (by omega)
            have hg2 : decide (0 < q) = true := decide_eq_true (by omega)
            have hp4 : (q : Int) - 1 < len := by omega
            have hp0 : 0 ≤ (q : Int) - 1 := by omega
            have hp1 : ((q : Int) - 1).toNat = q - 1 := by omega
            have hp2 : q - 1 < len := by omega
            have hp3 : IntKind.i64.wrap ((q : Int) - 1) = (q : Int) - 1 := by rw [IntKind.wrap_i64]; omega
            obtain ⟨-, hzp⟩ := HA.out (q - 1) (by omega)
            rw [hpr] at hzp
            have HZP := Lib.hid hzp
            clear hzp
            obtain rfl : n' = n + 1 := by have := HN.out; simpa [hpr, hbq, hq0'] using this
            have hq2 : ∀ p : QB.By v1.heap.size v1, p.world.cell? (x.add (q - 1)) = some (.bool false) := fun p => Arg.one_below HZP.out (HE.out.by p).bel
            have hq1 : ∀ p : QB.By v1.heap.size v1, p.world.cell? (x.add q) = some (.bool false) := fun p => Arg.one_below HZ.out (HE.out.by p).bel
            refine QB.region_below v1.heap.size (by kernel_rfl) (by kernel_rfl) ?_
            repeat (go_big_quiet_step (fail))
            refine wpQuiet_nil ?_
            intro _ hw'
            obtain ⟨p, rfl⟩ := hw'
            have HG := Lib.hid (HE.out.by p)
            clear hg hg2 hq1 hq2 hp0 hp1 hp2 hp3 hp4
            have hz1 : p.world.cell? (x.add q) = some (.bool false) := Arg.one_below HZ.out HG.out.bel
            have k0_0 : p.world.cell? ⟨gs, 0, none⟩ = some (I 0) := HG.out.cell 0 0 rfl rfl
            have k0_1 : p.world.cell? ⟨gs, 1, none⟩ = some (I (n + 1)) := HG.out.cell 0 1 rfl rfl
            by_cases h1 : 0 < b
            · by_cases h2 : b ≤ (n + 1)
              · have HS3 := Lib.hid (show stk a b ⟨0, (n + 1)⟩ = true from by unfold stk; simp only [Bool.or_eq_true, decide_eq_true_eq]; omega)
                go_wp2_with fail
                refine (stuck_is (m := a) (n := b) HS3.out _).mono ?_
                rintro e v3 ⟨rfl, b3⟩
                have hh := HG.out.step b3
                have HI := Lib.hid hh
                clear hh b3 k0_0 k0_1 hz1
                have k0_0 : v3.cell? ⟨gs, 0, none⟩ = some (I 0) := HI.out.cell 0 0 rfl rfl
                have k0_1 : v3.cell? ⟨gs, 1, none⟩ = some (I (n + 1)) := HI.out.cell 0 1 rfl rfl
                go_wp2
                go_roundw
                case rel => exact ⟨q + 1, (n + 1), 0, (n + 1), by omega, rfl, by go_num, HW.out, HI.out⟩
                case measure => simp [intOf]; omega
              · have HS3 := Lib.hid (show stk a b ⟨0, (n + 1)⟩ = false from by unfold stk; simp only [Bool.or_eq_false_iff, decide_eq_false_iff_not]; omega)
                go_wp2_with fail
                refine (stuck_is (m := a) (n := b) HS3.out _).mono ?_
                rintro e v3 ⟨rfl, b3⟩
                have hh := HG.out.step b3
                have HI := Lib.hid hh
                clear hh b3 k0_0 k0_1 hz1
                have k0_0 : v3.cell? ⟨gs, 0, none⟩ = some (I 0) := HI.out.cell 0 0 rfl rfl
                have k0_1 : v3.cell? ⟨gs, 1, none⟩ = some (I (n + 1)) := HI.out.cell 0 1 rfl rfl
                go_wp2
                go_roundw
                case rel => exact ⟨q + 1, (n + 1), 0, (n + 1), by omega, rfl, by go_num, HW.out, HI.out⟩
                case measure => simp [intOf]; omega
            · have HS3 := Lib.hid (show stk a b ⟨0, (n + 1)⟩ = false from by unfold stk; simp only [Bool.or_eq_false_iff, decide_eq_false_iff_not]; omega)
              go_wp2_with fail
              refine (stuck_is (m := a) (n := b) HS3.out _).mono ?_
              rintro e v3 ⟨rfl, b3⟩
              have hh := HG.out.step b3
              have HI := Lib.hid hh
              clear hh b3 k0_0 k0_1 hz1
              have k0_0 : v3.cell? ⟨gs, 0, none⟩ = some (I 0) := HI.out.cell 0 0 rfl rfl
              have k0_1 : v3.cell? ⟨gs, 1, none⟩ = some (I (n + 1)) := HI.out.cell 0 1 rfl rfl
              go_wp2
              go_roundw
              case rel => exact ⟨q + 1, (n + 1), 0, (n + 1), by omega, rfl, by go_num, HW.out, HI.out⟩
              case measure => simp [intOf]; omega
          · dsimp only [Act.put]
            have hg : decide ((q : Int) > 0) = true := decide_eq_true (by omega)
            have hg2 : decide (0 < q) = true := decide_eq_true (by omega)
            have hp4 : (q : Int) - 1 < len := by omega
            have hp0 : 0 ≤ (q : Int) - 1 := by omega
            have hp1 : ((q : Int) - 1).toNat = q - 1 := by omega
            have hp2 : q - 1 < len := by omega
            have hp3 : IntKind.i64.wrap ((q : Int) - 1) = (q : Int) - 1 := by rw [IntKind.wrap_i64]; omega
            obtain ⟨-, hzp⟩ := HA.out (q - 1) (by omega)
            rw [hpr] at hzp
            have HZP := Lib.hid hzp
            clear hzp
            obtain rfl : n' = 1 := by have := HN.out; simpa [hpr, hbq, hq0'] using this
            have hq2 : ∀ p : QB.By v1.heap.size v1, p.world.cell? (x.add (q - 1)) = some (.bool true) := fun p => Arg.one_below HZP.out (HE.out.by p).bel
            have hq1 : ∀ p : QB.By v1.heap.size v1, p.world.cell? (x.add q) = some (.bool false) := fun p => Arg.one_below HZ.out (HE.out.by p).bel
            refine QB.region_below v1.heap.size (by kernel_rfl) (by kernel_rfl) ?_
            repeat (go_big_quiet_step (fail))
            refine wpQuiet_nil ?_
            intro _ hw'
            obtain ⟨p, rfl⟩ := hw'
            have HG := Lib.hid (HE.out.by p)
            clear hg hg2 hq1 hq2 hp0 hp1 hp2 hp3 hp4
            have hz1 : p.world.cell? (x.add q) = some (.bool false) := Arg.one_below HZ.out HG.out.bel
            have k0_0 : p.world.cell? ⟨gs, 0, none⟩ = some (I 0) := HG.out.cell 0 0 rfl rfl
            have k0_1 : p.world.cell? ⟨gs, 1, none⟩ = some (I 1) := HG.out.cell 0 1 rfl rfl
            by_cases h1 : 0 < b
            · by_cases h2 : b ≤ 1
              · have HS3 := Lib.hid (show stk a b ⟨0, 1⟩ = true from by unfold stk; simp only [Bool.or_eq_true, decide_eq_true_eq]; omega)
                go_wp2_with fail
                refine (stuck_is (m := a) (n := b) HS3.out _).mono ?_
                rintro e v3 ⟨rfl, b3⟩
                have hh := HG.out.step b3
                have HI := Lib.hid hh
                clear hh b3 k0_0 k0_1 hz1
                have k0_0 : v3.cell? ⟨gs, 0, none⟩ = some (I 0) := HI.out.cell 0 0 rfl rfl
                have k0_1 : v3.cell? ⟨gs, 1, none⟩ = some (I 1) := HI.out.cell 0 1 rfl rfl
                go_wp2
                go_roundw
                case rel => exact ⟨q + 1, 1, 0, 1, by omega, rfl, by go_num, HW.out, HI.out⟩
                case measure => simp [intOf]; omega
              · have HS3 := Lib.hid (show stk a b ⟨0, 1⟩ = false from by unfold stk; simp only [Bool.or_eq_false_iff, decide_eq_false_iff_not]; omega)
                go_wp2_with fail
                refine (stuck_is (m := a) (n := b) HS3.out _).mono ?_
                rintro e v3 ⟨rfl, b3⟩
                have hh := HG.out.step b3
                have HI := Lib.hid hh
                clear hh b3 k0_0 k0_1 hz1
                have k0_0 : v3.cell? ⟨gs, 0, none⟩ = some (I 0) := HI.out.cell 0 0 rfl rfl
                have k0_1 : v3.cell? ⟨gs, 1, none⟩ = some (I 1) := HI.out.cell 0 1 rfl rfl
                go_wp2
                go_roundw
                case rel => exact ⟨q + 1, 1, 0, 1, by omega, rfl, by go_num, HW.out, HI.out⟩
                case measure => simp [intOf]; omega
            · have HS3 := Lib.hid (show stk a b ⟨0, 1⟩ = false from by unfold stk; simp only [Bool.or_eq_false_iff, decide_eq_false_iff_not]; omega)
              go_wp2_with fail
              refine (stuck_is (m := a) (n := b) HS3.out _).mono ?_
              rintro e v3 ⟨rfl, b3⟩
              have hh := HG.out.step b3
              have HI := Lib.hid hh
              clear hh b3 k0_0 k0_1 hz1
              have k0_0 : v3.cell? ⟨gs, 0, none⟩ = some (I 0) := HI.out.cell 0 0 rfl rfl
              have k0_1 : v3.cell? ⟨gs, 1, none⟩ = some (I 1) := HI.out.cell 0 1 rfl rfl
              go_wp2
              go_roundw
              case rel => exact ⟨q + 1, 1, 0, 1, by omega, rfl, by go_num, HW.out, HI.out⟩
              case measure => simp [intOf]; omega
      · rw [hbq] at hs HW HN HZ
        simp only [Bool.false_eq_true, if_true, if_false] at hs HW
        have HS := Lib.hid hs
        clear hs
        go_upto_region 10 with fail
        refine QB.region_tail 5 (by kernel_rfl) (by kernel_rfl) ?_
        have hk := HB.out.drew
        have hz : wr.drew.cell? (x.add q) = some (.bool true) := Arg.one_below HZ.out HB.out.drew.bel
        generalize World.drew wr = vd at hk hz ⊢
        have HK := Lib.hid hk
        clear hk
        have k0_0 : vd.cell? ⟨gs, 0, none⟩ = some (I on) := HK.out.cell 0 0 rfl rfl
        have k0_1 : vd.cell? ⟨gs, 1, none⟩ = some (I off) := HK.out.cell 0 1 rfl rfl
        simp only [List.take_succ_cons, List.take_zero, List.drop_succ_cons, List.drop_zero]
        repeat still_step
        refine wpStill_nil ?_
        go_wp2_with fail
        clear k0_0 k0_1 hz
        refine (step_is HS.out _).mono ?_
        rintro e vc ⟨rfl, bc⟩
        have hd := HK.out.step bc
        have HD := Lib.hid hd
        clear hd bc HK
        go_upto_region 11 with (refine wpList_store_row rfl 23 _ _ rfl gs #[I n', I 0] rfl rfl 23 _ (HD.out.at 0 rfl) infoW rfl (by simp [Value.oneCell']) ?_)
        have he := HD.out.put 0 rfl #[I n', I 0]
        simp only [List.set_cons_succ, List.set_cons_zero] at he
        generalize World.setRow vc _ _ = v1 at he ⊢
        have HE := Lib.hid he
        clear he HD
        clear HS HB
        have HE := HE
        rcases Nat.eq_zero_or_pos q with hq0 | hq0'
        · dsimp only [Act.put]
          subst hq0
          rw [show ((0 : Nat) : Int) = (0 : Int) from rfl]
          obtain rfl : n' = n + 1 := by have := HN.out; simpa using this
          have hq1 : ∀ p : QB.By v1.heap.size v1, p.world.cell? x = some (.bool true) := fun p => by have := Arg.one_below HZ.out (HE.out.by p).bel; rwa [Tab.add_zero] at this
          refine QB.region_below v1.heap.size (by kernel_rfl) (by kernel_rfl) ?_
          repeat (go_big_quiet_step (fail))
          refine wpQuiet_nil ?_
          intro _ hw'
          obtain ⟨p, rfl⟩ := hw'
          have HG := Lib.hid (HE.out.by p)
          clear hq1 
          have hz1 : p.world.cell? x = some (.bool true) := by have := Arg.one_below HZ.out HG.out.bel; rwa [Tab.add_zero] at this
          have k0_0 : p.world.cell? ⟨gs, 0, none⟩ = some (I (n + 1)) := HG.out.cell 0 0 rfl rfl
          have k0_1 : p.world.cell? ⟨gs, 1, none⟩ = some (I 0) := HG.out.cell 0 1 rfl rfl
          by_cases h1 : 0 < a
          · by_cases h2 : a ≤ (n + 1)
            · have HS3 := Lib.hid (show stk a b ⟨(n + 1), 0⟩ = true from by unfold stk; simp only [Bool.or_eq_true, decide_eq_true_eq]; omega)
              go_wp2_with fail
              refine (stuck_is (m := a) (n := b) HS3.out _).mono ?_
              rintro e v3 ⟨rfl, b3⟩
              have hh := HG.out.step b3
              have HI := Lib.hid hh
              clear hh b3 k0_0 k0_1 hz1
              have k0_0 : v3.cell? ⟨gs, 0, none⟩ = some (I (n + 1)) := HI.out.cell 0 0 rfl rfl
              have k0_1 : v3.cell? ⟨gs, 1, none⟩ = some (I 0) := HI.out.cell 0 1 rfl rfl
              go_wp2
              go_roundw
              case rel => exact ⟨0 + 1, (n + 1), (n + 1), 0, by omega, rfl, by go_num, HW.out, HI.out⟩
              case measure => simp [intOf]; omega
            · have HS3 := Lib.hid (show stk a b ⟨(n + 1), 0⟩ = false from by unfold stk; simp only [Bool.or_eq_false_iff, decide_eq_false_iff_not]; omega)
              go_wp2_with fail
              refine (stuck_is (m := a) (n := b) HS3.out _).mono ?_
              rintro e v3 ⟨rfl, b3⟩
              have hh := HG.out.step b3
              have HI := Lib.hid hh
              clear hh b3 k0_0 k0_1 hz1
              have k0_0 : v3.cell? ⟨gs, 0, none⟩ = some (I (n + 1)) := HI.out.cell 0 0 rfl rfl
              have k0_1 : v3.cell? ⟨gs, 1, none⟩ = some (I 0) := HI.out.cell 0 1 rfl rfl
              go_wp2
              go_roundw
              case rel => exact ⟨0 + 1, (n + 1), (n + 1), 0, by omega, rfl, by go_num, HW.out, HI.out⟩
              case measure => simp [intOf]; omega
          · have HS3 := Lib.hid (show stk a b ⟨(n + 1), 0⟩ = false from by unfold stk; simp only [Bool.or_eq_false_iff, decide_eq_false_iff_not]; omega)
            go_wp2_with fail
            refine (stuck_is (m := a) (n := b) HS3.out _).mono ?_
            rintro e v3 ⟨rfl, b3⟩
            have hh := HG.out.step b3
            have HI := Lib.hid hh
            clear hh b3 k0_0 k0_1 hz1
            have k0_0 : v3.cell? ⟨gs, 0, none⟩ = some (I (n + 1)) := HI.out.cell 0 0 rfl rfl
            have k0_1 : v3.cell? ⟨gs, 1, none⟩ = some (I 0) := HI.out.cell 0 1 rfl rfl
            go_wp2
            go_roundw
            case rel => exact ⟨0 + 1, (n + 1), (n + 1), 0, by omega, rfl, by go_num, HW.out, HI.out⟩
            case measure => simp [intOf]; omega
        · cases hpr : z (q - 1)
          · dsimp only [Act.put]
            have hg : decide ((q : Int) > 0) = true := decide_eq_true (by omega)
            have hg2 : decide (0 < q) = true := decide_eq_true (by omega)
            have hp4 : (q : Int) - 1 < len := by omega
            have hp0 : 0 ≤ (q : Int) - 1 := by omega
            have hp1 : ((q : Int) - 1).toNat = q - 1 := by omega
            have hp2 : q - 1 < len := by omega
            have hp3 : IntKind.i64.wrap ((q : Int) - 1) = (q : Int) - 1 := by rw [IntKind.wrap_i64]; omega
            obtain ⟨-, hzp⟩ := HA.out (q - 1) (by omega)
            rw [hpr] at hzp
            have HZP := Lib.hid hzp
            clear hzp
            obtain rfl : n' = 1 := by have := HN.out; simpa [hpr, hbq, hq0'] using this
            have hq2 : ∀ p : QB.By v1.heap.size v1, p.world.cell? (x.add (q - 1)) = some (.bool false) := fun p => Arg.one_below HZP.out (HE.out.by p).bel
            have hq1 : ∀ p : QB.By v1.heap.size v1, p.world.cell? (x.add q) = some (.bool true) := fun p => Arg.one_below HZ.out (HE.out.by p).bel
            refine QB.region_below v1.heap.size (by kernel_rfl) (by kernel_rfl) ?_
            repeat (go_big_quiet_step (fail))
            refine wpQuiet_nil ?_
            intro _ hw'
            obtain ⟨p, rfl⟩ := hw'
            have HG := Lib.hid (HE.out.by p)
            clear hg hg2 hq1 hq2 hp0 hp1 hp2 hp3 hp4
            have hz1 : p.world.cell? (x.add q) = some (.bool true) := Arg.one_below HZ.out HG.out.bel
            have k0_0 : p.world.cell? ⟨gs, 0, none⟩ = some (I 1) := HG.out.cell 0 0 rfl rfl
            have k0_1 : p.world.cell? ⟨gs, 1, none⟩ = some (I 0) := HG.out.cell 0 1 rfl rfl
            by_cases h1 : 0 < a
            · by_cases h2 : a ≤ 1
              · have HS3 := Lib.hid (show stk a b ⟨1, 0⟩ = true from by unfold stk; simp only [Bool.or_eq_true, decide_eq_true_eq]; omega)
                go_wp2_with fail
                refine (stuck_is (m := a) (n := b) HS3.out _).mono ?_
                rintro e v3 ⟨rfl, b3⟩
                have hh := HG.out.step b3
                have HI := Lib.hid hh
                clear hh b3 k0_0 k0_1 hz1
                have k0_0 : v3.cell? ⟨gs, 0, none⟩ = some (I 1) := HI.out.cell 0 0 rfl rfl
                have k0_1 : v3.cell? ⟨gs, 1, none⟩ = some (I 0) := HI.out.cell 0 1 rfl rfl
                go_wp2
                go_roundw
                case rel => exact ⟨q + 1, 1, 1, 0, by omega, rfl, by go_num, HW.out, HI.out⟩
                case measure => simp [intOf]; omega
              · have HS3 := Lib.hid (show stk a b ⟨1, 0⟩ = false from by unfold stk; simp only [Bool.or_eq_false_iff, decide_eq_false_iff_not]; omega)
                go_wp2_with fail
                refine (stuck_is (m := a) (n := b) HS3.out _).mono ?_
                rintro e v3 ⟨rfl, b3⟩
                have hh := HG.out.step b3
                have HI := Lib.hid hh
                clear hh b3 k0_0 k0_1 hz1
                have k0_0 : v3.cell? ⟨gs, 0, none⟩ = some (I 1) := HI.out.cell 0 0 rfl rfl
                have k0_1 : v3.cell? ⟨gs, 1, none⟩ = some (I 0) := HI.out.cell 0 1 rfl rfl
                go_wp2
                go_roundw
                case rel => exact ⟨q + 1, 1, 1, 0, by omega, rfl, by go_num, HW.out, HI.out⟩
                case measure => simp [intOf]; omega
            · have HS3 := Lib.hid (show stk a b ⟨1, 0⟩ = false from by unfold stk; simp only [Bool.or_eq_false_iff, decide_eq_false_iff_not]; omega)
              go_wp2_with fail
              refine (stuck_is (m := a) (n := b) HS3.out _).mono ?_
              rintro e v3 ⟨rfl, b3⟩
              have hh := HG.out.step b3
              have HI := Lib.hid hh
              clear hh b3 k0_0 k0_1 hz1
              have k0_0 : v3.cell? ⟨gs, 0, none⟩ = some (I 1) := HI.out.cell 0 0 rfl rfl
              have k0_1 : v3.cell? ⟨gs, 1, none⟩ = some (I 0) := HI.out.cell 0 1 rfl rfl
              go_wp2
              go_roundw
              case rel => exact ⟨q + 1, 1, 1, 0, by omega, rfl, by go_num, HW.out, HI.out⟩
              case measure => simp [intOf]; omega
          · dsimp only [Act.put]
            have hg : decide ((q : Int) > 0) = true := decide_eq_true (by omega)
            have hg2 : decide (0 < q) = true := decide_eq_true (by omega)
            have hp4 : (q : Int) - 1 < len := by omega
            have hp0 : 0 ≤ (q : Int) - 1 := by omega
            have hp1 : ((q : Int) - 1).toNat = q - 1 := by omega
            have hp2 : q - 1 < len := by omega
            have hp3 : IntKind.i64.wrap ((q : Int) - 1) = (q : Int) - 1 := by rw [IntKind.wrap_i64]; omega
            obtain ⟨-, hzp⟩ := HA.out (q - 1) (by omega)
            rw [hpr] at hzp
            have HZP := Lib.hid hzp
            clear hzp
            obtain rfl : n' = n + 1 := by have := HN.out; simpa [hpr, hbq, hq0'] using this
            have hq2 : ∀ p : QB.By v1.heap.size v1, p.world.cell? (x.add (q - 1)) = some (.bool true) := fun p => Arg.one_below HZP.out (HE.out.by p).bel
            have hq1 : ∀ p : QB.By v1.heap.size v1, p.world.cell? (x.add q) = some (.bool true) := fun p => Arg.one_below HZ.out (HE.out.by p).bel
            refine QB.region_below v1.heap.size (by kernel_rfl) (by kernel_rfl) ?_
            repeat (go_big_quiet_step (fail))
            refine wpQuiet_nil ?_
            intro _ hw'
            obtain ⟨p, rfl⟩ := hw'
            have HG := Lib.hid (HE.out.by p)
            clear hg hg2 hq1 hq2 hp0 hp1 hp2 hp3 hp4
            have hz1 : p.world.cell? (x.add q) = some (.bool true) := Arg.one_below HZ.out HG.out.bel
            have k0_0 : p.world.cell? ⟨gs, 0, none⟩ = some (I (n + 1)) := HG.out.cell 0 0 rfl rfl
            have k0_1 : p.world.cell? ⟨gs, 1, none⟩ = some (I 0) := HG.out.cell 0 1 rfl rfl
            by_cases h1 : 0 < a
            · by_cases h2 : a ≤ (n + 1)
              · have HS3 := Lib.hid (show stk a b ⟨(n + 1), 0⟩ = true from by unfold stk; simp only [Bool.or_eq_true, decide_eq_true_eq]; omega)
                go_wp2_with fail
                refine (stuck_is (m := a) (n := b) HS3.out _).mono ?_
                rintro e v3 ⟨rfl, b3⟩
                have hh := HG.out.step b3
                have HI := Lib.hid hh
                clear hh b3 k0_0 k0_1 hz1
                have k0_0 : v3.cell? ⟨gs, 0, none⟩ = some (I (n + 1)) := HI.out.cell 0 0 rfl rfl
                have k0_1 : v3.cell? ⟨gs, 1, none⟩ = some (I 0) := HI.out.cell 0 1 rfl rfl
                go_wp2
                go_roundw
                case rel => exact ⟨q + 1, (n + 1), (n + 1), 0, by omega, rfl, by go_num, HW.out, HI.out⟩
                case measure => simp [intOf]; omega
              · have HS3 := Lib.hid (show stk a b ⟨(n + 1), 0⟩ = false from by unfold stk; simp only [Bool.or_eq_false_iff, decide_eq_false_iff_not]; omega)
                go_wp2_with fail
                refine (stuck_is (m := a) (n := b) HS3.out _).mono ?_
                rintro e v3 ⟨rfl, b3⟩
                have hh := HG.out.step b3
                have HI := Lib.hid hh
                clear hh b3 k0_0 k0_1 hz1
                have k0_0 : v3.cell? ⟨gs, 0, none⟩ = some (I (n + 1)) := HI.out.cell 0 0 rfl rfl
                have k0_1 : v3.cell? ⟨gs, 1, none⟩ = some (I 0) := HI.out.cell 0 1 rfl rfl
                go_wp2
                go_roundw
                case rel => exact ⟨q + 1, (n + 1), (n + 1), 0, by omega, rfl, by go_num, HW.out, HI.out⟩
                case measure => simp [intOf]; omega
            · have HS3 := Lib.hid (show stk a b ⟨(n + 1), 0⟩ = false from by unfold stk; simp only [Bool.or_eq_false_iff, decide_eq_false_iff_not]; omega)
              go_wp2_with fail
              refine (stuck_is (m := a) (n := b) HS3.out _).mono ?_
              rintro e v3 ⟨rfl, b3⟩
              have hh := HG.out.step b3
              have HI := Lib.hid hh
              clear hh b3 k0_0 k0_1 hz1
              have k0_0 : v3.cell? ⟨gs, 0, none⟩ = some (I (n + 1)) := HI.out.cell 0 0 rfl rfl
              have k0_1 : v3.cell? ⟨gs, 1, none⟩ = some (I 0) := HI.out.cell 0 1 rfl rfl
              go_wp2
              go_roundw
              case rel => exact ⟨q + 1, (n + 1), (n + 1), 0, by omega, rfl, by go_num, HW.out, HI.out⟩
              case measure => simp [intOf]; omega
    · obtain rfl : q = len := by omega
      go_wp2_with fail
      refine (Dig.awake_any _).mono ?_
      rintro e u9 ⟨rfl, bz⟩
      go_wp2
      go_ret
      exact ⟨rfl, (HB.out.step bz).bel⟩

/-! ### the row's step -/
set_option maxRecDepth 100000 in
theorem lifted (os : Os) (started : os.Started) (H : Type) (enc : TypeId × Value → H) :
    ReturnsInHanded {} Try.checked os 4 .any (Rows.diagRowsSpec.pre6 enc Try.prog Try.f4 Rows.diagRowsRow.domain false) (Rows.diagRowsSpec.post enc Try.prog Try.f4 false true false false) := by
  refine returnsInHanded_of_change (C := Try.checked) own started (by kernel_rfl) Try.func4
    (ChangeSpec.witness6 (enc := enc) (C := Try.checked) false ⟨#[], #[.slice none 0 0, .int .i64 0, .int .i64 0], []⟩ 8 (by kernel_rfl) (by kernel_rfl) (by kernel_rfl) (by kernel_rfl)) ?_
  intro W base args ds gs before hval0 hW hcnd _
  have hval : ∀ (j : Nat) t v, Try.f4.params[j]? = some t → args[j]? = some v → Value.okWide Try.prog W .any base t v := hval0
  have hW' := hW
  obtain ⟨p, q, hA0, hV, rfl, hfz, hnd⟩ := hW
  have hA : DataW.TrodAll enc Try.prog W 0 (fun _ => true) true Try.f4.params.toList args.toList ds p := hA0
  rw [Try.params4] at hA hval
  obtain ⟨v0, vs0, d0, ds0, p0, q0, hargs, rfl, rfl, h0, r0⟩ := trodAll_cons hA
  obtain ⟨v1, vs1, d1, ds1, p1, q1, rfl, rfl, rfl, h1, r1⟩ := trodAll_cons r0
  obtain ⟨v2, vs2, d2, ds2, p2, q2, rfl, rfl, rfl, h2, r2⟩ := trodAll_cons r1
  obtain ⟨rfl, rfl, rfl⟩ := trodAll_nil r2
  obtain rfl : args = #[v0, v1, v2] := by cases args; simp_all
  obtain ⟨rfl, rfl⟩ := trodVars_none hV
  obtain ⟨a0, len0, cap0, rfl⟩ := okWide_slice Try.underlying28 (hval 0 28 v0 rfl rfl)
  have k0 := h0
  have lt0 : ∀ x ∈ p0, x.block < W.heap.size := by obtain ⟨m, hm⟩ := k0; exact DataW.trod_lt m _ _ _ hm
  obtain ⟨s0, l0, e0, w0⟩ : ∃ (s : Tab.Sl) (l : List Bool), Value.slice a0 len0 cap0 = s.val l.length ∧ Tab.RowOf 1 (fun b : Bool => [Value.bool b]) W s l := by
    obtain ⟨fuel, hf⟩ := h0
    obtain ⟨s, l, e, r, _⟩ := TabArg.tr_row (k := 1) (f := (fun b : Bool => [Value.bool b])) (p := fun _ => True) Try.underlying28 (by kernel_rfl) (fun n cs x hx => by obtain ⟨z, hz, _⟩ := DataW.trod_bool Try.underlying4 hx; exact ⟨z, hz, trivial⟩) ⟨fuel, _, hf⟩
    exact ⟨s, l, e, r⟩
  simp only [Tab.Sl.val, Value.slice.injEq] at e0
  obtain ⟨rfl, rfl, rfl⟩ := e0
  obtain ⟨a1, rfl, rfl, rfl, w1⟩ := open_int Try.underlying3 (hval 1 3 v1 rfl rfl) h1
  obtain ⟨a2, rfl, rfl, rfl, w2⟩ := open_int Try.underlying3 (hval 2 3 v2 rfl rfl) h2
  clear hA0 hval0
  refine (walk s0 l0 a1 a2 W w0 w1 w2).mono fun e W' ⟨he, bel⟩ => ?_
  subst he
  exact ⟨_, rfl, _, _, _, [], _, [], hW', trodAll_mk1 (shut_bool Try.underlying4 _), (trodAll_cons_mk (Below.trod laidOut (by kernel_rfl) (of_decide_eq_true (by kernel_rfl)) k0 bel lt0) (trodAll_cons_mk (shut_int Try.underlying3 w1) (trodAll_cons_mk (shut_int Try.underlying3 w2) trodAll_mk0))), rfl, bel.frame _, fun h => by cases h⟩

theorem over : Rows.diagRowsRow.holds Try.pinned (OpenSpec.ofChange Rows.diagRowsSpec) :=
  OpenClaim.holds_of_wide 4 Try.f4 rfl rfl rfl rfl rfl rfl rfl ⟨rfl, rfl, rfl, rfl, rfl⟩ rfl rfl rfl rfl rfl (by kernel_rfl) Try.func4 (by kernel_rfl)
    (of_decide_eq_true (by kernel_rfl)) (by unfold Func.isWrapper; first | (rw [if_pos (by decide +kernel)]; kernel_rfl) | (rw [if_neg (by decide +kernel)]; exact ⟨rfl, rfl⟩))
    (fun os started H enc _ => lifted os started H enc)

/-- the statement -/
theorem proved : Rows.DiagRowsSaid :=
  over
#print axioms proved
end Go.Proofs.Ytlgcckolibbgfaa.diagRows
