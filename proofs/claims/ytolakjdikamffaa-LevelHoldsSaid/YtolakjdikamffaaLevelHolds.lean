/- LevelHolds returns true at any two bounds, any samples and either beginning: samples between the bounds turn nothing. No condition. -/
import Derived.Test.YtolakjdikamffaaRows
import Derived.Test.YtolakjdikamffaaLvW
import Derived.Deep.Cut
import Derived.Test.YtolakjdikamffaaBlk
import Derived.Test.YtolakjdikamffaaRecs
import Derived.LoopTactic
import Derived.WalkKit
import Derived.WalkLawsBesides
import Derived.ProofKit
import Derived.OpenShut
import Derived.ShutString
import Derived.ChangeOld
import Derived.Below
namespace Go.Proofs.Ytolakjdikamffaa.levelHolds
open Go.ChangeShapes Go.WideShapes Go.ChangeAt Go.RowKit
open Tab Lvl Go.Proofs.Fl
open Lvl (infoL)
set_option linter.unusedVariables false
set_option linter.unusedSimpArgs false

theorem own : ownKnob Try.prog.godebug = none := by kernel_rfl
theorem laidOut : laidOutB Try.prog = true := by kernel_rfl

/-- WHAT THE WALK IS TOLD OF A SLICE OF INTEGERS THAT CAME IN: it is nil; or it leads to a row of 'cap' cells, the numbers 'zs' (the first 'len' are its elements, the rest its spare room), each fitting its kind. -/
def IsRow (k : IntKind) (w : World) (a : Option Addr) (len cap : Nat) (zs : List Int) : Prop :=
  (a = none ∧ len = 0 ∧ cap = 0 ∧ zs = []) ∨
  ∃ x, a = some x ∧ len ≤ cap ∧ cap ≤ maxLen ∧ zs.length = cap ∧ (∀ i, i < zs.length → w.cell? (x.add i) = some (.int k (zs.getD i 0))) ∧ ∀ n ∈ zs, (Lit.int k n).wf = true

/-! ### the walk -/
set_option maxHeartbeats 4000000 in
theorem walk (a0 : Nat) (a1 : Nat) (a2 : Option Addr) (len2 cap2 : Nat) (z2 : Nat → Nat) (a3 : Bool) (w : World) (w0 : (Lit.float .f64 a0).wf = true) (w1 : (Lit.float .f64 a1).wf = true) (w2 : Recs.IsFlts w a2 len2 cap2 z2) :
    Calls Try.prog 5 #[.float .f64 a0, .float .f64 a1, .slice a2 len2 cap2, .bool a3] w fun e w' => e = .returned (.bool true) ∧ Below w.heap.size w w' := by
  obtain ⟨x, hA, hl1, hc1⟩ := flts_at w2
  have HA := Lib.hid hA
  unfold maxLen at hc1
  clear hA w2
  have hx0 : a0 < 18446744073709551616 := by simpa [Lit.wf] using w0
  have hx1 : a1 < 18446744073709551616 := by simpa [Lit.wf] using w1
  have A0 := Lib.hid hx0
  have A1 := Lib.hid hx1
  clear hx0 hx1 w0 w1
  rcases h1 : FloatKind.f64.format.order a0 0 with _ | _ | _ | _
  iterate 3
    · go_enter Try.func5, Try.ntmps5
      go_wp2_with fail
      refine (Lvl.awake_any _).mono ?_
      rintro e u1 ⟨rfl, b1⟩
      go_wp2
      go_ret
      exact ⟨rfl, b1⟩
  rcases h2 : FloatKind.f64.format.order a0 a1 with _ | _ | _ | _
  · go_enter Try.func5, Try.ntmps5
    go_wp2_with fail
    refine (Lvl.awake_any _).mono ?_
    rintro e u1 ⟨rfl, b1⟩
    go_wp2
    go_ret
    exact ⟨rfl, b1⟩
  rotate_left
  iterate 2
    · go_enter Try.func5, Try.ntmps5
      go_wp2_with fail
      refine (Lvl.awake_any _).mono ?_
      rintro e u1 ⟨rfl, b1⟩
      go_wp2
      go_ret
      exact ⟨rfl, b1⟩
  rcases h3 : FloatKind.f64.format.order a1 4652007308841189376 with _ | _ | _ | _
  · go_enter Try.func5, Try.ntmps5
    go_wp2_with fail
    refine (Lvl.awake_any _).mono ?_
    rintro e u1 ⟨rfl, b1⟩
    go_wp2
    go_ret
    exact ⟨rfl, b1⟩
  rotate_right
  · go_enter Try.func5, Try.ntmps5
    go_wp2_with fail
    refine (Lvl.awake_any _).mono ?_
    rintro e u1 ⟨rfl, b1⟩
    go_wp2
    go_ret
    exact ⟨rfl, b1⟩
  all_goals
    by_cases hl : 60 < len2
    · go_enter Try.func5, Try.ntmps5
      go_wp2_with fail
      refine (Lvl.awake_any _).mono ?_
      rintro e u1 ⟨rfl, b1⟩
      go_wp2
      go_ret
      exact ⟨rfl, b1⟩
    obtain ⟨n0, -, k1⟩ := ord_gt h1
    obtain ⟨-, n1, k2⟩ := ord_lt h2
    have k3 : key a1 ≤ 4652007308841189376 := by rw [← key1000]; first | exact Int.le_of_lt (ord_lt h3).2.2 | exact Int.le_of_eq (ord_eq h3).2.2
    rw [key0] at k1
    have S1 : Hid (∀ b, stp a1 a0 ⟨b, 0⟩ a0 = ⟨false, 0⟩) := Lib.hid (fun b => by rw [stp_key n0 (by omega) (by omega) n1 n0, if_neg (by omega), if_pos (by omega)])
    have S2 : Hid (stp a1 a0 ⟨false, 0⟩ a1 = ⟨true, 0⟩) := Lib.hid (by rw [stp_key n1 (by omega) (by omega) n1 n0, if_pos (by omega)])
    have S3 : Hid (∀ z, FloatKind.f64.format.order z a0 = some .gt → FloatKind.f64.format.order z a1 = some .lt → stp a1 a0 ⟨a3, 0⟩ z = ⟨a3, 0⟩) := Lib.hid (fun z p q => by
      obtain ⟨nz, -, p⟩ := ord_gt p
      obtain ⟨-, -, q⟩ := ord_lt q
      rw [stp_key nz (by omega) (by omega) n1 n0, if_neg (by omega), if_neg (by omega)])
    clear n0 n1 k1 k2 k3
    cases a3
    · go_enter Try.func5, Try.ntmps5
      go_upto_region 4 with (refine Row.wpList_store_new rfl 24 _ _ rfl w #[I 0, F 0, F 0, F 0, F 0, I 0, I 0] #[I 0, F a1, F a0, F 0, F 0, I 0, I 0] rfl rfl rfl infoD rfl (by simp [Value.oneCell']) ?_)
      have h0 := (Blk.Bks.nil w).alloc #[I 0, F a1, F a0, F 0, F 0, I 0, I 0] 24
      generalize World.alloc w _ = u at h0 ⊢
      have H0 := Lib.hid h0
      clear h0
      have k0_0 : u.cell? ⟨w.heap.size, 0, none⟩ = some (I 0) := H0.out.cell 0 0 rfl rfl
      have k0_1 : u.cell? ⟨w.heap.size, 1, none⟩ = some (F a1) := H0.out.cell 0 1 rfl rfl
      have k0_2 : u.cell? ⟨w.heap.size, 2, none⟩ = some (F a0) := H0.out.cell 0 2 rfl rfl
      have k0_3 : u.cell? ⟨w.heap.size, 3, none⟩ = some (F 0) := H0.out.cell 0 3 rfl rfl
      have k0_4 : u.cell? ⟨w.heap.size, 4, none⟩ = some (F 0) := H0.out.cell 0 4 rfl rfl
      have k0_5 : u.cell? ⟨w.heap.size, 5, none⟩ = some (I 0) := H0.out.cell 0 5 rfl rfl
      have k0_6 : u.cell? ⟨w.heap.size, 6, none⟩ = some (I 0) := H0.out.cell 0 6 rfl rfl
      go_wp2_with fail
      refine (step_is A0.out (S1.out true) _).mono ?_
      rintro e u1 ⟨rfl, b1⟩
      clear k0_0 k0_1 k0_2 k0_3 k0_4 k0_5 k0_6
      go_upto_region 5 with fail
      have h1 := (H0.out.step b1).alloc #[.bool false, I 0] 26
      generalize World.alloc u1 _ = u2 at h1 ⊢
      generalize u1.heap.size = g at h1 ⊢
      have H1 := Lib.hid h1
      clear h1 H0 b1
      have H2 := Lib.hid H1.out
      go_wp2_with fail
      go_loopw [11] (fun i wr => ∃ q : Nat, q ≤ len2 ∧ i = .int .i64 q ∧ Blk.Bks w [(g, #[Value.bool false, I 0], 26), (w.heap.size, #[I 0, F a1, F a0, F 0, F 0, I 0, I 0], 24)] wr) (fun i _ => len2 - (intOf i).toNat)
      case atStart => exact ⟨0, by omega, rfl, H2.out⟩
      case round =>
        obtain ⟨q, hq, rfl, hB⟩ := hrel
        have HB := Lib.hid hB
        clear hB
        by_cases hlt : q < len2
        · obtain ⟨hx, hzl, hxz⟩ := HA.out q hlt
          have HZ := Lib.hid hzl
          have HX := Lib.hid hxz
          clear hzl hxz
          subst hx
          have hz := at_below HZ.out HB.out.bel
          rcases ho : FloatKind.f64.format.order (z2 q) a0 with _ | _ | _ | _
          iterate 3
            · go_wp2
              go_roundw
              case rel => exact ⟨q + 1, by omega, by go_num, HB.out⟩
              case measure => simp [intOf]; omega
          rcases hp : FloatKind.f64.format.order (z2 q) a1 with _ | _ | _ | _
          · go_wp2
            go_roundw
            case rel => exact ⟨q + 1, by omega, by go_num, HB.out⟩
            case measure => simp [intOf]; omega
          · have HS := Lib.hid (S3.out (z2 q) ho hp)
            go_upto_region 11 with fail
            clear ho hp hz
            refine QB.region_tail 6 (by kernel_rfl) (by kernel_rfl) ?_
            have hk := HB.out.drew
            have hz := at_below HZ.out HB.out.drew.bel
            generalize World.drew wr = v at hk hz ⊢
            have HC := Lib.hid hk
            clear hk
            have k0_0 : v.cell? ⟨g, 0, none⟩ = some (Value.bool false) := HC.out.cell 0 0 rfl rfl
            have k0_1 : v.cell? ⟨g, 1, none⟩ = some (I 0) := HC.out.cell 0 1 rfl rfl
            have k1_0 : v.cell? ⟨w.heap.size, 0, none⟩ = some (I 0) := HC.out.cell 1 0 rfl rfl
            have k1_1 : v.cell? ⟨w.heap.size, 1, none⟩ = some (F a1) := HC.out.cell 1 1 rfl rfl
            have k1_2 : v.cell? ⟨w.heap.size, 2, none⟩ = some (F a0) := HC.out.cell 1 2 rfl rfl
            have k1_3 : v.cell? ⟨w.heap.size, 3, none⟩ = some (F 0) := HC.out.cell 1 3 rfl rfl
            have k1_4 : v.cell? ⟨w.heap.size, 4, none⟩ = some (F 0) := HC.out.cell 1 4 rfl rfl
            have k1_5 : v.cell? ⟨w.heap.size, 5, none⟩ = some (I 0) := HC.out.cell 1 5 rfl rfl
            have k1_6 : v.cell? ⟨w.heap.size, 6, none⟩ = some (I 0) := HC.out.cell 1 6 rfl rfl
            simp only [List.take_succ_cons, List.take_zero, List.drop_succ_cons, List.drop_zero]
            repeat still_step
            refine wpStill_nil ?_
            go_wp2_with fail
            clear k0_0 k0_1 k1_0 k1_1 k1_2 k1_3 k1_4 k1_5 k1_6 hz
            refine (step_is HX.out HS.out _).mono ?_
            rintro e v1 ⟨rfl, b1⟩
            have hd := HC.out.step b1
            have HD := Lib.hid hd
            clear hd b1 HB HC
            go_upto_region 12 with (refine wpList_store_row rfl 26 _ _ rfl g #[Value.bool false, I 0] rfl rfl 26 _ (HD.out.at 0 rfl) infoL rfl (by simp [Value.oneCell']) ?_)
            have he := HD.out.put 0 rfl #[.bool false, I 0]
            simp only [List.set_cons_succ, List.set_cons_zero] at he
            generalize World.setRow v1 g _ = v2 at he ⊢
            have HE := Lib.hid he
            clear he HD
            have k0_0 : v2.cell? ⟨g, 0, none⟩ = some (Value.bool false) := HE.out.cell 0 0 rfl rfl
            have k0_1 : v2.cell? ⟨g, 1, none⟩ = some (I 0) := HE.out.cell 0 1 rfl rfl
            go_wp2
            go_roundw
            case rel => exact ⟨q + 1, by omega, by go_num, HE.out⟩
            case measure => simp [intOf]; omega
          iterate 2
            · go_wp2
              go_roundw
              case rel => exact ⟨q + 1, by omega, by go_num, HB.out⟩
              case measure => simp [intOf]; omega
        · obtain rfl : q = len2 := by omega
          have k0_0 : wr.cell? ⟨g, 0, none⟩ = some (Value.bool false) := HB.out.cell 0 0 rfl rfl
          have k0_1 : wr.cell? ⟨g, 1, none⟩ = some (I 0) := HB.out.cell 0 1 rfl rfl
          go_wp2_with fail
          refine (Lvl.awake_any _).mono ?_
          rintro e u3 ⟨rfl, b3⟩
          go_wp2
          go_ret
          exact ⟨rfl, (HB.out.step b3).bel⟩
    · go_enter Try.func5, Try.ntmps5
      go_upto_region 4 with (refine Row.wpList_store_new rfl 24 _ _ rfl w #[I 0, F 0, F 0, F 0, F 0, I 0, I 0] #[I 0, F a1, F a0, F 0, F 0, I 0, I 0] rfl rfl rfl infoD rfl (by simp [Value.oneCell']) ?_)
      have h0 := (Blk.Bks.nil w).alloc #[I 0, F a1, F a0, F 0, F 0, I 0, I 0] 24
      generalize World.alloc w _ = u at h0 ⊢
      have H0 := Lib.hid h0
      clear h0
      have k0_0 : u.cell? ⟨w.heap.size, 0, none⟩ = some (I 0) := H0.out.cell 0 0 rfl rfl
      have k0_1 : u.cell? ⟨w.heap.size, 1, none⟩ = some (F a1) := H0.out.cell 0 1 rfl rfl
      have k0_2 : u.cell? ⟨w.heap.size, 2, none⟩ = some (F a0) := H0.out.cell 0 2 rfl rfl
      have k0_3 : u.cell? ⟨w.heap.size, 3, none⟩ = some (F 0) := H0.out.cell 0 3 rfl rfl
      have k0_4 : u.cell? ⟨w.heap.size, 4, none⟩ = some (F 0) := H0.out.cell 0 4 rfl rfl
      have k0_5 : u.cell? ⟨w.heap.size, 5, none⟩ = some (I 0) := H0.out.cell 0 5 rfl rfl
      have k0_6 : u.cell? ⟨w.heap.size, 6, none⟩ = some (I 0) := H0.out.cell 0 6 rfl rfl
      go_wp2_with fail
      refine (step_is A0.out (S1.out false) _).mono ?_
      rintro e u1 ⟨rfl, b1⟩
      clear k0_0 k0_1 k0_2 k0_3 k0_4 k0_5 k0_6
      go_upto_region 5 with fail
      have h1 := (H0.out.step b1).alloc #[.bool false, I 0] 26
      generalize World.alloc u1 _ = u2 at h1 ⊢
      generalize u1.heap.size = g at h1 ⊢
      have H1 := Lib.hid h1
      clear h1 H0 b1
      have k1_0 : u2.cell? ⟨w.heap.size, 0, none⟩ = some (I 0) := H1.out.cell 1 0 rfl rfl
      have k1_1 : u2.cell? ⟨w.heap.size, 1, none⟩ = some (F a1) := H1.out.cell 1 1 rfl rfl
      have k1_2 : u2.cell? ⟨w.heap.size, 2, none⟩ = some (F a0) := H1.out.cell 1 2 rfl rfl
      have k1_3 : u2.cell? ⟨w.heap.size, 3, none⟩ = some (F 0) := H1.out.cell 1 3 rfl rfl
      have k1_4 : u2.cell? ⟨w.heap.size, 4, none⟩ = some (F 0) := H1.out.cell 1 4 rfl rfl
      have k1_5 : u2.cell? ⟨w.heap.size, 5, none⟩ = some (I 0) := H1.out.cell 1 5 rfl rfl
      have k1_6 : u2.cell? ⟨w.heap.size, 6, none⟩ = some (I 0) := H1.out.cell 1 6 rfl rfl
      go_wp2_with fail
      refine (step_is A1.out S2.out _).mono ?_
      rintro e u3 ⟨rfl, b3⟩
      have hd := H1.out.step b3
      have HD := Lib.hid hd
      clear k1_0 k1_1 k1_2 k1_3 k1_4 k1_5 k1_6 hd b3 H1
      go_upto_region 7 with (refine wpList_store_row rfl 26 _ _ rfl g #[Value.bool true, I 0] rfl rfl 26 _ (HD.out.at 0 rfl) infoL rfl (by simp [Value.oneCell']) ?_)
      have he := HD.out.put 0 rfl #[.bool true, I 0]
      simp only [List.set_cons_succ, List.set_cons_zero] at he
      generalize World.setRow u3 g _ = u4 at he ⊢
      have H2 := Lib.hid he
      clear he HD
      go_wp2_with fail
      go_loopw [11] (fun i wr => ∃ q : Nat, q ≤ len2 ∧ i = .int .i64 q ∧ Blk.Bks w [(g, #[Value.bool true, I 0], 26), (w.heap.size, #[I 0, F a1, F a0, F 0, F 0, I 0, I 0], 24)] wr) (fun i _ => len2 - (intOf i).toNat)
      case atStart => exact ⟨0, by omega, rfl, H2.out⟩
      case round =>
        obtain ⟨q, hq, rfl, hB⟩ := hrel
        have HB := Lib.hid hB
        clear hB
        by_cases hlt : q < len2
        · obtain ⟨hx, hzl, hxz⟩ := HA.out q hlt
          have HZ := Lib.hid hzl
          have HX := Lib.hid hxz
          clear hzl hxz
          subst hx
          have hz := at_below HZ.out HB.out.bel
          rcases ho : FloatKind.f64.format.order (z2 q) a0 with _ | _ | _ | _
          iterate 3
            · go_wp2
              go_roundw
              case rel => exact ⟨q + 1, by omega, by go_num, HB.out⟩
              case measure => simp [intOf]; omega
          rcases hp : FloatKind.f64.format.order (z2 q) a1 with _ | _ | _ | _
          · go_wp2
            go_roundw
            case rel => exact ⟨q + 1, by omega, by go_num, HB.out⟩
            case measure => simp [intOf]; omega
          · have HS := Lib.hid (S3.out (z2 q) ho hp)
            go_upto_region 11 with fail
            clear ho hp hz
            refine QB.region_tail 6 (by kernel_rfl) (by kernel_rfl) ?_
            have hk := HB.out.drew
            have hz := at_below HZ.out HB.out.drew.bel
            generalize World.drew wr = v at hk hz ⊢
            have HC := Lib.hid hk
            clear hk
            have k0_0 : v.cell? ⟨g, 0, none⟩ = some (Value.bool true) := HC.out.cell 0 0 rfl rfl
            have k0_1 : v.cell? ⟨g, 1, none⟩ = some (I 0) := HC.out.cell 0 1 rfl rfl
            have k1_0 : v.cell? ⟨w.heap.size, 0, none⟩ = some (I 0) := HC.out.cell 1 0 rfl rfl
            have k1_1 : v.cell? ⟨w.heap.size, 1, none⟩ = some (F a1) := HC.out.cell 1 1 rfl rfl
            have k1_2 : v.cell? ⟨w.heap.size, 2, none⟩ = some (F a0) := HC.out.cell 1 2 rfl rfl
            have k1_3 : v.cell? ⟨w.heap.size, 3, none⟩ = some (F 0) := HC.out.cell 1 3 rfl rfl
            have k1_4 : v.cell? ⟨w.heap.size, 4, none⟩ = some (F 0) := HC.out.cell 1 4 rfl rfl
            have k1_5 : v.cell? ⟨w.heap.size, 5, none⟩ = some (I 0) := HC.out.cell 1 5 rfl rfl
            have k1_6 : v.cell? ⟨w.heap.size, 6, none⟩ = some (I 0) := HC.out.cell 1 6 rfl rfl
            simp only [List.take_succ_cons, List.take_zero, List.drop_succ_cons, List.drop_zero]
            repeat still_step
            refine wpStill_nil ?_
            go_wp2_with fail
            clear k0_0 k0_1 k1_0 k1_1 k1_2 k1_3 k1_4 k1_5 k1_6 hz
            refine (step_is HX.out HS.out _).mono ?_
            rintro e v1 ⟨rfl, b1⟩
            have hd := HC.out.step b1
            have HD := Lib.hid hd
            clear hd b1 HB HC
            go_upto_region 12 with (refine wpList_store_row rfl 26 _ _ rfl g #[Value.bool true, I 0] rfl rfl 26 _ (HD.out.at 0 rfl) infoL rfl (by simp [Value.oneCell']) ?_)
            have he := HD.out.put 0 rfl #[.bool true, I 0]
            simp only [List.set_cons_succ, List.set_cons_zero] at he
            generalize World.setRow v1 g _ = v2 at he ⊢
            have HE := Lib.hid he
            clear he HD
            have k0_0 : v2.cell? ⟨g, 0, none⟩ = some (Value.bool true) := HE.out.cell 0 0 rfl rfl
            have k0_1 : v2.cell? ⟨g, 1, none⟩ = some (I 0) := HE.out.cell 0 1 rfl rfl
            go_wp2
            go_roundw
            case rel => exact ⟨q + 1, by omega, by go_num, HE.out⟩
            case measure => simp [intOf]; omega
          iterate 2
            · go_wp2
              go_roundw
              case rel => exact ⟨q + 1, by omega, by go_num, HB.out⟩
              case measure => simp [intOf]; omega
        · obtain rfl : q = len2 := by omega
          have k0_0 : wr.cell? ⟨g, 0, none⟩ = some (Value.bool true) := HB.out.cell 0 0 rfl rfl
          have k0_1 : wr.cell? ⟨g, 1, none⟩ = some (I 0) := HB.out.cell 0 1 rfl rfl
          go_wp2_with fail
          refine (Lvl.awake_any _).mono ?_
          rintro e u3 ⟨rfl, b3⟩
          go_wp2
          go_ret
          exact ⟨rfl, (HB.out.step b3).bel⟩

/-! ### the row's step -/
set_option maxRecDepth 100000 in
theorem lifted (os : Os) (started : os.Started) (H : Type) (enc : TypeId × Value → H) :
    ReturnsInHanded {} Try.checked os 5 .any (Rows.levelHoldsSpec.pre6 enc Try.prog Try.f5 Rows.levelHoldsRow.domain false) (Rows.levelHoldsSpec.post enc Try.prog Try.f5 false true false false) := by
  refine returnsInHanded_of_change (C := Try.checked) own started (by kernel_rfl) Try.func5
    (ChangeSpec.witness6 (enc := enc) (C := Try.checked) false ⟨#[], #[.float .f64 0, .float .f64 0, .slice none 0 0, .bool false], []⟩ 8 (by kernel_rfl) (by kernel_rfl) (by kernel_rfl) (by kernel_rfl)) ?_
  intro W base args ds gs before hval0 hW hcnd _
  have hval : ∀ (j : Nat) t v, Try.f5.params[j]? = some t → args[j]? = some v → Value.okWide Try.prog W .any base t v := hval0
  have hW' := hW
  obtain ⟨p, q, hA0, hV, rfl, hfz, hnd⟩ := hW
  have hA : DataW.TrodAll enc Try.prog W 0 (fun _ => true) true Try.f5.params.toList args.toList ds p := hA0
  rw [Try.params5] at hA hval
  obtain ⟨v0, vs0, d0, ds0, p0, q0, hargs, rfl, rfl, h0, r0⟩ := trodAll_cons hA
  obtain ⟨v1, vs1, d1, ds1, p1, q1, rfl, rfl, rfl, h1, r1⟩ := trodAll_cons r0
  obtain ⟨v2, vs2, d2, ds2, p2, q2, rfl, rfl, rfl, h2, r2⟩ := trodAll_cons r1
  obtain ⟨v3, vs3, d3, ds3, p3, q3, rfl, rfl, rfl, h3, r3⟩ := trodAll_cons r2
  obtain ⟨rfl, rfl, rfl⟩ := trodAll_nil r3
  obtain rfl : args = #[v0, v1, v2, v3] := by cases args; simp_all
  obtain ⟨rfl, rfl⟩ := trodVars_none hV
  obtain ⟨a0, rfl, rfl, rfl, w0⟩ := open_float Try.underlying22 (hval 0 22 v0 rfl rfl) h0
  obtain ⟨a1, rfl, rfl, rfl, w1⟩ := open_float Try.underlying22 (hval 1 22 v1 rfl rfl) h1
  obtain ⟨a2, len2, cap2, rfl⟩ := okWide_slice Try.underlying31 (hval 2 31 v2 rfl rfl)
  have k2 := h2
  have lt2 : ∀ x ∈ p2, x.block < W.heap.size := by obtain ⟨m, hm⟩ := k2; exact DataW.trod_lt m _ _ _ hm
  obtain ⟨z2, w2⟩ : ∃ zs, Recs.IsFlts W a2 len2 cap2 zs := by
    obtain ⟨fuel, hf⟩ := h2
    exact Recs.open_flts Try.underlying31 Try.underlying22 (by kernel_rfl) hf
  obtain ⟨a3, rfl, rfl, rfl⟩ := open_bool Try.underlying4 (hval 3 4 v3 rfl rfl) h3
  clear hA0 hval0
  refine (walk a0 a1 a2 len2 cap2 z2 a3 W w0 w1 w2).mono fun e W' ⟨he, bel⟩ => ?_
  subst he
  exact ⟨_, rfl, _, _, _, [], _, [], hW', trodAll_mk1 (shut_bool Try.underlying4 _), (trodAll_cons_mk (shut_float Try.underlying22 w0) (trodAll_cons_mk (shut_float Try.underlying22 w1) (trodAll_cons_mk (Below.trod laidOut (by kernel_rfl) (of_decide_eq_true (by kernel_rfl)) k2 bel lt2) (trodAll_cons_mk (shut_bool Try.underlying4 _) trodAll_mk0)))), rfl, bel.frame _, fun h => by cases h⟩

theorem over : Rows.levelHoldsRow.holds Try.pinned (OpenSpec.ofChange Rows.levelHoldsSpec) :=
  OpenClaim.holds_of_wide 5 Try.f5 rfl rfl rfl rfl rfl rfl rfl ⟨rfl, rfl, rfl, rfl, rfl⟩ rfl rfl rfl rfl rfl (by kernel_rfl) Try.func5 (by kernel_rfl)
    (of_decide_eq_true (by kernel_rfl)) (by unfold Func.isWrapper; first | (rw [if_pos (by decide +kernel)]; kernel_rfl) | (rw [if_neg (by decide +kernel)]; exact ⟨rfl, rfl⟩))
    (fun os started H enc _ => lifted os started H enc)

/-- the statement -/
theorem proved : Rows.LevelHoldsSaid :=
  over
#print axioms proved
end Go.Proofs.Ytolakjdikamffaa.levelHolds
