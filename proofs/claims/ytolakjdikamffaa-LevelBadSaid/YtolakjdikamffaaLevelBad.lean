/- LevelBad returns true at any sample, any number of it, either beginning and any sample behind: three bad ones in a row and the loop has failed, a good one ends it. No condition. -/
import Derived.Test.YtolakjdikamffaaRows
import Derived.Test.YtolakjdikamffaaLvW
import Derived.Deep.Cut
import Derived.Test.YtolakjdikamffaaBlk
import Derived.LoopTactic
import Derived.WalkKit
import Derived.WalkLawsBesides
import Derived.ProofKit
import Derived.OpenShut
import Derived.ShutString
import Derived.ChangeOld
import Derived.Below
namespace Go.Proofs.Ytolakjdikamffaa.levelBad
open Go.ChangeShapes Go.WideShapes Go.ChangeAt Go.RowKit
open Tab Lvl Go.Proofs.Fl
open Lvl (infoL)
set_option linter.unusedVariables false
set_option linter.unusedSimpArgs false

theorem own : ownKnob Try.prog.godebug = none := by kernel_rfl
theorem laidOut : laidOutB Try.prog = true := by kernel_rfl

theorem failed0 {b : Bool} : failed ⟨b, 0⟩ = false := rfl

/-! ### the walk -/
set_option maxRecDepth 10000 in
set_option maxHeartbeats 4000000 in
theorem walk (a0 : Nat) (a1 : Int) (a2 : Bool) (a3 : Nat) (w : World) (w0 : (Lit.float .f64 a0).wf = true) (w1 : (Lit.int .i64 a1).wf = true) (w3 : (Lit.float .f64 a3).wf = true) :
    Calls Try.prog 6 #[.float .f64 a0, .int .i64 a1, .bool a2, .float .f64 a3] w fun e w' => e = .returned (.bool true) ∧ Below w.heap.size w w' := by
  have hx0 : a0 < 18446744073709551616 := by simpa [Lit.wf] using w0
  have hx3 : a3 < 18446744073709551616 := by simpa [Lit.wf] using w3
  have A0 := Lib.hid hx0
  have A3 := Lib.hid hx3
  clear hx0 hx3 w0 w3
  obtain ⟨k, hk, hk12⟩ : ∃ k : Nat, a1 % 12 = (k : Int) ∧ k < 12 := ⟨(a1 % 12).toNat, by omega, by omega⟩
  go_enter Try.func6, Try.ntmps6
  go_upto_region 2 with (refine Row.wpList_store_new rfl 24 _ _ rfl w #[I 0, F 0, F 0, F 0, F 0, I 0, I 0] #[I 0, F 4617315517961601024, F 4611686018427387904, F 0, F 0, I 0, I 0] rfl rfl rfl infoD rfl (by simp [Value.oneCell']) ?_)
  have h0 := (Blk.Bks.nil w).alloc #[I 0, F 4617315517961601024, F 4611686018427387904, F 0, F 0, I 0, I 0] 24
  generalize World.alloc w _ = u at h0 ⊢
  go_upto_region 3 with fail
  have h1 := h0.alloc #[.bool a2, I 0] 26
  clear h0
  generalize World.alloc u _ = u2 at h1 ⊢
  generalize u.heap.size = g at h1 ⊢
  have H1 := Lib.hid h1
  clear h1
  go_wp2_with fail
  refine (Cnt.place_any _ _ _ (by decide) (by decide)).mono ?_
  rintro e w' ⟨rfl, rfl⟩
  rw [hk]
  clear hk
  go_wp2_with fail
  go_loopw [12] (fun i wr => ∃ (q : Nat) (b : Bool) (n : Int), q ≤ k ∧ i = .int .i64 q ∧ (bad a0 = true → b = a2 ∧ n = q) ∧ (bad a0 = false → n = 0) ∧ Blk.Bks w [(g, #[Value.bool b, I n], 26), (w.heap.size, #[I 0, F 4617315517961601024, F 4611686018427387904, F 0, F 0, I 0, I 0], 24)] wr) (fun i _ => k - (intOf i).toNat)
  case atStart => exact ⟨0, a2, 0, by omega, rfl, fun _ => ⟨rfl, rfl⟩, fun _ => rfl, H1.out⟩
  case round =>
    obtain ⟨q, b, n, hq, rfl, hbd, hgd, hB⟩ := hrel
    have HB := Lib.hid hB
    clear hB
    have BD := Lib.hid hbd
    have GD := Lib.hid hgd
    clear hbd hgd
    by_cases hlt : q < k
    · obtain ⟨b', n', hs⟩ : ∃ b' n', stp 4617315517961601024 4611686018427387904 ⟨b, n⟩ a0 = ⟨b', n'⟩ := ⟨_, _, rfl⟩
      have HS := Lib.hid hs
      have BD' : Hid (bad a0 = true → b' = a2 ∧ n' = ((q + 1 : Nat) : Int)) := Lib.hid (fun h => by
        rw [stp_bad h] at hs
        obtain ⟨rfl, rfl⟩ := BD.out h
        injection hs with e1 e2
        have e3 : Cnt.more (q : Int) = n' := e2
        exact ⟨e1.symm, by rw [← e3, Cnt.more_in (by omega) (by omega)]; rfl⟩)
      have GD' : Hid (bad a0 = false → n' = 0) := Lib.hid (fun h => by have := stp_good (on := 4617315517961601024) (off := 4611686018427387904) (s := ⟨b, n⟩) h; rw [hs] at this; exact this)
      clear hs BD GD
      have k0_0 : wr.cell? ⟨g, 0, none⟩ = some (Value.bool b) := HB.out.cell 0 0 rfl rfl
      have k0_1 : wr.cell? ⟨g, 1, none⟩ = some (I n) := HB.out.cell 0 1 rfl rfl
      have k1_0 : wr.cell? ⟨w.heap.size, 0, none⟩ = some (I 0) := HB.out.cell 1 0 rfl rfl
      have k1_1 : wr.cell? ⟨w.heap.size, 1, none⟩ = some (F 4617315517961601024) := HB.out.cell 1 1 rfl rfl
      have k1_2 : wr.cell? ⟨w.heap.size, 2, none⟩ = some (F 4611686018427387904) := HB.out.cell 1 2 rfl rfl
      have k1_3 : wr.cell? ⟨w.heap.size, 3, none⟩ = some (F 0) := HB.out.cell 1 3 rfl rfl
      have k1_4 : wr.cell? ⟨w.heap.size, 4, none⟩ = some (F 0) := HB.out.cell 1 4 rfl rfl
      have k1_5 : wr.cell? ⟨w.heap.size, 5, none⟩ = some (I 0) := HB.out.cell 1 5 rfl rfl
      have k1_6 : wr.cell? ⟨w.heap.size, 6, none⟩ = some (I 0) := HB.out.cell 1 6 rfl rfl
      go_wp2_with fail
      clear k0_0 k0_1 k1_0 k1_1 k1_2 k1_3 k1_4 k1_5 k1_6
      refine (step_is A0.out HS.out _).mono ?_
      rintro e v1 ⟨rfl, b1⟩
      have hd := HB.out.step b1
      have HD := Lib.hid hd
      clear hd b1 HB
      go_upto_region 6 with (refine wpList_store_row rfl 26 _ _ rfl g #[Value.bool b', I n'] rfl rfl 26 _ (HD.out.at 0 rfl) infoL rfl (by simp [Value.oneCell']) ?_)
      have he := HD.out.put 0 rfl #[.bool b', I n']
      simp only [List.set_cons_succ, List.set_cons_zero] at he
      generalize World.setRow v1 g _ = v2 at he ⊢
      have HE := Lib.hid he
      clear he HD
      go_wp2
      go_roundw
      case rel => exact ⟨q + 1, b', n', by omega, by go_num, BD'.out, GD'.out, HE.out⟩
      case measure => simp [intOf]; omega
    · obtain rfl : q = k := by omega
      clear hlt hq
      go_upto_region 8 with fail
      go_cut [13] from 14 (fun t13 wx => t13 = .bool (bad a0) ∧ Blk.Bks w [(g, #[Value.bool b, I n], 26), (w.heap.size, #[I 0, F 4617315517961601024, F 4611686018427387904, F 0, F 0, I 0, I 0], 24)] wx)
      case first =>
        cases hn : isn a0
        · have HN := Lib.hid hn
          have hA := Secs.ord_cases a0 M hn isnM
          have hC := Secs.ord_cases a0 mM hn isnmM
          rw [keyM] at hA
          rw [keymM] at hC
          have hbk : bad a0 = (decide (4696837146684686336 < key a0) || decide (key a0 < -4696837146684686336)) := by unfold bad; rw [hn, Bool.false_or]
          clear hn
          rcases hA with ⟨ka, hA⟩ | ⟨ka, hA⟩ | ⟨ka, hA⟩ <;> rcases hC with ⟨kc, hC⟩ | ⟨kc, hC⟩ | ⟨kc, hC⟩ <;> first
            | omega
            | (have HK : Hid (bad a0 = true) := Lib.hid (by rw [hbk]; simp; omega)
               clear ka kc hbk
               go_wp2_with (go_at_call 15; refine (rnan_f HN.out _).mono ?_; rintro e w' ⟨rfl, rfl⟩)
               go_meet
               case rel => exact ⟨by rw [HK.out], HB.out⟩)
            | (have HK : Hid (bad a0 = false) := Lib.hid (by rw [hbk]; simp; omega)
               clear ka kc hbk
               go_wp2_with (go_at_call 15; refine (rnan_f HN.out _).mono ?_; rintro e w' ⟨rfl, rfl⟩)
               go_meet
               case rel => exact ⟨by rw [HK.out], HB.out⟩)
        · have HN := Lib.hid hn
          have HK : Hid (bad a0 = true) := Lib.hid (by unfold bad; rw [hn]; rfl)
          clear hn
          go_wp2_with (go_at_call 15; refine (rnan_t HN.out _).mono ?_; rintro e w' ⟨rfl, rfl⟩)
          go_meet
          case rel => exact ⟨by rw [HK.out], HB.out⟩
      case rest =>
      obtain ⟨rfl, hcut2⟩ := hcut
      have HB := Lib.hid hcut2
      clear hcut2
      go_upto_region 9 with fail
      go_cut [13, 66] from 38 (fun t13 t66 wx => t66 = .bool false ∧ Blk.Bks w [(g, #[Value.bool b, I n], 26), (w.heap.size, #[I 0, F 4617315517961601024, F 4611686018427387904, F 0, F 0, I 0, I 0], 24)] wx)
      case first =>
        cases hb : bad a0
        · have hn := GD.out hb
          subst hn
          have k0_0 : wc.cell? ⟨g, 0, none⟩ = some (Value.bool b) := HB.out.cell 0 0 rfl rfl
          have k0_1 : wc.cell? ⟨g, 1, none⟩ = some (I 0) := HB.out.cell 0 1 rfl rfl
          go_wp2_with fail
          go_meet
          case rel => exact ⟨rfl, HB.out⟩
        · obtain ⟨rfl, rfl⟩ := BD.out hb
          have k0_0 : wc.cell? ⟨g, 0, none⟩ = some (Value.bool b) := HB.out.cell 0 0 rfl rfl
          have k0_1 : wc.cell? ⟨g, 1, none⟩ = some (I (q : Int)) := HB.out.cell 0 1 rfl rfl
          go_wp2_with fail
          refine (failed_is _).mono ?_
          rintro e v1 ⟨rfl, b1⟩
          rw [show failed ⟨b, (q : Int)⟩ = decide (3 ≤ (q : Int)) from rfl]
          have hd := HB.out.step b1
          have HB := Lib.hid hd
          clear hd b1
          have l0_0 : v1.cell? ⟨g, 0, none⟩ = some (Value.bool b) := HB.out.cell 0 0 rfl rfl
          have l0_1 : v1.cell? ⟨g, 1, none⟩ = some (I (q : Int)) := HB.out.cell 0 1 rfl rfl
          go_wp2_with fail
          go_meet
          case rel => exact ⟨rfl, HB.out⟩
      case rest =>
      obtain ⟨rfl, hcut2⟩ := hcut
      have HB := Lib.hid hcut2
      clear hcut2 BD GD
      rcases h0 : FloatKind.f64.format.order a3 13845191154443747328 with _ | _ | _ | _
      iterate 2
        · go_wp2_with fail
          refine (Lvl.awake_any _).mono ?_
          rintro e u9 ⟨rfl, b9⟩
          go_wp2
          go_ret
          exact ⟨rfl, (HB.out.step b9).bel⟩
      all_goals
        rcases h1 : FloatKind.f64.format.order a3 4621819117588971520 with _ | _ | _ | _
        · go_wp2_with fail
          refine (Lvl.awake_any _).mono ?_
          rintro e u9 ⟨rfl, b9⟩
          go_wp2
          go_ret
          exact ⟨rfl, (HB.out.step b9).bel⟩
        rotate_right
        · go_wp2_with fail
          refine (Lvl.awake_any _).mono ?_
          rintro e u9 ⟨rfl, b9⟩
          go_wp2
          go_ret
          exact ⟨rfl, (HB.out.step b9).bel⟩
        all_goals
          obtain ⟨nz, x10⟩ : isn a3 = false ∧ -4621819117588971520 ≤ key a3 := by rw [← keym10]; first | exact ⟨(ord_eq h0).1, Int.le_of_eq (ord_eq h0).2.2.symm⟩ | exact ⟨(ord_gt h0).1, Int.le_of_lt (ord_gt h0).2.2⟩
          have y10 : key a3 ≤ 4621819117588971520 := by rw [← key10]; first | exact Int.le_of_eq (ord_eq h1).2.2 | exact Int.le_of_lt (ord_lt h1).2.2
          rcases Secs.ord_cases a3 4617315517961601024 nz isn5 with ⟨k5, h5⟩ | ⟨k5, h5⟩ | ⟨k5, h5⟩ <;> rcases Secs.ord_cases a3 4611686018427387904 nz isn2 with ⟨k2, h2⟩ | ⟨k2, h2⟩ | ⟨k2, h2⟩ <;> rw [key5] at k5 <;> rw [key2] at k2 <;> first
            | omega
            | (have HS := Lib.hid (show stp 4617315517961601024 4611686018427387904 ⟨b, n⟩ a3 = ⟨false, 0⟩ from by rw [stp_key nz (by omega) (by omega) isn5 isn2, key5, key2, if_neg (by omega), if_pos (by omega)])
               clear nz x10 y10 k5 k2
               have k0_0 : wc.cell? ⟨g, 0, none⟩ = some (Value.bool b) := HB.out.cell 0 0 rfl rfl
               have k0_1 : wc.cell? ⟨g, 1, none⟩ = some (I n) := HB.out.cell 0 1 rfl rfl
               have k1_0 : wc.cell? ⟨w.heap.size, 0, none⟩ = some (I 0) := HB.out.cell 1 0 rfl rfl
               have k1_1 : wc.cell? ⟨w.heap.size, 1, none⟩ = some (F 4617315517961601024) := HB.out.cell 1 1 rfl rfl
               have k1_2 : wc.cell? ⟨w.heap.size, 2, none⟩ = some (F 4611686018427387904) := HB.out.cell 1 2 rfl rfl
               have k1_3 : wc.cell? ⟨w.heap.size, 3, none⟩ = some (F 0) := HB.out.cell 1 3 rfl rfl
               have k1_4 : wc.cell? ⟨w.heap.size, 4, none⟩ = some (F 0) := HB.out.cell 1 4 rfl rfl
               have k1_5 : wc.cell? ⟨w.heap.size, 5, none⟩ = some (I 0) := HB.out.cell 1 5 rfl rfl
               have k1_6 : wc.cell? ⟨w.heap.size, 6, none⟩ = some (I 0) := HB.out.cell 1 6 rfl rfl
               go_wp2_with fail
               clear k0_0 k0_1 k1_0 k1_1 k1_2 k1_3 k1_4 k1_5 k1_6
               refine (step_is A3.out HS.out _).mono ?_
               rintro e v1 ⟨rfl, b1⟩
               have hd := HB.out.step b1
               have HD := Lib.hid hd
               clear hd b1 HB HS
               go_upto_region 14 with (refine wpList_store_row rfl 26 _ _ rfl g #[Value.bool false, I 0] rfl rfl 26 _ (HD.out.at 0 rfl) infoL rfl (by simp [Value.oneCell']) ?_)
               have he := HD.out.put 0 rfl #[.bool false, I 0]
               simp only [List.set_cons_succ, List.set_cons_zero] at he
               generalize World.setRow v1 g _ = v2 at he ⊢
               have HE := Lib.hid he
               clear he HD
               have k0_0 : v2.cell? ⟨g, 0, none⟩ = some (Value.bool false) := HE.out.cell 0 0 rfl rfl
               have k0_1 : v2.cell? ⟨g, 1, none⟩ = some (I 0) := HE.out.cell 0 1 rfl rfl
               go_wp2_with fail
               refine (failed_is _).mono ?_
               rintro e v3 ⟨rfl, b3⟩
               rw [failed0]
               have hf := HE.out.step b3
               have HF := Lib.hid hf
               clear hf b3 k0_0 k0_1
               have k0_0 : v3.cell? ⟨g, 0, none⟩ = some (Value.bool false) := HF.out.cell 0 0 rfl rfl
               have k0_1 : v3.cell? ⟨g, 1, none⟩ = some (I 0) := HF.out.cell 0 1 rfl rfl
               go_wp2_with fail
               refine (Lvl.awake_any _).mono ?_
               rintro e u9 ⟨rfl, b9⟩
               go_wp2
               go_ret
               exact ⟨rfl, (HF.out.step b9).bel⟩)
            | (have HS := Lib.hid (show stp 4617315517961601024 4611686018427387904 ⟨b, n⟩ a3 = ⟨b, 0⟩ from by rw [stp_key nz (by omega) (by omega) isn5 isn2, key5, key2, if_neg (by omega), if_neg (by omega)])
               clear nz x10 y10 k5 k2
               have k0_0 : wc.cell? ⟨g, 0, none⟩ = some (Value.bool b) := HB.out.cell 0 0 rfl rfl
               have k0_1 : wc.cell? ⟨g, 1, none⟩ = some (I n) := HB.out.cell 0 1 rfl rfl
               have k1_0 : wc.cell? ⟨w.heap.size, 0, none⟩ = some (I 0) := HB.out.cell 1 0 rfl rfl
               have k1_1 : wc.cell? ⟨w.heap.size, 1, none⟩ = some (F 4617315517961601024) := HB.out.cell 1 1 rfl rfl
               have k1_2 : wc.cell? ⟨w.heap.size, 2, none⟩ = some (F 4611686018427387904) := HB.out.cell 1 2 rfl rfl
               have k1_3 : wc.cell? ⟨w.heap.size, 3, none⟩ = some (F 0) := HB.out.cell 1 3 rfl rfl
               have k1_4 : wc.cell? ⟨w.heap.size, 4, none⟩ = some (F 0) := HB.out.cell 1 4 rfl rfl
               have k1_5 : wc.cell? ⟨w.heap.size, 5, none⟩ = some (I 0) := HB.out.cell 1 5 rfl rfl
               have k1_6 : wc.cell? ⟨w.heap.size, 6, none⟩ = some (I 0) := HB.out.cell 1 6 rfl rfl
               go_wp2_with fail
               clear k0_0 k0_1 k1_0 k1_1 k1_2 k1_3 k1_4 k1_5 k1_6
               refine (step_is A3.out HS.out _).mono ?_
               rintro e v1 ⟨rfl, b1⟩
               have hd := HB.out.step b1
               have HD := Lib.hid hd
               clear hd b1 HB HS
               go_upto_region 14 with (refine wpList_store_row rfl 26 _ _ rfl g #[Value.bool b, I 0] rfl rfl 26 _ (HD.out.at 0 rfl) infoL rfl (by simp [Value.oneCell']) ?_)
               have he := HD.out.put 0 rfl #[.bool b, I 0]
               simp only [List.set_cons_succ, List.set_cons_zero] at he
               generalize World.setRow v1 g _ = v2 at he ⊢
               have HE := Lib.hid he
               clear he HD
               have k0_0 : v2.cell? ⟨g, 0, none⟩ = some (Value.bool b) := HE.out.cell 0 0 rfl rfl
               have k0_1 : v2.cell? ⟨g, 1, none⟩ = some (I 0) := HE.out.cell 0 1 rfl rfl
               go_wp2_with fail
               refine (failed_is _).mono ?_
               rintro e v3 ⟨rfl, b3⟩
               rw [failed0]
               have hf := HE.out.step b3
               have HF := Lib.hid hf
               clear hf b3 k0_0 k0_1
               have k0_0 : v3.cell? ⟨g, 0, none⟩ = some (Value.bool b) := HF.out.cell 0 0 rfl rfl
               have k0_1 : v3.cell? ⟨g, 1, none⟩ = some (I 0) := HF.out.cell 0 1 rfl rfl
               go_wp2_with fail
               refine (Lvl.awake_any _).mono ?_
               rintro e u9 ⟨rfl, b9⟩
               go_wp2
               go_ret
               exact ⟨rfl, (HF.out.step b9).bel⟩)
            | (have HS := Lib.hid (show stp 4617315517961601024 4611686018427387904 ⟨b, n⟩ a3 = ⟨true, 0⟩ from by rw [stp_key nz (by omega) (by omega) isn5 isn2, key5, key2, if_pos (by omega)])
               clear nz x10 y10 k5 k2
               have k0_0 : wc.cell? ⟨g, 0, none⟩ = some (Value.bool b) := HB.out.cell 0 0 rfl rfl
               have k0_1 : wc.cell? ⟨g, 1, none⟩ = some (I n) := HB.out.cell 0 1 rfl rfl
               have k1_0 : wc.cell? ⟨w.heap.size, 0, none⟩ = some (I 0) := HB.out.cell 1 0 rfl rfl
               have k1_1 : wc.cell? ⟨w.heap.size, 1, none⟩ = some (F 4617315517961601024) := HB.out.cell 1 1 rfl rfl
               have k1_2 : wc.cell? ⟨w.heap.size, 2, none⟩ = some (F 4611686018427387904) := HB.out.cell 1 2 rfl rfl
               have k1_3 : wc.cell? ⟨w.heap.size, 3, none⟩ = some (F 0) := HB.out.cell 1 3 rfl rfl
               have k1_4 : wc.cell? ⟨w.heap.size, 4, none⟩ = some (F 0) := HB.out.cell 1 4 rfl rfl
               have k1_5 : wc.cell? ⟨w.heap.size, 5, none⟩ = some (I 0) := HB.out.cell 1 5 rfl rfl
               have k1_6 : wc.cell? ⟨w.heap.size, 6, none⟩ = some (I 0) := HB.out.cell 1 6 rfl rfl
               go_wp2_with fail
               clear k0_0 k0_1 k1_0 k1_1 k1_2 k1_3 k1_4 k1_5 k1_6
               refine (step_is A3.out HS.out _).mono ?_
               rintro e v1 ⟨rfl, b1⟩
               have hd := HB.out.step b1
               have HD := Lib.hid hd
               clear hd b1 HB HS
               go_upto_region 14 with (refine wpList_store_row rfl 26 _ _ rfl g #[Value.bool true, I 0] rfl rfl 26 _ (HD.out.at 0 rfl) infoL rfl (by simp [Value.oneCell']) ?_)
               have he := HD.out.put 0 rfl #[.bool true, I 0]
               simp only [List.set_cons_succ, List.set_cons_zero] at he
               generalize World.setRow v1 g _ = v2 at he ⊢
               have HE := Lib.hid he
               clear he HD
               have k0_0 : v2.cell? ⟨g, 0, none⟩ = some (Value.bool true) := HE.out.cell 0 0 rfl rfl
               have k0_1 : v2.cell? ⟨g, 1, none⟩ = some (I 0) := HE.out.cell 0 1 rfl rfl
               go_wp2_with fail
               refine (failed_is _).mono ?_
               rintro e v3 ⟨rfl, b3⟩
               rw [failed0]
               have hf := HE.out.step b3
               have HF := Lib.hid hf
               clear hf b3 k0_0 k0_1
               have k0_0 : v3.cell? ⟨g, 0, none⟩ = some (Value.bool true) := HF.out.cell 0 0 rfl rfl
               have k0_1 : v3.cell? ⟨g, 1, none⟩ = some (I 0) := HF.out.cell 0 1 rfl rfl
               go_wp2_with fail
               refine (Lvl.awake_any _).mono ?_
               rintro e u9 ⟨rfl, b9⟩
               go_wp2
               go_ret
               exact ⟨rfl, (HF.out.step b9).bel⟩)

/-! ### the row's step -/
set_option maxRecDepth 100000 in
theorem lifted (os : Os) (started : os.Started) (H : Type) (enc : TypeId × Value → H) :
    ReturnsInHanded {} Try.checked os 6 .any (Rows.levelBadSpec.pre6 enc Try.prog Try.f6 Rows.levelBadRow.domain false) (Rows.levelBadSpec.post enc Try.prog Try.f6 false true false false) := by
  refine returnsInHanded_of_change (C := Try.checked) own started (by kernel_rfl) Try.func6
    (ChangeSpec.witness6 (enc := enc) (C := Try.checked) false ⟨#[], #[.float .f64 0, .int .i64 0, .bool false, .float .f64 0], []⟩ 8 (by kernel_rfl) (by kernel_rfl) (by kernel_rfl) (by kernel_rfl)) ?_
  intro W base args ds gs before hval0 hW hcnd _
  have hval : ∀ (j : Nat) t v, Try.f6.params[j]? = some t → args[j]? = some v → Value.okWide Try.prog W .any base t v := hval0
  have hW' := hW
  obtain ⟨p, q, hA0, hV, rfl, hfz, hnd⟩ := hW
  have hA : DataW.TrodAll enc Try.prog W 0 (fun _ => true) true Try.f6.params.toList args.toList ds p := hA0
  rw [Try.params6] at hA hval
  obtain ⟨v0, vs0, d0, ds0, p0, q0, hargs, rfl, rfl, h0, r0⟩ := trodAll_cons hA
  obtain ⟨v1, vs1, d1, ds1, p1, q1, rfl, rfl, rfl, h1, r1⟩ := trodAll_cons r0
  obtain ⟨v2, vs2, d2, ds2, p2, q2, rfl, rfl, rfl, h2, r2⟩ := trodAll_cons r1
  obtain ⟨v3, vs3, d3, ds3, p3, q3, rfl, rfl, rfl, h3, r3⟩ := trodAll_cons r2
  obtain ⟨rfl, rfl, rfl⟩ := trodAll_nil r3
  obtain rfl : args = #[v0, v1, v2, v3] := by cases args; simp_all
  obtain ⟨rfl, rfl⟩ := trodVars_none hV
  obtain ⟨a0, rfl, rfl, rfl, w0⟩ := open_float Try.underlying22 (hval 0 22 v0 rfl rfl) h0
  obtain ⟨a1, rfl, rfl, rfl, w1⟩ := open_int Try.underlying3 (hval 1 3 v1 rfl rfl) h1
  obtain ⟨a2, rfl, rfl, rfl⟩ := open_bool Try.underlying4 (hval 2 4 v2 rfl rfl) h2
  obtain ⟨a3, rfl, rfl, rfl, w3⟩ := open_float Try.underlying22 (hval 3 22 v3 rfl rfl) h3
  clear hA0 hval0
  simp only [List.append_nil] at hW'
  refine (walk a0 a1 a2 a3 W w0 w1 w3).mono fun e W' ⟨he, bel⟩ => ?_
  subst he
  exact ⟨_, rfl, _, _, _, [], _, [], hW', trodAll_mk1 (shut_bool Try.underlying4 _), (trodAll_cons_mk (shut_float Try.underlying22 w0) (trodAll_cons_mk (shut_int Try.underlying3 w1) (trodAll_cons_mk (shut_bool Try.underlying4 _) (trodAll_cons_mk (shut_float Try.underlying22 w3) trodAll_mk0)))), rfl, bel.frame _, fun h => by cases h⟩

theorem over : Rows.levelBadRow.holds Try.pinned (OpenSpec.ofChange Rows.levelBadSpec) :=
  OpenClaim.holds_of_wide 6 Try.f6 rfl rfl rfl rfl rfl rfl rfl ⟨rfl, rfl, rfl, rfl, rfl⟩ rfl rfl rfl rfl rfl (by kernel_rfl) Try.func6 (by kernel_rfl)
    (of_decide_eq_true (by kernel_rfl)) (by unfold Func.isWrapper; first | (rw [if_pos (by decide +kernel)]; kernel_rfl) | (rw [if_neg (by decide +kernel)]; exact ⟨rfl, rfl⟩))
    (fun os started H enc _ => lifted os started H enc)

/-- the statement -/
theorem proved : Rows.LevelBadSaid :=
  over
#print axioms proved
end Go.Proofs.Ytolakjdikamffaa.levelBad
