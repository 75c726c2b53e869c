/- DelayLong returns true at any times: what comes for ever is told from the tick behind the delay on, and what goes is told for the extension's ticks. No condition. -/
import Derived.Test.YtfgjolggopgedaaRows
import Derived.Test.YtfgjolggopgedaaDlyS
import Derived.LoopTactic
import Derived.WalkKit
import Derived.WalkLawsBesides
import Derived.ProofKit
import Derived.OpenShut
import Derived.ShutString
import Derived.ChangeOld
import Derived.Below
namespace Go.Proofs.Ytfgjolggopgedaa.delayLong
open Go.ChangeShapes Go.WideShapes Go.ChangeAt Go.RowKit
open Tab Dly
set_option linter.unusedVariables false
set_option linter.unusedSimpArgs false

theorem own : ownKnob Try.prog.godebug = none := by kernel_rfl
theorem laidOut : laidOutB Try.prog = true := by kernel_rfl

theorem up {d e k : Int} (d0 : 0 ≤ d) (d1 : d ≤ 100) (e0 : 0 ≤ e) (e1 : e ≤ 100) (k0 : 1 ≤ k) (k1 : k ≤ 200) {t : Int} {o : Bool} (ht : t = if d < k - 1 then e else 0) (ho : o = decide (d < k - 1)) :
    tmr d e ⟨k - 1, t, o⟩ true = ⟨k, if d < k then e else 0, decide (d < k)⟩ := by
  have hh : (if true = true then Cnt.more (k - 1) else 0) = k := by rw [if_pos rfl, Cnt.more_in (by omega) (by omega)]; omega
  have hd : Cnt.ct d 0 9999 = d := Cnt.ct_in d0 (by omega)
  have he : Cnt.ct e 0 9999 = e := Cnt.ct_in e0 (by omega)
  by_cases h : d < k
  · rw [tmr_hi hh (by rw [hd]; exact h), if_pos h, he, decide_eq_true h]
  · have ho' : o = false := by rw [ho]; exact decide_eq_false (by omega)
    subst ho'
    rw [tmr_lo (ft := 0) (fo := false) hh (by rw [hd]; exact h) (by unfold fd; rw [if_neg (by simp)]), if_neg h, decide_eq_false h]
theorem down {d e k h : Int} (d0 : 0 ≤ d) (d1 : d ≤ 100) (e0 : 0 ≤ e) (e1 : e ≤ 100) (k0 : 1 ≤ k) (k1 : k ≤ 200) {t : Int} {o : Bool} (ht : t = if k - 1 ≤ e then e - (k - 1) else 0) (ho : o = decide (k - 1 ≤ e)) :
    tmr d e ⟨h, t, o⟩ false = ⟨0, if k ≤ e then e - k else 0, decide (k ≤ e)⟩ := by
  have hd : Cnt.ct d 0 9999 = d := Cnt.ct_in d0 (by omega)
  have hn : ¬ Cnt.ct d 0 9999 < 0 := by rw [hd]; omega
  by_cases hq : k - 1 ≤ e
  · rw [if_pos hq] at ht
    rw [decide_eq_true hq] at ho
    subst ho
    have htt : Cnt.ct t 0 9999 = t := Cnt.ct_in (by omega) (by omega)
    by_cases h2 : k ≤ e
    · rw [tmr_lo (ft := t - 1) (fo := true) rfl hn (by unfold fd; rw [htt, if_pos ⟨rfl, by omega⟩]), if_pos h2, decide_eq_true h2, ht, show e - (k - 1) - 1 = e - k by omega]; rfl
    · rw [tmr_lo (ft := 0) (fo := false) rfl hn (by unfold fd; rw [htt, if_neg (by simp; omega)]), if_neg h2, decide_eq_false h2]; rfl
  · rw [decide_eq_false hq] at ho
    subst ho
    have h2 : ¬ k ≤ e := by omega
    rw [tmr_lo (ft := 0) (fo := false) rfl hn (by unfold fd; rw [if_neg (by simp)]), if_neg h2, decide_eq_false h2]; rfl

/-! ### the walk -/
set_option maxHeartbeats 4000000 in
theorem walk (a0 : Int) (a1 : Int) (a2 : Int) (w : World) (w0 : (Lit.int .i64 a0).wf = true) (w1 : (Lit.int .i64 a1).wf = true) (w2 : (Lit.int .i64 a2).wf = true) :
    Calls Try.prog 6 #[.int .i64 a0, .int .i64 a1, .int .i64 a2] w fun e w' => e = .returned (.bool true) ∧ Below w.heap.size w w' := by
  obtain ⟨d, hd⟩ : ∃ d, a0 % 40 = d := ⟨_, rfl⟩
  obtain ⟨e, he⟩ : ∃ e, a1 % 40 = e := ⟨_, rfl⟩
  obtain ⟨m, hm⟩ : ∃ m, a2 % 40 = m := ⟨_, rfl⟩
  have d0 : 0 ≤ d := by omega
  have d1 : d < 40 := by omega
  have e0 : 0 ≤ e := by omega
  have e1 : e < 40 := by omega
  have m0 : 0 ≤ m := by omega
  have m1 : m < 40 := by omega
  have HD0 := Lib.hid hd
  have HE0 := Lib.hid he
  have HM0 := Lib.hid hm
  clear hd he hm
  go_enter Try.func6, Try.ntmps6
  go_upto_region 4 with (first | (go_at_call 10; with_reducible refine (Cnt.place_any a0 40 _ (by decide) (by decide)).mono ?_; rintro e w' ⟨rfl, rfl⟩; rw [HD0.out]) | (go_at_call 10; with_reducible refine (Cnt.place_any a1 40 _ (by decide) (by decide)).mono ?_; rintro e w' ⟨rfl, rfl⟩; rw [HE0.out]) | (go_at_call 10; with_reducible refine (Cnt.place_any a2 40 _ (by decide) (by decide)).mono ?_; rintro e w' ⟨rfl, rfl⟩; rw [HM0.out]))
  have h0 := (Blk.Bks.nil w).alloc #[I 0, I 0, .bool false] 23
  go_upto_region 5 with fail
  generalize World.alloc w _ = u1 at h0 ⊢
  generalize w.heap.size = gs at h0 ⊢
  have H0 := Lib.hid h0
  clear h0
  go_wp2_with fail
  go_loopw [9] (fun i wr => ∃ (k t : Int) (o : Bool), i = .int .i64 k ∧ 1 ≤ k ∧ k ≤ d + 1 + m + 1 ∧ Hid (t = if d < k - 1 then e else 0) ∧ Hid (o = decide (d < k - 1)) ∧ Blk.Bks w [(gs, #[I (k - 1), I t, Value.bool o], 23)] wr) (fun i _ => (d + 1 + m + 1 - intOf i).toNat)
  case atStart => exact ⟨1, 0, false, rfl, by omega, by omega, Lib.hid (by rw [if_neg (by omega)]), Lib.hid (decide_eq_false (by omega)).symm, H0.out⟩
  case round =>
    obtain ⟨k, t, o, rfl, k0, k1, HT, HO, hB⟩ := hrel
    have HB := Lib.hid hB
    clear hB
    by_cases hlt : k ≤ d + 1 + m
    · have HU := up (d := d) (e := e) d0 (by omega) e0 (by omega) k0 (by omega) HT.out HO.out
      by_cases hdk : d < k
      · have hs := HU
        rw [if_pos hdk, decide_eq_true hdk] at hs
        have HS := Lib.hid hs
        clear hs HU HT HO
        have k0_0 : wr.cell? ⟨gs, 0, none⟩ = some (I (k - 1)) := HB.out.cell 0 0 rfl rfl
        have k0_1 : wr.cell? ⟨gs, 1, none⟩ = some (I t) := HB.out.cell 0 1 rfl rfl
        have k0_2 : wr.cell? ⟨gs, 2, none⟩ = some (Value.bool o) := HB.out.cell 0 2 rfl rfl
        go_wp2_with fail
        clear k0_0 k0_1 k0_2
        refine (step_is HS.out _).mono ?_
        rintro e' vc ⟨rfl, bc⟩
        have hd := HB.out.step bc
        have HD := Lib.hid hd
        clear hd bc HB
        go_upto_region 9 with (refine wpList_store_row rfl 23 _ _ rfl gs #[I k, I e, Value.bool true] rfl rfl 23 _ (HD.out.at 0 rfl) infoT rfl (by simp [Value.oneCell']) ?_)
        have he := HD.out.put 0 rfl #[I k, I e, Value.bool true]
        simp only [List.set_cons_succ, List.set_cons_zero] at he
        generalize World.setRow vc _ _ = v1 at he ⊢
        have HE := Lib.hid he
        clear he HD
        have k0_0 : v1.cell? ⟨gs, 0, none⟩ = some (I k) := HE.out.cell 0 0 rfl rfl
        have k0_1 : v1.cell? ⟨gs, 1, none⟩ = some (I e) := HE.out.cell 0 1 rfl rfl
        have k0_2 : v1.cell? ⟨gs, 2, none⟩ = some (Value.bool true) := HE.out.cell 0 2 rfl rfl
        go_wp2
        go_roundw
        case rel => exact ⟨k + 1, e, true, rfl, by omega, by omega, Lib.hid (by rw [show k + 1 - 1 = k by omega]; rw [if_pos (by omega)]), Lib.hid (by rw [show k + 1 - 1 = k by omega]; exact (decide_eq_true (by omega)).symm), by rw [show k + 1 - 1 = k by omega]; exact HE.out⟩
        case measure => simp [intOf]; omega
      · have hs := HU
        rw [if_neg hdk, decide_eq_false hdk] at hs
        have HS := Lib.hid hs
        clear hs HU HT HO
        have k0_0 : wr.cell? ⟨gs, 0, none⟩ = some (I (k - 1)) := HB.out.cell 0 0 rfl rfl
        have k0_1 : wr.cell? ⟨gs, 1, none⟩ = some (I t) := HB.out.cell 0 1 rfl rfl
        have k0_2 : wr.cell? ⟨gs, 2, none⟩ = some (Value.bool o) := HB.out.cell 0 2 rfl rfl
        go_wp2_with fail
        clear k0_0 k0_1 k0_2
        refine (step_is HS.out _).mono ?_
        rintro e' vc ⟨rfl, bc⟩
        have hd := HB.out.step bc
        have HD := Lib.hid hd
        clear hd bc HB
        go_upto_region 9 with (refine wpList_store_row rfl 23 _ _ rfl gs #[I k, I 0, Value.bool false] rfl rfl 23 _ (HD.out.at 0 rfl) infoT rfl (by simp [Value.oneCell']) ?_)
        have he := HD.out.put 0 rfl #[I k, I 0, Value.bool false]
        simp only [List.set_cons_succ, List.set_cons_zero] at he
        generalize World.setRow vc _ _ = v1 at he ⊢
        have HE := Lib.hid he
        clear he HD
        have k0_0 : v1.cell? ⟨gs, 0, none⟩ = some (I k) := HE.out.cell 0 0 rfl rfl
        have k0_1 : v1.cell? ⟨gs, 1, none⟩ = some (I 0) := HE.out.cell 0 1 rfl rfl
        have k0_2 : v1.cell? ⟨gs, 2, none⟩ = some (Value.bool false) := HE.out.cell 0 2 rfl rfl
        go_wp2
        go_roundw
        case rel => exact ⟨k + 1, 0, false, rfl, by omega, by omega, Lib.hid (by rw [show k + 1 - 1 = k by omega]; rw [if_neg (by omega)]), Lib.hid (by rw [show k + 1 - 1 = k by omega]; exact (decide_eq_false (by omega)).symm), by rw [show k + 1 - 1 = k by omega]; exact HE.out⟩
        case measure => simp [intOf]; omega
    · have hk : k = d + 1 + m + 1 := by omega
      have ht := HT.out
      have ho := HO.out
      rw [if_pos (by omega)] at ht
      rw [decide_eq_true (by omega)] at ho
      rw [ht, ho, hk, show d + 1 + m + 1 - 1 = d + 1 + m by omega] at HB
      rw [hk]
      clear HT HO k0 k1 ht ho hlt hk t o
      clear k
      go_wp2_with fail
      go_loopw [10] (fun i wr => ∃ (k hh t : Int) (o : Bool), i = .int .i64 k ∧ 1 ≤ k ∧ k ≤ e + 3 ∧ Hid (t = if k - 1 ≤ e then e - (k - 1) else 0) ∧ Hid (o = decide (k - 1 ≤ e)) ∧ Hid (2 ≤ k → hh = 0) ∧ Blk.Bks w [(gs, #[I hh, I t, Value.bool o], 23)] wr) (fun i _ => (e + 3 - intOf i).toNat)
      case atStart => exact ⟨1, d + 1 + m, e, true, rfl, by omega, by omega, Lib.hid (by rw [if_pos (by omega)]; omega), Lib.hid (decide_eq_true (by omega)).symm, Lib.hid (fun h => by omega), HB.out⟩
      case round =>
        clear HB
        obtain ⟨k, hh, t, o, rfl, k0, k1, HT, HO, HH, hB⟩ := hrel
        have HB := Lib.hid hB
        clear hB
        by_cases hlt : k ≤ e + 2
        · have HU := down (d := d) (e := e) (h := hh) d0 (by omega) e0 (by omega) k0 (by omega) HT.out HO.out
          clear HH
          by_cases hdk : k ≤ e
          · have hs := HU
            rw [if_pos hdk, decide_eq_true hdk] at hs
            have HS := Lib.hid hs
            clear hs HU HT HO
            have k0_0 : wr.cell? ⟨gs, 0, none⟩ = some (I hh) := HB.out.cell 0 0 rfl rfl
            have k0_1 : wr.cell? ⟨gs, 1, none⟩ = some (I t) := HB.out.cell 0 1 rfl rfl
            have k0_2 : wr.cell? ⟨gs, 2, none⟩ = some (Value.bool o) := HB.out.cell 0 2 rfl rfl
            go_wp2_with fail
            clear k0_0 k0_1 k0_2
            refine (step_is HS.out _).mono ?_
            rintro e' vc ⟨rfl, bc⟩
            have hd := HB.out.step bc
            have HD := Lib.hid hd
            clear hd bc HB
            go_upto_region 15 with (refine wpList_store_row rfl 23 _ _ rfl gs #[I 0, I (e - k), Value.bool true] rfl rfl 23 _ (HD.out.at 0 rfl) infoT rfl (by simp [Value.oneCell']) ?_)
            have he := HD.out.put 0 rfl #[I 0, I (e - k), Value.bool true]
            simp only [List.set_cons_succ, List.set_cons_zero] at he
            generalize World.setRow vc _ _ = v1 at he ⊢
            have HE := Lib.hid he
            clear he HD
            have k0_0 : v1.cell? ⟨gs, 0, none⟩ = some (I 0) := HE.out.cell 0 0 rfl rfl
            have k0_1 : v1.cell? ⟨gs, 1, none⟩ = some (I (e - k)) := HE.out.cell 0 1 rfl rfl
            have k0_2 : v1.cell? ⟨gs, 2, none⟩ = some (Value.bool true) := HE.out.cell 0 2 rfl rfl
            go_wp2
            go_roundw
            case rel => exact ⟨k + 1, 0, (e - k), true, rfl, by omega, by omega, Lib.hid (by rw [show k + 1 - 1 = k by omega]; rw [if_pos (by omega)]), Lib.hid (by rw [show k + 1 - 1 = k by omega]; exact (decide_eq_true (by omega)).symm), Lib.hid (fun _ => rfl), HE.out⟩
            case measure => simp [intOf]; omega
          · have hs := HU
            rw [if_neg hdk, decide_eq_false hdk] at hs
            have HS := Lib.hid hs
            clear hs HU HT HO
            have k0_0 : wr.cell? ⟨gs, 0, none⟩ = some (I hh) := HB.out.cell 0 0 rfl rfl
            have k0_1 : wr.cell? ⟨gs, 1, none⟩ = some (I t) := HB.out.cell 0 1 rfl rfl
            have k0_2 : wr.cell? ⟨gs, 2, none⟩ = some (Value.bool o) := HB.out.cell 0 2 rfl rfl
            go_wp2_with fail
            clear k0_0 k0_1 k0_2
            refine (step_is HS.out _).mono ?_
            rintro e' vc ⟨rfl, bc⟩
            have hd := HB.out.step bc
            have HD := Lib.hid hd
            clear hd bc HB
            go_upto_region 15 with (refine wpList_store_row rfl 23 _ _ rfl gs #[I 0, I 0, Value.bool false] rfl rfl 23 _ (HD.out.at 0 rfl) infoT rfl (by simp [Value.oneCell']) ?_)
            have he := HD.out.put 0 rfl #[I 0, I 0, Value.bool false]
            simp only [List.set_cons_succ, List.set_cons_zero] at he
            generalize World.setRow vc _ _ = v1 at he ⊢
            have HE := Lib.hid he
            clear he HD
            have k0_0 : v1.cell? ⟨gs, 0, none⟩ = some (I 0) := HE.out.cell 0 0 rfl rfl
            have k0_1 : v1.cell? ⟨gs, 1, none⟩ = some (I 0) := HE.out.cell 0 1 rfl rfl
            have k0_2 : v1.cell? ⟨gs, 2, none⟩ = some (Value.bool false) := HE.out.cell 0 2 rfl rfl
            go_wp2
            go_roundw
            case rel => exact ⟨k + 1, 0, 0, false, rfl, by omega, by omega, Lib.hid (by rw [show k + 1 - 1 = k by omega]; rw [if_neg (by omega)]), Lib.hid (by rw [show k + 1 - 1 = k by omega]; exact (decide_eq_false (by omega)).symm), Lib.hid (fun _ => rfl), HE.out⟩
            case measure => simp [intOf]; omega
        · have hk : k = e + 3 := by omega
          have ht := HT.out
          have ho := HO.out
          have hz := HH.out (by omega)
          rw [if_neg (by omega)] at ht
          rw [decide_eq_false (by omega)] at ho
          rw [ht, ho, hz] at HB
          clear HT HO HH ht ho hz t o hh
          have k0_0 : wr.cell? ⟨gs, 0, none⟩ = some (I 0) := HB.out.cell 0 0 rfl rfl
          have k0_1 : wr.cell? ⟨gs, 1, none⟩ = some (I 0) := HB.out.cell 0 1 rfl rfl
          have k0_2 : wr.cell? ⟨gs, 2, none⟩ = some (Value.bool false) := HB.out.cell 0 2 rfl rfl
          go_wp2_with fail
          refine (Dly.awake_any _).mono ?_
          rintro e u9 ⟨rfl, b9⟩
          go_wp2
          go_ret
          exact ⟨rfl, (HB.out.step b9).bel⟩

/-! ### the row's step -/
set_option maxRecDepth 100000 in
theorem lifted (os : Os) (started : os.Started) (H : Type) (enc : TypeId × Value → H) :
    ReturnsInHanded {} Try.checked os 6 .any (Rows.delayLongSpec.pre6 enc Try.prog Try.f6 Rows.delayLongRow.domain false) (Rows.delayLongSpec.post enc Try.prog Try.f6 false true false false) := by
  refine returnsInHanded_of_change (C := Try.checked) own started (by kernel_rfl) Try.func6
    (ChangeSpec.witness6 (enc := enc) (C := Try.checked) false ⟨#[], #[.int .i64 0, .int .i64 0, .int .i64 0], []⟩ 8 (by kernel_rfl) (by kernel_rfl) (by kernel_rfl) (by kernel_rfl)) ?_
  intro W base args ds gs before hval0 hW hcnd _
  have hval : ∀ (j : Nat) t v, Try.f6.params[j]? = some t → args[j]? = some v → Value.okWide Try.prog W .any base t v := hval0
  have hW' := hW
  obtain ⟨p, q, hA0, hV, rfl, hfz, hnd⟩ := hW
  have hA : DataW.TrodAll enc Try.prog W 0 (fun _ => true) true Try.f6.params.toList args.toList ds p := hA0
  rw [Try.params6] at hA hval
  obtain ⟨v0, vs0, d0, ds0, p0, q0, hargs, rfl, rfl, h0, r0⟩ := trodAll_cons hA
  obtain ⟨v1, vs1, d1, ds1, p1, q1, rfl, rfl, rfl, h1, r1⟩ := trodAll_cons r0
  obtain ⟨v2, vs2, d2, ds2, p2, q2, rfl, rfl, rfl, h2, r2⟩ := trodAll_cons r1
  obtain ⟨rfl, rfl, rfl⟩ := trodAll_nil r2
  obtain rfl : args = #[v0, v1, v2] := by cases args; simp_all
  obtain ⟨rfl, rfl⟩ := trodVars_none hV
  obtain ⟨a0, rfl, rfl, rfl, w0⟩ := open_int Try.underlying3 (hval 0 3 v0 rfl rfl) h0
  obtain ⟨a1, rfl, rfl, rfl, w1⟩ := open_int Try.underlying3 (hval 1 3 v1 rfl rfl) h1
  obtain ⟨a2, rfl, rfl, rfl, w2⟩ := open_int Try.underlying3 (hval 2 3 v2 rfl rfl) h2
  clear hA0 hval0
  simp only [List.append_nil] at hW'
  refine (walk a0 a1 a2 W w0 w1 w2).mono fun e W' ⟨he, bel⟩ => ?_
  subst he
  exact ⟨_, rfl, _, _, _, [], _, [], hW', trodAll_mk1 (shut_bool Try.underlying4 _), (trodAll_cons_mk (shut_int Try.underlying3 w0) (trodAll_cons_mk (shut_int Try.underlying3 w1) (trodAll_cons_mk (shut_int Try.underlying3 w2) trodAll_mk0))), rfl, bel.frame _, fun h => by cases h⟩

theorem over : Rows.delayLongRow.holds Try.pinned (OpenSpec.ofChange Rows.delayLongSpec) :=
  OpenClaim.holds_of_wide 6 Try.f6 rfl rfl rfl rfl rfl rfl rfl ⟨rfl, rfl, rfl, rfl, rfl⟩ rfl rfl rfl rfl rfl (by kernel_rfl) Try.func6 (by kernel_rfl)
    (of_decide_eq_true (by kernel_rfl)) (by unfold Func.isWrapper; first | (rw [if_pos (by decide +kernel)]; kernel_rfl) | (rw [if_neg (by decide +kernel)]; exact ⟨rfl, rfl⟩))
    (fun os started H enc _ => lifted os started H enc)

/-- the statement -/
theorem proved : Rows.DelayLongSaid :=
  over
#print axioms proved
end Go.Proofs.Ytfgjolggopgedaa.delayLong
