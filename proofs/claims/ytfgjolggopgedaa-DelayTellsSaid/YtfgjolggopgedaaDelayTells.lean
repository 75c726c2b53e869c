/- DelayTells returns true at any times and any inputs: Out is told just if more than the delay's ticks came in a row, at that tick or at most the extension's ticks ahead of it. No condition. -/
import Derived.Test.YtfgjolggopgedaaRows
import Derived.Test.YtfgjolggopgedaaDlyS
import Derived.LoopTactic
import Derived.WalkKit
import Derived.WalkLawsBesides
import Derived.ProofKit
import Derived.OpenShut
import Derived.ShutString
import Derived.ChangeOld
import Derived.Below
namespace Go.Proofs.Ytfgjolggopgedaa.delayTells
open Go.ChangeShapes Go.WideShapes Go.ChangeAt Go.RowKit
open Tab Dly
set_option linter.unusedVariables false
set_option linter.unusedSimpArgs false

theorem own : ownKnob Try.prog.godebug = none := by kernel_rfl
theorem laidOut : laidOutB Try.prog = true := by kernel_rfl

/-- WHAT THE WALK IS TOLD OF A SLICE OF INTEGERS THAT CAME IN: it is nil; or it leads to a row of 'cap' cells, the numbers 'zs' (the first 'len' are its elements, the rest its spare room), each fitting its kind. -/
def IsRow (k : IntKind) (w : World) (a : Option Addr) (len cap : Nat) (zs : List Int) : Prop :=
  (a = none ∧ len = 0 ∧ cap = 0 ∧ zs = []) ∨
  ∃ x, a = some x ∧ len ≤ cap ∧ cap ≤ maxLen ∧ zs.length = cap ∧ (∀ i, i < zs.length → w.cell? (x.add i) = some (.int k (zs.getD i 0))) ∧ ∀ n ∈ zs, (Lit.int k n).wf = true

/-- What is known between two ticks: the row so far, how long ago it was told (g), and what the state says of it. -/
def Kn (e g t : Int) (o : Bool) : Prop := (g ≤ e ∧ o = true ∧ t = e - g) ∨ (e < g ∧ o = false ∧ t = 0)
theorem tell {d e row g t : Int} {o b : Bool} (d0 : 0 ≤ d) (d1 : d ≤ 100) (e0 : 0 ≤ e) (e1 : e ≤ 100) (r0 : 0 ≤ row) (r1 : row ≤ 200) (g0 : 0 ≤ g) (hk : Kn e g t o) :
    ∃ t' o', tmr d e ⟨row, t, o⟩ b = ⟨if b = true then row + 1 else 0, t', o'⟩ ∧ Kn e (if d < (if b = true then row + 1 else 0) then 0 else g + 1) t' o' ∧ o' = decide ((if d < (if b = true then row + 1 else 0) then 0 else g + 1) ≤ e) := by
  have hh : (if b = true then Cnt.more row else 0) = (if b = true then row + 1 else 0) := by rw [Cnt.more_in r0 (by omega)]
  have hd : Cnt.ct d 0 9999 = d := Cnt.ct_in d0 (by omega)
  have he : Cnt.ct e 0 9999 = e := Cnt.ct_in e0 (by omega)
  generalize hx : (if b = true then row + 1 else 0) = hh' at hh ⊢
  by_cases h : d < hh'
  · refine ⟨e, true, ?_, ?_, ?_⟩
    · have := tmr_hi (d := d) (e := e) (h := row) (t := t) (o := o) (i := b) hh (by rw [hd]; exact h)
      rw [he] at this; exact this
    · rw [if_pos h]; exact .inl ⟨e0, rfl, by omega⟩
    · rw [if_pos h]; exact (decide_eq_true e0).symm
  · rw [if_neg h]
    have ht : Cnt.ct t 0 9999 = t := by rcases hk with ⟨a, _, c⟩ | ⟨a, _, c⟩ <;> exact Cnt.ct_in (by omega) (by omega)
    rcases hk with ⟨a, rfl, rfl⟩ | ⟨a, rfl, rfl⟩
    · by_cases hq : g + 1 ≤ e
      · refine ⟨e - g - 1, true, tmr_lo hh (by rw [hd]; exact h) (by rw [ht]; unfold fd; rw [if_pos ⟨rfl, by omega⟩]), .inl ⟨hq, rfl, by omega⟩, (decide_eq_true hq).symm⟩
      · refine ⟨0, false, tmr_lo hh (by rw [hd]; exact h) (by rw [ht]; unfold fd; rw [if_neg (by simp; omega)]), .inr ⟨by omega, rfl, rfl⟩, (decide_eq_false hq).symm⟩
    · refine ⟨0, false, tmr_lo hh (by rw [hd]; exact h) (by rw [ht]; unfold fd; rw [if_neg (by simp)]), .inr ⟨by omega, rfl, rfl⟩, (decide_eq_false (by omega)).symm⟩

/-! ### the walk -/
set_option maxHeartbeats 4000000 in
theorem walk (a0 : Int) (a1 : Int) (s2 : Tab.Sl) (l2 : List Bool) (w : World) (w0 : (Lit.int .i64 a0).wf = true) (w1 : (Lit.int .i64 a1).wf = true) (w2 : Tab.RowOf 1 (fun b : Bool => [Value.bool b]) w s2 l2) :
    Calls Try.prog 5 #[.int .i64 a0, .int .i64 a1, .slice s2.a l2.length s2.cap] w fun e w' => e = .returned (.bool true) ∧ Below w.heap.size w w' := by
  obtain ⟨x, z, hA, hl1, hc1⟩ := Arg.bools_at w2
  obtain ⟨sa, cap⟩ := s2
  dsimp only at hA hl1 hc1 ⊢
  generalize l2.length = len at hA hl1 ⊢
  have HA := Lib.hid hA
  unfold maxLen at hc1
  clear hA w2
  go_enter Try.func5, Try.ntmps5
  go_upto_region 1 with fail
  by_cases hl : 120 < len
  · go_wp2_with fail
    refine (Dly.awake_any _).mono ?_
    rintro e u9 ⟨rfl, b9⟩
    go_wp2
    go_ret
    exact ⟨rfl, b9⟩
  obtain ⟨d, hd⟩ : ∃ d, a0 % 12 = d := ⟨_, rfl⟩
  obtain ⟨e, he⟩ : ∃ e, a1 % 12 = e := ⟨_, rfl⟩
  have d0 : 0 ≤ d := by omega
  have d1 : d < 12 := by omega
  have e0 : 0 ≤ e := by omega
  have e1 : e < 12 := by omega
  have HD0 := Lib.hid hd
  have HE0 := Lib.hid he
  clear hd he
  go_upto_region 5 with (first | (go_at_call 10; with_reducible refine (Cnt.place_any a0 12 _ (by decide) (by decide)).mono ?_; rintro e w' ⟨rfl, rfl⟩; rw [HD0.out]) | (go_at_call 10; with_reducible refine (Cnt.place_any a1 12 _ (by decide) (by decide)).mono ?_; rintro e w' ⟨rfl, rfl⟩; rw [HE0.out]))
  have h0 := (Blk.Bks.nil w).alloc #[I 0, I 0, .bool false] 23
  go_upto_region 8 with fail
  generalize World.alloc w _ = u1 at h0 ⊢
  generalize w.heap.size = gs at h0 ⊢
  have H0 := Lib.hid h0
  clear h0
  go_wp2_with fail
  go_loopw [8, 9, 10] (fun r l i wr => ∃ (q : Nat) (row g t : Int) (o : Bool) (lt : Int), q ≤ len ∧ r = .int .i64 row ∧ l = .int .i64 lt ∧ i = .int .i64 q ∧ 0 ≤ row ∧ row ≤ q ∧ 0 ≤ g ∧ g ≤ 999 + q ∧ -1000 ≤ lt ∧ lt ≤ q ∧ Hid (lt = (q : Int) - 1 - g) ∧ Hid (Kn e g t o) ∧ Blk.Bks w [(gs, #[I row, I t, Value.bool o], 23)] wr) (fun _ _ i _ => len - (intOf i).toNat)
  case atStart => exact ⟨0, 0, 999, 0, false, -1000, by omega, rfl, rfl, rfl, by omega, by omega, by omega, by omega, by omega, by omega, Lib.hid (by omega), Lib.hid (.inr ⟨by omega, rfl, rfl⟩), H0.out⟩
  case round =>
    obtain ⟨q, row, g, t, o, l, hq, rfl, rfl, rfl, r0, r1, g0, g1, l0, l1, HL, HKN, hB⟩ := hrel
    have HB := Lib.hid hB
    clear hB
    by_cases hlt : q < len
    · obtain ⟨hx, hzl⟩ := HA.out q hlt
      have HZ := Lib.hid hzl
      obtain ⟨t', o', hs', hk', ho'⟩ := tell (b := z q) d0 (by omega) e0 (by omega) r0 (by omega) g0 HKN.out
      clear hzl
      subst hx
      generalize z q = bq at hs' hk' ho' HZ
      cases bq
      · by_cases hle : g + 1 ≤ e
        · have HOV : o' = true := by rw [ho']; simpa [show ¬ d < 0 by omega] using hle
          have hs : tmr d e ⟨row, t, o⟩ false = ⟨0, t', true⟩ := by rw [hs', HOV]; rfl
          have HS := Lib.hid hs
          have HK2 : Hid (Kn e (g + 1) t' true) := Lib.hid (by rw [← HOV]; simpa [show ¬ d < 0 by omega] using hk')
          clear hs hs' hk' ho'
          go_upto_region 11 with fail
          refine QB.region_tail 7 (by kernel_rfl) (by kernel_rfl) ?_
          have hk := HB.out.drew
          have hz : wr.drew.cell? (x.add q) = some (.bool false) := Arg.one_below HZ.out HB.out.drew.bel
          generalize World.drew wr = vd at hk hz ⊢
          have HK := Lib.hid hk
          clear hk
          have k0_0 : vd.cell? ⟨gs, 0, none⟩ = some (I row) := HK.out.cell 0 0 rfl rfl
          have k0_1 : vd.cell? ⟨gs, 1, none⟩ = some (I t) := HK.out.cell 0 1 rfl rfl
          have k0_2 : vd.cell? ⟨gs, 2, none⟩ = some (Value.bool o) := HK.out.cell 0 2 rfl rfl
          simp only [List.take_succ_cons, List.take_zero, List.drop_succ_cons, List.drop_zero]
          repeat still_step
          refine wpStill_nil ?_
          go_wp2_with fail
          clear k0_0 k0_1 k0_2 hz
          refine (step_is HS.out _).mono ?_
          rintro e vc ⟨rfl, bc⟩
          have hd := HK.out.step bc
          have HD := Lib.hid hd
          clear hd bc HK
          go_upto_region 12 with (refine wpList_store_row rfl 23 _ _ rfl gs #[I (0), I t', Value.bool true] rfl rfl 23 _ (HD.out.at 0 rfl) infoT rfl (by simp [Value.oneCell']) ?_)
          have he := HD.out.put 0 rfl #[I (0), I t', Value.bool true]
          simp only [List.set_cons_succ, List.set_cons_zero] at he
          generalize World.setRow vc _ _ = v1 at he ⊢
          have HE := Lib.hid he
          clear he HD
          have hz : v1.cell? (x.add q) = some (.bool false) := Arg.one_below HZ.out HE.out.bel
          have k0_0 : v1.cell? ⟨gs, 0, none⟩ = some (I (0)) := HE.out.cell 0 0 rfl rfl
          have k0_1 : v1.cell? ⟨gs, 1, none⟩ = some (I t') := HE.out.cell 0 1 rfl rfl
          have k0_2 : v1.cell? ⟨gs, 2, none⟩ = some (Value.bool true) := HE.out.cell 0 2 rfl rfl
          have hcmp : decide ((q : Int) - l ≤ e) = true := by have := HL.out; exact decide_eq_true (by omega)
          clear hle
          go_wp2
          go_roundw
          case rel => exact ⟨q + 1, 0, g + 1, t', true, l, by omega, rfl, rfl, by go_num, by omega, by omega, by omega, by omega, by omega, by omega, Lib.hid (by have := HL.out; omega), HK2, HE.out⟩
          case measure => simp [intOf]; omega
        · have HOV : o' = false := by rw [ho']; simpa [show ¬ d < 0 by omega] using hle
          have hs : tmr d e ⟨row, t, o⟩ false = ⟨0, t', false⟩ := by rw [hs', HOV]; rfl
          have HS := Lib.hid hs
          have HK2 : Hid (Kn e (g + 1) t' false) := Lib.hid (by rw [← HOV]; simpa [show ¬ d < 0 by omega] using hk')
          clear hs hs' hk' ho'
          go_upto_region 11 with fail
          refine QB.region_tail 7 (by kernel_rfl) (by kernel_rfl) ?_
          have hk := HB.out.drew
          have hz : wr.drew.cell? (x.add q) = some (.bool false) := Arg.one_below HZ.out HB.out.drew.bel
          generalize World.drew wr = vd at hk hz ⊢
          have HK := Lib.hid hk
          clear hk
          have k0_0 : vd.cell? ⟨gs, 0, none⟩ = some (I row) := HK.out.cell 0 0 rfl rfl
          have k0_1 : vd.cell? ⟨gs, 1, none⟩ = some (I t) := HK.out.cell 0 1 rfl rfl
          have k0_2 : vd.cell? ⟨gs, 2, none⟩ = some (Value.bool o) := HK.out.cell 0 2 rfl rfl
          simp only [List.take_succ_cons, List.take_zero, List.drop_succ_cons, List.drop_zero]
          repeat still_step
          refine wpStill_nil ?_
          go_wp2_with fail
          clear k0_0 k0_1 k0_2 hz
          refine (step_is HS.out _).mono ?_
          rintro e vc ⟨rfl, bc⟩
          have hd := HK.out.step bc
          have HD := Lib.hid hd
          clear hd bc HK
          go_upto_region 12 with (refine wpList_store_row rfl 23 _ _ rfl gs #[I (0), I t', Value.bool false] rfl rfl 23 _ (HD.out.at 0 rfl) infoT rfl (by simp [Value.oneCell']) ?_)
          have he := HD.out.put 0 rfl #[I (0), I t', Value.bool false]
          simp only [List.set_cons_succ, List.set_cons_zero] at he
          generalize World.setRow vc _ _ = v1 at he ⊢
          have HE := Lib.hid he
          clear he HD
          have hz : v1.cell? (x.add q) = some (.bool false) := Arg.one_below HZ.out HE.out.bel
          have k0_0 : v1.cell? ⟨gs, 0, none⟩ = some (I (0)) := HE.out.cell 0 0 rfl rfl
          have k0_1 : v1.cell? ⟨gs, 1, none⟩ = some (I t') := HE.out.cell 0 1 rfl rfl
          have k0_2 : v1.cell? ⟨gs, 2, none⟩ = some (Value.bool false) := HE.out.cell 0 2 rfl rfl
          have hcmp : decide ((q : Int) - l ≤ e) = false := by have := HL.out; exact decide_eq_false (by omega)
          clear hle
          go_wp2
          go_roundw
          case rel => exact ⟨q + 1, 0, g + 1, t', false, l, by omega, rfl, rfl, by go_num, by omega, by omega, by omega, by omega, by omega, by omega, Lib.hid (by have := HL.out; omega), HK2, HE.out⟩
          case measure => simp [intOf]; omega
      · by_cases hdr : d < row + 1
        · have hle := e0
          have HOV : o' = true := by rw [ho']; simpa [hdr] using hle
          have hs : tmr d e ⟨row, t, o⟩ true = ⟨row + 1, t', true⟩ := by rw [hs', HOV]; rfl
          have HS := Lib.hid hs
          have HK2 : Hid (Kn e (0) t' true) := Lib.hid (by rw [← HOV]; simpa [hdr] using hk')
          clear hs hs' hk' ho'
          go_upto_region 11 with fail
          refine QB.region_tail 7 (by kernel_rfl) (by kernel_rfl) ?_
          have hk := HB.out.drew
          have hz : wr.drew.cell? (x.add q) = some (.bool true) := Arg.one_below HZ.out HB.out.drew.bel
          generalize World.drew wr = vd at hk hz ⊢
          have HK := Lib.hid hk
          clear hk
          have k0_0 : vd.cell? ⟨gs, 0, none⟩ = some (I row) := HK.out.cell 0 0 rfl rfl
          have k0_1 : vd.cell? ⟨gs, 1, none⟩ = some (I t) := HK.out.cell 0 1 rfl rfl
          have k0_2 : vd.cell? ⟨gs, 2, none⟩ = some (Value.bool o) := HK.out.cell 0 2 rfl rfl
          simp only [List.take_succ_cons, List.take_zero, List.drop_succ_cons, List.drop_zero]
          repeat still_step
          refine wpStill_nil ?_
          go_wp2_with fail
          clear k0_0 k0_1 k0_2 hz
          refine (step_is HS.out _).mono ?_
          rintro e vc ⟨rfl, bc⟩
          have hd := HK.out.step bc
          have HD := Lib.hid hd
          clear hd bc HK
          go_upto_region 12 with (refine wpList_store_row rfl 23 _ _ rfl gs #[I (row + 1), I t', Value.bool true] rfl rfl 23 _ (HD.out.at 0 rfl) infoT rfl (by simp [Value.oneCell']) ?_)
          have he := HD.out.put 0 rfl #[I (row + 1), I t', Value.bool true]
          simp only [List.set_cons_succ, List.set_cons_zero] at he
          generalize World.setRow vc _ _ = v1 at he ⊢
          have HE := Lib.hid he
          clear he HD
          have hz : v1.cell? (x.add q) = some (.bool true) := Arg.one_below HZ.out HE.out.bel
          have k0_0 : v1.cell? ⟨gs, 0, none⟩ = some (I (row + 1)) := HE.out.cell 0 0 rfl rfl
          have k0_1 : v1.cell? ⟨gs, 1, none⟩ = some (I t') := HE.out.cell 0 1 rfl rfl
          have k0_2 : v1.cell? ⟨gs, 2, none⟩ = some (Value.bool true) := HE.out.cell 0 2 rfl rfl
          clear hle
          go_wp2
          go_roundw
          case rel => exact ⟨q + 1, row + 1, 0, t', true, q, by omega, rfl, rfl, by go_num, by omega, by omega, by omega, by omega, by omega, by omega, Lib.hid (by omega), HK2, HE.out⟩
          case measure => simp [intOf]; omega
        · by_cases hle : g + 1 ≤ e
          · have HOV : o' = true := by rw [ho']; simpa [hdr] using hle
            have hs : tmr d e ⟨row, t, o⟩ true = ⟨row + 1, t', true⟩ := by rw [hs', HOV]; rfl
            have HS := Lib.hid hs
            have HK2 : Hid (Kn e (g + 1) t' true) := Lib.hid (by rw [← HOV]; simpa [hdr] using hk')
            clear hs hs' hk' ho'
            go_upto_region 11 with fail
            refine QB.region_tail 7 (by kernel_rfl) (by kernel_rfl) ?_
            have hk := HB.out.drew
            have hz : wr.drew.cell? (x.add q) = some (.bool true) := Arg.one_below HZ.out HB.out.drew.bel
            generalize World.drew wr = vd at hk hz ⊢
            have HK := Lib.hid hk
            clear hk
            have k0_0 : vd.cell? ⟨gs, 0, none⟩ = some (I row) := HK.out.cell 0 0 rfl rfl
            have k0_1 : vd.cell? ⟨gs, 1, none⟩ = some (I t) := HK.out.cell 0 1 rfl rfl
            have k0_2 : vd.cell? ⟨gs, 2, none⟩ = some (Value.bool o) := HK.out.cell 0 2 rfl rfl
            simp only [List.take_succ_cons, List.take_zero, List.drop_succ_cons, List.drop_zero]
            repeat still_step
            refine wpStill_nil ?_
            go_wp2_with fail
            clear k0_0 k0_1 k0_2 hz
            refine (step_is HS.out _).mono ?_
            rintro e vc ⟨rfl, bc⟩
            have hd := HK.out.step bc
            have HD := Lib.hid hd
            clear hd bc HK
            go_upto_region 12 with (refine wpList_store_row rfl 23 _ _ rfl gs #[I (row + 1), I t', Value.bool true] rfl rfl 23 _ (HD.out.at 0 rfl) infoT rfl (by simp [Value.oneCell']) ?_)
            have he := HD.out.put 0 rfl #[I (row + 1), I t', Value.bool true]
            simp only [List.set_cons_succ, List.set_cons_zero] at he
            generalize World.setRow vc _ _ = v1 at he ⊢
            have HE := Lib.hid he
            clear he HD
            have hz : v1.cell? (x.add q) = some (.bool true) := Arg.one_below HZ.out HE.out.bel
            have k0_0 : v1.cell? ⟨gs, 0, none⟩ = some (I (row + 1)) := HE.out.cell 0 0 rfl rfl
            have k0_1 : v1.cell? ⟨gs, 1, none⟩ = some (I t') := HE.out.cell 0 1 rfl rfl
            have k0_2 : v1.cell? ⟨gs, 2, none⟩ = some (Value.bool true) := HE.out.cell 0 2 rfl rfl
            have hcmp : decide ((q : Int) - l ≤ e) = true := by have := HL.out; exact decide_eq_true (by omega)
            clear hle
            go_wp2
            go_roundw
            case rel => exact ⟨q + 1, row + 1, g + 1, t', true, l, by omega, rfl, rfl, by go_num, by omega, by omega, by omega, by omega, by omega, by omega, Lib.hid (by have := HL.out; omega), HK2, HE.out⟩
            case measure => simp [intOf]; omega
          · have HOV : o' = false := by rw [ho']; simpa [hdr] using hle
            have hs : tmr d e ⟨row, t, o⟩ true = ⟨row + 1, t', false⟩ := by rw [hs', HOV]; rfl
            have HS := Lib.hid hs
            have HK2 : Hid (Kn e (g + 1) t' false) := Lib.hid (by rw [← HOV]; simpa [hdr] using hk')
            clear hs hs' hk' ho'
            go_upto_region 11 with fail
            refine QB.region_tail 7 (by kernel_rfl) (by kernel_rfl) ?_
            have hk := HB.out.drew
            have hz : wr.drew.cell? (x.add q) = some (.bool true) := Arg.one_below HZ.out HB.out.drew.bel
            generalize World.drew wr = vd at hk hz ⊢
            have HK := Lib.hid hk
            clear hk
            have k0_0 : vd.cell? ⟨gs, 0, none⟩ = some (I row) := HK.out.cell 0 0 rfl rfl
            have k0_1 : vd.cell? ⟨gs, 1, none⟩ = some (I t) := HK.out.cell 0 1 rfl rfl
            have k0_2 : vd.cell? ⟨gs, 2, none⟩ = some (Value.bool o) := HK.out.cell 0 2 rfl rfl
            simp only [List.take_succ_cons, List.take_zero, List.drop_succ_cons, List.drop_zero]
            repeat still_step
            refine wpStill_nil ?_
            go_wp2_with fail
            clear k0_0 k0_1 k0_2 hz
            refine (step_is HS.out _).mono ?_
            rintro e vc ⟨rfl, bc⟩
            have hd := HK.out.step bc
            have HD := Lib.hid hd
            clear hd bc HK
            go_upto_region 12 with (refine wpList_store_row rfl 23 _ _ rfl gs #[I (row + 1), I t', Value.bool false] rfl rfl 23 _ (HD.out.at 0 rfl) infoT rfl (by simp [Value.oneCell']) ?_)
            have he := HD.out.put 0 rfl #[I (row + 1), I t', Value.bool false]
            simp only [List.set_cons_succ, List.set_cons_zero] at he
            generalize World.setRow vc _ _ = v1 at he ⊢
            have HE := Lib.hid he
            clear he HD
            have hz : v1.cell? (x.add q) = some (.bool true) := Arg.one_below HZ.out HE.out.bel
            have k0_0 : v1.cell? ⟨gs, 0, none⟩ = some (I (row + 1)) := HE.out.cell 0 0 rfl rfl
            have k0_1 : v1.cell? ⟨gs, 1, none⟩ = some (I t') := HE.out.cell 0 1 rfl rfl
            have k0_2 : v1.cell? ⟨gs, 2, none⟩ = some (Value.bool false) := HE.out.cell 0 2 rfl rfl
            have hcmp : decide ((q : Int) - l ≤ e) = false := by have := HL.out; exact decide_eq_false (by omega)
            clear hle
            go_wp2
            go_roundw
            case rel => exact ⟨q + 1, row + 1, g + 1, t', false, l, by omega, rfl, rfl, by go_num, by omega, by omega, by omega, by omega, by omega, by omega, Lib.hid (by have := HL.out; omega), HK2, HE.out⟩
            case measure => simp [intOf]; omega
    · obtain rfl : q = len := by omega
      go_wp2_with fail
      refine (Dly.awake_any _).mono ?_
      rintro e u9 ⟨rfl, b9⟩
      go_wp2
      go_ret
      exact ⟨rfl, (HB.out.step b9).bel⟩

/-! ### the row's step -/
set_option maxRecDepth 100000 in
theorem lifted (os : Os) (started : os.Started) (H : Type) (enc : TypeId × Value → H) :
    ReturnsInHanded {} Try.checked os 5 .any (Rows.delayTellsSpec.pre6 enc Try.prog Try.f5 Rows.delayTellsRow.domain false) (Rows.delayTellsSpec.post enc Try.prog Try.f5 false true false false) := by
  refine returnsInHanded_of_change (C := Try.checked) own started (by kernel_rfl) Try.func5
    (ChangeSpec.witness6 (enc := enc) (C := Try.checked) false ⟨#[], #[.int .i64 0, .int .i64 0, .slice none 0 0], []⟩ 8 (by kernel_rfl) (by kernel_rfl) (by kernel_rfl) (by kernel_rfl)) ?_
  intro W base args ds gs before hval0 hW hcnd _
  have hval : ∀ (j : Nat) t v, Try.f5.params[j]? = some t → args[j]? = some v → Value.okWide Try.prog W .any base t v := hval0
  have hW' := hW
  obtain ⟨p, q, hA0, hV, rfl, hfz, hnd⟩ := hW
  have hA : DataW.TrodAll enc Try.prog W 0 (fun _ => true) true Try.f5.params.toList args.toList ds p := hA0
  rw [Try.params5] at hA hval
  obtain ⟨v0, vs0, d0, ds0, p0, q0, hargs, rfl, rfl, h0, r0⟩ := trodAll_cons hA
  obtain ⟨v1, vs1, d1, ds1, p1, q1, rfl, rfl, rfl, h1, r1⟩ := trodAll_cons r0
  obtain ⟨v2, vs2, d2, ds2, p2, q2, rfl, rfl, rfl, h2, r2⟩ := trodAll_cons r1
  obtain ⟨rfl, rfl, rfl⟩ := trodAll_nil r2
  obtain rfl : args = #[v0, v1, v2] := by cases args; simp_all
  obtain ⟨rfl, rfl⟩ := trodVars_none hV
  obtain ⟨a0, rfl, rfl, rfl, w0⟩ := open_int Try.underlying3 (hval 0 3 v0 rfl rfl) h0
  obtain ⟨a1, rfl, rfl, rfl, w1⟩ := open_int Try.underlying3 (hval 1 3 v1 rfl rfl) h1
  obtain ⟨a2, len2, cap2, rfl⟩ := okWide_slice Try.underlying27 (hval 2 27 v2 rfl rfl)
  have k2 := h2
  have lt2 : ∀ x ∈ p2, x.block < W.heap.size := by obtain ⟨m, hm⟩ := k2; exact DataW.trod_lt m _ _ _ hm
  obtain ⟨s2, l2, e2, w2⟩ : ∃ (s : Tab.Sl) (l : List Bool), Value.slice a2 len2 cap2 = s.val l.length ∧ Tab.RowOf 1 (fun b : Bool => [Value.bool b]) W s l := by
    obtain ⟨fuel, hf⟩ := h2
    obtain ⟨s, l, e, r, _⟩ := TabArg.tr_row (k := 1) (f := (fun b : Bool => [Value.bool b])) (p := fun _ => True) Try.underlying27 (by kernel_rfl) (fun n cs x hx => by obtain ⟨z, hz, _⟩ := DataW.trod_bool Try.underlying4 hx; exact ⟨z, hz, trivial⟩) ⟨fuel, _, hf⟩
    exact ⟨s, l, e, r⟩
  simp only [Tab.Sl.val, Value.slice.injEq] at e2
  obtain ⟨rfl, rfl, rfl⟩ := e2
  clear hA0 hval0
  refine (walk a0 a1 s2 l2 W w0 w1 w2).mono fun e W' ⟨he, bel⟩ => ?_
  subst he
  exact ⟨_, rfl, _, _, _, [], _, [], hW', trodAll_mk1 (shut_bool Try.underlying4 _), (trodAll_cons_mk (shut_int Try.underlying3 w0) (trodAll_cons_mk (shut_int Try.underlying3 w1) (trodAll_cons_mk (Below.trod laidOut (by kernel_rfl) (of_decide_eq_true (by kernel_rfl)) k2 bel lt2) trodAll_mk0))), rfl, bel.frame _, fun h => by cases h⟩

theorem over : Rows.delayTellsRow.holds Try.pinned (OpenSpec.ofChange Rows.delayTellsSpec) :=
  OpenClaim.holds_of_wide 5 Try.f5 rfl rfl rfl rfl rfl rfl rfl ⟨rfl, rfl, rfl, rfl, rfl⟩ rfl rfl rfl rfl rfl (by kernel_rfl) Try.func5 (by kernel_rfl)
    (of_decide_eq_true (by kernel_rfl)) (by unfold Func.isWrapper; first | (rw [if_pos (by decide +kernel)]; kernel_rfl) | (rw [if_neg (by decide +kernel)]; exact ⟨rfl, rfl⟩))
    (fun os started H enc _ => lifted os started H enc)

/-- the statement -/
theorem proved : Rows.DelayTellsSaid :=
  over
#print axioms proved
end Go.Proofs.Ytfgjolggopgedaa.delayTells
