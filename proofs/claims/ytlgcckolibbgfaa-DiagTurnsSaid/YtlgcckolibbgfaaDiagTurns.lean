/- DiagTurns returns true at any turns and any bound: a detector whose input changes within fewer ticks than the bounds is never stuck. No condition. -/
import Derived.Test.YtlgcckolibbgfaaRows
import Derived.Test.YtlgcckolibbgfaaDig
import Derived.LoopTactic
import Derived.BigQuiet
import Derived.WalkKit
import Derived.WalkLawsBesides
import Derived.ProofKit
import Derived.OpenShut
import Derived.ShutString
import Derived.ChangeOld
import Derived.Below
namespace Go.Proofs.Ytlgcckolibbgfaa.diagTurns
open Go.ChangeShapes Go.WideShapes Go.ChangeAt Go.RowKit
open Tab Dig
set_option linter.unusedVariables false
set_option linter.unusedSimpArgs false

theorem own : ownKnob Try.prog.godebug = none := by kernel_rfl
theorem laidOut : laidOutB Try.prog = true := by kernel_rfl

/-- WHAT THE WALK IS TOLD OF A SLICE OF INTEGERS THAT CAME IN: it is nil; or it leads to a row of 'cap' cells, the numbers 'zs' (the first 'len' are its elements, the rest its spare room), each fitting its kind. -/
def IsRow (k : IntKind) (w : World) (a : Option Addr) (len cap : Nat) (zs : List Int) : Prop :=
  (a = none ∧ len = 0 ∧ cap = 0 ∧ zs = []) ∨
  ∃ x, a = some x ∧ len ≤ cap ∧ cap ≤ maxLen ∧ zs.length = cap ∧ (∀ i, i < zs.length → w.cell? (x.add i) = some (.int k (zs.getD i 0))) ∧ ∀ n ∈ zs, (Lit.int k n).wf = true

/-! ### the walk -/
set_option maxRecDepth 100000 in
set_option maxHeartbeats 8000000 in
theorem walk (s0 : Tab.Sl) (l0 : List Int) (a1 : Int) (w : World) (w0 : Tab.RowOf 1 (fun n : Int => [Tab.I n]) w s0 l0) (w1 : (Lit.int .i64 a1).wf = true) :
    Calls Try.prog 5 #[.slice s0.a l0.length s0.cap, .int .i64 a1] w fun e w' => e = .returned (.bool true) ∧ Below w.heap.size w w' := by
  obtain ⟨x, z, hA, hl1, hc1⟩ := Arg.ints_at w0
  obtain ⟨sa, cap⟩ := s0
  dsimp only at hA hl1 hc1 ⊢
  generalize l0.length = len at hA hl1 ⊢
  have HA := Lib.hid hA
  unfold maxLen at hc1
  clear hA w0
  go_enter Try.func5, Try.ntmps5
  go_upto_region 1 with fail
  by_cases hl : 60 < len
  · go_wp2_with fail
    refine (Dig.awake_any _).mono ?_
    rintro e u9 ⟨rfl, b9⟩
    go_wp2
    go_ret
    exact ⟨rfl, b9⟩
  obtain ⟨pm, hpm⟩ : ∃ d, a1 % 20 = d := ⟨_, rfl⟩
  have p0 : 0 ≤ pm := by omega
  have p1 : pm < 20 := by omega
  have HP := Lib.hid hpm
  clear hpm
  go_upto_region 4 with (go_at_call 12; with_reducible refine (Cnt.place_any a1 20 _ (by decide) (by decide)).mono ?_; rintro e w' ⟨rfl, rfl⟩; rw [HP.out])
  have h0 := (Blk.Bks.nil w).alloc #[I 0, I 0] 23
  go_upto_region 5 with fail
  generalize World.alloc w _ = u1 at h0 ⊢
  generalize w.heap.size = gs at h0 ⊢
  have H0 := Lib.hid h0
  clear h0
  go_wp2_with fail
  go_loopw [7] (fun i wr => ∃ (q : Nat) (on off : Int), q ≤ len ∧ i = .int .i64 q ∧ Hid (q % 2 = 0 → on = 0) ∧ Hid (q % 2 = 1 → off = 0) ∧ 0 ≤ on ∧ 0 ≤ off ∧ Blk.Bks w [(gs, #[I on, I off], 23)] wr) (fun i _ => len - (intOf i).toNat)
  case atStart => exact ⟨0, 0, 0, by omega, rfl, Lib.hid (fun _ => rfl), Lib.hid (fun _ => rfl), by omega, by omega, H0.out⟩
  case round =>
    obtain ⟨q, on, off, hq, rfl, HE, HO, x0, y0, hB⟩ := hrel
    have HB := Lib.hid hB
    clear hB
    by_cases hlt : q < len
    · obtain ⟨hx, hzl⟩ := HA.out q hlt
      obtain ⟨K, hK⟩ : ∃ K, z q % (2 + pm - 1) + 1 = K := ⟨_, rfl⟩
      have K0 : 1 ≤ K := by have := Int.emod_nonneg (z q) (show 2 + pm - 1 ≠ 0 by omega); omega
      have K1 : K ≤ 1 + pm := by have := Int.emod_lt_of_pos (z q) (show 0 < 2 + pm - 1 by omega); omega
      have hz : wr.cell? (x.add q) = some (I (z q)) := Arg.one_below hzl HB.out.bel
      have HK := Lib.hid (show z q % (2 + pm - 1) = K - 1 by omega)
      clear hK hzl
      subst hx
      go_upto_region 9 with (go_at_call 12; with_reducible refine (Cnt.place_any (z q) _ _ (by omega) (by omega)).mono ?_; rintro e w' ⟨rfl, rfl⟩; rw [HK.out])
      have eK : K - 1 + 1 = K := by omega
      (try rw [eK])
      clear hz HK eK
      rcases (show q % 2 = 0 ∨ q % 2 = 1 by omega) with hpar | hpar
      · have hr2 : q % 2 = 0 := hpar
        have hr1 : (q : Int).tmod 2 = 0 := by rw [Int.tmod_eq_emod_of_nonneg (by omega)]; omega
        have HX0 : Hid (on = 0) := Lib.hid (HE.out hpar)
        clear HE HO
        go_wp2_with fail
        rename World => wg
        go_loopw [8] (fun k wr => ∃ (c on off : Int), k = .int .i64 c ∧ 0 ≤ c ∧ c ≤ K ∧ Hid (on = K - c) ∧ Hid (c < K → off = 0) ∧ 0 ≤ on ∧ 0 ≤ off ∧ Blk.Bks w [(gs, #[I on, I off], 23)] wr) (fun k _ => (intOf k).toNat)
        case atStart => exact ⟨K, on, off, rfl, by omega, by omega, Lib.hid (by have := HX0.out; omega), Lib.hid (fun h => absurd h (by omega)), by omega, by omega, HB.out⟩
        case round =>
          clear HB HX0
          obtain ⟨c, on, off, rfl, c0, c1, HX, HY, x0, y0, hB⟩ := hrel
          have HB := Lib.hid hB
          clear hB
          by_cases hlc : 0 < c
          · have hs : wat ⟨on, off⟩ true = ⟨(on + 1), 0⟩ := by
              have := HX.out
              unfold wat
              simp [Cnt.more_in (n := on) (by omega) (by omega)]
            have ht : stk (2 + pm) (2 + pm) ⟨(on + 1), 0⟩ = false := by
              have := HX.out
              unfold stk
              simp only [Bool.or_eq_false_iff, decide_eq_false_iff_not]
              omega
            have HS := Lib.hid hs
            have HT := Lib.hid ht
            clear hs ht
            have k0_0 : wr.cell? ⟨gs, 0, none⟩ = some (I on) := HB.out.cell 0 0 rfl rfl
            have k0_1 : wr.cell? ⟨gs, 1, none⟩ = some (I off) := HB.out.cell 0 1 rfl rfl
            go_wp2_with fail
            clear k0_0 k0_1
            refine (step_is (i := true) HS.out _).mono ?_
            rintro e vc ⟨rfl, bc⟩
            have hd := HB.out.step bc
            have HD := Lib.hid hd
            clear hd bc
            go_upto_region 12 with (refine wpList_store_row rfl 23 _ _ rfl gs #[I (on + 1), I 0] rfl rfl 23 _ (HD.out.at 0 rfl) infoW rfl (by simp [Value.oneCell']) ?_)
            have he := HD.out.put 0 rfl #[I (on + 1), I 0]
            simp only [List.set_cons_succ, List.set_cons_zero] at he
            generalize World.setRow vc _ _ = v1 at he ⊢
            have HE1 := Lib.hid he
            clear he HD HB HS
            have k0_0 : v1.cell? ⟨gs, 0, none⟩ = some (I (on + 1)) := HE1.out.cell 0 0 rfl rfl
            have k0_1 : v1.cell? ⟨gs, 1, none⟩ = some (I 0) := HE1.out.cell 0 1 rfl rfl
            go_wp2_with fail
            clear k0_0 k0_1
            refine (stuck_is HT.out _).mono ?_
            rintro e v2 ⟨rfl, b2⟩
            have hd := HE1.out.step b2
            have HD := Lib.hid hd
            clear hd b2 HE1 HT
            go_wp2
            go_roundw
            case rel => exact ⟨c - 1, (on + 1), 0, by go_num, by omega, by omega, Lib.hid (by have := HX.out; omega), Lib.hid (fun _ => rfl), by omega, by omega, HD.out⟩
            case measure => simp [intOf]; omega
          · have hx : on = K := by have := HX.out; omega
            have hy : off = 0 := HY.out (by omega)
            have H2 : Hid ((q + 1) % 2 = 0 → on = 0) ∧ Hid ((q + 1) % 2 = 1 → off = 0) := ⟨Lib.hid (fun h => by omega), Lib.hid (fun h => by omega)⟩
            have C0 : c = 0 := by omega
            subst C0
            clear HX HY hx hy hr1 hr2
            go_wp2
            go_roundw
            case rel => exact ⟨q + 1, on, off, by omega, by go_num, H2.1, H2.2, by omega, by omega, HB.out⟩
            case measure => simp [intOf]; omega
      · have hr2 : q % 2 = 1 := hpar
        have hr1 : (q : Int).tmod 2 = 1 := by rw [Int.tmod_eq_emod_of_nonneg (by omega)]; omega
        have HX0 : Hid (off = 0) := Lib.hid (HO.out hpar)
        clear HE HO
        go_wp2_with fail
        rename World => wg
        go_loopw [8] (fun k wr => ∃ (c on off : Int), k = .int .i64 c ∧ 0 ≤ c ∧ c ≤ K ∧ Hid (off = K - c) ∧ Hid (c < K → on = 0) ∧ 0 ≤ off ∧ 0 ≤ on ∧ Blk.Bks w [(gs, #[I on, I off], 23)] wr) (fun k _ => (intOf k).toNat)
        case atStart => exact ⟨K, on, off, rfl, by omega, by omega, Lib.hid (by have := HX0.out; omega), Lib.hid (fun h => absurd h (by omega)), by omega, by omega, HB.out⟩
        case round =>
          clear HB HX0
          obtain ⟨c, on, off, rfl, c0, c1, HX, HY, x0, y0, hB⟩ := hrel
          have HB := Lib.hid hB
          clear hB
          by_cases hlc : 0 < c
          · have hs : wat ⟨on, off⟩ false = ⟨0, (off + 1)⟩ := by
              have := HX.out
              unfold wat
              simp [Cnt.more_in (n := off) (by omega) (by omega)]
            have ht : stk (2 + pm) (2 + pm) ⟨0, (off + 1)⟩ = false := by
              have := HX.out
              unfold stk
              simp only [Bool.or_eq_false_iff, decide_eq_false_iff_not]
              omega
            have HS := Lib.hid hs
            have HT := Lib.hid ht
            clear hs ht
            have k0_0 : wr.cell? ⟨gs, 0, none⟩ = some (I on) := HB.out.cell 0 0 rfl rfl
            have k0_1 : wr.cell? ⟨gs, 1, none⟩ = some (I off) := HB.out.cell 0 1 rfl rfl
            go_wp2_with fail
            clear k0_0 k0_1
            refine (step_is (i := false) HS.out _).mono ?_
            rintro e vc ⟨rfl, bc⟩
            have hd := HB.out.step bc
            have HD := Lib.hid hd
            clear hd bc
            go_upto_region 12 with (refine wpList_store_row rfl 23 _ _ rfl gs #[I 0, I (off + 1)] rfl rfl 23 _ (HD.out.at 0 rfl) infoW rfl (by simp [Value.oneCell']) ?_)
            have he := HD.out.put 0 rfl #[I 0, I (off + 1)]
            simp only [List.set_cons_succ, List.set_cons_zero] at he
            generalize World.setRow vc _ _ = v1 at he ⊢
            have HE1 := Lib.hid he
            clear he HD HB HS
            have k0_0 : v1.cell? ⟨gs, 0, none⟩ = some (I 0) := HE1.out.cell 0 0 rfl rfl
            have k0_1 : v1.cell? ⟨gs, 1, none⟩ = some (I (off + 1)) := HE1.out.cell 0 1 rfl rfl
            go_wp2_with fail
            clear k0_0 k0_1
            refine (stuck_is HT.out _).mono ?_
            rintro e v2 ⟨rfl, b2⟩
            have hd := HE1.out.step b2
            have HD := Lib.hid hd
            clear hd b2 HE1 HT
            go_wp2
            go_roundw
            case rel => exact ⟨c - 1, 0, (off + 1), by go_num, by omega, by omega, Lib.hid (by have := HX.out; omega), Lib.hid (fun _ => rfl), by omega, by omega, HD.out⟩
            case measure => simp [intOf]; omega
          · have hx : off = K := by have := HX.out; omega
            have hy : on = 0 := HY.out (by omega)
            have H2 : Hid ((q + 1) % 2 = 0 → on = 0) ∧ Hid ((q + 1) % 2 = 1 → off = 0) := ⟨Lib.hid (fun h => by omega), Lib.hid (fun h => by omega)⟩
            have C0 : c = 0 := by omega
            subst C0
            clear HX HY hx hy hr1 hr2
            go_wp2
            go_roundw
            case rel => exact ⟨q + 1, on, off, by omega, by go_num, H2.1, H2.2, by omega, by omega, HB.out⟩
            case measure => simp [intOf]; omega
    · obtain rfl : q = len := by omega
      go_wp2_with fail
      refine (Dig.awake_any _).mono ?_
      rintro e u9 ⟨rfl, b9⟩
      go_wp2
      go_ret
      exact ⟨rfl, (HB.out.step b9).bel⟩

/-! ### the row's step -/
set_option maxRecDepth 100000 in
theorem lifted (os : Os) (started : os.Started) (H : Type) (enc : TypeId × Value → H) :
    ReturnsInHanded {} Try.checked os 5 .any (Rows.diagTurnsSpec.pre6 enc Try.prog Try.f5 Rows.diagTurnsRow.domain false) (Rows.diagTurnsSpec.post enc Try.prog Try.f5 false true false false) := by
  refine returnsInHanded_of_change (C := Try.checked) own started (by kernel_rfl) Try.func5
    (ChangeSpec.witness6 (enc := enc) (C := Try.checked) false ⟨#[], #[.slice none 0 0, .int .i64 0], []⟩ 8 (by kernel_rfl) (by kernel_rfl) (by kernel_rfl) (by kernel_rfl)) ?_
  intro W base args ds gs before hval0 hW hcnd _
  have hval : ∀ (j : Nat) t v, Try.f5.params[j]? = some t → args[j]? = some v → Value.okWide Try.prog W .any base t v := hval0
  have hW' := hW
  obtain ⟨p, q, hA0, hV, rfl, hfz, hnd⟩ := hW
  have hA : DataW.TrodAll enc Try.prog W 0 (fun _ => true) true Try.f5.params.toList args.toList ds p := hA0
  rw [Try.params5] at hA hval
  obtain ⟨v0, vs0, d0, ds0, p0, q0, hargs, rfl, rfl, h0, r0⟩ := trodAll_cons hA
  obtain ⟨v1, vs1, d1, ds1, p1, q1, rfl, rfl, rfl, h1, r1⟩ := trodAll_cons r0
  obtain ⟨rfl, rfl, rfl⟩ := trodAll_nil r1
  obtain rfl : args = #[v0, v1] := by cases args; simp_all
  obtain ⟨rfl, rfl⟩ := trodVars_none hV
  obtain ⟨a0, len0, cap0, rfl⟩ := okWide_slice Try.underlying31 (hval 0 31 v0 rfl rfl)
  have k0 := h0
  have lt0 : ∀ x ∈ p0, x.block < W.heap.size := by obtain ⟨m, hm⟩ := k0; exact DataW.trod_lt m _ _ _ hm
  obtain ⟨s0, l0, e0, w0⟩ : ∃ (s : Tab.Sl) (l : List Int), Value.slice a0 len0 cap0 = s.val l.length ∧ Tab.RowOf 1 (fun n : Int => [Tab.I n]) W s l := by
    obtain ⟨fuel, hf⟩ := h0
    obtain ⟨s, l, e, r, _⟩ := TabArg.tr_row (k := 1) (f := (fun n : Int => [Tab.I n])) (p := fun _ => True) Try.underlying31 (by kernel_rfl) (fun n cs x hx => by obtain ⟨z, hz, _⟩ := DataW.trod_int Try.underlying3 hx; exact ⟨z, hz, trivial⟩) ⟨fuel, _, hf⟩
    exact ⟨s, l, e, r⟩
  simp only [Tab.Sl.val, Value.slice.injEq] at e0
  obtain ⟨rfl, rfl, rfl⟩ := e0
  obtain ⟨a1, rfl, rfl, rfl, w1⟩ := open_int Try.underlying3 (hval 1 3 v1 rfl rfl) h1
  clear hA0 hval0
  refine (walk s0 l0 a1 W w0 w1).mono fun e W' ⟨he, bel⟩ => ?_
  subst he
  exact ⟨_, rfl, _, _, _, [], _, [], hW', trodAll_mk1 (shut_bool Try.underlying4 _), (trodAll_cons_mk (Below.trod laidOut (by kernel_rfl) (of_decide_eq_true (by kernel_rfl)) k0 bel lt0) (trodAll_cons_mk (shut_int Try.underlying3 w1) trodAll_mk0)), rfl, bel.frame _, fun h => by cases h⟩

theorem over : Rows.diagTurnsRow.holds Try.pinned (OpenSpec.ofChange Rows.diagTurnsSpec) :=
  OpenClaim.holds_of_wide 5 Try.f5 rfl rfl rfl rfl rfl rfl rfl ⟨rfl, rfl, rfl, rfl, rfl⟩ rfl rfl rfl rfl rfl (by kernel_rfl) Try.func5 (by kernel_rfl)
    (of_decide_eq_true (by kernel_rfl)) (by unfold Func.isWrapper; first | (rw [if_pos (by decide +kernel)]; kernel_rfl) | (rw [if_neg (by decide +kernel)]; exact ⟨rfl, rfl⟩))
    (fun os started H enc _ => lifted os started H enc)

/-- the statement -/
theorem proved : Rows.DiagTurnsSaid :=
  over
#print axioms proved
end Go.Proofs.Ytlgcckolibbgfaa.diagTurns
