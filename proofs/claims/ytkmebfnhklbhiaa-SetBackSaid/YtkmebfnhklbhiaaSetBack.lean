/- SetBack returns true at any two integers: Of makes a set again of what Each yields; each of these phases is in it, and no other one. No condition. -/
import Derived.Test.YtkmebfnhklbhiaaRows
import Derived.Test.YtkmebfnhklbhiaaSetR
import Derived.Test.YtkmebfnhklbhiaaSetM2
import Derived.BigQuiet
import Derived.Deep.QuietTactic
import Derived.WalkKit
import Derived.WalkLawsBesides
import Derived.ProofKit
import Derived.OpenShut
import Derived.ShutString
import Derived.ChangeOld
import Derived.Below
namespace Go.Proofs.Ytkmebfnhklbhiaa.setBack
open Go.ChangeShapes Go.WideShapes Go.ChangeAt Go.RowKit
set_option linter.unusedVariables false
set_option linter.unusedSimpArgs false

theorem own : ownKnob Try.prog.godebug = none := by kernel_rfl
theorem laidOut : laidOutB Try.prog = true := by kernel_rfl

theorem chain {a b c : World} (h : Below a.heap.size a b) (k : Below b.heap.size b c) : Below a.heap.size a c := h.trans (k.mono h.size)
theorem has_true (s p : Int) (w : World) (h : SetM.has s p = true) : Calls Try.prog 8 #[.int .i64 s, .int .i64 p] w fun e w' => e = .returned (.bool true) ∧ w' = w :=
  (Set.has_any s p w).mono fun _ _ ⟨h1, h2⟩ => ⟨by rw [h1, h], h2.symm⟩
/-- Is p among the first k? -/
def inTake (p : Int) (L : List Int) (k : Nat) : Bool := decide (p ∈ L.take k)
theorem inTake_succ (p : Int) (L : List Int) (k : Nat) (h : k < L.length) : inTake p L (k + 1) = (inTake p L k || L.getD k 0 == p) := by
  unfold inTake
  rw [SetR.take_succ L k h, Bool.eq_iff_iff, Bool.or_eq_true, decide_eq_true_iff, decide_eq_true_iff, List.mem_append, beq_iff_eq, List.mem_singleton]
  exact ⟨fun h => h.imp id Eq.symm, fun h => h.imp id Eq.symm⟩
theorem sorted (s : Int) : (SetM.list s).Pairwise (· < ·) := by
  unfold SetM.list SetM.upto
  rw [List.pairwise_map]
  exact (List.pairwise_lt_range.filter _).imp (fun h => Int.ofNat_lt.2 h)
theorem facts (s : Int) : ∀ k, k < (SetM.list s).length → 0 ≤ (SetM.list s).getD k 0 ∧ (SetM.list s).getD k 0 ≤ 7 ∧ SetM.has s ((SetM.list s).getD k 0) = true ∧ ∀ m, k = m + 1 → (SetM.list s).getD m 0 < (SetM.list s).getD k 0 := by
  intro k hk
  have e : (SetM.list s).getD k 0 = (SetM.list s)[k] := by rw [List.getD_eq_getElem?_getD, List.getElem?_eq_getElem hk]; rfl
  have hm : (SetM.list s)[k] ∈ SetM.list s := List.getElem_mem hk
  have hb := SetM.list_bd s _ hm
  refine ⟨by rw [e]; omega, by rw [e]; omega, by rw [e]; exact (SetM.mem_list s _).1 hm, fun m hkm => ?_⟩
  have e2 : (SetM.list s).getD m 0 = (SetM.list s)[m] := by rw [List.getD_eq_getElem?_getD, List.getElem?_eq_getElem (by omega)]; rfl
  rw [e, e2]
  exact List.pairwise_iff_getElem.1 (sorted s) m k (by omega) hk (by omega)
theorem has_mem (s p : Int) : SetM.has s p = decide (p ∈ SetM.list s) := by
  rw [Bool.eq_iff_iff, decide_eq_true_iff, SetM.mem_list]
theorem of_low (s : Int) : (SetM.of (SetM.list s) : Int) = bits .and .i64 s 255 := by rw [SetM.of_list, SetM.and_255]

/-! ### the walk -/
set_option maxHeartbeats 1000000 in
theorem walk (a0 : Int) (a1 : Int) (w : World) (w0 : (Lit.int .i64 a0).wf = true) (w1 : (Lit.int .i64 a1).wf = true) :
    Calls Try.prog 5 #[.int .i64 a0, .int .i64 a1] w fun e w' => e = .returned (.bool true) ∧ Below w.heap.size w w' := by
  go_enter Try.func5, Try.ntmps5
  go_wp2_with fail
  refine (SetE.gather_in _ _).mono ?_
  rintro e w1 ⟨v, rfl, hO, hbel⟩
  obtain ⟨a, cap, rfl, hrow⟩ := SetR.row_of hO
  have h1 := hrow.1
  unfold maxLen at h1
  have hf := facts a0
  have h8 := SetM.list_len a0
  have hm := has_mem a0 a1
  have ho := of_low a0
  have hC := SetE.count_in a0
  have hG := SetE.gather_in a0
  clear hO
  generalize SetM.list a0 = L at hrow hf h8 h1 hm ho hC hG
  have Hrow := Lib.hid hrow
  have Hf := Lib.hid hf
  have Hm := Lib.hid hm
  have Ho := Lib.hid ho
  have HC := Lib.hid hC
  have HG := Lib.hid hG
  clear hrow hf hm ho hC hG
  go_wp2_with fail
  go_loopw [6, 7] (fun b i wr => ∃ (k : Nat) (t : Bool), k ≤ L.length ∧ i = .int .i64 k ∧ b = .bool t ∧ t = inTake a1 L k ∧ Below w1.heap.size w1 wr) (fun _ i _ => L.length - (intOf i).toNat)
  case atStart => exact ⟨0, false, Nat.zero_le _, rfl, rfl, (by unfold inTake; simp), Below.refl _ _⟩
  case round =>
    obtain ⟨k, t, hk, rfl, rfl, ht, hb⟩ := hrel
    by_cases hlt : k < L.length
    · obtain ⟨x, rfl, hc⟩ := (Hrow.out.below hb).cells hlt
      have hcell := hc k hlt
      obtain ⟨hy0, hy7, hh, hasc⟩ := Hf.out k hlt
      have hsn := inTake_succ a1 L k hlt
      rw [← ht] at hsn
      clear ht
      by_cases hk0 : k = 0
      · subst hk0
        clear hc hasc
        generalize L.getD 0 0 = y at hcell hy0 hy7 hh hsn
        have Hsn := Lib.hid hsn
        clear hsn
        rw [SetR.add_zero] at hcell
        have hd1 : decide (y < 0) = false := decide_eq_false (by omega)
        have hd2 : decide (7 < y) = false := decide_eq_false (by omega)
        cases t
        all_goals
          go_wp2
          go_quiet ((go_at_call 8; exact Calls.quiet_of_same (has_true _ _ _ hh)))
          go_wp2
          go_roundw
          case rel => exact ⟨1, _, by omega, by go_num, rfl, (by rw [Hsn.out]; simp), SetR.below_drewN hb _⟩
          case measure => simp [intOf]; omega
      · have hprev := hc (k - 1) (by omega)
        have hasc := hasc (k - 1) (by omega)
        clear hc
        generalize L.getD (k - 1) 0 = z at hprev hasc
        generalize L.getD k 0 = y at hcell hy0 hy7 hh hsn hasc
        have Hsn := Lib.hid hsn
        clear hsn
        have hk1 : 0 < k := by omega
        have hg : decide ((k : Int) > 0) = true := decide_eq_true (by omega)
        have hg2 : decide (0 < k) = true := decide_eq_true (by omega)
        have hd1 : decide (y < 0) = false := decide_eq_false (by omega)
        have hd2 : decide (7 < y) = false := decide_eq_false (by omega)
        have hd3 : decide (y ≤ z) = false := decide_eq_false (by omega)
        have hs0 : 0 ≤ (k : Int) - 1 := by omega
        have hs1 : (k : Int) - 1 < L.length := by omega
        have hs2 : ((k : Int) - 1).toNat = k - 1 := by omega
        cases t
        all_goals
          go_wp2
          go_quiet ((go_at_call 8; exact Calls.quiet_of_same (has_true _ _ _ hh)))
          clear hd1 hd2 hd3 hs0 hs1 hs2 hg hg2 hh hasc hprev hy0 hy7
          go_wp2
          go_roundw
          case rel => exact ⟨k + 1, _, by omega, by go_num, rfl, (by rw [Hsn.out]; simp), SetR.below_drewN hb _⟩
          case measure => simp [intOf]; omega
    · obtain rfl : k = L.length := by omega
      have htm : t = SetM.has a0 a1 := by rw [ht, Hm.out]; unfold inTake; rw [List.take_of_length_le (Nat.le_refl _)]
      have Htm := Lib.hid htm.symm
      have hof := Ho.out
      have Hof := Lib.hid hof
      clear ht htm hof
      go_wp2_with fail
      refine (SetR.of_any _ _ L _ (Hrow.out.below hb)).mono ?_
      rintro e w' ⟨rfl, rfl⟩
      rw [Hof.out]
      go_wp2_with fail
      refine (Set.has_any _ _ _).mono ?_
      rintro e w' ⟨rfl, rfl⟩
      rw [Htm.out]
      go_wp2_with fail
      refine (HC.out _).mono ?_
      rintro e w2 ⟨rfl, b2⟩
      go_wp2_with fail
      refine (HG.out _).mono ?_
      rintro e w3 ⟨v, rfl, hO, b3⟩
      obtain ⟨x3, cap3, rfl, r3⟩ := SetR.row_of hO
      have R3 := Lib.hid r3
      clear hO r3
      go_wp2_with fail
      refine (SetR.same_any _ _ _ _ L _ R3.out (((Hrow.out.below hb).below b2).below b3)).mono ?_
      rintro e w4 ⟨rfl, b4⟩
      go_wp2_with fail
      refine (SetR.awake_any _).mono ?_
      rintro e w5 ⟨rfl, b5⟩
      go_wp2
      go_ret
      exact ⟨rfl, chain hbel (chain hb (chain b2 (chain b3 (chain b4 b5))))⟩

/-! ### the row's step -/
set_option maxRecDepth 100000 in
theorem lifted (os : Os) (started : os.Started) (H : Type) (enc : TypeId × Value → H) :
    ReturnsInHanded {} Try.checked os 5 .any (Rows.setBackSpec.pre6 enc Try.prog Try.f5 Rows.setBackRow.domain false) (Rows.setBackSpec.post enc Try.prog Try.f5 false true false false) := by
  refine returnsInHanded_of_change (C := Try.checked) own started (by kernel_rfl) Try.func5
    (ChangeSpec.witness6 (enc := enc) (C := Try.checked) false ⟨#[], #[.int .i64 0, .int .i64 0], []⟩ 8 (by kernel_rfl) (by kernel_rfl) (by kernel_rfl) (by kernel_rfl)) ?_
  intro W base args ds gs before hval0 hW hcnd _
  have hval : ∀ (j : Nat) t v, Try.f5.params[j]? = some t → args[j]? = some v → Value.okWide Try.prog W .any base t v := hval0
  have hW' := hW
  obtain ⟨p, q, hA0, hV, rfl, hfz, hnd⟩ := hW
  have hA : DataW.TrodAll enc Try.prog W 0 (fun _ => true) true Try.f5.params.toList args.toList ds p := hA0
  rw [Try.params5] at hA hval
  obtain ⟨v0, vs0, d0, ds0, p0, q0, hargs, rfl, rfl, h0, r0⟩ := trodAll_cons hA
  obtain ⟨v1, vs1, d1, ds1, p1, q1, rfl, rfl, rfl, h1, r1⟩ := trodAll_cons r0
  obtain ⟨rfl, rfl, rfl⟩ := trodAll_nil r1
  obtain rfl : args = #[v0, v1] := by cases args; simp_all
  obtain ⟨rfl, rfl⟩ := trodVars_none hV
  obtain ⟨a0, rfl, rfl, rfl, w0⟩ := open_int Try.underlying3 (hval 0 3 v0 rfl rfl) h0
  obtain ⟨a1, rfl, rfl, rfl, w1⟩ := open_int Try.underlying3 (hval 1 3 v1 rfl rfl) h1
  clear hA0 hval0
  simp only [List.append_nil] at hW'
  refine (walk a0 a1 W w0 w1).mono fun e W' ⟨he, bel⟩ => ?_
  subst he
  exact ⟨_, rfl, _, _, _, [], _, [], hW', trodAll_mk1 (shut_bool Try.underlying4 _), (trodAll_cons_mk (shut_int Try.underlying3 w0) (trodAll_cons_mk (shut_int Try.underlying3 w1) trodAll_mk0)), rfl, bel.frame _, fun h => by cases h⟩

theorem over : Rows.setBackRow.holds Try.pinned (OpenSpec.ofChange Rows.setBackSpec) :=
  OpenClaim.holds_of_wide 5 Try.f5 rfl rfl rfl rfl rfl rfl rfl ⟨rfl, rfl, rfl, rfl, rfl⟩ rfl rfl rfl rfl rfl (by kernel_rfl) Try.func5 (by kernel_rfl)
    (of_decide_eq_true (by kernel_rfl)) (by unfold Func.isWrapper; first | (rw [if_pos (by decide +kernel)]; kernel_rfl) | (rw [if_neg (by decide +kernel)]; exact ⟨rfl, rfl⟩))
    (fun os started H enc _ => lifted os started H enc)

/-- the statement -/
theorem proved : Rows.SetBackSaid :=
  over
#print axioms proved
end Go.Proofs.Ytkmebfnhklbhiaa.setBack
