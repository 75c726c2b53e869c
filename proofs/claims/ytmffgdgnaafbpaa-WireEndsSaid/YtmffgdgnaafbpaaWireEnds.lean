/- WireEnds returns true at any slice of bytes and any three ints: of at most 60 bytes a number is within its bounds or there is a Fault, and behind a Fault all is nothing and the Fault stays. No condition. -/
import Derived.Test.YtmffgdgnaafbpaaRows
import Derived.Test.YtmffgdgnaafbpaaWa
import Derived.Test.YtmffgdgnaafbpaaQB
import Derived.WalkKit
import Derived.WalkLawsBesides
import Derived.ProofKit
import Derived.OpenShut
import Derived.ShutString
import Derived.ChangeOld
import Derived.Below
namespace Go.Proofs.Ytmffgdgnaafbpaa.wireEnds
open Go.ChangeShapes Go.WideShapes Go.ChangeAt Go.RowKit
open B Put Rd Nx Nm
set_option linter.unusedVariables false
set_option linter.unusedSimpArgs false

theorem own : ownKnob Try.prog.godebug = none := by kernel_rfl
theorem laidOut : laidOutB Try.prog = true := by kernel_rfl

/-- WHAT THE WALK IS TOLD OF A SLICE OF INTEGERS THAT CAME IN: it is nil; or it leads to a row of 'cap' cells, the numbers 'zs' (the first 'len' are its elements, the rest its spare room), each fitting its kind. -/
def IsRow (k : IntKind) (w : World) (a : Option Addr) (len cap : Nat) (zs : List Int) : Prop :=
  (a = none ∧ len = 0 ∧ cap = 0 ∧ zs = []) ∨
  ∃ x, a = some x ∧ len ≤ cap ∧ cap ≤ maxLen ∧ zs.length = cap ∧ (∀ i, i < zs.length → w.cell? (x.add i) = some (.int k (zs.getD i 0))) ∧ ∀ n ∈ zs, (Lit.int k n).wf = true

theorem chain {a b c : World} (h : Below a.heap.size a b) (k : Below b.heap.size b c) : Below a.heap.size a c := h.trans (k.mono h.size)

theorem num_cases (l : List Nat) (k : Nat) (low high : Int) : (num l ⟨0, 0, 0⟩ k low high = (0, ⟨0, 2, l.length⟩) ∧ l.length < k) ∨ (num l ⟨0, 0, 0⟩ k low high = (0, ⟨0, 4, 0⟩) ∧ k ≤ l.length) ∨
    (∃ v, num l ⟨0, 0, 0⟩ k low high = (v, ⟨k, 0, 0⟩) ∧ k ≤ l.length ∧ low ≤ v ∧ v ≤ high) := by
  unfold num
  simp only [ne_eq, not_true, if_false, Nat.zero_add]
  by_cases h1 : l.length < k
  · exact .inl ⟨by rw [if_pos h1], h1⟩
  · rw [if_neg h1]
    by_cases h2 : (val l 0 k : Int) < low ∨ high < (val l 0 k : Int)
    · exact .inr (.inl ⟨by rw [if_pos h2]; rfl, by omega⟩)
    · exact .inr (.inr ⟨_, by rw [if_neg h2], by omega, by omega, by omega⟩)
theorem num_stuck (l : List Nat) (s : St) (size : Nat) (low high : Int) (h : s.code ≠ 0) : num l s size low high = (0, s) := by unfold num; rw [if_pos h]
theorem flt_stuck (l : List Nat) (s : St) (h : s.code ≠ 0) : flt l s = (0, s) := by unfold flt; rw [if_pos h]

/-! ### the walk -/
set_option maxHeartbeats 1000000 in
theorem walk (a0 : Option Addr) (len0 cap0 : Nat) (z0 : List Int) (a1 : Int) (a2 : Int) (a3 : Int) (w : World) (w0 : IsRow .u8 w a0 len0 cap0 z0) (w1 : (Lit.int .i64 a1).wf = true) (w2 : (Lit.int .i64 a2).wf = true) (w3 : (Lit.int .i64 a3).wf = true) :
    Calls Try.prog 6 #[.slice a0 len0 cap0, .int .i64 a1, .int .i64 a2, .int .i64 a3] w fun e w' => e = .returned (.bool true) ∧ Below w.heap.size w w' := by
  obtain ⟨l, rfl, hr, hlc, hcm, hnil⟩ := B.row_raw w0
  have Hr := Lib.hid hr
  have Hn := Lib.hid hnil
  clear w0 hr hnil
  by_cases hl : 60 < l.length
  · go_enter Try.func6, Try.ntmps6
    go_wp2_with fail
    refine (Wa.awake_any _).mono ?_
    rintro e w1 ⟨rfl, hb⟩
    go_wp2
    go_ret
    exact ⟨rfl, hb⟩
  · go_enter Try.func6, Try.ntmps6
    go_wp2_with fail
    refine (new_any a0 cap0 l _ Hr.out (by omega) Hn.out).mono ?_
    rintro e w1 ⟨g, ad, cap, rfl, hg, hx, hrd, hb⟩
    have Rd1 := Lib.hid hrd
    have B1 := Lib.hid hb
    clear hrd hx hb
    go_wp2_with fail
    refine (place_any a1 8 _ (by omega) (by omega)).mono ?_
    rintro e w' ⟨rfl, rfl⟩
    have hk0 := Int.emod_nonneg a1 (show (8 : Int) ≠ 0 by omega)
    have hk1 := Int.emod_lt_of_pos a1 (show (0 : Int) < 8 by omega)
    obtain ⟨k, hk⟩ : ∃ k : Nat, a1 % 8 = k := ⟨_, (Int.toNat_of_nonneg hk0).symm⟩
    rw [hk] at hk0 hk1 ⊢
    clear hk
    have hlim : lim (k : Int) 7 = k := by unfold lim; omega
    go_wp2_with fail
    refine (num_any g ad cap l ⟨0, 0, 0⟩ (k : Int) a2 a3 _ Rd1.out (by omega) ⟨Nat.zero_le _, fun _ => rfl⟩).mono ?_
    rintro e w2 ⟨rfl, hrd, hbut⟩
    rw [hlim] at hrd ⊢
    have B2 := Lib.hid (B1.out.trans (hbut.below B1.out.size hg))
    clear hlim
    rcases num_cases l k a2 a3 with ⟨hnum, hlk⟩ | ⟨hnum, hlk⟩ | ⟨v, hnum, hlk, hv1, hv2⟩
    · rw [hnum] at hrd ⊢
      have Rd2 := Lib.hid hrd
      clear hrd hnum hbut
      go_wp2_with fail
      refine (fault_any g ad cap l 0 2 l.length _ Rd2.out).mono ?_
      rintro e w3 ⟨rfl, hb3⟩
      have hal : Below w3.heap.size w3 (w3.alloc (.cells #[.int .i64 2, .int .i64 l.length] 35)) := (Below.refl _ _).alloc (Nat.le_refl _) _
      have Rd4 := Lib.hid ((Rd2.out.below hb3).below hal)
      have B4 := Lib.hid (chain (chain B2.out hb3) hal)
      have hgl : g < w3.heap.size := (Rd2.out.below hb3).lt
      have hx4 : (w3.alloc (.cells #[.int .i64 2, .int .i64 l.length] 35)).cell? ⟨w3.heap.size, 0, none⟩ = some (.int .i64 2) := by simp
      have hy4 : (w3.alloc (.cells #[.int .i64 2, .int .i64 l.length] 35)).cell? ⟨w3.heap.size, 1, none⟩ = some (.int .i64 l.length) := by simp
      have hw4 : w3.heap.size < (w3.alloc (.cells #[.int .i64 2, .int .i64 l.length] 35)).heap.size := by simp
      have hor : FloatKind.f64.format.order 0 0 = some .eq := by decide
      have hlt2 : decide ((l.length : Int) < (k : Int)) = true := decide_eq_true (by omega)
      go_wp2_with fail
      clear hb3 hal
      generalize w3.alloc (.cells #[.int .i64 2, .int .i64 l.length] 35) = w4 at hx4 hy4 Rd4 B4 hw4 ⊢
      generalize w3.heap.size = fb at hx4 hy4 hgl hw4 ⊢
      refine (num_any g ad cap l ⟨0, 2, l.length⟩ 1 0 255 _ Rd4.out (by omega) ⟨Nat.zero_le _, fun e => by simp at e⟩).mono ?_
      rintro e w5 ⟨rfl, hrd, hbut⟩
      rw [num_stuck _ _ _ _ _ (show (2 : Int) ≠ 0 by decide)] at hrd ⊢
      have hx5 : w5.cell? ⟨fb, 0, none⟩ = some (.int .i64 2) := (hbut.cell hw4 (by simp; omega)).trans hx4
      have hy5 : w5.cell? ⟨fb, 1, none⟩ = some (.int .i64 l.length) := (hbut.cell hw4 (by simp; omega)).trans hy4
      have hw5 : fb < w5.heap.size := Nat.lt_of_lt_of_le hw4 hbut.size
      have Rd5 := Lib.hid hrd
      have B5 := Lib.hid (B4.out.trans (hbut.below B4.out.size hg))
      clear hx4 hy4 hw4 hrd hbut
      go_wp2_with fail
      refine (float_any g ad cap l ⟨0, 2, l.length⟩ _ Rd5.out (by omega) ⟨Nat.zero_le _, fun e => by simp at e⟩).mono ?_
      rintro e w6 ⟨rfl, hrd, hbut⟩
      rw [flt_stuck _ _ (show (2 : Int) ≠ 0 by decide)] at hrd ⊢
      have hx6 : w6.cell? ⟨fb, 0, none⟩ = some (.int .i64 2) := (hbut.cell hw5 (by simp; omega)).trans hx5
      have hy6 : w6.cell? ⟨fb, 1, none⟩ = some (.int .i64 l.length) := (hbut.cell hw5 (by simp; omega)).trans hy5
      have hw6 : fb < w6.heap.size := Nat.lt_of_lt_of_le hw5 hbut.size
      have Rd6 := Lib.hid hrd
      have B6 := Lib.hid (B5.out.trans (hbut.below B5.out.size hg))
      clear hx5 hy5 hw5 hrd hbut
      go_wp2_with fail
      refine (bool_any g ad cap l ⟨0, 2, l.length⟩ _ Rd6.out (by omega) ⟨Nat.zero_le _, fun e => by simp at e⟩).mono ?_
      rintro e w7 ⟨rfl, hrd, hbut⟩
      rw [num_stuck _ _ _ _ _ (show (2 : Int) ≠ 0 by decide)] at hrd ⊢
      have hx7 : w7.cell? ⟨fb, 0, none⟩ = some (.int .i64 2) := (hbut.cell hw6 (by simp; omega)).trans hx6
      have hy7 : w7.cell? ⟨fb, 1, none⟩ = some (.int .i64 l.length) := (hbut.cell hw6 (by simp; omega)).trans hy6
      have hw7 : fb < w7.heap.size := Nat.lt_of_lt_of_le hw6 hbut.size
      have Rd7 := Lib.hid hrd
      have B7 := Lib.hid (B6.out.trans (hbut.below B6.out.size hg))
      clear hx6 hy6 hw6 hrd hbut
      go_wp2_with fail
      refine (at_any g ad cap l 0 2 l.length _ Rd7.out).mono ?_
      rintro e w' ⟨rfl, rfl⟩
      go_wp2_with fail
      refine (left_any g ad cap l 0 2 l.length _ Rd7.out (by omega) (Nat.zero_le _)).mono ?_
      rintro e w' ⟨rfl, n, rfl⟩
      have hdr : Below w7.heap.size w7 (w7.drewN n) := below_drewN (Below.refl _ _) n
      have Rd8 := Lib.hid (Rd7.out.below hdr)
      have B8 := Lib.hid (chain B7.out hdr)
      have hc0 : ∀ p : QB.By (w7.drewN n).heap.size (w7.drewN n), p.world.cell? ⟨fb, 0, none⟩ = some (.int .i64 2) := fun p => (p.below.cell (p := ⟨fb, 0, none⟩) hw7).trans hx7
      have hc1 : ∀ p : QB.By (w7.drewN n).heap.size (w7.drewN n), p.world.cell? ⟨fb, 1, none⟩ = some (.int .i64 l.length) := fun p => (p.below.cell (p := ⟨fb, 1, none⟩) hw7).trans hy7
      clear hx7 hy7
      generalize w7.drewN n = w8 at hc0 hc1 Rd8 B8 ⊢
      clear hdr
      go_wp2_with fail

      refine QB.region_below w8.heap.size (by kernel_rfl) (by kernel_rfl) ?_
      repeat (quiet_step (first
        | (go_at_call 23; exact QB.call_of (Nat.le_refl _) (fun b => fault_any g ad cap l 0 2 l.length _ (Rd8.out.below b)))
        | (go_at_call 7; exact QB.call_of (Nat.le_refl _) (fun b => Wa.awake_any _))))
      refine wpQuiet_nil ?_
      intro _ hw'
      obtain ⟨p, rfl⟩ := hw'
      have Hp := Lib.hid (chain B8.out p.below)
      go_wp2
      go_ret
      exact ⟨rfl, Hp.out⟩
    · rw [hnum] at hrd ⊢
      have Rd2 := Lib.hid hrd
      clear hrd hnum hbut
      go_wp2_with fail
      refine (fault_any g ad cap l 0 4 0 _ Rd2.out).mono ?_
      rintro e w3 ⟨rfl, hb3⟩
      have hal : Below w3.heap.size w3 (w3.alloc (.cells #[.int .i64 4, .int .i64 0] 35)) := (Below.refl _ _).alloc (Nat.le_refl _) _
      have Rd4 := Lib.hid ((Rd2.out.below hb3).below hal)
      have B4 := Lib.hid (chain (chain B2.out hb3) hal)
      have hgl : g < w3.heap.size := (Rd2.out.below hb3).lt
      have hx4 : (w3.alloc (.cells #[.int .i64 4, .int .i64 0] 35)).cell? ⟨w3.heap.size, 0, none⟩ = some (.int .i64 4) := by simp
      have hy4 : (w3.alloc (.cells #[.int .i64 4, .int .i64 0] 35)).cell? ⟨w3.heap.size, 1, none⟩ = some (.int .i64 0) := by simp
      have hw4 : w3.heap.size < (w3.alloc (.cells #[.int .i64 4, .int .i64 0] 35)).heap.size := by simp
      have hor : FloatKind.f64.format.order 0 0 = some .eq := by decide
      have hlt2 : decide ((l.length : Int) ≥ (k : Int)) = true := decide_eq_true (by omega)
      go_wp2_with fail
      clear hb3 hal
      generalize w3.alloc (.cells #[.int .i64 4, .int .i64 0] 35) = w4 at hx4 hy4 Rd4 B4 hw4 ⊢
      generalize w3.heap.size = fb at hx4 hy4 hgl hw4 ⊢
      refine (num_any g ad cap l ⟨0, 4, 0⟩ 1 0 255 _ Rd4.out (by omega) ⟨Nat.zero_le _, fun e => by simp at e⟩).mono ?_
      rintro e w5 ⟨rfl, hrd, hbut⟩
      rw [num_stuck _ _ _ _ _ (show (4 : Int) ≠ 0 by decide)] at hrd ⊢
      have hx5 : w5.cell? ⟨fb, 0, none⟩ = some (.int .i64 4) := (hbut.cell hw4 (by simp; omega)).trans hx4
      have hy5 : w5.cell? ⟨fb, 1, none⟩ = some (.int .i64 0) := (hbut.cell hw4 (by simp; omega)).trans hy4
      have hw5 : fb < w5.heap.size := Nat.lt_of_lt_of_le hw4 hbut.size
      have Rd5 := Lib.hid hrd
      have B5 := Lib.hid (B4.out.trans (hbut.below B4.out.size hg))
      clear hx4 hy4 hw4 hrd hbut
      go_wp2_with fail
      refine (float_any g ad cap l ⟨0, 4, 0⟩ _ Rd5.out (by omega) ⟨Nat.zero_le _, fun e => by simp at e⟩).mono ?_
      rintro e w6 ⟨rfl, hrd, hbut⟩
      rw [flt_stuck _ _ (show (4 : Int) ≠ 0 by decide)] at hrd ⊢
      have hx6 : w6.cell? ⟨fb, 0, none⟩ = some (.int .i64 4) := (hbut.cell hw5 (by simp; omega)).trans hx5
      have hy6 : w6.cell? ⟨fb, 1, none⟩ = some (.int .i64 0) := (hbut.cell hw5 (by simp; omega)).trans hy5
      have hw6 : fb < w6.heap.size := Nat.lt_of_lt_of_le hw5 hbut.size
      have Rd6 := Lib.hid hrd
      have B6 := Lib.hid (B5.out.trans (hbut.below B5.out.size hg))
      clear hx5 hy5 hw5 hrd hbut
      go_wp2_with fail
      refine (bool_any g ad cap l ⟨0, 4, 0⟩ _ Rd6.out (by omega) ⟨Nat.zero_le _, fun e => by simp at e⟩).mono ?_
      rintro e w7 ⟨rfl, hrd, hbut⟩
      rw [num_stuck _ _ _ _ _ (show (4 : Int) ≠ 0 by decide)] at hrd ⊢
      have hx7 : w7.cell? ⟨fb, 0, none⟩ = some (.int .i64 4) := (hbut.cell hw6 (by simp; omega)).trans hx6
      have hy7 : w7.cell? ⟨fb, 1, none⟩ = some (.int .i64 0) := (hbut.cell hw6 (by simp; omega)).trans hy6
      have hw7 : fb < w7.heap.size := Nat.lt_of_lt_of_le hw6 hbut.size
      have Rd7 := Lib.hid hrd
      have B7 := Lib.hid (B6.out.trans (hbut.below B6.out.size hg))
      clear hx6 hy6 hw6 hrd hbut
      go_wp2_with fail
      refine (at_any g ad cap l 0 4 0 _ Rd7.out).mono ?_
      rintro e w' ⟨rfl, rfl⟩
      go_wp2_with fail
      refine (left_any g ad cap l 0 4 0 _ Rd7.out (by omega) (Nat.zero_le _)).mono ?_
      rintro e w' ⟨rfl, n, rfl⟩
      have hdr : Below w7.heap.size w7 (w7.drewN n) := below_drewN (Below.refl _ _) n
      have Rd8 := Lib.hid (Rd7.out.below hdr)
      have B8 := Lib.hid (chain B7.out hdr)
      have hc0 : ∀ p : QB.By (w7.drewN n).heap.size (w7.drewN n), p.world.cell? ⟨fb, 0, none⟩ = some (.int .i64 4) := fun p => (p.below.cell (p := ⟨fb, 0, none⟩) hw7).trans hx7
      have hc1 : ∀ p : QB.By (w7.drewN n).heap.size (w7.drewN n), p.world.cell? ⟨fb, 1, none⟩ = some (.int .i64 0) := fun p => (p.below.cell (p := ⟨fb, 1, none⟩) hw7).trans hy7
      clear hx7 hy7
      generalize w7.drewN n = w8 at hc0 hc1 Rd8 B8 ⊢
      clear hdr
      go_wp2_with fail

      refine QB.region_below w8.heap.size (by kernel_rfl) (by kernel_rfl) ?_
      repeat (quiet_step (first
        | (go_at_call 23; exact QB.call_of (Nat.le_refl _) (fun b => fault_any g ad cap l 0 4 0 _ (Rd8.out.below b)))
        | (go_at_call 7; exact QB.call_of (Nat.le_refl _) (fun b => Wa.awake_any _))))
      refine wpQuiet_nil ?_
      intro _ hw'
      obtain ⟨p, rfl⟩ := hw'
      have Hp := Lib.hid (chain B8.out p.below)
      go_wp2
      go_ret
      exact ⟨rfl, Hp.out⟩
    · rw [hnum] at hrd ⊢
      have Rd2 := Lib.hid hrd
      clear hrd hnum hbut
      go_wp2_with fail
      refine (fault_any g ad cap l k 0 0 _ Rd2.out).mono ?_
      rintro e w3 ⟨rfl, hb3⟩
      have Rd3 := Lib.hid (Rd2.out.below hb3)
      have B3 := Lib.hid (chain B2.out hb3)
      clear hb3
      have hal : Below w3.heap.size w3 (w3.alloc (.cells #[.int .i64 0, .int .i64 0] 35)) := (Below.refl _ _).alloc (Nat.le_refl _) _
      have Rd4 := Lib.hid (Rd3.out.below hal)
      have B4 := Lib.hid (chain B3.out hal)
      have hd1 : decide (v ≥ a2) = true := decide_eq_true (by omega)
      have hd2 : decide (v ≤ a3) = true := decide_eq_true (by omega)
      have hd3 : decide ((l.length : Int) ≥ (k : Int)) = true := decide_eq_true (by omega)
      go_wp2_with fail
      refine (at_any g ad cap l k 0 0 _ Rd4.out).mono ?_
      rintro e w' ⟨rfl, rfl⟩
      go_wp2_with fail
      refine (Wa.awake_any _).mono ?_
      rintro e w5 ⟨rfl, hb5⟩
      have B5 := Lib.hid (chain B4.out hb5)
      clear hb5
      go_wp2
      go_ret
      exact ⟨rfl, B5.out⟩

/-! ### the row's step -/
set_option maxRecDepth 100000 in
theorem lifted (os : Os) (started : os.Started) (H : Type) (enc : TypeId × Value → H) :
    ReturnsInHanded {} Try.checked os 6 .any (Rows.wireEndsSpec.pre6 enc Try.prog Try.f6 Rows.wireEndsRow.domain false) (Rows.wireEndsSpec.post enc Try.prog Try.f6 false true false false) := by
  refine returnsInHanded_of_change (C := Try.checked) own started (by kernel_rfl) Try.func6
    (ChangeSpec.witness6 (enc := enc) (C := Try.checked) false ⟨#[], #[.slice none 0 0, .int .i64 0, .int .i64 0, .int .i64 0], []⟩ 8 (by kernel_rfl) (by kernel_rfl) (by kernel_rfl) (by kernel_rfl)) ?_
  intro W base args ds gs before hval0 hW hcnd _
  have hval : ∀ (j : Nat) t v, Try.f6.params[j]? = some t → args[j]? = some v → Value.okWide Try.prog W .any base t v := hval0
  have hW' := hW
  obtain ⟨p, q, hA0, hV, rfl, hfz, hnd⟩ := hW
  have hA : DataW.TrodAll enc Try.prog W 0 (fun _ => true) true Try.f6.params.toList args.toList ds p := hA0
  rw [Try.params6] at hA hval
  obtain ⟨v0, vs0, d0, ds0, p0, q0, hargs, rfl, rfl, h0, r0⟩ := trodAll_cons hA
  obtain ⟨v1, vs1, d1, ds1, p1, q1, rfl, rfl, rfl, h1, r1⟩ := trodAll_cons r0
  obtain ⟨v2, vs2, d2, ds2, p2, q2, rfl, rfl, rfl, h2, r2⟩ := trodAll_cons r1
  obtain ⟨v3, vs3, d3, ds3, p3, q3, rfl, rfl, rfl, h3, r3⟩ := trodAll_cons r2
  obtain ⟨rfl, rfl, rfl⟩ := trodAll_nil r3
  obtain rfl : args = #[v0, v1, v2, v3] := by cases args; simp_all
  obtain ⟨rfl, rfl⟩ := trodVars_none hV
  obtain ⟨a0, len0, cap0, rfl⟩ := okWide_slice Try.underlying22 (hval 0 22 v0 rfl rfl)
  have k0 := h0
  have lt0 : ∀ x ∈ p0, x.block < W.heap.size := by obtain ⟨m, hm⟩ := k0; exact DataW.trod_lt m _ _ _ hm
  obtain ⟨z0, w0⟩ : ∃ zs, IsRow .u8 W a0 len0 cap0 zs := by
    obtain ⟨fuel, hf⟩ := h0
    rcases open_ints Try.underlying22 Try.underlying5 (by kernel_rfl) hf with ⟨hcs, _⟩ | ⟨x, l, c, zs, hcs, _, hl, hm, hz, _, hcell, hwz⟩
    · simp [Value.cells] at hcs
      obtain ⟨rfl, rfl, rfl⟩ := hcs
      exact ⟨[], .inl ⟨rfl, rfl, rfl, rfl⟩⟩
    · simp [Value.cells] at hcs
      obtain ⟨rfl, rfl, rfl⟩ := hcs
      exact ⟨zs, .inr ⟨_, rfl, hl, hm, by simpa using hz, hcell, hwz⟩⟩
  obtain ⟨a1, rfl, rfl, rfl, w1⟩ := open_int Try.underlying3 (hval 1 3 v1 rfl rfl) h1
  obtain ⟨a2, rfl, rfl, rfl, w2⟩ := open_int Try.underlying3 (hval 2 3 v2 rfl rfl) h2
  obtain ⟨a3, rfl, rfl, rfl, w3⟩ := open_int Try.underlying3 (hval 3 3 v3 rfl rfl) h3
  clear hA0 hval0
  refine (walk a0 len0 cap0 z0 a1 a2 a3 W w0 w1 w2 w3).mono fun e W' ⟨he, bel⟩ => ?_
  subst he
  exact ⟨_, rfl, _, _, _, [], _, [], hW', trodAll_mk1 (shut_bool Try.underlying4 _), (trodAll_cons_mk (Below.trod laidOut (by kernel_rfl) (of_decide_eq_true (by kernel_rfl)) k0 bel lt0) (trodAll_cons_mk (shut_int Try.underlying3 w1) (trodAll_cons_mk (shut_int Try.underlying3 w2) (trodAll_cons_mk (shut_int Try.underlying3 w3) trodAll_mk0)))), rfl, bel.frame _, fun h => by cases h⟩

theorem over : Rows.wireEndsRow.holds Try.pinned (OpenSpec.ofChange Rows.wireEndsSpec) :=
  OpenClaim.holds_of_wide 6 Try.f6 rfl rfl rfl rfl rfl rfl rfl ⟨rfl, rfl, rfl, rfl, rfl⟩ rfl rfl rfl rfl rfl (by kernel_rfl) Try.func6 (by kernel_rfl)
    (of_decide_eq_true (by kernel_rfl)) (by unfold Func.isWrapper; first | (rw [if_pos (by decide +kernel)]; kernel_rfl) | (rw [if_neg (by decide +kernel)]; exact ⟨rfl, rfl⟩))
    (fun os started H enc _ => lifted os started H enc)

/-- the statement -/
theorem proved : Rows.WireEndsSaid :=
  over
#print axioms proved
end Go.Proofs.Ytmffgdgnaafbpaa.wireEnds
