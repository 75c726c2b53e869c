/- SecsRise returns true at any three float64s: Ticks does not decrease, and what lies between two accepted numbers is accepted. No condition. -/
import Derived.Test.YtngimfbfdbifgaaRows
import Derived.Test.YtngimfbfdbifgaaSecsV
import Derived.WalkKit
import Derived.WalkLawsBesides
import Derived.ProofKit
import Derived.OpenShut
namespace Go.Proofs.Ytngimfbfdbifgaa.secsRise
open Go.ChangeShapes Go.WideShapes Go.ChangeAt Go.RowKit
open Go.Proofs.Fl Secs
set_option linter.unusedVariables false
set_option linter.unusedSimpArgs false

theorem own : ownKnob Try.prog.godebug = none := by kernel_rfl

/-- whatever Ticks gives -/
theorem ticks_some (s : Nat) (w : World) : Calls Try.prog 8 #[.float .f64 s] w fun e w' => ∃ (n : Int) (b : Bool), e = .returned (.tuple #[.int .i64 n, .bool b]) ∧ w = w' := by
  cases h : ok s
  · exact (ticks_no quo_holds h w).mono fun _ _ h => ⟨_, _, h⟩
  · exact (ticks_yes quo_holds h w).mono fun _ _ h => ⟨_, _, h⟩
theorem le_num {x y : Nat} (h : (FloatKind.f64.format.order x y == some .lt || FloatKind.f64.format.order x y == some .eq) = true) : isn x = false ∧ isn y = false ∧ key x ≤ key y := by
  cases hx : isn x
  · cases hy : isn y
    · have := o_le hx hy
      exact ⟨rfl, rfl, of_decide_eq_true (this.symm.trans h)⟩
    · rw [ord_nan x y (.inr hy)] at h; exact absurd h (by decide)
  · rw [ord_nan x y (.inl hx)] at h; exact absurd h (by decide)
theorem tk_rise {x y : Nat} (hx : ok x = true) (hy : ok y = true) (h : key x ≤ key y) : tk x ≤ tk y := by
  obtain ⟨_, a1, a2⟩ := (ok_iff x).1 hx
  obtain ⟨_, b1, b2⟩ := (ok_iff y).1 hy
  apply tk_mono
  unfold key at *
  split at h <;> split at h <;> simp_all <;> omega
theorem ok_between {x y z : Nat} (hx : ok x = true) (hz : ok z = true) (hy : isn y = false) (h1 : key x ≤ key y) (h2 : key y ≤ key z) : ok y = true := by
  obtain ⟨_, a1, a2⟩ := (ok_iff x).1 hx
  obtain ⟨_, b1, b2⟩ := (ok_iff z).1 hz
  exact (ok_iff y).2 ⟨hy, by omega, by omega⟩

/-! ### the walk -/
set_option maxHeartbeats 2000000 in
theorem walk (a0 : Nat) (a1 : Nat) (a2 : Nat) (w0 : (Lit.float .f64 a0).wf = true) (w1 : (Lit.float .f64 a1).wf = true) (w2 : (Lit.float .f64 a2).wf = true) (w : World) :
    Calls Try.prog 5 #[.float .f64 a0, .float .f64 a1, .float .f64 a2] w fun e w' => e = .returned (.bool true) ∧ Grown w w' := by
  clear w0 w1 w2
  cases h1 : (FloatKind.f64.format.order a0 a1 == some .lt || FloatKind.f64.format.order a0 a1 == some .eq)
  · go_enter Try.func5, Try.ntmps5
    go_wp2_with (first
      | (go_at_call 8; ((with_reducible refine (ticks_some _ _).mono ?_); rintro e w' ⟨_, _, rfl, rfl⟩))
      | (go_at_call 13; ((with_reducible refine (awake_any quo_holds _).mono ?_); rintro e w' ⟨rfl, rfl⟩)))
    go_ret
    exact ⟨rfl, Grown.refl _⟩
  cases h2 : (FloatKind.f64.format.order a1 a2 == some .lt || FloatKind.f64.format.order a1 a2 == some .eq)
  · go_enter Try.func5, Try.ntmps5
    go_wp2_with (first
      | (go_at_call 8; ((with_reducible refine (ticks_some _ _).mono ?_); rintro e w' ⟨_, _, rfl, rfl⟩))
      | (go_at_call 13; ((with_reducible refine (awake_any quo_holds _).mono ?_); rintro e w' ⟨rfl, rfl⟩)))
    go_ret
    exact ⟨rfl, Grown.refl _⟩
  obtain ⟨n0, n1, k1⟩ := le_num h1
  obtain ⟨-, n2, k2⟩ := le_num h2
  cases o0 : ok a0 <;> cases o1 : ok a1 <;> cases o2 : ok a2
  · have H0 := Lib.hid o0
    have H1 := Lib.hid o1
    have H2 := Lib.hid o2
    clear o0 o1 o2 k1 k2 n0 n1 n2
    go_enter Try.func5, Try.ntmps5
    go_wp2_with (first
      | (go_at_call 8; ((with_reducible refine (ticks_no quo_holds H0.out _).mono ?_); rintro e w' ⟨rfl, rfl⟩))
      | (go_at_call 8; ((with_reducible refine (ticks_no quo_holds H1.out _).mono ?_); rintro e w' ⟨rfl, rfl⟩))
      | (go_at_call 8; ((with_reducible refine (ticks_no quo_holds H2.out _).mono ?_); rintro e w' ⟨rfl, rfl⟩))
      | (go_at_call 13; ((with_reducible refine (awake_any quo_holds _).mono ?_); rintro e w' ⟨rfl, rfl⟩)))
    go_ret
    exact ⟨rfl, Grown.refl _⟩
  · have H0 := Lib.hid o0
    have H1 := Lib.hid o1
    have H2 := Lib.hid o2
    clear o0 o1 o2 k1 k2 n0 n1 n2
    go_enter Try.func5, Try.ntmps5
    go_wp2_with (first
      | (go_at_call 8; ((with_reducible refine (ticks_no quo_holds H0.out _).mono ?_); rintro e w' ⟨rfl, rfl⟩))
      | (go_at_call 8; ((with_reducible refine (ticks_no quo_holds H1.out _).mono ?_); rintro e w' ⟨rfl, rfl⟩))
      | (go_at_call 8; ((with_reducible refine (ticks_yes quo_holds H2.out _).mono ?_); rintro e w' ⟨rfl, rfl⟩))
      | (go_at_call 13; ((with_reducible refine (awake_any quo_holds _).mono ?_); rintro e w' ⟨rfl, rfl⟩)))
    go_ret
    exact ⟨rfl, Grown.refl _⟩
  · have H0 := Lib.hid o0
    have H1 := Lib.hid o1
    have H2 := Lib.hid o2
    clear o0 o1 o2 k1 k2 n0 n1 n2
    go_enter Try.func5, Try.ntmps5
    go_wp2_with (first
      | (go_at_call 8; ((with_reducible refine (ticks_no quo_holds H0.out _).mono ?_); rintro e w' ⟨rfl, rfl⟩))
      | (go_at_call 8; ((with_reducible refine (ticks_yes quo_holds H1.out _).mono ?_); rintro e w' ⟨rfl, rfl⟩))
      | (go_at_call 8; ((with_reducible refine (ticks_no quo_holds H2.out _).mono ?_); rintro e w' ⟨rfl, rfl⟩))
      | (go_at_call 13; ((with_reducible refine (awake_any quo_holds _).mono ?_); rintro e w' ⟨rfl, rfl⟩)))
    go_ret
    exact ⟨rfl, Grown.refl _⟩
  · have t12 := tk_rise o1 o2 k2
    have u12 : (tk a1 : Int) ≤ (tk a2 : Int) := by omega
    have H0 := Lib.hid o0
    have H1 := Lib.hid o1
    have H2 := Lib.hid o2
    clear o0 o1 o2 k1 k2 n0 n1 n2
    go_enter Try.func5, Try.ntmps5
    go_wp2_with (first
      | (go_at_call 8; ((with_reducible refine (ticks_no quo_holds H0.out _).mono ?_); rintro e w' ⟨rfl, rfl⟩))
      | (go_at_call 8; ((with_reducible refine (ticks_yes quo_holds H1.out _).mono ?_); rintro e w' ⟨rfl, rfl⟩))
      | (go_at_call 8; ((with_reducible refine (ticks_yes quo_holds H2.out _).mono ?_); rintro e w' ⟨rfl, rfl⟩))
      | (go_at_call 13; ((with_reducible refine (awake_any quo_holds _).mono ?_); rintro e w' ⟨rfl, rfl⟩)))
    go_ret
    exact ⟨rfl, Grown.refl _⟩
  · have H0 := Lib.hid o0
    have H1 := Lib.hid o1
    have H2 := Lib.hid o2
    clear o0 o1 o2 k1 k2 n0 n1 n2
    go_enter Try.func5, Try.ntmps5
    go_wp2_with (first
      | (go_at_call 8; ((with_reducible refine (ticks_yes quo_holds H0.out _).mono ?_); rintro e w' ⟨rfl, rfl⟩))
      | (go_at_call 8; ((with_reducible refine (ticks_no quo_holds H1.out _).mono ?_); rintro e w' ⟨rfl, rfl⟩))
      | (go_at_call 8; ((with_reducible refine (ticks_no quo_holds H2.out _).mono ?_); rintro e w' ⟨rfl, rfl⟩))
      | (go_at_call 13; ((with_reducible refine (awake_any quo_holds _).mono ?_); rintro e w' ⟨rfl, rfl⟩)))
    go_ret
    exact ⟨rfl, Grown.refl _⟩
  · rw [ok_between o0 o2 n1 k1 k2] at o1; exact absurd o1 (by decide)
  · have t01 := tk_rise o0 o1 k1
    have u01 : (tk a0 : Int) ≤ (tk a1 : Int) := by omega
    have H0 := Lib.hid o0
    have H1 := Lib.hid o1
    have H2 := Lib.hid o2
    clear o0 o1 o2 k1 k2 n0 n1 n2
    go_enter Try.func5, Try.ntmps5
    go_wp2_with (first
      | (go_at_call 8; ((with_reducible refine (ticks_yes quo_holds H0.out _).mono ?_); rintro e w' ⟨rfl, rfl⟩))
      | (go_at_call 8; ((with_reducible refine (ticks_yes quo_holds H1.out _).mono ?_); rintro e w' ⟨rfl, rfl⟩))
      | (go_at_call 8; ((with_reducible refine (ticks_no quo_holds H2.out _).mono ?_); rintro e w' ⟨rfl, rfl⟩))
      | (go_at_call 13; ((with_reducible refine (awake_any quo_holds _).mono ?_); rintro e w' ⟨rfl, rfl⟩)))
    go_ret
    exact ⟨rfl, Grown.refl _⟩
  · have t01 := tk_rise o0 o1 k1
    have u01 : (tk a0 : Int) ≤ (tk a1 : Int) := by omega
    have t12 := tk_rise o1 o2 k2
    have u12 : (tk a1 : Int) ≤ (tk a2 : Int) := by omega
    have t02 := tk_rise o0 o2 (Int.le_trans k1 k2)
    have u02 : (tk a0 : Int) ≤ (tk a2 : Int) := by omega
    have H0 := Lib.hid o0
    have H1 := Lib.hid o1
    have H2 := Lib.hid o2
    clear o0 o1 o2 k1 k2 n0 n1 n2
    go_enter Try.func5, Try.ntmps5
    go_wp2_with (first
      | (go_at_call 8; ((with_reducible refine (ticks_yes quo_holds H0.out _).mono ?_); rintro e w' ⟨rfl, rfl⟩))
      | (go_at_call 8; ((with_reducible refine (ticks_yes quo_holds H1.out _).mono ?_); rintro e w' ⟨rfl, rfl⟩))
      | (go_at_call 8; ((with_reducible refine (ticks_yes quo_holds H2.out _).mono ?_); rintro e w' ⟨rfl, rfl⟩))
      | (go_at_call 13; ((with_reducible refine (awake_any quo_holds _).mono ?_); rintro e w' ⟨rfl, rfl⟩)))
    go_ret
    exact ⟨rfl, Grown.refl _⟩

/-! ### the row's step -/
set_option maxRecDepth 100000 in
theorem lifted (os : Os) (started : os.Started) (H : Type) (enc : TypeId × Value → H) :
    ReturnsInHanded {} Try.checked os 5 .any (Rows.secsRiseSpec.pre6 enc Try.prog Try.f5 Rows.secsRiseRow.domain false) (Rows.secsRiseSpec.post enc Try.prog Try.f5 false true false false) := by
  refine returnsInHanded_of_change (C := Try.checked) own started (by kernel_rfl) Try.func5
    (ChangeSpec.witness6 (enc := enc) (C := Try.checked) false ⟨#[], #[.float .f64 0, .float .f64 0, .float .f64 0], []⟩ 8 (by kernel_rfl) (by kernel_rfl) (by kernel_rfl) (by kernel_rfl)) ?_
  intro W base args ds gs before hval0 hW hcnd _
  have hval : ∀ (j : Nat) t v, Try.f5.params[j]? = some t → args[j]? = some v → Value.okWide Try.prog W .any base t v := hval0
  have hW' := hW
  obtain ⟨p, q, hA0, hV, rfl, hfz, hnd⟩ := hW
  have hA : DataW.TrodAll enc Try.prog W 0 (fun _ => true) true Try.f5.params.toList args.toList ds p := hA0
  rw [Try.params5] at hA hval
  obtain ⟨v0, vs0, d0, ds0, p0, q0, hargs, rfl, rfl, h0, r0⟩ := trodAll_cons hA
  obtain ⟨v1, vs1, d1, ds1, p1, q1, rfl, rfl, rfl, h1, r1⟩ := trodAll_cons r0
  obtain ⟨v2, vs2, d2, ds2, p2, q2, rfl, rfl, rfl, h2, r2⟩ := trodAll_cons r1
  obtain ⟨rfl, rfl, rfl⟩ := trodAll_nil r2
  obtain rfl : args = #[v0, v1, v2] := by cases args; simp_all
  obtain ⟨rfl, rfl⟩ := trodVars_none hV
  obtain ⟨a0, rfl, rfl, rfl, w0⟩ := open_float Try.underlying22 (hval 0 22 v0 rfl rfl) h0
  obtain ⟨a1, rfl, rfl, rfl, w1⟩ := open_float Try.underlying22 (hval 1 22 v1 rfl rfl) h1
  obtain ⟨a2, rfl, rfl, rfl, w2⟩ := open_float Try.underlying22 (hval 2 22 v2 rfl rfl) h2
  clear hA0 hval0
  simp only [List.append_nil] at hW'
  refine (walk a0 a1 a2 w0 w1 w2 W).mono fun e W' ⟨he, hg⟩ => ?_
  subst he
  exact ⟨_, rfl, post_of_same (pa := []) (pv := []) hW' (fun _ _ _ => (trodAll_cons_mk (shut_bool Try.underlying4 _) trodAll_mk0)) (fun sp _ => (trodAll_cons_mk (shut_float Try.underlying22 w0) (trodAll_cons_mk (shut_float Try.underlying22 w1) (trodAll_cons_mk (shut_float Try.underlying22 w2) trodAll_mk0)))) (fun _ _ => rfl) rfl
    (hg.frame _) hg.2.1 (ok_one (by kernel_rfl) rfl (okWide_bool_mk Try.underlying4 _))⟩

theorem over : Rows.secsRiseRow.holds Try.pinned (OpenSpec.ofChange Rows.secsRiseSpec) :=
  OpenClaim.holds_of_wide 5 Try.f5 rfl rfl rfl rfl rfl rfl rfl ⟨rfl, rfl, rfl, rfl, rfl⟩ rfl rfl rfl rfl rfl (by kernel_rfl) Try.func5 (by kernel_rfl)
    (of_decide_eq_true (by kernel_rfl)) (by unfold Func.isWrapper; first | (rw [if_pos (by decide +kernel)]; kernel_rfl) | (rw [if_neg (by decide +kernel)]; exact ⟨rfl, rfl⟩))
    (fun os started H enc _ => lifted os started H enc)

/-- the statement -/
theorem proved : Rows.SecsRiseSaid :=
  over
#print axioms proved
end Go.Proofs.Ytngimfbfdbifgaa.secsRise
