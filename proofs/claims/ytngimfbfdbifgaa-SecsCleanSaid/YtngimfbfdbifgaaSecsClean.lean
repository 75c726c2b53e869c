/- SecsClean returns true at any float64: what Clean returns is from 0 to 999.9, has ticks, is no -0 and is clean. No condition. -/
import Derived.Test.YtngimfbfdbifgaaRows
import Derived.Test.YtngimfbfdbifgaaSecsV
import Derived.WalkKit
import Derived.WalkLawsBesides
import Derived.ProofKit
import Derived.OpenShut
namespace Go.Proofs.Ytngimfbfdbifgaa.secsClean
open Go.ChangeShapes Go.WideShapes Go.ChangeAt Go.RowKit
open Go.Proofs.Fl Secs
set_option linter.unusedVariables false
set_option linter.unusedSimpArgs false

theorem own : ownKnob Try.prog.godebug = none := by kernel_rfl

theorem cl_bits {s : Nat} (h : s < 18446744073709551616) : cl s < 18446744073709551616 := by
  unfold cl; split <;> (try split) <;> (try split) <;> omega
theorem cl_ok (s : Nat) : ok (cl s) = true ∧ (key (cl s) = 0 → cl s = 0) := by
  unfold cl
  by_cases h : isn s = true
  · rw [if_pos h]; exact ⟨by decide, fun _ => rfl⟩
  · rw [if_neg h]
    by_cases h1 : 4652006429231887155 < key s
    · rw [if_pos h1]; exact ⟨by decide, fun e => absurd e (by decide)⟩
    · rw [if_neg h1]
      by_cases h2 : 0 < key s
      · rw [if_pos h2]
        exact ⟨(ok_iff s).2 ⟨by simpa using h, by omega, by omega⟩, fun e => by omega⟩
      · rw [if_neg h2]; exact ⟨by decide, fun _ => rfl⟩
theorem cl_cl (s : Nat) : cl (cl s) = cl s := by
  obtain ⟨h, h0⟩ := cl_ok s
  obtain ⟨hn, h1, h2⟩ := (ok_iff _).1 h
  generalize cl s = c at *
  unfold cl
  rw [hn, if_neg (by simp), if_neg (by omega)]
  by_cases h3 : 0 < key c
  · rw [if_pos h3]
  · rw [if_neg h3, h0 (by omega)]
/-- what may be as it is has the same ticks when it is cleaned, and is equal -/
theorem cl_same {s : Nat} (h : ok s = true) : tk (cl s) = tk s ∧ key (cl s) = key s := by
  obtain ⟨hn, h1, h2⟩ := (ok_iff _).1 h
  have e : cl s = if 0 < key s then s else 0 := by unfold cl; rw [hn, if_neg (by simp), if_neg (by omega)]
  by_cases h3 : 0 < key s
  · rw [e, if_pos h3]; exact ⟨rfl, rfl⟩
  · rw [e, if_neg h3]
    have hk : key s = 0 := by omega
    have hr : rung s = 0 := by unfold key at hk; split at hk <;> omega
    rw [tk_zero hr, tk_zero (s := 0) rfl]
    exact ⟨rfl, hk.symm⟩
theorem neg_zero : Op.negFloat .f64 (ofB (cut 0)) = 9223372036854775808 := by decide +kernel
/-- what the walk is told of a cleaned number -/
structure Told (s c : Nat) : Prop where
  cl_s : cl s = c
  s_lt : s < 18446744073709551616
  c_lt : c < 18446744073709551616
  c_ok : ok c = true
  cl_c : cl c = c
  c_ne : c ≠ 9223372036854775808
theorem t_clean {s c : Nat} (t : Told s c) (w : World) : Calls Try.prog 11 #[.float .f64 s] w fun e w' => e = .returned (.float .f64 c) ∧ w = w' := by
  rw [← t.cl_s]; exact clean_any quo_holds s t.s_lt w
theorem t_again {s c : Nat} (t : Told s c) (w : World) : Calls Try.prog 11 #[.float .f64 c] w fun e w' => e = .returned (.float .f64 c) ∧ w = w' :=
  (clean_any quo_holds c t.c_lt w).mono fun _ _ ⟨a, b⟩ => ⟨by rw [a, t.cl_c], b⟩
theorem t_ticks {s c : Nat} (t : Told s c) (w : World) : Calls Try.prog 8 #[.float .f64 c] w fun e w' => e = .returned (.tuple #[.int .i64 (tk c), .bool true]) ∧ w = w' :=
  ticks_yes quo_holds t.c_ok w
theorem t_not {s c : Nat} (t : Told s c) (w : World) : Calls Try.prog 10 #[.float .f64 c, .float .f64 9223372036854775808] w fun e w' => e = .returned (.bool false) ∧ w = w' :=
  alike_not t.c_ne ((ok_iff c).1 t.c_ok).1 w
theorem yes_of {s n : Nat} (h : ok s = true ∧ tk s = n) (w : World) : Calls Try.prog 8 #[.float .f64 s] w fun e w' => e = .returned (.tuple #[.int .i64 n, .bool true]) ∧ w = w' := by
  rw [← h.2]; exact ticks_yes quo_holds h.1 w
theorem neg_run (w : World) : (Op.unary .neg (.float .f64 (ofB (cut 0)))).run Try.prog w = .ok (.float .f64 9223372036854775808) w := by
  rw [← neg_zero]; rfl

set_option maxHeartbeats 2000000 in
theorem w_no (s c : Nat) (T : Told s c) (hF : ok s = false) (w : World) :
    Calls Try.prog 6 #[.float .f64 s] w fun e w' => e = .returned (.bool true) ∧ Grown w w' := by
  obtain ⟨hn, k1, k2⟩ := (ok_iff c).1 T.c_ok
  have h0 := ord_cases c 0 hn isn0
  have hT := ord_cases c 4652006429231887155 hn isnT
  rw [key0] at h0
  rw [keyT] at hT
  have hneg := neg_run
  have HTold := Lib.hid T
  have HF := Lib.hid hF
  clear T hF hn
  rcases h0 with ⟨a, ho⟩ | ⟨a, ho⟩ | ⟨a, ho⟩
  · omega
  all_goals
    rcases hT with ⟨b, ho2⟩ | ⟨b, ho2⟩ | ⟨b, ho2⟩
    rotate_right
    · omega
    all_goals
      clear a b k1 k2
      go_enter Try.func6, Try.ntmps6
      go_wp2_with (first
        | (go_at_call 11; ((with_reducible refine (t_clean HTold.out _).mono ?_); rintro e w' ⟨rfl, rfl⟩))
        | (go_at_call 11; ((with_reducible refine (t_again HTold.out _).mono ?_); rintro e w' ⟨rfl, rfl⟩))
        | (go_at_call 8; ((with_reducible refine (t_ticks HTold.out _).mono ?_); rintro e w' ⟨rfl, rfl⟩))
        | (go_at_call 8; ((with_reducible refine (ticks_no quo_holds HF.out _).mono ?_); rintro e w' ⟨rfl, rfl⟩))
        | (go_at_call 10; ((with_reducible refine (alike_self _ _).mono ?_); rintro e w' ⟨rfl, rfl⟩))
        | (go_at_call 15; ((with_reducible refine (of_any quo_holds _ _).mono ?_); rintro e w' ⟨rfl, rfl⟩))
        | (go_at_call 10; ((with_reducible refine (t_not HTold.out _).mono ?_); rintro e w' ⟨rfl, rfl⟩))
        | (go_at_call 13; ((with_reducible refine (awake_any quo_holds _).mono ?_); rintro e w' ⟨rfl, rfl⟩))
        | simp only [hneg])
      go_ret
      exact ⟨rfl, Grown.refl _⟩

set_option maxHeartbeats 2000000 in
theorem w_yes (s c : Nat) (T : Told s c) (hF : ok s = true ∧ tk s = tk c) (ho4 : FloatKind.f64.format.order c s = some .eq) (w : World) :
    Calls Try.prog 6 #[.float .f64 s] w fun e w' => e = .returned (.bool true) ∧ Grown w w' := by
  obtain ⟨hn, k1, k2⟩ := (ok_iff c).1 T.c_ok
  have h0 := ord_cases c 0 hn isn0
  have hT := ord_cases c 4652006429231887155 hn isnT
  rw [key0] at h0
  rw [keyT] at hT
  have hneg := neg_run
  have HTold := Lib.hid T
  have HF := Lib.hid hF
  clear T hF hn
  rcases h0 with ⟨a, ho⟩ | ⟨a, ho⟩ | ⟨a, ho⟩
  · omega
  all_goals
    rcases hT with ⟨b, ho2⟩ | ⟨b, ho2⟩ | ⟨b, ho2⟩
    rotate_right
    · omega
    all_goals
      clear a b k1 k2
      go_enter Try.func6, Try.ntmps6
      go_wp2_with (first
        | (go_at_call 11; ((with_reducible refine (t_clean HTold.out _).mono ?_); rintro e w' ⟨rfl, rfl⟩))
        | (go_at_call 11; ((with_reducible refine (t_again HTold.out _).mono ?_); rintro e w' ⟨rfl, rfl⟩))
        | (go_at_call 8; ((with_reducible refine (t_ticks HTold.out _).mono ?_); rintro e w' ⟨rfl, rfl⟩))
        | (go_at_call 8; ((with_reducible refine (yes_of HF.out _).mono ?_); rintro e w' ⟨rfl, rfl⟩))
        | (go_at_call 10; ((with_reducible refine (alike_self _ _).mono ?_); rintro e w' ⟨rfl, rfl⟩))
        | (go_at_call 15; ((with_reducible refine (of_any quo_holds _ _).mono ?_); rintro e w' ⟨rfl, rfl⟩))
        | (go_at_call 10; ((with_reducible refine (t_not HTold.out _).mono ?_); rintro e w' ⟨rfl, rfl⟩))
        | (go_at_call 13; ((with_reducible refine (awake_any quo_holds _).mono ?_); rintro e w' ⟨rfl, rfl⟩))
        | simp only [hneg])
      go_ret
      exact ⟨rfl, Grown.refl _⟩

/-! ### the walk -/
set_option maxHeartbeats 400000 in
theorem walk (a0 : Nat) (w0 : (Lit.float .f64 a0).wf = true) (w : World) :
    Calls Try.prog 6 #[.float .f64 a0] w fun e w' => e = .returned (.bool true) ∧ Grown w w' := by
  have hb : a0 < 18446744073709551616 := by simpa [Lit.wf] using w0
  obtain ⟨c1, c0⟩ := cl_ok a0
  have T : Told a0 (cl a0) := ⟨rfl, hb, cl_bits hb, c1, cl_cl a0, fun e => by rw [e] at c0; exact absurd (c0 (by decide)) (by decide)⟩
  cases h : ok a0
  · exact w_no a0 _ T h w
  · obtain ⟨e1, e2⟩ := cl_same h
    refine w_yes a0 _ T ⟨h, e1.symm⟩ ?_ w
    have hn := ((ok_iff _).1 h).1
    have hn2 := ((ok_iff _).1 c1).1
    rcases ord_cases (cl a0) a0 hn2 hn with ⟨a, b⟩ | ⟨a, b⟩ | ⟨a, b⟩
    · omega
    · exact b
    · omega

/-! ### the row's step -/
set_option maxRecDepth 100000 in
theorem lifted (os : Os) (started : os.Started) (H : Type) (enc : TypeId × Value → H) :
    ReturnsInHanded {} Try.checked os 6 .any (Rows.secsCleanSpec.pre6 enc Try.prog Try.f6 Rows.secsCleanRow.domain false) (Rows.secsCleanSpec.post enc Try.prog Try.f6 false true false false) := by
  refine returnsInHanded_of_change (C := Try.checked) own started (by kernel_rfl) Try.func6
    (ChangeSpec.witness6 (enc := enc) (C := Try.checked) false ⟨#[], #[.float .f64 0], []⟩ 8 (by kernel_rfl) (by kernel_rfl) (by kernel_rfl) (by kernel_rfl)) ?_
  intro W base args ds gs before hval0 hW hcnd _
  have hval : ∀ (j : Nat) t v, Try.f6.params[j]? = some t → args[j]? = some v → Value.okWide Try.prog W .any base t v := hval0
  have hW' := hW
  obtain ⟨p, q, hA0, hV, rfl, hfz, hnd⟩ := hW
  have hA : DataW.TrodAll enc Try.prog W 0 (fun _ => true) true Try.f6.params.toList args.toList ds p := hA0
  rw [Try.params6] at hA hval
  obtain ⟨v0, vs0, d0, ds0, p0, q0, hargs, rfl, rfl, h0, r0⟩ := trodAll_cons hA
  obtain ⟨rfl, rfl, rfl⟩ := trodAll_nil r0
  obtain rfl : args = #[v0] := by cases args; simp_all
  obtain ⟨rfl, rfl⟩ := trodVars_none hV
  obtain ⟨a0, rfl, rfl, rfl, w0⟩ := open_float Try.underlying22 (hval 0 22 v0 rfl rfl) h0
  clear hA0 hval0
  simp only [List.append_nil] at hW'
  refine (walk a0 w0 W).mono fun e W' ⟨he, hg⟩ => ?_
  subst he
  exact ⟨_, rfl, post_of_same (pa := []) (pv := []) hW' (fun _ _ _ => (trodAll_cons_mk (shut_bool Try.underlying4 _) trodAll_mk0)) (fun sp _ => (trodAll_cons_mk (shut_float Try.underlying22 w0) trodAll_mk0)) (fun _ _ => rfl) rfl
    (hg.frame _) hg.2.1 (ok_one (by kernel_rfl) rfl (okWide_bool_mk Try.underlying4 _))⟩

theorem over : Rows.secsCleanRow.holds Try.pinned (OpenSpec.ofChange Rows.secsCleanSpec) :=
  OpenClaim.holds_of_wide 6 Try.f6 rfl rfl rfl rfl rfl rfl rfl ⟨rfl, rfl, rfl, rfl, rfl⟩ rfl rfl rfl rfl rfl (by kernel_rfl) Try.func6 (by kernel_rfl)
    (of_decide_eq_true (by kernel_rfl)) (by unfold Func.isWrapper; first | (rw [if_pos (by decide +kernel)]; kernel_rfl) | (rw [if_neg (by decide +kernel)]; exact ⟨rfl, rfl⟩))
    (fun os started H enc _ => lifted os started H enc)

/-- the statement -/
theorem proved : Rows.SecsCleanSaid :=
  over
#print axioms proved
end Go.Proofs.Ytngimfbfdbifgaa.secsClean
