/- SecsBack returns true at any integer and bool: Ticks undoes Of, also for seconds that differ by 0.03. No condition. -/
import Derived.Test.YtngimfbfdbifgaaRows
import Derived.Test.YtngimfbfdbifgaaSecsV
import Derived.Test.YtngimfbfdbifgaaSecsT1
import Derived.Test.YtngimfbfdbifgaaSecsT2
import Derived.Test.YtngimfbfdbifgaaSecsT3
import Derived.Test.YtngimfbfdbifgaaSecsT4
import Derived.WalkKit
import Derived.WalkLawsBesides
import Derived.ProofKit
import Derived.OpenShut
namespace Go.Proofs.Ytngimfbfdbifgaa.secsBack
open Go.ChangeShapes Go.WideShapes Go.ChangeAt Go.RowKit
open Go.Proofs.Fl Secs
set_option linter.unusedVariables false
set_option linter.unusedSimpArgs false

theorem own : ownKnob Try.prog.godebug = none := by kernel_rfl

/-- near to k ticks: outside the range, or of k ticks -/
def Near (o k : Nat) : Prop := isn o = false ∧ (key o < 0 ∨ 4652006429231887155 < key o ∨ ok o = true ∧ tk o = k)
theorem near_pos {o k : Nat} (h : o ≤ 4652006429231887155) (ht : tk o = k) : Near o k := by
  have := ok_pos h
  exact ⟨((ok_iff o).1 this).1, .inr (.inr ⟨this, ht⟩)⟩
theorem back (k : Nat) (hk : k ≤ 9999) : ok (ofB k) = true ∧ tk (ofB k) = k ∧ (∃ o, D.sub (ofB k) c03 = some o ∧ Near o k) ∧ (∃ o, D.add (ofB k) c03 = some o ∧ Near o k) := by
  by_cases h0 : k = 0
  · subst h0
    have e0 : ofB 0 = 0 := by decide +kernel
    rw [e0]
    refine ⟨by decide, tk_zero rfl, ⟨13807676169547751096, by decide +kernel, by decide, .inl (by decide)⟩, ⟨4584304132692975288, by decide +kernel, ?_⟩⟩
    refine near_pos (by decide) ?_
    have h : tkG T (rung 4584304132692975288) (fun t => t == 0) = true := by decide +kernel
    exact eq_of_beq (tkG_eq (f := fun t => t == 0) h)
  · have hc : chk k = true := join (join chks1 chks2) (join chks3 chks4) k (by omega) (by omega)
    obtain ⟨-, h1, h2, ⟨o, h3, h4, h5⟩, ⟨o', h6, h7, h8⟩⟩ := chk_says hc
    refine ⟨ok_pos h1, h2, ⟨o, h3, near_pos h4 h5⟩, ⟨o', h6, ?_⟩⟩
    rcases h8 with h8 | ⟨h8, h9⟩
    · refine ⟨?_, .inr (.inl ?_)⟩
      · unfold isn rung; exact decide_eq_false (by omega)
      · rw [key_pos (by omega)]; omega
    · exact near_pos h8 h9
theorem far {o : Nat} (h : isn o = false) (hk : key o < 0 ∨ 4652006429231887155 < key o) : ok o = false := by
  cases hh : ok o
  · rfl
  · obtain ⟨_, h1, h2⟩ := (ok_iff o).1 hh
    omega

/-- what the walk is told: seconds of k ticks, and those a little off, o: by a sum or a difference -/
structure Told (n : Int) (up : Bool) (s k o p : Nat) : Prop where
  s_ok : ok s = true
  s_tk : tk s = k
  s_of : ofB (cut n) = s
  k_of : cut n = k
  sub : D.sub s c03 = some (if up then p else o)
  add : D.add s c03 = some (if up then o else p)
theorem t_of {n : Int} {up : Bool} {s k o p : Nat} (t : Told n up s k o p) (w : World) : Calls Try.prog 15 #[.int .i64 n] w fun e w' => e = .returned (.float .f64 s) ∧ w = w' := by
  rw [← t.s_of]; exact of_any quo_holds n w
theorem t_seconds {n : Int} {up : Bool} {s k o p : Nat} (t : Told n up s k o p) (w : World) : Calls Try.prog 16 #[.int .i64 n] w fun e w' => e = .returned (.float .f64 s) ∧ w = w' := by
  rw [← t.s_of]; exact seconds_any quo_holds n w
theorem t_cut {n : Int} {up : Bool} {s k o p : Nat} (t : Told n up s k o p) (w : World) : Calls Try.prog 14 #[.int .i64 n, .int .i64 0, .int .i64 9999] w fun e w' => e = .returned (.int .i64 k) ∧ w = w' := by
  rw [← t.k_of]; exact rcut_any n w
theorem t_ticks {n : Int} {up : Bool} {s k o p : Nat} (t : Told n up s k o p) (w : World) : Calls Try.prog 8 #[.float .f64 s] w fun e w' => e = .returned (.tuple #[.int .i64 k, .bool true]) ∧ w = w' := by
  rw [← t.s_tk]; exact ticks_yes quo_holds t.s_ok w
theorem off_yes {o k : Nat} (h : ok o = true ∧ tk o = k) (w : World) : Calls Try.prog 8 #[.float .f64 o] w fun e w' => e = .returned (.tuple #[.int .i64 k, .bool true]) ∧ w = w' := by
  rw [← h.2]; exact ticks_yes quo_holds h.1 w

set_option maxHeartbeats 1000000 in
theorem no_false (n : Int) (s k o p : Nat) (T : Told n false s k o p) (hF : ok o = false) (ho : FloatKind.f64.format.order o 0 = some .lt ∨ FloatKind.f64.format.order o 0 = some .gt ∧ FloatKind.f64.format.order o 4652006429231887155 = some .gt) (w : World) :
    Calls Try.prog 4 #[.int .i64 n, .bool false] w fun e w' => e = .returned (.bool true) ∧ Grown w w' := by
  have hs : ∀ t w, (binOp .sub t (.float .f64 s) (.float .f64 4584304132692975288)).run Try.prog w = .ok (.float .f64 o) w := fun t w => run_float_arith w .sub t .f64 _ _ _ T.sub
  have ha : ∀ t w, (binOp .add t (.float .f64 s) (.float .f64 4584304132692975288)).run Try.prog w = .ok (.float .f64 p) w := fun t w => run_float_arith w .add t .f64 _ _ _ T.add
  have HTold := Lib.hid T
  clear T
  have HF := Lib.hid hF
  clear hF
  rcases ho with ho | ⟨ho, ho2⟩
  · go_enter Try.func4, Try.ntmps4
    go_wp2_with (first
      | (go_at_call 14; ((with_reducible refine (t_cut HTold.out _).mono ?_); rintro e w' ⟨rfl, rfl⟩))
      | (go_at_call 15; ((with_reducible refine (t_of HTold.out _).mono ?_); rintro e w' ⟨rfl, rfl⟩))
      | (go_at_call 8; first | ((with_reducible refine (t_ticks HTold.out _).mono ?_); rintro e w' ⟨rfl, rfl⟩) | ((with_reducible refine (ticks_no quo_holds HF.out _).mono ?_); rintro e w' ⟨rfl, rfl⟩))
      | (go_at_call 16; ((with_reducible refine (t_seconds HTold.out _).mono ?_); rintro e w' ⟨rfl, rfl⟩))
      | (go_at_call 10; ((with_reducible refine (alike_self _ _).mono ?_); rintro e w' ⟨rfl, rfl⟩))
      | (go_at_call 13; ((with_reducible refine (awake_any quo_holds _).mono ?_); rintro e w' ⟨rfl, rfl⟩))
      | simp only [hs, ha])
    go_ret
    exact ⟨rfl, Grown.refl _⟩
  · go_enter Try.func4, Try.ntmps4
    go_wp2_with (first
      | (go_at_call 14; ((with_reducible refine (t_cut HTold.out _).mono ?_); rintro e w' ⟨rfl, rfl⟩))
      | (go_at_call 15; ((with_reducible refine (t_of HTold.out _).mono ?_); rintro e w' ⟨rfl, rfl⟩))
      | (go_at_call 8; first | ((with_reducible refine (t_ticks HTold.out _).mono ?_); rintro e w' ⟨rfl, rfl⟩) | ((with_reducible refine (ticks_no quo_holds HF.out _).mono ?_); rintro e w' ⟨rfl, rfl⟩))
      | (go_at_call 16; ((with_reducible refine (t_seconds HTold.out _).mono ?_); rintro e w' ⟨rfl, rfl⟩))
      | (go_at_call 10; ((with_reducible refine (alike_self _ _).mono ?_); rintro e w' ⟨rfl, rfl⟩))
      | (go_at_call 13; ((with_reducible refine (awake_any quo_holds _).mono ?_); rintro e w' ⟨rfl, rfl⟩))
      | simp only [hs, ha])
    go_ret
    exact ⟨rfl, Grown.refl _⟩

set_option maxHeartbeats 2000000 in
theorem yes_false (n : Int) (s k o p : Nat) (T : Told n false s k o p) (hF : ok o = true ∧ tk o = k) (w : World) :
    Calls Try.prog 4 #[.int .i64 n, .bool false] w fun e w' => e = .returned (.bool true) ∧ Grown w w' := by
  have hs : ∀ t w, (binOp .sub t (.float .f64 s) (.float .f64 4584304132692975288)).run Try.prog w = .ok (.float .f64 o) w := fun t w => run_float_arith w .sub t .f64 _ _ _ T.sub
  have ha : ∀ t w, (binOp .add t (.float .f64 s) (.float .f64 4584304132692975288)).run Try.prog w = .ok (.float .f64 p) w := fun t w => run_float_arith w .add t .f64 _ _ _ T.add
  have HTold := Lib.hid T
  clear T
  obtain ⟨hn, k1, k2⟩ := (ok_iff o).1 hF.1
  have h0 := ord_cases o 0 hn isn0
  have hT := ord_cases o 4652006429231887155 hn isnT
  rw [key0] at h0
  rw [keyT] at hT
  have HF := Lib.hid hF
  clear hn hF
  rcases h0 with ⟨a, ho⟩ | ⟨a, ho⟩ | ⟨a, ho⟩
  · omega
  all_goals
    rcases hT with ⟨b, ho2⟩ | ⟨b, ho2⟩ | ⟨b, ho2⟩
    rotate_right
    · omega
    all_goals
      clear a b k1 k2
      go_enter Try.func4, Try.ntmps4
      go_wp2_with (first
        | (go_at_call 14; ((with_reducible refine (t_cut HTold.out _).mono ?_); rintro e w' ⟨rfl, rfl⟩))
        | (go_at_call 15; ((with_reducible refine (t_of HTold.out _).mono ?_); rintro e w' ⟨rfl, rfl⟩))
        | (go_at_call 8; first | ((with_reducible refine (t_ticks HTold.out _).mono ?_); rintro e w' ⟨rfl, rfl⟩) | ((with_reducible refine (off_yes HF.out _).mono ?_); rintro e w' ⟨rfl, rfl⟩))
        | (go_at_call 16; ((with_reducible refine (t_seconds HTold.out _).mono ?_); rintro e w' ⟨rfl, rfl⟩))
        | (go_at_call 10; ((with_reducible refine (alike_self _ _).mono ?_); rintro e w' ⟨rfl, rfl⟩))
        | (go_at_call 13; ((with_reducible refine (awake_any quo_holds _).mono ?_); rintro e w' ⟨rfl, rfl⟩))
        | simp only [hs, ha])
      go_ret
      exact ⟨rfl, Grown.refl _⟩

theorem all_false (n : Int) (s k o p : Nat) (T : Told n false s k o p) (hN : Near o k) (w : World) :
    Calls Try.prog 4 #[.int .i64 n, .bool false] w fun e w' => e = .returned (.bool true) ∧ Grown w w' := by
  obtain ⟨hn, hc⟩ := hN
  have h0 := ord_cases o 0 hn isn0
  have hT := ord_cases o 4652006429231887155 hn isnT
  rw [key0] at h0
  rw [keyT] at hT
  rcases hc with hc | hc | hc
  · refine no_false n s k o p T (far hn (.inl hc)) (.inl ?_) w
    rcases h0 with ⟨a, b⟩ | ⟨a, b⟩ | ⟨a, b⟩ <;> first | exact b | omega
  · refine no_false n s k o p T (far hn (.inr hc)) (.inr ⟨?_, ?_⟩) w
    · rcases h0 with ⟨a, b⟩ | ⟨a, b⟩ | ⟨a, b⟩ <;> first | exact b | omega
    · rcases hT with ⟨a, b⟩ | ⟨a, b⟩ | ⟨a, b⟩ <;> first | exact b | omega
  · exact yes_false n s k o p T hc w

set_option maxHeartbeats 1000000 in
theorem no_true (n : Int) (s k o p : Nat) (T : Told n true s k o p) (hF : ok o = false) (ho : FloatKind.f64.format.order o 0 = some .lt ∨ FloatKind.f64.format.order o 0 = some .gt ∧ FloatKind.f64.format.order o 4652006429231887155 = some .gt) (w : World) :
    Calls Try.prog 4 #[.int .i64 n, .bool true] w fun e w' => e = .returned (.bool true) ∧ Grown w w' := by
  have hs : ∀ t w, (binOp .sub t (.float .f64 s) (.float .f64 4584304132692975288)).run Try.prog w = .ok (.float .f64 p) w := fun t w => run_float_arith w .sub t .f64 _ _ _ T.sub
  have ha : ∀ t w, (binOp .add t (.float .f64 s) (.float .f64 4584304132692975288)).run Try.prog w = .ok (.float .f64 o) w := fun t w => run_float_arith w .add t .f64 _ _ _ T.add
  have HTold := Lib.hid T
  clear T
  have HF := Lib.hid hF
  clear hF
  rcases ho with ho | ⟨ho, ho2⟩
  · go_enter Try.func4, Try.ntmps4
    go_wp2_with (first
      | (go_at_call 14; ((with_reducible refine (t_cut HTold.out _).mono ?_); rintro e w' ⟨rfl, rfl⟩))
      | (go_at_call 15; ((with_reducible refine (t_of HTold.out _).mono ?_); rintro e w' ⟨rfl, rfl⟩))
      | (go_at_call 8; first | ((with_reducible refine (t_ticks HTold.out _).mono ?_); rintro e w' ⟨rfl, rfl⟩) | ((with_reducible refine (ticks_no quo_holds HF.out _).mono ?_); rintro e w' ⟨rfl, rfl⟩))
      | (go_at_call 16; ((with_reducible refine (t_seconds HTold.out _).mono ?_); rintro e w' ⟨rfl, rfl⟩))
      | (go_at_call 10; ((with_reducible refine (alike_self _ _).mono ?_); rintro e w' ⟨rfl, rfl⟩))
      | (go_at_call 13; ((with_reducible refine (awake_any quo_holds _).mono ?_); rintro e w' ⟨rfl, rfl⟩))
      | simp only [hs, ha])
    go_ret
    exact ⟨rfl, Grown.refl _⟩
  · go_enter Try.func4, Try.ntmps4
    go_wp2_with (first
      | (go_at_call 14; ((with_reducible refine (t_cut HTold.out _).mono ?_); rintro e w' ⟨rfl, rfl⟩))
      | (go_at_call 15; ((with_reducible refine (t_of HTold.out _).mono ?_); rintro e w' ⟨rfl, rfl⟩))
      | (go_at_call 8; first | ((with_reducible refine (t_ticks HTold.out _).mono ?_); rintro e w' ⟨rfl, rfl⟩) | ((with_reducible refine (ticks_no quo_holds HF.out _).mono ?_); rintro e w' ⟨rfl, rfl⟩))
      | (go_at_call 16; ((with_reducible refine (t_seconds HTold.out _).mono ?_); rintro e w' ⟨rfl, rfl⟩))
      | (go_at_call 10; ((with_reducible refine (alike_self _ _).mono ?_); rintro e w' ⟨rfl, rfl⟩))
      | (go_at_call 13; ((with_reducible refine (awake_any quo_holds _).mono ?_); rintro e w' ⟨rfl, rfl⟩))
      | simp only [hs, ha])
    go_ret
    exact ⟨rfl, Grown.refl _⟩

set_option maxHeartbeats 2000000 in
theorem yes_true (n : Int) (s k o p : Nat) (T : Told n true s k o p) (hF : ok o = true ∧ tk o = k) (w : World) :
    Calls Try.prog 4 #[.int .i64 n, .bool true] w fun e w' => e = .returned (.bool true) ∧ Grown w w' := by
  have hs : ∀ t w, (binOp .sub t (.float .f64 s) (.float .f64 4584304132692975288)).run Try.prog w = .ok (.float .f64 p) w := fun t w => run_float_arith w .sub t .f64 _ _ _ T.sub
  have ha : ∀ t w, (binOp .add t (.float .f64 s) (.float .f64 4584304132692975288)).run Try.prog w = .ok (.float .f64 o) w := fun t w => run_float_arith w .add t .f64 _ _ _ T.add
  have HTold := Lib.hid T
  clear T
  obtain ⟨hn, k1, k2⟩ := (ok_iff o).1 hF.1
  have h0 := ord_cases o 0 hn isn0
  have hT := ord_cases o 4652006429231887155 hn isnT
  rw [key0] at h0
  rw [keyT] at hT
  have HF := Lib.hid hF
  clear hn hF
  rcases h0 with ⟨a, ho⟩ | ⟨a, ho⟩ | ⟨a, ho⟩
  · omega
  all_goals
    rcases hT with ⟨b, ho2⟩ | ⟨b, ho2⟩ | ⟨b, ho2⟩
    rotate_right
    · omega
    all_goals
      clear a b k1 k2
      go_enter Try.func4, Try.ntmps4
      go_wp2_with (first
        | (go_at_call 14; ((with_reducible refine (t_cut HTold.out _).mono ?_); rintro e w' ⟨rfl, rfl⟩))
        | (go_at_call 15; ((with_reducible refine (t_of HTold.out _).mono ?_); rintro e w' ⟨rfl, rfl⟩))
        | (go_at_call 8; first | ((with_reducible refine (t_ticks HTold.out _).mono ?_); rintro e w' ⟨rfl, rfl⟩) | ((with_reducible refine (off_yes HF.out _).mono ?_); rintro e w' ⟨rfl, rfl⟩))
        | (go_at_call 16; ((with_reducible refine (t_seconds HTold.out _).mono ?_); rintro e w' ⟨rfl, rfl⟩))
        | (go_at_call 10; ((with_reducible refine (alike_self _ _).mono ?_); rintro e w' ⟨rfl, rfl⟩))
        | (go_at_call 13; ((with_reducible refine (awake_any quo_holds _).mono ?_); rintro e w' ⟨rfl, rfl⟩))
        | simp only [hs, ha])
      go_ret
      exact ⟨rfl, Grown.refl _⟩

theorem all_true (n : Int) (s k o p : Nat) (T : Told n true s k o p) (hN : Near o k) (w : World) :
    Calls Try.prog 4 #[.int .i64 n, .bool true] w fun e w' => e = .returned (.bool true) ∧ Grown w w' := by
  obtain ⟨hn, hc⟩ := hN
  have h0 := ord_cases o 0 hn isn0
  have hT := ord_cases o 4652006429231887155 hn isnT
  rw [key0] at h0
  rw [keyT] at hT
  rcases hc with hc | hc | hc
  · refine no_true n s k o p T (far hn (.inl hc)) (.inl ?_) w
    rcases h0 with ⟨a, b⟩ | ⟨a, b⟩ | ⟨a, b⟩ <;> first | exact b | omega
  · refine no_true n s k o p T (far hn (.inr hc)) (.inr ⟨?_, ?_⟩) w
    · rcases h0 with ⟨a, b⟩ | ⟨a, b⟩ | ⟨a, b⟩ <;> first | exact b | omega
    · rcases hT with ⟨a, b⟩ | ⟨a, b⟩ | ⟨a, b⟩ <;> first | exact b | omega
  · exact yes_true n s k o p T hc w

/-! ### the walk -/
set_option maxHeartbeats 400000 in
theorem walk (a0 : Int) (a1 : Bool) (w0 : (Lit.int .i64 a0).wf = true) (w : World) :
    Calls Try.prog 4 #[.int .i64 a0, .bool a1] w fun e w' => e = .returned (.bool true) ∧ Grown w w' := by
  obtain ⟨o1, o2, ⟨so, hso, hn1⟩, ⟨ao, hao, hn2⟩⟩ := back (cut a0) (cut_le a0)
  cases a1
  · exact all_false a0 _ _ so ao ⟨o1, o2, rfl, rfl, hso, hao⟩ hn1 w
  · exact all_true a0 _ _ ao so ⟨o1, o2, rfl, rfl, hso, hao⟩ hn2 w

/-! ### the row's step -/
set_option maxRecDepth 100000 in
theorem lifted (os : Os) (started : os.Started) (H : Type) (enc : TypeId × Value → H) :
    ReturnsInHanded {} Try.checked os 4 .any (Rows.secsBackSpec.pre6 enc Try.prog Try.f4 Rows.secsBackRow.domain false) (Rows.secsBackSpec.post enc Try.prog Try.f4 false true false false) := by
  refine returnsInHanded_of_change (C := Try.checked) own started (by kernel_rfl) Try.func4
    (ChangeSpec.witness6 (enc := enc) (C := Try.checked) false ⟨#[], #[.int .i64 0, .bool false], []⟩ 8 (by kernel_rfl) (by kernel_rfl) (by kernel_rfl) (by kernel_rfl)) ?_
  intro W base args ds gs before hval0 hW hcnd _
  have hval : ∀ (j : Nat) t v, Try.f4.params[j]? = some t → args[j]? = some v → Value.okWide Try.prog W .any base t v := hval0
  have hW' := hW
  obtain ⟨p, q, hA0, hV, rfl, hfz, hnd⟩ := hW
  have hA : DataW.TrodAll enc Try.prog W 0 (fun _ => true) true Try.f4.params.toList args.toList ds p := hA0
  rw [Try.params4] at hA hval
  obtain ⟨v0, vs0, d0, ds0, p0, q0, hargs, rfl, rfl, h0, r0⟩ := trodAll_cons hA
  obtain ⟨v1, vs1, d1, ds1, p1, q1, rfl, rfl, rfl, h1, r1⟩ := trodAll_cons r0
  obtain ⟨rfl, rfl, rfl⟩ := trodAll_nil r1
  obtain rfl : args = #[v0, v1] := by cases args; simp_all
  obtain ⟨rfl, rfl⟩ := trodVars_none hV
  obtain ⟨a0, rfl, rfl, rfl, w0⟩ := open_int Try.underlying3 (hval 0 3 v0 rfl rfl) h0
  obtain ⟨a1, rfl, rfl, rfl⟩ := open_bool Try.underlying4 (hval 1 4 v1 rfl rfl) h1
  clear hA0 hval0
  simp only [List.append_nil] at hW'
  refine (walk a0 a1 w0 W).mono fun e W' ⟨he, hg⟩ => ?_
  subst he
  exact ⟨_, rfl, post_of_same (pa := []) (pv := []) hW' (fun _ _ _ => (trodAll_cons_mk (shut_bool Try.underlying4 _) trodAll_mk0)) (fun sp _ => (trodAll_cons_mk (shut_int Try.underlying3 w0) (trodAll_cons_mk (shut_bool Try.underlying4 _) trodAll_mk0))) (fun _ _ => rfl) rfl
    (hg.frame _) hg.2.1 (ok_one (by kernel_rfl) rfl (okWide_bool_mk Try.underlying4 _))⟩

theorem over : Rows.secsBackRow.holds Try.pinned (OpenSpec.ofChange Rows.secsBackSpec) :=
  OpenClaim.holds_of_wide 4 Try.f4 rfl rfl rfl rfl rfl rfl rfl ⟨rfl, rfl, rfl, rfl, rfl⟩ rfl rfl rfl rfl rfl (by kernel_rfl) Try.func4 (by kernel_rfl)
    (of_decide_eq_true (by kernel_rfl)) (by unfold Func.isWrapper; first | (rw [if_pos (by decide +kernel)]; kernel_rfl) | (rw [if_neg (by decide +kernel)]; exact ⟨rfl, rfl⟩))
    (fun os started H enc _ => lifted os started H enc)

/-- the statement -/
theorem proved : Rows.SecsBackSaid :=
  over
#print axioms proved
end Go.Proofs.Ytngimfbfdbifgaa.secsBack
