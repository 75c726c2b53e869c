/- The contracts of Clean, Longer, Alike and awake: what each returns, at any float64. -/
import Derived.Test.YtngimfbfdbifgaaSecsW
import Derived.RowKit3
namespace Go.Proofs.Ytngimfbfdbifgaa.Secs
open Go.ChangeShapes Go.WideShapes Go.ChangeAt Go.RowKit Go.Proofs.Fl
set_option linter.unusedVariables false
set_option linter.unusedSimpArgs false

/-! Clean -/
def cl (s : Nat) : Nat := if isn s = true then 0 else if 4652006429231887155 < key s then 4652006429231887155 else if 0 < key s then s else 0
theorem run_min_lt {P : Program} (x y : Nat) (h : FloatKind.f64.format.order x y = some .lt) (ts : Array TypeId) (t : TypeId) (w : World) : (Builtin.min_ ts t #[.float .f64 x, .float .f64 y]).run P w = .ok (.float .f64 x) w := by
  simp [Builtin.min_, Builtin.min2, h]
theorem run_min_gt {P : Program} (x y : Nat) (h : FloatKind.f64.format.order x y = some .gt) (ts : Array TypeId) (t : TypeId) (w : World) : (Builtin.min_ ts t #[.float .f64 x, .float .f64 y]).run P w = .ok (.float .f64 y) w := by
  simp [Builtin.min_, Builtin.min2, h]
theorem run_min_self {P : Program} (x : Nat) (h : FloatKind.f64.format.order x x = some .eq) (ts : Array TypeId) (t : TypeId) (w : World) : (Builtin.min_ ts t #[.float .f64 x, .float .f64 x]).run P w = .ok (.float .f64 x) w := by
  simp [Builtin.min_, Builtin.min2, h]
theorem key_eq_pos {s : Nat} (hs : s < 18446744073709551616) (h : key s = 4652006429231887155) : s = 4652006429231887155 := by
  unfold key sg rung at h
  split at h
  · omega
  · rename_i h'; simp at h'; omega
set_option maxHeartbeats 800000 in
theorem clean_any (hQ : Quo) (s : Nat) (hs : s < 18446744073709551616) (w : World) : Calls Try.prog 11 #[.float .f64 s] w fun e w' => e = .returned (.float .f64 (cl s)) ∧ w = w' := by
  have HQ := Lib.hid hQ
  clear hQ
  cases hn : isn s
  · have h0 := ord_cases s 0 hn isn0
    have hT := ord_cases s 4652006429231887155 hn isnT
    rw [key0] at h0
    rw [keyT] at hT
    have HN := Lib.hid hn
    rcases h0 with ⟨a, ho⟩ | ⟨a, ho⟩ | ⟨a, ho⟩
    iterate 2
      · have HE := Lib.hid (show cl s = 0 by unfold cl; rw [hn, if_neg (by simp), if_neg (by omega), if_neg (by omega)])
        clear a hT hs hn
        go_enter Try.func11, Try.ntmps11
        go_wp2_with (go_at_call 20; refine (isnan_f HN.out _).mono ?_; rintro e w' ⟨rfl, rfl⟩)
        go_ret
        exact ⟨ret_float (by rw [HE.out]), rfl⟩
    · rcases hT with ⟨b, ho2⟩ | ⟨b, ho2⟩ | ⟨b, ho2⟩
      · have HE := Lib.hid (show cl s = s by unfold cl; rw [hn, if_neg (by simp), if_neg (by omega), if_pos (by omega)])
        have hmin : ∀ ts t w, (Builtin.min_ ts t #[.float .f64 s, .float .f64 4652006429231887155]).run Try.prog w = .ok (.float .f64 s) w := run_min_lt _ _ ho2
        clear a b hs hn ho2
        go_enter Try.func11, Try.ntmps11
        go_wp2_with (first | (go_at_call 20; refine (isnan_f HN.out _).mono ?_; rintro e w' ⟨rfl, rfl⟩) | (go_at_call 21; refine (longest_any HQ.out _).mono ?_; rintro e w' ⟨rfl, rfl⟩) | simp only [hmin])
        go_ret
        exact ⟨ret_float (by rw [HE.out]), rfl⟩
      · obtain rfl := key_eq_pos hs b
        have hmin : ∀ ts t w, (Builtin.min_ ts t #[.float .f64 4652006429231887155, .float .f64 4652006429231887155]).run Try.prog w = .ok (.float .f64 4652006429231887155) w := run_min_self _ ho2
        clear a b hs hn ho2
        go_enter Try.func11, Try.ntmps11
        go_wp2_with (first | (go_at_call 20; refine (isnan_f HN.out _).mono ?_; rintro e w' ⟨rfl, rfl⟩) | (go_at_call 21; refine (longest_any HQ.out _).mono ?_; rintro e w' ⟨rfl, rfl⟩) | simp only [hmin])
        go_ret
        exact ⟨ret_float (by decide), rfl⟩
      · have HE := Lib.hid (show cl s = 4652006429231887155 by unfold cl; rw [hn, if_neg (by simp), if_pos (by omega)])
        have hmin : ∀ ts t w, (Builtin.min_ ts t #[.float .f64 s, .float .f64 4652006429231887155]).run Try.prog w = .ok (.float .f64 4652006429231887155) w := run_min_gt _ _ ho2
        clear a b hs hn ho2
        go_enter Try.func11, Try.ntmps11
        go_wp2_with (first | (go_at_call 20; refine (isnan_f HN.out _).mono ?_; rintro e w' ⟨rfl, rfl⟩) | (go_at_call 21; refine (longest_any HQ.out _).mono ?_; rintro e w' ⟨rfl, rfl⟩) | simp only [hmin])
        go_ret
        exact ⟨ret_float (by rw [HE.out]), rfl⟩
  · have HE := Lib.hid (show cl s = 0 by unfold cl; rw [hn, if_pos rfl])
    have HN := Lib.hid hn
    clear hn hs
    go_enter Try.func11, Try.ntmps11
    go_wp2_with (go_at_call 20; refine (isnan_t HN.out _).mono ?_; rintro e w' ⟨rfl, rfl⟩)
    go_ret
    exact ⟨ret_float (by rw [HE.out]), rfl⟩
set_option maxHeartbeats 800000 in
theorem rclean_any (s : Nat) (w : World) : Calls Try.prog 12 #[.float .f64 s] w fun e w' => e = .returned (.float .f64 (cl s)) ∧ w = w' := by
  cases hn : isn s
  · have h0 := ord_cases s 0 hn isn0
    have hT := ord_cases s 4652006429231887155 hn isnT
    rw [key0] at h0
    rw [keyT] at hT
    have HE : Hid (cl s = if 4652006429231887155 < key s then 4652006429231887155 else if 0 < key s then s else 0) := Lib.hid (by unfold cl; rw [hn, if_neg (by simp)])
    clear hn
    rcases hT with ⟨b, ho2⟩ | ⟨b, ho2⟩ | ⟨b, ho2⟩ <;> rcases h0 with ⟨a, ho⟩ | ⟨a, ho⟩ | ⟨a, ho⟩ <;> first
      | omega
      | (have HE2 : Hid (cl s = 4652006429231887155) := Lib.hid (by rw [HE.out, if_pos (by omega)])
         clear HE a b
         go_enter Try.func12, Try.ntmps12
         go_wp2
         go_ret
         exact ⟨ret_float (by rw [HE2.out]), rfl⟩)
      | (have HE2 : Hid (cl s = s) := Lib.hid (by rw [HE.out, if_neg (by omega), if_pos (by omega)])
         clear HE a b
         go_enter Try.func12, Try.ntmps12
         go_wp2
         go_ret
         exact ⟨ret_float (by rw [HE2.out]), rfl⟩)
      | (have HE2 : Hid (cl s = 0) := Lib.hid (by rw [HE.out, if_neg (by omega), if_neg (by omega)])
         clear HE a b
         go_enter Try.func12, Try.ntmps12
         go_wp2
         go_ret
         exact ⟨ret_float (by rw [HE2.out]), rfl⟩)
  · have ho := ord_nan s 0 (.inl hn)
    have ho2 := ord_nan s 4652006429231887155 (.inl hn)
    have HE := Lib.hid (show cl s = 0 by unfold cl; rw [hn, if_pos rfl])
    clear hn
    go_enter Try.func12, Try.ntmps12
    go_wp2
    go_ret
    exact ⟨ret_float (by rw [HE.out]), rfl⟩

/-! Alike -/
theorem nan_t {x : Nat} (h : isn x = true) (w : World) : Calls Try.prog 19 #[.float .f64 x] w fun e w' => e = .returned (.bool true) ∧ w = w' :=
  (nan_any x w).mono fun _ _ ⟨a, b⟩ => ⟨by rw [a, h], b⟩
theorem nan_f {x : Nat} (h : isn x = false) (w : World) : Calls Try.prog 19 #[.float .f64 x] w fun e w' => e = .returned (.bool false) ∧ w = w' :=
  (nan_any x w).mono fun _ _ ⟨a, b⟩ => ⟨by rw [a, h], b⟩
theorem alike_self (x : Nat) (w : World) : Calls Try.prog 10 #[.float .f64 x, .float .f64 x] w fun e w' => e = .returned (.bool true) ∧ w = w' := by
  have hb := bits_call x
  go_enter Try.func10, Try.ntmps10
  go_wp2_with (simp only [hb])
  go_ret
  exact ⟨rfl, rfl⟩
theorem alike_nan {x y : Nat} (hx : isn x = true) (hy : isn y = true) (w : World) : Calls Try.prog 10 #[.float .f64 x, .float .f64 y] w fun e w' => e = .returned (.bool true) ∧ w = w' := by
  by_cases e : x = y
  · subst e; exact alike_self x w
  · have hb := bits_call x
    have hb2 := bits_call y
    have HX := Lib.hid hx
    have HY := Lib.hid hy
    have e' : ((x : Int) == (y : Int)) = false := by simp; omega
    have e2 : decide ((x : Int) = (y : Int)) = false := by simp; omega
    clear hx hy
    go_enter Try.func10, Try.ntmps10
    go_wp2_with (first | (go_at_call 19; first | (refine (nan_t HX.out _).mono ?_; rintro e w' ⟨rfl, rfl⟩) | (refine (nan_t HY.out _).mono ?_; rintro e w' ⟨rfl, rfl⟩)) | simp only [hb, hb2])
    go_ret
    exact ⟨rfl, rfl⟩
theorem alike_any {x y : Nat} (h : x = y ∨ isn x = true ∧ isn y = true) (w : World) : Calls Try.prog 10 #[.float .f64 x, .float .f64 y] w fun e w' => e = .returned (.bool true) ∧ w = w' := by
  rcases h with rfl | ⟨a, b⟩
  · exact alike_self x w
  · exact alike_nan a b w
theorem alike_not {x y : Nat} (hne : x ≠ y) (hx : isn x = false) (w : World) : Calls Try.prog 10 #[.float .f64 x, .float .f64 y] w fun e w' => e = .returned (.bool false) ∧ w = w' := by
  have hb := bits_call x
  have hb2 := bits_call y
  have HX := Lib.hid hx
  have e' : ((x : Int) == (y : Int)) = false := by simp; omega
  have e2 : decide ((x : Int) = (y : Int)) = false := by simp; omega
  clear hx hne
  go_enter Try.func10, Try.ntmps10
  go_wp2_with (first | (go_at_call 19; refine (nan_f HX.out _).mono ?_; rintro e w' ⟨rfl, rfl⟩) | simp only [hb, hb2])
  go_ret
  exact ⟨rfl, rfl⟩

/-! the chapter's examples -/
theorem ok_quarter : ok 4598175219545276416 = true := by decide
theorem tk_quarter : tk 4598175219545276416 = 2 := by
  have h : tkG T (rung 4598175219545276416) (fun t => t == 2) = true := by decide +kernel
  exact eq_of_beq (tkG_eq (f := fun t => t == 2) h)
theorem of_five : FloatKind.f64.format.order (ofB (cut 5)) 4602678819172646912 = some .eq := by decide +kernel
theorem awake_any (hQ : Quo) (w : World) : Calls Try.prog 13 #[] w fun e w' => e = .returned (.bool true) ∧ w = w' := by
  have HQ := Lib.hid hQ
  have hq := tk_quarter
  have hf := of_five
  clear hQ
  go_enter Try.func13, Try.ntmps13
  go_wp2_with (first | (go_at_call 8; refine (ticks_yes HQ.out ok_quarter _).mono ?_; rw [hq]; rintro e w' ⟨rfl, rfl⟩) | (go_at_call 15; refine (of_any HQ.out _ _).mono ?_; rintro e w' ⟨rfl, rfl⟩))
  go_ret
  exact ⟨rfl, rfl⟩
end Go.Proofs.Ytngimfbfdbifgaa.Secs
