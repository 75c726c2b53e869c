/- SecsLonger returns true at any three float64s: Longer answers as the document's own answer does, whichever comes first; it is NaN exactly if an argument is. No condition. -/
import Derived.Test.YtngimfbfdbifgaaRows
import Derived.Test.YtngimfbfdbifgaaSecsV
import Derived.Laws.BitsAll
import Derived.WalkKit
import Derived.WalkLawsBesides
import Derived.ProofKit
import Derived.OpenShut
namespace Go.Proofs.Ytngimfbfdbifgaa.secsLonger
open Go.ChangeShapes Go.WideShapes Go.ChangeAt Go.RowKit
open Go.Proofs.Fl Secs
set_option linter.unusedVariables false
set_option linter.unusedSimpArgs false

theorem own : ownKnob Try.prog.godebug = none := by kernel_rfl

/-- the greater of two numbers -/
def mx (a b : Nat) : Nat := if key a < key b then b else if key b < key a then a else if sg a then b else a
theorem read_neg (x : Nat) : (D.read x).neg = sg x := by
  cases h : isn x
  · by_cases hf : fin x
    · obtain ⟨m, i, P, rx, -, -, -⟩ := read_fin x hf
      rw [rx]; rfl
    · have := of_decide_eq_false h
      rw [read_inf x (by unfold fin at hf; omega)]; rfl
  · rw [read_nan x h]; rfl
theorem mx_num {a b : Nat} (ha : isn a = false) (hb : isn b = false) : isn (mx a b) = false := by
  unfold mx; split
  · exact hb
  · split
    · exact ha
    · split <;> assumption
theorem mx_key (a b : Nat) : key (mx a b) = max (key a) (key b) := by
  unfold mx; split
  · omega
  · split
    · omega
    · split <;> omega
theorem key_inj {a b : Nat} (ha : a < 18446744073709551616) (hb : b < 18446744073709551616) (h : key a = key b) : a = b ∨ (a = 0 ∧ b = 9223372036854775808) ∨ (a = 9223372036854775808 ∧ b = 0) := by
  unfold key sg rung at h
  split at h <;> split at h <;> rename_i h1 h2 <;> simp at h1 h2 <;> omega
theorem key_neg0 : key 9223372036854775808 = 0 := by decide
/-- words below 2^64 are one if their keys and signs are -/
theorem word_eq {a b : Nat} (ha : a < 18446744073709551616) (hb : b < 18446744073709551616) (h : key a = key b) (hs : key a = 0 → (a = 0 ↔ b = 0)) : a = b := by
  rcases key_inj ha hb h with e | ⟨e1, e2⟩ | ⟨e1, e2⟩
  · exact e
  · subst e1; subst e2; have := hs (by decide); omega
  · subst e1; subst e2; have := hs (by decide); omega
theorem mx_lt {a b : Nat} (ha : a < 18446744073709551616) (hb : b < 18446744073709551616) : mx a b < 18446744073709551616 := by
  unfold mx; split
  · exact hb
  · split
    · exact ha
    · split <;> assumption
/-- of two that are no greater than 0: +0 if one is -/
theorem mx_zero {a b : Nat} (ha : a < 18446744073709551616) (hb : b < 18446744073709551616) (h : max (key a) (key b) = 0) : mx a b = 0 ↔ a = 0 ∨ b = 0 := by
  have z1 : a = 0 → key a = 0 := fun e => by subst e; decide
  have z2 : b = 0 → key b = 0 := fun e => by subst e; decide
  unfold mx; split
  · constructor
    · exact .inr
    · rintro (e | e)
      · have := z1 e; omega
      · exact e
  · split
    · constructor
      · exact .inl
      · rintro (e | e)
        · exact e
        · have := z2 e; omega
    · have he : key a = key b := by omega
      rcases key_inj ha hb he with e | ⟨e1, e2⟩ | ⟨e1, e2⟩
      · subst e; split <;> simp
      · subst e1; subst e2; decide
      · subst e1; subst e2; decide
theorem mx_comm {a b : Nat} (ha : a < 18446744073709551616) (hb : b < 18446744073709551616) : mx a b = mx b a := by
  refine word_eq (mx_lt ha hb) (mx_lt hb ha) (by rw [mx_key, mx_key]; omega) (fun h => ?_)
  rw [mx_key] at h
  rw [mx_zero ha hb h, mx_zero hb ha (by omega)]
  exact Or.comm
theorem mx_assoc {a b c : Nat} (ha : a < 18446744073709551616) (hb : b < 18446744073709551616) (hc : c < 18446744073709551616) : mx (mx a b) c = mx a (mx b c) := by
  have h1 := mx_lt ha hb
  have h2 := mx_lt hb hc
  refine word_eq (mx_lt h1 hc) (mx_lt ha h2) (by simp only [mx_key]; omega) (fun h => ?_)
  rw [mx_key] at h
  have kx : ∀ {x y : Nat}, x < 18446744073709551616 → y < 18446744073709551616 → key (mx x y) < 0 → mx x y ≠ 0 := fun _ _ h e => by rw [e] at h; exact absurd h (by decide)
  have z : ∀ x : Nat, x = 0 → key x = 0 := fun x e => by subst e; decide
  rw [mx_zero h1 hc h, mx_zero ha h2 (by rw [mx_key] at h ⊢; omega)]
  rw [mx_key] at h
  have i1 : mx a b = 0 ↔ a = 0 ∨ b = 0 := by
    by_cases hk : max (key a) (key b) = 0
    · exact mx_zero ha hb hk
    · constructor
      · intro e; have := z _ e; rw [mx_key] at this; exact absurd this hk
      · rintro (e | e)
        · have := z _ e; omega
        · have := z _ e; omega
  have i2 : mx b c = 0 ↔ b = 0 ∨ c = 0 := by
    by_cases hk : max (key b) (key c) = 0
    · exact mx_zero hb hc hk
    · constructor
      · intro e; have := z _ e; rw [mx_key] at this; exact absurd this hk
      · rintro (e | e)
        · have := z _ e; omega
        · have := z _ e; omega
  rw [i1, i2, or_assoc]

/-! the built-in max -/
theorem run_max_lt {P : Program} (x y : Nat) (h : FloatKind.f64.format.order x y = some .lt) (ts : Array TypeId) (t : TypeId) (w : World) : (Builtin.max_ ts t #[.float .f64 x, .float .f64 y]).run P w = .ok (.float .f64 y) w := by
  simp [Builtin.max_, Builtin.max2, h]
theorem run_max_gt {P : Program} (x y : Nat) (h : FloatKind.f64.format.order x y = some .gt) (ts : Array TypeId) (t : TypeId) (w : World) : (Builtin.max_ ts t #[.float .f64 x, .float .f64 y]).run P w = .ok (.float .f64 x) w := by
  simp [Builtin.max_, Builtin.max2, h]
theorem run_max_eq {P : Program} (x y : Nat) (h : FloatKind.f64.format.order x y = some .eq) (ts : Array TypeId) (t : TypeId) (w : World) : (Builtin.max_ ts t #[.float .f64 x, .float .f64 y]).run P w = .ok (.float .f64 (if sg x then y else x)) w := by
  have hn : (FloatKind.decode .f64 x).neg = sg x := read_neg x
  simp [Builtin.max_, Builtin.max2, h, hn]
theorem run_max_num {P : Program} {x y : Nat} (hx : isn x = false) (hy : isn y = false) (ts : Array TypeId) (t : TypeId) (w : World) : (Builtin.max_ ts t #[.float .f64 x, .float .f64 y]).run P w = .ok (.float .f64 (mx x y)) w := by
  unfold mx
  rcases ord_cases x y hx hy with ⟨a, h⟩ | ⟨a, h⟩ | ⟨a, h⟩
  · rw [run_max_lt x y h, if_pos a]
  · rw [run_max_eq x y h, if_neg (show ¬ key x < key y by omega), if_neg (show ¬ key y < key x by omega)]
  · rw [run_max_gt x y h, if_neg (show ¬ key x < key y by omega), if_pos a]
/-- the NaN that the world hands over -/
def nv (x y : Nat) (w : World) : Nat := (Question.nanMinMax .f64 true x y).cut (w.tape w.drawn (.nanMinMax .f64 true x y))
theorem nv_nan (x y : Nat) (w : World) : isn (nv x y w) = true := by
  unfold nv Question.cut isn rung
  dsimp only
  apply decide_eq_true
  generalize w.tape w.drawn (.nanMinMax .f64 true x y) = t
  have h1 := Nat.mod_lt (t / 2) (show 0 < 2 ^ 52 - 1 by decide)
  generalize t / 2 % (2 ^ 52 - 1) = r at *
  have h2 : t % 2 = 0 ∨ t % 2 = 1 := by omega
  rcases h2 with h2 | h2 <;> rw [h2] <;> omega
theorem run_max_nan {P : Program} {x y : Nat} (h : isn x = true ∨ isn y = true) (ts : Array TypeId) (t : TypeId) (w : World) : (Builtin.max_ ts t #[.float .f64 x, .float .f64 y]).run P w = .ok (.float .f64 (nv x y w)) w.drew := by
  have ho := ord_nan x y h
  simp [Builtin.max_, Builtin.max2, ho, Question.forced]
  rfl

/-! Longer -/
theorem lg_num {a b : Nat} (ha : isn a = false) (hb : isn b = false) (w : World) : Calls Try.prog 17 #[.float .f64 a, .float .f64 b] w fun e w' => e = .returned (.float .f64 (mx a b)) ∧ w = w' := by
  have hm : ∀ ts t w, (Builtin.max_ ts t #[.float .f64 a, .float .f64 b]).run Try.prog w = .ok (.float .f64 (mx a b)) w := run_max_num ha hb
  clear ha hb
  go_enter Try.func17, Try.ntmps17
  go_wp2_with (simp only [hm])
  go_ret
  exact ⟨rfl, rfl⟩
theorem lg_nan {a b : Nat} (h : isn a = true ∨ isn b = true) (w : World) : Calls Try.prog 17 #[.float .f64 a, .float .f64 b] w fun e w' => ∃ v, isn v = true ∧ e = .returned (.float .f64 v) ∧ w.drew = w' := by
  have hm : ∀ ts t w, (Builtin.max_ ts t #[.float .f64 a, .float .f64 b]).run Try.prog w = .ok (.float .f64 (nv a b w)) w.drew := run_max_nan h
  clear h
  go_enter Try.func17, Try.ntmps17
  go_wp2_with (simp only [hm])
  go_ret
  exact ⟨_, nv_nan a b w, rfl, rfl⟩
theorem rl_a {a : Nat} (ha : isn a = true) (b : Nat) (w : World) : Calls Try.prog 18 #[.float .f64 a, .float .f64 b] w fun e w' => e = .returned (.float .f64 a) ∧ w = w' := by
  have HA := Lib.hid ha
  clear ha
  go_enter Try.func18, Try.ntmps18
  go_wp2_with (go_at_call 19; ((with_reducible refine (nan_t HA.out _).mono ?_); rintro e w' ⟨rfl, rfl⟩))
  go_ret
  exact ⟨rfl, rfl⟩
theorem rl_b {a b : Nat} (ha : isn a = false) (hb : isn b = true) (w : World) : Calls Try.prog 18 #[.float .f64 a, .float .f64 b] w fun e w' => e = .returned (.float .f64 b) ∧ w = w' := by
  have HA := Lib.hid ha
  have HB := Lib.hid hb
  clear ha hb
  go_enter Try.func18, Try.ntmps18
  go_wp2_with (go_at_call 19; first | ((with_reducible refine (nan_f HA.out _).mono ?_); rintro e w' ⟨rfl, rfl⟩) | ((with_reducible refine (nan_t HB.out _).mono ?_); rintro e w' ⟨rfl, rfl⟩))
  go_ret
  exact ⟨rfl, rfl⟩
theorem and_same {a b : Nat} (ha : a < 18446744073709551616) (hb : b < 18446744073709551616) (h : key a = key b) : bits .and .u64 (a : Int) (b : Int) = ((mx a b : Nat) : Int) := by
  rw [u64_and_nat a b ha hb]
  congr 1
  unfold mx
  rw [if_neg (by omega), if_neg (by omega)]
  rcases key_inj ha hb h with e | ⟨e1, e2⟩ | ⟨e1, e2⟩
  · subst e; rw [Nat.and_self]; split <;> rfl
  · subst e1; subst e2; decide
  · subst e1; subst e2; decide
set_option maxHeartbeats 800000 in
theorem rl_num {a b : Nat} (ha : isn a = false) (hb : isn b = false) (la : a < 18446744073709551616) (lb : b < 18446744073709551616) (w : World) :
    Calls Try.prog 18 #[.float .f64 a, .float .f64 b] w fun e w' => e = .returned (.float .f64 (mx a b)) ∧ w = w' := by
  have h1 := ord_cases a b ha hb
  have h2 := ord_cases b a hb ha
  have HA := Lib.hid ha
  have HB := Lib.hid hb
  have hbits1 := bits_call a
  have hbits2 := bits_call b
  clear ha hb
  rcases h1 with ⟨k, o1⟩ | ⟨k, o1⟩ | ⟨k, o1⟩
  · have o2 : FloatKind.f64.format.order b a = some .gt := by rcases h2 with ⟨k', h⟩ | ⟨k', h⟩ | ⟨k', h⟩ <;> first | exact h | omega
    have HE := Lib.hid (show mx a b = b by unfold mx; rw [if_pos k])
    clear k la lb h2
    go_enter Try.func18, Try.ntmps18
    go_wp2_with (go_at_call 19; first | ((with_reducible refine (nan_f HA.out _).mono ?_); rintro e w' ⟨rfl, rfl⟩) | ((with_reducible refine (nan_f HB.out _).mono ?_); rintro e w' ⟨rfl, rfl⟩))
    go_ret
    exact ⟨ret_float (by rw [HE.out]), rfl⟩
  · have o2 : FloatKind.f64.format.order b a = some .eq := by rcases h2 with ⟨k', h⟩ | ⟨k', h⟩ | ⟨k', h⟩ <;> first | exact h | omega
    have hand := and_same la lb k
    have hfb := frombits_call (mx a b : Nat)
    rw [Int.toNat_natCast] at hfb
    clear k la lb h2
    go_enter Try.func18, Try.ntmps18
    go_wp2_with (first | (go_at_call 19; first | ((with_reducible refine (nan_f HA.out _).mono ?_); rintro e w' ⟨rfl, rfl⟩) | ((with_reducible refine (nan_f HB.out _).mono ?_); rintro e w' ⟨rfl, rfl⟩)) | simp only [hbits1, hbits2, hand, hfb])
    go_ret
    exact ⟨rfl, rfl⟩
  · have o2 : FloatKind.f64.format.order b a = some .lt := by rcases h2 with ⟨k', h⟩ | ⟨k', h⟩ | ⟨k', h⟩ <;> first | exact h | omega
    have HE := Lib.hid (show mx a b = a by unfold mx; rw [if_neg (by omega), if_pos k])
    clear k la lb h2
    go_enter Try.func18, Try.ntmps18
    go_wp2_with (go_at_call 19; first | ((with_reducible refine (nan_f HA.out _).mono ?_); rintro e w' ⟨rfl, rfl⟩) | ((with_reducible refine (nan_f HB.out _).mono ?_); rintro e w' ⟨rfl, rfl⟩))
    go_ret
    exact ⟨ret_float (by rw [HE.out]), rfl⟩

/-! ### the walk -/
set_option maxHeartbeats 4000000 in
theorem walk (a0 : Nat) (a1 : Nat) (a2 : Nat) (w0 : (Lit.float .f64 a0).wf = true) (w1 : (Lit.float .f64 a1).wf = true) (w2 : (Lit.float .f64 a2).wf = true) (w : World) :
    Calls Try.prog 7 #[.float .f64 a0, .float .f64 a1, .float .f64 a2] w fun e w' => e = .returned (.bool true) ∧ Grown w w' := by
  have la : a0 < 18446744073709551616 := by simpa [Lit.wf] using w0
  have lb : a1 < 18446744073709551616 := by simpa [Lit.wf] using w1
  have lc : a2 < 18446744073709551616 := by simpa [Lit.wf] using w2
  clear w0 w1 w2
  have HC := Lib.hid (mx_comm la lb)
  have HS := Lib.hid (mx_assoc la lb lc)
  have LA := Lib.hid la
  have LB := Lib.hid lb
  clear la lb lc
  cases na : isn a0
  · cases nb : isn a1
    · have HA := Lib.hid na
      have HB := Lib.hid nb
      have nx := mx_num na nb
      have h1 := ord_cases (mx a0 a1) a0 nx na
      have h2 := ord_cases (mx a0 a1) a1 nx nb
      have hk := mx_key a0 a1
      rcases h1 with ⟨p, o1⟩ | ⟨p, o1⟩ | ⟨p, o1⟩
      · omega
      all_goals
        rcases h2 with ⟨q, o2⟩ | ⟨q, o2⟩ | ⟨q, o2⟩
        · omega
        all_goals
          clear p q hk
          cases nc : isn a2
          · have nq := mx_num nb nc
            have np := mx_num nx nc
            have nr := mx_num na nq
            go_enter Try.func7, Try.ntmps7
            go_wp2_with (first
              | (go_at_call 17; ((with_reducible refine (lg_nan (.inl (by assumption)) _).mono ?_); rintro e w' ⟨v, hv, rfl, rfl⟩))
              | (go_at_call 17; ((with_reducible refine (lg_nan (.inr (by assumption)) _).mono ?_); rintro e w' ⟨v, hv, rfl, rfl⟩))
              | (go_at_call 17; ((with_reducible refine (lg_num (by assumption) (by assumption) _).mono ?_); rintro e w' ⟨rfl, rfl⟩))
              | (go_at_call 18; ((with_reducible refine (rl_num HA.out HB.out LA.out LB.out _).mono ?_); rintro e w' ⟨rfl, rfl⟩))
              | (go_at_call 10; ((with_reducible refine (alike_self _ _).mono ?_); rintro e w' ⟨rfl, rfl⟩))
              | (go_at_call 10; ((with_reducible refine (alike_any (.inl HC.out) _).mono ?_); rintro e w' ⟨rfl, rfl⟩))
              | (go_at_call 10; ((with_reducible refine (alike_any (.inl HS.out) _).mono ?_); rintro e w' ⟨rfl, rfl⟩))
              | (go_at_call 10; ((with_reducible refine (alike_any (.inr ⟨by assumption, by assumption⟩) _).mono ?_); rintro e w' ⟨rfl, rfl⟩))
              | (go_at_call 19; ((with_reducible refine (nan_t (by assumption) _).mono ?_); rintro e w' ⟨rfl, rfl⟩))
              | (go_at_call 19; ((with_reducible refine (nan_f (by assumption) _).mono ?_); rintro e w' ⟨rfl, rfl⟩))
              | (go_at_call 13; ((with_reducible refine (awake_any quo_holds _).mono ?_); rintro e w' ⟨rfl, rfl⟩)))
            go_ret
            exact ⟨rfl, by repeat (first | exact Grown.refl _ | apply Grown.drew)⟩
          · go_enter Try.func7, Try.ntmps7
            go_wp2_with (first
              | (go_at_call 17; ((with_reducible refine (lg_nan (.inl (by assumption)) _).mono ?_); rintro e w' ⟨v, hv, rfl, rfl⟩))
              | (go_at_call 17; ((with_reducible refine (lg_nan (.inr (by assumption)) _).mono ?_); rintro e w' ⟨v, hv, rfl, rfl⟩))
              | (go_at_call 17; ((with_reducible refine (lg_num (by assumption) (by assumption) _).mono ?_); rintro e w' ⟨rfl, rfl⟩))
              | (go_at_call 18; ((with_reducible refine (rl_num HA.out HB.out LA.out LB.out _).mono ?_); rintro e w' ⟨rfl, rfl⟩))
              | (go_at_call 10; ((with_reducible refine (alike_self _ _).mono ?_); rintro e w' ⟨rfl, rfl⟩))
              | (go_at_call 10; ((with_reducible refine (alike_any (.inl HC.out) _).mono ?_); rintro e w' ⟨rfl, rfl⟩))
              | (go_at_call 10; ((with_reducible refine (alike_any (.inl HS.out) _).mono ?_); rintro e w' ⟨rfl, rfl⟩))
              | (go_at_call 10; ((with_reducible refine (alike_any (.inr ⟨by assumption, by assumption⟩) _).mono ?_); rintro e w' ⟨rfl, rfl⟩))
              | (go_at_call 19; ((with_reducible refine (nan_t (by assumption) _).mono ?_); rintro e w' ⟨rfl, rfl⟩))
              | (go_at_call 19; ((with_reducible refine (nan_f (by assumption) _).mono ?_); rintro e w' ⟨rfl, rfl⟩))
              | (go_at_call 13; ((with_reducible refine (awake_any quo_holds _).mono ?_); rintro e w' ⟨rfl, rfl⟩)))
            go_ret
            exact ⟨rfl, by repeat (first | exact Grown.refl _ | apply Grown.drew)⟩
    · cases nc : isn a2
      · go_enter Try.func7, Try.ntmps7
        go_wp2_with (first
          | (go_at_call 17; ((with_reducible refine (lg_nan (.inl (by assumption)) _).mono ?_); rintro e w' ⟨v, hv, rfl, rfl⟩))
          | (go_at_call 17; ((with_reducible refine (lg_nan (.inr (by assumption)) _).mono ?_); rintro e w' ⟨v, hv, rfl, rfl⟩))
          | (go_at_call 17; ((with_reducible refine (lg_num (by assumption) (by assumption) _).mono ?_); rintro e w' ⟨rfl, rfl⟩))
          | (go_at_call 18; ((with_reducible refine (rl_b (by assumption) (by assumption) _).mono ?_); rintro e w' ⟨rfl, rfl⟩))
          | (go_at_call 10; ((with_reducible refine (alike_any (.inr ⟨by assumption, by assumption⟩) _).mono ?_); rintro e w' ⟨rfl, rfl⟩))
          | (go_at_call 19; ((with_reducible refine (nan_t (by assumption) _).mono ?_); rintro e w' ⟨rfl, rfl⟩))
          | (go_at_call 19; ((with_reducible refine (nan_f (by assumption) _).mono ?_); rintro e w' ⟨rfl, rfl⟩))
          | (go_at_call 13; ((with_reducible refine (awake_any quo_holds _).mono ?_); rintro e w' ⟨rfl, rfl⟩)))
        go_ret
        exact ⟨rfl, by repeat (first | exact Grown.refl _ | apply Grown.drew)⟩
      · go_enter Try.func7, Try.ntmps7
        go_wp2_with (first
          | (go_at_call 17; ((with_reducible refine (lg_nan (.inl (by assumption)) _).mono ?_); rintro e w' ⟨v, hv, rfl, rfl⟩))
          | (go_at_call 17; ((with_reducible refine (lg_nan (.inr (by assumption)) _).mono ?_); rintro e w' ⟨v, hv, rfl, rfl⟩))
          | (go_at_call 17; ((with_reducible refine (lg_num (by assumption) (by assumption) _).mono ?_); rintro e w' ⟨rfl, rfl⟩))
          | (go_at_call 18; ((with_reducible refine (rl_b (by assumption) (by assumption) _).mono ?_); rintro e w' ⟨rfl, rfl⟩))
          | (go_at_call 10; ((with_reducible refine (alike_any (.inr ⟨by assumption, by assumption⟩) _).mono ?_); rintro e w' ⟨rfl, rfl⟩))
          | (go_at_call 19; ((with_reducible refine (nan_t (by assumption) _).mono ?_); rintro e w' ⟨rfl, rfl⟩))
          | (go_at_call 19; ((with_reducible refine (nan_f (by assumption) _).mono ?_); rintro e w' ⟨rfl, rfl⟩))
          | (go_at_call 13; ((with_reducible refine (awake_any quo_holds _).mono ?_); rintro e w' ⟨rfl, rfl⟩)))
        go_ret
        exact ⟨rfl, by repeat (first | exact Grown.refl _ | apply Grown.drew)⟩
  · cases nb : isn a1 <;> cases nc : isn a2
    · have nq := mx_num nb nc
      go_enter Try.func7, Try.ntmps7
      go_wp2_with (first
        | (go_at_call 17; ((with_reducible refine (lg_nan (.inl (by assumption)) _).mono ?_); rintro e w' ⟨v, hv, rfl, rfl⟩))
        | (go_at_call 17; ((with_reducible refine (lg_nan (.inr (by assumption)) _).mono ?_); rintro e w' ⟨v, hv, rfl, rfl⟩))
        | (go_at_call 17; ((with_reducible refine (lg_num (by assumption) (by assumption) _).mono ?_); rintro e w' ⟨rfl, rfl⟩))
        | (go_at_call 18; ((with_reducible refine (rl_a (by assumption) _ _).mono ?_); rintro e w' ⟨rfl, rfl⟩))
        | (go_at_call 10; ((with_reducible refine (alike_any (.inr ⟨by assumption, by assumption⟩) _).mono ?_); rintro e w' ⟨rfl, rfl⟩))
        | (go_at_call 19; ((with_reducible refine (nan_t (by assumption) _).mono ?_); rintro e w' ⟨rfl, rfl⟩))
        | (go_at_call 19; ((with_reducible refine (nan_f (by assumption) _).mono ?_); rintro e w' ⟨rfl, rfl⟩))
        | (go_at_call 13; ((with_reducible refine (awake_any quo_holds _).mono ?_); rintro e w' ⟨rfl, rfl⟩)))
      go_ret
      exact ⟨rfl, by repeat (first | exact Grown.refl _ | apply Grown.drew)⟩
    all_goals
      go_enter Try.func7, Try.ntmps7
      go_wp2_with (first
        | (go_at_call 17; ((with_reducible refine (lg_nan (.inl (by assumption)) _).mono ?_); rintro e w' ⟨v, hv, rfl, rfl⟩))
        | (go_at_call 17; ((with_reducible refine (lg_nan (.inr (by assumption)) _).mono ?_); rintro e w' ⟨v, hv, rfl, rfl⟩))
        | (go_at_call 17; ((with_reducible refine (lg_num (by assumption) (by assumption) _).mono ?_); rintro e w' ⟨rfl, rfl⟩))
        | (go_at_call 18; ((with_reducible refine (rl_a (by assumption) _ _).mono ?_); rintro e w' ⟨rfl, rfl⟩))
        | (go_at_call 10; ((with_reducible refine (alike_any (.inr ⟨by assumption, by assumption⟩) _).mono ?_); rintro e w' ⟨rfl, rfl⟩))
        | (go_at_call 19; ((with_reducible refine (nan_t (by assumption) _).mono ?_); rintro e w' ⟨rfl, rfl⟩))
        | (go_at_call 19; ((with_reducible refine (nan_f (by assumption) _).mono ?_); rintro e w' ⟨rfl, rfl⟩))
        | (go_at_call 13; ((with_reducible refine (awake_any quo_holds _).mono ?_); rintro e w' ⟨rfl, rfl⟩)))
      go_ret
      exact ⟨rfl, by repeat (first | exact Grown.refl _ | apply Grown.drew)⟩

/-! ### the row's step -/
set_option maxRecDepth 100000 in
theorem lifted (os : Os) (started : os.Started) (H : Type) (enc : TypeId × Value → H) :
    ReturnsInHanded {} Try.checked os 7 .any (Rows.secsLongerSpec.pre6 enc Try.prog Try.f7 Rows.secsLongerRow.domain false) (Rows.secsLongerSpec.post enc Try.prog Try.f7 false true false false) := by
  refine returnsInHanded_of_change (C := Try.checked) own started (by kernel_rfl) Try.func7
    (ChangeSpec.witness6 (enc := enc) (C := Try.checked) false ⟨#[], #[.float .f64 0, .float .f64 0, .float .f64 0], []⟩ 8 (by kernel_rfl) (by kernel_rfl) (by kernel_rfl) (by kernel_rfl)) ?_
  intro W base args ds gs before hval0 hW hcnd _
  have hval : ∀ (j : Nat) t v, Try.f7.params[j]? = some t → args[j]? = some v → Value.okWide Try.prog W .any base t v := hval0
  have hW' := hW
  obtain ⟨p, q, hA0, hV, rfl, hfz, hnd⟩ := hW
  have hA : DataW.TrodAll enc Try.prog W 0 (fun _ => true) true Try.f7.params.toList args.toList ds p := hA0
  rw [Try.params7] at hA hval
  obtain ⟨v0, vs0, d0, ds0, p0, q0, hargs, rfl, rfl, h0, r0⟩ := trodAll_cons hA
  obtain ⟨v1, vs1, d1, ds1, p1, q1, rfl, rfl, rfl, h1, r1⟩ := trodAll_cons r0
  obtain ⟨v2, vs2, d2, ds2, p2, q2, rfl, rfl, rfl, h2, r2⟩ := trodAll_cons r1
  obtain ⟨rfl, rfl, rfl⟩ := trodAll_nil r2
  obtain rfl : args = #[v0, v1, v2] := by cases args; simp_all
  obtain ⟨rfl, rfl⟩ := trodVars_none hV
  obtain ⟨a0, rfl, rfl, rfl, w0⟩ := open_float Try.underlying22 (hval 0 22 v0 rfl rfl) h0
  obtain ⟨a1, rfl, rfl, rfl, w1⟩ := open_float Try.underlying22 (hval 1 22 v1 rfl rfl) h1
  obtain ⟨a2, rfl, rfl, rfl, w2⟩ := open_float Try.underlying22 (hval 2 22 v2 rfl rfl) h2
  clear hA0 hval0
  simp only [List.append_nil] at hW'
  refine (walk a0 a1 a2 w0 w1 w2 W).mono fun e W' ⟨he, hg⟩ => ?_
  subst he
  exact ⟨_, rfl, post_of_same (pa := []) (pv := []) hW' (fun _ _ _ => (trodAll_cons_mk (shut_bool Try.underlying4 _) trodAll_mk0)) (fun sp _ => (trodAll_cons_mk (shut_float Try.underlying22 w0) (trodAll_cons_mk (shut_float Try.underlying22 w1) (trodAll_cons_mk (shut_float Try.underlying22 w2) trodAll_mk0)))) (fun _ _ => rfl) rfl
    (hg.frame _) hg.2.1 (ok_one (by kernel_rfl) rfl (okWide_bool_mk Try.underlying4 _))⟩

theorem over : Rows.secsLongerRow.holds Try.pinned (OpenSpec.ofChange Rows.secsLongerSpec) :=
  OpenClaim.holds_of_wide 7 Try.f7 rfl rfl rfl rfl rfl rfl rfl ⟨rfl, rfl, rfl, rfl, rfl⟩ rfl rfl rfl rfl rfl (by kernel_rfl) Try.func7 (by kernel_rfl)
    (of_decide_eq_true (by kernel_rfl)) (by unfold Func.isWrapper; first | (rw [if_pos (by decide +kernel)]; kernel_rfl) | (rw [if_neg (by decide +kernel)]; exact ⟨rfl, rfl⟩))
    (fun os started H enc _ => lifted os started H enc)

/-- the statement -/
theorem proved : Rows.SecsLongerSaid :=
  over
#print axioms proved
end Go.Proofs.Ytngimfbfdbifgaa.secsLonger
