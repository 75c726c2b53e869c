/- 13 texts in one file, in build order. -/
import Derived.Test.YtjolhoilcibdfaaGreatRows
import Derived.Test.YtjolhoilcibdfaaGreatPart01
import Derived.WalkKit
import Derived.WalkLawsBesides
import Derived.ProofKit
import Derived.IntWalk
import Derived.Lib.Hide
import Derived.Still
import Derived.StillTail
import Derived.Deep.QuietTactic
import Derived.Below
import Derived.Deep.WholeRow
import Derived.BigFrame
import Derived.Laws.StructEq
import Derived.Laws.CopyRow
import Derived.LoopTactic
import Derived.OpenShut
import Derived.ChangeArms
import Derived.DeepKeys
import Derived.StillTailTactics
import Derived.Deep.Cut
set_option linter.unusedVariables false
set_option linter.unusedSimpArgs false
set_option linter.unusedSectionVars false
/- The contracts of Ticks, of package secs and of the document, and of the sign of a float: XSecsW without what stage 6 does not call. -/
namespace Go.Proofs.YtjolhoilcibdfaaGreat.Secs
open Go.ChangeShapes Go.WideShapes Go.ChangeAt Go.RowKit Go.Proofs.Fl
set_option linter.unusedVariables false
set_option linter.unusedSimpArgs false

def cap (n : Int) : Int := if n < 0 then 0 else if 2147483647 < n then 2147483647 else n
theorem cap_neg {n : Int} (h : n < 0) : cap n = 0 := by unfold cap; rw [if_pos h]
theorem cap_big {n : Int} (h : 2147483647 < n) : cap n = 2147483647 := by unfold cap; rw [if_neg (by omega), if_pos h]
theorem cap_in {n : Int} (h : 0 ≤ n) (h' : n ≤ 2147483647) : cap n = n := by unfold cap; rw [if_neg (by omega), if_neg (by omega)]
theorem ret_int {k : IntKind} {a b : Int} (h : a = b) : Ending.returned (.int k a) = .returned (.int k b) := by rw [h]
theorem ret_tick {a b : Int} (h : a = b) : Ending.returned (.tuple #[.int .i64 a, .bool true]) = .returned (.tuple #[.int .i64 b, .bool true]) := by rw [h]
theorem ret_bool {a b : Bool} (h : a = b) : Ending.returned (.bool a) = .returned (.bool b) := by rw [h]
theorem ret_float {k : FloatKind} {a b : Nat} (h : a = b) : Ending.returned (.float k a) = .returned (.float k b) := by rw [h]

set_option maxHeartbeats 400000 in
theorem limit_any (n : Int) (w : World) : Calls Tryz.prog 101 #[.int .i64 n] w fun e w' => e = .returned (.int .i64 (cap n)) ∧ w = w' := by
  by_cases h1 : n < 0
  · go_enter Tryz.func101, Tryz.ntmps101
    go_wp2
    go_ret
    exact ⟨ret_int (cap_neg h1).symm, rfl⟩
  by_cases h2 : 2147483647 < n
  · go_enter Tryz.func101, Tryz.ntmps101
    go_wp2
    go_ret
    exact ⟨ret_int (cap_big h2).symm, rfl⟩
  · go_enter Tryz.func101, Tryz.ntmps101
    go_wp2
    go_ret
    exact ⟨ret_int (cap_in (by omega) (by omega)).symm, rfl⟩

theorem cap_any (n : Int) (w : World) : Calls Tryz.prog 126 #[.int .i64 n] w fun e w' => e = .returned (.int .i64 (cap n)) ∧ w = w' := by
  go_enter Tryz.func126, Tryz.ntmps126
  go_wp2_with (go_at_call 101; refine (limit_any _ _).mono ?_; rintro e w' ⟨rfl, rfl⟩)
  go_ret
  exact ⟨rfl, rfl⟩

/-! is it a number? -/
theorem o_ne_self (x : Nat) : (FloatKind.f64.format.order x x != some .eq) = isn x := by
  show (D.order x x != some .eq) = isn x
  cases h : isn x
  · have := o_eq h h
    rw [bne, this]; simp
  · rw [order_nan x x (.inl h)]; rfl
theorem isnan_any (x : Nat) (w : World) : Calls Tryz.prog 150 #[.float .f64 x] w fun e w' => e = .returned (.bool (isn x)) ∧ w = w' := by
  go_enter Tryz.func150, Tryz.ntmps150
  go_wp2
  go_ret
  exact ⟨ret_bool (o_ne_self x), rfl⟩

/-! seconds of ticks -/
/-- n, cut to 0 to 9999 -/
def cut (n : Int) : Nat := (if n < 0 then 0 else if 9999 < n then 9999 else n).toNat
/-- that the quotients are what they are: proved by calculation elsewhere -/
def Quo : Prop := ∀ k : Nat, k ≤ 9999 → D.div (floatOfInt .f64 (k : Int)) ten = some (ofB k)
theorem quo_holds : Quo := by
  intro k hk
  have hf := float_of k (by omega)
  have hi := irung_lt k (by omega)
  obtain ⟨m, i, P, rx, -, -, -⟩ := read_fin (irung k) (by unfold fin rung; omega)
  have : ∃ s, D.div (floatOfInt .f64 (k : Int)) ten = some s := by
    rw [hf]
    unfold Ieee.Format.div
    rw [rx, show D.read ten = .number false 5629499534213120 (-49) by decide]
    unfold Ieee.Datum.quotient
    dsimp only
    rw [if_neg (by decide)]
    exact ⟨_, rfl⟩
  obtain ⟨s, hs⟩ := this
  unfold ofB
  rw [hs]
  rfl
theorem quo_at (hQ : Quo) (k : Int) (hk0 : 0 ≤ k) (hk : k ≤ 9999) : ∀ t w, (binOp .quo t (.float .f64 (floatOfInt .f64 k)) (.float .f64 4621819117588971520)).run Tryz.prog w = .ok (.float .f64 (ofB k.toNat)) w := by
  intro t w
  obtain ⟨n, rfl⟩ := Int.eq_ofNat_of_zero_le hk0
  exact run_float_arith w .quo t .f64 _ _ _ (hQ n (by omega))
theorem of_any (hQ : Quo) (n : Int) (w : World) : Calls Tryz.prog 153 #[.int .i64 n] w fun e w' => e = .returned (.float .f64 (ofB (cut n))) ∧ w = w' := by
  have hop := quo_at hQ
  clear hQ
  by_cases h1 : n < 0
  · have HC := Lib.hid (show cut n = 0 by unfold cut; rw [if_pos h1]; rfl)
    have hq := hop 0 (by omega) (by omega)
    have hcap := cap_neg h1
    clear hop
    go_enter Tryz.func153, Tryz.ntmps153
    go_wp2_with (first | (go_at_call 126; refine (cap_any _ _).mono ?_; rintro e w' ⟨rfl, rfl⟩) | simp only [hq])
    go_ret
    exact ⟨ret_float (by rw [HC.out]), rfl⟩
  by_cases h2 : 9999 < n
  · have HC := Lib.hid (show cut n = 9999 by unfold cut; rw [if_neg h1, if_pos h2]; rfl)
    have hq := hop 9999 (by omega) (by omega)
    have hcap : 9999 < cap n := by unfold cap; rw [if_neg h1]; split <;> omega
    clear hop
    go_enter Tryz.func153, Tryz.ntmps153
    go_wp2_with (first | (go_at_call 126; refine (cap_any _ _).mono ?_; rintro e w' ⟨rfl, rfl⟩) | simp only [hq])
    go_ret
    exact ⟨ret_float (by rw [HC.out]), rfl⟩
  · have HC := Lib.hid (show cut n = n.toNat by unfold cut; rw [if_neg h1, if_neg h2])
    have hq := hop n (by omega) (by omega)
    have hcap := cap_in (n := n) (by omega) (by omega)
    clear hop
    go_enter Tryz.func153, Tryz.ntmps153
    go_wp2_with (first | (go_at_call 126; refine (cap_any _ _).mono ?_; rintro e w' ⟨rfl, rfl⟩) | simp only [hq])
    go_ret
    exact ⟨ret_float (by rw [HC.out]), rfl⟩
theorem of_top : ofB (cut 9999) = 4652006429231887155 := by decide +kernel
theorem longest_any (hQ : Quo) (w : World) : Calls Tryz.prog 151 #[] w fun e w' => e = .returned (.float .f64 4652006429231887155) ∧ w = w' := by
  have HQ := Lib.hid hQ
  clear hQ
  go_enter Tryz.func151, Tryz.ntmps151
  go_wp2_with (go_at_call 153; refine (of_any HQ.out _ _).mono ?_; rintro e w' ⟨rfl, rfl⟩)
  go_ret
  exact ⟨ret_float of_top, rfl⟩

theorem even_call {s : Nat} (h : ok s = true) (w : World) : (callFunc 152 #[.float .f64 (xw s)]).run Tryz.prog w = .ok (.value (.float .f64 (rw' s))) w := by
  rw [run_callFunc_extern (e := Extern.MathFloor.toIntegral "math.RoundToEven" .even) Tryz.func152 (by kernel_rfl) (by kernel_rfl) (by kernel_rfl) (by kernel_rfl)]
  have hr := round_ok h
  obtain ⟨m, i, P, rx, -, -, -⟩ := read_fin (xw s) (xw_fin h)
  have e : FloatKind.decode .f64 (xw s) = .number (sg (xw s)) m i := rx
  have e2 : FloatKind.encode .f64 (Ieee.Datum.integral .even (.number (sg (xw s)) m i)) = rw' s := by rw [← hr, ← rx]; rfl
  have key : Extern.MathFloor.toIntegral "math.RoundToEven" .even #[.float .f64 (xw s)] = pure (.float .f64 (rw' s)) := by
    show Extern.MathFloor.toIntegral.match_1 (fun _ => Sem Value) (FloatKind.decode .f64 (xw s)) _ _ = _
    rw [e]
    show pure (Value.float .f64 (FloatKind.encode .f64 (Ieee.Datum.integral .even (.number (sg (xw s)) m i)))) = _
    rw [e2]
  rw [key]
  rfl
theorem bits_call (x : Nat) (w : World) : (callFunc 148 #[.float .f64 x]).run Tryz.prog w = .ok (.value (.int .u64 x)) w := by
  rw [run_callFunc_extern (e := Extern.MathFloatBits.float64bits) Tryz.func148 (by kernel_rfl) (by kernel_rfl) (by kernel_rfl) (by kernel_rfl)]
  rfl
/-! how two stand to each other, named -/
theorem ord_cases (x y : Nat) (hx : isn x = false) (hy : isn y = false) :
    (key x < key y ∧ FloatKind.f64.format.order x y = some .lt) ∨ (key x = key y ∧ FloatKind.f64.format.order x y = some .eq) ∨ (key y < key x ∧ FloatKind.f64.format.order x y = some .gt) := by
  have h : FloatKind.f64.format.order x y = some (compare (key x) (key y)) := order_key x y hx hy
  rw [h, Int.compare_eq_ite_lt]
  rcases Int.lt_trichotomy (key x) (key y) with hl | hl | hl
  · exact .inl ⟨hl, by rw [if_pos hl]⟩
  · exact .inr (.inl ⟨hl, by rw [if_neg (by omega), if_neg (by omega)]⟩)
  · exact .inr (.inr ⟨hl, by rw [if_neg (by omega), if_pos hl]⟩)
theorem ord_nan (x y : Nat) (h : isn x = true ∨ isn y = true) : FloatKind.f64.format.order x y = none := order_nan x y h
theorem key0 : key 0 = 0 := by decide
theorem keyT : key 4652006429231887155 = 4652006429231887155 := by decide
theorem isn0 : isn 0 = false := by decide
theorem isnT : isn 4652006429231887155 = false := by decide

theorem isnan_t {x : Nat} (h : isn x = true) (w : World) : Calls Tryz.prog 150 #[.float .f64 x] w fun e w' => e = .returned (.bool true) ∧ w = w' :=
  (isnan_any x w).mono fun _ _ ⟨a, b⟩ => ⟨by rw [a, h], b⟩
theorem isnan_f {x : Nat} (h : isn x = false) (w : World) : Calls Tryz.prog 150 #[.float .f64 x] w fun e w' => e = .returned (.bool false) ∧ w = w' :=
  (isnan_any x w).mono fun _ _ ⟨a, b⟩ => ⟨by rw [a, h], b⟩

/-! Ticks -/
set_option maxHeartbeats 800000 in
theorem ticks_no (hQ : Quo) {s : Nat} (h : ok s = false) (w : World) : Calls Tryz.prog 149 #[.float .f64 s] w fun e w' => e = .returned (.tuple #[.int .i64 0, .bool false]) ∧ w = w' := by
  have HQ := Lib.hid hQ
  clear hQ
  cases hn : isn s
  · have h0 := ord_cases s 0 hn isn0
    have hT := ord_cases s 4652006429231887155 hn isnT
    rw [key0] at h0
    rw [keyT] at hT
    have hk : key s < 0 ∨ 0 ≤ key s ∧ 4652006429231887155 < key s := by
      have : ¬ ok s = true := by rw [h]; simp
      rw [ok_iff] at this
      by_cases a : key s < 0
      · exact .inl a
      · by_cases b : 4652006429231887155 < key s
        · exact .inr ⟨by omega, b⟩
        · exact absurd ⟨hn, by omega, by omega⟩ this
    have HN := Lib.hid hn
    clear hn h
    rcases hk with hk | ⟨hk0, hk⟩
    · have ho : FloatKind.f64.format.order s 0 = some .lt := by rcases h0 with ⟨a, b⟩ | ⟨a, b⟩ | ⟨a, b⟩ <;> first | exact b | omega
      clear h0 hT
      go_enter Tryz.func149, Tryz.ntmps149
      go_wp2_with (go_at_call 150; refine (isnan_f HN.out _).mono ?_; rintro e w' ⟨rfl, rfl⟩)
      go_ret2
      exact ⟨rfl, rfl⟩
    · have ho2 : FloatKind.f64.format.order s 4652006429231887155 = some .gt := by rcases hT with ⟨a, b⟩ | ⟨a, b⟩ | ⟨a, b⟩ <;> first | exact b | omega
      clear hT
      rcases h0 with ⟨a, ho⟩ | ⟨a, ho⟩ | ⟨a, ho⟩
      · omega
      all_goals
        clear a
        go_enter Tryz.func149, Tryz.ntmps149
        go_wp2_with (first | (go_at_call 150; refine (isnan_f HN.out _).mono ?_; rintro e w' ⟨rfl, rfl⟩) | (go_at_call 151; refine (longest_any HQ.out _).mono ?_; rintro e w' ⟨rfl, rfl⟩))
        go_ret2
        exact ⟨rfl, rfl⟩
  · have HN := Lib.hid hn
    clear hn h
    go_enter Tryz.func149, Tryz.ntmps149
    go_wp2_with (go_at_call 150; refine (isnan_t HN.out _).mono ?_; rintro e w' ⟨rfl, rfl⟩)
    go_ret2
    exact ⟨rfl, rfl⟩
set_option maxHeartbeats 800000 in
theorem ticks_yes (hQ : Quo) {s : Nat} (h : ok s = true) (w : World) : Calls Tryz.prog 149 #[.float .f64 s] w fun e w' => e = .returned (.tuple #[.int .i64 (tk s), .bool true]) ∧ w = w' := by
  have HQ := Lib.hid hQ
  clear hQ
  obtain ⟨hn, hlo, hhi⟩ := (ok_iff s).1 h
  have h0 := ord_cases s 0 hn isn0
  have hT := ord_cases s 4652006429231887155 hn isnT
  rw [key0] at h0
  rw [keyT] at hT
  have HN := Lib.hid hn
  have hm : ∀ t w, (binOp .mul t (.float .f64 4621819117588971520) (.float .f64 s)).run Tryz.prog w = .ok (.float .f64 (xw s)) w := fun t w => run_float_arith w .mul t .f64 _ _ _ (mul_ok h).1
  have he := even_call h
  have hc : ∀ w, (convert 43 3 (.float .f64 (rw' s))).run Tryz.prog w = .ok (.int .i64 (tk s)) w := fun w => run_convert_float_int w 43 3 .f64 .i64 _ _ (by rw [Tryz.underlying43]; rfl) Tryz.underlying3 (int_ok h)
  clear hn h
  rcases h0 with ⟨a, ho⟩ | ⟨a, ho⟩ | ⟨a, ho⟩
  · omega
  all_goals
    rcases hT with ⟨b, ho2⟩ | ⟨b, ho2⟩ | ⟨b, ho2⟩
    rotate_right
    · omega
    all_goals
      clear a b hlo hhi
      go_enter Tryz.func149, Tryz.ntmps149
      go_wp2_with (first | (go_at_call 150; refine (isnan_f HN.out _).mono ?_; rintro e w' ⟨rfl, rfl⟩) | (go_at_call 151; refine (longest_any HQ.out _).mono ?_; rintro e w' ⟨rfl, rfl⟩) | simp only [hm, he, hc])
      go_ret2
      exact ⟨rfl, rfl⟩

set_option maxHeartbeats 800000 in
theorem rticks_no {s : Nat} (h : ok s = false) (w : World) : Calls Tryz.prog 142 #[.float .f64 s] w fun e w' => e = .returned (.tuple #[.int .i64 0, .bool false]) ∧ w = w' := by
  cases hn : isn s
  · have h0 := ord_cases s 0 hn isn0
    have hT := ord_cases s 4652006429231887155 hn isnT
    rw [key0] at h0
    rw [keyT] at hT
    have hk : key s < 0 ∨ 0 ≤ key s ∧ 4652006429231887155 < key s := by
      have : ¬ ok s = true := by rw [h]; simp
      rw [ok_iff] at this
      by_cases a : key s < 0
      · exact .inl a
      · by_cases b : 4652006429231887155 < key s
        · exact .inr ⟨by omega, b⟩
        · exact absurd ⟨hn, by omega, by omega⟩ this
    clear hn h
    rcases hk with hk | ⟨hk0, hk⟩
    · have ho : FloatKind.f64.format.order s 0 = some .lt := by rcases h0 with ⟨a, b⟩ | ⟨a, b⟩ | ⟨a, b⟩ <;> first | exact b | omega
      clear h0 hT
      go_enter Tryz.func142, Tryz.ntmps142
      go_wp2
      go_ret2
      exact ⟨rfl, rfl⟩
    · have ho2 : FloatKind.f64.format.order s 4652006429231887155 = some .gt := by rcases hT with ⟨a, b⟩ | ⟨a, b⟩ | ⟨a, b⟩ <;> first | exact b | omega
      clear hT
      rcases h0 with ⟨a, ho⟩ | ⟨a, ho⟩ | ⟨a, ho⟩
      · omega
      all_goals
        clear a
        go_enter Tryz.func142, Tryz.ntmps142
        go_wp2
        go_ret2
        exact ⟨rfl, rfl⟩
  · have ho := ord_nan s 0 (.inl hn)
    have ho2 := ord_nan s 4652006429231887155 (.inl hn)
    clear hn h
    go_enter Tryz.func142, Tryz.ntmps142
    go_wp2
    go_ret2
    exact ⟨rfl, rfl⟩
theorem b00 (q : Nat) : q + (false || (false && q % 2 == 1)).toNat = q := rfl
theorem b01 (q : Nat) (h : q % 2 = 1) : q + (false || (true && q % 2 == 1)).toNat = q + 1 := by rw [h]; rfl
theorem b02 (q : Nat) (h : q % 2 = 0) : q + (false || (true && q % 2 == 1)).toNat = q := by rw [h]; rfl
theorem b1 (q : Nat) (b : Bool) : q + (true || b).toNat = q + 1 := rfl
theorem cast1 (q : Nat) : (q : Int) + 1 = ((q + 1 : Nat) : Int) := rfl
theorem isnH : isn half = false := by decide
set_option maxHeartbeats 2000000 in
theorem rticks_yes {s : Nat} (h : ok s = true) (w : World) : Calls Tryz.prog 142 #[.float .f64 s] w fun e w' => e = .returned (.tuple #[.int .i64 (tk s), .bool true]) ∧ w = w' := by
  obtain ⟨hn, hlo, hhi⟩ := (ok_iff s).1 h
  have h0 := ord_cases s 0 hn isn0
  have hT := ord_cases s 4652006429231887155 hn isnT
  rw [key0] at h0
  rw [keyT] at hT
  obtain ⟨hsub, hln, hgt, heq⟩ := rest_ok h
  have hH := ord_cases (lw s) half hln isnH
  have hq : qk s ≤ 9999 := Nat.le_trans (rhe_lo _ _) (tk_hi h)
  have htk := tk_qk s
  rw [← hgt, ← heq] at htk
  have hm : ∀ t w, (binOp .mul t (.float .f64 s) (.float .f64 4621819117588971520)).run Tryz.prog w = .ok (.float .f64 (xw s)) w := fun t w => run_float_arith w .mul t .f64 _ _ _ (mul_ok h).2
  have hc : ∀ w, (convert 43 3 (.float .f64 (xw s))).run Tryz.prog w = .ok (.int .i64 (qk s)) w := fun w => run_convert_float_int w 43 3 .f64 .i64 _ _ (by rw [Tryz.underlying43]; rfl) Tryz.underlying3 (cut_ok h)
  have hs : ∀ t w, (binOp .sub t (.float .f64 (xw s)) (.float .f64 (irung (qk s)))).run Tryz.prog w = .ok (.float .f64 (lw s)) w := fun t w => run_float_arith w .sub t .f64 _ _ _ hsub
  have hf := float_of (qk s) (by omega)
  have hq0 : (0 : Int) ≤ (qk s : Int) := by omega
  have hq1 : (qk s : Int) ≤ 9999 := by omega
  have HT := Lib.hid (show tk s = qk s + (decide (key half < key (lw s)) || (decide (key (lw s) = key half) && qk s % 2 == 1)).toNat from htk)
  clear htk hgt heq hsub hln hn h hq
  have par : qk s % 2 = 1 ∨ qk s % 2 = 0 := by omega
  rcases h0 with ⟨a, ho⟩ | ⟨a, ho⟩ | ⟨a, ho⟩
  · omega
  all_goals
    rcases hT with ⟨b, ho2⟩ | ⟨b, ho2⟩ | ⟨b, ho2⟩
    rotate_right
    · omega
    all_goals
      clear a b hlo hhi
      rcases hH with ⟨c, ho3⟩ | ⟨c, ho3⟩ | ⟨c, ho3⟩
      · have HE := Lib.hid (show tk s = qk s from by rw [HT.out, decide_eq_false (by omega), decide_eq_false (by omega)]; exact b00 _)
        clear HT par c
        go_enter Tryz.func142, Tryz.ntmps142
        go_wp2_with (simp only [hm, hc, hs, hf])
        go_ret2
        exact ⟨ret_tick (by rw [HE.out]), rfl⟩
      · rcases par with p | p
        · have HE := Lib.hid (show tk s = qk s + 1 from by rw [HT.out, decide_eq_false (by omega), decide_eq_true c]; exact b01 _ p)
          have p' : (qk s : Int) % 2 = 1 := by omega
          clear HT p c
          go_enter Tryz.func142, Tryz.ntmps142
          go_wp2_with (simp only [hm, hc, hs, hf])
          go_ret2
          exact ⟨ret_tick (by rw [HE.out]; exact cast1 _), rfl⟩
        · have HE := Lib.hid (show tk s = qk s from by rw [HT.out, decide_eq_false (by omega), decide_eq_true c]; exact b02 _ p)
          have p' : (qk s : Int) % 2 = 0 := by omega
          clear HT p c
          go_enter Tryz.func142, Tryz.ntmps142
          go_wp2_with (simp only [hm, hc, hs, hf])
          go_ret2
          exact ⟨ret_tick (by rw [HE.out]), rfl⟩
      · have HE := Lib.hid (show tk s = qk s + 1 from by rw [HT.out, decide_eq_true c]; exact b1 _ _)
        clear HT par c
        go_enter Tryz.func142, Tryz.ntmps142
        go_wp2_with (simp only [hm, hc, hs, hf])
        go_ret2
        exact ⟨ret_tick (by rw [HE.out]; exact cast1 _), rfl⟩
end Go.Proofs.YtjolhoilcibdfaaGreat.Secs
/- The contracts of mayLevel, maySeconds, of the document's Level and Seconds, of Signbit and of a float's bits. -/
namespace Go.Proofs.YtjolhoilcibdfaaGreat.MayF
open Go.ChangeShapes Go.WideShapes Go.ChangeAt Go.RowKit Go.Proofs.Fl
open Secs
set_option linter.unusedVariables false
set_option linter.unusedSimpArgs false

/-- A float's sign, as Signbit asks for it. -/
def neg (x : Nat) : Bool := decide (wrap64 (x : Int) < 0)
theorem signbit_any (x : Nat) (w : World) : Calls Tryz.prog 143 #[.float .f64 x] w fun e w' => e = .returned (.bool (neg x)) ∧ w = w' := by
  have hb := bits_call x
  go_enter Tryz.func143, Tryz.ntmps143
  go_wp2_with (simp only [hb])
  go_ret
  exact ⟨rfl, rfl⟩
/-- A level. -/
def level (x : Nat) : Bool := !isn x && decide (0 < key x) && decide (key x ≤ 4696837146684686336)
theorem keyM : key 4696837146684686336 = 4696837146684686336 := by decide
theorem isnM : isn 4696837146684686336 = false := by decide
theorem level_any (x : Nat) (w : World) : Calls Tryz.prog 145 #[.float .f64 x] w fun e w' => e = .returned (.bool (level x)) ∧ w = w' := by
  cases hn : isn x
  · have h0 := ord_cases x 0 hn isn0
    have hT := ord_cases x 4696837146684686336 hn isnM
    rw [key0] at h0
    rw [keyM] at hT
    have HN := Lib.hid hn
    clear hn
    rcases h0 with ⟨a, ho⟩ | ⟨a, ho⟩ | ⟨a, ho⟩
    all_goals rcases hT with ⟨b, ho2⟩ | ⟨b, ho2⟩ | ⟨b, ho2⟩
    all_goals
      have HA := Lib.hid a
      have HB := Lib.hid b
      clear a b
      go_enter Tryz.func145, Tryz.ntmps145
      go_wp2
      go_ret
      have a := HA.out
      have b := HB.out
      exact ⟨ret_bool (by unfold level; rw [HN.out]; first | (rw [decide_eq_true (by omega), decide_eq_true (by omega)]; rfl) | (rw [decide_eq_false (by omega)]; simp) | (rw [decide_eq_false (p := key x ≤ _) (by omega)]; simp)), rfl⟩
  · have ho := ord_nan x 0 (.inl hn)
    have ho2 := ord_nan x 4696837146684686336 (.inl hn)
    have HN := Lib.hid hn
    clear hn
    go_enter Tryz.func145, Tryz.ntmps145
    go_wp2
    go_ret
    exact ⟨ret_bool (by unfold level; rw [HN.out]; rfl), rfl⟩
theorem rlevel_any (x : Nat) (w : World) : Calls Tryz.prog 121 #[.float .f64 x] w fun e w' => e = .returned (.bool (level x)) ∧ w = w' := by
  cases hn : isn x
  · have h0 := ord_cases x 0 hn isn0
    have hT := ord_cases x 4696837146684686336 hn isnM
    rw [key0] at h0
    rw [keyM] at hT
    have HN := Lib.hid hn
    clear hn
    rcases h0 with ⟨a, ho⟩ | ⟨a, ho⟩ | ⟨a, ho⟩
    all_goals rcases hT with ⟨b, ho2⟩ | ⟨b, ho2⟩ | ⟨b, ho2⟩
    all_goals
      have HA := Lib.hid a
      have HB := Lib.hid b
      clear a b
      go_enter Tryz.func121, Tryz.ntmps121
      go_wp2
      go_ret
      have a := HA.out
      have b := HB.out
      exact ⟨ret_bool (by unfold level; rw [HN.out]; first | (rw [decide_eq_true (by omega), decide_eq_true (by omega)]; rfl) | (rw [decide_eq_false (by omega)]; simp) | (rw [decide_eq_false (p := key x ≤ _) (by omega)]; simp)), rfl⟩
  · have ho := ord_nan x 0 (.inl hn)
    have ho2 := ord_nan x 4696837146684686336 (.inl hn)
    have HN := Lib.hid hn
    clear hn
    go_enter Tryz.func121, Tryz.ntmps121
    go_wp2
    go_ret
    exact ⟨ret_bool (by unfold level; rw [HN.out]; rfl), rfl⟩
/-- Seconds. -/
def span (x : Nat) : Bool := ok x && !neg x
theorem span_any (x : Nat) (w : World) : Calls Tryz.prog 146 #[.float .f64 x] w fun e w' => e = .returned (.bool (span x)) ∧ w = w' := by
  cases hk : ok x
  · have HK := Lib.hid hk
    clear hk
    go_enter Tryz.func146, Tryz.ntmps146
    go_wp2_with (go_at_call 149; refine (ticks_no quo_holds HK.out _).mono ?_; rintro e w' ⟨rfl, rfl⟩)
    go_ret
    exact ⟨ret_bool (by unfold span; rw [HK.out, Bool.false_and]), rfl⟩
  · have HK := Lib.hid hk
    clear hk
    go_enter Tryz.func146, Tryz.ntmps146
    go_wp2_with (first | (go_at_call 149; refine (ticks_yes quo_holds HK.out _).mono ?_; rintro e w' ⟨rfl, rfl⟩) | (go_at_call 143; refine (signbit_any _ _).mono ?_; rintro e w' ⟨rfl, rfl⟩))
    go_ret
    exact ⟨ret_bool (by unfold span; rw [HK.out, Bool.true_and]), rfl⟩
theorem rspan_any (x : Nat) (w : World) : Calls Tryz.prog 122 #[.float .f64 x] w fun e w' => e = .returned (.bool (span x)) ∧ w = w' := by
  cases hk : ok x
  · have HK := Lib.hid hk
    clear hk
    go_enter Tryz.func122, Tryz.ntmps122
    go_wp2_with (go_at_call 142; refine (rticks_no HK.out _).mono ?_; rintro e w' ⟨rfl, rfl⟩)
    go_ret
    exact ⟨ret_bool (by unfold span; rw [HK.out, Bool.false_and]), rfl⟩
  · have HK := Lib.hid hk
    clear hk
    go_enter Tryz.func122, Tryz.ntmps122
    go_wp2_with (first | (go_at_call 142; refine (rticks_yes HK.out _).mono ?_; rintro e w' ⟨rfl, rfl⟩) | (go_at_call 143; refine (signbit_any _ _).mono ?_; rintro e w' ⟨rfl, rfl⟩))
    go_ret
    exact ⟨ret_bool (by unfold span; rw [HK.out, Bool.true_and]), rfl⟩
end Go.Proofs.YtjolhoilcibdfaaGreat.MayF
/- The contracts of table.mayPhase, mayRow, mayGroup, mayDetector, mayRail, mayBus and of the document's phase, detector and rail: is a part of a table within its ranges? -/
namespace Go.Proofs.YtjolhoilcibdfaaGreat.May
open Go.ChangeShapes Go.WideShapes Go.ChangeAt Go.RowKit
open Tab MayF
set_option linter.unusedVariables false
set_option linter.unusedSimpArgs false

def Ph.may (p : Ph) : Bool := allIn 9999 [p.min, p.gap, p.max, p.top, p.step, p.yellow, p.red, p.walk, p.blinks] && allIn 3 [p.recall]
def rowMay (l : List Int) : Bool := decide (l.length ≤ 8) && allIn 7 l
def groupMay (g : List Int × List Int) : Bool := rowMay g.1 && rowMay g.2
def Det.may (d : Det) : Bool := allIn 7 [d.phase] && (level d.on && (level d.off && (span d.delay && (span d.extend && allIn 9999 [d.maxOn, d.maxOff]))))
def Rl.may (r : Rl) : Bool := allIn 255 [r.bars, r.clear, r.dwell, r.exit] && (allIn 9999 [r.delay, r.green, r.foot, r.hold, r.stay, r.most] && allIn 2147483647 [r.limit])
def Bs.may (b : Bs) : Bool := allIn 255 [b.set] && allIn 9999 [b.lock]

theorem row_new (w : World) (t : TypeId) (l : List Int) (n : Nat) (hn : l.length = n) (hm : n ≤ maxLen) (k : Nat) (hk : w.heap.size = k) : IntRow (w.alloc (.cells (l.map I).toArray t)) ⟨some ⟨k, 0, none⟩, n⟩ l := by
  subst hn hk
  refine .inr ⟨_, rfl, Nat.le_refl _, hm, fun i v hv j u hu => ?_⟩
  cases j with
  | zero =>
    obtain rfl := Option.some.inj hu
    rw [Nat.mul_one, add_two, Nat.add_zero, Addr.add_mid, Nat.zero_add]
    rw [cell_of_row _ _ _ _ _ _ (heap_alloc_new w _)]
    simp [hv]
  | succ j => cases hu

set_option maxHeartbeats 1000000 in
theorem mayPhase_any (p : Ph) (w : World) :
    Calls Tryz.prog 129 #[.agg (Ph.cells p).toArray] w fun e w' => e = .returned (.bool (Ph.may p)) ∧ Below w.heap.size w w' := by
  obtain ⟨on, min, gap, max, top, step, yellow, red, walk, blinks, recall, lock, rest⟩ := p
  show Calls Tryz.prog 129 #[.agg #[.bool on, I min, I gap, I max, I top, I step, I yellow, I red, I walk, I blinks, I recall, .bool lock, .bool rest]] w _
  go_enter Tryz.func129, Tryz.ntmps129
  go_wp2_with fail
  refine (within_any 9999 _ _ [min, gap, max, top, step, yellow, red, walk, blinks] _ (row_new _ _ [min, gap, max, top, step, yellow, red, walk, blinks] 9 rfl (by decide) _ (by simp))).mono ?_
  rintro e w' ⟨rfl, rfl⟩
  generalize hb1 : allIn 9999 [min, gap, max, top, step, yellow, red, walk, blinks] = b1
  have HB1 := Lib.hid hb1
  clear hb1
  cases b1
  · go_wp2
    go_ret
    exact ⟨ret_bool (by unfold Ph.may; simp only [HB1.out, Bool.true_and, Bool.false_and, Bool.and_true, Bool.and_false]), (by repeat' first | exact Below.refl _ _ | (refine Below.alloc ?_ ?_ _) | (simp; done) | (simp; omega))⟩
  go_wp2_with fail
  refine (within_any 3 _ _ [recall] _ (row_new _ _ [recall] 1 rfl (by decide) _ (by simp))).mono ?_
  rintro e w' ⟨rfl, rfl⟩
  generalize hb2 : allIn 3 [recall] = b2
  have HB2 := Lib.hid hb2
  clear hb2
  go_wp2
  go_ret
  exact ⟨ret_bool (by unfold Ph.may; simp only [HB1.out, HB2.out, Bool.true_and, Bool.false_and, Bool.and_true, Bool.and_false]), (by repeat' first | exact Below.refl _ _ | (refine Below.alloc ?_ ?_ _) | (simp; done) | (simp; omega))⟩
set_option maxHeartbeats 1000000 in
theorem rphase_any (p : Ph) (w : World) :
    Calls Tryz.prog 90 #[.agg (Ph.cells p).toArray] w fun e w' => e = .returned (.bool (Ph.may p)) ∧ Below w.heap.size w w' := by
  obtain ⟨on, min, gap, max, top, step, yellow, red, walk, blinks, recall, lock, rest⟩ := p
  show Calls Tryz.prog 90 #[.agg #[.bool on, I min, I gap, I max, I top, I step, I yellow, I red, I walk, I blinks, I recall, .bool lock, .bool rest]] w _
  go_enter Tryz.func90, Tryz.ntmps90
  go_wp2_with fail
  refine (times_any _ _ [min, gap, max, top, step, yellow, red, walk, blinks] _ (row_new _ _ [min, gap, max, top, step, yellow, red, walk, blinks] 9 rfl (by decide) _ (by simp))).mono ?_
  rintro e w' ⟨rfl, rfl⟩
  generalize hb1 : allIn 9999 [min, gap, max, top, step, yellow, red, walk, blinks] = b1
  have HB1 := Lib.hid hb1
  clear hb1
  cases b1
  · go_wp2
    go_ret
    exact ⟨ret_bool (by unfold Ph.may; simp only [HB1.out, Bool.true_and, Bool.false_and, Bool.and_true, Bool.and_false]), (by repeat' first | exact Below.refl _ _ | (refine Below.alloc ?_ ?_ _) | (simp; done) | (simp; omega))⟩
  go_wp2_with fail
  refine (upto_any 3 _ _ [recall] _ (row_new _ _ [recall] 1 rfl (by decide) _ (by simp))).mono ?_
  rintro e w' ⟨rfl, rfl⟩
  generalize hb2 : allIn 3 [recall] = b2
  have HB2 := Lib.hid hb2
  clear hb2
  go_wp2
  go_ret
  exact ⟨ret_bool (by unfold Ph.may; simp only [HB1.out, HB2.out, Bool.true_and, Bool.false_and, Bool.and_true, Bool.and_false]), (by repeat' first | exact Below.refl _ _ | (refine Below.alloc ?_ ?_ _) | (simp; done) | (simp; omega))⟩
set_option maxHeartbeats 1000000 in
theorem mayDetector_any (d : Det) (w : World) :
    Calls Tryz.prog 134 #[.agg (Det.cells d).toArray] w fun e w' => e = .returned (.bool (Det.may d)) ∧ Below w.heap.size w w' := by
  obtain ⟨phase, on, off, delay, extend, maxOn, maxOff⟩ := d
  show Calls Tryz.prog 134 #[.agg #[I phase, F on, F off, F delay, F extend, I maxOn, I maxOff]] w _
  go_enter Tryz.func134, Tryz.ntmps134
  go_wp2_with fail
  refine (within_any 7 _ _ [phase] _ (row_new _ _ [phase] 1 rfl (by decide) _ (by simp))).mono ?_
  rintro e w' ⟨rfl, rfl⟩
  generalize hb1 : allIn 7 [phase] = b1
  have HB1 := Lib.hid hb1
  clear hb1
  cases b1
  · go_wp2
    go_ret
    exact ⟨ret_bool (by unfold Det.may; simp only [HB1.out, Bool.true_and, Bool.false_and, Bool.and_true, Bool.and_false]), (by repeat' first | exact Below.refl _ _ | (refine Below.alloc ?_ ?_ _) | (simp; done) | (simp; omega))⟩
  go_wp2_with fail
  refine (level_any on _).mono ?_
  rintro e w' ⟨rfl, rfl⟩
  generalize hb2 : level on = b2
  have HB2 := Lib.hid hb2
  clear hb2
  cases b2
  · go_wp2
    go_ret
    exact ⟨ret_bool (by unfold Det.may; simp only [HB1.out, HB2.out, Bool.true_and, Bool.false_and, Bool.and_true, Bool.and_false]), (by repeat' first | exact Below.refl _ _ | (refine Below.alloc ?_ ?_ _) | (simp; done) | (simp; omega))⟩
  go_wp2_with fail
  refine (level_any off _).mono ?_
  rintro e w' ⟨rfl, rfl⟩
  generalize hb3 : level off = b3
  have HB3 := Lib.hid hb3
  clear hb3
  cases b3
  · go_wp2
    go_ret
    exact ⟨ret_bool (by unfold Det.may; simp only [HB1.out, HB2.out, HB3.out, Bool.true_and, Bool.false_and, Bool.and_true, Bool.and_false]), (by repeat' first | exact Below.refl _ _ | (refine Below.alloc ?_ ?_ _) | (simp; done) | (simp; omega))⟩
  go_wp2_with fail
  refine (span_any delay _).mono ?_
  rintro e w' ⟨rfl, rfl⟩
  generalize hb4 : span delay = b4
  have HB4 := Lib.hid hb4
  clear hb4
  cases b4
  · go_wp2
    go_ret
    exact ⟨ret_bool (by unfold Det.may; simp only [HB1.out, HB2.out, HB3.out, HB4.out, Bool.true_and, Bool.false_and, Bool.and_true, Bool.and_false]), (by repeat' first | exact Below.refl _ _ | (refine Below.alloc ?_ ?_ _) | (simp; done) | (simp; omega))⟩
  go_wp2_with fail
  refine (span_any extend _).mono ?_
  rintro e w' ⟨rfl, rfl⟩
  generalize hb5 : span extend = b5
  have HB5 := Lib.hid hb5
  clear hb5
  cases b5
  · go_wp2
    go_ret
    exact ⟨ret_bool (by unfold Det.may; simp only [HB1.out, HB2.out, HB3.out, HB4.out, HB5.out, Bool.true_and, Bool.false_and, Bool.and_true, Bool.and_false]), (by repeat' first | exact Below.refl _ _ | (refine Below.alloc ?_ ?_ _) | (simp; done) | (simp; omega))⟩
  go_wp2_with fail
  refine (within_any 9999 _ _ [maxOn, maxOff] _ (row_new _ _ [maxOn, maxOff] 2 rfl (by decide) _ (by simp))).mono ?_
  rintro e w' ⟨rfl, rfl⟩
  generalize hb6 : allIn 9999 [maxOn, maxOff] = b6
  have HB6 := Lib.hid hb6
  clear hb6
  go_wp2
  go_ret
  exact ⟨ret_bool (by unfold Det.may; simp only [HB1.out, HB2.out, HB3.out, HB4.out, HB5.out, HB6.out, Bool.true_and, Bool.false_and, Bool.and_true, Bool.and_false]), (by repeat' first | exact Below.refl _ _ | (refine Below.alloc ?_ ?_ _) | (simp; done) | (simp; omega))⟩
set_option maxHeartbeats 1000000 in
theorem rdetector_any (d : Det) (w : World) :
    Calls Tryz.prog 91 #[.agg (Det.cells d).toArray] w fun e w' => e = .returned (.bool (Det.may d)) ∧ Below w.heap.size w w' := by
  obtain ⟨phase, on, off, delay, extend, maxOn, maxOff⟩ := d
  show Calls Tryz.prog 91 #[.agg #[I phase, F on, F off, F delay, F extend, I maxOn, I maxOff]] w _
  go_enter Tryz.func91, Tryz.ntmps91
  go_wp2_with fail
  refine (upto_any 7 _ _ [phase] _ (row_new _ _ [phase] 1 rfl (by decide) _ (by simp))).mono ?_
  rintro e w' ⟨rfl, rfl⟩
  generalize hb1 : allIn 7 [phase] = b1
  have HB1 := Lib.hid hb1
  clear hb1
  cases b1
  · go_wp2
    go_ret
    exact ⟨ret_bool (by unfold Det.may; simp only [HB1.out, Bool.true_and, Bool.false_and, Bool.and_true, Bool.and_false]), (by repeat' first | exact Below.refl _ _ | (refine Below.alloc ?_ ?_ _) | (simp; done) | (simp; omega))⟩
  go_wp2_with fail
  refine (rlevel_any on _).mono ?_
  rintro e w' ⟨rfl, rfl⟩
  generalize hb2 : level on = b2
  have HB2 := Lib.hid hb2
  clear hb2
  cases b2
  · go_wp2
    go_ret
    exact ⟨ret_bool (by unfold Det.may; simp only [HB1.out, HB2.out, Bool.true_and, Bool.false_and, Bool.and_true, Bool.and_false]), (by repeat' first | exact Below.refl _ _ | (refine Below.alloc ?_ ?_ _) | (simp; done) | (simp; omega))⟩
  go_wp2_with fail
  refine (rlevel_any off _).mono ?_
  rintro e w' ⟨rfl, rfl⟩
  generalize hb3 : level off = b3
  have HB3 := Lib.hid hb3
  clear hb3
  cases b3
  · go_wp2
    go_ret
    exact ⟨ret_bool (by unfold Det.may; simp only [HB1.out, HB2.out, HB3.out, Bool.true_and, Bool.false_and, Bool.and_true, Bool.and_false]), (by repeat' first | exact Below.refl _ _ | (refine Below.alloc ?_ ?_ _) | (simp; done) | (simp; omega))⟩
  go_wp2_with fail
  refine (rspan_any delay _).mono ?_
  rintro e w' ⟨rfl, rfl⟩
  generalize hb4 : span delay = b4
  have HB4 := Lib.hid hb4
  clear hb4
  cases b4
  · go_wp2
    go_ret
    exact ⟨ret_bool (by unfold Det.may; simp only [HB1.out, HB2.out, HB3.out, HB4.out, Bool.true_and, Bool.false_and, Bool.and_true, Bool.and_false]), (by repeat' first | exact Below.refl _ _ | (refine Below.alloc ?_ ?_ _) | (simp; done) | (simp; omega))⟩
  go_wp2_with fail
  refine (rspan_any extend _).mono ?_
  rintro e w' ⟨rfl, rfl⟩
  generalize hb5 : span extend = b5
  have HB5 := Lib.hid hb5
  clear hb5
  cases b5
  · go_wp2
    go_ret
    exact ⟨ret_bool (by unfold Det.may; simp only [HB1.out, HB2.out, HB3.out, HB4.out, HB5.out, Bool.true_and, Bool.false_and, Bool.and_true, Bool.and_false]), (by repeat' first | exact Below.refl _ _ | (refine Below.alloc ?_ ?_ _) | (simp; done) | (simp; omega))⟩
  go_wp2_with fail
  refine (times_any _ _ [maxOn, maxOff] _ (row_new _ _ [maxOn, maxOff] 2 rfl (by decide) _ (by simp))).mono ?_
  rintro e w' ⟨rfl, rfl⟩
  generalize hb6 : allIn 9999 [maxOn, maxOff] = b6
  have HB6 := Lib.hid hb6
  clear hb6
  go_wp2
  go_ret
  exact ⟨ret_bool (by unfold Det.may; simp only [HB1.out, HB2.out, HB3.out, HB4.out, HB5.out, HB6.out, Bool.true_and, Bool.false_and, Bool.and_true, Bool.and_false]), (by repeat' first | exact Below.refl _ _ | (refine Below.alloc ?_ ?_ _) | (simp; done) | (simp; omega))⟩
set_option maxHeartbeats 1000000 in
theorem mayRail_any (r : Rl) (w : World) :
    Calls Tryz.prog 136 #[.agg (Rl.cells r).toArray] w fun e w' => e = .returned (.bool (Rl.may r)) ∧ Below w.heap.size w w' := by
  obtain ⟨bars, clear, dwell, exit, delay, green, foot, hold, stay, most, limit⟩ := r
  show Calls Tryz.prog 136 #[.agg #[I bars, I clear, I dwell, I exit, I delay, I green, I foot, I hold, I stay, I most, I limit]] w _
  go_enter Tryz.func136, Tryz.ntmps136
  go_wp2_with fail
  refine (within_any 255 _ _ [bars, clear, dwell, exit] _ (row_new _ _ [bars, clear, dwell, exit] 4 rfl (by decide) _ (by simp))).mono ?_
  rintro e w' ⟨rfl, rfl⟩
  generalize hb1 : allIn 255 [bars, clear, dwell, exit] = b1
  have HB1 := Lib.hid hb1
  clear hb1
  cases b1
  · go_wp2
    go_ret
    exact ⟨ret_bool (by unfold Rl.may; simp only [HB1.out, Bool.true_and, Bool.false_and, Bool.and_true, Bool.and_false]), (by repeat' first | exact Below.refl _ _ | (refine Below.alloc ?_ ?_ _) | (simp; done) | (simp; omega))⟩
  go_wp2_with fail
  refine (within_any 9999 _ _ [delay, green, foot, hold, stay, most] _ (row_new _ _ [delay, green, foot, hold, stay, most] 6 rfl (by decide) _ (by simp))).mono ?_
  rintro e w' ⟨rfl, rfl⟩
  generalize hb2 : allIn 9999 [delay, green, foot, hold, stay, most] = b2
  have HB2 := Lib.hid hb2
  clear hb2
  cases b2
  · go_wp2
    go_ret
    exact ⟨ret_bool (by unfold Rl.may; simp only [HB1.out, HB2.out, Bool.true_and, Bool.false_and, Bool.and_true, Bool.and_false]), (by repeat' first | exact Below.refl _ _ | (refine Below.alloc ?_ ?_ _) | (simp; done) | (simp; omega))⟩
  go_wp2_with fail
  refine (within_any 2147483647 _ _ [limit] _ (row_new _ _ [limit] 1 rfl (by decide) _ (by simp))).mono ?_
  rintro e w' ⟨rfl, rfl⟩
  generalize hb3 : allIn 2147483647 [limit] = b3
  have HB3 := Lib.hid hb3
  clear hb3
  go_wp2
  go_ret
  exact ⟨ret_bool (by unfold Rl.may; simp only [HB1.out, HB2.out, HB3.out, Bool.true_and, Bool.false_and, Bool.and_true, Bool.and_false]), (by repeat' first | exact Below.refl _ _ | (refine Below.alloc ?_ ?_ _) | (simp; done) | (simp; omega))⟩
set_option maxHeartbeats 1000000 in
theorem rrail_any (r : Rl) (w : World) :
    Calls Tryz.prog 92 #[.agg (Rl.cells r).toArray] w fun e w' => e = .returned (.bool (Rl.may r)) ∧ Below w.heap.size w w' := by
  obtain ⟨bars, clear, dwell, exit, delay, green, foot, hold, stay, most, limit⟩ := r
  show Calls Tryz.prog 92 #[.agg #[I bars, I clear, I dwell, I exit, I delay, I green, I foot, I hold, I stay, I most, I limit]] w _
  go_enter Tryz.func92, Tryz.ntmps92
  go_wp2_with fail
  refine (upto_any 255 _ _ [bars, clear, dwell, exit] _ (row_new _ _ [bars, clear, dwell, exit] 4 rfl (by decide) _ (by simp))).mono ?_
  rintro e w' ⟨rfl, rfl⟩
  generalize hb1 : allIn 255 [bars, clear, dwell, exit] = b1
  have HB1 := Lib.hid hb1
  clear hb1
  cases b1
  · go_wp2
    go_ret
    exact ⟨ret_bool (by unfold Rl.may; simp only [HB1.out, Bool.true_and, Bool.false_and, Bool.and_true, Bool.and_false]), (by repeat' first | exact Below.refl _ _ | (refine Below.alloc ?_ ?_ _) | (simp; done) | (simp; omega))⟩
  go_wp2_with fail
  refine (times_any _ _ [delay, green, foot, hold, stay, most] _ (row_new _ _ [delay, green, foot, hold, stay, most] 6 rfl (by decide) _ (by simp))).mono ?_
  rintro e w' ⟨rfl, rfl⟩
  generalize hb2 : allIn 9999 [delay, green, foot, hold, stay, most] = b2
  have HB2 := Lib.hid hb2
  clear hb2
  cases b2
  · go_wp2
    go_ret
    exact ⟨ret_bool (by unfold Rl.may; simp only [HB1.out, HB2.out, Bool.true_and, Bool.false_and, Bool.and_true, Bool.and_false]), (by repeat' first | exact Below.refl _ _ | (refine Below.alloc ?_ ?_ _) | (simp; done) | (simp; omega))⟩
  go_wp2_with fail
  refine (upto_any 2147483647 _ _ [limit] _ (row_new _ _ [limit] 1 rfl (by decide) _ (by simp))).mono ?_
  rintro e w' ⟨rfl, rfl⟩
  generalize hb3 : allIn 2147483647 [limit] = b3
  have HB3 := Lib.hid hb3
  clear hb3
  go_wp2
  go_ret
  exact ⟨ret_bool (by unfold Rl.may; simp only [HB1.out, HB2.out, HB3.out, Bool.true_and, Bool.false_and, Bool.and_true, Bool.and_false]), (by repeat' first | exact Below.refl _ _ | (refine Below.alloc ?_ ?_ _) | (simp; done) | (simp; omega))⟩
set_option maxHeartbeats 1000000 in
theorem mayBus_any (b : Bs) (w : World) :
    Calls Tryz.prog 138 #[.agg (Bs.cells b).toArray] w fun e w' => e = .returned (.bool (Bs.may b)) ∧ Below w.heap.size w w' := by
  obtain ⟨set, lock⟩ := b
  show Calls Tryz.prog 138 #[.agg #[I set, I lock]] w _
  go_enter Tryz.func138, Tryz.ntmps138
  go_wp2_with fail
  refine (within_any 255 _ _ [set] _ (row_new _ _ [set] 1 rfl (by decide) _ (by simp))).mono ?_
  rintro e w' ⟨rfl, rfl⟩
  generalize hb1 : allIn 255 [set] = b1
  have HB1 := Lib.hid hb1
  clear hb1
  cases b1
  · go_wp2
    go_ret
    exact ⟨ret_bool (by unfold Bs.may; simp only [HB1.out, Bool.true_and, Bool.false_and, Bool.and_true, Bool.and_false]), (by repeat' first | exact Below.refl _ _ | (refine Below.alloc ?_ ?_ _) | (simp; done) | (simp; omega))⟩
  go_wp2_with fail
  refine (within_any 9999 _ _ [lock] _ (row_new _ _ [lock] 1 rfl (by decide) _ (by simp))).mono ?_
  rintro e w' ⟨rfl, rfl⟩
  generalize hb2 : allIn 9999 [lock] = b2
  have HB2 := Lib.hid hb2
  clear hb2
  go_wp2
  go_ret
  exact ⟨ret_bool (by unfold Bs.may; simp only [HB1.out, HB2.out, Bool.true_and, Bool.false_and, Bool.and_true, Bool.and_false]), (by repeat' first | exact Below.refl _ _ | (refine Below.alloc ?_ ?_ _) | (simp; done) | (simp; omega))⟩
theorem mayRow_any (a : Option Addr) (cap : Nat) (l : List Int) (w : World) (h : IntRow w ⟨a, cap⟩ l) :
    Calls Tryz.prog 144 #[.slice a l.length cap] w fun e w' => e = .returned (.bool (rowMay l)) ∧ w = w' := by
  have h1 := h.len
  unfold maxLen at h1
  have Hr := Lib.hid h
  clear h
  by_cases h8 : l.length ≤ 8
  · go_enter Tryz.func144, Tryz.ntmps144
    go_wp2_with (go_at_call 132; refine (within_any _ _ _ _ _ Hr.out).mono ?_; rintro e w' ⟨rfl, rfl⟩)
    go_ret
    exact ⟨ret_bool (by unfold rowMay; rw [decide_eq_true h8, Bool.true_and]), rfl⟩
  · go_enter Tryz.func144, Tryz.ntmps144
    go_wp2
    go_ret
    exact ⟨ret_bool (by unfold rowMay; rw [decide_eq_false h8, Bool.false_and]), rfl⟩
theorem mayGroup_any (g : Gr) (w : World) (h : g.ok w) :
    Calls Tryz.prog 131 #[.agg g.cells.toArray] w fun e w' => e = .returned (.bool (groupMay g.data)) ∧ Below w.heap.size w w' := by
  obtain ⟨l0, l1, ⟨a0, cap0⟩, ⟨a1, cap1⟩⟩ := g
  have H0 := Lib.hid h.1
  have H1 := Lib.hid h.2
  clear h
  show Calls Tryz.prog 131 #[.agg #[.slice a0 l0.length cap0, .slice a1 l1.length cap1]] w _
  go_enter Tryz.func131, Tryz.ntmps131
  go_wp2_with fail
  refine (mayRow_any a0 cap0 l0 _ (H0.out.below ((Below.refl _ _).alloc (Nat.le_refl _) _))).mono ?_
  rintro e w' ⟨rfl, rfl⟩
  generalize hb1 : rowMay l0 = b1
  have HB1 := Lib.hid hb1
  clear hb1
  cases b1
  · go_wp2
    go_ret
    exact ⟨ret_bool (by unfold groupMay; simp only [Gr.data, HB1.out, Bool.true_and, Bool.false_and, Bool.and_true, Bool.and_false]), (by repeat' first | exact Below.refl _ _ | (refine Below.alloc ?_ ?_ _) | (simp; done) | (simp; omega))⟩
  go_wp2_with fail
  refine (mayRow_any a1 cap1 l1 _ (H1.out.below ((Below.refl _ _).alloc (Nat.le_refl _) _))).mono ?_
  rintro e w' ⟨rfl, rfl⟩
  generalize hb2 : rowMay l1 = b2
  have HB2 := Lib.hid hb2
  clear hb2
  go_wp2
  go_ret
  exact ⟨ret_bool (by unfold groupMay; simp only [Gr.data, HB1.out, HB2.out, Bool.true_and, Bool.false_and, Bool.and_true, Bool.and_false]), (by repeat' first | exact Below.refl _ _ | (refine Below.alloc ?_ ?_ _) | (simp; done) | (simp; omega))⟩
end Go.Proofs.YtjolhoilcibdfaaGreat.May
/- A region that draws its order of evaluation and holds calls that WRITE, one behind the other: walked once, in the order of the text. The calls are a chain: each waits for the one before it; all else reads, and reads the same before and behind each of them. No program in it. -/
namespace Go.Proofs.YtjolhoilcibdfaaGreat.Ph
open Go Go.RowKit

section
variable {P : Program} {ops : Array Oper} {md : Region.Mode} {D : Nat → World → Prop} {cs : List Nat}

/-- The first p of the chain have come up, and no other of it. -/
def Upto (cs : List Nat) (p : Nat) (L : Array Bool) : Prop := ∀ q c, cs[q]? = some c → L.getD c false = decide (q < p)
def Cl (D : Nat → World → Prop) (cs : List Nat) (L : Array Bool) (w : World) : Prop := ∃ p, p ≤ cs.length ∧ Upto cs p L ∧ D p w

def upon (P : Program) (C : World → Prop) (w : World) (v : Value) : Result Next → Prop
  | .ok (.value u) w' => w' = w ∧ u = v ∧ C w
  | .ok .skip w' => v = undef ∧ C w'
  | .ok (.enter f args) w' => w' = w ∧ Calls P f args w (fun e w'' => e = .returned v ∧ C w'')
  | _ => False
def Steps (P : Program) (md : Region.Mode) (ops : Array Oper) (D : Nat → World → Prop) (cs : List Nat) (i : Nat) (o : Oper) (a : Act) (v : Value) : Prop :=
  ∀ L w, L.size = ops.size → i ∈ Region.ready md ops L → Cl D cs L w → upon P (Cl D cs (L.setIfInBounds i true)) w v ((execOp a.eval o).run P w)
def Passes (md : Region.Mode) (ops : Array Oper) (D : Nat → World → Prop) (cs : List Nat) (i : Nat) : Prop :=
  ∀ L w, L.size = ops.size → i ∈ Region.ready md ops L → Cl D cs L w → Cl D cs (L.setIfInBounds i true) w

def pOp (P : Program) (md : Region.Mode) (ops : Array Oper) (D : Nat → World → Prop) (cs : List Nat) (i : Nat) (K : Act → Prop) (a : Act) : Prop :=
  match ops[i]? with
  | none => False
  | some o => if Region.wanted o (yielded ops a.tmps) then ∃ v, Steps P md ops D cs i o a v ∧ K (a.put o.dst v) else Passes md ops D cs i ∧ K (a.put o.dst undef)
theorem pOp_mono {i : Nat} {a : Act} {K K' : Act → Prop} (h : ∀ a, K a → K' a) (hh : pOp P md ops D cs i K a) : pOp P md ops D cs i K' a := by
  unfold pOp at *
  split
  · rename_i ho; simp only [ho] at hh
  · rename_i o ho
    simp only [ho] at hh
    split
    · rename_i hw; simp only [hw, if_true] at hh; exact ⟨hh.choose, hh.choose_spec.1, h _ hh.choose_spec.2⟩
    · rename_i hw; simp only [hw] at hh; exact ⟨hh.1, h _ hh.2⟩

def wpAnyP (P : Program) (md : Region.Mode) (ops : Array Oper) (D : Nat → World → Prop) (cs : List Nat) (Q : Array Bool → Act → Prop) : Nat → Array Bool → Act → Prop
  | 0, listed, a => Region.ready md ops listed = [] ∧ Q listed a
  | fuel + 1, listed, a =>
    Region.ready md ops listed ≠ [] ∧
    ∀ i ∈ Region.ready md ops listed, pOp P md ops D cs i (wpAnyP P md ops D cs Q fuel (listed.setIfInBounds i true)) a

theorem wpAny_of_ph {Q : Array Bool → Act → Prop} {Q' : Exit → Act → World → Prop} (hQ : ∀ L a w, Cl D cs L w → Q L a → Q' .normal a w) : ∀ (fuel : Nat) (listed : Array Bool) (a : Act) (w : World), listed.size = ops.size → Cl D cs listed w →
    wpAnyP P md ops D cs Q fuel listed a → wpAny P md ops Q' fuel listed a w
  | 0, _, _, _, _, hw, h => ⟨h.1, hQ _ _ _ hw h.2⟩
  | fuel + 1, listed, a, w, hsz, hw, h => ⟨fun h0 => absurd h0 h.1, fun i hi => by
      have h1 := h.2 i hi
      unfold pOp at h1
      unfold wpOp
      split
      · rename_i ho; simp only [ho] at h1
      · rename_i o ho
        simp only [ho] at h1
        split
        · rename_i hwt
          simp only [hwt, if_true] at h1
          obtain ⟨v, hst, hK⟩ := h1
          refine .inl ?_
          have h2 := hst listed w hsz hi hw
          unfold Oper.wp
          generalize (execOp a.eval o).run P w = r at *
          have hsz' : (listed.setIfInBounds i true).size = ops.size := by simpa using hsz
          cases r with
          | ok n w' =>
            cases n <;> simp only [upon] at h2 <;> simp only [Oper.upon]
            case value u =>
              obtain ⟨rfl, rfl, hC⟩ := h2
              exact wpAny_of_ph hQ fuel _ _ _ hsz' hC hK
            case skip =>
              obtain ⟨rfl, hC⟩ := h2
              exact wpAny_of_ph hQ fuel _ _ _ hsz' hC hK
            case enter f args =>
              obtain ⟨rfl, hc⟩ := h2
              exact hc.mono fun e w'' ⟨he, hC⟩ => by subst he; exact wpAny_of_ph hQ fuel _ _ _ hsz' hC hK
          | halt x w' => simp only [upon] at h2
        · rename_i hwt
          simp only [hwt] at h1
          exact wpAny_of_ph hQ fuel _ _ _ (by simpa using hsz) (h1.1 listed w hsz hi hw) h1.2⟩

def YieldsP (P : Program) (md : Region.Mode) (ops : Array Oper) (D : Nat → World → Prop) (cs : List Nat) (i : Nat) (o : Oper) (v : Value) (a : Act) : Prop :=
  (Region.wanted o (yielded ops a.tmps) = true ∧ Steps P md ops D cs i o a v) ∨ (Region.wanted o (yielded ops a.tmps) = false ∧ v = undef ∧ Passes md ops D cs i)
theorem YieldsP.pOp {i : Nat} {o : Oper} {v : Value} {a : Act} (hi : ops[i]? = some o) (hy : YieldsP P md ops D cs i o v a) {K : Act → Prop} (h : K (a.put o.dst v)) : pOp P md ops D cs i K a := by
  unfold Ph.pOp
  simp only [hi]
  rcases hy with ⟨hw, hv⟩ | ⟨hw, rfl, hp⟩
  · simp only [hw, if_true]; exact ⟨v, hv, h⟩
  · simp only [hw, Bool.false_eq_true, if_false]; exact ⟨hp, h⟩
theorem YieldsP.of_same {i : Nat} {o : Oper} {v : Value} {a a' : Act} (hy : YieldsP P md ops D cs i o v a) (he : execOp a'.eval o = execOp a.eval o)
    (hw : Region.wanted o (yielded ops a'.tmps) = Region.wanted o (yielded ops a.tmps)) : YieldsP P md ops D cs i o v a' := by
  unfold YieldsP Steps at *
  rw [he, hw]
  exact hy
theorem yieldsP_of_pOp {i : Nat} {o : Oper} {a : Act} {K : Act → Prop} (hi : ops[i]? = some o) (h : pOp P md ops D cs i K a) : ∃ v, YieldsP P md ops D cs i o v a ∧ K (a.put o.dst v) := by
  unfold pOp at h
  simp only [hi] at h
  by_cases hw : Region.wanted o (yielded ops a.tmps) = true
  · simp only [hw, if_true] at h
    obtain ⟨v, h1, h2⟩ := h
    exact ⟨v, .inl ⟨hw, h1⟩, h2⟩
  · simp only [hw] at h
    exact ⟨undef, .inr ⟨by simpa using hw, rfl, h.1⟩, h.2⟩
theorem pOp_put {i j : Nat} {oi oj : Oper} {v : Value} (hj : ops[j]? = some oj) (hap : oi.apart ops oj = true)
    (hsi : ∀ cs b, oi.op ≠ .select cs b) (hsj : ∀ cs b, oj.op ≠ .select cs b) {K : Act → Prop} {a : Act}
    (hy : YieldsP P md ops D cs i oi v a) (h : pOp P md ops D cs j K (a.put oi.dst v)) :
    pOp P md ops D cs j (fun a' => YieldsP P md ops D cs i oi v a' ∧ K (a'.put oi.dst v)) a := by
  obtain ⟨h1, h2, h3⟩ := Oper.apart_spec hap
  have keep : ∀ (a : Act), YieldsP P md ops D cs i oi v a → ∀ u, YieldsP P md ops D cs i oi v (a.put oj.dst u) := fun a hy u =>
    hy.of_same (execOp_put oi hsi a oj.dst u h3) (wanted_put oi a oj.dst u h3)
  unfold pOp at *
  simp only [hj] at *
  rw [wanted_put oj a oi.dst v h1] at h
  split
  · rename_i hw
    simp only [hw, if_true] at h
    obtain ⟨u, hu, hn⟩ := h
    refine ⟨u, ?_, keep a hy u, by rw [← Act.put_comm a v u h2]; exact hn⟩
    unfold Steps at *
    rwa [execOp_put oj hsj a oi.dst v h1] at hu
  · rename_i hw
    simp only [hw] at h
    exact ⟨h.1, keep a hy _, by rw [← Act.put_comm a v undef h2]; exact h.2⟩

theorem wpAnyP_first {Q : Array Bool → Act → Prop} {i : Nat} {oi : Oper} {v : Value} (hi : ops[i]? = some oi) (hsel : ∀ (j : Nat) (o : Oper) cs b, ops[j]? = some o → o.op ≠ .select cs b) :
    ∀ (fuel : Nat) (listed : Array Bool) (a : Act),
      (∀ j oj, ops[j]? = some oj → j ≠ i → listed.getD j true = false → (∀ e ∈ oj.after, Region.binds md e = true → e.on ≠ i) → oi.apart ops oj = true) →
      i ∈ Region.ready md ops listed → YieldsP P md ops D cs i oi v a →
      wpAnyP P md ops D cs Q fuel (listed.setIfInBounds i true) (a.put oi.dst v) → wpAnyP P md ops D cs Q (fuel + 1) listed a := by
  intro fuel
  induction fuel with
  | zero =>
    intro listed a _ hr hy H
    refine ⟨fun h => (by rw [h] at hr; cases hr), fun j hj => ?_⟩
    by_cases hji : j = i
    · subst hji; exact hy.pOp hi H
    · have := ready_mono hj hji
      rw [H.1] at this
      cases this
  | succ fuel ih =>
    intro listed a hfree hr hy H
    refine ⟨fun h => (by rw [h] at hr; cases hr), fun j hj => ?_⟩
    by_cases hji : j = i
    · subst hji; exact hy.pOp hi H
    · have h1 := H.2 j (ready_mono hj hji)
      obtain ⟨hjun, oj, hoj, hall⟩ := mem_ready.1 hj
      have hnot : ∀ e ∈ oj.after, Region.binds md e = true → e.on ≠ i := fun e he hb heq => by
        have h1 := hall e he hb
        have h0 := (mem_ready.1 hr).1
        rw [heq] at h1
        rcases Nat.lt_or_ge i listed.size with h' | h'
        · simp [h'] at h0 h1; rw [h0] at h1; cases h1
        · simp [Array.getElem?_eq_none h'] at h1
      have h2 := pOp_put hoj (hfree j oj hoj hji hjun hnot) (fun cs b => hsel i oi cs b hi) (fun cs b => hsel j oj cs b hoj) hy h1
      have hfree' : ∀ k ok, ops[k]? = some ok → k ≠ i → (listed.setIfInBounds j true).getD k true = false →
          (∀ e ∈ ok.after, Region.binds md e = true → e.on ≠ i) → oi.apart ops ok = true := fun k ok hk hki hun hno => by
        refine hfree k ok hk hki ?_ hno
        by_cases hjk : j = k
        · subst hjk; exact hjun
        · rw [getD_set_ne true hjk] at hun; exact hun
      refine pOp_mono (fun a' h3 => ih (listed.setIfInBounds j true) a' hfree' (ready_mono hr (Ne.symm hji)) h3.1 ?_) h2
      rw [Array.setIfInBounds_comm _ _ hji]
      exact h3.2

/-- A world, and how far the chain has come. -/
structure S (D : Nat → World → Prop) where
  ph : Nat
  world : World
  is : D ph world
/-- An operation that reads, the same value in every phase; a call may leave another world of the phase. -/
def Oper.calmUpon (P : Program) (C : World → Prop) (w : World) (v : Value) : Result Next → Prop
  | .ok (.value u) w' => w' = w ∧ u = v
  | .ok .skip w' => w' = w ∧ v = undef
  | .ok (.enter f args) w' => w' = w ∧ Calls P f args w (fun e w'' => e = .returned v ∧ C w'')
  | _ => False
def Oper.calm (P : Program) (o : Oper) (a : Act) (D : Nat → World → Prop) (next : Act → Prop) : Prop := ∃ v, (∀ p : S D, Oper.calmUpon P (D p.ph) p.world v ((execOp a.eval o).run P p.world)) ∧ next (a.put o.dst v)
/-- The chain's operation number p. -/
def Oper.linkUpon (P : Program) (C : World → Prop) (w : World) (v : Value) : Result Next → Prop
  | .ok .skip w' => v = undef ∧ C w'
  | .ok (.enter f args) w' => w' = w ∧ Calls P f args w (fun e w'' => e = .returned v ∧ C w'')
  | _ => False
def Oper.link (P : Program) (o : Oper) (a : Act) (C C' : World → Prop) (next : Act → Prop) : Prop := ∃ v, (∀ w, C w → Oper.linkUpon P C' w v ((execOp a.eval o).run P w)) ∧ next (a.put o.dst v)
/-- The lexical walk. -/
def wpPh (P : Program) (ops : Array Oper) (D : Nat → World → Prop) (cs : List Nat) (Q : Act → Prop) : Nat → List Oper → Act → Prop
  | _, [], a => Q a
  | k, o :: rest, a =>
    match cs.idxOf? k with
    | some p => Region.wanted o (yielded ops a.tmps) = true ∧ Oper.link P o a (D p) (D (p + 1)) (wpPh P ops D cs Q (k + 1) rest)
    | none => if Region.wanted o (yielded ops a.tmps) then Oper.calm P o a D (wpPh P ops D cs Q (k + 1) rest) else wpPh P ops D cs Q (k + 1) rest (a.put o.dst undef)

theorem upto_other {p k : Nat} {L : Array Bool} (hk : k ∉ cs) (h : Upto cs p L) : Upto cs p (L.setIfInBounds k true) := by
  intro q c hq
  have hne : k ≠ c := fun e => hk (by rw [e]; exact List.mem_of_getElem? hq)
  rw [getD_set_ne false hne]; exact h q c hq
theorem steps_of_calm {k : Nat} {o : Oper} {a : Act} {v : Value} (hk : k ∉ cs) (h : ∀ p : S D, Oper.calmUpon P (D p.ph) p.world v ((execOp a.eval o).run P p.world)) : Steps P md ops D cs k o a v := by
  intro L w _ _ ⟨p, hp, hat, hd⟩
  have h1 := h ⟨p, w, hd⟩
  simp only at h1
  generalize (execOp a.eval o).run P w = r at *
  cases r with
  | ok n w' =>
    cases n <;> simp only [Oper.calmUpon] at h1 <;> simp only [upon]
    case value u => exact ⟨h1.1, h1.2, p, hp, upto_other hk hat, hd⟩
    case skip => exact ⟨h1.2, p, hp, upto_other hk hat, by rw [h1.1]; exact hd⟩
    case enter f args => exact ⟨h1.1, h1.2.mono fun e w'' ⟨he, hd'⟩ => ⟨he, p, hp, upto_other hk hat, hd'⟩⟩
  | halt x w' => simp only [Oper.calmUpon] at h1
theorem passes_of {k : Nat} (hk : k ∉ cs) : Passes md ops D cs k := fun L w _ _ ⟨p, hp, hat, hd⟩ => ⟨p, hp, upto_other hk hat, hd⟩

def chainOk (md : Region.Mode) (ops : Array Oper) (cs : List Nat) : Bool :=
  decide cs.Nodup && (List.range cs.length).all fun p => decide (p = 0) || Region.waitsFor md ops (cs.getD p 0) (cs.getD (p - 1) 0)
theorem steps_of_link {k p : Nat} {o : Oper} {a : Act} {v : Value} (hc : chainOk md ops cs = true) (hk : cs[p]? = some k)
    (h : ∀ w, D p w → Oper.linkUpon P (D (p + 1)) w v ((execOp a.eval o).run P w)) : Steps P md ops D cs k o a v := by
  intro L w hsz hr ⟨p', hp, hat, hd⟩
  simp only [chainOk, Bool.and_eq_true, decide_eq_true_eq] at hc
  obtain ⟨hnd, hall⟩ := hc
  have hpl : p < cs.length := (List.getElem?_eq_some_iff.1 hk).1
  obtain ⟨hun, ok, hok, hedges⟩ := mem_ready.1 hr
  have hkl : k < L.size := by rw [hsz]; exact (Array.getElem?_eq_some_iff.1 hok).1
  have h1 := hat p k hk
  rw [getD_both hun] at h1
  have h2 : ¬ p < p' := fun hlt => by rw [decide_eq_true hlt] at h1; cases h1
  have h3 : p ≤ p' := by
    by_cases h0 : p = 0
    · omega
    · have h4 := List.all_eq_true.1 hall p (List.mem_range.2 hpl)
      simp only [Bool.or_eq_true, decide_eq_true_eq] at h4
      rcases h4 with h4 | h4
      · omega
      · rw [List.getD_eq_getElem?_getD, hk, Option.getD_some] at h4
        obtain ⟨oj, hoj, e, he, hb, hon⟩ := Region.waitsFor_spec h4
        have : oj = ok := Option.some.inj (hoj.symm.trans hok)
        subst this
        have h5 := hedges e he hb
        have h6 : cs[p - 1]? = some (cs.getD (p - 1) 0) := by
          rw [List.getD_eq_getElem?_getD, List.getElem?_eq_getElem (show p - 1 < cs.length by omega)]; rfl
        have h7 := hat (p - 1) _ h6
        rw [← hon, h5] at h7
        have := of_decide_eq_true h7.symm
        omega
  obtain rfl : p' = p := by omega
  have hnew : Upto cs (p' + 1) (L.setIfInBounds k true) := by
    intro q c hq
    by_cases hck : k = c
    · subst hck
      have hqp : q = p' := by
        have hql : q < cs.length := (List.getElem?_eq_some_iff.1 hq).1
        have e1 : cs[q] = cs[p'] := by
          have a1 := List.getElem?_eq_some_iff.1 hq
          have a2 := List.getElem?_eq_some_iff.1 hk
          rw [a1.2, a2.2]
        have h10 := List.pairwise_iff_getElem.1 hnd
        rcases Nat.lt_trichotomy q p' with h11 | h11 | h11
        · exact absurd e1 (h10 q p' hql hpl h11)
        · exact h11
        · exact absurd e1.symm (h10 p' q hpl hql h11)
      subst hqp
      rw [decide_eq_true (by omega)]
      simp [hkl]
    · rw [getD_set_ne false hck, hat q c hq]
      have hqp : q ≠ p' := fun e => by subst e; rw [hk] at hq; exact hck (Option.some.inj hq)
      by_cases h8 : q < p'
      · rw [decide_eq_true h8, decide_eq_true (by omega)]
      · rw [decide_eq_false h8, decide_eq_false (by omega)]
  have h9 := h w hd
  generalize (execOp a.eval o).run P w = r at *
  cases r with
  | ok n w' =>
    cases n <;> simp only [Oper.linkUpon] at h9 <;> simp only [upon]
    case skip => exact ⟨h9.1, p' + 1, by omega, hnew, h9.2⟩
    case enter f args => exact ⟨h9.1, h9.2.mono fun e w'' ⟨he, hd'⟩ => ⟨he, p' + 1, by omega, hnew, hd'⟩⟩
  | halt x w' => simp only [Oper.linkUpon] at h9

def lexFromP (md : Region.Mode) (ops : Array Oper) (cs : List Nat) : Nat → Nat → Array Bool → Bool
  | 0, _, listed => (Region.ready md ops listed).isEmpty && cs.all fun c => listed.getD c false
  | fuel + 1, k, listed => (Region.ready md ops listed).contains k && Region.free md ops listed k && lexFromP md ops cs fuel (k + 1) (listed.setIfInBounds k true)
theorem idxOf_some {k p : Nat} (h : cs.idxOf? k = some p) : cs[p]? = some k := by
  have h1 := List.findIdx?_eq_some_iff_getElem.1 (by simpa [List.idxOf?] using h)
  obtain ⟨hp, h2, _⟩ := h1
  rw [List.getElem?_eq_getElem hp]
  simpa using h2
theorem idxOf_none {k : Nat} (h : cs.idxOf? k = none) : k ∉ cs := by
  intro hm
  have h1 : ∀ x ∈ cs, ¬ x = k := by simpa [List.idxOf?] using h
  exact h1 k hm rfl
theorem wpAnyP_lex {Q : Act → Prop} (hs : Region.noSelect ops = true) (hc : chainOk md ops cs = true) : ∀ (l : List Oper) (k : Nat) (listed : Array Bool) (a : Act), (∀ j, l[j]? = ops[k + j]?) →
    lexFromP md ops cs l.length k listed = true → wpPh P ops D cs Q k l a → wpAnyP P md ops D cs (fun L a => (cs.all fun c => L.getD c false) = true ∧ Q a) l.length listed a
  | [], _, _, _, _, hB, h => by
    simp only [List.length_nil, lexFromP, Bool.and_eq_true] at hB
    exact ⟨by simpa using hB.1, hB.2, h⟩
  | o :: l, k, listed, a, hl, hB, h => by
    have h0 : ops[k]? = some o := by simpa using (hl 0).symm
    simp only [List.length_cons, lexFromP, Bool.and_eq_true] at hB
    obtain ⟨⟨hr, hf⟩, hB'⟩ := hB
    have hst : pOp P md ops D cs k (wpPh P ops D cs Q (k + 1) l) a := by
      unfold pOp
      simp only [h0]
      unfold wpPh at h
      split at h
      · rename_i p hp
        obtain ⟨hw, v, h1, h2⟩ := h
        rw [if_pos hw]
        exact ⟨v, steps_of_link hc (idxOf_some hp) h1, h2⟩
      · rename_i hp
        have hk := idxOf_none hp
        split
        · rename_i hw
          rw [if_pos hw] at h
          obtain ⟨v, h1, h2⟩ := h
          exact ⟨v, steps_of_calm hk h1, h2⟩
        · rename_i hw
          rw [if_neg hw] at h
          exact ⟨passes_of hk, h⟩
    obtain ⟨v, hy, hK⟩ := yieldsP_of_pOp h0 hst
    exact wpAnyP_first h0 (Region.noSelect_spec hs) l.length listed a (Region.free_spec h0 hf) (by simpa using hr) hy
      (wpAnyP_lex hs hc l (k + 1) _ _ (fun j => by have := hl (j + 1); simpa [Nat.add_assoc, Nat.add_comm 1 j] using this) hB' hK)

def okB (md : Region.Mode) (ops : Array Oper) (cs : List Nat) : Bool := Region.noSelect ops && chainOk md ops cs && lexFromP md ops cs ops.size 0 (Array.replicate ops.size false)
/-- **The law.** What stands behind the region is asked in every world in which the chain has come to its end. -/
theorem wp_region_ph {id : Nat} {Q : Exit → Act → World → Prop} {a : Act} {w : World} {l : List Oper} (D : Nat → World → Prop) (cs : List Nat) (hm : P.follows .mixedOrders = true) (hB : okB .any l.toArray cs = true) (hD : D 0 w.drew)
    (h : wpPh P l.toArray D cs (fun a' => ∀ w', D cs.length w' → Q .normal a' w') 0 l a) : (Code.region id l.toArray true).wp P Q a w := by
  simp only [okB, Bool.and_eq_true] at hB
  obtain ⟨⟨hs, hc⟩, hlex⟩ := hB
  have h1 := wpAnyP_lex (md := .any) hs hc l 0 (Array.replicate l.toArray.size false) a (by simp) (by simpa using hlex) h
  refine wp_region_any hm ?_
  refine wpAny_of_ph (D := D) (cs := cs) (Q := fun L a => (cs.all fun c => L.getD c false) = true ∧ ∀ w', D cs.length w' → Q .normal a w') (fun L a w ⟨p, hp, hat, hd⟩ ⟨hall, hq⟩ => ?_) _ _ _ _ (by simp) ⟨0, Nat.zero_le _, fun q c _ => by rw [getD_replicate_false]; simp, hD⟩ (by simpa using h1)
  have hpe : p = cs.length := by
    rcases Nat.lt_or_ge p cs.length with h2 | h2
    · have h3 := hat p _ (List.getElem?_eq_getElem h2)
      have h4 := List.all_eq_true.1 hall _ (List.getElem_mem h2)
      rw [h4] at h3
      have := of_decide_eq_true h3.symm
      omega
    · omega
  subst hpe
  exact hq w hd
/-! the walk, a step at a time -/
theorem wpPh_calm {Q : Act → Prop} {k : Nat} {a : Act} {o : Oper} {rest : List Oper} (hk : cs.idxOf? k = none)
    (h : ∀ K : Act → Prop, (∀ a, wpPh P ops D cs Q (k + 1) rest a → K a) → if Region.wanted o (yielded ops a.tmps) then Oper.calm P o a D K else K (a.put o.dst undef)) : wpPh P ops D cs Q k (o :: rest) a := by
  unfold wpPh
  simp only [hk]
  exact h _ fun _ h => h
end
attribute [go_sem] Oper.calm Oper.calmUpon Oper.link Oper.linkUpon
end Go.Proofs.YtjolhoilcibdfaaGreat.Ph
/- Whole rows by value: out of memory wherever they lie; into a block that was just made; in a region that draws its order, as a step of the walk by phases (Ph). No program in it. -/
namespace Go.Proofs.YtjolhoilcibdfaaGreat.Row
open Go Go.RowKit
open Tab

section
variable {P : Program}
theorem run_loadVar_lies (w : World) (y : Addr) (ty : TypeId) (cs : List Value) (d : TypeDesc) (hc : Lies w y cs) (hu : P.underlying ty = some d) (hd : d.isRow = true) (hi : (P.info? ty).map (·.size) = some cs.length) :
    (loadVar ty y).run P w = .ok (.agg cs.toArray) w := by
  have hl : (loadCells y cs.length).run P w = .ok cs.toArray w := run_loadCells_list (P := P) w y cs (fun j v hv => hc j v hv)
  cases hq : P.info? ty with
  | none => simp [hq] at hi
  | some i =>
    have hs : i.size = cs.length := by simpa [hq] using hi
    have hagg : (isAgg ty).run P w = .ok true w := by
      unfold isAgg
      rw [Sem.run_bind, run_underlying hu w]
      cases d <;> simp_all
    simp [loadVar, Sem.run_bind, hagg, sizeOf, typeInfo, hq, hs, hl]
theorem wp_load_lies {op : Oper} {a : Act} {w : World} {K : Act → World → Prop} {Q : Exit → Act → World → Prop} (ty : TypeId) (x : Operand) (ho : op.op = .load ty x)
    (y : Addr) (hx : a.eval x = .pointer (some y)) (cs : List Value) (d : TypeDesc) (hc : Lies w y cs) (hu : P.underlying ty = some d) (hd : d.isRow = true) (hi : (P.info? ty).map (·.size) = some cs.length)
    (h : K (a.put op.dst (.agg cs.toArray)) w) : op.wp P a w K Q := by
  unfold Oper.wp execOp
  simp only [ho, hx, Instr.loadAt, Instr.sureAddr, Sem.run_bind, Sem.run_pure, Result.andThen_ok, run_loadVar_lies w y ty cs d hc hu hd hi]
  exact h
theorem wpList_load_lies {ops : Array Oper} {rest : List Oper} {op : Oper} {a : Act} {w : World} {Q : Exit → Act → World → Prop} (hgd : op.guard = none) (ty : TypeId) (x : Operand) (ho : op.op = .load ty x)
    (y : Addr) (hx : a.eval x = .pointer (some y)) (cs : List Value) (d : TypeDesc) (hc : Lies w y cs) (hu : P.underlying ty = some d) (hd : d.isRow = true) (hi : (P.info? ty).map (·.size) = some cs.length)
    (h : wpList P ops Q rest (a.put op.dst (.agg cs.toArray)) w) : wpList P ops Q (op :: rest) a w :=
  wpList_plain hgd fun _ hK => wp_load_lies ty x ho y hx cs d hc hu hd hi (hK _ _ h)
/-- Behind a guard that says yes. -/
theorem wpList_load_g {ops : Array Oper} {rest : List Oper} {op : Oper} {a : Act} {w : World} {Q : Exit → Act → World → Prop} (ty : TypeId) (x : Operand) (ho : op.op = .load ty x) (hw : Region.wanted op (yielded ops a.tmps) = true)
    (y : Addr) (hx : a.eval x = .pointer (some y)) (cs : List Value) (d : TypeDesc) (hc : Lies w y cs) (hu : P.underlying ty = some d) (hd : d.isRow = true) (hi : (P.info? ty).map (·.size) = some cs.length)
    (h : wpList P ops Q rest (a.put op.dst (.agg cs.toArray)) w) : wpList P ops Q (op :: rest) a w :=
  BigFrame.wpList_want hw fun _ hK => wp_load_lies ty x ho y hx cs d hc hu hd hi (hK _ _ h)
/-- A whole row into the block that was made last. -/
theorem wpList_store_new {ops : Array Oper} {rest : List Oper} {op : Oper} {a : Act} {w : World} {Q : Exit → Act → World → Prop} (hgd : op.guard = none) (ty : TypeId) (x y : Operand) (ho : op.op = .store ty x y)
    (w0 : World) (old cells : Array Value) (hw : w = w0.alloc (.cells old ty)) (hx : a.eval x = .pointer (some ⟨w0.heap.size, 0, none⟩)) (hy : a.eval y = .agg cells) (hi : (P.info? ty).map (·.size) = some cells.size) (hold : old.size = cells.size) (h1 : cells.all (·.oneCell') = true)
    (h : wpList P ops Q rest (a.put op.dst undef) (w0.alloc (.cells cells ty))) : wpList P ops Q (op :: rest) a w := by
  subst hw
  refine wpList_store_row hgd ty x y ho w0.heap.size cells hx hy ty old (heap_alloc_new w0 _) hi hold h1 ?_
  rw [World.setRow_alloc_new]
  exact h
theorem lies_new (w : World) (cs : Array Value) (t : TypeId) : Lies (w.alloc (.cells cs t)) ⟨w.heap.size, 0, none⟩ cs.toList := fun j v hv => by
  rw [Addr.add_mid, cell_of_row _ _ _ _ _ _ (heap_alloc_new w _), Nat.zero_add]
  simpa using hv
theorem lies_of_block {w : World} {g : Nat} {cs : Array Value} {t : TypeId} {fr : Nat × Nat} (hg : w.heap[g]? = some (.cells cs t fr)) : Lies w ⟨g, 0, none⟩ cs.toList := fun j v hv => by
  rw [Addr.add_mid, cell_of_row _ _ _ _ _ _ hg, Nat.zero_add]
  simpa using hv
/-- In a region that draws. -/
theorem wpPh_load {D : Nat → World → Prop} {ns : List Nat} {ops : Array Oper} {Q : Act → Prop} {k : Nat} {a : Act} {o : Oper} {rest : List Oper} (hk : ns.idxOf? k = none) (hw : Region.wanted o (yielded ops a.tmps) = true)
    (ty : TypeId) (x : Operand) (ho : o.op = .load ty x) (y : Addr) (hx : a.eval x = .pointer (some y)) (cs : List Value) (d : TypeDesc) (hc : ∀ p : Ph.S D, Lies p.world y cs)
    (hu : P.underlying ty = some d) (hd : d.isRow = true) (hi : (P.info? ty).map (·.size) = some cs.length) (h : Ph.wpPh P ops D ns Q (k + 1) rest (a.put o.dst (.agg cs.toArray))) : Ph.wpPh P ops D ns Q k (o :: rest) a := by
  refine Ph.wpPh_calm hk fun K hK => ?_
  rw [if_pos hw]
  refine ⟨_, fun p => ?_, hK _ h⟩
  unfold execOp
  simp only [ho, hx, Instr.loadAt, Instr.sureAddr, Sem.run_bind, Sem.run_pure, Result.andThen_ok, run_loadVar_lies p.world y ty cs d (hc p) hu hd hi]
  exact ⟨rfl, rfl⟩
/-! ### two rows compared -/
theorem run_eql_op (w : World) {a : Act} {o : Oper} (t : TypeId) (x y : Operand) (t2 : TypeId) (ho : o.op = .binOp .eql t x y t2) (xs ys : Array Value) (hx : a.eval x = .agg xs) (hy : a.eval y = .agg ys) (hg : P.eqGuardType P.depth t = false) (b : Bool)
    (he : ∀ w, (Op.equalIn 10000 t (.agg xs) (.agg ys)).run P w = .ok b w) : (execOp a.eval o).run P w = .ok (.value (.bool b)) w := by
  unfold execOp
  simp only [ho, hx, hy, Sem.run_bind, run_eqGuard_agg w .eql t x y xs ys hg, Result.andThen_ok, run_eql_struct, he w, Sem.run_pure]
theorem run_neq_op (w : World) {a : Act} {o : Oper} (t : TypeId) (x y : Operand) (t2 : TypeId) (ho : o.op = .binOp .neq t x y t2) (xs ys : Array Value) (hx : a.eval x = .agg xs) (hy : a.eval y = .agg ys) (hg : P.eqGuardType P.depth t = false) (b : Bool)
    (he : ∀ w, (Op.equalIn 10000 t (.agg xs) (.agg ys)).run P w = .ok b w) : (execOp a.eval o).run P w = .ok (.value (.bool (!b))) w := by
  unfold execOp
  simp only [ho, hx, hy, Sem.run_bind, run_eqGuard_agg w .neq t x y xs ys hg, Result.andThen_ok, run_neq_struct, he w, Sem.run_pure]
theorem wpList_eql {ops : Array Oper} {rest : List Oper} {o : Oper} {a : Act} {w : World} {Q : Exit → Act → World → Prop} (t : TypeId) (x y : Operand) (t2 : TypeId) (ho : o.op = .binOp .eql t x y t2) (hw : Region.wanted o (yielded ops a.tmps) = true)
    (xs ys : Array Value) (hx : a.eval x = .agg xs) (hy : a.eval y = .agg ys) (hg : P.eqGuardType P.depth t = false) (b : Bool) (he : ∀ w, (Op.equalIn 10000 t (.agg xs) (.agg ys)).run P w = .ok b w)
    (h : wpList P ops Q rest (a.put o.dst (.bool b)) w) : wpList P ops Q (o :: rest) a w :=
  BigFrame.wpList_want hw fun _ hK => by
    unfold Oper.wp
    rw [run_eql_op w t x y t2 ho xs ys hx hy hg b he]
    exact hK _ _ h
theorem wpList_neq {ops : Array Oper} {rest : List Oper} {o : Oper} {a : Act} {w : World} {Q : Exit → Act → World → Prop} (t : TypeId) (x y : Operand) (t2 : TypeId) (ho : o.op = .binOp .neq t x y t2) (hw : Region.wanted o (yielded ops a.tmps) = true)
    (xs ys : Array Value) (hx : a.eval x = .agg xs) (hy : a.eval y = .agg ys) (hg : P.eqGuardType P.depth t = false) (b : Bool) (he : ∀ w, (Op.equalIn 10000 t (.agg xs) (.agg ys)).run P w = .ok b w)
    (h : wpList P ops Q rest (a.put o.dst (.bool (!b))) w) : wpList P ops Q (o :: rest) a w :=
  BigFrame.wpList_want hw fun _ hK => by
    unfold Oper.wp
    rw [run_neq_op w t x y t2 ho xs ys hx hy hg b he]
    exact hK _ _ h
/-- A store of a row into the middle of a block known whole. -/
theorem run_storeAt_at (w : World) (g o : Nat) (t ty : TypeId) (cur cells : Array Value) (hg : w.heap[g]? = some (.cells cur t (0, 0))) (hi : (P.info? ty).map (·.size) = some cells.size) (hl : o + cells.size ≤ cur.size) (h1 : cells.all (·.oneCell') = true) :
    (Instr.storeAt ty (.pointer (some ⟨g, o, none⟩)) (.agg cells)).run P w = .ok () (w.setRow g (cur.toList.take o ++ cells.toList ++ cur.toList.drop (o + cells.size)).toArray) := by
  have := run_storeCells_at P g o t cells.toList 0 cur w hg (by simpa using hl) (fun v hv => (Array.all_eq_true_iff_forall_mem.1 h1) v (by simpa using hv))
  cases hq : P.info? ty with
  | none => simp [hq] at hi
  | some i =>
    have hs : cells.size = i.size := by simp [hq] at hi; omega
    simp only [Nat.add_zero, Array.length_toList] at this
    simp [Instr.storeAt, Instr.sureAddr, storeVar, sizeOf, typeInfo, hq, Value.cells, hs]
    rw [← hs]
    simpa using this
/-- The class of a region whose calls leave all that is older alone. -/
abbrev Old (w : World) : Nat → World → Prop := fun _ w' => Below w.heap.size w w'
theorem Old.call {w : World} {f : FuncId} {args : Array Value} {v : Value} {p : Ph.S (Old w)} (h : Calls P f args p.world fun e w'' => e = .returned v ∧ Below p.world.heap.size p.world w'') :
    Calls P f args p.world fun e w'' => e = .returned v ∧ Old w p.ph w'' :=
  h.mono fun _ _ ⟨he, hb⟩ => ⟨he, Below.trans p.is (hb.mono p.is.size)⟩
theorem Old.pure {w : World} {f : FuncId} {args : Array Value} {v : Value} {p : Ph.S (Old w)} (h : Calls P f args p.world fun e w'' => e = .returned v ∧ p.world = w'') :
    Calls P f args p.world fun e w'' => e = .returned v ∧ Old w p.ph w'' :=
  h.mono fun _ _ ⟨he, hb⟩ => ⟨he, hb ▸ p.is⟩
theorem Old.drew (w : World) : Old w 0 w.drew := (Below.refl _ _).drew
end
end Go.Proofs.YtjolhoilcibdfaaGreat.Row
/- The contracts of table.mayAll at its five types of element: are there at most so many, and may each be? -/
namespace Go.Proofs.YtjolhoilcibdfaaGreat.May
open Go.ChangeShapes Go.WideShapes Go.ChangeAt Go.RowKit
open Tab
set_option linter.unusedVariables false
set_option linter.unusedSimpArgs false
theorem chain {a b c : World} (h : Below a.heap.size a b) (k : Below b.heap.size b c) : Below a.heap.size a c := h.trans (k.mono h.size)
theorem infoP : (Tryz.prog.info? 24).map (·.size) = some 13 := by kernel_rfl
theorem infoG : (Tryz.prog.info? 41).map (·.size) = some 2 := by kernel_rfl
theorem infoD : (Tryz.prog.info? 45).map (·.size) = some 7 := by kernel_rfl
theorem infoR : (Tryz.prog.info? 47).map (·.size) = some 11 := by kernel_rfl
theorem infoB : (Tryz.prog.info? 49).map (·.size) = some 2 := by kernel_rfl
set_option maxHeartbeats 1000000 in
theorem mayAllP_any (m : Int) (a : Option Addr) (cap : Nat) (l : List Ph) (w : World) (h : RowOf 13 Ph.cells w ⟨a, cap⟩ l) :
    Calls Tryz.prog 128 #[.slice a l.length cap, .int .i64 m, .func (.func 129) #[] #[]] w fun e w' => e = .returned (.bool (decide ((l.length : Int) ≤ m) && l.all Ph.may)) ∧ Below w.heap.size w w' := by
  have h1 := h.len
  unfold maxLen at h1
  have Hr := Lib.hid h
  clear h
  by_cases hm : (l.length : Int) ≤ m
  · have hm' : decide (m < (l.length : Int)) = false := decide_eq_false (by omega)
    have Hm := Lib.hid hm
    go_enter Tryz.func128, Tryz.ntmps128
    go_wp2
    go_loopw [15] (fun i wr => ∃ k : Nat, k ≤ l.length ∧ i = .int .i64 k ∧ (l.take k).all Ph.may = true ∧ Below w.heap.size w wr) (fun i _ => l.length - (intOf i).toNat)
    case atStart => exact ⟨0, Nat.zero_le _, rfl, rfl, Below.refl _ _⟩
    case round =>
      obtain ⟨k, hk, rfl, hall, hbel⟩ := hrel
      have Hall := Lib.hid hall
      have Hb := Lib.hid hbel
      clear hall hbel
      by_cases hlt : k < l.length
      · have hv := List.getElem?_eq_getElem hlt
        generalize l[k] = v at hv
        obtain ⟨x, hx, hcell⟩ := (Hr.out.below Hb.out).at hv
        obtain rfl : a = some x := hx
        have HV := Lib.hid hv
        have HC := Lib.hid hcell
        clear hv hcell
        go_wp2_with (first | (refine Row.wpList_load_lies rfl 24 _ rfl (x.add (k * 13)) rfl v.cells _ HC.out Tryz.underlying24 rfl infoP ?_) | (refine Row.wpList_store_new rfl 24 _ _ rfl _ _ v.cells.toArray rfl rfl rfl infoP rfl v.one ?_) | (refine wpList_load_row rfl 24 _ rfl _ rfl _ _ _ _ (heap_alloc_new _ _) Tryz.underlying24 rfl infoP ?_))
        refine (mayPhase_any v _).mono ?_
        rintro e w2 ⟨rfl, hb2⟩
        have B2 := Lib.hid (chain Hb.out (chain ((Below.refl _ _).alloc (Nat.le_refl _) _) hb2))
        clear hb2
        generalize hb : Ph.may v = b
        have HB := Lib.hid hb
        clear hb
        cases b
        · go_wp2
          go_ret
          exact ⟨ret_bool (by rw [all_break (f := Ph.may) HV.out HB.out, Bool.and_false]), B2.out⟩
        · go_wp2
          go_roundw
          case rel => exact ⟨k + 1, by omega, by go_num, all_step (f := Ph.may) HV.out Hall.out HB.out, B2.out⟩
          case measure => simp [intOf]; omega
      · go_wp2
        go_ret
        exact ⟨ret_bool (by rw [all_end Hall.out hlt, decide_eq_true (by have := Hm.out; omega)]; rfl), Hb.out⟩
  · have Hm := Lib.hid hm
    go_enter Tryz.func128, Tryz.ntmps128
    go_wp2
    go_ret
    exact ⟨ret_bool (by rw [decide_eq_false (by have := Hm.out; omega)]; rfl), Below.refl _ _⟩
set_option maxHeartbeats 1000000 in
theorem mayAllG_any (m : Int) (a : Option Addr) (cap : Nat) (l : List Gr) (w : World) (h : RowOf 2 Gr.cells w ⟨a, cap⟩ l) (h2 : ∀ v ∈ l, v.ok w) :
    Calls Tryz.prog 130 #[.slice a l.length cap, .int .i64 m, .func (.func 131) #[] #[]] w fun e w' => e = .returned (.bool (decide ((l.length : Int) ≤ m) && l.all (fun v => groupMay v.data))) ∧ Below w.heap.size w w' := by
  have h1 := h.len
  unfold maxLen at h1
  have Hr := Lib.hid h
  clear h
  have H2 := Lib.hid h2
  clear h2
  by_cases hm : (l.length : Int) ≤ m
  · have hm' : decide (m < (l.length : Int)) = false := decide_eq_false (by omega)
    have Hm := Lib.hid hm
    go_enter Tryz.func130, Tryz.ntmps130
    go_wp2
    go_loopw [15] (fun i wr => ∃ k : Nat, k ≤ l.length ∧ i = .int .i64 k ∧ (l.take k).all (fun v => groupMay v.data) = true ∧ Below w.heap.size w wr) (fun i _ => l.length - (intOf i).toNat)
    case atStart => exact ⟨0, Nat.zero_le _, rfl, rfl, Below.refl _ _⟩
    case round =>
      obtain ⟨k, hk, rfl, hall, hbel⟩ := hrel
      have Hall := Lib.hid hall
      have Hb := Lib.hid hbel
      clear hall hbel
      by_cases hlt : k < l.length
      · have hv := List.getElem?_eq_getElem hlt
        generalize l[k] = v at hv
        obtain ⟨x, hx, hcell⟩ := (Hr.out.below Hb.out).at hv
        obtain rfl : a = some x := hx
        have HV := Lib.hid hv
        have HC := Lib.hid hcell
        clear hv hcell
        go_wp2_with (first | (refine Row.wpList_load_lies rfl 41 _ rfl (x.add (k * 2)) rfl v.cells _ HC.out Tryz.underlying41 rfl infoG ?_) | (refine Row.wpList_store_new rfl 41 _ _ rfl _ _ v.cells.toArray rfl rfl rfl infoG rfl v.one ?_) | (refine wpList_load_row rfl 41 _ rfl _ rfl _ _ _ _ (heap_alloc_new _ _) Tryz.underlying41 rfl infoG ?_))
        refine (mayGroup_any v _ (((H2.out _ (List.mem_of_getElem? HV.out)).below Hb.out).below ((Below.refl _ _).alloc (Nat.le_refl _) _))).mono ?_
        rintro e w2 ⟨rfl, hb2⟩
        have B2 := Lib.hid (chain Hb.out (chain ((Below.refl _ _).alloc (Nat.le_refl _) _) hb2))
        clear hb2
        generalize hb : groupMay v.data = b
        have HB := Lib.hid hb
        clear hb
        cases b
        · go_wp2
          go_ret
          exact ⟨ret_bool (by rw [all_break (f := (fun v => groupMay v.data)) HV.out HB.out, Bool.and_false]), B2.out⟩
        · go_wp2
          go_roundw
          case rel => exact ⟨k + 1, by omega, by go_num, all_step (f := (fun v => groupMay v.data)) HV.out Hall.out HB.out, B2.out⟩
          case measure => simp [intOf]; omega
      · go_wp2
        go_ret
        exact ⟨ret_bool (by rw [all_end Hall.out hlt, decide_eq_true (by have := Hm.out; omega)]; rfl), Hb.out⟩
  · have Hm := Lib.hid hm
    go_enter Tryz.func130, Tryz.ntmps130
    go_wp2
    go_ret
    exact ⟨ret_bool (by rw [decide_eq_false (by have := Hm.out; omega)]; rfl), Below.refl _ _⟩
set_option maxHeartbeats 1000000 in
theorem mayAllD_any (m : Int) (a : Option Addr) (cap : Nat) (l : List Det) (w : World) (h : RowOf 7 Det.cells w ⟨a, cap⟩ l) :
    Calls Tryz.prog 133 #[.slice a l.length cap, .int .i64 m, .func (.func 134) #[] #[]] w fun e w' => e = .returned (.bool (decide ((l.length : Int) ≤ m) && l.all Det.may)) ∧ Below w.heap.size w w' := by
  have h1 := h.len
  unfold maxLen at h1
  have Hr := Lib.hid h
  clear h
  by_cases hm : (l.length : Int) ≤ m
  · have hm' : decide (m < (l.length : Int)) = false := decide_eq_false (by omega)
    have Hm := Lib.hid hm
    go_enter Tryz.func133, Tryz.ntmps133
    go_wp2
    go_loopw [15] (fun i wr => ∃ k : Nat, k ≤ l.length ∧ i = .int .i64 k ∧ (l.take k).all Det.may = true ∧ Below w.heap.size w wr) (fun i _ => l.length - (intOf i).toNat)
    case atStart => exact ⟨0, Nat.zero_le _, rfl, rfl, Below.refl _ _⟩
    case round =>
      obtain ⟨k, hk, rfl, hall, hbel⟩ := hrel
      have Hall := Lib.hid hall
      have Hb := Lib.hid hbel
      clear hall hbel
      by_cases hlt : k < l.length
      · have hv := List.getElem?_eq_getElem hlt
        generalize l[k] = v at hv
        obtain ⟨x, hx, hcell⟩ := (Hr.out.below Hb.out).at hv
        obtain rfl : a = some x := hx
        have HV := Lib.hid hv
        have HC := Lib.hid hcell
        clear hv hcell
        go_wp2_with (first | (refine Row.wpList_load_lies rfl 45 _ rfl (x.add (k * 7)) rfl v.cells _ HC.out Tryz.underlying45 rfl infoD ?_) | (refine Row.wpList_store_new rfl 45 _ _ rfl _ _ v.cells.toArray rfl rfl rfl infoD rfl v.one ?_) | (refine wpList_load_row rfl 45 _ rfl _ rfl _ _ _ _ (heap_alloc_new _ _) Tryz.underlying45 rfl infoD ?_))
        refine (mayDetector_any v _).mono ?_
        rintro e w2 ⟨rfl, hb2⟩
        have B2 := Lib.hid (chain Hb.out (chain ((Below.refl _ _).alloc (Nat.le_refl _) _) hb2))
        clear hb2
        generalize hb : Det.may v = b
        have HB := Lib.hid hb
        clear hb
        cases b
        · go_wp2
          go_ret
          exact ⟨ret_bool (by rw [all_break (f := Det.may) HV.out HB.out, Bool.and_false]), B2.out⟩
        · go_wp2
          go_roundw
          case rel => exact ⟨k + 1, by omega, by go_num, all_step (f := Det.may) HV.out Hall.out HB.out, B2.out⟩
          case measure => simp [intOf]; omega
      · go_wp2
        go_ret
        exact ⟨ret_bool (by rw [all_end Hall.out hlt, decide_eq_true (by have := Hm.out; omega)]; rfl), Hb.out⟩
  · have Hm := Lib.hid hm
    go_enter Tryz.func133, Tryz.ntmps133
    go_wp2
    go_ret
    exact ⟨ret_bool (by rw [decide_eq_false (by have := Hm.out; omega)]; rfl), Below.refl _ _⟩
set_option maxHeartbeats 1000000 in
theorem mayAllR_any (m : Int) (a : Option Addr) (cap : Nat) (l : List Rl) (w : World) (h : RowOf 11 Rl.cells w ⟨a, cap⟩ l) :
    Calls Tryz.prog 135 #[.slice a l.length cap, .int .i64 m, .func (.func 136) #[] #[]] w fun e w' => e = .returned (.bool (decide ((l.length : Int) ≤ m) && l.all Rl.may)) ∧ Below w.heap.size w w' := by
  have h1 := h.len
  unfold maxLen at h1
  have Hr := Lib.hid h
  clear h
  by_cases hm : (l.length : Int) ≤ m
  · have hm' : decide (m < (l.length : Int)) = false := decide_eq_false (by omega)
    have Hm := Lib.hid hm
    go_enter Tryz.func135, Tryz.ntmps135
    go_wp2
    go_loopw [15] (fun i wr => ∃ k : Nat, k ≤ l.length ∧ i = .int .i64 k ∧ (l.take k).all Rl.may = true ∧ Below w.heap.size w wr) (fun i _ => l.length - (intOf i).toNat)
    case atStart => exact ⟨0, Nat.zero_le _, rfl, rfl, Below.refl _ _⟩
    case round =>
      obtain ⟨k, hk, rfl, hall, hbel⟩ := hrel
      have Hall := Lib.hid hall
      have Hb := Lib.hid hbel
      clear hall hbel
      by_cases hlt : k < l.length
      · have hv := List.getElem?_eq_getElem hlt
        generalize l[k] = v at hv
        obtain ⟨x, hx, hcell⟩ := (Hr.out.below Hb.out).at hv
        obtain rfl : a = some x := hx
        have HV := Lib.hid hv
        have HC := Lib.hid hcell
        clear hv hcell
        go_wp2_with (first | (refine Row.wpList_load_lies rfl 47 _ rfl (x.add (k * 11)) rfl v.cells _ HC.out Tryz.underlying47 rfl infoR ?_) | (refine Row.wpList_store_new rfl 47 _ _ rfl _ _ v.cells.toArray rfl rfl rfl infoR rfl v.one ?_) | (refine wpList_load_row rfl 47 _ rfl _ rfl _ _ _ _ (heap_alloc_new _ _) Tryz.underlying47 rfl infoR ?_))
        refine (mayRail_any v _).mono ?_
        rintro e w2 ⟨rfl, hb2⟩
        have B2 := Lib.hid (chain Hb.out (chain ((Below.refl _ _).alloc (Nat.le_refl _) _) hb2))
        clear hb2
        generalize hb : Rl.may v = b
        have HB := Lib.hid hb
        clear hb
        cases b
        · go_wp2
          go_ret
          exact ⟨ret_bool (by rw [all_break (f := Rl.may) HV.out HB.out, Bool.and_false]), B2.out⟩
        · go_wp2
          go_roundw
          case rel => exact ⟨k + 1, by omega, by go_num, all_step (f := Rl.may) HV.out Hall.out HB.out, B2.out⟩
          case measure => simp [intOf]; omega
      · go_wp2
        go_ret
        exact ⟨ret_bool (by rw [all_end Hall.out hlt, decide_eq_true (by have := Hm.out; omega)]; rfl), Hb.out⟩
  · have Hm := Lib.hid hm
    go_enter Tryz.func135, Tryz.ntmps135
    go_wp2
    go_ret
    exact ⟨ret_bool (by rw [decide_eq_false (by have := Hm.out; omega)]; rfl), Below.refl _ _⟩
set_option maxHeartbeats 1000000 in
theorem mayAllB_any (m : Int) (a : Option Addr) (cap : Nat) (l : List Bs) (w : World) (h : RowOf 2 Bs.cells w ⟨a, cap⟩ l) :
    Calls Tryz.prog 137 #[.slice a l.length cap, .int .i64 m, .func (.func 138) #[] #[]] w fun e w' => e = .returned (.bool (decide ((l.length : Int) ≤ m) && l.all Bs.may)) ∧ Below w.heap.size w w' := by
  have h1 := h.len
  unfold maxLen at h1
  have Hr := Lib.hid h
  clear h
  by_cases hm : (l.length : Int) ≤ m
  · have hm' : decide (m < (l.length : Int)) = false := decide_eq_false (by omega)
    have Hm := Lib.hid hm
    go_enter Tryz.func137, Tryz.ntmps137
    go_wp2
    go_loopw [15] (fun i wr => ∃ k : Nat, k ≤ l.length ∧ i = .int .i64 k ∧ (l.take k).all Bs.may = true ∧ Below w.heap.size w wr) (fun i _ => l.length - (intOf i).toNat)
    case atStart => exact ⟨0, Nat.zero_le _, rfl, rfl, Below.refl _ _⟩
    case round =>
      obtain ⟨k, hk, rfl, hall, hbel⟩ := hrel
      have Hall := Lib.hid hall
      have Hb := Lib.hid hbel
      clear hall hbel
      by_cases hlt : k < l.length
      · have hv := List.getElem?_eq_getElem hlt
        generalize l[k] = v at hv
        obtain ⟨x, hx, hcell⟩ := (Hr.out.below Hb.out).at hv
        obtain rfl : a = some x := hx
        have HV := Lib.hid hv
        have HC := Lib.hid hcell
        clear hv hcell
        go_wp2_with (first | (refine Row.wpList_load_lies rfl 49 _ rfl (x.add (k * 2)) rfl v.cells _ HC.out Tryz.underlying49 rfl infoB ?_) | (refine Row.wpList_store_new rfl 49 _ _ rfl _ _ v.cells.toArray rfl rfl rfl infoB rfl v.one ?_) | (refine wpList_load_row rfl 49 _ rfl _ rfl _ _ _ _ (heap_alloc_new _ _) Tryz.underlying49 rfl infoB ?_))
        refine (mayBus_any v _).mono ?_
        rintro e w2 ⟨rfl, hb2⟩
        have B2 := Lib.hid (chain Hb.out (chain ((Below.refl _ _).alloc (Nat.le_refl _) _) hb2))
        clear hb2
        generalize hb : Bs.may v = b
        have HB := Lib.hid hb
        clear hb
        cases b
        · go_wp2
          go_ret
          exact ⟨ret_bool (by rw [all_break (f := Bs.may) HV.out HB.out, Bool.and_false]), B2.out⟩
        · go_wp2
          go_roundw
          case rel => exact ⟨k + 1, by omega, by go_num, all_step (f := Bs.may) HV.out Hall.out HB.out, B2.out⟩
          case measure => simp [intOf]; omega
      · go_wp2
        go_ret
        exact ⟨ret_bool (by rw [all_end Hall.out hlt, decide_eq_true (by have := Hm.out; omega)]; rfl), Hb.out⟩
  · have Hm := Lib.hid hm
    go_enter Tryz.func137, Tryz.ntmps137
    go_wp2
    go_ret
    exact ⟨ret_bool (by rw [decide_eq_false (by have := Hm.out; omega)]; rfl), Below.refl _ _⟩
end Go.Proofs.YtjolhoilcibdfaaGreat.May
/- The contract of table.May, at any table. -/
namespace Go.Proofs.YtjolhoilcibdfaaGreat.May
open Go.ChangeShapes Go.WideShapes Go.ChangeAt Go.RowKit
open Tab
set_option linter.unusedVariables false
set_option linter.unusedSimpArgs false

def listMay {α : Type} (m : Int) (f : α → Bool) (l : List α) : Bool := decide ((l.length : Int) ≤ m) && l.all f
def tabMay (T : Tab) : Bool :=
  listMay 8 Ph.may T.phases && (listMay 4 groupMay T.groups && (allIn 255 T.conflict && (listMay 16 Det.may T.dets && (listMay 4 Rl.may T.rails && (listMay 4 Bs.may T.buses &&
    (allIn 9999 [T.extend, T.budget, T.start, T.revert, T.least] && (allIn 2 T.flash && allIn 2147483647 [T.window, T.share])))))))

/-- Ints that lie in a block, as a row. -/
theorem ints_in {w : World} {g : Nat} {cs : Array Value} {t : TypeId} {fr : Nat × Nat} (hg : w.heap[g]? = some (.cells cs t fr)) (o n : Nat) (l : List Int) (h : (cs.toList.drop o).take n = l.map I) (hn : l.length = n) (hm : n ≤ maxLen) :
    IntRow w ⟨some ⟨g, o, none⟩, n⟩ l := by
  subst hn
  refine .inr ⟨_, rfl, Nat.le_refl _, hm, fun i v hv j u hu => ?_⟩
  cases j with
  | zero =>
    obtain rfl := Option.some.inj hu
    rw [Nat.mul_one, add_two, Nat.add_zero, Addr.add_mid]
    exact range_of hg o _ _ h i _ (by simp [hv])
  | succ j => cases hu
/-- Phases that lie at a block's head, as a row. -/
theorem phases_in {w : World} {g : Nat} {cs : Array Value} {t : TypeId} {fr : Nat × Nat} {T : Tab} {h : Hd} (hg : w.heap[g]? = some (.cells cs t fr)) (C : CellsOk T h cs) (hn : T.phases.length = 8) :
    RowOf 13 Ph.cells w ⟨some ⟨g, 0, none⟩, 8⟩ T.phases := by
  refine .inr ⟨_, rfl, by rw [hn]; exact Nat.le_refl _, (show 8 ≤ maxLen by decide), fun i v hv j u hu => ?_⟩
  rw [add_two, Addr.add_mid, Nat.zero_add, Nat.mul_comm]
  exact range_of hg (13 * i) 13 _ (C.phase i v hv) j u hu

/-- What a walk over a boxed table holds on to. -/
structure St (w : World) (N : Nat) (cs : Array Value) (h : Hd) (T : Tab) (W : World) : Prop where
  bel : Below w.heap.size w W
  blk : W.heap[N]? = some (.cells cs 32 (0, 0))
  tab : IsTab W h T
  le : w.heap.size ≤ N
theorem St.step {w W W' : World} {N : Nat} {cs : Array Value} {h : Hd} {T : Tab} (k : St w N cs h T W) (hb : Below W.heap.size W W') : St w N cs h T W' :=
  ⟨chain k.bel hb, by rw [hb.block N (Array.getElem?_eq_some_iff.1 k.blk).1]; exact k.blk, k.tab.below hb, k.le⟩
theorem St.cell {w W : World} {N : Nat} {cs : Array Value} {h : Hd} {T : Tab} (k : St w N cs h T W) {o : Nat} {v : Value} (hv : cs[o]? = some v) : W.cell? ⟨N, o, none⟩ = some v := by
  rw [cell_of_row _ _ _ _ _ _ k.blk]; exact hv
theorem St.box {w : World} {cs : Array Value} {h : Hd} {T : Tab} (k : IsTab w h T) : St w w.heap.size cs h T (w.alloc (.cells cs 32)) :=
  ⟨(Below.refl _ _).alloc (Nat.le_refl _) _, heap_alloc_new _ _, k.below ((Below.refl _ _).alloc (Nat.le_refl _) _), Nat.le_refl _⟩

theorem within_len (m : Int) (a : Option Addr) (cap : Nat) (l : List Int) (n : Nat) (hn : l.length = n) (w : World) (h : IntRow w ⟨a, cap⟩ l) :
    Calls Tryz.prog 132 #[.int .i64 m, .slice a n cap] w fun e w' => e = .returned (.bool (allIn m l)) ∧ w = w' := by
  subst hn; exact within_any m a cap l w h
theorem upto_len (m : Int) (a : Option Addr) (cap : Nat) (l : List Int) (n : Nat) (hn : l.length = n) (w : World) (h : IntRow w ⟨a, cap⟩ l) :
    Calls Tryz.prog 89 #[.slice a n cap, .int .i64 m] w fun e w' => e = .returned (.bool (allIn m l)) ∧ w = w' := by
  subst hn; exact upto_any m a cap l w h
set_option maxRecDepth 10000 in
set_option maxHeartbeats 2000000 in
theorem may_any (T : Tab) (h : Hd) (w : World) (k : IsTab w h T) :
    Calls Tryz.prog 108 #[.agg (T.cells h).toArray] w fun e w' => e = .returned (.bool (tabMay T)) ∧ Below w.heap.size w w' := by
  have C := Lib.hid (cells_ok k)
  have L8 := Lib.hid k.ph
  have Lc := Lib.hid k.cf
  have Lf := Lib.hid k.fl
  generalize (T.cells h).toArray = cs at C ⊢
  have hsz := C.out.size
  obtain ⟨gs, hgd, hgr⟩ := k.groups
  have Hgr := Lib.hid hgr
  clear hgr
  have hw0 : Below w.heap.size w (w.alloc (.cells cs 32)) := (Below.refl _ _).alloc (Nat.le_refl _) _
  have HW0 := Lib.hid hw0
  clear hw0
  have S0 := Lib.hid (St.box (cs := cs) k)
  clear k
  have Hgd := Lib.hid hgd
  have hgl : T.groups.length = gs.length := by rw [← hgd, List.length_map]
  have Hgl := Lib.hid hgl
  clear hgd hgl
  have hph := phases_in S0.out.blk C.out L8.out
  have cP := mayAllP_any 8 (some ⟨w.heap.size, 0, none⟩) 8 T.phases _ hph
  rw [L8.out] at cP
  have CP := Lib.hid cP
  clear cP hph
  have L8p : Hid ((8 : Nat) = T.phases.length) := L8.out.symm
  go_enter Tryz.func108, Tryz.ntmps108
  go_wp2_with fail
  refine (CP.out).mono ?_
  rintro e w1 ⟨rfl, hb1⟩
  have S1 := Lib.hid (S0.out.step hb1)
  clear hb1 S0
  generalize hv : (decide (((8 : Nat) : Int) ≤ 8) && T.phases.all Ph.may) = b1
  have HB1 : Hid (listMay 8 Ph.may T.phases = b1) := (by unfold listMay; rw [L8.out]; exact hv)
  clear hv
  cases b1
  · go_wp2
    go_ret
    exact ⟨ret_bool (by unfold tabMay; simp only [HB1.out, Bool.true_and, Bool.false_and, Bool.and_true, Bool.and_false]), S1.out.bel⟩
  have c104 := S1.out.cell C.out.g
  rw [Hgl.out] at c104
  go_wp2_with fail
  refine (mayAllG_any 4 h.g.a h.g.cap gs _ (Hgr.out.1.below S1.out.bel) (fun v hv => (Hgr.out.2 v hv).below S1.out.bel)).mono ?_
  rintro e w2 ⟨rfl, hb2⟩
  have S2 := Lib.hid (S1.out.step hb2)
  clear hb2 S1
  generalize hv : (decide ((gs.length : Int) ≤ 4) && gs.all (fun v => groupMay v.data)) = b2
  have HB2 : Hid (listMay 4 groupMay T.groups = b2) := (by unfold listMay; rw [← Hgd.out, List.length_map, List.all_map]; exact hv)
  clear hv
  cases b2
  · go_wp2
    go_ret
    exact ⟨ret_bool (by unfold tabMay; simp only [HB1.out, HB2.out, Bool.true_and, Bool.false_and, Bool.and_true, Bool.and_false]), S2.out.bel⟩
  go_wp2_with fail
  refine (within_len 255 (some ⟨w.heap.size, 105, none⟩) 8 T.conflict 8 Lc.out _ (ints_in S2.out.blk 105 8 _ C.out.conflict Lc.out (by decide))).mono ?_
  rintro e w3 ⟨rfl, rfl⟩
  have S3 := S2
  generalize hv : allIn 255 T.conflict = b3
  have HB3 : Hid (allIn 255 T.conflict = b3) := hv
  clear hv
  cases b3
  · go_wp2
    go_ret
    exact ⟨ret_bool (by unfold tabMay; simp only [HB1.out, HB2.out, HB3.out, Bool.true_and, Bool.false_and, Bool.and_true, Bool.and_false]), S3.out.bel⟩
  have c113 := S3.out.cell C.out.d
  go_wp2_with fail
  refine (mayAllD_any 16 h.d.a h.d.cap T.dets _ S3.out.tab.dets).mono ?_
  rintro e w4 ⟨rfl, hb4⟩
  have S4 := Lib.hid (S3.out.step hb4)
  clear hb4 S3
  generalize hv : (decide ((T.dets.length : Int) ≤ 16) && T.dets.all Det.may) = b4
  have HB4 : Hid (listMay 16 Det.may T.dets = b4) := hv
  clear hv
  cases b4
  · go_wp2
    go_ret
    exact ⟨ret_bool (by unfold tabMay; simp only [HB1.out, HB2.out, HB3.out, HB4.out, Bool.true_and, Bool.false_and, Bool.and_true, Bool.and_false]), S4.out.bel⟩
  have c114 := S4.out.cell C.out.r
  go_wp2_with fail
  refine (mayAllR_any 4 h.r.a h.r.cap T.rails _ S4.out.tab.rails).mono ?_
  rintro e w5 ⟨rfl, hb5⟩
  have S5 := Lib.hid (S4.out.step hb5)
  clear hb5 S4
  generalize hv : (decide ((T.rails.length : Int) ≤ 4) && T.rails.all Rl.may) = b5
  have HB5 : Hid (listMay 4 Rl.may T.rails = b5) := hv
  clear hv
  cases b5
  · go_wp2
    go_ret
    exact ⟨ret_bool (by unfold tabMay; simp only [HB1.out, HB2.out, HB3.out, HB4.out, HB5.out, Bool.true_and, Bool.false_and, Bool.and_true, Bool.and_false]), S5.out.bel⟩
  have c115 := S5.out.cell C.out.b
  go_wp2_with fail
  refine (mayAllB_any 4 h.b.a h.b.cap T.buses _ S5.out.tab.buses).mono ?_
  rintro e w6 ⟨rfl, hb6⟩
  have S6 := Lib.hid (S5.out.step hb6)
  clear hb6 S5
  generalize hv : (decide ((T.buses.length : Int) ≤ 4) && T.buses.all Bs.may) = b6
  have HB6 : Hid (listMay 4 Bs.may T.buses = b6) := hv
  clear hv
  cases b6
  · go_wp2
    go_ret
    exact ⟨ret_bool (by unfold tabMay; simp only [HB1.out, HB2.out, HB3.out, HB4.out, HB5.out, HB6.out, Bool.true_and, Bool.false_and, Bool.and_true, Bool.and_false]), S6.out.bel⟩
  have c116 := S6.out.cell C.out.extend
  have c117 := S6.out.cell C.out.budget
  have c118 := S6.out.cell C.out.start
  have c119 := S6.out.cell C.out.revert
  have c120 := S6.out.cell C.out.least
  go_wp2_with fail
  refine (within_any 9999 _ _ [T.extend, T.budget, T.start, T.revert, T.least] _ (row_new _ _ [T.extend, T.budget, T.start, T.revert, T.least] 5 rfl (by decide) _ rfl)).mono ?_
  rintro e w7 ⟨rfl, hw⟩
  have hb7 : Below w6.heap.size w6 w7 := hw ▸ (Below.refl _ _).alloc (Nat.le_refl _) _
  clear hw
  have S7 := Lib.hid (S6.out.step hb7)
  clear hb7 S6
  generalize hv : allIn 9999 [T.extend, T.budget, T.start, T.revert, T.least] = b7
  have HB7 : Hid (allIn 9999 [T.extend, T.budget, T.start, T.revert, T.least] = b7) := hv
  clear hv
  cases b7
  · go_wp2
    go_ret
    exact ⟨ret_bool (by unfold tabMay; simp only [HB1.out, HB2.out, HB3.out, HB4.out, HB5.out, HB6.out, HB7.out, Bool.true_and, Bool.false_and, Bool.and_true, Bool.and_false]), S7.out.bel⟩
  go_wp2_with fail
  refine (within_len 2 (some ⟨w.heap.size, 121, none⟩) 8 T.flash 8 Lf.out _ (ints_in S7.out.blk 121 8 _ C.out.flash Lf.out (by decide))).mono ?_
  rintro e w8 ⟨rfl, rfl⟩
  have S8 := S7
  generalize hv : allIn 2 T.flash = b8
  have HB8 : Hid (allIn 2 T.flash = b8) := hv
  clear hv
  cases b8
  · go_wp2
    go_ret
    exact ⟨ret_bool (by unfold tabMay; simp only [HB1.out, HB2.out, HB3.out, HB4.out, HB5.out, HB6.out, HB7.out, HB8.out, Bool.true_and, Bool.false_and, Bool.and_true, Bool.and_false]), S8.out.bel⟩
  have c129 := S8.out.cell C.out.window
  have c130 := S8.out.cell C.out.share
  go_wp2_with fail
  refine (within_any 2147483647 _ _ [T.window, T.share] _ (row_new _ _ [T.window, T.share] 2 rfl (by decide) _ rfl)).mono ?_
  rintro e w9 ⟨rfl, hw⟩
  have hb9 : Below w7.heap.size w7 w9 := hw ▸ (Below.refl _ _).alloc (Nat.le_refl _) _
  clear hw
  have S9 := Lib.hid (S8.out.step hb9)
  clear hb9 S8
  generalize hv : allIn 2147483647 [T.window, T.share] = b9
  have HB9 : Hid (allIn 2147483647 [T.window, T.share] = b9) := hv
  clear hv
  go_wp2
  go_ret
  exact ⟨ret_bool (by unfold tabMay; simp only [HB1.out, HB2.out, HB3.out, HB4.out, HB5.out, HB6.out, HB7.out, HB8.out, HB9.out, Bool.true_and, Bool.false_and, Bool.and_true, Bool.and_false]), S9.out.bel⟩
end Go.Proofs.YtjolhoilcibdfaaGreat.May
/- A type's cells in order ('flat'): a value that can be read is typed cell by cell; two values of the type are compared cell by cell. No program in it. -/
namespace Go.Proofs.YtjolhoilcibdfaaGreat.Flat
open Go Go.ChangeShapes Go.WideShapes

section
variable {α β : Type}
def All2 (R : α → β → Prop) : List α → List β → Prop
  | [], [] => True
  | a :: l, b :: m => R a b ∧ All2 R l m
  | _, _ => False
variable {R : α → β → Prop}
theorem All2.length : ∀ {a : List α} {b : List β}, All2 R a b → a.length = b.length
  | [], [], _ => rfl
  | _ :: _, _ :: _, ⟨_, h⟩ => by simp [All2.length h]
  | [], _ :: _, h => h.elim
  | _ :: _, [], h => h.elim
theorem All2.append : ∀ {a : List α} {b : List β} {c : List α} {d : List β}, All2 R a b → All2 R c d → All2 R (a ++ c) (b ++ d)
  | [], [], _, _, _, h => h
  | _ :: _, _ :: _, _, _, ⟨h, k⟩, h2 => ⟨h, All2.append k h2⟩
  | [], _ :: _, _, _, h, _ => h.elim
  | _ :: _, [], _, _, h, _ => h.elim
theorem All2.split : ∀ {a c : List α} {b : List β}, All2 R (a ++ c) b → All2 R a (b.take a.length) ∧ All2 R c (b.drop a.length)
  | [], _, _, h => ⟨trivial, h⟩
  | _ :: _, _, _ :: _, ⟨h, k⟩ => ⟨⟨h, (All2.split k).1⟩, (All2.split k).2⟩
  | _ :: _, _, [], h => h.elim
theorem All2.at : ∀ {a : List α} {b : List β}, All2 R a b → ∀ {i : Nat} {x : α} {y : β}, a[i]? = some x → b[i]? = some y → R x y
  | _ :: _, _ :: _, ⟨h, _⟩, 0, _, _, h1, h2 => by simp at h1 h2; subst h1 h2; exact h
  | _ :: _, _ :: _, ⟨_, k⟩, i + 1, _, _, h1, h2 => All2.at k (i := i) (by simpa using h1) (by simpa using h2)
  | [], _, _, _, _, _, h1, _ => by simp at h1
  | _ :: _, [], h, _, _, _, _, _ => h.elim
theorem All2.mono {S : α → β → Prop} (hm : ∀ x y, R x y → S x y) : ∀ {a : List α} {b : List β}, All2 R a b → All2 S a b
  | [], [], _ => trivial
  | _ :: _, _ :: _, ⟨h, k⟩ => ⟨hm _ _ h, All2.mono hm k⟩
  | [], _ :: _, h => h.elim
  | _ :: _, [], h => h.elim
end

def rowT (P : Program) (t : TypeId) : Bool := match P.underlying t with | some (.struct _) | some (.array _ _) => true | _ => false
def flatF (P : Program) (g : TypeId → Option (List TypeId)) : Nat → List Field → Option (List TypeId)
  | _, [] => some []
  | o, f :: fs => if f.name ≠ "_" ∧ f.offset = o then
      match g f.type with
      | some r => if r.length = P.cellsOf f.type then (flatF P g (o + r.length) fs).map (r ++ ·) else none
      | none => none
    else none
/-- The one-cell types that lie in a type, in order; none where its parts do not lie side by side. -/
def flat (P : Program) : Nat → TypeId → Option (List TypeId)
  | 0, _ => none
  | d + 1, t => match P.underlying t with
    | some (.struct fs) => if P.stoodInHeld t = true then none else match flatF P (flat P d) 0 fs.toList with
      | some l => if l.length = P.cellsOf t then some l else none
      | none => none
    | some (.array n e) => match flat P d e with
      | some r => if r.length = P.cellsOf e ∧ n * P.cellsOf e = P.cellsOf t then some (List.replicate n r).flatten else none
      | none => none
    | some _ => if P.cellsOf t = 1 then some [t] else none
    | none => none
theorem flatF_cons {P : Program} {g : TypeId → Option (List TypeId)} {o : Nat} {f : Field} {fs : List Field} {l : List TypeId} (h : flatF P g o (f :: fs) = some l) :
    f.name ≠ "_" ∧ f.offset = o ∧ ∃ r l', g f.type = some r ∧ r.length = P.cellsOf f.type ∧ flatF P g (o + r.length) fs = some l' ∧ l = r ++ l' := by
  unfold flatF at h
  split at h
  · rename_i h1
    split at h
    · rename_i r hr
      split at h
      · rename_i hl
        simp only [Option.map_eq_some_iff] at h
        obtain ⟨l', h2, rfl⟩ := h
        exact ⟨h1.1, h1.2, r, l', hr, hl, h2, rfl⟩
      · cases h
    · cases h
  · cases h
theorem take_two {α : Type} (l : List α) (o a b : Nat) : (l.drop o).take (a + b) = (l.drop o).take a ++ (l.drop (o + a)).take b := by
  rw [List.take_add, List.drop_drop]

section
variable {P : Program} {R : TypeId → Value → Prop} {G : TypeId → List Value → Prop} {g : TypeId → Option (List TypeId)}
theorem fields_flat (hg : ∀ t ts cs, g t = some ts → G t cs → All2 R ts cs) (cs : List Value) : ∀ (fs : List Field) (o : Nat) (l : List TypeId), flatF P g o fs = some l →
    (∀ f ∈ fs, G f.type ((cs.drop f.offset).take (P.cellsOf f.type))) → All2 R l ((cs.drop o).take l.length)
  | [], _, l, h, _ => by
    simp only [flatF, Option.some.injEq] at h
    subst h; simp [All2]
  | f :: fs, o, l, h, hall => by
    obtain ⟨_, ho, r, l', h1, h2, h3, rfl⟩ := flatF_cons h
    have h4 := hg _ _ _ h1 (hall f (by simp))
    rw [ho, ← h2] at h4
    rw [List.length_append, take_two]
    exact h4.append (fields_flat hg cs fs _ _ h3 fun f hf => hall f (by simp [hf]))
theorem items_flat {c : Nat} {e : TypeId} {r : List TypeId} (hg : ∀ cs, G e cs → All2 R r cs) (cs : List Value) : ∀ (n k : Nat), (∀ i, i < n → G e ((cs.drop ((k + i) * c)).take c)) →
    All2 R (List.replicate n r).flatten ((cs.drop (k * c)).take (n * c))
  | 0, _, _ => by simp [All2]
  | n + 1, k, h => by
    rw [List.replicate_succ, List.flatten_cons, Nat.add_mul, Nat.one_mul, Nat.add_comm (n * c) c, take_two]
    refine (hg _ (by simpa using h 0 (by omega))).append ?_
    have := items_flat hg cs n (k + 1) (fun i hi => by have := h (i + 1) (by omega); rwa [show k + (i + 1) = k + 1 + i by omega] at this)
    rwa [Nat.add_mul, Nat.one_mul] at this
end

section
variable {H : Type} {enc : TypeId × Value → H} {P : Program} {w : World} {base : Nat} {spare : Nat → Bool} {held : Bool}
theorem trod_one {t : TypeId} {n : Nat} {cs : List Value} {x : DataW H × List MemPlace} {d : TypeDesc} (hu : P.underlying t = some d) (hd : rowT P t = false) (h : DataW.trod enc P w base spare held n t cs = some x) : ∃ v, cs = [v] := by
  cases n with
  | zero => simp [DataW.trod] at h
  | succ n =>
    unfold DataW.trod at h
    unfold rowT at hd
    rw [hu] at h hd
    split at h <;> first | exact ⟨_, rfl⟩ | (simp_all; done)
/-- A value that can be read: each of its cells can be read as its own type. -/
theorem trod_flat : ∀ (d : Nat) (t : TypeId) (ts : List TypeId), flat P d t = some ts → ∀ (n : Nat) (cs : List Value) (x : DataW H × List MemPlace), DataW.trod enc P w base spare held n t cs = some x →
    All2 (fun t v => ∃ n y, DataW.trod enc P w base spare held n t [v] = some y) ts cs
  | 0, _, _, h, _, _, _, _ => by simp [flat] at h
  | d + 1, t, ts, h, n, cs, x, hx => by
    unfold flat at h
    split at h
    · rename_i fs hu
      split at h
      · cases h
      · split at h
        · rename_i l hl
          split at h
          · rename_i hlen
            simp only [Option.some.injEq] at h; subst h
            obtain ⟨xs, m, _, _, hcl, hxl, hf⟩ := DataW.trod_struct hu hx
            have := fields_flat (P := P) (G := fun t cs => ∃ n y, DataW.trod enc P w base spare held n t cs = some y) (g := flat P d) (fun t ts cs h ⟨n, y, hy⟩ => trod_flat d t ts h n cs y hy) cs fs.toList 0 l hl (fun f hf' => by
              obtain ⟨i, hi⟩ := List.getElem?_of_mem hf'
              have h1 := hf i f (by simpa using hi)
              have h2 : i < xs.length := by
                have := (List.getElem?_eq_some_iff.1 hi).1
                simp at this; omega
              rw [List.getElem?_eq_getElem h2] at h1
              exact ⟨m, _, h1⟩)
            rw [List.drop_zero, hlen, ← hcl, List.take_length] at this
            exact this
          · cases h
        · cases h
    · rename_i k e hu
      split at h
      · rename_i r hr
        split at h
        · rename_i hlen
          simp only [Option.some.injEq] at h; subst h
          obtain ⟨xs, m, _, _, hcl, hxl, hf⟩ := DataW.trod_array hu hx
          have := items_flat (c := P.cellsOf e) (e := e) (r := r) (G := fun t cs => ∃ n y, DataW.trod enc P w base spare held n t cs = some y) (fun cs ⟨n, y, hy⟩ => trod_flat d e r hr n cs y hy) cs k 0 (fun i hi => by
            have h1 := hf i hi
            rw [List.getElem?_eq_getElem (by omega)] at h1
            exact ⟨m, _, by simpa using h1⟩)
          rw [Nat.zero_mul, List.drop_zero, hlen.2, ← hcl, List.take_length] at this
          exact this
        · cases h
      · cases h
    · rename_i dd hns hna hu
      split at h
      · simp only [Option.some.injEq] at h; subst h
        obtain ⟨v, rfl⟩ := trod_one hu (by unfold rowT; rw [hu]; cases dd <;> simp_all) hx
        exact ⟨⟨n, x, hx⟩, trivial⟩
      · cases h
    · cases h
end

/-! ### comparing -/
section
variable {P : Program}
def vOf (P : Program) (t : TypeId) (cs : List Value) : Value := if rowT P t then .agg cs.toArray else cs.headD undef
/-- Two cells of a type of one cell: '==' is equality. -/
def LeafEq (P : Program) (t : TypeId) (p : Value × Value) : Prop := ∃ b : Bool, (∀ D w, (Op.equalIn (D + 1) t p.1 p.2).run P w = .ok b w) ∧ (b = true ↔ p.1 = p.2)
theorem leaf_int {t : TypeId} {k : IntKind} (h : P.underlying t = some (.int k)) (a b : Int) : LeafEq P t (.int k a, .int k b) := ⟨a == b, fun D w => run_equalIn_int w D t k k a b h, by simp⟩
theorem run_part (w : World) {t : TypeId} {d : TypeDesc} (hu : P.underlying t = some d) (hc : rowT P t = false → P.cellsOf t = 1) (cs : List Value) (off : Nat) (hl : off + P.cellsOf t ≤ cs.length) :
    (part t cs.toArray off).run P w = .ok (vOf P t ((cs.drop off).take (P.cellsOf t))) w := by
  obtain ⟨i, hi⟩ := info_of_underlying hu
  have hagg : (isAgg t).run P w = .ok (rowT P t) w := by
    unfold isAgg rowT
    rw [Sem.run_bind, run_underlying hu w]
    rw [hu]
    cases d <;> simp
  unfold part vOf
  rw [Sem.run_bind, hagg, Result.andThen_ok]
  cases hr : rowT P t with
  | true =>
    simp only [if_true, Sem.run_bind, run_sizeOf w hi, Result.andThen_ok, Sem.run_pure]
    congr 2
    simp [List.extract]
  | false =>
    have h1 := hc hr
    have h2 : off < cs.length := by omega
    simp only [Bool.false_eq_true, if_false, List.getElem?_toArray, List.getElem?_eq_getElem h2, Sem.run_pure, h1]
    have h3 : (cs.drop off).take 1 = [cs[off]] := by rw [List.drop_eq_getElem_cons h2]; rfl
    rw [h3]
    simp

theorem cells_one {d : Nat} {t : TypeId} {ts : List TypeId} (h : flat P d t = some ts) : (∃ dd, P.underlying t = some dd) ∧ (rowT P t = false → P.cellsOf t = 1) := by
  cases d with
  | zero => simp [flat] at h
  | succ d =>
    unfold flat at h
    unfold rowT
    split at h
    · rename_i hu; exact ⟨⟨_, hu⟩, by rw [hu]; simp⟩
    · rename_i hu; exact ⟨⟨_, hu⟩, by rw [hu]; simp⟩
    · rename_i hu
      split at h
      · rename_i h1; exact ⟨⟨_, hu⟩, fun _ => h1⟩
      · cases h
    · cases h

def EqG (P : Program) (D : Nat) (g : TypeId → Option (List TypeId)) : Prop := ∀ (t : TypeId) (ts : List TypeId) (zs : List (Value × Value)), g t = some ts → All2 (LeafEq P) ts zs →
  ∃ b : Bool, (∀ w, (Op.equalIn D t (vOf P t (zs.map (·.1))) (vOf P t (zs.map (·.2)))).run P w = .ok b w) ∧ (b = true ↔ zs.map (·.1) = zs.map (·.2))

theorem map_part {γ : Type} (f : Value × Value → γ) (zs : List (Value × Value)) (o n : Nat) : ((zs.map f).drop o).take n = ((zs.drop o).take n).map f := by
  rw [← List.map_drop, ← List.map_take]

theorem fields_eq {D d : Nat} (hg : EqG P D (flat P d)) (zs : List (Value × Value)) : ∀ (fs : List Field) (o : Nat) (l : List TypeId), flatF P (flat P d) o fs = some l → o + l.length ≤ zs.length →
    All2 (LeafEq P) l ((zs.drop o).take l.length) →
    ∃ b : Bool, (∀ w, (Op.eqFields D (zs.map (·.1)).toArray (zs.map (·.2)).toArray fs).run P w = .ok b w) ∧ (b = true ↔ ((zs.drop o).take l.length).map (·.1) = ((zs.drop o).take l.length).map (·.2))
  | [], _, l, h, _, _ => by
    simp only [flatF, Option.some.injEq] at h
    subst h
    exact ⟨true, fun w => by simp [Op.eqFields], by simp⟩
  | f :: fs, o, l, h, hlen, hall => by
    obtain ⟨hn, ho, r, l', h1, h2, h3, rfl⟩ := flatF_cons h
    obtain ⟨⟨dd, hu⟩, hone⟩ := cells_one h1
    rw [List.length_append] at hlen hall ⊢
    rw [take_two] at hall ⊢
    have hs := hall.split
    have hlr : ((zs.drop o).take r.length).length = r.length := by simp; omega
    rw [List.take_left' hlr, List.drop_left' hlr] at hs
    obtain ⟨b, hb, hiff⟩ := hg f.type r _ h1 hs.1
    obtain ⟨b', hb', hiff'⟩ := fields_eq hg zs fs (o + r.length) l' h3 (by omega) hs.2
    have p1 := fun w => run_part (P := P) w hu hone (zs.map (·.1)) f.offset (by simp; omega)
    have p2 := fun w => run_part (P := P) w hu hone (zs.map (·.2)) f.offset (by simp; omega)
    rw [ho, ← h2] at p1 p2
    simp only [map_part] at p1 p2
    refine ⟨b && b', fun w => ?_, ?_⟩
    · simp only [Op.eqFields, hn, ne_eq, not_false_eq_true, if_true, Sem.run_bind, ho, p1, p2, hb, Result.andThen_ok]
      cases b
      · simp
      · simpa using hb' w
    · rw [Bool.and_eq_true, hiff, hiff', List.map_append, List.map_append]
      constructor
      · rintro ⟨e1, e2⟩; rw [e1, e2]
      · intro e; exact List.append_inj e (by simp)
theorem items_eq {D d : Nat} (hg : EqG P D (flat P d)) {e : TypeId} {r : List TypeId} (hr : flat P d e = some r) (hc : r.length = P.cellsOf e) (zs : List (Value × Value)) : ∀ (n k : Nat), (k + n) * P.cellsOf e ≤ zs.length →
    All2 (LeafEq P) (List.replicate n r).flatten ((zs.drop (k * P.cellsOf e)).take (n * P.cellsOf e)) →
    ∃ b : Bool, (∀ w, (Op.eqItems D e (P.cellsOf e) (zs.map (·.1)).toArray (zs.map (·.2)).toArray (List.range' k n)).run P w = .ok b w) ∧
      (b = true ↔ ((zs.drop (k * P.cellsOf e)).take (n * P.cellsOf e)).map (·.1) = ((zs.drop (k * P.cellsOf e)).take (n * P.cellsOf e)).map (·.2))
  | 0, k, _, _ => ⟨true, fun w => by simp [Op.eqItems], by simp⟩
  | n + 1, k, hlen, hall => by
    obtain ⟨⟨dd, hu⟩, hone⟩ := cells_one hr
    have hlen' : k * P.cellsOf e + P.cellsOf e + n * P.cellsOf e ≤ zs.length := by
      have : (k + (n + 1)) * P.cellsOf e = k * P.cellsOf e + P.cellsOf e + n * P.cellsOf e := by
        rw [Nat.add_mul, Nat.add_mul, Nat.one_mul]; omega
      omega
    rw [List.replicate_succ, List.flatten_cons] at hall
    rw [Nat.add_mul, Nat.one_mul, Nat.add_comm (n * _), take_two] at hall ⊢
    have hs := hall.split
    have hlr : ((zs.drop (k * P.cellsOf e)).take (P.cellsOf e)).length = r.length := by rw [hc]; simp; omega
    rw [List.take_left' hlr, List.drop_left' hlr] at hs
    obtain ⟨b, hb, hiff⟩ := hg e r _ hr hs.1
    have hk : k * P.cellsOf e + P.cellsOf e = (k + 1) * P.cellsOf e := by rw [Nat.add_mul, Nat.one_mul]
    rw [hk] at hs ⊢
    obtain ⟨b', hb', hiff'⟩ := items_eq hg hr hc zs n (k + 1) (by rw [Nat.add_mul, Nat.add_mul] at *; omega) hs.2
    have p1 := fun w => run_part (P := P) w hu hone (zs.map (·.1)) (k * P.cellsOf e) (by simp; omega)
    have p2 := fun w => run_part (P := P) w hu hone (zs.map (·.2)) (k * P.cellsOf e) (by simp; omega)
    simp only [map_part] at p1 p2
    refine ⟨b && b', fun w => ?_, ?_⟩
    · simp only [List.range'_succ, Op.eqItems, Sem.run_bind, p1, p2, hb, Result.andThen_ok]
      cases b
      · simp
      · simpa using hb' w
    · rw [Bool.and_eq_true, hiff, hiff', List.map_append, List.map_append]
      constructor
      · rintro ⟨e1, e2⟩; rw [e1, e2]
      · intro e; exact List.append_inj e (by simp)
theorem eq_flat : ∀ (d D : Nat), d ≤ D → EqG P D (flat P d)
  | 0, _, _ => fun t ts zs h _ => by simp [flat] at h
  | d + 1, 0, h => absurd h (by omega)
  | d + 1, D + 1, hD => fun t ts zs h hall => by
    have IH := eq_flat d D (by omega)
    unfold flat at h
    split at h
    · rename_i fs hu
      split at h
      · cases h
      · rename_i hst
        split at h
        · rename_i l hl
          split at h
          · rename_i hlen
            simp only [Option.some.injEq] at h; subst h
            have hz := hall.length
            obtain ⟨b, hb, hiff⟩ := fields_eq IH zs fs.toList 0 l hl (by omega) (by rw [List.drop_zero, hz, List.take_length]; exact hall)
            rw [List.drop_zero, hz, List.take_length] at hiff
            have hfs : P.fieldsOf t = fs := by simp [Program.fieldsOf, hu]
            refine ⟨b, fun w => ?_, hiff⟩
            have hr : rowT P t = true := by unfold rowT; rw [hu]
            unfold vOf
            rw [if_pos hr, if_pos hr, run_equalIn_struct w D t _ _ (by rw [hfs]; exact hu) (by simpa using hst), hfs]
            exact hb w
          · cases h
        · cases h
    · rename_i n e hu
      split at h
      · rename_i r hr
        split at h
        · rename_i hlen
          simp only [Option.some.injEq] at h; subst h
          have hz := hall.length
          have hz2 : n * P.cellsOf e = zs.length := by rw [← hz]; simp [hlen.1]
          obtain ⟨b, hb, hiff⟩ := items_eq IH hr hlen.1 zs n 0 (by rw [Nat.zero_add]; omega) (by rw [Nat.zero_mul, List.drop_zero, hz2, List.take_length]; exact hall)
          rw [Nat.zero_mul, List.drop_zero, hz2, List.take_length] at hiff
          obtain ⟨⟨dd, hue⟩, _⟩ := cells_one hr
          obtain ⟨i, hi⟩ := info_of_underlying hue
          refine ⟨b, fun w => ?_, hiff⟩
          have hrow : rowT P t = true := by unfold rowT; rw [hu]
          unfold vOf
          rw [if_pos hrow, if_pos hrow, run_equalIn_array w D _ _ hu hi, List.range_eq_range']
          exact hb w
        · cases h
      · cases h
    · rename_i dd hns hna hu
      split at h
      · simp only [Option.some.injEq] at h; subst h
        have hr : rowT P t = false := by unfold rowT; rw [hu]; cases dd <;> simp_all
        match zs, hall with
        | [p], ⟨⟨b, hb, hiff⟩, _⟩ =>
          refine ⟨b, fun w => ?_, by simpa using hiff⟩
          unfold vOf
          rw [hr]
          simpa using hb D w
      · cases h
    · cases h
/-- What a walk asks. -/
theorem eql_flat {d : Nat} {t : TypeId} {ts : List TypeId} (h : flat P d t = some ts) (hd : d ≤ 10000) (hr : rowT P t = true) (zs : List (Value × Value)) (hall : All2 (LeafEq P) ts zs) :
    ∃ b : Bool, (∀ w, (Op.equalIn 10000 t (.agg (zs.map (·.1)).toArray) (.agg (zs.map (·.2)).toArray)).run P w = .ok b w) ∧ (b = true ↔ zs.map (·.1) = zs.map (·.2)) := by
  obtain ⟨b, hb, hiff⟩ := eq_flat d 10000 hd t ts zs h hall
  refine ⟨b, fun w => ?_, hiff⟩
  have := hb w
  unfold vOf at this
  rwa [if_pos hr, if_pos hr] at this
end
end Go.Proofs.YtjolhoilcibdfaaGreat.Flat
/- The contracts of sameValue, sameList and sameGroup at ints, rails, buses and groups, and of the document's SameInts: are two lists equal? -/
namespace Go.Proofs.YtjolhoilcibdfaaGreat.Same
open Go.ChangeShapes Go.WideShapes Go.ChangeAt Go.RowKit
open Tab
open May (ret_bool chain take_succ' infoP infoG infoD infoR infoB row_new)
set_option linter.unusedVariables false
set_option linter.unusedSimpArgs false

end Go.Proofs.YtjolhoilcibdfaaGreat.Same
/- What == answers at the arrays and structs of a table: equality. -/
namespace Go.Proofs.YtjolhoilcibdfaaGreat.Same
open Go.ChangeShapes Go.WideShapes
open Tab Flat
set_option linter.unusedVariables false
set_option linter.unusedSimpArgs false

def Eqs (t : TypeId) (xs ys : List Value) (b : Bool) : Prop := ∀ w : World, (Op.equalIn 10000 t (.agg xs.toArray) (.agg ys.toArray)).run Tryz.prog w = .ok b w
theorem eqs_of {d : Nat} {t : TypeId} {ts : List TypeId} (h : flat Tryz.prog d t = some ts) (hd : d ≤ 10000) (hr : rowT Tryz.prog t = true) (zs : List (Value × Value)) (hall : All2 (LeafEq Tryz.prog) ts zs) {xs ys : List Value} (hx : zs.map (·.1) = xs) (hy : zs.map (·.2) = ys) {p : Prop} [Decidable p]
    (hp : xs = ys ↔ p) : Eqs t xs ys (decide p) := by
  subst hx hy
  obtain ⟨b, hb, hiff⟩ := eql_flat h hd hr zs hall
  rw [hp] at hiff
  have e : b = decide p := by
    by_cases hq : p
    · rw [decide_eq_true hq]; exact hiff.2 hq
    · rw [decide_eq_false hq]; cases b
      · rfl
      · exact absurd (hiff.1 rfl) hq
  intro w
  rw [hb w, e]
theorem lint (a b : Int) : LeafEq Tryz.prog 3 (I a, I b) := leaf_int Tryz.underlying3 a b
def single (T : Tab) : List Int := [T.extend, T.budget, T.start, T.revert, T.least, T.window, T.share]
end Go.Proofs.YtjolhoilcibdfaaGreat.Same
/- The contracts of sameValue and sameList at rails, buses and groups, and of sameGroup. -/
namespace Go.Proofs.YtjolhoilcibdfaaGreat.Same
open Go.ChangeShapes Go.WideShapes Go.ChangeAt Go.RowKit
open Tab
open May (ret_bool chain take_succ' infoP infoG infoD infoR infoB row_new)
set_option linter.unusedVariables false
set_option linter.unusedSimpArgs false

end Go.Proofs.YtjolhoilcibdfaaGreat.Same
/- A region that draws its order of evaluation and whose calls may make memory: walked once, in the order of the text, in the class 'below block B as it was'. No program in it. -/
namespace Go.Proofs.YtjolhoilcibdfaaGreat.QB
open Go.RowKit
structure By (B : Nat) (w : World) where
  world : World
  below : Below B w world
instance {B : Nat} {w : World} : Inhabited (By B w) := ⟨⟨w, Below.refl _ _⟩⟩
end Go.Proofs.YtjolhoilcibdfaaGreat.QB
/- The contracts of table.bits, single, sameDetector and of sameList at detectors. -/
namespace Go.Proofs.YtjolhoilcibdfaaGreat.Same
open Go.ChangeShapes Go.WideShapes Go.ChangeAt Go.RowKit
open Tab
open May (ret_bool chain take_succ' infoP infoG infoD infoR infoB row_new St)
set_option linter.unusedVariables false
set_option linter.unusedSimpArgs false
theorem below_setRow {B : Nat} {a w : World} (h : Below B a w) {g : Nat} (hg : B ≤ g) (cs : Array Value) : Below B a (w.setRow g cs) :=
  h.trans ⟨rfl, rfl, rfl, by simp [World.setRow], fun j hj => setRow_other _ _ _ _ (by omega)⟩
end Go.Proofs.YtjolhoilcibdfaaGreat.Same
