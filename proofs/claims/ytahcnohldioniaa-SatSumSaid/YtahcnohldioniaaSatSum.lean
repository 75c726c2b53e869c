/- SatSum returns true at any slice of integers and any integer: Sum answers as the document's own answer does, also as the Add of the Sums of two parts. No condition. -/
import Derived.Test.YtahcnohldioniaaRows
import Derived.Test.YtahcnohldioniaaMath
import Derived.StillTailTactics
import Derived.WalkKit
import Derived.ProofKit
import Derived.OpenShut
import Derived.ShutString
import Derived.ChangeOld
import Derived.Below
namespace Go.Proofs.Ytahcnohldioniaa.satSum
open Go.ChangeShapes Go.WideShapes Go.ChangeAt Go.RowKit
open Go.ChangeMaps (open_string shut_string)
set_option linter.unusedVariables false

theorem own : ownKnob Try.prog.godebug = none := by kernel_rfl
theorem laidOut : laidOutB Try.prog = true := by kernel_rfl

/-- WHAT THE WALK IS TOLD OF A SLICE OF INTEGERS THAT CAME IN: it is nil; or it leads to a row of 'cap' cells, the numbers 'zs' (the first 'len' are its elements, the rest its spare room), each fitting its kind. -/
def IsRow (k : IntKind) (w : World) (a : Option Addr) (len cap : Nat) (zs : List Int) : Prop :=
  (a = none ∧ len = 0 ∧ cap = 0 ∧ zs = []) ∨
  ∃ x, a = some x ∧ len ≤ cap ∧ cap ≤ maxLen ∧ zs.length = cap ∧ (∀ i, i < zs.length → w.cell? (x.add i) = some (.int k (zs.getD i 0))) ∧ ∀ n ∈ zs, (Lit.int k n).wf = true

theorem row_of {w : World} {a : Option Addr} {len cap : Nat} {zs : List Int} (h : IsRow .i64 w a len cap zs) : Sat.IsRow w a len zs := by
  rcases h with ⟨rfl, rfl, rfl, rfl⟩ | ⟨x, rfl, h1, h2, h3, h4, h5⟩
  · exact ⟨Nat.le_refl _, Nat.zero_le _, .inl rfl⟩
  · exact ⟨by omega, by omega, .inr ⟨x, rfl, h4⟩⟩
theorem row_take {w : World} {a : Option Addr} {len : Nat} {zs : List Int} (k : Nat) (h : Sat.IsRow w a len zs) (hk : k ≤ len) : Sat.IsRow w a k zs := by
  obtain ⟨h1, h2, h3⟩ := h
  refine ⟨by omega, by omega, ?_⟩
  rcases h3 with h3 | h3
  · exact .inl (by omega)
  · exact .inr h3
theorem row_drop {w : World} {x : Addr} {len : Nat} {zs : List Int} (k m : Nat) (h : Sat.IsRow w (some x) len zs) (hk : k + m = len) : Sat.IsRow w (some (x.add k)) m (zs.drop k) := by
  obtain ⟨h1, h2, h3⟩ := h
  refine ⟨by rw [List.length_drop]; omega, by omega, ?_⟩
  rcases h3 with h3 | ⟨y, hy, h3⟩
  · exact .inl (by omega)
  · cases hy
    refine .inr ⟨_, rfl, fun i hi => ?_⟩
    rw [List.length_drop] at hi
    have := h3 (k + i) (by omega)
    rw [Addr.add_add, this]
    rw [List.getD_eq_getElem?_getD, List.getD_eq_getElem?_getD, List.getElem?_drop]
theorem sum_still (a : Option Addr) (len cap : Nat) (zs : List Int) (w : World) (h : Sat.IsRow w a len zs) :
    Calls Try.prog 18 #[.slice a len cap] w fun e w' => e = .returned (.int .i64 (Sat.sums (zs.take len))) ∧ w' = w :=
  (Sat.sum_any a len cap zs w h).mono fun _ _ ⟨h1, h2⟩ => ⟨h1, h2.symm⟩
theorem rsum_still (a : Option Addr) (len cap : Nat) (zs : List Int) (w : World) (h : Sat.IsRow w a len zs) :
    Calls Try.prog 19 #[.slice a len cap] w fun e w' => e = .returned (.int .i64 (Sat.sums (zs.take len))) ∧ w' = w :=
  (Sat.rsum_any a len cap zs w h).mono fun _ _ ⟨h1, h2⟩ => ⟨h1, h2.symm⟩
theorem add_still (a b : Int) (w : World) : Calls Try.prog 11 #[.int .i64 a, .int .i64 b] w fun e w' => e = .returned (.int .i64 (Sat.add a b)) ∧ w' = w :=
  (Sat.add_any a b w).mono fun _ _ ⟨h1, h2⟩ => ⟨h1, h2.symm⟩
theorem nil_still (w : World) : Calls Try.prog 18 #[.slice none 0 0] w fun e w' => e = .returned (.int .i64 0) ∧ w' = w :=
  sum_still none 0 0 [] w ⟨Nat.le_refl _, Nat.zero_le _, .inl rfl⟩
theorem empty_still (a : Option Addr) (cap : Nat) (w : World) : Calls Try.prog 18 #[.slice a 0 cap] w fun e w' => e = .returned (.int .i64 0) ∧ w' = w :=
  sum_still a 0 cap [] w ⟨Nat.le_refl _, Nat.zero_le _, .inl rfl⟩
theorem region_tail {P : Program} {w : World} {id : Nat} {Q : Exit → Act → World → Prop} {a : Act} {l : List Oper} (n : Nat) (hm : P.follows .mixedOrders = true) (hB : Region.lexTailB .any l.toArray n = true)
    (h : wpStill P l.toArray w.drew (fun a' => wpList P l.toArray Q (l.drop n) a' w.drew) (l.take n) a) : (Code.region id l.toArray true).wp P Q a w :=
  wp_region_still_tail n hm hB h
theorem part0 (l : List Int) : (Sat.add (Sat.sums l) 0 == Sat.sums l) = true := by
  exact beq_iff_eq.2 (Sat.add_zero_cap (Sat.sums l) (Sat.fold_cap l 0 (by decide)))
theorem parts (zs : List Int) (k m len : Nat) (h : k + m = len) (hl : len ≤ zs.length) : (Sat.add (Sat.sums (zs.take k)) (Sat.sums ((zs.drop k).take m)) == Sat.sums (zs.take len)) = true := by
  subst h
  rw [beq_iff_eq, List.take_add, Sat.sums_append]

/-! ### the walk -/
set_option maxHeartbeats 1000000 in
theorem walk (a0 : Option Addr) (len0 cap0 : Nat) (z0 : List Int) (a1 : Int) (w : World) (w0 : IsRow .i64 w a0 len0 cap0 z0) (w1 : (Lit.int .i64 a1).wf = true) :
    Calls Try.prog 4 #[.slice a0 len0 cap0, .int .i64 a1] w fun e w' => e = .returned (.bool true) ∧ Below w.heap.size w w' := by
  have hr := row_of w0
  rcases w0 with ⟨rfl, rfl, rfl, rfl⟩ | ⟨x, rfl, h1, h2, h3, h4, h5⟩
  · have Hr := Lib.hid hr
    have hp := parts [] 0 0 0 (by omega) (by simp)
    simp only [List.take_nil, List.drop_nil] at hp
    clear hr
    by_cases hc : 0 ≤ a1
    all_goals
      go_enter Try.func4, Try.ntmps4
      go_wp2_with (go_at_call 18; refine (Sat.sum_any _ _ _ [] _ Hr.out).mono ?_; rintro e w' ⟨rfl, rfl⟩)
      refine region_tail 22 (by kernel_rfl) (by kernel_rfl) ?_
      simp only [List.take_succ_cons, List.take_zero, List.drop_succ_cons, List.drop_zero]
      have Hr2 : Hid (Sat.IsRow w.drew none 0 []) := Lib.hid Hr.out
      have Hb2 : Hid (Below w.heap.size w w.drew) := Lib.hid ((Below.refl _ _).drew)
      generalize w.drew = w2 at Hr2 Hb2 ⊢
      repeat still_step
      still_call (rsum_still _ _ _ [] _ Hr2.out)
      repeat still_step
      still_call (sum_still _ _ _ [] _ (row_take 0 Hr2.out (by omega)))
      repeat still_step
      still_call (nil_still _)
      still_call (add_still _ _ _)
      repeat still_step
      still_call (nil_still _)
      repeat still_step
      refine wpStill_nil ?_
      go_wp2_with (go_at_call 17; refine (Sat.awake_any _).mono ?_; rintro e w' ⟨rfl, rfl⟩)
      go_ret
      exact ⟨rfl, Hb2.out.trans ((Below.refl _ _).alloc Hb2.out.size _)⟩
  
  · by_cases hl : 60 < len0
    · clear h3 h4 h5 hr
      go_enter Try.func4, Try.ntmps4
      go_wp2_with (go_at_call 17; refine (Sat.awake_any _).mono ?_; rintro e w' ⟨rfl, rfl⟩)
      go_ret
      exact ⟨rfl, (Below.refl _ _).alloc (Nat.le_refl _) _⟩
    · have hl' : len0 ≤ 60 := by omega
      unfold maxLen at h2
      have Hr := Lib.hid hr
      clear h4 h5 hr hl
      by_cases hc : 0 ≤ a1 ∧ a1 < len0
      · obtain ⟨hc1, hc2⟩ := hc
        obtain ⟨k, rfl⟩ := Int.eq_ofNat_of_zero_le hc1
        clear hc1 w1
        have hk : k < len0 := by omega
        have hp := parts z0 k (len0 - k) len0 (by omega) (by omega)
        have hk1 : k ≤ cap0 := by omega
        have hk2 : ¬ cap0 = k := by omega
        have hk3 : k ≤ len0 := by omega
        clear hc2 h3
        go_enter Try.func4, Try.ntmps4
        go_wp2_with (go_at_call 18; refine (Sat.sum_any _ _ _ z0 _ Hr.out).mono ?_; rintro e w' ⟨rfl, rfl⟩)
        refine region_tail 22 (by kernel_rfl) (by kernel_rfl) ?_
        simp only [List.take_succ_cons, List.take_zero, List.drop_succ_cons, List.drop_zero]
        have Hr2 : Hid (Sat.IsRow w.drew (some x) len0 z0) := Lib.hid Hr.out
        have Hb2 : Hid (Below w.heap.size w w.drew) := Lib.hid ((Below.refl _ _).drew)
        generalize w.drew = w2 at Hr2 Hb2 ⊢
        repeat still_step
        still_call (rsum_still _ _ _ z0 _ Hr2.out)
        repeat still_step
        still_call (sum_still _ _ _ z0 _ (row_take k Hr2.out (by omega)))
        repeat still_step
        still_call (sum_still _ _ _ (z0.drop k) _ (row_drop k (len0 - k) Hr2.out (by omega)))
        still_call (add_still _ _ _)
        repeat still_step
        still_call (nil_still _)
        repeat still_step
        refine wpStill_nil ?_
        go_wp2_with (go_at_call 17; refine (Sat.awake_any _).mono ?_; rintro e w' ⟨rfl, rfl⟩)
        go_ret
        exact ⟨rfl, Hb2.out.trans ((Below.refl _ _).alloc Hb2.out.size _)⟩
      · have hp := part0 (z0.take len0)
        have hc' : a1 < 0 ∨ (0 ≤ a1 ∧ ¬ a1 < len0) := by omega
        clear hc h3
        by_cases hcap : cap0 = len0
        · obtain rfl : len0 = cap0 := hcap.symm
          clear hcap
          rcases hc' with hc | ⟨hc1, hc2⟩
          all_goals
            go_enter Try.func4, Try.ntmps4
            go_wp2_with (go_at_call 18; refine (Sat.sum_any _ _ _ z0 _ Hr.out).mono ?_; rintro e w' ⟨rfl, rfl⟩)
            refine region_tail 22 (by kernel_rfl) (by kernel_rfl) ?_
            simp only [List.take_succ_cons, List.take_zero, List.drop_succ_cons, List.drop_zero]
            have Hr2 : Hid (Sat.IsRow w.drew (some x) len0 z0) := Lib.hid Hr.out
            have Hb2 : Hid (Below w.heap.size w w.drew) := Lib.hid ((Below.refl _ _).drew)
            generalize w.drew = w2 at Hr2 Hb2 ⊢
            repeat still_step
            still_call (rsum_still _ _ _ z0 _ Hr2.out)
            repeat still_step
            still_call (sum_still _ _ _ z0 _ (row_take len0 Hr2.out (by omega)))
            repeat still_step
            still_call (empty_still _ _ _)
            still_call (add_still _ _ _)
            repeat still_step
            still_call (nil_still _)
            repeat still_step
            refine wpStill_nil ?_
            go_wp2_with (go_at_call 17; refine (Sat.awake_any _).mono ?_; rintro e w' ⟨rfl, rfl⟩)
            go_ret
            exact ⟨rfl, Hb2.out.trans ((Below.refl _ _).alloc Hb2.out.size _)⟩
        · rcases hc' with hc | ⟨hc1, hc2⟩
          all_goals
            go_enter Try.func4, Try.ntmps4
            go_wp2_with (go_at_call 18; refine (Sat.sum_any _ _ _ z0 _ Hr.out).mono ?_; rintro e w' ⟨rfl, rfl⟩)
            refine region_tail 22 (by kernel_rfl) (by kernel_rfl) ?_
            simp only [List.take_succ_cons, List.take_zero, List.drop_succ_cons, List.drop_zero]
            have Hr2 : Hid (Sat.IsRow w.drew (some x) len0 z0) := Lib.hid Hr.out
            have Hb2 : Hid (Below w.heap.size w w.drew) := Lib.hid ((Below.refl _ _).drew)
            generalize w.drew = w2 at Hr2 Hb2 ⊢
            repeat still_step
            still_call (rsum_still _ _ _ z0 _ Hr2.out)
            repeat still_step
            still_call (sum_still _ _ _ z0 _ (row_take len0 Hr2.out (by omega)))
            repeat still_step
            still_call (empty_still _ _ _)
            still_call (add_still _ _ _)
            repeat still_step
            still_call (nil_still _)
            repeat still_step
            refine wpStill_nil ?_
            go_wp2_with (go_at_call 17; refine (Sat.awake_any _).mono ?_; rintro e w' ⟨rfl, rfl⟩)
            go_ret
            exact ⟨rfl, Hb2.out.trans ((Below.refl _ _).alloc Hb2.out.size _)⟩

/-! ### the row's step -/
set_option maxRecDepth 100000 in
theorem lifted (os : Os) (started : os.Started) (H : Type) (enc : TypeId × Value → H) :
    ReturnsInHanded {} Try.checked os 4 .any (Rows.satSumSpec.pre6 enc Try.prog Try.f4 Rows.satSumRow.domain false) (Rows.satSumSpec.post enc Try.prog Try.f4 false true false false) := by
  refine returnsInHanded_of_change (C := Try.checked) own started (by kernel_rfl) Try.func4
    (ChangeSpec.witness6 (enc := enc) (C := Try.checked) false ⟨#[], #[.slice none 0 0, .int .i64 0], []⟩ 8 (by kernel_rfl) (by kernel_rfl) (by kernel_rfl) (by kernel_rfl)) ?_
  intro W base args ds gs before hval0 hW hcnd _
  have hval : ∀ (j : Nat) t v, Try.f4.params[j]? = some t → args[j]? = some v → Value.okWide Try.prog W .any base t v := hval0
  have hW' := hW
  obtain ⟨p, q, hA0, hV, rfl, hfz, hnd⟩ := hW
  have hA : DataW.TrodAll enc Try.prog W 0 (fun _ => true) true Try.f4.params.toList args.toList ds p := hA0
  rw [Try.params4] at hA hval
  obtain ⟨v0, vs0, d0, ds0, p0, q0, hargs, rfl, rfl, h0, r0⟩ := trodAll_cons hA
  obtain ⟨v1, vs1, d1, ds1, p1, q1, rfl, rfl, rfl, h1, r1⟩ := trodAll_cons r0
  obtain ⟨rfl, rfl, rfl⟩ := trodAll_nil r1
  obtain rfl : args = #[v0, v1] := by cases args; simp_all
  obtain ⟨rfl, rfl⟩ := trodVars_none hV
  obtain ⟨a0, len0, cap0, rfl⟩ := okWide_slice Try.underlying27 (hval 0 27 v0 rfl rfl)
  have k0 := h0
  have lt0 : ∀ x ∈ p0, x.block < W.heap.size := by obtain ⟨m, hm⟩ := k0; exact DataW.trod_lt m _ _ _ hm
  obtain ⟨z0, w0⟩ : ∃ zs, IsRow .i64 W a0 len0 cap0 zs := by
    obtain ⟨fuel, hf⟩ := h0
    rcases open_ints Try.underlying27 Try.underlying3 (by kernel_rfl) hf with ⟨hcs, _⟩ | ⟨x, l, c, zs, hcs, _, hl, hm, hz, _, hcell, hwz⟩
    · simp [Value.cells] at hcs
      obtain ⟨rfl, rfl, rfl⟩ := hcs
      exact ⟨[], .inl ⟨rfl, rfl, rfl, rfl⟩⟩
    · simp [Value.cells] at hcs
      obtain ⟨rfl, rfl, rfl⟩ := hcs
      exact ⟨zs, .inr ⟨_, rfl, hl, hm, by simpa using hz, hcell, hwz⟩⟩
  obtain ⟨a1, rfl, rfl, rfl, w1⟩ := open_int Try.underlying3 (hval 1 3 v1 rfl rfl) h1
  clear hA0 hval0
  refine (walk a0 len0 cap0 z0 a1 W w0 w1).mono fun e W' ⟨he, bel⟩ => ?_
  subst he
  exact ⟨_, rfl, _, _, _, [], _, [], hW', trodAll_mk1 (shut_bool Try.underlying4 _), (trodAll_cons_mk (Below.trod laidOut (by kernel_rfl) (of_decide_eq_true (by kernel_rfl)) k0 bel lt0) (trodAll_cons_mk (shut_int Try.underlying3 w1) trodAll_mk0)), rfl, bel.frame _, fun h => by cases h⟩

theorem over : Rows.satSumRow.holds Try.pinned (OpenSpec.ofChange Rows.satSumSpec) :=
  OpenClaim.holds_of_wide 4 Try.f4 rfl rfl rfl rfl rfl rfl rfl ⟨rfl, rfl, rfl, rfl, rfl⟩ rfl rfl rfl rfl rfl (by kernel_rfl) Try.func4 (by kernel_rfl)
    (of_decide_eq_true (by kernel_rfl)) (by unfold Func.isWrapper; first | (rw [if_pos (by decide +kernel)]; kernel_rfl) | (rw [if_neg (by decide +kernel)]; exact ⟨rfl, rfl⟩))
    (fun os started H enc _ => lifted os started H enc)

/-- the statement -/
theorem proved : Rows.SatSumSaid := over
#print axioms proved
end Go.Proofs.Ytahcnohldioniaa.satSum
