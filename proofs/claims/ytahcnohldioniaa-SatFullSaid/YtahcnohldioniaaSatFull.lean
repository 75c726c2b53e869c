/- SatFull returns true at any slice of integers: a sum of at most ten numbers from 0 to MaxTick is Full just if the exact sum is MaxTick or more, and equals it otherwise. No condition. -/
import Derived.Test.YtahcnohldioniaaRows
import Derived.Test.YtahcnohldioniaaMath
import Derived.StillTailTactics
import Derived.Laws.BitsLemmas
import Derived.WalkKit
import Derived.ProofKit
import Derived.OpenShut
import Derived.ShutString
import Derived.ChangeOld
import Derived.Below
namespace Go.Proofs.Ytahcnohldioniaa.satFull
open Go.ChangeShapes Go.WideShapes Go.ChangeAt Go.RowKit
open Go.ChangeMaps (open_string shut_string)
set_option linter.unusedVariables false

theorem own : ownKnob Try.prog.godebug = none := by kernel_rfl
theorem laidOut : laidOutB Try.prog = true := by kernel_rfl

/-- WHAT THE WALK IS TOLD OF A SLICE OF INTEGERS THAT CAME IN: it is nil; or it leads to a row of 'cap' cells, the numbers 'zs' (the first 'len' are its elements, the rest its spare room), each fitting its kind. -/
def IsRow (k : IntKind) (w : World) (a : Option Addr) (len cap : Nat) (zs : List Int) : Prop :=
  (a = none ∧ len = 0 ∧ cap = 0 ∧ zs = []) ∨
  ∃ x, a = some x ∧ len ≤ cap ∧ cap ≤ maxLen ∧ zs.length = cap ∧ (∀ i, i < zs.length → w.cell? (x.add i) = some (.int k (zs.getD i 0))) ∧ ∀ n ∈ zs, (Lit.int k n).wf = true

theorem info3 : (Try.prog.info? 3).map (fun i => (i.zero, i.size, i.bytes)) = some (some (.int .i64 0), 1, 8) := by kernel_rfl
def lo (z : Int) : Int := z % 2147483648
theorem lo_bd (z : Int) : 0 ≤ lo z ∧ lo z ≤ 2147483647 := by unfold lo; omega
theorem and_lo (n : Int) : bits .and .i64 n 2147483647 = lo n := by
  have h31 : (BitVec.ofInt 64 2147483647).toNat = 2 ^ 31 - 1 := by decide
  have key : (BitVec.ofInt 64 n &&& BitVec.ofInt 64 2147483647).toNat = (n % ((2 ^ 64 : Nat) : Int)).toNat % 2 ^ 31 := by
    rw [BitVec.toNat_and, BitVec.toNat_ofInt, h31, Nat.and_two_pow_sub_one_eq_mod]
  show IntKind.i64.wrap ((BitVec.ofInt 64 n &&& BitVec.ofInt 64 2147483647).toNat : Nat) = n % 2147483648
  rw [key, IntKind.wrap_i64]
  omega
/-- What has been gathered from the first k numbers. -/
def mm (zs : List Int) (k : Nat) : List Int := (zs.take k).map lo
theorem mm_len (zs : List Int) (k : Nat) (h : k ≤ zs.length) : (mm zs k).length = k := by unfold mm; rw [List.length_map, List.length_take]; omega
theorem mm_snoc (zs : List Int) (k : Nat) (h : k < zs.length) : mm zs (k + 1) = mm zs k ++ [lo (zs.getD k 0)] := by
  unfold mm; rw [Sat.take_succ_getD zs k h, List.map_append]; rfl
theorem mm_bd (zs : List Int) (k : Nat) : ∀ x ∈ mm zs k, 0 ≤ x ∧ x ≤ 2147483647 := by
  intro x hx
  unfold mm at hx
  obtain ⟨z, _, rfl⟩ := List.mem_map.1 hx
  exact lo_bd z
theorem sum_snoc (l : List Int) (x : Int) : (l ++ [x]).sum = l.sum + x := by rw [List.sum_append]; simp
theorem sum_bd (l : List Int) (h : ∀ x ∈ l, 0 ≤ x ∧ x ≤ 2147483647) : 0 ≤ l.sum ∧ l.sum ≤ 2147483647 * (l.length : Int) := by
  induction l with
  | nil => simp
  | cons y l ih =>
    have h1 := h y (List.mem_cons_self ..)
    have h2 := ih fun x hx => h x (List.mem_cons_of_mem _ hx)
    rw [List.sum_cons, List.length_cons]
    omega
theorem fold_sum (l : List Int) (s : Int) (hs : 0 ≤ s) (h : ∀ x ∈ l, 0 ≤ x ∧ x ≤ 2147483647) : l.foldl Sat.add (Sat.cap s) = Sat.cap (s + l.sum) := by
  induction l generalizing s with
  | nil => simp
  | cons y l ih =>
    have h1 := h y (List.mem_cons_self ..)
    have h2 := fun x hx => h x (List.mem_cons_of_mem y hx)
    rw [List.foldl_cons, List.sum_cons, show Sat.add (Sat.cap s) y = Sat.cap (s + y) from ?_, ih _ (by omega) h2, Int.add_assoc]
    unfold Sat.add
    rw [Sat.cap_cap, Sat.cap_sum _ _ hs h1.1]
theorem sums_sum (l : List Int) (h : ∀ x ∈ l, 0 ≤ x ∧ x ≤ 2147483647) : Sat.sums l = Sat.cap l.sum := by
  have := fold_sum l 0 (by omega) h
  rw [Int.zero_add, show Sat.cap 0 = 0 from by decide] at this
  exact this
theorem fact1 (l : List Int) (h : ∀ x ∈ l, 0 ≤ x ∧ x ≤ 2147483647) : (Sat.full (Sat.sums l) == decide (2147483647 ≤ l.sum)) = true := by
  rw [sums_sum l h, beq_iff_eq, Bool.eq_iff_iff]
  unfold Sat.full
  rw [decide_eq_true_iff, decide_eq_true_iff, Sat.cap_mm]
  omega
theorem fact1a (l : List Int) (h : ∀ x ∈ l, 0 ≤ x ∧ x ≤ 2147483647) (h' : ¬ l.sum < 2147483647) : Sat.full (Sat.sums l) = true := by
  rw [beq_iff_eq.1 (fact1 l h)]; exact decide_eq_true (by omega)
theorem fact1b (l : List Int) (h : ∀ x ∈ l, 0 ≤ x ∧ x ≤ 2147483647) (h' : l.sum < 2147483647) : Sat.full (Sat.sums l) = false := by
  rw [beq_iff_eq.1 (fact1 l h)]; exact decide_eq_false (by omega)
theorem fact2 (l : List Int) (h : ∀ x ∈ l, 0 ≤ x ∧ x ≤ 2147483647) (h' : l.sum < 2147483647) : (Sat.sums l == l.sum) = true := by
  have := (sum_bd l h).1
  rw [sums_sum l h, beq_iff_eq, Sat.cap_in this (by omega)]
/-- The gathered numbers, read as a row. -/
theorem own_row {w : World} {B : Nat} {v : Value} {n : Nat} {l : List Int} (h : w.ownsRow B 3 1 v n (l.map (Value.int .i64))) (hl : l.length = n) :
    ∃ a cap, v = .slice a n cap ∧ Sat.IsRow w a n l := by
  rcases h.2 with ⟨rfl, rfl⟩ | ⟨g, cap, cur, rfl, h1, h2, h3, h4, h5, h6⟩
  · exact ⟨none, 0, rfl, by omega, Nat.zero_le _, .inl rfl⟩
  · refine ⟨_, cap, rfl, by omega, by omega, .inr ⟨_, rfl, fun i hi => ?_⟩⟩
    have h7 := h.cells (g := g) rfl i (.int .i64 (l.getD i 0)) (by rw [List.getElem?_map, List.getD_eq_getElem?_getD, List.getElem?_eq_getElem hi]; rfl)
    exact h7
theorem sum_all (a : Option Addr) (n cap : Nat) (l : List Int) (w : World) (h : Sat.IsRow w a n l) (hl : l.length = n) :
    Calls Try.prog 18 #[.slice a n cap] w fun e w' => e = .returned (.int .i64 (Sat.sums l)) ∧ w = w' :=
  (Sat.sum_any a n cap l w h).mono fun _ _ ⟨h1, h2⟩ => ⟨by rw [h1, List.take_of_length_le (by omega)], h2⟩

/-! ### the walk -/
set_option maxHeartbeats 1000000 in
theorem walk (a0 : Option Addr) (len0 cap0 : Nat) (z0 : List Int) (w : World) (w0 : IsRow .i64 w a0 len0 cap0 z0) :
    Calls Try.prog 7 #[.slice a0 len0 cap0] w fun e w' => e = .returned (.bool true) ∧ Below w.heap.size w w' := by
  obtain ⟨i0, hi, hz0, hz1, hz2⟩ := info_parts info3
  rcases w0 with ⟨rfl, rfl, rfl, rfl⟩ | ⟨x, rfl, h1, h2, h3, h4, h5⟩
  · have f3 : Sat.full (Sat.sums []) = false := by decide
    have f4 : (Sat.sums [] == 0) = true := by decide
    go_enter Try.func7, Try.ntmps7
    go_wp2
    refine wp_loop_rounds 1 ?_
    rw [rounds_succ]
    go_wp2_with (first
      | (go_at_call 18; refine (sum_all none 0 0 [] _ ⟨Nat.le_refl _, Nat.zero_le _, .inl rfl⟩ rfl).mono ?_; rintro e w' ⟨rfl, rfl⟩)
      | (go_at_call 10; refine (Sat.full_any _ _).mono ?_; rintro e w' ⟨rfl, rfl⟩)
      | (go_at_call 17; refine (Sat.awake_any _).mono ?_; rintro e w' ⟨rfl, rfl⟩))
    go_ret
    exact ⟨rfl, (Below.refl _ _).alloc (Nat.le_refl _) _⟩
  · unfold maxLen at h2
    clear h5
    go_enter Try.func7, Try.ntmps7
    go_wp2
    go_loopw [3, 4, 5] (fun v n i wr => ∃ k : Nat, k ≤ len0 ∧ k ≤ 10 ∧ i = .int .i64 k ∧ n = .int .i64 (mm z0 k).sum ∧ wr.ownsRow w.heap.size 3 1 v k ((mm z0 k).map (Value.int .i64)) ∧ Below w.heap.size w wr) (fun _ _ i _ => 10 - (intOf i).toNat)

    case atStart => exact ⟨0, Nat.zero_le _, Nat.zero_le _, rfl, rfl, World.ownsRow_nil _ _ _ _, Below.refl _ _⟩
    case round =>
      obtain ⟨k, hk, hk10, rfl, rfl, hown, hbel⟩ := hrel
      have hsb := sum_bd _ (mm_bd z0 k)
      have hml := mm_len z0 k (by omega)
      rw [hml] at hsb
      obtain ⟨hsb1, hsb2⟩ := hsb
      have hB := hbel.size
      by_cases hlt : k < len0 ∧ k < 10
      · obtain ⟨hlt1, hlt2⟩ := hlt
        have hcell := (hbel.cell (World.block_lt_of_cell? w _ (h4 k (by omega)))).trans (h4 k (by omega))
        have hb := and_lo (z0.getD k 0)
        rw [List.getD_eq_getElem?_getD] at hb
        have hl := lo_bd (z0.getD k 0)
        have Hs := Lib.hid (mm_snoc z0 k (by omega))
        rw [List.getD_eq_getElem?_getD] at Hs hl
        generalize lo (z0[k]?.getD 0) = y at *
        obtain ⟨hl1, hl2⟩ := hl
        clear h4 hml
        go_wp2_with (at_builtin; refine wpList_append_own _ rfl _ _ 27 rfl w.heap.size 3 i0 (.int .i64 0) 1 8 Try.underlying27 hi hz0 hz1 hz2 rfl (by decide) _ _ _ rfl (hown.alloc _) ⟨wr.heap.size, 0, none⟩ 1 1 [.int .i64 y] rfl rfl ?c1 ?c2 ?c3 ?c4 ?c5 ?_)
        case c1 =>
          intro j u hj
          match j, hj with
          | 0, hj => simp at hj; subst hj; simp [Addr.add]
        case c2 => intro u hu; simp at hu; subst hu; rfl
        case c3 => unfold maxLen; omega
        case c4 => omega
        case c5 => simp; omega
        intro v' w1 hown' hgrow _
        have hbel' : Below w.heap.size w w1 := (hbel.alloc (by omega) _).grown hgrow (by simp; omega) fun j hj => (hown.lt j hj).1
        have Hown := Lib.hid hown'
        clear hown' hgrow hown
        go_wp2
        go_roundw
        case rel => exact ⟨k + 1, by omega, by omega, by go_num, by rw [Hs.out, sum_snoc], by rw [Hs.out, List.map_append]; exact Hown.out, hbel'⟩
        case measure => simp [intOf]; omega
      · have hlt' : ¬ k < len0 ∨ (k < len0 ∧ ¬ k < 10) := by omega
        clear h4 hsb1 hsb2 hml
        rcases hlt' with hlt | ⟨hlt1, hlt2⟩
        all_goals

          obtain ⟨a, cp, rfl, hrow⟩ := own_row hown (mm_len z0 k (by omega))
          have Hrow := Lib.hid hrow
          have f0 := mm_bd z0 k
          have Hl := Lib.hid (mm_len z0 k (by omega))
          clear hown hrow
          generalize mm z0 k = l at *
          by_cases hM : l.sum < 2147483647
          all_goals
            first
              | (have f2 := fact2 l f0 hM
                 have f3 := fact1b l f0 hM
                 have f5 : decide (2147483647 ≤ l.sum) = false := decide_eq_false (by omega))
              | (have f3 := fact1a l f0 hM)
            clear f0
            go_wp2_with (first
              | (go_at_call 18; refine (sum_all _ _ _ l _ Hrow.out Hl.out).mono ?_; rintro e w' ⟨rfl, rfl⟩)
              | (go_at_call 10; refine (Sat.full_any _ _).mono ?_; rintro e w' ⟨rfl, rfl⟩)
              | (go_at_call 17; refine (Sat.awake_any _).mono ?_; rintro e w' ⟨rfl, rfl⟩))
            go_ret
            exact ⟨rfl, hbel.trans ((Below.refl _ _).alloc hbel.size _)⟩

/-! ### the row's step -/
set_option maxRecDepth 100000 in
theorem lifted (os : Os) (started : os.Started) (H : Type) (enc : TypeId × Value → H) :
    ReturnsInHanded {} Try.checked os 7 .any (Rows.satFullSpec.pre6 enc Try.prog Try.f7 Rows.satFullRow.domain false) (Rows.satFullSpec.post enc Try.prog Try.f7 false true false false) := by
  refine returnsInHanded_of_change (C := Try.checked) own started (by kernel_rfl) Try.func7
    (ChangeSpec.witness6 (enc := enc) (C := Try.checked) false ⟨#[], #[.slice none 0 0], []⟩ 8 (by kernel_rfl) (by kernel_rfl) (by kernel_rfl) (by kernel_rfl)) ?_
  intro W base args ds gs before hval0 hW hcnd _
  have hval : ∀ (j : Nat) t v, Try.f7.params[j]? = some t → args[j]? = some v → Value.okWide Try.prog W .any base t v := hval0
  have hW' := hW
  obtain ⟨p, q, hA0, hV, rfl, hfz, hnd⟩ := hW
  have hA : DataW.TrodAll enc Try.prog W 0 (fun _ => true) true Try.f7.params.toList args.toList ds p := hA0
  rw [Try.params7] at hA hval
  obtain ⟨v0, vs0, d0, ds0, p0, q0, hargs, rfl, rfl, h0, r0⟩ := trodAll_cons hA
  obtain ⟨rfl, rfl, rfl⟩ := trodAll_nil r0
  obtain rfl : args = #[v0] := by cases args; simp_all
  obtain ⟨rfl, rfl⟩ := trodVars_none hV
  obtain ⟨a0, len0, cap0, rfl⟩ := okWide_slice Try.underlying27 (hval 0 27 v0 rfl rfl)
  have k0 := h0
  have lt0 : ∀ x ∈ p0, x.block < W.heap.size := by obtain ⟨m, hm⟩ := k0; exact DataW.trod_lt m _ _ _ hm
  obtain ⟨z0, w0⟩ : ∃ zs, IsRow .i64 W a0 len0 cap0 zs := by
    obtain ⟨fuel, hf⟩ := h0
    rcases open_ints Try.underlying27 Try.underlying3 (by kernel_rfl) hf with ⟨hcs, _⟩ | ⟨x, l, c, zs, hcs, _, hl, hm, hz, _, hcell, hwz⟩
    · simp [Value.cells] at hcs
      obtain ⟨rfl, rfl, rfl⟩ := hcs
      exact ⟨[], .inl ⟨rfl, rfl, rfl, rfl⟩⟩
    · simp [Value.cells] at hcs
      obtain ⟨rfl, rfl, rfl⟩ := hcs
      exact ⟨zs, .inr ⟨_, rfl, hl, hm, by simpa using hz, hcell, hwz⟩⟩
  clear hA0 hval0
  refine (walk a0 len0 cap0 z0 W w0).mono fun e W' ⟨he, bel⟩ => ?_
  subst he
  exact ⟨_, rfl, _, _, _, [], _, [], hW', trodAll_mk1 (shut_bool Try.underlying4 _), (trodAll_cons_mk (Below.trod laidOut (by kernel_rfl) (of_decide_eq_true (by kernel_rfl)) k0 bel lt0) trodAll_mk0), rfl, bel.frame _, fun h => by cases h⟩

theorem over : Rows.satFullRow.holds Try.pinned (OpenSpec.ofChange Rows.satFullSpec) :=
  OpenClaim.holds_of_wide 7 Try.f7 rfl rfl rfl rfl rfl rfl rfl ⟨rfl, rfl, rfl, rfl, rfl⟩ rfl rfl rfl rfl rfl (by kernel_rfl) Try.func7 (by kernel_rfl)
    (of_decide_eq_true (by kernel_rfl)) (by unfold Func.isWrapper; first | (rw [if_pos (by decide +kernel)]; kernel_rfl) | (rw [if_neg (by decide +kernel)]; exact ⟨rfl, rfl⟩))
    (fun os started H enc _ => lifted os started H enc)

/-- the statement -/
theorem proved : Rows.SatFullSaid := over
#print axioms proved
end Go.Proofs.Ytahcnohldioniaa.satFull
