/- WirePuts returns true at any slice of bytes, any two ints and any float: Put and PutFloat answer as the document's own do behind at most 100 bytes, and leave their argument as it was. No condition. -/
import Derived.Test.YtmffgdgnaafbpaaRows
import Derived.Test.YtmffgdgnaafbpaaWa
import Derived.WalkKit
import Derived.WalkLawsBesides
import Derived.ProofKit
import Derived.OpenShut
import Derived.ShutString
import Derived.ChangeOld
import Derived.Below
namespace Go.Proofs.Ytmffgdgnaafbpaa.wirePuts
open Go.ChangeShapes Go.WideShapes Go.ChangeAt Go.RowKit
open B Put Rd Nx Nm
set_option linter.unusedVariables false
set_option linter.unusedSimpArgs false

theorem own : ownKnob Try.prog.godebug = none := by kernel_rfl
theorem laidOut : laidOutB Try.prog = true := by kernel_rfl

/-- WHAT THE WALK IS TOLD OF A SLICE OF INTEGERS THAT CAME IN: it is nil; or it leads to a row of 'cap' cells, the numbers 'zs' (the first 'len' are its elements, the rest its spare room), each fitting its kind. -/
def IsRow (k : IntKind) (w : World) (a : Option Addr) (len cap : Nat) (zs : List Int) : Prop :=
  (a = none ∧ len = 0 ∧ cap = 0 ∧ zs = []) ∨
  ∃ x, a = some x ∧ len ≤ cap ∧ cap ≤ maxLen ∧ zs.length = cap ∧ (∀ i, i < zs.length → w.cell? (x.add i) = some (.int k (zs.getD i 0))) ∧ ∀ n ∈ zs, (Lit.int k n).wf = true

theorem chain {a b c : World} (h : Below a.heap.size a b) (k : Below b.heap.size b c) : Below a.heap.size a c := h.trans (k.mono h.size)

/-! ### the walk -/
set_option maxHeartbeats 1000000 in
theorem walk (a0 : Option Addr) (len0 cap0 : Nat) (z0 : List Int) (a1 : Int) (a2 : Int) (a3 : Nat) (w : World) (w0 : IsRow .u8 w a0 len0 cap0 z0) (w1 : (Lit.int .i64 a1).wf = true) (w2 : (Lit.int .i64 a2).wf = true) (w3 : (Lit.float .f64 a3).wf = true) :
    Calls Try.prog 3 #[.slice a0 len0 cap0, .int .i64 a1, .int .i64 a2, .float .f64 a3] w fun e w' => e = .returned (.bool true) ∧ Below w.heap.size w w' := by
  obtain ⟨l, rfl, hr, hlc, hcm, hnil⟩ := B.row_raw w0
  have Hr := Lib.hid hr
  have Hn := Lib.hid hnil
  clear w0 hr hnil
  by_cases hl : 100 < l.length
  · go_enter Try.func3, Try.ntmps3
    go_wp2_with fail
    refine (Wa.awake_any _).mono ?_
    rintro e w1 ⟨rfl, hb⟩
    go_wp2
    go_ret
    exact ⟨rfl, hb⟩
  · have Hm1 : Hid (∀ x ∈ l ++ low (lim a1 8) a2, x < 256) := fun x hx => (List.mem_append.1 hx).elim (Hr.out.2.1 x) (low_lt _ _ x)
    have Hm2 : Hid (∀ x ∈ l ++ low 8 a3, x < 256) := fun x hx => (List.mem_append.1 hx).elim (Hr.out.2.1 x) (low_lt _ _ x)
    go_enter Try.func3, Try.ntmps3
    go_wp2_with (at_builtin; refine wpList_copy rfl _ _ rfl rfl _ _ l rfl Hr.out Hn.out (by omega) ?_)
    intro v1 w1 hown1 hb1
    obtain ⟨b1, c1, rfl, hr1⟩ := own_row hown1 Hr.out.2.1
    have R1 := Lib.hid hr1
    have B1 := Lib.hid hb1
    clear hown1 hr1 hb1
    go_wp2_with fail
    refine (put_any a0 cap0 l a1 a2 _ (Hr.out.below B1.out) (by omega)).mono ?_
    rintro e w2 ⟨v2, rfl, hown2, hb2⟩
    obtain ⟨b2, c2, rfl, hr2⟩ := own_row hown2 Hm1.out
    have R2 := Lib.hid hr2
    have B2 := Lib.hid (chain B1.out hb2)
    have E2 := Lib.hid hb2
    clear hown2 hr2 hb2
    generalize hm1 : l ++ low (lim a1 8) a2 = m1 at R2
    have HM1 := Lib.hid hm1
    clear hm1
    go_wp2_with fail
    refine (putf_any a0 cap0 l a3 _ (Hr.out.below B2.out) (by omega)).mono ?_
    rintro e w3 ⟨v3, rfl, hown3, hb3⟩
    obtain ⟨b3, c3, rfl, hr3⟩ := own_row hown3 Hm2.out
    have R3 := Lib.hid hr3
    have B3 := Lib.hid (chain B2.out hb3)
    have E3 := Lib.hid hb3
    clear hown3 hr3 hb3
    generalize hm2 : l ++ low 8 a3 = m2 at R3
    have HM2 := Lib.hid hm2
    clear hm2
    go_wp2_with fail
    refine (ref_put_any a0 cap0 l a1 a2 _ (Hr.out.below B3.out) (by omega) Hn.out).mono ?_
    rintro e w4 ⟨v4, rfl, hown4, hb4⟩
    obtain ⟨b4, c4, rfl, hr4⟩ := own_row hown4 Hm1.out
    have R4 := Lib.hid hr4
    have B4 := Lib.hid (chain B3.out hb4)
    have E4 := Lib.hid hb4
    clear hown4 hr4 hb4
    rw [HM1.out] at R4
    try rw [HM1.out]
    have R2b := Lib.hid ((R2.out.below E3.out).below E4.out)
    go_wp2_with fail
    refine (same_any b2 b4 c2 c4 m1 _ R2b.out R4.out).mono ?_
    rintro e w5 ⟨rfl, hb5⟩
    have B5 := Lib.hid (chain B4.out hb5)
    have E5 := Lib.hid hb5
    clear hb5
    go_wp2_with fail
    refine (ref_putf_any a0 cap0 l a3 _ (Hr.out.below B5.out) (by omega) Hn.out).mono ?_
    rintro e w6 ⟨v6, rfl, hown6, hb6⟩
    obtain ⟨b6, c6, rfl, hr6⟩ := own_row hown6 Hm2.out
    have R6 := Lib.hid hr6
    have B6 := Lib.hid (chain B5.out hb6)
    have E6 := Lib.hid hb6
    clear hown6 hr6 hb6
    rw [HM2.out] at R6
    try rw [HM2.out]
    have R3b := Lib.hid (((R3.out.below E4.out).below E5.out).below E6.out)
    go_wp2_with fail
    refine (same_any b3 b6 c3 c6 m2 _ R3b.out R6.out).mono ?_
    rintro e w7 ⟨rfl, hb7⟩
    have B7 := Lib.hid (chain B6.out hb7)
    have E7 := Lib.hid hb7
    clear hb7
    have R1b := Lib.hid ((((((R1.out.below E2.out).below E3.out).below E4.out).below E5.out).below E6.out).below E7.out)
    go_wp2_with fail
    refine (same_any a0 b1 cap0 c1 l _ (Hr.out.below B7.out) R1b.out).mono ?_
    rintro e w8 ⟨rfl, hb8⟩
    have B8 := Lib.hid (chain B7.out hb8)
    clear hb8
    go_wp2_with fail
    refine (Wa.awake_any _).mono ?_
    rintro e w9 ⟨rfl, hb9⟩
    have B9 := Lib.hid (chain B8.out hb9)
    clear hb9
    go_wp2
    go_ret
    exact ⟨rfl, B9.out⟩

/-! ### the row's step -/
set_option maxRecDepth 100000 in
theorem lifted (os : Os) (started : os.Started) (H : Type) (enc : TypeId × Value → H) :
    ReturnsInHanded {} Try.checked os 3 .any (Rows.wirePutsSpec.pre6 enc Try.prog Try.f3 Rows.wirePutsRow.domain false) (Rows.wirePutsSpec.post enc Try.prog Try.f3 false true false false) := by
  refine returnsInHanded_of_change (C := Try.checked) own started (by kernel_rfl) Try.func3
    (ChangeSpec.witness6 (enc := enc) (C := Try.checked) false ⟨#[], #[.slice none 0 0, .int .i64 0, .int .i64 0, .float .f64 0], []⟩ 8 (by kernel_rfl) (by kernel_rfl) (by kernel_rfl) (by kernel_rfl)) ?_
  intro W base args ds gs before hval0 hW hcnd _
  have hval : ∀ (j : Nat) t v, Try.f3.params[j]? = some t → args[j]? = some v → Value.okWide Try.prog W .any base t v := hval0
  have hW' := hW
  obtain ⟨p, q, hA0, hV, rfl, hfz, hnd⟩ := hW
  have hA : DataW.TrodAll enc Try.prog W 0 (fun _ => true) true Try.f3.params.toList args.toList ds p := hA0
  rw [Try.params3] at hA hval
  obtain ⟨v0, vs0, d0, ds0, p0, q0, hargs, rfl, rfl, h0, r0⟩ := trodAll_cons hA
  obtain ⟨v1, vs1, d1, ds1, p1, q1, rfl, rfl, rfl, h1, r1⟩ := trodAll_cons r0
  obtain ⟨v2, vs2, d2, ds2, p2, q2, rfl, rfl, rfl, h2, r2⟩ := trodAll_cons r1
  obtain ⟨v3, vs3, d3, ds3, p3, q3, rfl, rfl, rfl, h3, r3⟩ := trodAll_cons r2
  obtain ⟨rfl, rfl, rfl⟩ := trodAll_nil r3
  obtain rfl : args = #[v0, v1, v2, v3] := by cases args; simp_all
  obtain ⟨rfl, rfl⟩ := trodVars_none hV
  obtain ⟨a0, len0, cap0, rfl⟩ := okWide_slice Try.underlying22 (hval 0 22 v0 rfl rfl)
  have k0 := h0
  have lt0 : ∀ x ∈ p0, x.block < W.heap.size := by obtain ⟨m, hm⟩ := k0; exact DataW.trod_lt m _ _ _ hm
  obtain ⟨z0, w0⟩ : ∃ zs, IsRow .u8 W a0 len0 cap0 zs := by
    obtain ⟨fuel, hf⟩ := h0
    rcases open_ints Try.underlying22 Try.underlying5 (by kernel_rfl) hf with ⟨hcs, _⟩ | ⟨x, l, c, zs, hcs, _, hl, hm, hz, _, hcell, hwz⟩
    · simp [Value.cells] at hcs
      obtain ⟨rfl, rfl, rfl⟩ := hcs
      exact ⟨[], .inl ⟨rfl, rfl, rfl, rfl⟩⟩
    · simp [Value.cells] at hcs
      obtain ⟨rfl, rfl, rfl⟩ := hcs
      exact ⟨zs, .inr ⟨_, rfl, hl, hm, by simpa using hz, hcell, hwz⟩⟩
  obtain ⟨a1, rfl, rfl, rfl, w1⟩ := open_int Try.underlying3 (hval 1 3 v1 rfl rfl) h1
  obtain ⟨a2, rfl, rfl, rfl, w2⟩ := open_int Try.underlying3 (hval 2 3 v2 rfl rfl) h2
  obtain ⟨a3, rfl, rfl, rfl, w3⟩ := open_float Try.underlying23 (hval 3 23 v3 rfl rfl) h3
  clear hA0 hval0
  refine (walk a0 len0 cap0 z0 a1 a2 a3 W w0 w1 w2 w3).mono fun e W' ⟨he, bel⟩ => ?_
  subst he
  exact ⟨_, rfl, _, _, _, [], _, [], hW', trodAll_mk1 (shut_bool Try.underlying4 _), (trodAll_cons_mk (Below.trod laidOut (by kernel_rfl) (of_decide_eq_true (by kernel_rfl)) k0 bel lt0) (trodAll_cons_mk (shut_int Try.underlying3 w1) (trodAll_cons_mk (shut_int Try.underlying3 w2) (trodAll_cons_mk (shut_float Try.underlying23 w3) trodAll_mk0)))), rfl, bel.frame _, fun h => by cases h⟩

theorem over : Rows.wirePutsRow.holds Try.pinned (OpenSpec.ofChange Rows.wirePutsSpec) :=
  OpenClaim.holds_of_wide 3 Try.f3 rfl rfl rfl rfl rfl rfl rfl ⟨rfl, rfl, rfl, rfl, rfl⟩ rfl rfl rfl rfl rfl (by kernel_rfl) Try.func3 (by kernel_rfl)
    (of_decide_eq_true (by kernel_rfl)) (by unfold Func.isWrapper; first | (rw [if_pos (by decide +kernel)]; kernel_rfl) | (rw [if_neg (by decide +kernel)]; exact ⟨rfl, rfl⟩))
    (fun os started H enc _ => lifted os started H enc)

/-- the statement -/
theorem proved : Rows.WirePutsSaid :=
  over
#print axioms proved
end Go.Proofs.Ytmffgdgnaafbpaa.wirePuts
