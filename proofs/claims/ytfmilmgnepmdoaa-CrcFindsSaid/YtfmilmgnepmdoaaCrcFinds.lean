/- CrcFinds returns true at any slice of bytes and any three integers: of at most 300 bytes, with three turns of a bit (one or three bits changed), the sum is another one. No condition. -/
import Derived.Test.YtfmilmgnepmdoaaRows
import Derived.Test.YtfmilmgnepmdoaaCrcB
import Derived.WalkKit
import Derived.WalkLawsBesides
import Derived.ProofKit
import Derived.OpenShut
import Derived.ShutString
import Derived.ChangeOld
import Derived.Below
namespace Go.Proofs.Ytfmilmgnepmdoaa.crcFinds
open Go.ChangeShapes Go.WideShapes Go.ChangeAt Go.RowKit
set_option linter.unusedVariables false
set_option linter.unusedSimpArgs false

theorem own : ownKnob Try.prog.godebug = none := by kernel_rfl
theorem laidOut : laidOutB Try.prog = true := by kernel_rfl

/-- WHAT THE WALK IS TOLD OF A SLICE OF INTEGERS THAT CAME IN: it is nil; or it leads to a row of 'cap' cells, the numbers 'zs' (the first 'len' are its elements, the rest its spare room), each fitting its kind. -/
def IsRow (k : IntKind) (w : World) (a : Option Addr) (len cap : Nat) (zs : List Int) : Prop :=
  (a = none ∧ len = 0 ∧ cap = 0 ∧ zs = []) ∨
  ∃ x, a = some x ∧ len ≤ cap ∧ cap ≤ maxLen ∧ zs.length = cap ∧ (∀ i, i < zs.length → w.cell? (x.add i) = some (.int k (zs.getD i 0))) ∧ ∀ n ∈ zs, (Lit.int k n).wf = true

theorem chain {a b c : World} (h : Below a.heap.size a b) (k : Below b.heap.size b c) : Below a.heap.size a c := h.trans (k.mono h.size)

/-! ### the walk -/
set_option maxHeartbeats 1000000 in
theorem walk (a0 : Option Addr) (len0 cap0 : Nat) (z0 : List Int) (a1 : Int) (a2 : Int) (a3 : Int) (w : World) (w0 : IsRow .u8 w a0 len0 cap0 z0) (w1 : (Lit.int .i64 a1).wf = true) (w2 : (Lit.int .i64 a2).wf = true) (w3 : (Lit.int .i64 a3).wf = true) :
    Calls Try.prog 5 #[.slice a0 len0 cap0, .int .i64 a1, .int .i64 a2, .int .i64 a3] w fun e w' => e = .returned (.bool true) ∧ Below w.heap.size w w' := by
  obtain ⟨l, rfl, hr, hlc, hcm, hnil⟩ := CrcA.row_raw w0
  have Hr := Lib.hid hr
  have Hn := Lib.hid hnil
  clear w0 hr hnil
  by_cases h0 : l.length = 0
  · have hl0 : ((l.length : Int) == 0) = true := by rw [beq_iff_eq]; omega
    clear h0
    go_enter Try.func5, Try.ntmps5
    go_wp2_with fail
    refine (CrcA.awake_any _).mono ?_
    rintro e w1 ⟨rfl, hb⟩
    go_wp2
    go_ret
    exact ⟨rfl, hb⟩

  have hl0 : ((l.length : Int) == 0) = false := by rw [beq_eq_false_iff_ne]; omega
  by_cases hl : 300 < l.length
  · go_enter Try.func5, Try.ntmps5
    go_wp2_with fail
    refine (CrcA.awake_any _).mono ?_
    rintro e w1 ⟨rfl, hb⟩
    go_wp2
    go_ret
    exact ⟨rfl, hb⟩
  · go_enter Try.func5, Try.ntmps5
    go_wp2_with (at_builtin; refine CrcB.wpList_copy rfl _ _ rfl rfl _ _ l rfl Hr.out Hn.out (by omega) ?_)
    intro v w2 hown bb2
    obtain ⟨g, cap, rfl, hg, -, -⟩ := CrcB.own_at hown (by omega)
    have hgl := hown.lt g rfl
    have hB2 := bb2.size
    obtain ⟨hgl1, hgl2⟩ := hgl
    go_wp2_with fail
    have hks : ∀ j, j < 3 → (w2.alloc (.cells #[.int .i64 a1, .int .i64 a2, .int .i64 a3] 3)).cell? ⟨w2.heap.size, j, none⟩ = some (.int .i64 ([a1, a2, a3].getD j 0)) := by
      intro j hj
      have h3 : j = 0 ∨ j = 1 ∨ j = 2 := by omega
      rcases h3 with rfl | rfl | rfl <;> (simp; done)
    have hown2 := CrcB.own_below hown ((Below.refl w2.heap.size w2).alloc (Nat.le_refl _) (.cells #[.int .i64 a1, .int .i64 a2, .int .i64 a3] 3))
    have hbb : Below w.heap.size w (w2.alloc (.cells #[.int .i64 a1, .int .i64 a2, .int .i64 a3] 3)) := bb2.alloc hB2 _
    generalize [a1, a2, a3] = ks at hks
    generalize hW3 : w2.alloc (.cells #[.int .i64 a1, .int .i64 a2, .int .i64 a3] 3) = w3 at hks hown2 hbb ⊢
    clear hW3 hown
    have Hk := Lib.hid hks
    clear hks
    go_loopw [29] (fun i wr => ∃ j : Nat, j ≤ 3 ∧ i = .int .i64 j ∧ (∃ m, CrcB.Own w.heap.size wr (.slice (some ⟨g, 0, none⟩) l.length cap) m ∧ m.length = l.length ∧ (∀ x ∈ m, x < 256) ∧ CrcM.parL m = if j % 2 = 1 then !CrcM.parL l else CrcM.parL l) ∧
      Below w.heap.size w wr ∧ ∀ j, j < 3 → wr.cell? ⟨w2.heap.size, j, none⟩ = some (.int .i64 (ks.getD j 0))) (fun i _ => 3 - (intOf i).toNat)
    case atStart => exact ⟨0, by omega, rfl, ⟨l, hown2, rfl, Hr.out.2.1, rfl⟩, hbb, Hk.out⟩
    case round =>
      obtain ⟨j, hj, rfl, ⟨m, hm, hml, hmb, hmp⟩, hbel, hkc⟩ := hrel
      have hbs := hbel.size
      have Hm := Lib.hid hm
      have Hp := Lib.hid hmp
      have Hb := Lib.hid hmb
      clear hm hmp hmb
      by_cases hlt : j < 3
      · have hcell := hkc j hlt
        have Hkc := Lib.hid hkc
        clear hkc
        generalize ks.getD j 0 = kk at hcell
        go_wp2_with fail
        refine (CrcB.place_any _ _ _ (by omega) (by omega)).mono ?_
        rintro e w' ⟨rfl, rfl⟩
        have hq0 := Int.emod_nonneg kk (show (8 * (l.length : Int)) ≠ 0 by omega)
        have hq1 := Int.emod_lt_of_pos kk (show 0 < 8 * (l.length : Int) by omega)
        obtain ⟨q, hq⟩ : ∃ q : Nat, kk % (8 * (l.length : Int)) = q := ⟨_, (Int.toNat_of_nonneg hq0).symm⟩
        rw [hq] at hq0 hq1 ⊢
        clear hq hcell
        have hqn : q / 8 < l.length := by omega
        obtain ⟨g', cap', e', hg', hfz, hcl⟩ := CrcB.own_at Hm.out (by rw [hml]; omega)
        simp only [Value.slice.injEq, Option.some.injEq, Addr.mk.injEq] at e'
        obtain ⟨⟨rfl, -, -⟩, -, rfl⟩ := e'
        have hcell := hcl (q / 8) (by omega)
        have hfrz := hfz (q / 8)
        clear hfz hcl
        have hyb : m.getD (q / 8) 0 < 256 := by
          rw [List.getD_eq_getElem?_getD, List.getElem?_eq_getElem (by omega)]; exact Hb.out _ (List.getElem_mem _)
        generalize hy : m.getD (q / 8) 0 = y at hcell hyb
        have Hy := Lib.hid hy
        have hbits := CrcB.turn_bits y q hyb
        have Ht := Lib.hid (CrcB.own_turn Hm.out hml q y hqn hy)
        clear hy hyb
        go_wp2_with fail
        go_roundw
        case rel =>
          refine ⟨j + 1, by omega, by go_num, ⟨CrcM.turn m q, ?_, by rw [CrcM.turn_len, hml], CrcM.turn_lt m q Hb.out, ?_⟩, hbel.setCell hg' _, fun i hi => ?_⟩
          · first | exact Ht.out | (rw [hbits]; exact Ht.out)
          · rw [CrcM.turn_par m q (by omega), Hp.out]
            by_cases ho : j % 2 = 1
            · rw [if_pos ho, if_neg (by omega), Bool.not_not]
            · rw [if_neg ho, if_pos (by omega)]
          · rw [← Hkc.out i hi]
            exact World.cell?_of_block (Below.heap_setCell _ _ _ _ (by show w2.heap.size ≠ g; omega))
        case measure => simp [intOf]; omega
      · obtain rfl : j = 3 := by omega
        obtain ⟨hne, hcr⟩ := CrcM.turned l m Hp.out Hr.out.2.1 Hb.out
        obtain ⟨a3, cap3, e3, hr3⟩ := CrcB.own_row Hm.out Hb.out
        simp only [Value.slice.injEq] at e3
        obtain ⟨rfl, -, rfl⟩ := e3
        have hcr2 : ((CrcM.crc 65535 m : Int) == (CrcM.crc 65535 l : Int)) = false := by rw [beq_eq_false_iff_ne]; omega
        have HN := Lib.hid hne.symm
        have Hr3 := Lib.hid hr3
        have Hml := Lib.hid hml
        clear hcr hr3 hne Hm Hb Hp hown2 hkc hml
        go_wp2_with fail
        refine (CrcB.of_len _ _ _ m _ Hml.out Hr3.out).mono ?_
        rintro e w4 ⟨rfl, b4⟩
        go_wp2_with fail
        refine (CrcA.of_any _ _ l _ (Hr.out.below (chain hbel b4))).mono ?_
        rintro e w5 ⟨rfl, b5⟩
        go_wp2_with fail
        refine (CrcB.differ_len _ _ _ _ _ m l _ Hml.out rfl (Hr3.out.below (chain b4 b5)) (Hr.out.below (chain hbel (chain b4 b5))) HN.out).mono ?_
        rintro e w6 ⟨rfl, b6⟩
        go_wp2_with fail
        refine (CrcA.awake_any _).mono ?_
        rintro e w7 ⟨rfl, b7⟩
        go_wp2
        go_ret
        exact ⟨rfl, chain hbel (chain b4 (chain b5 (chain b6 b7)))⟩

/-! ### the row's step -/
set_option maxRecDepth 100000 in
theorem lifted (os : Os) (started : os.Started) (H : Type) (enc : TypeId × Value → H) :
    ReturnsInHanded {} Try.checked os 5 .any (Rows.crcFindsSpec.pre6 enc Try.prog Try.f5 Rows.crcFindsRow.domain false) (Rows.crcFindsSpec.post enc Try.prog Try.f5 false true false false) := by
  refine returnsInHanded_of_change (C := Try.checked) own started (by kernel_rfl) Try.func5
    (ChangeSpec.witness6 (enc := enc) (C := Try.checked) false ⟨#[], #[.slice none 0 0, .int .i64 0, .int .i64 0, .int .i64 0], []⟩ 8 (by kernel_rfl) (by kernel_rfl) (by kernel_rfl) (by kernel_rfl)) ?_
  intro W base args ds gs before hval0 hW hcnd _
  have hval : ∀ (j : Nat) t v, Try.f5.params[j]? = some t → args[j]? = some v → Value.okWide Try.prog W .any base t v := hval0
  have hW' := hW
  obtain ⟨p, q, hA0, hV, rfl, hfz, hnd⟩ := hW
  have hA : DataW.TrodAll enc Try.prog W 0 (fun _ => true) true Try.f5.params.toList args.toList ds p := hA0
  rw [Try.params5] at hA hval
  obtain ⟨v0, vs0, d0, ds0, p0, q0, hargs, rfl, rfl, h0, r0⟩ := trodAll_cons hA
  obtain ⟨v1, vs1, d1, ds1, p1, q1, rfl, rfl, rfl, h1, r1⟩ := trodAll_cons r0
  obtain ⟨v2, vs2, d2, ds2, p2, q2, rfl, rfl, rfl, h2, r2⟩ := trodAll_cons r1
  obtain ⟨v3, vs3, d3, ds3, p3, q3, rfl, rfl, rfl, h3, r3⟩ := trodAll_cons r2
  obtain ⟨rfl, rfl, rfl⟩ := trodAll_nil r3
  obtain rfl : args = #[v0, v1, v2, v3] := by cases args; simp_all
  obtain ⟨rfl, rfl⟩ := trodVars_none hV
  obtain ⟨a0, len0, cap0, rfl⟩ := okWide_slice Try.underlying23 (hval 0 23 v0 rfl rfl)
  have k0 := h0
  have lt0 : ∀ x ∈ p0, x.block < W.heap.size := by obtain ⟨m, hm⟩ := k0; exact DataW.trod_lt m _ _ _ hm
  obtain ⟨z0, w0⟩ : ∃ zs, IsRow .u8 W a0 len0 cap0 zs := by
    obtain ⟨fuel, hf⟩ := h0
    rcases open_ints Try.underlying23 Try.underlying5 (by kernel_rfl) hf with ⟨hcs, _⟩ | ⟨x, l, c, zs, hcs, _, hl, hm, hz, _, hcell, hwz⟩
    · simp [Value.cells] at hcs
      obtain ⟨rfl, rfl, rfl⟩ := hcs
      exact ⟨[], .inl ⟨rfl, rfl, rfl, rfl⟩⟩
    · simp [Value.cells] at hcs
      obtain ⟨rfl, rfl, rfl⟩ := hcs
      exact ⟨zs, .inr ⟨_, rfl, hl, hm, by simpa using hz, hcell, hwz⟩⟩
  obtain ⟨a1, rfl, rfl, rfl, w1⟩ := open_int Try.underlying3 (hval 1 3 v1 rfl rfl) h1
  obtain ⟨a2, rfl, rfl, rfl, w2⟩ := open_int Try.underlying3 (hval 2 3 v2 rfl rfl) h2
  obtain ⟨a3, rfl, rfl, rfl, w3⟩ := open_int Try.underlying3 (hval 3 3 v3 rfl rfl) h3
  clear hA0 hval0
  refine (walk a0 len0 cap0 z0 a1 a2 a3 W w0 w1 w2 w3).mono fun e W' ⟨he, bel⟩ => ?_
  subst he
  exact ⟨_, rfl, _, _, _, [], _, [], hW', trodAll_mk1 (shut_bool Try.underlying4 _), (trodAll_cons_mk (Below.trod laidOut (by kernel_rfl) (of_decide_eq_true (by kernel_rfl)) k0 bel lt0) (trodAll_cons_mk (shut_int Try.underlying3 w1) (trodAll_cons_mk (shut_int Try.underlying3 w2) (trodAll_cons_mk (shut_int Try.underlying3 w3) trodAll_mk0)))), rfl, bel.frame _, fun h => by cases h⟩

theorem over : Rows.crcFindsRow.holds Try.pinned (OpenSpec.ofChange Rows.crcFindsSpec) :=
  OpenClaim.holds_of_wide 5 Try.f5 rfl rfl rfl rfl rfl rfl rfl ⟨rfl, rfl, rfl, rfl, rfl⟩ rfl rfl rfl rfl rfl (by kernel_rfl) Try.func5 (by kernel_rfl)
    (of_decide_eq_true (by kernel_rfl)) (by unfold Func.isWrapper; first | (rw [if_pos (by decide +kernel)]; kernel_rfl) | (rw [if_neg (by decide +kernel)]; exact ⟨rfl, rfl⟩))
    (fun os started H enc _ => lifted os started H enc)

/-- the statement -/
theorem proved : Rows.CrcFindsSaid :=
  over
#print axioms proved
end Go.Proofs.Ytfmilmgnepmdoaa.crcFinds
