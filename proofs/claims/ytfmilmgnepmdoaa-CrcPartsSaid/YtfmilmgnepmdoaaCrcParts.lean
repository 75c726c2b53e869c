/- CrcParts returns true at any slice of bytes and any slice of integers: however at most 300 bytes are cut at at most 20 places, the sum goes on. No condition. -/
import Derived.Test.YtfmilmgnepmdoaaRows
import Derived.Test.YtfmilmgnepmdoaaCrcB
import Derived.WalkKit
import Derived.WalkLawsBesides
import Derived.ProofKit
import Derived.OpenShut
import Derived.ShutString
import Derived.ChangeOld
import Derived.Below
namespace Go.Proofs.Ytfmilmgnepmdoaa.crcParts
open Go.ChangeShapes Go.WideShapes Go.ChangeAt Go.RowKit
set_option linter.unusedVariables false
set_option linter.unusedSimpArgs false

theorem own : ownKnob Try.prog.godebug = none := by kernel_rfl
theorem laidOut : laidOutB Try.prog = true := by kernel_rfl

/-- WHAT THE WALK IS TOLD OF A SLICE OF INTEGERS THAT CAME IN: it is nil; or it leads to a row of 'cap' cells, the numbers 'zs' (the first 'len' are its elements, the rest its spare room), each fitting its kind. -/
def IsRow (k : IntKind) (w : World) (a : Option Addr) (len cap : Nat) (zs : List Int) : Prop :=
  (a = none ∧ len = 0 ∧ cap = 0 ∧ zs = []) ∨
  ∃ x, a = some x ∧ len ≤ cap ∧ cap ≤ maxLen ∧ zs.length = cap ∧ (∀ i, i < zs.length → w.cell? (x.add i) = some (.int k (zs.getD i 0))) ∧ ∀ n ∈ zs, (Lit.int k n).wf = true

theorem chain {a b c : World} (h : Below a.heap.size a b) (k : Below b.heap.size b c) : Below a.heap.size a c := h.trans (k.mono h.size)

theorem ints_raw {w : World} {a : Option Addr} {len cap : Nat} {zs : List Int} (h : IsRow .i64 w a len cap zs) : len ≤ maxLen ∧ ∀ k, k < len → ∃ x, a = some x ∧ w.cell? (x.add k) = some (.int .i64 (zs.getD k 0)) := by
  rcases h with ⟨rfl, rfl, rfl, rfl⟩ | ⟨x, rfl, h1, h2, h3, h4, h5⟩
  · exact ⟨Nat.zero_le _, fun k hk => by omega⟩
  · exact ⟨by omega, fun k hk => ⟨x, rfl, h4 k (by omega)⟩⟩

/-! ### the walk -/
set_option maxHeartbeats 1000000 in
theorem walk (a0 : Option Addr) (len0 cap0 : Nat) (z0 : List Int) (a1 : Option Addr) (len1 cap1 : Nat) (z1 : List Int) (w : World) (w0 : IsRow .u8 w a0 len0 cap0 z0) (w1 : IsRow .i64 w a1 len1 cap1 z1) :
    Calls Try.prog 4 #[.slice a0 len0 cap0, .slice a1 len1 cap1] w fun e w' => e = .returned (.bool true) ∧ Below w.heap.size w w' := by
  obtain ⟨l, rfl, hr, hlc, hcm, hnil⟩ := CrcA.row_raw w0
  obtain ⟨hl1, hz⟩ := ints_raw w1
  have Hr := Lib.hid hr
  have Hn := Lib.hid hnil
  have Hz := Lib.hid hz
  clear w0 w1 hr hnil hz
  unfold maxLen at hcm hl1
  by_cases hl : 300 < l.length
  · go_enter Try.func4, Try.ntmps4
    go_wp2_with fail
    refine (CrcA.awake_any _).mono ?_
    rintro e w1 ⟨rfl, hb⟩
    go_wp2
    go_ret
    exact ⟨rfl, hb⟩

  by_cases hl2 : 20 < len1
  · have hb300 : decide ((300 : Int) < (l.length : Int)) = false := decide_eq_false (by omega)
    go_enter Try.func4, Try.ntmps4
    go_wp2_with fail
    refine (CrcA.awake_any _).mono ?_
    rintro e w1 ⟨rfl, hb⟩
    go_wp2
    go_ret
    exact ⟨rfl, hb⟩
  · have hb300 : decide ((300 : Int) < (l.length : Int)) = false := decide_eq_false (by omega)
    go_enter Try.func4, Try.ntmps4
    go_wp2_with fail
    refine (CrcB.of_len none 0 0 [] _ rfl ⟨Nat.zero_le _, by simp, .inl rfl⟩).mono ?_
    rintro e w1 ⟨rfl, b1⟩
    rw [show (CrcM.crc 65535 [] : Nat) = 65535 from rfl]
    go_wp2_with fail
    go_loopw [5, 6, 7] (fun c t i wr => ∃ k p : Nat, k ≤ len1 ∧ p ≤ l.length ∧ i = .int .i64 k ∧ t = .int .i64 p ∧ c = .int .u16 (CrcM.crc 65535 (l.take p) : Nat) ∧ Below w.heap.size w wr) (fun _ _ i _ => len1 - (intOf i).toNat)
    case atStart => exact ⟨0, 0, by omega, by omega, rfl, rfl, rfl, b1⟩
    case round =>
      obtain ⟨k, p, hk, hp, rfl, rfl, rfl, hbel⟩ := hrel
      by_cases hlt : k < len1
      · obtain ⟨x1, rfl, hcl⟩ := Hz.out k hlt
        have hcell := (hbel.cell (World.block_lt_of_cell? w _ hcl)).trans hcl
        clear hcl
        generalize z1.getD k 0 = kk at hcell
        go_wp2_with fail
        refine (CrcB.place_any _ _ _ (by omega) (by omega)).mono ?_
        rintro e w' ⟨rfl, rfl⟩
        have hq0 := Int.emod_nonneg kk (show (40 : Int) ≠ 0 by omega)
        have hq1 := Int.emod_lt_of_pos kk (show (0 : Int) < 40 by omega)
        obtain ⟨q, hq⟩ : ∃ q : Nat, kk % (40 : Int) = q := ⟨_, (Int.toNat_of_nonneg hq0).symm⟩
        rw [hq] at hq0 hq1 ⊢
        clear hq hcell
        have HS := Lib.hid (CrcB.crc_part 65535 l p q)
        have hd := CrcM.crc_lt 65535 (l.take p) (by decide)
        generalize CrcM.crc 65535 (l.take p) = d at HS hd
        have Hp := Lib.hid (CrcB.row_part (Hr.out.below hbel) p q)
        have Hpl := Lib.hid (CrcB.part_len l p q)
        by_cases hcp : cap0 = p
        · subst hcp
          go_wp2_with fail
          all_goals
            refine (CrcB.add_len d hd _ _ _ ((l.drop cap0).take q) _ (by rw [Hpl.out]; omega) (CrcB.row_nil _ _ _ (by rw [Hpl.out]; omega))).mono ?_
            rintro e w5 ⟨rfl, b5⟩
            rw [HS.out]
            go_wp2
            go_roundw
            case rel => exact ⟨k + 1, min (cap0 + q) l.length, by omega, by omega, by go_num, by (congr 1; omega), rfl, chain hbel b5⟩
            case measure => simp [intOf]; omega
        · go_wp2_with fail
          all_goals
            refine (CrcB.add_len d hd _ _ _ ((l.drop p).take q) _ (by rw [Hpl.out]; omega) Hp.out).mono ?_
            rintro e w5 ⟨rfl, b5⟩
            rw [HS.out]
            go_wp2
            go_roundw
            case rel => exact ⟨k + 1, min (p + q) l.length, by omega, by omega, by go_num, by (congr 1; omega), rfl, chain hbel b5⟩
            case measure => simp [intOf]; omega
      · obtain rfl : k = len1 := by omega
        have HS := Lib.hid (CrcB.crc_rest 65535 l p)
        have hd := CrcM.crc_lt 65535 (l.take p) (by decide)
        generalize CrcM.crc 65535 (l.take p) = d at HS hd
        have Hp := Lib.hid (CrcB.row_part (Hr.out.below hbel) p l.length)
        have Hpl := Lib.hid (CrcB.part_len l p l.length)
        by_cases hcp : cap0 = p
        · subst hcp
          go_wp2_with fail
          refine (CrcB.add_len d hd _ _ _ ((l.drop cap0).take l.length) _ (by rw [Hpl.out]; omega) (CrcB.row_nil _ _ _ (by rw [Hpl.out]; omega))).mono ?_
          rintro e w5 ⟨rfl, b5⟩
          rw [HS.out]
          go_wp2_with fail
          refine (CrcA.of_any _ _ l _ (Hr.out.below (chain hbel b5))).mono ?_
          rintro e w6 ⟨rfl, b6⟩
          go_wp2_with fail
          refine (CrcA.awake_any _).mono ?_
          rintro e w7 ⟨rfl, b7⟩
          go_wp2
          go_ret
          exact ⟨rfl, chain hbel (chain b5 (chain b6 b7))⟩
        · go_wp2_with fail
          refine (CrcB.add_len d hd _ _ _ ((l.drop p).take l.length) _ (by rw [Hpl.out]; omega) Hp.out).mono ?_
          rintro e w5 ⟨rfl, b5⟩
          rw [HS.out]
          go_wp2_with fail
          refine (CrcA.of_any _ _ l _ (Hr.out.below (chain hbel b5))).mono ?_
          rintro e w6 ⟨rfl, b6⟩
          go_wp2_with fail
          refine (CrcA.awake_any _).mono ?_
          rintro e w7 ⟨rfl, b7⟩
          go_wp2
          go_ret
          exact ⟨rfl, chain hbel (chain b5 (chain b6 b7))⟩

/-! ### the row's step -/
set_option maxRecDepth 100000 in
theorem lifted (os : Os) (started : os.Started) (H : Type) (enc : TypeId × Value → H) :
    ReturnsInHanded {} Try.checked os 4 .any (Rows.crcPartsSpec.pre6 enc Try.prog Try.f4 Rows.crcPartsRow.domain false) (Rows.crcPartsSpec.post enc Try.prog Try.f4 false true false false) := by
  refine returnsInHanded_of_change (C := Try.checked) own started (by kernel_rfl) Try.func4
    (ChangeSpec.witness6 (enc := enc) (C := Try.checked) false ⟨#[], #[.slice none 0 0, .slice none 0 0], []⟩ 8 (by kernel_rfl) (by kernel_rfl) (by kernel_rfl) (by kernel_rfl)) ?_
  intro W base args ds gs before hval0 hW hcnd _
  have hval : ∀ (j : Nat) t v, Try.f4.params[j]? = some t → args[j]? = some v → Value.okWide Try.prog W .any base t v := hval0
  have hW' := hW
  obtain ⟨p, q, hA0, hV, rfl, hfz, hnd⟩ := hW
  have hA : DataW.TrodAll enc Try.prog W 0 (fun _ => true) true Try.f4.params.toList args.toList ds p := hA0
  rw [Try.params4] at hA hval
  obtain ⟨v0, vs0, d0, ds0, p0, q0, hargs, rfl, rfl, h0, r0⟩ := trodAll_cons hA
  obtain ⟨v1, vs1, d1, ds1, p1, q1, rfl, rfl, rfl, h1, r1⟩ := trodAll_cons r0
  obtain ⟨rfl, rfl, rfl⟩ := trodAll_nil r1
  obtain rfl : args = #[v0, v1] := by cases args; simp_all
  obtain ⟨rfl, rfl⟩ := trodVars_none hV
  obtain ⟨a0, len0, cap0, rfl⟩ := okWide_slice Try.underlying23 (hval 0 23 v0 rfl rfl)
  have k0 := h0
  have lt0 : ∀ x ∈ p0, x.block < W.heap.size := by obtain ⟨m, hm⟩ := k0; exact DataW.trod_lt m _ _ _ hm
  obtain ⟨z0, w0⟩ : ∃ zs, IsRow .u8 W a0 len0 cap0 zs := by
    obtain ⟨fuel, hf⟩ := h0
    rcases open_ints Try.underlying23 Try.underlying5 (by kernel_rfl) hf with ⟨hcs, _⟩ | ⟨x, l, c, zs, hcs, _, hl, hm, hz, _, hcell, hwz⟩
    · simp [Value.cells] at hcs
      obtain ⟨rfl, rfl, rfl⟩ := hcs
      exact ⟨[], .inl ⟨rfl, rfl, rfl, rfl⟩⟩
    · simp [Value.cells] at hcs
      obtain ⟨rfl, rfl, rfl⟩ := hcs
      exact ⟨zs, .inr ⟨_, rfl, hl, hm, by simpa using hz, hcell, hwz⟩⟩
  obtain ⟨a1, len1, cap1, rfl⟩ := okWide_slice Try.underlying28 (hval 1 28 v1 rfl rfl)
  have k1 := h1
  have lt1 : ∀ x ∈ p1, x.block < W.heap.size := by obtain ⟨m, hm⟩ := k1; exact DataW.trod_lt m _ _ _ hm
  obtain ⟨z1, w1⟩ : ∃ zs, IsRow .i64 W a1 len1 cap1 zs := by
    obtain ⟨fuel, hf⟩ := h1
    rcases open_ints Try.underlying28 Try.underlying3 (by kernel_rfl) hf with ⟨hcs, _⟩ | ⟨x, l, c, zs, hcs, _, hl, hm, hz, _, hcell, hwz⟩
    · simp [Value.cells] at hcs
      obtain ⟨rfl, rfl, rfl⟩ := hcs
      exact ⟨[], .inl ⟨rfl, rfl, rfl, rfl⟩⟩
    · simp [Value.cells] at hcs
      obtain ⟨rfl, rfl, rfl⟩ := hcs
      exact ⟨zs, .inr ⟨_, rfl, hl, hm, by simpa using hz, hcell, hwz⟩⟩
  clear hA0 hval0
  refine (walk a0 len0 cap0 z0 a1 len1 cap1 z1 W w0 w1).mono fun e W' ⟨he, bel⟩ => ?_
  subst he
  exact ⟨_, rfl, _, _, _, [], _, [], hW', trodAll_mk1 (shut_bool Try.underlying4 _), (trodAll_cons_mk (Below.trod laidOut (by kernel_rfl) (of_decide_eq_true (by kernel_rfl)) k0 bel lt0) (trodAll_cons_mk (Below.trod laidOut (by kernel_rfl) (of_decide_eq_true (by kernel_rfl)) k1 bel lt1) trodAll_mk0)), rfl, bel.frame _, fun h => by cases h⟩

theorem over : Rows.crcPartsRow.holds Try.pinned (OpenSpec.ofChange Rows.crcPartsSpec) :=
  OpenClaim.holds_of_wide 4 Try.f4 rfl rfl rfl rfl rfl rfl rfl ⟨rfl, rfl, rfl, rfl, rfl⟩ rfl rfl rfl rfl rfl (by kernel_rfl) Try.func4 (by kernel_rfl)
    (of_decide_eq_true (by kernel_rfl)) (by unfold Func.isWrapper; first | (rw [if_pos (by decide +kernel)]; kernel_rfl) | (rw [if_neg (by decide +kernel)]; exact ⟨rfl, rfl⟩))
    (fun os started H enc _ => lifted os started H enc)

/-- the statement -/
theorem proved : Rows.CrcPartsSaid :=
  over
#print axioms proved
end Go.Proofs.Ytfmilmgnepmdoaa.crcParts
