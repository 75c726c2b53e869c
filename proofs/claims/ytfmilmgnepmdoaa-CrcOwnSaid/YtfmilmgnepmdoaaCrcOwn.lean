/- CrcOwn returns true at any slice of bytes: at most 300 bytes with their own sum behind them have the sum 0. No condition. -/
import Derived.Test.YtfmilmgnepmdoaaRows
import Derived.Test.YtfmilmgnepmdoaaCrcB
import Derived.WalkKit
import Derived.WalkLawsBesides
import Derived.ProofKit
import Derived.OpenShut
import Derived.ShutString
import Derived.ChangeOld
import Derived.Below
namespace Go.Proofs.Ytfmilmgnepmdoaa.crcOwn
open Go.ChangeShapes Go.WideShapes Go.ChangeAt Go.RowKit
set_option linter.unusedVariables false
set_option linter.unusedSimpArgs false

theorem own : ownKnob Try.prog.godebug = none := by kernel_rfl
theorem laidOut : laidOutB Try.prog = true := by kernel_rfl

/-- WHAT THE WALK IS TOLD OF A SLICE OF INTEGERS THAT CAME IN: it is nil; or it leads to a row of 'cap' cells, the numbers 'zs' (the first 'len' are its elements, the rest its spare room), each fitting its kind. -/
def IsRow (k : IntKind) (w : World) (a : Option Addr) (len cap : Nat) (zs : List Int) : Prop :=
  (a = none ∧ len = 0 ∧ cap = 0 ∧ zs = []) ∨
  ∃ x, a = some x ∧ len ≤ cap ∧ cap ≤ maxLen ∧ zs.length = cap ∧ (∀ i, i < zs.length → w.cell? (x.add i) = some (.int k (zs.getD i 0))) ∧ ∀ n ∈ zs, (Lit.int k n).wf = true

theorem chain {a b c : World} (h : Below a.heap.size a b) (k : Below b.heap.size b c) : Below a.heap.size a c := h.trans (k.mono h.size)

/-! ### the walk -/
set_option maxHeartbeats 1000000 in
theorem walk (a0 : Option Addr) (len0 cap0 : Nat) (z0 : List Int) (w : World) (w0 : IsRow .u8 w a0 len0 cap0 z0) :
    Calls Try.prog 7 #[.slice a0 len0 cap0] w fun e w' => e = .returned (.bool true) ∧ Below w.heap.size w w' := by
  obtain ⟨l, rfl, hr, hlc, hcm, hnil⟩ := CrcA.row_raw w0
  have Hr := Lib.hid hr
  have Hn := Lib.hid hnil
  clear w0 hr hnil
  by_cases hl : 300 < l.length
  · go_enter Try.func7, Try.ntmps7
    go_wp2_with fail
    refine (CrcA.awake_any _).mono ?_
    rintro e w1 ⟨rfl, hb⟩
    go_wp2
    go_ret
    exact ⟨rfl, hb⟩
  · have HO := Lib.hid (CrcM.crc_own l)
    have hc := CrcM.crc_lt 65535 l (by decide)
    go_enter Try.func7, Try.ntmps7
    go_wp2_with fail
    refine (CrcA.of_any _ _ l _ Hr.out).mono ?_
    rintro e w1 ⟨rfl, b1⟩
    generalize CrcM.crc 65535 l = c at hc HO
    have Hr1 := Lib.hid (Hr.out.below b1)
    go_wp2_with (at_builtin; refine CrcB.wpList_copy rfl _ _ rfl rfl _ _ l rfl Hr1.out Hn.out (by omega) ?_)
    intro v w2 hown b2
    have hw : IntKind.u8.wrap (c : Int) = ((c % 256 : Nat) : Int) := by rw [IntKind.wrap_u8]; omega
    have hB := b2.size
    go_wp2_with (at_builtin; refine CrcB.wpList_more rfl _ _ rfl w1.heap.size _ l rfl (CrcB.own_below hown ((Below.refl _ _).alloc (Nat.le_refl _) _)) _ _ [c / 256, c % 256] rfl ?row ?hB ?len ?_)
    case row =>
      refine ⟨by unfold maxLen; simp, fun x hx => ?_, .inr ⟨_, rfl, fun i hi => ?_⟩⟩
      · simp only [List.mem_cons, List.not_mem_nil, or_false] at hx
        omega
      · have h2 : i = 0 ∨ i = 1 := by simp at hi; omega
        rcases h2 with rfl | rfl <;> (simp [Addr.add]; done)
    case hB => simp; omega
    case len => simp; omega
    intro v3 w3 hown3 b3
    have hlt : ∀ x ∈ l ++ [c / 256, c % 256], x < 256 := by
      intro x hx
      rcases List.mem_append.1 hx with h | h
      · exact Hr.out.2.1 x h
      · simp only [List.mem_cons, List.not_mem_nil, or_false] at h
        omega
    have hb3 : Below w.heap.size w w3 := chain b1 ((b2.alloc hB _).trans b3)
    generalize l ++ [c / 256, c % 256] = m at HO hown3 hlt
    obtain ⟨a3, cap3, rfl, hr3⟩ := CrcB.own_row hown3 hlt
    clear hown3 hown b3 hw hlt
    go_wp2_with fail
    refine (CrcA.of_any _ _ m _ hr3).mono ?_
    rintro e w4 ⟨rfl, b4⟩
    rw [HO.out]
    go_wp2_with fail
    refine (CrcA.awake_any _).mono ?_
    rintro e w5 ⟨rfl, b5⟩
    go_wp2
    go_ret
    exact ⟨rfl, chain hb3 (chain b4 b5)⟩

/-! ### the row's step -/
set_option maxRecDepth 100000 in
theorem lifted (os : Os) (started : os.Started) (H : Type) (enc : TypeId × Value → H) :
    ReturnsInHanded {} Try.checked os 7 .any (Rows.crcOwnSpec.pre6 enc Try.prog Try.f7 Rows.crcOwnRow.domain false) (Rows.crcOwnSpec.post enc Try.prog Try.f7 false true false false) := by
  refine returnsInHanded_of_change (C := Try.checked) own started (by kernel_rfl) Try.func7
    (ChangeSpec.witness6 (enc := enc) (C := Try.checked) false ⟨#[], #[.slice none 0 0], []⟩ 8 (by kernel_rfl) (by kernel_rfl) (by kernel_rfl) (by kernel_rfl)) ?_
  intro W base args ds gs before hval0 hW hcnd _
  have hval : ∀ (j : Nat) t v, Try.f7.params[j]? = some t → args[j]? = some v → Value.okWide Try.prog W .any base t v := hval0
  have hW' := hW
  obtain ⟨p, q, hA0, hV, rfl, hfz, hnd⟩ := hW
  have hA : DataW.TrodAll enc Try.prog W 0 (fun _ => true) true Try.f7.params.toList args.toList ds p := hA0
  rw [Try.params7] at hA hval
  obtain ⟨v0, vs0, d0, ds0, p0, q0, hargs, rfl, rfl, h0, r0⟩ := trodAll_cons hA
  obtain ⟨rfl, rfl, rfl⟩ := trodAll_nil r0
  obtain rfl : args = #[v0] := by cases args; simp_all
  obtain ⟨rfl, rfl⟩ := trodVars_none hV
  obtain ⟨a0, len0, cap0, rfl⟩ := okWide_slice Try.underlying23 (hval 0 23 v0 rfl rfl)
  have k0 := h0
  have lt0 : ∀ x ∈ p0, x.block < W.heap.size := by obtain ⟨m, hm⟩ := k0; exact DataW.trod_lt m _ _ _ hm
  obtain ⟨z0, w0⟩ : ∃ zs, IsRow .u8 W a0 len0 cap0 zs := by
    obtain ⟨fuel, hf⟩ := h0
    rcases open_ints Try.underlying23 Try.underlying5 (by kernel_rfl) hf with ⟨hcs, _⟩ | ⟨x, l, c, zs, hcs, _, hl, hm, hz, _, hcell, hwz⟩
    · simp [Value.cells] at hcs
      obtain ⟨rfl, rfl, rfl⟩ := hcs
      exact ⟨[], .inl ⟨rfl, rfl, rfl, rfl⟩⟩
    · simp [Value.cells] at hcs
      obtain ⟨rfl, rfl, rfl⟩ := hcs
      exact ⟨zs, .inr ⟨_, rfl, hl, hm, by simpa using hz, hcell, hwz⟩⟩
  clear hA0 hval0
  refine (walk a0 len0 cap0 z0 W w0).mono fun e W' ⟨he, bel⟩ => ?_
  subst he
  exact ⟨_, rfl, _, _, _, [], _, [], hW', trodAll_mk1 (shut_bool Try.underlying4 _), (trodAll_cons_mk (Below.trod laidOut (by kernel_rfl) (of_decide_eq_true (by kernel_rfl)) k0 bel lt0) trodAll_mk0), rfl, bel.frame _, fun h => by cases h⟩

theorem over : Rows.crcOwnRow.holds Try.pinned (OpenSpec.ofChange Rows.crcOwnSpec) :=
  OpenClaim.holds_of_wide 7 Try.f7 rfl rfl rfl rfl rfl rfl rfl ⟨rfl, rfl, rfl, rfl, rfl⟩ rfl rfl rfl rfl rfl (by kernel_rfl) Try.func7 (by kernel_rfl)
    (of_decide_eq_true (by kernel_rfl)) (by unfold Func.isWrapper; first | (rw [if_pos (by decide +kernel)]; kernel_rfl) | (rw [if_neg (by decide +kernel)]; exact ⟨rfl, rfl⟩))
    (fun os started H enc _ => lifted os started H enc)

/-- the statement -/
theorem proved : Rows.CrcOwnSaid :=
  over
#print axioms proved
end Go.Proofs.Ytfmilmgnepmdoaa.crcOwn
