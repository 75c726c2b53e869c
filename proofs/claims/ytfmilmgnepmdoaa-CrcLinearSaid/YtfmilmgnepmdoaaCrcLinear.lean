/- CrcLinear returns true at any three slices of bytes: of three texts of one length (at most 300), laid over one another, the sum is theirs, laid over one another. No condition. -/
import Derived.Test.YtfmilmgnepmdoaaRows
import Derived.Test.YtfmilmgnepmdoaaCrcB
import Derived.Test.YtfmilmgnepmdoaaQB
import Derived.StillTailTactics
import Derived.WalkKit
import Derived.WalkLawsBesides
import Derived.ProofKit
import Derived.OpenShut
import Derived.ShutString
import Derived.ChangeOld
import Derived.Below
namespace Go.Proofs.Ytfmilmgnepmdoaa.crcLinear
open Go.ChangeShapes Go.WideShapes Go.ChangeAt Go.RowKit
set_option linter.unusedVariables false
set_option linter.unusedSimpArgs false

theorem own : ownKnob Try.prog.godebug = none := by kernel_rfl
theorem laidOut : laidOutB Try.prog = true := by kernel_rfl

/-- WHAT THE WALK IS TOLD OF A SLICE OF INTEGERS THAT CAME IN: it is nil; or it leads to a row of 'cap' cells, the numbers 'zs' (the first 'len' are its elements, the rest its spare room), each fitting its kind. -/
def IsRow (k : IntKind) (w : World) (a : Option Addr) (len cap : Nat) (zs : List Int) : Prop :=
  (a = none ∧ len = 0 ∧ cap = 0 ∧ zs = []) ∨
  ∃ x, a = some x ∧ len ≤ cap ∧ cap ≤ maxLen ∧ zs.length = cap ∧ (∀ i, i < zs.length → w.cell? (x.add i) = some (.int k (zs.getD i 0))) ∧ ∀ n ∈ zs, (Lit.int k n).wf = true

theorem chain {a b c : World} (h : Below a.heap.size a b) (k : Below b.heap.size b c) : Below a.heap.size a c := h.trans (k.mono h.size)

/-! ### the walk -/
set_option maxHeartbeats 1000000 in
theorem walk (a0 : Option Addr) (len0 cap0 : Nat) (z0 : List Int) (a1 : Option Addr) (len1 cap1 : Nat) (z1 : List Int) (a2 : Option Addr) (len2 cap2 : Nat) (z2 : List Int) (w : World) (w0 : IsRow .u8 w a0 len0 cap0 z0) (w1 : IsRow .u8 w a1 len1 cap1 z1) (w2 : IsRow .u8 w a2 len2 cap2 z2) :
    Calls Try.prog 6 #[.slice a0 len0 cap0, .slice a1 len1 cap1, .slice a2 len2 cap2] w fun e w' => e = .returned (.bool true) ∧ Below w.heap.size w w' := by
  obtain ⟨l0, rfl, hr0, hlc0, hcm0, hnil0⟩ := CrcA.row_raw w0
  obtain ⟨l1, rfl, hr1, hlc1, hcm1, hnil1⟩ := CrcA.row_raw w1
  obtain ⟨l2, rfl, hr2, hlc2, hcm2, hnil2⟩ := CrcA.row_raw w2
  have Hr0 := Lib.hid hr0
  have Hr1 := Lib.hid hr1
  have Hr2 := Lib.hid hr2
  clear w0 w1 w2 hr0 hr1 hr2 hnil0 hnil1 hnil2
  unfold maxLen at hcm0 hcm1 hcm2
  obtain ⟨n, hn⟩ : ∃ n, min (min (min l0.length l1.length) l2.length) 300 = n := ⟨_, rfl⟩
  have hmin : ∀ w : World, (Builtin.min_ #[3, 3, 3, 3] 3 #[.int .i64 (l0.length : Int), .int .i64 (l1.length : Int), .int .i64 (l2.length : Int), .int .i64 300]).run Try.prog w = .ok (.int .i64 (n : Int)) w :=
    fun w => CrcB.run_min4 (P := Try.prog) #[3, 3, 3, 3] 3 l0.length l1.length l2.length 300 n hn w
  have hn0 : n ≤ l0.length := by omega
  have hn1 : n ≤ l1.length := by omega
  have hn2 : n ≤ l2.length := by omega
  have hn3 : n ≤ 300 := by omega
  clear hn
  go_enter Try.func6, Try.ntmps6
  go_wp2_with (refine CrcB.wpList_made rfl _ _ rfl w.heap.size n _ _ rfl rfl rfl rfl (by omega) (Nat.le_refl _) ?_)
  intro w2 hown b2 hgl
  clear hmin
  go_wp2_with fail
  go_loopw [9] (fun i wr => ∃ k : Nat, k ≤ n ∧ i = .int .i64 k ∧ (∃ m, CrcB.Own w.heap.size wr (.slice (some ⟨w.heap.size, 0, none⟩) n n) m ∧ m.length = n ∧ m.take k = CrcM.over l0 l1 l2 k ∧ ∀ x ∈ m, x < 256) ∧ Below w.heap.size w wr) (fun i _ => n - (intOf i).toNat)
  case atStart => exact ⟨0, by omega, rfl, ⟨_, hown, by rw [List.length_replicate], rfl, fun x hx => by rw [(List.mem_replicate.1 hx).2]; omega⟩, b2⟩
  case round =>
    obtain ⟨k, hk, rfl, ⟨m, hm, hml, hmt, hmb⟩, hbel⟩ := hrel
    have Hm := Lib.hid hm
    have Ht := Lib.hid hmt
    have Hb := Lib.hid hmb
    clear hm hmt hmb hown
    by_cases hlt : k < n
    · have hlt0 : (k : Int) < (l0.length : Int) := by omega
      have hlt1 : (k : Int) < (l1.length : Int) := by omega
      have hlt2 : (k : Int) < (l2.length : Int) := by omega
      have hltn : (k : Int) < (n : Int) := by omega
      have hx0 := Hr0.out.lt k (by omega)
      have hx1 := Hr1.out.lt k (by omega)
      have hx2 := Hr2.out.lt k (by omega)
      obtain ⟨x0, rfl, hc0⟩ := (Hr0.out.below hbel).cells (k := k) (by omega)
      obtain ⟨x1, rfl, hc1⟩ := (Hr1.out.below hbel).cells (k := k) (by omega)
      obtain ⟨x2, rfl, hc2⟩ := (Hr2.out.below hbel).cells (k := k) (by omega)
      have he0 : wr.drew.cell? (x0.add k) = _ := hc0 k (by omega)
      have he1 : wr.drew.cell? (x1.add k) = _ := hc1 k (by omega)
      have he2 : wr.drew.cell? (x2.add k) = _ := hc2 k (by omega)
      clear hc0 hc1 hc2
      have Hs := Lib.hid (CrcM.over_set l0 l1 l2 m k (by omega) Ht.out)
      generalize l0.getD k 0 = y0 at he0 hx0 Hs
      generalize l1.getD k 0 = y1 at he1 hx1 Hs
      generalize l2.getD k 0 = y2 at he2 hx2 Hs
      have hy1 : y0 ^^^ y1 < 256 := Nat.xor_lt_two_pow (n := 8) hx0 hx1
      have hy2 : y0 ^^^ y1 ^^^ y2 < 256 := Nat.xor_lt_two_pow (n := 8) hy1 hx2
      have hb1 : bits .xor .u8 (y0 : Int) (y1 : Int) = ((y0 ^^^ y1 : Nat) : Int) := u8_xor_nat _ _ hx0 hx1
      have hb2 : bits .xor .u8 ((y0 ^^^ y1 : Nat) : Int) (y2 : Int) = ((y0 ^^^ y1 ^^^ y2 : Nat) : Int) := u8_xor_nat _ _ hy1 hx2
      generalize y0 ^^^ y1 ^^^ y2 = y3 at hb2 hy2 Hs
      generalize y0 ^^^ y1 = y4 at hb1 hb2 hy1
      obtain ⟨g, cap, e', -, hfz, hcl⟩ := CrcB.own_at Hm.out (by omega)
      simp only [Value.slice.injEq, Option.some.injEq, Addr.mk.injEq] at e'
      obtain ⟨⟨rfl, -, -⟩, -, rfl⟩ := e'
      have hcell : wr.drew.cell? ⟨w.heap.size, k, none⟩ = _ := hcl k (by omega)
      have hfrz : wr.drew.frozen? ⟨w.heap.size, k, none⟩ = _ := hfz k
      clear hfz hcl
      generalize m.getD k 0 = y5 at hcell
      have Hown : Hid (CrcB.Own w.heap.size wr.drew _ m) := Lib.hid Hm.out
      have Hbel : Hid (Below w.heap.size w wr.drew) := Lib.hid hbel.drew
      clear hbel Hm
      go_wp2_with fail
      refine QB.region_tail 17 (by kernel_rfl) (by kernel_rfl) ?_
      simp only [List.take_succ_cons, List.take_zero, List.drop_succ_cons, List.drop_zero]
      generalize wr.drew = w5 at he0 he1 he2 hcell hfrz Hown Hbel ⊢
      repeat still_step
      refine wpStill_nil ?_
      go_wp2_with fail
      go_roundw
      case rel =>
        exact ⟨k + 1, by omega, by go_num, ⟨_, CrcB.own_set_len Hown.out hml k y3 hlt, by rw [List.length_set, hml], Hs.out, CrcM.set_lt m k y3 hy2 Hb.out⟩, Hbel.out.setCell (Nat.le_refl _) _⟩
      case measure => simp [intOf]; omega
    · obtain rfl : k = n := by omega
      have hov := CrcM.crc_over l0 l1 l2 k hn0 hn1 hn2
      have hmo : m = CrcM.over l0 l1 l2 k := by rw [← Ht.out, ← hml, List.take_length]
      rw [← hmo] at hov
      obtain ⟨a3, cap3, e3, hr3⟩ := CrcB.own_row Hm.out Hb.out
      simp only [Value.slice.injEq] at e3
      obtain ⟨rfl, -, rfl⟩ := e3
      have R3 := Lib.hid hr3
      have R0 := Lib.hid (CrcB.row_take (Hr0.out.below hbel) k)
      have R1 := Lib.hid (CrcB.row_take (Hr1.out.below hbel) k)
      have R2 := Lib.hid (CrcB.row_take (Hr2.out.below hbel) k)
      have E0 := Lib.hid (show (l0.take k).length = k by rw [List.length_take]; omega)
      have E1 := Lib.hid (show (l1.take k).length = k by rw [List.length_take]; omega)
      have E2 := Lib.hid (show (l2.take k).length = k by rw [List.length_take]; omega)
      have Hml := Lib.hid hml
      have Hbel := Lib.hid hbel
      clear hr3 hmo Hm Hb Ht hml hbel
      generalize l0.take k = t0 at hov R0 E0
      generalize l1.take k = t1 at hov R1 E1
      generalize l2.take k = t2 at hov R2 E2
      have A0 := CrcM.crc_lt 65535 t0 (by decide)
      have A1 := CrcM.crc_lt 65535 t1 (by decide)
      have A2 := CrcM.crc_lt 65535 t2 (by decide)
      have hy : CrcM.crc 65535 t0 ^^^ CrcM.crc 65535 t1 < 65536 := Nat.xor_lt_two_pow (n := 16) A0 A1
      have hx1 : bits .xor .u16 (CrcM.crc 65535 t0 : Int) (CrcM.crc 65535 t1 : Int) = ((CrcM.crc 65535 t0 ^^^ CrcM.crc 65535 t1 : Nat) : Int) := u16_xor_nat _ _ A0 A1
      have hx2 : bits .xor .u16 ((CrcM.crc 65535 t0 ^^^ CrcM.crc 65535 t1 : Nat) : Int) (CrcM.crc 65535 t2 : Int) = (CrcM.crc 65535 m : Int) := by
        rw [hov]; exact u16_xor_nat _ _ hy A2
      generalize CrcM.crc 65535 t0 ^^^ CrcM.crc 65535 t1 = y4 at hx1 hx2
      clear hov hy A0 A1 A2
      have hq0 : k ≤ cap0 := by omega
      have hq1 : k ≤ cap1 := by omega
      have hq2 : k ≤ cap2 := by omega
      go_wp2_with fail
      refine QB.region_below wr.heap.size (by kernel_rfl) (by kernel_rfl) ?_
      repeat (quiet_step (first
        | (go_at_call 11; first
            | with_reducible exact QB.call_of (Nat.le_refl _) (fun b => CrcB.of_len _ k k m _ Hml.out (R3.out.below b))
            | with_reducible exact QB.call_of (Nat.le_refl _) (fun b => CrcB.of_len a0 k cap0 t0 _ E0.out (R0.out.below b))
            | with_reducible exact QB.call_of (Nat.le_refl _) (fun b => CrcB.of_len a1 k cap1 t1 _ E1.out (R1.out.below b))
            | with_reducible exact QB.call_of (Nat.le_refl _) (fun b => CrcB.of_len a2 k cap2 t2 _ E2.out (R2.out.below b)))
        | (go_at_call 8; exact QB.call_of (Nat.le_refl _) (fun b => CrcA.awake_any _))))
      refine wpQuiet_nil ?_
      intro _ hw'
      obtain ⟨p, rfl⟩ := hw'
      have Hp := Lib.hid (chain Hbel.out p.below)
      go_wp2
      go_ret
      exact ⟨rfl, Hp.out⟩

/-! ### the row's step -/
set_option maxRecDepth 100000 in
theorem lifted (os : Os) (started : os.Started) (H : Type) (enc : TypeId × Value → H) :
    ReturnsInHanded {} Try.checked os 6 .any (Rows.crcLinearSpec.pre6 enc Try.prog Try.f6 Rows.crcLinearRow.domain false) (Rows.crcLinearSpec.post enc Try.prog Try.f6 false true false false) := by
  refine returnsInHanded_of_change (C := Try.checked) own started (by kernel_rfl) Try.func6
    (ChangeSpec.witness6 (enc := enc) (C := Try.checked) false ⟨#[], #[.slice none 0 0, .slice none 0 0, .slice none 0 0], []⟩ 8 (by kernel_rfl) (by kernel_rfl) (by kernel_rfl) (by kernel_rfl)) ?_
  intro W base args ds gs before hval0 hW hcnd _
  have hval : ∀ (j : Nat) t v, Try.f6.params[j]? = some t → args[j]? = some v → Value.okWide Try.prog W .any base t v := hval0
  have hW' := hW
  obtain ⟨p, q, hA0, hV, rfl, hfz, hnd⟩ := hW
  have hA : DataW.TrodAll enc Try.prog W 0 (fun _ => true) true Try.f6.params.toList args.toList ds p := hA0
  rw [Try.params6] at hA hval
  obtain ⟨v0, vs0, d0, ds0, p0, q0, hargs, rfl, rfl, h0, r0⟩ := trodAll_cons hA
  obtain ⟨v1, vs1, d1, ds1, p1, q1, rfl, rfl, rfl, h1, r1⟩ := trodAll_cons r0
  obtain ⟨v2, vs2, d2, ds2, p2, q2, rfl, rfl, rfl, h2, r2⟩ := trodAll_cons r1
  obtain ⟨rfl, rfl, rfl⟩ := trodAll_nil r2
  obtain rfl : args = #[v0, v1, v2] := by cases args; simp_all
  obtain ⟨rfl, rfl⟩ := trodVars_none hV
  obtain ⟨a0, len0, cap0, rfl⟩ := okWide_slice Try.underlying23 (hval 0 23 v0 rfl rfl)
  have k0 := h0
  have lt0 : ∀ x ∈ p0, x.block < W.heap.size := by obtain ⟨m, hm⟩ := k0; exact DataW.trod_lt m _ _ _ hm
  obtain ⟨z0, w0⟩ : ∃ zs, IsRow .u8 W a0 len0 cap0 zs := by
    obtain ⟨fuel, hf⟩ := h0
    rcases open_ints Try.underlying23 Try.underlying5 (by kernel_rfl) hf with ⟨hcs, _⟩ | ⟨x, l, c, zs, hcs, _, hl, hm, hz, _, hcell, hwz⟩
    · simp [Value.cells] at hcs
      obtain ⟨rfl, rfl, rfl⟩ := hcs
      exact ⟨[], .inl ⟨rfl, rfl, rfl, rfl⟩⟩
    · simp [Value.cells] at hcs
      obtain ⟨rfl, rfl, rfl⟩ := hcs
      exact ⟨zs, .inr ⟨_, rfl, hl, hm, by simpa using hz, hcell, hwz⟩⟩
  obtain ⟨a1, len1, cap1, rfl⟩ := okWide_slice Try.underlying23 (hval 1 23 v1 rfl rfl)
  have k1 := h1
  have lt1 : ∀ x ∈ p1, x.block < W.heap.size := by obtain ⟨m, hm⟩ := k1; exact DataW.trod_lt m _ _ _ hm
  obtain ⟨z1, w1⟩ : ∃ zs, IsRow .u8 W a1 len1 cap1 zs := by
    obtain ⟨fuel, hf⟩ := h1
    rcases open_ints Try.underlying23 Try.underlying5 (by kernel_rfl) hf with ⟨hcs, _⟩ | ⟨x, l, c, zs, hcs, _, hl, hm, hz, _, hcell, hwz⟩
    · simp [Value.cells] at hcs
      obtain ⟨rfl, rfl, rfl⟩ := hcs
      exact ⟨[], .inl ⟨rfl, rfl, rfl, rfl⟩⟩
    · simp [Value.cells] at hcs
      obtain ⟨rfl, rfl, rfl⟩ := hcs
      exact ⟨zs, .inr ⟨_, rfl, hl, hm, by simpa using hz, hcell, hwz⟩⟩
  obtain ⟨a2, len2, cap2, rfl⟩ := okWide_slice Try.underlying23 (hval 2 23 v2 rfl rfl)
  have k2 := h2
  have lt2 : ∀ x ∈ p2, x.block < W.heap.size := by obtain ⟨m, hm⟩ := k2; exact DataW.trod_lt m _ _ _ hm
  obtain ⟨z2, w2⟩ : ∃ zs, IsRow .u8 W a2 len2 cap2 zs := by
    obtain ⟨fuel, hf⟩ := h2
    rcases open_ints Try.underlying23 Try.underlying5 (by kernel_rfl) hf with ⟨hcs, _⟩ | ⟨x, l, c, zs, hcs, _, hl, hm, hz, _, hcell, hwz⟩
    · simp [Value.cells] at hcs
      obtain ⟨rfl, rfl, rfl⟩ := hcs
      exact ⟨[], .inl ⟨rfl, rfl, rfl, rfl⟩⟩
    · simp [Value.cells] at hcs
      obtain ⟨rfl, rfl, rfl⟩ := hcs
      exact ⟨zs, .inr ⟨_, rfl, hl, hm, by simpa using hz, hcell, hwz⟩⟩
  clear hA0 hval0
  refine (walk a0 len0 cap0 z0 a1 len1 cap1 z1 a2 len2 cap2 z2 W w0 w1 w2).mono fun e W' ⟨he, bel⟩ => ?_
  subst he
  exact ⟨_, rfl, _, _, _, [], _, [], hW', trodAll_mk1 (shut_bool Try.underlying4 _), (trodAll_cons_mk (Below.trod laidOut (by kernel_rfl) (of_decide_eq_true (by kernel_rfl)) k0 bel lt0) (trodAll_cons_mk (Below.trod laidOut (by kernel_rfl) (of_decide_eq_true (by kernel_rfl)) k1 bel lt1) (trodAll_cons_mk (Below.trod laidOut (by kernel_rfl) (of_decide_eq_true (by kernel_rfl)) k2 bel lt2) trodAll_mk0))), rfl, bel.frame _, fun h => by cases h⟩

theorem over : Rows.crcLinearRow.holds Try.pinned (OpenSpec.ofChange Rows.crcLinearSpec) :=
  OpenClaim.holds_of_wide 6 Try.f6 rfl rfl rfl rfl rfl rfl rfl ⟨rfl, rfl, rfl, rfl, rfl⟩ rfl rfl rfl rfl rfl (by kernel_rfl) Try.func6 (by kernel_rfl)
    (of_decide_eq_true (by kernel_rfl)) (by unfold Func.isWrapper; first | (rw [if_pos (by decide +kernel)]; kernel_rfl) | (rw [if_neg (by decide +kernel)]; exact ⟨rfl, rfl⟩))
    (fun os started H enc _ => lifted os started H enc)

/-- the statement -/
theorem proved : Rows.CrcLinearSaid :=
  over
#print axioms proved
end Go.Proofs.Ytfmilmgnepmdoaa.crcLinear
