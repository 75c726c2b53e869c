/- CodeAll returns true at any table: Encode of package code answers as the document's own answer does, byte by byte. No condition. -/
import Derived.Test.YtpgoafbkjmmedaaGreatRows
import Derived.Test.YtpgoafbkjmmedaaGreatPart05
import Derived.Test.YtpgoafbkjmmedaaGreatPart06
import Derived.Test.YtpgoafbkjmmedaaGreatPart04
import Derived.WalkKit
import Derived.WalkLawsBesides
import Derived.ProofKit
import Derived.OpenShut
import Derived.ShutString
import Derived.ChangeOld
import Derived.Below
set_option linter.unusedVariables false
set_option linter.unusedSimpArgs false
set_option linter.unusedSectionVars false
set_option maxHeartbeats 8000000
set_option maxRecDepth 100000
namespace Go.Proofs.YtpgoafbkjmmedaaGreat
namespace codeAll
open Go.ChangeShapes Go.WideShapes Go.ChangeAt Go.RowKit
open Tab
theorem own : ownKnob Tryz.prog.godebug = none := by kernel_rfl
theorem laidOut : laidOutB Tryz.prog = true := by kernel_rfl
/-- WHAT THE WALK IS TOLD OF A SLICE OF INTEGERS THAT CAME IN: it is nil; or it leads to a row of 'cap' cells, the numbers 'zs' (the first 'len' are its elements, the rest its spare room), each fitting its kind. -/
def IsRow (k : IntKind) (w : World) (a : Option Addr) (len cap : Nat) (zs : List Int) : Prop :=
  (a = none ∧ len = 0 ∧ cap = 0 ∧ zs = []) ∨
  ∃ x, a = some x ∧ len ≤ cap ∧ cap ≤ maxLen ∧ zs.length = cap ∧ (∀ i, i < zs.length → w.cell? (x.add i) = some (.int k (zs.getD i 0))) ∧ ∀ n ∈ zs, (Lit.int k n).wf = true
/-! ### the walk -/
theorem walk (T0 : Tab.Tab) (H0 : Tab.Hd) (w : World) (w0 : Tab.IsTab w H0 T0) :
    Calls Tryz.prog 3 #[.agg (T0.cells H0).toArray] w fun e w' => e = .returned (.bool true) ∧ Below w.heap.size w w' := by
  have C := cells_ok w0
  have IA : Hid ((Tryz.prog.info? 31).map (·.size) = some (T0.cells H0).length) := Lib.hid (by have := C.size; rw [List.size_toArray] at this; rw [this]; exact May.infoT)
  obtain ⟨lv, hlv⟩ : ∃ b, decide (Light7.IsLight T0) = b := ⟨_, rfl⟩
  have LG : Hid (∀ W, Below w.heap.size w W → Calls Tryz.prog 9 #[.agg (T0.cells H0).toArray] W fun e w' => e = .returned (.bool lv) ∧ Below W.heap.size W w') := Lib.hid (fun W hb => by rw [← hlv]; exact Light7.light_any T0 H0 W (w0.below hb))
  -- both encodings: the same code, the same bytes
  obtain ⟨cd, L, l8, EG, RG⟩ : ∃ (cd : Int) (L : List Nat), ∃ (_ : Hid (∀ x ∈ L, x < 256)), Hid (∀ W, Below w.heap.size w W → Calls Tryz.prog 11 #[.agg (T0.cells H0).toArray] W fun e w' => ∃ a cap, e = .returned (.tuple #[.slice a L.length cap, I cd]) ∧ B.Row w' a L ∧ Below W.heap.size W w') ∧
      Hid (∀ W, Below w.heap.size w W → Calls Tryz.prog 12 #[.agg (T0.cells H0).toArray] W fun e w' => ∃ a cap, e = .returned (.tuple #[.slice a L.length cap, I cd]) ∧ B.Row w' a L ∧ Below W.heap.size W w') := by
    cases hm : May.tabMay T0 with
    | false =>
      refine ⟨4, [], Lib.hid (by simp), Lib.hid (fun W hb => ?_), Lib.hid (fun W hb => ?_)⟩
      · exact (Po.enc_bad (w0.below hb) hm).mono fun e w' h => ⟨none, 0, h.1, B.row_nil _ _ _ rfl, h.2⟩
      · exact (Rb.renc_bad (w0.below hb) hm).mono fun e w' h => ⟨none, 0, h.1, B.row_nil _ _ _ rfl, h.2⟩
    | true =>
      have h8 : ∀ x ∈ Cd.sealB (Cd.bodyB T0), x < 256 := (Cd.B8.body _).app (Cd.B8.low _ _)
      refine ⟨0, Cd.sealB (Cd.bodyB T0), Lib.hid h8, Lib.hid (fun W hb => ?_), Lib.hid (fun W hb => ?_)⟩
      · refine (Po.enc_good (w0.below hb) hm).mono fun e w' ⟨v, h1, h2, h3⟩ => ?_
        obtain ⟨a, cap, rfl, hr⟩ := B.own_row h2 h8
        exact ⟨a, cap, h1, hr, h3⟩
      · refine (Rb.renc_good (w0.below hb) hm).mono fun e w' ⟨v, h1, h2, h3⟩ => ?_
        obtain ⟨a, cap, rfl, hr, _⟩ := h2.row
        exact ⟨a, cap, h1, hr, h3⟩
  clear hlv w0 C
  generalize T0.cells H0 = c at *
  have h0 := (Below.refl w.heap.size w).alloc (Nat.le_refl _) (.cells c.toArray 31)
  have hg0 := heap_alloc_new w (.cells c.toArray 31)
  go_enter Tryz.func3, Tryz.ntmps3
  go_upto_region 1 with fail
  generalize World.alloc w _ = v at h0 hg0 ⊢
  have HB := Lib.hid h0
  have HTB0 := Lib.hid hg0
  generalize hgt : w.heap.size = gt at HTB0 ⊢
  have HTB : Hid (v.heap[gt]? = some (.cells c.toArray 31 (0, 0))) := HTB0
  clear h0 hg0 HTB0
  go_wp2_with (refine Row.wpList_load_g 31 _ rfl (by first | rfl | go_simp) ⟨gt, 0, none⟩ rfl c _ (by have := Row.lies_of_block HTB.out; simpa using this) Tryz.underlying31 rfl IA.out ?_)
  refine (LG.out v HB.out).mono ?_
  rintro e v1 ⟨rfl, hb⟩
  have HB1 := Lib.hid (HB.out.trans (hb.mono HB.out.size))
  have HT1 : Hid (v1.heap[gt]? = some (.cells c.toArray 31 (0, 0))) := Lib.hid ((hb.block gt (Array.getElem?_eq_some_iff.1 HTB.out).1).trans HTB.out)
  clear hb HTB HB LG
  have HTB := HT1
  cases lv
  · go_wp2_with fail
    refine (Rr.awake_any _).mono ?_
    rintro e v9 ⟨rfl, hb⟩
    have HF := Lib.hid (HB1.out.trans (hb.mono HB1.out.size))
    go_wp2
    go_ret
    exact ⟨rfl, HF.out⟩
  go_wp2_with (refine Row.wpList_load_g 31 _ rfl (by first | rfl | go_simp) ⟨gt, 0, none⟩ rfl c _ (by have := Row.lies_of_block HTB.out; simpa using this) Tryz.underlying31 rfl IA.out ?_)
  refine (EG.out v1 HB1.out).mono ?_
  rintro e v2 ⟨a1, cap1, rfl, hr1, hb⟩
  have HB2 := Lib.hid (HB1.out.trans (hb.mono HB1.out.size))
  have HT2 : Hid (v2.heap[gt]? = some (.cells c.toArray 31 (0, 0))) := Lib.hid ((hb.block gt (Array.getElem?_eq_some_iff.1 HTB.out).1).trans HTB.out)
  have HR1 := Lib.hid hr1
  clear hb HTB HT1 EG hr1
  have HTB := HT2
  go_wp2_with (refine Row.wpList_load_g 31 _ rfl (by first | rfl | go_simp) ⟨gt, 0, none⟩ rfl c _ (by have := Row.lies_of_block HTB.out; simpa using this) Tryz.underlying31 rfl IA.out ?_)
  refine (RG.out v2 HB2.out).mono ?_
  rintro e v3 ⟨a2, cap2, rfl, hr2, hb⟩
  have HB3 := Lib.hid (HB2.out.trans (hb.mono HB2.out.size))
  have HSM := Lib.hid (B.same_any a1 a2 cap1 cap2 L v3 (HR1.out.below hb) hr2)
  clear hb hr2 RG HR1
  generalize L.length = n at HSM ⊢
  go_wp2_with fail
  refine HSM.out.mono ?_
  rintro e v4 ⟨rfl, hb⟩
  have HB4 := Lib.hid (HB3.out.trans (hb.mono HB3.out.size))
  clear hb HSM
  go_wp2_with fail
  refine (Rr.awake_any _).mono ?_
  rintro e v9 ⟨rfl, hb⟩
  have HF := Lib.hid (HB4.out.trans (hb.mono HB4.out.size))
  go_wp2
  go_ret
  exact ⟨rfl, HF.out⟩
/-! ### the row's step -/
theorem lifted (os : Os) (started : os.Started) (H : Type) (enc : TypeId × Value → H) :
    ReturnsInHanded {} Tryz.checked os 3 .any (Rows.codeAllSpec.pre6 enc Tryz.prog Tryz.f3 Rows.codeAllRow.domain false) (Rows.codeAllSpec.post enc Tryz.prog Tryz.f3 false true false false) := by
  refine returnsInHanded_of_change (C := Tryz.checked) own started (by kernel_rfl) Tryz.func3
    (ChangeSpec.witness6 (enc := enc) (C := Tryz.checked) false ⟨#[], #[.agg (Clone.zTab.cells Clone.zHd).toArray], []⟩ 8 (by kernel_rfl) (by kernel_rfl) (by kernel_rfl) (by kernel_rfl)) ?_
  intro W base args ds gs before hval0 hW hcnd _
  have hval : ∀ (j : Nat) t v, Tryz.f3.params[j]? = some t → args[j]? = some v → Value.okWide Tryz.prog W .any base t v := hval0
  have hW' := hW
  obtain ⟨p, q, hA0, hV, rfl, hfz, hnd⟩ := hW
  have hA : DataW.TrodAll enc Tryz.prog W 0 (fun _ => true) true Tryz.f3.params.toList args.toList ds p := hA0
  rw [Tryz.params3] at hA hval
  obtain ⟨v0, vs0, d0, ds0, p0, q0, hargs, rfl, rfl, h0, r0⟩ := trodAll_cons hA
  obtain ⟨rfl, rfl, rfl⟩ := trodAll_nil r0
  obtain rfl : args = #[v0] := by cases args; simp_all
  obtain ⟨rfl, rfl⟩ := trodVars_none hV
  obtain ⟨c0, rfl, _⟩ := okWide_struct Tryz.underlying31 (hval 0 31 v0 rfl rfl)
  have k0 := h0
  have lt0 : ∀ x ∈ p0, x.block < W.heap.size := by obtain ⟨m, hm⟩ := k0; exact DataW.trod_lt m _ _ _ hm
  obtain ⟨H0, T0, e0, w0⟩ : ∃ (h : Tab.Hd) (T : Tab.Tab), c0 = (T.cells h).toArray ∧ Tab.IsTab W h T := by
    obtain ⟨fuel, hf⟩ := h0
    obtain ⟨h, T, e, k⟩ := TabArg.open_tab hf
    exact ⟨h, T, by rw [← e]; simp [Value.cells], k⟩
  subst e0
  clear hA0 hval0
  refine (walk T0 H0 W w0).mono fun e W' ⟨he, bel⟩ => ?_
  subst he
  exact ⟨_, rfl, _, _, _, [], _, [], hW', trodAll_mk1 (shut_bool Tryz.underlying4 _), (trodAll_cons_mk (Below.trod laidOut (by kernel_rfl) (of_decide_eq_true (by kernel_rfl)) k0 bel lt0) trodAll_mk0), rfl, bel.frame _, fun h => by cases h⟩
theorem over : Rows.codeAllRow.holds Tryz.pinned (OpenSpec.ofChange Rows.codeAllSpec) :=
  OpenClaim.holds_of_wide 3 Tryz.f3 rfl rfl rfl rfl rfl rfl rfl ⟨rfl, rfl, rfl, rfl, rfl⟩ rfl rfl rfl rfl rfl (by kernel_rfl) Tryz.func3 (by kernel_rfl)
    (of_decide_eq_true (by kernel_rfl)) (by unfold Func.isWrapper; first | (rw [if_pos (by decide +kernel)]; kernel_rfl) | (rw [if_neg (by decide +kernel)]; exact ⟨rfl, rfl⟩))
    (fun os started H enc _ => lifted os started H enc)
/-- the statement -/
theorem proved : Rows.CodeAllSaid :=
  over
#print axioms proved
end codeAll
end Go.Proofs.YtpgoafbkjmmedaaGreat
