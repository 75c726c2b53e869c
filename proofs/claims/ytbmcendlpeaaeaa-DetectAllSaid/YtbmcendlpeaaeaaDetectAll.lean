/- DetectAll returns true at any table, any channels and any samples: Step and Here of package detect answer as the document's own answers do. No condition. -/
import Derived.Test.YtbmcendlpeaaeaaRows
import Derived.Test.YtbmcendlpeaaeaaDtcW
import Derived.Test.YtbmcendlpeaaeaaTabArg
import Derived.Test.YtbmcendlpeaaeaaRecs
import Derived.Deep.Cut
import Derived.LoopTactic
import Derived.BigQuiet
import Derived.WalkKit
import Derived.WalkLawsBesides
import Derived.ProofKit
import Derived.OpenShut
import Derived.ShutString
import Derived.ChangeOld
import Derived.Below
namespace Go.Proofs.Ytbmcendlpeaaeaa.detectAll
open Go.ChangeShapes Go.WideShapes Go.ChangeAt Go.RowKit
open Tab Dtc
set_option linter.unusedVariables false
set_option linter.unusedSimpArgs false

theorem own : ownKnob Try.prog.godebug = none := by kernel_rfl
theorem laidOut : laidOutB Try.prog = true := by kernel_rfl

/-- WHAT THE WALK IS TOLD OF A SLICE OF INTEGERS THAT CAME IN: it is nil; or it leads to a row of 'cap' cells, the numbers 'zs' (the first 'len' are its elements, the rest its spare room), each fitting its kind. -/
def IsRow (k : IntKind) (w : World) (a : Option Addr) (len cap : Nat) (zs : List Int) : Prop :=
  (a = none ∧ len = 0 ∧ cap = 0 ∧ zs = []) ∨
  ∃ x, a = some x ∧ len ≤ cap ∧ cap ≤ maxLen ∧ zs.length = cap ∧ (∀ i, i < zs.length → w.cell? (x.add i) = some (.int k (zs.getD i 0))) ∧ ∀ n ∈ zs, (Lit.int k n).wf = true

/-! ### the walk -/
set_option maxRecDepth 100000 in
set_option maxHeartbeats 8000000 in
theorem walk (T0 : Tab.Tab) (H0 : Tab.Hd) (s1 : Tab.Sl) (l1 : List Dtc.Ch) (a2 : Option Addr) (len2 cap2 : Nat) (z2 : Nat → Nat) (w : World) (w0 : Tab.IsTab w H0 T0) (w1 : Tab.RowOf 7 Dtc.Ch.cells w s1 l1) (w2 : Recs.IsFlts w a2 len2 cap2 z2) :
    Calls Try.prog 3 #[.agg (T0.cells H0).toArray, .slice s1.a l1.length s1.cap, .slice a2 len2 cap2] w fun e w' => e = .returned (.bool true) ∧ Below w.heap.size w w' := by
  obtain ⟨xs, hxl, hxf⟩ := FltRow.of_flts w2
  have HX := Lib.hid hxf
  clear w2 hxf
  have HL := Lib.hid w1
  have hl1 := w1.len
  have hx1 := (HX.out.1).len
  obtain ⟨a1, cap1⟩ := s1
  clear w1
  have HT := Lib.hid w0
  have IA : Hid ((Try.prog.info? 31).map (·.size) = some (T0.cells H0).length) := Lib.hid (by have := (cells_ok w0).size; rw [List.size_toArray] at this; rw [this]; exact infoT)
  have HD : Hid ((dts T0.dets l1 xs).length = T0.dets.length) := Lib.hid (dts_len _ _ _)
  clear w0
  obtain ⟨tc, htc⟩ : ∃ c, T0.cells H0 = c := ⟨_, rfl⟩
  obtain ⟨ds, hds⟩ : ∃ c, T0.dets = c := ⟨_, rfl⟩
  obtain ⟨n, hn⟩ : ∃ c, ds.length = c := ⟨_, rfl⟩
  obtain ⟨n1, hn1⟩ : ∃ c, l1.length = c := ⟨_, rfl⟩
  rw [htc] at IA
  rw [hds, hn] at HD
  rw [htc, hn1]
  rw [hn1] at hl1
  have HTC := Lib.hid htc
  have HDS := Lib.hid hds
  have HN := Lib.hid hn
  have HN1 := Lib.hid hn1
  have HXL := Lib.hid hxl
  rw [hxl] at hx1
  dsimp only at hl1 hx1 ⊢
  unfold maxLen at hl1 hx1
  obtain ⟨hl11, hl12⟩ := hl1
  obtain ⟨hx11, hx12⟩ := hx1
  clear htc hds hn hn1 hxl
  have LG : Hid (∀ W, Below w.heap.size w W → Calls Try.prog 7 #[.agg tc.toArray] W fun e w' => e = .returned (.bool (decide (n ≤ 20))) ∧ Below W.heap.size W w') := Lib.hid (fun W hb => by have := light_any (HT.out.below hb); rw [HTC.out, HDS.out, HN.out] at this; exact this)
  have ST : Hid (n ≤ 1000 → ∀ W, Below w.heap.size w W → ∀ (a : Option Addr) (cap : Nat) (l : List Ch) (m : Nat) (b : Option Addr) (cap2 : Nat) (xs : List Nat) (k : Nat), RowOf 7 Ch.cells W ⟨a, cap⟩ l → l.length = m → FltRow W ⟨b, cap2⟩ xs → xs.length = k → Calls Try.prog 9 #[.agg tc.toArray, .slice a m cap, .slice b k cap2] W fun e w' => ∃ s : Sl, e = .returned (s.val n) ∧ RowOf 7 Ch.cells w' s (dts ds l xs) ∧ Below W.heap.size W w') := Lib.hid (fun few W hb a cap l m b cap2 xs k hl hm hx hk => by subst hm hk; have := step_any (HT.out.below hb) (by rw [HDS.out, HN.out]; exact few) hl hx; rw [HTC.out, HDS.out, HN.out] at this; exact this)
  have RD : Hid (n ≤ 1000 → ∀ W, Below w.heap.size w W → ∀ (a : Option Addr) (cap : Nat) (l : List Ch) (m : Nat) (b : Option Addr) (cap2 : Nat) (xs : List Nat) (k : Nat), RowOf 7 Ch.cells W ⟨a, cap⟩ l → l.length = m → FltRow W ⟨b, cap2⟩ xs → xs.length = k → Calls Try.prog 10 #[.agg tc.toArray, .slice a m cap, .slice b k cap2] W fun e w' => ∃ s : Sl, e = .returned (s.val n) ∧ RowOf 7 Ch.cells w' s (dts ds l xs) ∧ Below W.heap.size W w') := Lib.hid (fun few W hb a cap l m b cap2 xs k hl hm hx hk => by subst hm hk; have := rdet_any (HT.out.below hb) (by rw [HDS.out, HN.out]; exact few) hl hx; rw [HTC.out, HDS.out, HN.out] at this; exact this)
  have HE : Hid (∀ W, Below w.heap.size w W → ∀ (a : Option Addr) (cap : Nat) (l : List Ch) (m : Nat), RowOf 7 Ch.cells W ⟨a, cap⟩ l → l.length = m → Calls Try.prog 12 #[.agg tc.toArray, .slice a m cap] W fun e w' => e = .returned (.int .i64 (her ds l (min n m) : Nat)) ∧ Below W.heap.size W w') := Lib.hid (fun W hb a cap l m hl hm => by subst hm; have := here_any (HT.out.below hb) hl; rw [HTC.out, HDS.out, HN.out] at this; exact this)
  have RH : Hid (∀ W, Below w.heap.size w W → ∀ (a : Option Addr) (cap : Nat) (l : List Ch) (m : Nat), RowOf 7 Ch.cells W ⟨a, cap⟩ l → l.length = m → Calls Try.prog 13 #[.agg tc.toArray, .slice a m cap] W fun e w' => e = .returned (.int .i64 (her ds l (min n m) : Nat)) ∧ Below W.heap.size W w') := Lib.hid (fun W hb a cap l m hl hm => by subst hm; have := rhere_any (HT.out.below hb) hl; rw [HTC.out, HDS.out, HN.out] at this; exact this)
  clear HT HTC HDS
  have h0 := (Blk.Bks.nil w).alloc tc.toArray 31
  go_enter Try.func3, Try.ntmps3
  go_upto_region 1 with fail
  generalize World.alloc w _ = u at h0 ⊢
  generalize hgt : w.heap.size = gt at h0 ⊢
  have HU := Lib.hid h0.bel
  rw [hgt] at HU
  have BU : Hid (∀ W, Below u.heap.size u W → Below w.heap.size w W) := Lib.hid (fun W hb => h0.bel.trans (hb.mono h0.bel.size))
  have LT : Hid (∀ W, Below u.heap.size u W → Lies W ⟨gt, 0, none⟩ tc) := Lib.hid (fun W hb => by have := Row.lies_of_block ((h0.step hb).at 0 rfl); simpa using this)
  clear h0 hgt
  go_wp2_with (refine Row.wpList_load_g 31 _ rfl (by first | rfl | go_simp) ⟨gt, 0, none⟩ rfl tc _ (LT.out _ (Below.refl _ _)) Try.underlying31 rfl IA.out ?_)
  refine (LG.out _ (BU.out _ (Below.refl _ _))).mono ?_
  rintro e u1 ⟨rfl, b1⟩
  have B1 := Lib.hid b1
  clear b1 LG
  by_cases h1 : n ≤ 20
  · rw [decide_eq_true h1]
    by_cases h2 : 20 < n1
    · go_wp2_with fail
      refine (Dtc.awake_any _).mono ?_
      rintro e u9 ⟨rfl, b9⟩
      go_wp2
      go_ret
      exact ⟨rfl, BU.out _ (B1.out.trans (b9.mono B1.out.size))⟩
    by_cases h3 : 20 < len2
    · go_wp2_with fail
      refine (Dtc.awake_any _).mono ?_
      rintro e u9 ⟨rfl, b9⟩
      go_wp2
      go_ret
      exact ⟨rfl, BU.out _ (B1.out.trans (b9.mono B1.out.size))⟩
    have few : n ≤ 1000 := by omega
    go_wp2_with (refine Row.wpList_load_g 31 _ rfl (by first | rfl | go_simp) ⟨gt, 0, none⟩ rfl tc _ (LT.out _ B1.out) Try.underlying31 rfl IA.out ?_)
    refine (ST.out few _ (BU.out _ B1.out) _ _ l1 _ _ _ xs _ (HL.out.below (BU.out _ B1.out)) HN1.out (HX.out.below (BU.out _ B1.out)) HXL.out).mono ?_
    rintro e u2 ⟨⟨sa, ca⟩, rfl, hrow, hb⟩
    have B2 := Lib.hid (B1.out.trans (hb.mono B1.out.size))
    have R2 := Lib.hid hrow
    clear hrow hb B1 ST
    dsimp only
    go_wp2_with (refine Row.wpList_load_g 31 _ rfl (by first | rfl | go_simp) ⟨gt, 0, none⟩ rfl tc _ (LT.out _ B2.out) Try.underlying31 rfl IA.out ?_)
    refine (RD.out few _ (BU.out _ B2.out) _ _ l1 _ _ _ xs _ (HL.out.below (BU.out _ B2.out)) HN1.out (HX.out.below (BU.out _ B2.out)) HXL.out).mono ?_
    rintro e u3 ⟨⟨sb, cb⟩, rfl, hrow, hb⟩
    have R3 := Lib.hid (R2.out.below hb)
    have B3 := Lib.hid (B2.out.trans (hb.mono B2.out.size))
    have R4 := Lib.hid hrow
    clear hrow hb B2 R2 RD
    dsimp only
    go_upto_region 5 with fail
    generalize dts ds l1 xs = D at R3 R4 HD
    refine QB.region_below u3.heap.size (by kernel_rfl) (by kernel_rfl) ?_
    repeat first
      | (refine wpQuiet_load rfl 31 _ rfl ⟨gt, 0, none⟩ rfl tc _ (fun w' ⟨p, e⟩ => by rw [e]; exact LT.out _ (B3.out.trans (p.below.mono B3.out.size))) Try.underlying31 rfl IA.out ?_
         dsimp only [Act.put]
         simp only [List.setIfInBounds_toArray, List.set_cons_zero, List.set_cons_succ])
      | (quiet_step (first
          | (go_at_call 11; exact QB.call_of (Nat.le_refl _) (fun b => same_any (R3.out.below b) (R4.out.below b) HD.out))
          | (go_at_call 12; with_reducible exact QB.call_of (Nat.le_refl _) (fun b => HE.out _ (BU.out _ (B3.out.trans (b.mono B3.out.size))) a1 cap1 l1 n1 (HL.out.below (BU.out _ (B3.out.trans (b.mono B3.out.size)))) HN1.out))
          | (go_at_call 13; with_reducible exact QB.call_of (Nat.le_refl _) (fun b => RH.out _ (BU.out _ (B3.out.trans (b.mono B3.out.size))) a1 cap1 l1 n1 (HL.out.below (BU.out _ (B3.out.trans (b.mono B3.out.size)))) HN1.out))
          | (go_at_call 12; with_reducible exact QB.call_of (Nat.le_refl _) (fun b => HE.out _ (BU.out _ (B3.out.trans (b.mono B3.out.size))) sb cb D n (R4.out.below b) HD.out))
          | (go_at_call 13; with_reducible exact QB.call_of (Nat.le_refl _) (fun b => RH.out _ (BU.out _ (B3.out.trans (b.mono B3.out.size))) sb cb D n (R4.out.below b) HD.out))
          | (go_at_call 8; exact QB.call_of (Nat.le_refl _) (fun b => Dtc.awake_any _))))
    refine wpQuiet_nil ?_
    intro _ hw'
    obtain ⟨p, rfl⟩ := hw'
    have B4 := Lib.hid (BU.out _ (B3.out.trans (p.below.mono B3.out.size)))
    go_wp2
    go_ret
    exact ⟨rfl, B4.out⟩
  · rw [decide_eq_false h1]
    go_wp2_with fail
    refine (Dtc.awake_any _).mono ?_
    rintro e u9 ⟨rfl, b9⟩
    go_wp2
    go_ret
    exact ⟨rfl, BU.out _ (B1.out.trans (b9.mono B1.out.size))⟩

/-! ### the row's step -/
set_option maxRecDepth 100000 in
theorem lifted (os : Os) (started : os.Started) (H : Type) (enc : TypeId × Value → H) :
    ReturnsInHanded {} Try.checked os 3 .any (Rows.detectAllSpec.pre6 enc Try.prog Try.f3 Rows.detectAllRow.domain false) (Rows.detectAllSpec.post enc Try.prog Try.f3 false true false false) := by
  refine returnsInHanded_of_change (C := Try.checked) own started (by kernel_rfl) Try.func3
    (ChangeSpec.witness6 (enc := enc) (C := Try.checked) false ⟨#[], #[.agg (Clone.zTab.cells Clone.zHd).toArray, .slice none 0 0, .slice none 0 0], []⟩ 8 (by kernel_rfl) (by kernel_rfl) (by kernel_rfl) (by kernel_rfl)) ?_
  intro W base args ds gs before hval0 hW hcnd _
  have hval : ∀ (j : Nat) t v, Try.f3.params[j]? = some t → args[j]? = some v → Value.okWide Try.prog W .any base t v := hval0
  have hW' := hW
  obtain ⟨p, q, hA0, hV, rfl, hfz, hnd⟩ := hW
  have hA : DataW.TrodAll enc Try.prog W 0 (fun _ => true) true Try.f3.params.toList args.toList ds p := hA0
  rw [Try.params3] at hA hval
  obtain ⟨v0, vs0, d0, ds0, p0, q0, hargs, rfl, rfl, h0, r0⟩ := trodAll_cons hA
  obtain ⟨v1, vs1, d1, ds1, p1, q1, rfl, rfl, rfl, h1, r1⟩ := trodAll_cons r0
  obtain ⟨v2, vs2, d2, ds2, p2, q2, rfl, rfl, rfl, h2, r2⟩ := trodAll_cons r1
  obtain ⟨rfl, rfl, rfl⟩ := trodAll_nil r2
  obtain rfl : args = #[v0, v1, v2] := by cases args; simp_all
  obtain ⟨rfl, rfl⟩ := trodVars_none hV
  obtain ⟨c0, rfl, _⟩ := okWide_struct Try.underlying31 (hval 0 31 v0 rfl rfl)
  have k0 := h0
  have lt0 : ∀ x ∈ p0, x.block < W.heap.size := by obtain ⟨m, hm⟩ := k0; exact DataW.trod_lt m _ _ _ hm
  obtain ⟨H0, T0, e0, w0⟩ : ∃ (h : Tab.Hd) (T : Tab.Tab), c0 = (T.cells h).toArray ∧ Tab.IsTab W h T := by
    obtain ⟨fuel, hf⟩ := h0
    obtain ⟨h, T, e, k⟩ := TabArg.open_tab hf
    exact ⟨h, T, by rw [← e]; simp [Value.cells], k⟩
  subst e0
  obtain ⟨a1, len1, cap1, rfl⟩ := okWide_slice Try.underlying32 (hval 1 32 v1 rfl rfl)
  have k1 := h1
  have lt1 : ∀ x ∈ p1, x.block < W.heap.size := by obtain ⟨m, hm⟩ := k1; exact DataW.trod_lt m _ _ _ hm
  obtain ⟨s1, l1, e1, w1⟩ : ∃ (s : Tab.Sl) (l : List Dtc.Ch), Value.slice a1 len1 cap1 = s.val l.length ∧ Tab.RowOf 7 Dtc.Ch.cells W s l := by
    obtain ⟨fuel, hf⟩ := h1
    obtain ⟨s, l, e, r, _⟩ := TabArg.tr_row (k := 7) (f := Dtc.Ch.cells) (p := fun _ => True) Try.underlying32 (by kernel_rfl) (fun n cs x hx => by obtain ⟨d, e⟩ := Dtc.ch_el (Flat.trod_flat 4 _ _ Dtc.flC4 n cs x hx); exact ⟨d, e, trivial⟩) ⟨fuel, _, hf⟩
    exact ⟨s, l, e, r⟩
  simp only [Tab.Sl.val, Value.slice.injEq] at e1
  obtain ⟨rfl, rfl, rfl⟩ := e1
  obtain ⟨a2, len2, cap2, rfl⟩ := okWide_slice Try.underlying33 (hval 2 33 v2 rfl rfl)
  have k2 := h2
  have lt2 : ∀ x ∈ p2, x.block < W.heap.size := by obtain ⟨m, hm⟩ := k2; exact DataW.trod_lt m _ _ _ hm
  obtain ⟨z2, w2⟩ : ∃ zs, Recs.IsFlts W a2 len2 cap2 zs := by
    obtain ⟨fuel, hf⟩ := h2
    exact Recs.open_flts Try.underlying33 Try.underlying47 (by kernel_rfl) hf
  clear hA0 hval0
  refine (walk T0 H0 s1 l1 a2 len2 cap2 z2 W w0 w1 w2).mono fun e W' ⟨he, bel⟩ => ?_
  subst he
  exact ⟨_, rfl, _, _, _, [], _, [], hW', trodAll_mk1 (shut_bool Try.underlying4 _), (trodAll_cons_mk (Below.trod laidOut (by kernel_rfl) (of_decide_eq_true (by kernel_rfl)) k0 bel lt0) (trodAll_cons_mk (Below.trod laidOut (by kernel_rfl) (of_decide_eq_true (by kernel_rfl)) k1 bel lt1) (trodAll_cons_mk (Below.trod laidOut (by kernel_rfl) (of_decide_eq_true (by kernel_rfl)) k2 bel lt2) trodAll_mk0))), rfl, bel.frame _, fun h => by cases h⟩

theorem over : Rows.detectAllRow.holds Try.pinned (OpenSpec.ofChange Rows.detectAllSpec) :=
  OpenClaim.holds_of_wide 3 Try.f3 rfl rfl rfl rfl rfl rfl rfl ⟨rfl, rfl, rfl, rfl, rfl⟩ rfl rfl rfl rfl rfl (by kernel_rfl) Try.func3 (by kernel_rfl)
    (of_decide_eq_true (by kernel_rfl)) (by unfold Func.isWrapper; first | (rw [if_pos (by decide +kernel)]; kernel_rfl) | (rw [if_neg (by decide +kernel)]; exact ⟨rfl, rfl⟩))
    (fun os started H enc _ => lifted os started H enc)

/-- the statement -/
theorem proved : Rows.DetectAllSaid :=
  over
#print axioms proved
end Go.Proofs.Ytbmcendlpeaaeaa.detectAll
