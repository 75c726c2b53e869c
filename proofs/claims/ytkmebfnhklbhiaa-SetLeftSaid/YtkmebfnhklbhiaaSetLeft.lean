/- SetLeft returns true at any two integers: a loop over Each can be left at any phase, and begun again. No condition. -/
import Derived.Test.YtkmebfnhklbhiaaRows
import Derived.Test.YtkmebfnhklbhiaaSetR
import Derived.Test.YtkmebfnhklbhiaaSetM2
import Derived.WalkKit
import Derived.WalkLawsBesides
import Derived.ProofKit
import Derived.OpenShut
import Derived.ShutString
import Derived.ChangeOld
import Derived.Below
namespace Go.Proofs.Ytkmebfnhklbhiaa.setLeft
open Go.ChangeShapes Go.WideShapes Go.ChangeAt Go.RowKit
set_option linter.unusedVariables false
set_option linter.unusedSimpArgs false

theorem own : ownKnob Try.prog.godebug = none := by kernel_rfl
theorem laidOut : laidOutB Try.prog = true := by kernel_rfl

open Go.Shelf
attribute [local go_sem] Oper.semAt_some
/-- Every block of W0 but X lies as it lay. -/
def KeepBut (X : Nat) (W0 W : World) : Prop := W0.heap.size ≤ W.heap.size ∧ ∀ b, b < W0.heap.size → b ≠ X → W.heap[b]? = W0.heap[b]?
theorem KeepBut.refl (X : Nat) (W : World) : KeepBut X W W := ⟨Nat.le_refl _, fun _ _ _ => rfl⟩
theorem KeepBut.boxed {X B : Nat} {t : TypeId} {v : Value} {W0 W : World} (h : KeepBut X W0 W) (hb : Boxed W0 B t v) (hne : B ≠ X) : Boxed W B t v := (h.2 B hb.lt hne).trans hb
theorem KeepBut.grown {X : Nat} {W0 W W' : World} {row : Option Nat} (h : KeepBut X W0 W) (hg : W.grownBy W' row) (hr : ∀ r, row = some r → W0.heap.size ≤ r) : KeepBut X W0 W' :=
  ⟨Nat.le_trans h.1 hg.size, fun b hb hne => (hg.block b (Nat.lt_of_lt_of_le hb h.1) (fun e => by have := hr b e.symm; omega)).trans (h.2 b hb hne)⟩
theorem KeepBut.setCell {X : Nat} {W0 W : World} (h : KeepBut X W0 W) (v : Value) : KeepBut X W0 (W.setCell ⟨X, 0, none⟩ v) :=
  ⟨Nat.le_trans h.1 (KeepsWalks.setCell W _ v).size, fun b hb hne => (Below.heap_setCell _ _ _ b hne).trans (h.2 b hb hne)⟩
theorem KeepBut.cell {X : Nat} {W0 W : World} (h : KeepBut X W0 W) {p : Addr} (hp : p.block < W0.heap.size) (hne : p.block ≠ X) : W.cell? p = W0.cell? p := World.cell?_of_block (h.2 p.block hp hne)
theorem KeepBut.kept {X B : Nat} {W0 W : World} (v : Value) (hne : B ≠ X) : SetE.Kept B W (W.setCell ⟨X, 0, none⟩ v) := SetE.Kept.setCell W v hne
/-- The list lies from the address x on, in blocks below n. -/
def Lies (n : Nat) (W : World) (x : Addr) (L : List Int) : Prop := ∀ i, i < L.length → (x.add i).block < n ∧ W.cell? (x.add i) = some (.int .i64 (L.getD i 0))
theorem Lies.keep {n X : Nat} {W0 W : World} {x : Addr} {L : List Int} (h : Lies n W0 x L) (hk : KeepBut X W0 W) (hn : n ≤ W0.heap.size) (hX : n ≤ X) : Lies n W x L :=
  fun i hi => ⟨(h i hi).1, (hk.cell (by have := (h i hi).1; omega) (by have := (h i hi).1; omega)).trans (h i hi).2⟩
theorem lies_of {W W0 : World} {a : Option Addr} {L : List Int} (h : SetR.Row W a L) (h0 : 0 < L.length) (hb : Below W.heap.size W W0) : ∃ x, a = some x ∧ Lies W.heap.size W0 x L := by
  obtain ⟨x, rfl, hc⟩ := h.cells h0
  exact ⟨x, rfl, fun i hi => ⟨World.block_lt_of_cell? W _ (hc i hi), (hb.cell (World.block_lt_of_cell? W _ (hc i hi))).trans (hc i hi)⟩⟩
theorem not_prefix {pre L : List Int} {x : Int} (h : pre.length < L.length) (hx : x ≠ L.getD pre.length 0) : ¬ (pre ++ [x]) <+: L := by
  rintro ⟨t, rfl⟩
  apply hx
  rw [List.getD_eq_getElem?_getD, List.append_assoc, List.getElem?_append_right (Nat.le_refl _)]
  simp
theorem put_box {W : World} {B D : Nat} {t : TypeId} {v : Value} {o : Obj} (h : Boxed W B t v) (hne : B ≠ D) : Boxed (W.putObj D o) B t v := (World.putObj_heap_other hne).trans h

/-! ### the walk -/
set_option maxRecDepth 100000 in
set_option maxHeartbeats 4000000 in
theorem walk (a0 : Int) (a1 : Int) (w : World) (w0 : (Lit.int .i64 a0).wf = true) (w1 : (Lit.int .i64 a1).wf = true) :
    Calls Try.prog 7 #[.int .i64 a0, .int .i64 a1] w fun e w' => e = .returned (.bool true) ∧ Below w.heap.size w w' := by
  refine (callsIn_wide (n := 3)).1 ?_
  have h8 := SetM.list_len a0
  have hN := fun n hn Bs w hB hc => SetE.each_stops n hn Bs a0 w hB hc
  have hC := SetE.count_in a0
  have hG := SetE.gather_in a0
  refine callsIn_of_wp_marks Try.func7 rfl trivial ?_ rfl
  simp only [Try.ntmps7, List.size_toArray, List.length_cons, List.length_nil, Nat.reduceAdd, Nat.reduceSub, Array.replicate_succ, Array.replicate_zero, List.push_toArray, List.append_toArray, List.nil_append, List.cons_append]
  generalize hL : SetM.list a0 = L at h8 hN hC hG
  have HN := Lib.hid hN
  have HC := Lib.hid hC
  have HG := Lib.hid hG
  clear hN hC hG hL
  gi_wp2_with fail
  refine ⟨trivial, (callsIn_wide.2 (HG.out _)).mono ?_⟩
  rintro e w1 ⟨v, rfl, hO, hbel⟩
  obtain ⟨a, cap, rfl, hrow⟩ := SetR.row_of hO
  have hB1 := hbel.size
  simp only [World.size_alloc] at hB1
  have c4 := ((Boxed.new w 4 (.bool false)))
  have c41 : Boxed w1 w.heap.size 4 (.bool false) := (hbel.block _ (by simp)).trans c4
  have hc4 := c41.cell
  have hf4 := c41.frozen
  have hb1 : Below w.heap.size w w1 := ((Below.refl _ w).alloc (Nat.le_refl _) _).trans (hbel.mono (by simp))
  clear hbel c4
  cases L with
  | nil =>
    clear hrow hO HN HG
    simp only [List.length_nil]
    gi_wp2_with fail
    refine ⟨trivial, (callsIn_wide.2 (HC.out _)).mono ?_⟩
    rintro e w2 ⟨rfl, b2⟩
    simp only [List.length_nil]
    have hB2 := b2.size
    simp only [World.size_alloc] at hB2
    have c42 : Boxed w2 w.heap.size 4 (.bool false) := (b2.block _ (by simp; omega)).trans (c41.alloc _)
    clear hc4 hf4
    gi_wp2_with fail
    refine ⟨trivial, (callsIn_wide.2 (SetR.awake_any _)).mono ?_⟩
    rintro e w3 ⟨rfl, b3⟩
    have hB3 := b3.size
    have c43 : Boxed w3 w.heap.size 4 (.bool false) := (b3.block _ (by omega)).trans c42
    have hc4 := c43.cell
    have hf4 := c43.frozen
    gi_wp2
    have c44 := c43.set (.bool true)
    have hc5 := c44.cell
    refine ⟨.bool true, ?_, rfl, ?_⟩
    · simp [results, Try.f7, go_sem, hc5]
    · exact ((hb1.alloc (by omega) _).trans ((b2.trans (b3.mono b2.size)).mono (by simp; omega))).setCell (p := ⟨w.heap.size, 0, none⟩) (Nat.le_refl _) _
  | cons y L' =>
    generalize hL : y :: L' = L at *
    have hl0 : 0 < L.length := by rw [← hL]; simp
    clear hL
    have h1 := hrow.1
    unfold maxLen at h1
    have Hrow := Lib.hid hrow
    clear hrow hO
    have hle : ((L.length : Int) == 0) = false := by rw [beq_eq_false_iff_ne]; omega
    gi_wp2_with fail
    refine ⟨trivial, (callsIn_wide.2 (SetR.place_any _ _ _ (by omega) (by omega))).mono ?_⟩
    rintro e w' ⟨rfl, rfl⟩
    obtain ⟨q, hq⟩ := Int.eq_ofNat_of_zero_le (Int.emod_nonneg a1 (show (L.length : Int) ≠ 0 by omega))
    have hql : q < L.length := by have := Int.emod_lt_of_pos a1 (show (0 : Int) < L.length by omega); omega
    rw [hq]
    clear hq hle
    gi_wp2_with fail
    refine ⟨trivial, (SetE.each_in _ _ _).mono ?_⟩
    rintro e w' ⟨rfl, rfl⟩
    gi_wp2_with fail
    have hBW : Below w1.heap.size w1 ((((w1.alloc (.cells #[.slice a L.length cap] 25)).alloc (.cells #[.int .i64 (q : Int)] 3)).alloc (.cells #[.int .i64 a0] 3)).alloc (.cells #[.int .i64 0] 3)) := ((((Below.refl _ w1).alloc (Nat.le_refl _) _).alloc (by simp) _).alloc (by simp; omega) _).alloc (by simp; omega) _
    have d4 := (((c41.alloc (.cells #[.slice a L.length cap] 25)).alloc (.cells #[.int .i64 (q : Int)] 3)).alloc (.cells #[.int .i64 a0] 3)).alloc (.cells #[.int .i64 0] 3)
    have d5 := (((Boxed.new w1 25 (.slice a L.length cap)).alloc (.cells #[.int .i64 (q : Int)] 3)).alloc (.cells #[.int .i64 a0] 3)).alloc (.cells #[.int .i64 0] 3)
    have d6 := ((Boxed.new (w1.alloc (.cells #[.slice a L.length cap] 25)) 3 (.int .i64 (q : Int))).alloc (.cells #[.int .i64 a0] 3)).alloc (.cells #[.int .i64 0] 3)
    have d7 := (Boxed.new ((w1.alloc (.cells #[.slice a L.length cap] 25)).alloc (.cells #[.int .i64 (q : Int)] 3)) 3 (.int .i64 a0)).alloc (.cells #[.int .i64 0] 3)
    have d8 := Boxed.new (((w1.alloc (.cells #[.slice a L.length cap] 25)).alloc (.cells #[.int .i64 (q : Int)] 3)).alloc (.cells #[.int .i64 a0] 3)) 3 (.int .i64 0)
    have hsz : ((((w1.alloc (.cells #[.slice a L.length cap] 25)).alloc (.cells #[.int .i64 (q : Int)] 3)).alloc (.cells #[.int .i64 a0] 3)).alloc (.cells #[.int .i64 0] 3)).heap.size = w1.heap.size + 4 := by simp
    simp only [World.size_alloc] at d6 d7 d8
    have hB0 : Below w.heap.size w _ := hb1.trans (hBW.mono (by omega))
    obtain ⟨x, rfl, hLie⟩ := lies_of Hrow.out hl0 hBW
    clear hc4 hf4 c41 Hrow hb1
    generalize ((((w1.alloc (.cells #[.slice (some x) L.length cap] 25)).alloc (.cells #[.int .i64 (q : Int)] 3)).alloc (.cells #[.int .i64 a0] 3)).alloc (.cells #[.int .i64 0] 3)) = W0 at *
    clear hBW
    generalize w1.heap.size = b at *
    refine wpIn_rangeFunc_ownG rfl (by omega) (gf := 26) (lb := #[.pointer (some ⟨b + 1 + 1, 0, none⟩)]) rfl trivial (enters_of Try.func26 (by kernel_rfl) rfl)
      (HN.out _ (by omega) (b + 1 + 1) W0 (by omega) d7.cell) SetE.Kept.trans (SetE.kept_b (by omega)) (Below.refl _ _) (fun _ => rfl)
      (fun pre W => (Boxed W (b + 1 + 1 + 1) 3 (.int .i64 (pre.length : Int)) ∧ pre.length ≤ q) ∧ KeepBut (b + 1 + 1 + 1) W0 W ∧ Below w.heap.size w W)
      (fun c pre W => (c = .exit 0 ∧ Boxed W (b + 1 + 1 + 1) 3 (.int .i64 (q : Int)) ∧ KeepBut (b + 1 + 1 + 1) W0 W ∧ Below w.heap.size w W) ∨ (c = .ret ∧ ¬ pre <+: L))
      (by
        rintro s W W' row ⟨⟨h1, h2⟩, h3, h4⟩ hg hr
        exact ⟨⟨h1.kept hg (fun e => by have := (hr _ e.symm).1; omega), h2⟩, h3.grown hg (fun r e => (hr r e).1), h4.grown hg (by have := h4.size; omega) (fun r e => by have := (hr r e).1; omega)⟩)
      (by
        rintro c s W W' row (⟨h0, h1, h3, h4⟩ | h) hg hr
        · exact .inl ⟨h0, h1.kept hg (fun e => by have := (hr _ e.symm).1; omega), h3.grown hg (fun r e => (hr r e).1), h4.grown hg (by have := h4.size; omega) (fun r e => by have := (hr r e).1; omega)⟩
        · exact .inr h)
      ⟨⟨d8, Nat.zero_le _⟩, KeepBut.refl _ _, hB0⟩
      (fun z => { tmps := #[.int .i64 a0, .int .i64 a1, undef, undef, .pointer (some ⟨w.heap.size, 0, none⟩), .pointer (some ⟨b, 0, none⟩), .pointer (some ⟨b + 1, 0, none⟩), .func (.func 26) #[] #[.pointer (some ⟨b + 1 + 1, 0, none⟩)], .pointer (some ⟨b + 1 + 1 + 1, 0, none⟩), .int .i64 z, undef, undef, .int .i64 a0, .slice (some x) L.length cap, .slice (some x) L.length cap, .int .i64 (L.length : Int), .bool false, undef, undef, undef, undef, undef, undef, .int .i64 a1, .slice (some x) L.length cap, .int .i64 (L.length : Int), .int .i64 (q : Int), .int .i64 a0, .func (.func 26) #[] #[.pointer (some ⟨b + 1 + 1, 0, none⟩)], .func (.func 26) #[] #[.pointer (some ⟨b + 1 + 1, 0, none⟩)], .int .i64 z, undef, undef, undef, undef, undef, undef, undef, undef, undef, undef, undef, undef, undef, undef, undef, undef, undef, undef, undef, undef, undef, undef, undef, undef, undef, undef, undef, undef, undef, undef, undef, undef, undef, undef, undef, undef, undef, undef, undef], defers := [] }) ?assign ?body ?done ?stop
    case assign =>
      intro l z W K hK
      gi_wp2
      exact hK
    case body =>
      rintro l pre z W ⟨⟨hv, hpq⟩, hk, hB⟩ hlt
      have e4 := hk.boxed d4 (by omega)
      have e5 := (hk.boxed d5 (by omega)).cell
      have e6 := (hk.boxed d6 (by omega)).cell
      have e8 := hv.cell
      have f8 := hv.frozen
      have e4c := e4.cell
      have f4 := e4.frozen
      have hcell := (hLie.keep hk (by omega) (by omega) pre.length hlt).2
      have Hnp := Lib.hid (not_prefix (x := z) hlt)
      have HS := Lib.hid (SetE.snoc_len pre z)
      generalize L.getD pre.length 0 = y at hcell Hnp
      by_cases hzy : z = y
      · subst hzy
        have hbe : (z != z) = false := by simp
        by_cases hq : pre.length = q
        · have hqe : ((pre.length : Int) == (q : Int)) = true := by rw [beq_iff_eq]; omega
          have Hq := Lib.hid hq
          clear hq
          gi_wp2
          exact ⟨KeepsFrom.refl _ _, .inl ⟨rfl, by rw [← Hq.out]; exact hv, hk, hB⟩⟩
        · have hqe : ((pre.length : Int) == (q : Int)) = false := by rw [beq_eq_false_iff_ne]; omega
          gi_wp2
          exact ⟨(KeepsOthers.setCell _ _ _).from _, SetE.Kept.setCell _ _ (by omega), ⟨by rw [HS.out]; exact hv.set _, by rw [List.length_append]; simp; omega⟩, hk.setCell _, hB.setCell (p := ⟨b + 1 + 1 + 1, 0, none⟩) (by simp; omega) _⟩
      · have hbe : (z != y) = true := by rw [bne_iff_ne]; exact hzy
        gi_wp2
        exact ⟨(KeepsOthers.setCell _ _ _).from _, .inr ⟨rfl, Hnp.out hzy⟩⟩
    case done =>
      rintro D ys W hD rfl ⟨⟨hv, hpq⟩, hk, hB⟩ hK
      exact absurd hpq (by omega)
    case stop =>
      rintro D c pre W hD hpre (⟨rfl, hv, hk, hB⟩ | ⟨rfl, hn⟩) hK
      · gi_wp2_with fail
        have g4 := (hk.boxed d4 (by omega)).alloc (.cells #[.int .i64 0] 3)
        have g5 := (hk.boxed d5 (by omega)).alloc (.cells #[.int .i64 0] 3)
        have g6 := (hk.boxed d6 (by omega)).alloc (.cells #[.int .i64 0] 3)
        have g7 := (hk.boxed d7 (by omega)).alloc (.cells #[.int .i64 0] 3)
        have g8 := hv.alloc (.cells #[.int .i64 0] 3)
        have g10 := Boxed.new W 3 (.int .i64 0)
        have hgs : (W.alloc (.cells #[.int .i64 0] 3)).heap.size = W.heap.size + 1 := by simp
        have hks := hk.1
        have hgB : Below w.heap.size w (W.alloc (.cells #[.int .i64 0] 3)) := hB.alloc hB.size _
        have hgK : (W.alloc (.cells #[.int .i64 0] 3)).heap[D]? = some (.deferred (some [])) := (Below.heap_alloc W _ D (Array.getElem?_eq_some_iff.1 hK).1).trans hK
        have hDW : D < W.heap.size := (Array.getElem?_eq_some_iff.1 hK).1
        have hgL : Lies b (W.alloc (.cells #[.int .i64 0] 3)) x L := fun i hi => ⟨(hLie i hi).1, (((Below.refl W.heap.size W).alloc (Nat.le_refl _) _).cell (by have := (hLie.keep hk (by omega) (by omega) i hi).1; omega)).trans (hLie.keep hk (by omega) (by omega) i hi).2⟩
        generalize W.alloc (.cells #[.int .i64 0] 3) = W2 at *
        clear hB hk hv hK
        generalize W.heap.size = m at *
        refine wpIn_rangeFunc_ownG rfl (by omega) (gf := 26) (lb := #[.pointer (some ⟨b + 1 + 1, 0, none⟩)]) rfl trivial (enters_of Try.func26 (by kernel_rfl) rfl)
          (HN.out _ (by omega) (b + 1 + 1) W2 (by omega) g7.cell) SetE.Kept.trans (SetE.kept_b (by omega)) (Below.refl _ _) (fun _ => rfl)
          (fun pre W => Boxed W m 3 (.int .i64 (pre.length : Int)) ∧ KeepBut m W2 W ∧ Below w.heap.size w W)
          (fun c pre W => c = .ret ∧ ¬ pre <+: L)
          (by
            rintro s W W' row ⟨h1, h3, h4⟩ hg hr
            exact ⟨h1.kept hg (fun e => by have := (hr _ e.symm).1; omega), h3.grown hg (fun r e => (hr r e).1), h4.grown hg (by have := h4.size; omega) (fun r e => by have := (hr r e).1; omega)⟩)
          (fun c s W W' row h _ _ => h)
          ⟨g10, KeepBut.refl _ _, hgB⟩
          (fun z => { tmps := #[.int .i64 a0, .int .i64 a1, undef, undef, .pointer (some ⟨w.heap.size, 0, none⟩), .pointer (some ⟨b, 0, none⟩), .pointer (some ⟨b + 1, 0, none⟩), .func (.func 26) #[] #[.pointer (some ⟨b + 1 + 1, 0, none⟩)], .pointer (some ⟨b + 1 + 1 + 1, 0, none⟩), undef, .pointer (some ⟨m, 0, none⟩), .int .i64 z, .int .i64 a0, .slice (some x) L.length cap, .slice (some x) L.length cap, .int .i64 (L.length : Int), .bool false, undef, undef, undef, undef, undef, undef, .int .i64 a1, .slice (some x) L.length cap, .int .i64 (L.length : Int), .int .i64 (q : Int), .int .i64 a0, .func (.func 26) #[] #[.pointer (some ⟨b + 1 + 1, 0, none⟩)], .func (.func 26) #[] #[.pointer (some ⟨b + 1 + 1, 0, none⟩)], undef, undef, undef, undef, undef, undef, undef, undef, undef, undef, undef, undef, .func (.func 26) #[] #[.pointer (some ⟨b + 1 + 1, 0, none⟩)], .int .i64 z, undef, undef, undef, undef, undef, undef, undef, undef, undef, undef, undef, undef, undef, undef, undef, undef, undef, undef, undef, undef, undef, undef, undef, undef, undef, undef], defers := [] }) ?assign2 ?body2 ?done2 ?stop2
        case assign2 =>
          intro l z W K hK
          gi_wp2
          exact hK
        case body2 =>
          rintro l pre z W ⟨hv, hk, hB⟩ hlt
          have e4 := hk.boxed g4 (by omega)
          have e5 := (hk.boxed g5 (by omega)).cell
          have e10 := hv.cell
          have f10 := hv.frozen
          have e4c := e4.cell
          have f4 := e4.frozen
          have hcell := (hgL.keep hk (by omega) (by omega) pre.length hlt).2
          have Hnp := Lib.hid (not_prefix (x := z) hlt)
          have HS := Lib.hid (SetE.snoc_len pre z)
          generalize L.getD pre.length 0 = y at hcell Hnp
          have hge : decide (L.length ≤ pre.length) = false := decide_eq_false (by omega)
          by_cases hzy : z = y
          · subst hzy
            have hbe : (z != z) = false := by simp
            gi_wp2
            exact ⟨(KeepsOthers.setCell _ _ _).from _, SetE.Kept.setCell _ _ (by omega), by rw [HS.out]; exact hv.set _, hk.setCell _, hB.setCell (p := ⟨m, 0, none⟩) (by simp; omega) _⟩
          · have hbe : (z != y) = true := by rw [bne_iff_ne]; exact hzy
            gi_wp2
            exact ⟨(KeepsOthers.setCell _ _ _).from _, rfl, Hnp.out hzy⟩
        case done2 =>
          rintro D2 ys W hD2 rfl ⟨hv, hk, hB⟩ hK2
          have e4 := hk.boxed g4 (by omega)
          have e5 := (hk.boxed g5 (by omega)).cell
          have e6 := (hk.boxed g6 (by omega)).cell
          have e8 := (hk.boxed g8 (by omega)).cell
          have e10 := hv.cell
          have hKD : W.heap[D]? = some (.deferred (some [])) := (hk.2 D (by omega) (by omega)).trans hgK
          have hD2W : D2 < W.heap.size := (Array.getElem?_eq_some_iff.1 hK2).1
          gi_wp2_with fail
          refine ⟨trivial, (callsIn_wide.2 (SetR.awake_any _)).mono ?_⟩
          rintro e w3 ⟨rfl, b3⟩
          have i4 : Boxed w3 w.heap.size 4 (.bool false) := (b3.block _ e4.lt).trans e4
          have iD2 : w3.heap[D2]? = some (.deferred (some [])) := (b3.block _ hD2W).trans hK2
          have iD : w3.heap[D]? = some (.deferred (some [])) := (b3.block _ (by have := hk.1; omega)).trans hKD
          have hB3 : Below w.heap.size w w3 := hB.trans (b3.mono hB.size)
          have hc4 := i4.cell
          have hf4 := i4.frozen
          clear e4 e5 e6 e8 e10 hv hk hB hK2 hKD b3
          gi_wp2
          have j4 := i4.set (.bool true)
          have jD2 : (w3.setCell ⟨w.heap.size, 0, none⟩ (.bool true)).heap[D2]? = some (.deferred (some [])) := (Below.heap_setCell _ _ _ D2 (by simp; omega)).trans iD2
          have jD : (w3.setCell ⟨w.heap.size, 0, none⟩ (.bool true)).heap[D]? = some (.deferred (some [])) := (Below.heap_setCell _ _ _ D (by simp; omega)).trans iD
          have jB := hB3.setCell (p := ⟨w.heap.size, 0, none⟩) (Nat.le_refl _) (.bool true)
          refine ⟨by simp, .inl ⟨_, _, rfl, run_takeDeferred jD2, ?_⟩⟩
          have kD : ((w3.setCell ⟨w.heap.size, 0, none⟩ (.bool true)).putObj D2 (.deferred none)).heap[D]? = some (.deferred (some [])) := (World.putObj_heap_other (by omega)).trans jD
          refine ⟨by simp, .inl ⟨_, _, rfl, run_takeDeferred kD, ?_⟩⟩
          have k4 := put_box (o := .deferred none) (put_box (o := .deferred none) j4 (show w.heap.size ≠ D2 by omega)) (show w.heap.size ≠ D by omega)
          have hc5 := k4.cell
          refine ⟨.bool true, ?_, rfl, ?_⟩
          · simp [results, Try.f7, go_sem, hc5]
          · exact (jB.trans (belowK_b (w := w) (Nat.le_refl _) _ D2 _ _ (by omega) jD2 rfl rfl)).trans (belowK_b (w := w) (Nat.le_refl _) _ D _ _ (by omega) kD rfl rfl)
        case stop2 =>
          rintro D2 c pre W hD2 hpre ⟨rfl, hn⟩ hK2
          exact absurd hpre hn
      · exact absurd hpre hn

/-! ### the row's step -/
set_option maxRecDepth 100000 in
theorem lifted (os : Os) (started : os.Started) (H : Type) (enc : TypeId × Value → H) :
    ReturnsInHanded {} Try.checked os 7 .any (Rows.setLeftSpec.pre6 enc Try.prog Try.f7 Rows.setLeftRow.domain false) (Rows.setLeftSpec.post enc Try.prog Try.f7 false true false false) := by
  refine returnsInHanded_of_change (C := Try.checked) own started (by kernel_rfl) Try.func7
    (ChangeSpec.witness6 (enc := enc) (C := Try.checked) false ⟨#[], #[.int .i64 0, .int .i64 0], []⟩ 8 (by kernel_rfl) (by kernel_rfl) (by kernel_rfl) (by kernel_rfl)) ?_
  intro W base args ds gs before hval0 hW hcnd _
  have hval : ∀ (j : Nat) t v, Try.f7.params[j]? = some t → args[j]? = some v → Value.okWide Try.prog W .any base t v := hval0
  have hW' := hW
  obtain ⟨p, q, hA0, hV, rfl, hfz, hnd⟩ := hW
  have hA : DataW.TrodAll enc Try.prog W 0 (fun _ => true) true Try.f7.params.toList args.toList ds p := hA0
  rw [Try.params7] at hA hval
  obtain ⟨v0, vs0, d0, ds0, p0, q0, hargs, rfl, rfl, h0, r0⟩ := trodAll_cons hA
  obtain ⟨v1, vs1, d1, ds1, p1, q1, rfl, rfl, rfl, h1, r1⟩ := trodAll_cons r0
  obtain ⟨rfl, rfl, rfl⟩ := trodAll_nil r1
  obtain rfl : args = #[v0, v1] := by cases args; simp_all
  obtain ⟨rfl, rfl⟩ := trodVars_none hV
  obtain ⟨a0, rfl, rfl, rfl, w0⟩ := open_int Try.underlying3 (hval 0 3 v0 rfl rfl) h0
  obtain ⟨a1, rfl, rfl, rfl, w1⟩ := open_int Try.underlying3 (hval 1 3 v1 rfl rfl) h1
  clear hA0 hval0
  simp only [List.append_nil] at hW'
  refine (walk a0 a1 W w0 w1).mono fun e W' ⟨he, bel⟩ => ?_
  subst he
  exact ⟨_, rfl, _, _, _, [], _, [], hW', trodAll_mk1 (shut_bool Try.underlying4 _), (trodAll_cons_mk (shut_int Try.underlying3 w0) (trodAll_cons_mk (shut_int Try.underlying3 w1) trodAll_mk0)), rfl, bel.frame _, fun h => by cases h⟩

theorem over : Rows.setLeftRow.holds Try.pinned (OpenSpec.ofChange Rows.setLeftSpec) :=
  OpenClaim.holds_of_wide 7 Try.f7 rfl rfl rfl rfl rfl rfl rfl ⟨rfl, rfl, rfl, rfl, rfl⟩ rfl rfl rfl rfl rfl (by kernel_rfl) Try.func7 (by kernel_rfl)
    (of_decide_eq_true (by kernel_rfl)) (by unfold Func.isWrapper; first | (rw [if_pos (by decide +kernel)]; kernel_rfl) | (rw [if_neg (by decide +kernel)]; exact ⟨rfl, rfl⟩))
    (fun os started H enc _ => lifted os started H enc)

/-- the statement -/
theorem proved : Rows.SetLeftSaid :=
  over
#print axioms proved
end Go.Proofs.Ytkmebfnhklbhiaa.setLeft
