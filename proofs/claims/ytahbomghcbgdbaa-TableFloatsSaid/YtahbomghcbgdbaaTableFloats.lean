/- TableFloats returns true at any two floats: levels and seconds may be just within their ranges, and two floats are one if their bits are. No condition. -/
import Derived.Test.YtahbomghcbgdbaaRows
import Derived.Test.YtahbomghcbgdbaaTwa
import Derived.Deep.Cut
import Derived.Great.BuildSlice
import Derived.WalkKit
import Derived.WalkLawsBesides
import Derived.ProofKit
import Derived.OpenShut
import Derived.ShutString
import Derived.ChangeOld
import Derived.Below
namespace Go.Proofs.Ytahbomghcbgdbaa.tableFloats
open Go.ChangeShapes Go.WideShapes Go.ChangeAt Go.RowKit
open Tab Clone Owned Go.Proofs.Fl
open May (infoT)
set_option linter.unusedVariables false
set_option linter.unusedSimpArgs false

theorem own : ownKnob Try.prog.godebug = none := by kernel_rfl
theorem laidOut : laidOutB Try.prog = true := by kernel_rfl

def detA (a : Nat) : Det := ⟨0, a, 4607182418800017408, 0, 0, 0, 0⟩
def detB (a : Nat) : Det := ⟨0, 4607182418800017408, 4607182418800017408, 0, a, 0, 0⟩
def tabOf (d : Det) : Tab := { zTab with dets := [d] }
def hdOf (g : Nat) : Hd := ⟨⟨none, 0⟩, at0 g 1, ⟨none, 0⟩, ⟨none, 0⟩⟩
set_option maxRecDepth 10000 in
theorem built_d (a : Option Addr) (n c : Nat) : Try.prog.built 31 [(3, .slice a n c)] = some ((zTab.cells zHd).set 113 (.slice a n c)).toArray := by kernel_rfl
set_option maxRecDepth 10000 in
theorem cells_of (d : Det) (g : Nat) : (zTab.cells zHd).set 113 (.slice (some ⟨g, 0, none⟩) 1 1) = (tabOf d).cells (hdOf g) := rfl
theorem tab_is {B : Nat} {w : World} {L : List Blk} {d : Det} {g : Nat} (h : Own B w L) (hx : (⟨g, d.cells, 44⟩ : Blk) ∈ L) : IsTab w (hdOf g) (tabOf d) :=
  ⟨rfl, rfl, rfl, ⟨[], rfl, RowOf.nil w, fun g hg => by simp at hg⟩, by
    have := Copy.row_of_block (n := 7) (enc := Det.cells) (fun _ => rfl) [d] (by have := h.get hx; simpa using this) (show 1 ≤ maxLen by decide)
    exact this, RowOf.nil w, RowOf.nil w⟩
theorem mayA (a : Nat) : May.tabMay (tabOf (detA a)) = MayF.level a := by
  have h : ∀ b : Bool, (May.listMay 8 May.Ph.may zTab.phases && (May.listMay 4 May.groupMay zTab.groups && (May.allIn 255 zTab.conflict && ((decide ((1 : Int) ≤ 16) && ((May.allIn 7 [0] && (b && (MayF.level 4607182418800017408 && (MayF.span 0 && (MayF.span 0 && May.allIn 9999 [0, 0]))))) && true)) &&
      (May.listMay 4 May.Rl.may zTab.rails && (May.listMay 4 May.Bs.may zTab.buses && (May.allIn 9999 [0, 0, 0, 0, 0] && (May.allIn 2 zTab.flash && May.allIn 2147483647 [0, 0])))))))) = b := by decide +kernel
  exact h (MayF.level a)
theorem mayB (a : Nat) : May.tabMay (tabOf (detB a)) = MayF.span a := by
  have h : ∀ b : Bool, (May.listMay 8 May.Ph.may zTab.phases && (May.listMay 4 May.groupMay zTab.groups && (May.allIn 255 zTab.conflict && ((decide ((1 : Int) ≤ 16) && ((May.allIn 7 [0] && (MayF.level 4607182418800017408 && (MayF.level 4607182418800017408 && (MayF.span 0 && (b && May.allIn 9999 [0, 0]))))) && true)) &&
      (May.listMay 4 May.Rl.may zTab.rails && (May.listMay 4 May.Bs.may zTab.buses && (May.allIn 9999 [0, 0, 0, 0, 0] && (May.allIn 2 zTab.flash && May.allIn 2147483647 [0, 0])))))))) = b := by decide +kernel
  exact h (MayF.span a)
theorem detB_inj (a b : Nat) : decide (tabOf (detB a) = tabOf (detB b)) = decide (a = b) := by
  by_cases h : a = b
  · rw [decide_eq_true h, decide_eq_true (by rw [h])]
  · rw [decide_eq_false h, decide_eq_false (fun e => h (by have := congrArg (fun T => (T.dets.map Det.extend)) e; simpa [tabOf, detB] using this))]
set_option maxRecDepth 10000 in
theorem size_is (d : Det) (g : Nat) : ((tabOf d).cells (hdOf g)).toArray.size = 131 := rfl
set_option maxRecDepth 10000 in
theorem one_is (d : Det) (g : Nat) : ((tabOf d).cells (hdOf g)).toArray.all (·.oneCell') = true := by simp [Tab.cells, tabOf, zTab, zPh, Ph.cells, Value.oneCell', hdOf]

/-! ### the walk -/
set_option maxRecDepth 10000 in
set_option maxHeartbeats 4000000 in
theorem walk (a0 : Nat) (a1 : Nat) (w : World) (w0 : (Lit.float .f64 a0).wf = true) (w1 : (Lit.float .f64 a1).wf = true) :
    Calls Try.prog 6 #[.float .f64 a0, .float .f64 a1] w fun e w' => e = .returned (.bool true) ∧ Below w.heap.size w w' := by
  have hz := (zero_of_info info31).1
  have hzs : (zTab.cells zHd).toArray.size = 131 := (cells_ok (z_is w)).size
  have HZS := Lib.hid hzs
  have BD := Lib.hid built_d
  have CE := Lib.hid cells_of
  clear hzs w0 w1
  generalize hZ : zTab.cells zHd = Z at hz HZS BD CE
  clear hZ
  go_enter Try.func6, Try.ntmps6
  go_upto_region 1 with fail
  go_upto_region 2 with (first | (refine Held.wpList_build1 rfl 31 3 _ rfl _ rfl ((tabOf (detA a0)).cells (hdOf w.heap.size)).toArray (by rw [← CE.out (detA a0) w.heap.size]; exact BD.out _ _ _) ?_) | (refine Row.wpList_store_new rfl 31 _ _ rfl _ Z.toArray ((tabOf (detA a0)).cells (hdOf w.heap.size)).toArray rfl (show Value.pointer (some ⟨w.heap.size + 1, 0, none⟩) = _ by simp) rfl (by rw [size_is]; exact infoT) (by rw [size_is]; exact HZS.out) (one_is _ _) ?_))
  have o0 : Own w.heap.size w [] := Own.nil
  have O0 := Lib.hid o0
  clear o0
  have B0 : Hid (Below w.heap.size w w) := Below.refl _ _
  have hb1 : Below w.heap.size w (w.alloc (.cells #[.int .i64 0, .float .f64 a0, .float .f64 4607182418800017408, .float .f64 0, .float .f64 0, .int .i64 0, .int .i64 0] 44)) := (Below.refl _ _).alloc (Nat.le_refl _) _
  have o1 := O0.out.add hb1 (heap_alloc_new _ _) (Nat.le_refl _) B0.out.size
  have b1 := B0.out.trans (hb1.mono B0.out.size)
  have hz1 : (w.alloc (.cells #[.int .i64 0, .float .f64 a0, .float .f64 4607182418800017408, .float .f64 0, .float .f64 0, .int .i64 0, .int .i64 0] 44)).heap.size = w.heap.size + 1 := by simp
  have hb2 : Below (w.alloc (.cells #[.int .i64 0, .float .f64 a0, .float .f64 4607182418800017408, .float .f64 0, .float .f64 0, .int .i64 0, .int .i64 0] 44)).heap.size (w.alloc (.cells #[.int .i64 0, .float .f64 a0, .float .f64 4607182418800017408, .float .f64 0, .float .f64 0, .int .i64 0, .int .i64 0] 44)) ((w.alloc (.cells #[.int .i64 0, .float .f64 a0, .float .f64 4607182418800017408, .float .f64 0, .float .f64 0, .int .i64 0, .int .i64 0] 44)).alloc (.cells ((tabOf (detA a0)).cells (hdOf w.heap.size)).toArray 31)) := (Below.refl _ _).alloc (Nat.le_refl _) _
  have o2 := o1.add hb2 (heap_alloc_new _ _) (Nat.le_refl _) b1.size
  have b2 := b1.trans (hb2.mono b1.size)
  have HG : w.heap.size + 1 = (w.alloc (.cells #[.int .i64 0, .float .f64 a0, .float .f64 4607182418800017408, .float .f64 0, .float .f64 0, .int .i64 0, .int .i64 0] 44)).heap.size := hz1.symm
  rw [hz1] at o2
  have O1 := Lib.hid o2
  have B1 := Lib.hid b2
  clear hb1 o1 b1 hz1 hb2 o2 b2 HG O0 B0
  generalize (World.alloc _ (.cells ((tabOf (detA a0)).cells (hdOf w.heap.size)).toArray 31)) = v1 at O1 B1 ⊢
  go_upto_region 3 with (first | (refine Held.wpList_build1 rfl 31 3 _ rfl _ rfl ((tabOf (detB a0)).cells (hdOf v1.heap.size)).toArray (by rw [← CE.out (detB a0) v1.heap.size]; exact BD.out _ _ _) ?_) | (refine Row.wpList_store_new rfl 31 _ _ rfl _ Z.toArray ((tabOf (detB a0)).cells (hdOf v1.heap.size)).toArray rfl (show Value.pointer (some ⟨v1.heap.size + 1, 0, none⟩) = _ by simp) rfl (by rw [size_is]; exact infoT) (by rw [size_is]; exact HZS.out) (one_is _ _) ?_))
  have hb1 : Below v1.heap.size v1 (v1.alloc (.cells #[.int .i64 0, .float .f64 4607182418800017408, .float .f64 4607182418800017408, .float .f64 0, .float .f64 a0, .int .i64 0, .int .i64 0] 44)) := (Below.refl _ _).alloc (Nat.le_refl _) _
  have o1 := O1.out.add hb1 (heap_alloc_new _ _) (Nat.le_refl _) B1.out.size
  have b1 := B1.out.trans (hb1.mono B1.out.size)
  have hz1 : (v1.alloc (.cells #[.int .i64 0, .float .f64 4607182418800017408, .float .f64 4607182418800017408, .float .f64 0, .float .f64 a0, .int .i64 0, .int .i64 0] 44)).heap.size = v1.heap.size + 1 := by simp
  have hb2 : Below (v1.alloc (.cells #[.int .i64 0, .float .f64 4607182418800017408, .float .f64 4607182418800017408, .float .f64 0, .float .f64 a0, .int .i64 0, .int .i64 0] 44)).heap.size (v1.alloc (.cells #[.int .i64 0, .float .f64 4607182418800017408, .float .f64 4607182418800017408, .float .f64 0, .float .f64 a0, .int .i64 0, .int .i64 0] 44)) ((v1.alloc (.cells #[.int .i64 0, .float .f64 4607182418800017408, .float .f64 4607182418800017408, .float .f64 0, .float .f64 a0, .int .i64 0, .int .i64 0] 44)).alloc (.cells ((tabOf (detB a0)).cells (hdOf v1.heap.size)).toArray 31)) := (Below.refl _ _).alloc (Nat.le_refl _) _
  have o2 := o1.add hb2 (heap_alloc_new _ _) (Nat.le_refl _) b1.size
  have b2 := b1.trans (hb2.mono b1.size)
  have HG : v1.heap.size + 1 = (v1.alloc (.cells #[.int .i64 0, .float .f64 4607182418800017408, .float .f64 4607182418800017408, .float .f64 0, .float .f64 a0, .int .i64 0, .int .i64 0] 44)).heap.size := hz1.symm
  rw [hz1] at o2
  have O2 := Lib.hid o2
  have B2 := Lib.hid b2
  clear hb1 o1 b1 hz1 hb2 o2 b2 HG O1 B1
  generalize v1.heap.size = g2 at O2 B2 ⊢
  generalize (World.alloc _ (.cells ((tabOf (detB a0)).cells (hdOf g2)).toArray 31)) = v2 at O2 B2 ⊢
  go_upto_region 4 with (first | (refine Held.wpList_build1 rfl 31 3 _ rfl _ rfl ((tabOf (detB a1)).cells (hdOf v2.heap.size)).toArray (by rw [← CE.out (detB a1) v2.heap.size]; exact BD.out _ _ _) ?_) | (refine Row.wpList_store_new rfl 31 _ _ rfl _ Z.toArray ((tabOf (detB a1)).cells (hdOf v2.heap.size)).toArray rfl (show Value.pointer (some ⟨v2.heap.size + 1, 0, none⟩) = _ by simp) rfl (by rw [size_is]; exact infoT) (by rw [size_is]; exact HZS.out) (one_is _ _) ?_))
  have hb1 : Below v2.heap.size v2 (v2.alloc (.cells #[.int .i64 0, .float .f64 4607182418800017408, .float .f64 4607182418800017408, .float .f64 0, .float .f64 a1, .int .i64 0, .int .i64 0] 44)) := (Below.refl _ _).alloc (Nat.le_refl _) _
  have o1 := O2.out.add hb1 (heap_alloc_new _ _) (Nat.le_refl _) B2.out.size
  have b1 := B2.out.trans (hb1.mono B2.out.size)
  have hz1 : (v2.alloc (.cells #[.int .i64 0, .float .f64 4607182418800017408, .float .f64 4607182418800017408, .float .f64 0, .float .f64 a1, .int .i64 0, .int .i64 0] 44)).heap.size = v2.heap.size + 1 := by simp
  have hb2 : Below (v2.alloc (.cells #[.int .i64 0, .float .f64 4607182418800017408, .float .f64 4607182418800017408, .float .f64 0, .float .f64 a1, .int .i64 0, .int .i64 0] 44)).heap.size (v2.alloc (.cells #[.int .i64 0, .float .f64 4607182418800017408, .float .f64 4607182418800017408, .float .f64 0, .float .f64 a1, .int .i64 0, .int .i64 0] 44)) ((v2.alloc (.cells #[.int .i64 0, .float .f64 4607182418800017408, .float .f64 4607182418800017408, .float .f64 0, .float .f64 a1, .int .i64 0, .int .i64 0] 44)).alloc (.cells ((tabOf (detB a1)).cells (hdOf v2.heap.size)).toArray 31)) := (Below.refl _ _).alloc (Nat.le_refl _) _
  have o2 := o1.add hb2 (heap_alloc_new _ _) (Nat.le_refl _) b1.size
  have b2 := b1.trans (hb2.mono b1.size)
  have HG : v2.heap.size + 1 = (v2.alloc (.cells #[.int .i64 0, .float .f64 4607182418800017408, .float .f64 4607182418800017408, .float .f64 0, .float .f64 a1, .int .i64 0, .int .i64 0] 44)).heap.size := hz1.symm
  rw [hz1] at o2
  have O3 := Lib.hid o2
  have B3 := Lib.hid b2
  clear hb1 o1 b1 hz1 hb2 o2 b2 HG O2 B2
  generalize v2.heap.size = g3 at O3 B3 ⊢
  generalize (World.alloc _ (.cells ((tabOf (detB a1)).cells (hdOf g3)).toArray 31)) = v3 at O3 B3 ⊢
  have OO : Hid (Own w.heap.size v3 [⟨g3 + 1, (tabOf (detB a1)).cells (hdOf g3), 31⟩, ⟨g3, (detB a1).cells, 44⟩, ⟨g2 + 1, (tabOf (detB a0)).cells (hdOf g2), 31⟩, ⟨g2, (detB a0).cells, 44⟩, ⟨w.heap.size + 1, (tabOf (detA a0)).cells (hdOf w.heap.size), 31⟩, ⟨w.heap.size, (detA a0).cells, 44⟩]) := O3.out
  generalize hLL : ([⟨g3 + 1, (tabOf (detB a1)).cells (hdOf g3), 31⟩, ⟨g3, (detB a1).cells, 44⟩, ⟨g2 + 1, (tabOf (detB a0)).cells (hdOf g2), 31⟩, ⟨g2, (detB a0).cells, 44⟩, ⟨w.heap.size + 1, (tabOf (detA a0)).cells (hdOf w.heap.size), 31⟩, ⟨w.heap.size, (detA a0).cells, 44⟩] : List Blk) = LL at OO
  have G1 : Hid ((⟨w.heap.size + 1, (tabOf (detA a0)).cells (hdOf w.heap.size), 31⟩ : Blk) ∈ LL ∧ (⟨w.heap.size, (detA a0).cells, 44⟩ : Blk) ∈ LL) := by subst hLL; exact ⟨by simp only [List.mem_cons, true_or, or_true], by simp only [List.mem_cons, true_or, or_true]⟩
  have G2 : Hid ((⟨g2 + 1, (tabOf (detB a0)).cells (hdOf g2), 31⟩ : Blk) ∈ LL ∧ (⟨g2, (detB a0).cells, 44⟩ : Blk) ∈ LL) := by subst hLL; exact ⟨by simp only [List.mem_cons, true_or, or_true], by simp only [List.mem_cons, true_or, or_true]⟩
  have G3 : Hid ((⟨g3 + 1, (tabOf (detB a1)).cells (hdOf g3), 31⟩ : Blk) ∈ LL ∧ (⟨g3, (detB a1).cells, 44⟩ : Blk) ∈ LL) := by subst hLL; exact ⟨by simp only [List.mem_cons, true_or, or_true], by simp only [List.mem_cons, true_or, or_true]⟩
  clear hLL O3 hz HZS BD CE
  have M1 : Hid (∀ W, Own w.heap.size W LL → Calls Try.prog 11 #[.agg ((tabOf (detA a0)).cells (hdOf w.heap.size)).toArray] W fun e w' => e = .returned (.bool (MayF.level a0)) ∧ Below W.heap.size W w') := fun W hW => by
    have := May.may_any _ _ W (tab_is hW G1.out.2)
    rwa [mayA] at this
  have M2 : Hid (∀ W, Own w.heap.size W LL → Calls Try.prog 11 #[.agg ((tabOf (detB a0)).cells (hdOf g2)).toArray] W fun e w' => e = .returned (.bool (MayF.span a0)) ∧ Below W.heap.size W w') := fun W hW => by
    have := May.may_any _ _ W (tab_is hW G2.out.2)
    rwa [mayB] at this
  have M3 : Hid (∀ W, Own w.heap.size W LL → Calls Try.prog 9 #[.agg ((tabOf (detB a0)).cells (hdOf g2)).toArray, .agg ((tabOf (detB a1)).cells (hdOf g3)).toArray] W fun e w' => e = .returned (.bool (decide (a0 = a1))) ∧ Below W.heap.size W w') := fun W hW => by
    have := Same.same_any _ _ _ _ W (tab_is hW G2.out.2) (tab_is hW G3.out.2)
    rwa [detB_inj] at this
  have M4 : Hid (∀ W, Own w.heap.size W LL → Calls Try.prog 9 #[.agg ((tabOf (detA a0)).cells (hdOf w.heap.size)).toArray, .agg ((tabOf (detA a0)).cells (hdOf w.heap.size)).toArray] W fun e w' => e = .returned (.bool true) ∧ Below W.heap.size W w') := fun W hW => by
    have := Same.same_any _ _ _ _ W (tab_is hW G1.out.2) (tab_is hW G1.out.2)
    rwa [decide_eq_true rfl] at this
  have Z1 := Lib.hid (size_is (detA a0) w.heap.size)
  have Z2 := Lib.hid (size_is (detB a0) g2)
  have Z3 := Lib.hid (size_is (detB a1) g3)
  have P1 := Lib.hid G1.out.1
  have P2 := Lib.hid G2.out.1
  have P3 := Lib.hid G3.out.1
  clear G1 G2 G3
  generalize (tabOf (detA a0)).cells (hdOf w.heap.size) = A1 at M1 M4 Z1 P1 ⊢
  generalize (tabOf (detB a0)).cells (hdOf g2) = A2 at M2 M3 Z2 P2 ⊢
  generalize (tabOf (detB a1)).cells (hdOf g3) = A3 at M3 Z3 P3 ⊢
  have CUR := Lib.hid (And.intro OO.out B3.out)
  clear OO B3
  generalize v3 = v at CUR ⊢
  (try dsimp only [Act.put])
  go_cut [8] from 22 (fun t8 wx => t8 = .bool true ∧ Own w.heap.size wx LL ∧ Below w.heap.size w wx)
  case first =>
    go_wp2_with (refine wpList_load_row rfl 31 _ rfl (w.heap.size + 1) rfl _ _ _ _ (CUR.out.1.get P1.out) Try.underlying31 rfl (by rw [Z1.out]; exact infoT) ?_)
    refine (M1.out _ CUR.out.1).mono ?_
    rintro e u ⟨rfl, hb⟩
    have CU2 : Hid (Own w.heap.size u LL ∧ Below w.heap.size w u) := ⟨CUR.out.1.step hb, CUR.out.2.trans (hb.mono CUR.out.2.size)⟩
    clear hb CUR M1 M2 M3 M4
    generalize hl : MayF.level a0 = lv
    have HL := Lib.hid hl
    clear hl
    cases hn : isn a0
    · have h0 := Secs.ord_cases a0 0 hn Secs.isn0
      have hT := Secs.ord_cases a0 4696837146684686336 hn MayF.isnM
      rw [Secs.key0] at h0
      rw [MayF.keyM] at hT
      have HN := Lib.hid hn
      clear hn
      rcases h0 with ⟨x, ho⟩ | ⟨x, ho⟩ | ⟨x, ho⟩
      all_goals rcases hT with ⟨y, ho2⟩ | ⟨y, ho2⟩ | ⟨y, ho2⟩
      all_goals
        have HA := Lib.hid x
        have HB := Lib.hid y
        clear x y
        go_wp2_with fail
        go_meet
        have x := HA.out
        have y := HB.out
        exact ⟨by rw [← HL.out]; unfold MayF.level; rw [HN.out]; first | (exfalso; omega) | (rw [decide_eq_true (by omega), decide_eq_true (by omega)]; simp) | (rw [decide_eq_false (by omega)]; simp) | (rw [decide_eq_false (p := key a0 ≤ _) (by omega)]; simp), CU2.out⟩
    · have ho := Secs.ord_nan a0 0 (.inl hn)
      have ho2 := Secs.ord_nan a0 4696837146684686336 (.inl hn)
      have HN := Lib.hid hn
      clear hn
      go_wp2_with fail
      go_meet
      exact ⟨by rw [← HL.out]; unfold MayF.level; rw [HN.out]; simp, CU2.out⟩
  case rest =>
  obtain ⟨rfl, hcut2⟩ := hcut
  have CUR := Lib.hid hcut2
  clear hcut2
  go_upto_region 5 with fail
  go_cut [9] from 31 (fun t9 wx => t9 = .bool true ∧ Own w.heap.size wx LL ∧ Below w.heap.size w wx)
  case first =>
    go_wp2_with (refine wpList_load_row rfl 31 _ rfl (g2 + 1) rfl _ _ _ _ (CUR.out.1.get P2.out) Try.underlying31 rfl (by rw [Z2.out]; exact infoT) ?_)
    refine (M2.out _ CUR.out.1).mono ?_
    rintro e u ⟨rfl, hb⟩
    have CU2 : Hid (Own w.heap.size u LL ∧ Below w.heap.size w u) := ⟨CUR.out.1.step hb, CUR.out.2.trans (hb.mono CUR.out.2.size)⟩
    clear hb CUR M1 M2 M3 M4
    generalize hl : MayF.span a0 = lv
    have HL := Lib.hid hl
    clear hl
    cases hn : isn a0
    · have h0 := Secs.ord_cases a0 0 hn Secs.isn0
      have hT := Secs.ord_cases a0 4652006429231887155 hn Secs.isnT
      rw [Secs.key0] at h0
      rw [Secs.keyT] at hT
      have HN := Lib.hid hn
      clear hn
      rcases h0 with ⟨x, ho⟩ | ⟨x, ho⟩ | ⟨x, ho⟩
      all_goals rcases hT with ⟨y, ho2⟩ | ⟨y, ho2⟩ | ⟨y, ho2⟩
      all_goals
        have HA := Lib.hid x
        have HB := Lib.hid y
        clear x y
        go_wp2_with (go_at_call 17; refine (MayF.signbit_any _ _).mono ?_; rintro e w' ⟨rfl, rfl⟩)
        go_meet
        have x := HA.out
        have y := HB.out
        exact ⟨by rw [← HL.out]; unfold MayF.span ok; rw [HN.out]; first | (exfalso; omega) | (rw [decide_eq_true (by omega), decide_eq_true (by omega)]; simp) | (rw [decide_eq_false (by omega)]; simp) | (rw [decide_eq_false (p := key a0 ≤ _) (by omega)]; simp), CU2.out⟩
    · have ho := Secs.ord_nan a0 0 (.inl hn)
      have ho2 := Secs.ord_nan a0 4652006429231887155 (.inl hn)
      have HN := Lib.hid hn
      clear hn
      go_wp2_with (go_at_call 17; refine (MayF.signbit_any _ _).mono ?_; rintro e w' ⟨rfl, rfl⟩)
      go_meet
      exact ⟨by rw [← HL.out]; unfold MayF.span ok; rw [HN.out]; simp, CU2.out⟩
  case rest =>
  obtain ⟨rfl, hcut2⟩ := hcut
  have CUR := Lib.hid hcut2
  have hbits := Secs.bits_call
  clear hcut2
  go_wp2_with (first | (refine Row.wpList_load_g 31 _ rfl (by first | rfl | go_simp) ⟨g2 + 1, 0, none⟩ rfl A2 _ (by have := Row.lies_of_block (CUR.out.1.get P2.out); simpa using this) Try.underlying31 rfl (by have := Z2.out; rw [List.size_toArray] at this; rw [this]; exact infoT) ?_) | (refine Row.wpList_load_g 31 _ rfl (by first | rfl | go_simp) ⟨g3 + 1, 0, none⟩ rfl A3 _ (by have := Row.lies_of_block (CUR.out.1.get P3.out); simpa using this) Try.underlying31 rfl (by have := Z3.out; rw [List.size_toArray] at this; rw [this]; exact infoT) ?_))
  refine (M3.out _ CUR.out.1).mono ?_
  rintro e u ⟨rfl, hb⟩
  have CU2 : Hid (Own w.heap.size u LL ∧ Below w.heap.size w u) := ⟨CUR.out.1.step hb, CUR.out.2.trans (hb.mono CUR.out.2.size)⟩
  clear hb CUR
  have heq : ((a0 : Int) == (a1 : Int)) = decide (a0 = a1) := by
    by_cases h : a0 = a1
    · simp [h]
    · rw [decide_eq_false h, beq_eq_false_iff_ne]; omega
  generalize hd : decide (a0 = a1) = dd at heq
  clear hd
  go_wp2_with (first | simp only [hbits] | (refine Row.wpList_load_g 31 _ rfl (by first | rfl | go_simp) ⟨w.heap.size + 1, 0, none⟩ rfl A1 _ (by have := Row.lies_of_block (CU2.out.1.get P1.out); simpa using this) Try.underlying31 rfl (by have := Z1.out; rw [List.size_toArray] at this; rw [this]; exact infoT) ?_))
  refine (M4.out _ CU2.out.1).mono ?_
  rintro e u2 ⟨rfl, hb⟩
  have CU3 : Hid (Own w.heap.size u2 LL ∧ Below w.heap.size w u2) := ⟨CU2.out.1.step hb, CU2.out.2.trans (hb.mono CU2.out.2.size)⟩
  clear hb CU2
  go_wp2_with fail
  refine (Wa.awake_any _).mono ?_
  rintro e u3 ⟨rfl, hb⟩
  have CU4 : Hid (Below w.heap.size w u3) := CU3.out.2.trans (hb.mono CU3.out.2.size)
  clear hb CU3
  go_wp2
  go_ret
  exact ⟨rfl, CU4.out⟩

/-! ### the row's step -/
set_option maxRecDepth 100000 in
theorem lifted (os : Os) (started : os.Started) (H : Type) (enc : TypeId × Value → H) :
    ReturnsInHanded {} Try.checked os 6 .any (Rows.tableFloatsSpec.pre6 enc Try.prog Try.f6 Rows.tableFloatsRow.domain false) (Rows.tableFloatsSpec.post enc Try.prog Try.f6 false true false false) := by
  refine returnsInHanded_of_change (C := Try.checked) own started (by kernel_rfl) Try.func6
    (ChangeSpec.witness6 (enc := enc) (C := Try.checked) false ⟨#[], #[.float .f64 0, .float .f64 0], []⟩ 8 (by kernel_rfl) (by kernel_rfl) (by kernel_rfl) (by kernel_rfl)) ?_
  intro W base args ds gs before hval0 hW hcnd _
  have hval : ∀ (j : Nat) t v, Try.f6.params[j]? = some t → args[j]? = some v → Value.okWide Try.prog W .any base t v := hval0
  have hW' := hW
  obtain ⟨p, q, hA0, hV, rfl, hfz, hnd⟩ := hW
  have hA : DataW.TrodAll enc Try.prog W 0 (fun _ => true) true Try.f6.params.toList args.toList ds p := hA0
  rw [Try.params6] at hA hval
  obtain ⟨v0, vs0, d0, ds0, p0, q0, hargs, rfl, rfl, h0, r0⟩ := trodAll_cons hA
  obtain ⟨v1, vs1, d1, ds1, p1, q1, rfl, rfl, rfl, h1, r1⟩ := trodAll_cons r0
  obtain ⟨rfl, rfl, rfl⟩ := trodAll_nil r1
  obtain rfl : args = #[v0, v1] := by cases args; simp_all
  obtain ⟨rfl, rfl⟩ := trodVars_none hV
  obtain ⟨a0, rfl, rfl, rfl, w0⟩ := open_float Try.underlying37 (hval 0 37 v0 rfl rfl) h0
  obtain ⟨a1, rfl, rfl, rfl, w1⟩ := open_float Try.underlying37 (hval 1 37 v1 rfl rfl) h1
  clear hA0 hval0
  simp only [List.append_nil] at hW'
  refine (walk a0 a1 W w0 w1).mono fun e W' ⟨he, bel⟩ => ?_
  subst he
  exact ⟨_, rfl, _, _, _, [], _, [], hW', trodAll_mk1 (shut_bool Try.underlying4 _), (trodAll_cons_mk (shut_float Try.underlying37 w0) (trodAll_cons_mk (shut_float Try.underlying37 w1) trodAll_mk0)), rfl, bel.frame _, fun h => by cases h⟩

theorem over : Rows.tableFloatsRow.holds Try.pinned (OpenSpec.ofChange Rows.tableFloatsSpec) :=
  OpenClaim.holds_of_wide 6 Try.f6 rfl rfl rfl rfl rfl rfl rfl ⟨rfl, rfl, rfl, rfl, rfl⟩ rfl rfl rfl rfl rfl (by kernel_rfl) Try.func6 (by kernel_rfl)
    (of_decide_eq_true (by kernel_rfl)) (by unfold Func.isWrapper; first | (rw [if_pos (by decide +kernel)]; kernel_rfl) | (rw [if_neg (by decide +kernel)]; exact ⟨rfl, rfl⟩))
    (fun os started H enc _ => lifted os started H enc)

/-- the statement -/
theorem proved : Rows.TableFloatsSaid :=
  over
#print axioms proved
end Go.Proofs.Ytahbomghcbgdbaa.tableFloats
