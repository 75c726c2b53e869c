/- 5 texts in one file, in build order. -/
import Derived.Test.YtfnpcfibgabmfaaRows
import Derived.Test.YtfnpcfibgabmfaaPart09
import Derived.Test.YtfnpcfibgabmfaaPart02
import Derived.Test.YtfnpcfibgabmfaaPart08
import Derived.Test.YtfnpcfibgabmfaaPart01
import Derived.Test.YtfnpcfibgabmfaaPart04
import Derived.StillTailTactics
import Derived.Deep.Cut
import Derived.Great.BuildSlice
import Derived.Test.YtfnpcfibgabmfaaPart03
import Derived.Test.YtfnpcfibgabmfaaPart05
import Derived.Deep.CutRange
set_option linter.unusedVariables false
set_option linter.unusedSimpArgs false
set_option linter.unusedSectionVars false
/- The table by numbers is within its ranges. No program in it. -/
namespace Go.Proofs.Ytfnpcfibgabmfaa.GenT
open Go Tab GenG PlaceM OnS Clone
open RefS (num num_range)
open May MayF
set_option linter.unusedVariables false
set_option linter.unusedSimpArgs false
theorem allIn_iff {m : Int} {l : List Int} : allIn m l = true ↔ ∀ x ∈ l, 0 ≤ x ∧ x ≤ m := by
  unfold allIn inB
  rw [List.all_eq_true]
  constructor
  · intro h x hx; have := h x hx; simpa using this
  · intro h x hx; have := h x hx; simpa using this
theorem listMay_iff {α : Type} {m : Int} {f : α → Bool} {l : List α} : listMay m f l = true ↔ (l.length : Int) ≤ m ∧ ∀ x ∈ l, f x = true := by
  unfold listMay
  rw [Bool.and_eq_true, decide_eq_true_eq, List.all_eq_true]
theorem upd_mem {α : Type} {f : Nat → α} {z : α} {n : Nat} {x : α} (h : x ∈ upd f z n) : x = z ∨ ∃ i, i < n ∧ i < 8 ∧ x = f i := by
  unfold upd at h
  rw [List.mem_map] at h
  obtain ⟨i, hi, rfl⟩ := h
  by_cases e : i < n
  · rw [if_pos e]; exact .inr ⟨i, e, List.mem_range.1 hi, rfl⟩
  · rw [if_neg e]; exact .inl rfl
theorem down_mem {α : Type} {f : Nat → α} {k : Nat} {x : α} : ∀ {j : Nat}, j ≤ k → x ∈ down f k j → ∃ i, 0 < i ∧ i ≤ k ∧ x = f i
  | 0, _, h => by simp [down] at h
  | j + 1, hj, h => by
    rw [down] at h
    rcases List.mem_append.1 h with h | h
    · exact down_mem (by omega) h
    · obtain rfl : x = f (k - j) := by simpa using h
      exact ⟨k - j, by omega, by omega, rfl⟩
theorem genPh_may (L : List Int) (i : Int) : Ph.may (GenP.genPh L i) = true := by
  have a0 := num_range L i 12 (by omega)
  have a1 := num_range L (i + 1) 9 (by omega)
  have a2 := num_range L (i + 2) 6 (by omega)
  have a3 := num_range L (i + 3) 4 (by omega)
  have a4 := num_range L (i + 4) 5 (by omega)
  have a5 := num_range L (i + 5) 25 (by omega)
  have a6 := num_range L (i + 6) 15 (by omega)
  have a8 := num_range L (i + 8) 10 (by omega)
  have b8 := num_range L (i + 8) 97 (by omega)
  have a9 := num_range L (i + 9) 7 (by omega)
  unfold Ph.may
  rw [Bool.and_eq_true, allIn_iff, allIn_iff]
  constructor
  · intro x hx
    simp only [GenP.genPh, List.mem_cons, List.not_mem_nil, or_false] at hx
    rcases hx with rfl | rfl | rfl | rfl | rfl | rfl | rfl | rfl | rfl
    · omega
    · omega
    · omega
    · omega
    · omega
    · omega
    · omega
    · split <;> omega
    · split <;> omega
  · intro x hx
    simp only [GenP.genPh, List.mem_cons, List.not_mem_nil, or_false] at hx
    subst hx
    unfold GenP.recall
    split <;> omega
theorem zPh_may : Ph.may zPh = true := by decide
theorem seg_may {p m : Nat} (h : p + m ≤ 8) (h2 : m ≤ 8) : rowMay (seg p m) = true := by
  unfold rowMay
  rw [Bool.and_eq_true, decide_eq_true_eq, allIn_iff, seg_len]
  exact ⟨h2, fun x hx => by have := mem_seg.1 hx; omega⟩
theorem up_may (L : List Int) (G : Nat) (hG : G ≤ 3) : ∀ g, g ≤ G → ∀ x ∈ (upTo L G g).1, groupMay x = true
  | 0, _ => fun x h => by simp [upTo] at h
  | g + 1, hg => fun x h => by
    have h8 := up_le L G hG (g + 1) hg
    have e2 : (upTo L G (g + 1)).2 = (upTo L G g).2 + n0 L G g (upTo L G g).2 + n1 L G g (upTo L G g).2 := rfl
    rw [e2] at h8
    rw [upTo] at h
    rcases List.mem_append.1 h with h | h
    · exact up_may L G hG g (by omega) x h
    · obtain rfl : x = grpD L G g (upTo L G g).2 := by simpa using h
      unfold groupMay grpD
      rw [seg_may (by omega) (by omega), seg_may (by omega) (by omega)]; rfl
theorem set_in {l : List Int} {m x : Int} {i : Nat} (h : ∀ y ∈ l, 0 ≤ y ∧ y ≤ m) (hx : 0 ≤ x ∧ x ≤ m) : ∀ y ∈ l.set i x, 0 ≤ y ∧ y ≤ m := fun y hy => by
  rcases List.mem_or_eq_of_mem_set hy with hy | rfl
  · exact h y hy
  · exact hx
theorem with_in (s p : Int) : 0 ≤ ((SetM.withN s p : Nat) : Int) ∧ ((SetM.withN s p : Nat) : Int) ≤ 255 := by have := SetM.with_lt s p; omega
theorem cset_in {L : List Int} {T : Tab} {p q : Nat} {C : List Int} (h : ∀ y ∈ C, 0 ≤ y ∧ y ≤ 255) : ∀ y ∈ cset L T p q C, 0 ≤ y ∧ y ≤ 255 := by
  unfold cset
  split
  · exact set_in (set_in h (with_in _ _)) (with_in _ _)
  · exact h
theorem crow_in {L : List Int} {T : Tab} {p : Nat} {C : List Int} (h : ∀ y ∈ C, 0 ≤ y ∧ y ≤ 255) : ∀ q, ∀ y ∈ crow L T p C q, 0 ≤ y ∧ y ≤ 255
  | 0 => h
  | q + 1 => cset_in (crow_in h q)
theorem call_in {L : List Int} {T : Tab} {C : List Int} (h : ∀ y ∈ C, 0 ≤ y ∧ y ≤ 255) : ∀ p, ∀ y ∈ call L T C p, 0 ≤ y ∧ y ≤ 255
  | 0 => h
  | p + 1 => crow_in (call_in h p) p
theorem lev_ok : ∀ x, x < 4 → ∀ y, y < 3 → level (GenD.onTab (x : Nat)) = true ∧ level (GenD.mulTab (x : Nat) (y : Nat)) = true := by decide +kernel
theorem span_ok : ∀ k, k < 6 → span (Fl.ofB k) = true := by decide +kernel
theorem genDet_may (L : List Int) (i : Int) (n : Nat) (n0 : 0 < n) (n8 : n ≤ 8) : Det.may (GenD.genDet L i n) = true := by
  have a0 := num_range L i n (by omega)
  obtain ⟨x1, h1⟩ := Int.eq_ofNat_of_zero_le (num_range L (i + 1) 4 (by omega)).1
  obtain ⟨x2, h2⟩ := Int.eq_ofNat_of_zero_le (num_range L (i + 2) 3 (by omega)).1
  have b1 := (num_range L (i + 1) 4 (by omega)).2
  have b2 := (num_range L (i + 2) 3 (by omega)).2
  have a3 := num_range L (i + 3) 4 (by omega)
  have a4 := num_range L (i + 4) 6 (by omega)
  have a6 := num_range L (i + 6) 60 (by omega)
  have a7 := num_range L (i + 7) 300 (by omega)
  have e := lev_ok x1 (by omega) x2 (by omega)
  unfold Det.may GenD.genDet
  simp only [Bool.and_eq_true, allIn_iff]
  refine ⟨?_, ?_, ?_, ?_, ?_, ?_⟩
  · intro x hx; simp at hx; omega
  · rw [h1]; exact e.1
  · rw [h1, h2]; exact e.2
  · exact span_ok _ (by omega)
  · exact span_ok _ (by omega)
  · intro x hx
    simp only [List.mem_cons, List.not_mem_nil, or_false] at hx
    rcases hx with rfl | rfl
    · split <;> omega
    · split <;> omega
theorem and_in (x m : Int) (h : 0 ≤ x ∧ x ≤ 255) : 0 ≤ bits .and .i64 x m ∧ bits .and .i64 x m ≤ 255 := by
  obtain ⟨k, rfl⟩ := Int.eq_ofNat_of_zero_le h.1
  have e : bits .and .i64 (k : Int) m = IntKind.i64.wrap (((BitVec.ofInt 64 (k : Int) &&& BitVec.ofInt 64 m).toNat : Nat) : Int) := rfl
  have hk : (BitVec.ofInt 64 (k : Int)).toNat = k := by rw [BitVec.ofInt_natCast, BitVec.toNat_ofNat]; omega
  have hl : (BitVec.ofInt 64 (k : Int) &&& BitVec.ofInt 64 m).toNat ≤ k := by rw [BitVec.toNat_and, hk]; exact Nat.and_le_left
  rw [e, IntKind.wrap_i64]
  omega
theorem andNot_in (x m : Int) (h : 0 ≤ x ∧ x ≤ 255) : 0 ≤ bits .andNot .i64 x m ∧ bits .andNot .i64 x m ≤ 255 := by
  obtain ⟨k, rfl⟩ := Int.eq_ofNat_of_zero_le h.1
  have e : bits .andNot .i64 (k : Int) m = IntKind.i64.wrap (((BitVec.ofInt 64 (k : Int) &&& ~~~ BitVec.ofInt 64 m).toNat : Nat) : Int) := rfl
  have hk : (BitVec.ofInt 64 (k : Int)).toNat = k := by rw [BitVec.ofInt_natCast, BitVec.toNat_ofNat]; omega
  have hl : (BitVec.ofInt 64 (k : Int) &&& ~~~ BitVec.ofInt 64 m).toNat ≤ k := by rw [BitVec.toNat_and, hk]; exact Nat.and_le_left
  rw [e, IntKind.wrap_i64]
  omega
theorem withS_in (T : Tab) (p q : Int) : 0 ≤ GenW.withS T p q ∧ GenW.withS T p q ≤ 255 := by
  unfold GenW.withS
  split
  · exact with_in _ _
  · have := SetM.of_lt [p]; omega
theorem genRl_may (T : Tab) (L : List Int) (i : Int) (n : Nat) (n0 : 0 < n) (n8 : n ≤ 8) : Rl.may (GenR.genRl T L i n) = true := by
  have a6 := num_range L (i + 6) 10 (by omega)
  have a7 := num_range L (i + 7) 256 (by omega)
  have a8 := num_range L (i + 8) 4 (by omega)
  have a9 := num_range L (i + 9) 6 (by omega)
  have aa := num_range L (i + 10) 6 (by omega)
  have ab := num_range L (i + 11) 15 (by omega)
  have ad := num_range L (i + 13) 30 (by omega)
  have al := GenR.lim_range (num L (i + 14) 3)
  unfold Rl.may
  simp only [Bool.and_eq_true, allIn_iff]
  refine ⟨?_, ?_, ?_⟩
  · intro x hx
    simp only [GenR.genRl, List.mem_cons, List.not_mem_nil, or_false] at hx
    rcases hx with rfl | rfl | rfl | rfl
    · exact andNot_in _ _ (and_in _ _ (by omega))
    · split
      · exact withS_in _ _ _
      · omega
    · exact withS_in _ _ _
    · exact withS_in _ _ _
  · intro x hx
    simp only [GenR.genRl, List.mem_cons, List.not_mem_nil, or_false] at hx
    rcases hx with rfl | rfl | rfl | rfl | rfl | rfl
    · omega
    · omega
    · omega
    · split <;> omega
    · omega
    · split <;> omega
  · intro x hx
    simp only [GenR.genRl, List.mem_cons, List.not_mem_nil, or_false] at hx
    subst hx
    omega
theorem genBs_may (L : List Int) (i n : Nat) : Bs.may (genBs L i n) = true := by
  have a0 := num_range L (330 + 2 * i) 256 (by omega)
  have a1 := num_range L (331 + 2 * i) 30 (by omega)
  have b := and_in (num L (330 + 2 * i) 256) (GenR.maskV n) (by omega)
  unfold Bs.may
  simp only [Bool.and_eq_true, allIn_iff]
  constructor
  · intro x hx
    simp only [genBs, List.mem_cons, List.not_mem_nil, or_false] at hx
    subst hx
    omega
  · intro x hx
    simp only [genBs, List.mem_cons, List.not_mem_nil, or_false] at hx
    subst hx
    omega
theorem sums_in (l : List Int) : 0 ≤ RefC.sums l ∧ RefC.sums l ≤ 2147483647 := by
  unfold RefC.sums
  have h : ∀ (l : List Int) (a : Int), 0 ≤ a ∧ a ≤ 2147483647 → 0 ≤ l.foldl RefC.add a ∧ l.foldl RefC.add a ≤ 2147483647 := by
    intro l
    induction l with
    | nil => intro a h; exact h
    | cons x l ih => intro a _; exact ih _ ⟨RefC.cap_lo _, RefC.cap_hi _⟩
  exact h l 0 (by omega)
theorem wait_in (T : Tab) (p : Int) : 0 ≤ WaitS.waitS T p ∧ WaitS.waitS T p ≤ 2147483647 := by
  have hf : 0 ≤ FreeS.freeS T p ∧ FreeS.freeS T p ≤ 2147483647 := by
    unfold FreeS.freeS
    split
    · split
      · exact sums_in _
      · omega
    · omega
  unfold WaitS.waitS
  split
  · exact hf
  · exact sums_in _
theorem maxW_in (T : Tab) : ∀ p, 0 ≤ maxW T p ∧ maxW T p ≤ 2147483647
  | 0 => by show (0 : Int) ≤ 0 ∧ (0 : Int) ≤ 2147483647; omega
  | p + 1 => by
    have h1 := maxW_in T p
    have h2 := wait_in T p
    show 0 ≤ max (maxW T p) (WaitS.waitS T p) ∧ max (maxW T p) (WaitS.waitS T p) ≤ 2147483647
    omega
theorem maxW_ge (T : Tab) : ∀ (n p : Nat), p < n → WaitS.waitS T p ≤ maxW T n
  | 0, p, h => by omega
  | n + 1, p, h => by
    show WaitS.waitS T p ≤ max (maxW T n) (WaitS.waitS T n)
    by_cases e : p = n
    · subst e; omega
    · have := maxW_ge T n p (by omega); omega
/-- By any numbers the table is within its ranges. -/
theorem gen_may (L : List Int) : tabMay (genTab L) = true := by
  obtain ⟨g1, g3⟩ := genG_range L
  have n8 := genN_range L
  have n1 := genN_pos L
  have d9 := num_range L 175 9 (by omega)
  have r4 := num_range L 176 4 (by omega)
  have b3 := num_range L 177 3 (by omega)
  have hD : (genTab L).dets = down (fun i : Nat => GenD.genDet L (180 + 8 * i) (genN L)) (num L 175 9).toNat (num L 175 9).toNat := by unfold genTab; split <;> rfl
  have hR : (genTab L).rails = down (fun i : Nat => GenR.genRl (tab1 L) L (260 + 16 * i) (genN L)) (num L 176 4 % 3).toNat (num L 176 4 % 3).toNat := by unfold genTab; split <;> rfl
  have hB : (genTab L).buses = down (fun i : Nat => genBs L i (genN L)) (num L 177 3).toNat (num L 177 3).toNat := by unfold genTab; split <;> rfl
  have hC : (genTab L).conflict = call L (tab1 L) [0, 0, 0, 0, 0, 0, 0, 0] (genN L) := by
    have h : (tabF L).conflict = call L (tab1 L) [0, 0, 0, 0, 0, 0, 0, 0] (genN L) := by unfold tabF; split <;> rfl
    unfold genTab; split <;> exact h
  have hF : ∀ y ∈ (genTab L).flash, 0 ≤ y ∧ y ≤ 2 := by
    have hu : ∀ y ∈ upd (fun _ => (1 : Int)) 0 (genN L), 0 ≤ y ∧ y ≤ 2 := fun y hy => by rcases upd_mem hy with rfl | ⟨i, _, _, rfl⟩ <;> omega
    have h : ∀ y ∈ (tabF L).flash, 0 ≤ y ∧ y ≤ 2 := by
      unfold tabF; split
      · exact set_in hu (by omega)
      · exact hu
    unfold genTab; split <;> exact h
  have hS : ∀ y ∈ [(genTab L).extend, (genTab L).budget, (genTab L).start, (genTab L).revert, (genTab L).least], 0 ≤ y ∧ y ≤ 9999 := by
    have h : ∀ y ∈ [num L 178 12, num L 179 40, num L 180 8, num L 181 8, num L 182 12], 0 ≤ y ∧ y ≤ 9999 := by
      have a := num_range L 178 12 (by omega)
      have b := num_range L 179 40 (by omega)
      have c := num_range L 180 8 (by omega)
      have d := num_range L 181 8 (by omega)
      have e := num_range L 182 12 (by omega)
      intro y hy
      simp only [List.mem_cons, List.not_mem_nil, or_false] at hy
      rcases hy with rfl | rfl | rfl | rfl | rfl <;> omega
    unfold genTab; split <;> exact h
  have hW : ∀ y ∈ [(genTab L).window, (genTab L).share], 0 ≤ y ∧ y ≤ 2147483647 := by
    have s := num_range L 183 4 (by omega)
    have w0 : (tabS L).window = 0 := by have := congrArg Tab.window (tabS_window L); exact this.symm
    have w := maxW_in (tabS L) (genN L)
    unfold genTab; split
    · intro y hy
      simp only [List.mem_cons, List.not_mem_nil, or_false] at hy
      rcases hy with rfl | rfl
      · rw [w0]; omega
      · show 0 ≤ num L 183 4 ∧ num L 183 4 ≤ 2147483647; omega
    · intro y hy
      simp only [List.mem_cons, List.not_mem_nil, or_false] at hy
      rcases hy with rfl | rfl
      · exact w
      · show 0 ≤ num L 183 4 ∧ num L 183 4 ≤ 2147483647; omega
  unfold tabMay
  simp only [Bool.and_eq_true, listMay_iff, allIn_iff]
  refine ⟨⟨?_, ?_⟩, ⟨?_, ?_⟩, ?_, ⟨?_, ?_⟩, ⟨?_, ?_⟩, ⟨?_, ?_⟩, hS, hF, hW⟩
  · rw [genTab_phases, upd_len]; decide
  · rw [genTab_phases]
    intro x hx
    rcases upd_mem hx with rfl | ⟨i, _, _, rfl⟩
    · exact zPh_may
    · exact genPh_may _ _
  · rw [genTab_groups, genGs_len]; omega
  · rw [genTab_groups]; exact up_may L (genG L) g3 _ (Nat.le_refl _)
  · rw [hC]; exact call_in (fun y hy => by simp at hy; omega) _
  · rw [hD, down_len]; omega
  · rw [hD]
    intro x hx
    obtain ⟨i, _, _, rfl⟩ := down_mem (Nat.le_refl _) hx
    exact genDet_may _ _ _ (by omega) n8
  · rw [hR, down_len]; omega
  · rw [hR]
    intro x hx
    obtain ⟨i, _, _, rfl⟩ := down_mem (Nat.le_refl _) hx
    exact genRl_may _ _ _ _ (by omega) n8
  · rw [hB, down_len]; omega
  · rw [hB]
    intro x hx
    obtain ⟨i, _, _, rfl⟩ := down_mem (Nat.le_refl _) hx
    exact genBs_may _ _ _
end Go.Proofs.Ytfnpcfibgabmfaa.GenT
/- A boxed table of a call's own: what it becomes where a number is written, or a list grows. -/
namespace Go.Proofs.Ytfnpcfibgabmfaa.BendU
open Go Go.RowKit
open Tab Gath GenG GenT Clone
set_option linter.unusedVariables false
set_option linter.unusedSimpArgs false
/-- A boxed table, all of whose lists are the call's own (laid since B). -/
structure Ux (w0 : World) (tb : Nat) (hd : Hd) (T : Tab) (W : World) : Prop where
  bel : Below w0.heap.size w0 W
  tbB : w0.heap.size ≤ tb
  blk : W.heap[tb]? = some (.cells (T.cells hd).toArray 33 (0, 0))
  ph : T.phases.length = 8
  cf : T.conflict.length = 8
  fl : T.flash.length = 8
  groups : GrT W hd.g T.groups
  dets : Owns Det.cells 7 w0.heap.size W 44 (hd.d.val T.dets.length) T.dets
  rails : Owns Rl.cells 11 w0.heap.size W 46 (hd.r.val T.rails.length) T.rails
  buses : Owns Bs.cells 2 w0.heap.size W 48 (hd.b.val T.buses.length) T.buses
theorem Ux.tab {w0 : World} {tb : Nat} {W : World} {hd : Hd} {T : Tab} (h : Ux w0 tb hd T W) : IsTab W hd T :=
  ⟨h.ph, h.cf, h.fl, h.groups.lie, own_is (fun _ => rfl) h.dets, own_is (fun _ => rfl) h.rails, own_is (fun _ => rfl) h.buses⟩
theorem Ux.size {w0 : World} {tb : Nat} {W : World} {hd : Hd} {T : Tab} (h : Ux w0 tb hd T W) : tb < W.heap.size := (Array.getElem?_eq_some_iff.1 h.blk).1
theorem Ux.step {w0 : World} {tb : Nat} {W W' : World} {hd : Hd} {T : Tab} (h : Ux w0 tb hd T W) (hb : Below W.heap.size W W') : Ux w0 tb hd T W' :=
  ⟨h.bel.trans (hb.mono h.bel.size), h.tbB, (hb.block _ h.size).trans h.blk, h.ph, h.cf, h.fl, h.groups.grown (grown_below hb none) (fun m e => by cases e), h.dets.below hb, h.rails.below hb, h.buses.below hb⟩
/-- A block that is neither of the two boxes nor another type's is written. -/
theorem Ux.cell {w0 : World} {tb : Nat} {W : World} {hd : Hd} {T : Tab} (h : Ux w0 tb hd T W) (i : Nat) : W.cell? ⟨tb, i, none⟩ = (T.cells hd)[i]? := by
  rw [cell_of_row _ _ _ _ _ _ h.blk]; simp
theorem Ux.frozen {w0 : World} {tb : Nat} {W : World} {hd : Hd} {T : Tab} (h : Ux w0 tb hd T W) (i : Nat) : W.frozen? ⟨tb, i, none⟩ = false := frozen_of_row _ _ _ _ _ h.blk
/-- The table's box is written; its lists stay. -/
theorem Ux.write {w0 : World} {tb : Nat} {W W' : World} {hd : Hd} {T U : Tab} (h : Ux w0 tb hd T W) (hg : W.grownBy W' (some (tb))) (hb : W'.heap[tb]? = some (.cells (U.cells hd).toArray 33 (0, 0)))
    (h1 : U.phases.length = 8) (h2 : U.conflict.length = 8) (h3 : U.flash.length = 8) (e1 : U.groups = T.groups) (e2 : U.dets = T.dets) (e3 : U.rails = T.rails) (e4 : U.buses = T.buses) : Ux w0 tb hd U W' := by
  refine ⟨h.bel.grown hg h.bel.size (fun k hk => by cases hk; exact h.tbB), h.tbB, hb, h1, h2, h3, ?_, ?_, ?_, ?_⟩
  · rw [e1]
    exact h.groups.grown hg (fun m e => by cases e; exact ⟨_, _, h.blk, by decide, by decide⟩)
  · rw [e2]; exact own_kept h.dets hg (fun m hm e => by cases e; exact own_ne h.dets h.blk (by decide) hm)
  · rw [e3]; exact own_kept h.rails hg (fun m hm e => by cases e; exact own_ne h.rails h.blk (by decide) hm)
  · rw [e4]; exact own_kept h.buses hg (fun m hm e => by cases e; exact own_ne h.buses h.blk (by decide) hm)
/-- One number of the table. -/
theorem Ux.set {w0 : World} {tb : Nat} {W : World} {hd : Hd} {T U : Tab} (h : Ux w0 tb hd T W) (i : Nat) (v : Value) (hc : (T.cells hd).set i v = U.cells hd)
    (h1 : U.phases.length = 8) (h2 : U.conflict.length = 8) (h3 : U.flash.length = 8) (e1 : U.groups = T.groups) (e2 : U.dets = T.dets) (e3 : U.rails = T.rails) (e4 : U.buses = T.buses) : Ux w0 tb hd U (W.setCell ⟨tb, i, none⟩ v) :=
  h.write (grown_set _ _ _ _) (by rw [heap_setCell_same _ _ _ _ _ _ h.blk, ← hc]; simp) h1 h2 h3 e1 e2 e3 e4
theorem Ux.put_dets {w0 : World} {tb : Nat} {W W' : World} {hd : Hd} {T : Tab} {v' : Value} (x : Det) (h : Ux w0 tb hd T W) (hg : W.grownBy W' (hd.d.val T.dets.length).ownBlock)
    (ho : W'.ownsRow w0.heap.size 44 7 v' (T.dets.length + 1) (T.dets.flatMap Det.cells ++ x.cells)) :
    (W'.heap[tb]? = some (.cells (T.cells hd).toArray 33 (0, 0))) ∧ ∃ a' c', v' = .slice a' (T.dets.length + 1) c' ∧ Ux w0 tb ⟨hd.g, ⟨a', c'⟩, hd.r, hd.b⟩ { T with dets := T.dets ++ [x] } (W'.setCell ⟨tb, 113, none⟩ v') := by
  have hne : ∀ {b : Nat} {cs : Array Value}, W.heap[b]? = some (.cells cs 33 (0, 0)) → some b ≠ (hd.d.val T.dets.length).ownBlock := fun hb e => own_ne h.dets hb (by decide) e.symm
  have hbx := (hg.block _ h.size (hne h.blk)).trans h.blk
  have hO : Owns Det.cells 7 w0.heap.size W' 44 v' (T.dets ++ [x]) := Owns.snoc ho
  obtain ⟨⟨a', c'⟩, hs, hr⟩ := Owns.row hO (fun _ => rfl)
  refine ⟨hbx, a', c', by rw [hs, List.length_append]; rfl, ?_⟩
  refine ⟨?_, h.tbB, ?_, h.ph, h.cf, h.fl, ?_, by rw [show Sl.val ⟨a', c'⟩ (T.dets ++ [x]).length = v' from by rw [hs]]; exact own_kept hO (grown_set _ _ _ _) (fun m hm e => by cases e; exact own_ne hO hbx (by decide) hm), own_kept (own_kept h.rails hg (fun m hm e => by obtain ⟨ds, hd2⟩ := own_type h.dets _ e; exact own_ne h.rails hd2 (by decide) hm)) (grown_set _ _ _ _) (fun m hm e => by cases e; exact own_ne (own_kept h.rails hg (fun m hm e => by obtain ⟨ds, hd2⟩ := own_type h.dets _ e; exact own_ne h.rails hd2 (by decide) hm)) hbx (by decide) hm), own_kept (own_kept h.buses hg (fun m hm e => by obtain ⟨ds, hd2⟩ := own_type h.dets _ e; exact own_ne h.buses hd2 (by decide) hm)) (grown_set _ _ _ _) (fun m hm e => by cases e; exact own_ne (own_kept h.buses hg (fun m hm e => by obtain ⟨ds, hd2⟩ := own_type h.dets _ e; exact own_ne h.buses hd2 (by decide) hm)) hbx (by decide) hm)⟩
  · exact (h.bel.grown hg h.bel.size (fun k hk => h.dets.blk k hk)).setCell (p := ⟨tb, 113, none⟩) h.tbB v'
  · rw [heap_setCell_same _ _ _ _ _ _ hbx, ← cells_dets hd h.ph h.cf ⟨a', c'⟩ (T.dets ++ [x]), ← hs]; simp
  · exact (h.groups.grown hg (fun m e => by obtain ⟨ds, hd2⟩ := own_type h.dets _ e; exact ⟨ds, _, hd2, by decide, by decide⟩)).grown (grown_set _ _ _ _) (fun m e => by cases e; exact ⟨_, _, hbx, by decide, by decide⟩)
theorem Ux.put_rails {w0 : World} {tb : Nat} {W W' : World} {hd : Hd} {T : Tab} {v' : Value} (x : Rl) (h : Ux w0 tb hd T W) (hg : W.grownBy W' (hd.r.val T.rails.length).ownBlock)
    (ho : W'.ownsRow w0.heap.size 46 11 v' (T.rails.length + 1) (T.rails.flatMap Rl.cells ++ x.cells)) :
    (W'.heap[tb]? = some (.cells (T.cells hd).toArray 33 (0, 0))) ∧ ∃ a' c', v' = .slice a' (T.rails.length + 1) c' ∧ Ux w0 tb ⟨hd.g, hd.d, ⟨a', c'⟩, hd.b⟩ { T with rails := T.rails ++ [x] } (W'.setCell ⟨tb, 114, none⟩ v') := by
  have hne : ∀ {b : Nat} {cs : Array Value}, W.heap[b]? = some (.cells cs 33 (0, 0)) → some b ≠ (hd.r.val T.rails.length).ownBlock := fun hb e => own_ne h.rails hb (by decide) e.symm
  have hbx := (hg.block _ h.size (hne h.blk)).trans h.blk
  have hO : Owns Rl.cells 11 w0.heap.size W' 46 v' (T.rails ++ [x]) := Owns.snoc ho
  obtain ⟨⟨a', c'⟩, hs, hr⟩ := Owns.row hO (fun _ => rfl)
  refine ⟨hbx, a', c', by rw [hs, List.length_append]; rfl, ?_⟩
  refine ⟨?_, h.tbB, ?_, h.ph, h.cf, h.fl, ?_, own_kept (own_kept h.dets hg (fun m hm e => by obtain ⟨ds, hd2⟩ := own_type h.rails _ e; exact own_ne h.dets hd2 (by decide) hm)) (grown_set _ _ _ _) (fun m hm e => by cases e; exact own_ne (own_kept h.dets hg (fun m hm e => by obtain ⟨ds, hd2⟩ := own_type h.rails _ e; exact own_ne h.dets hd2 (by decide) hm)) hbx (by decide) hm), by rw [show Sl.val ⟨a', c'⟩ (T.rails ++ [x]).length = v' from by rw [hs]]; exact own_kept hO (grown_set _ _ _ _) (fun m hm e => by cases e; exact own_ne hO hbx (by decide) hm), own_kept (own_kept h.buses hg (fun m hm e => by obtain ⟨ds, hd2⟩ := own_type h.rails _ e; exact own_ne h.buses hd2 (by decide) hm)) (grown_set _ _ _ _) (fun m hm e => by cases e; exact own_ne (own_kept h.buses hg (fun m hm e => by obtain ⟨ds, hd2⟩ := own_type h.rails _ e; exact own_ne h.buses hd2 (by decide) hm)) hbx (by decide) hm)⟩
  · exact (h.bel.grown hg h.bel.size (fun k hk => h.rails.blk k hk)).setCell (p := ⟨tb, 114, none⟩) h.tbB v'
  · rw [heap_setCell_same _ _ _ _ _ _ hbx, ← cells_rails hd h.ph h.cf ⟨a', c'⟩ (T.rails ++ [x]), ← hs]; simp
  · exact (h.groups.grown hg (fun m e => by obtain ⟨ds, hd2⟩ := own_type h.rails _ e; exact ⟨ds, _, hd2, by decide, by decide⟩)).grown (grown_set _ _ _ _) (fun m e => by cases e; exact ⟨_, _, hbx, by decide, by decide⟩)
theorem Ux.put_buses {w0 : World} {tb : Nat} {W W' : World} {hd : Hd} {T : Tab} {v' : Value} (x : Bs) (h : Ux w0 tb hd T W) (hg : W.grownBy W' (hd.b.val T.buses.length).ownBlock)
    (ho : W'.ownsRow w0.heap.size 48 2 v' (T.buses.length + 1) (T.buses.flatMap Bs.cells ++ x.cells)) :
    (W'.heap[tb]? = some (.cells (T.cells hd).toArray 33 (0, 0))) ∧ ∃ a' c', v' = .slice a' (T.buses.length + 1) c' ∧ Ux w0 tb ⟨hd.g, hd.d, hd.r, ⟨a', c'⟩⟩ { T with buses := T.buses ++ [x] } (W'.setCell ⟨tb, 115, none⟩ v') := by
  have hne : ∀ {b : Nat} {cs : Array Value}, W.heap[b]? = some (.cells cs 33 (0, 0)) → some b ≠ (hd.b.val T.buses.length).ownBlock := fun hb e => own_ne h.buses hb (by decide) e.symm
  have hbx := (hg.block _ h.size (hne h.blk)).trans h.blk
  have hO : Owns Bs.cells 2 w0.heap.size W' 48 v' (T.buses ++ [x]) := Owns.snoc ho
  obtain ⟨⟨a', c'⟩, hs, hr⟩ := Owns.row hO (fun _ => rfl)
  refine ⟨hbx, a', c', by rw [hs, List.length_append]; rfl, ?_⟩
  refine ⟨?_, h.tbB, ?_, h.ph, h.cf, h.fl, ?_, own_kept (own_kept h.dets hg (fun m hm e => by obtain ⟨ds, hd2⟩ := own_type h.buses _ e; exact own_ne h.dets hd2 (by decide) hm)) (grown_set _ _ _ _) (fun m hm e => by cases e; exact own_ne (own_kept h.dets hg (fun m hm e => by obtain ⟨ds, hd2⟩ := own_type h.buses _ e; exact own_ne h.dets hd2 (by decide) hm)) hbx (by decide) hm), own_kept (own_kept h.rails hg (fun m hm e => by obtain ⟨ds, hd2⟩ := own_type h.buses _ e; exact own_ne h.rails hd2 (by decide) hm)) (grown_set _ _ _ _) (fun m hm e => by cases e; exact own_ne (own_kept h.rails hg (fun m hm e => by obtain ⟨ds, hd2⟩ := own_type h.buses _ e; exact own_ne h.rails hd2 (by decide) hm)) hbx (by decide) hm), by rw [show Sl.val ⟨a', c'⟩ (T.buses ++ [x]).length = v' from by rw [hs]]; exact own_kept hO (grown_set _ _ _ _) (fun m hm e => by cases e; exact own_ne hO hbx (by decide) hm)⟩
  · exact (h.bel.grown hg h.bel.size (fun k hk => h.buses.blk k hk)).setCell (p := ⟨tb, 115, none⟩) h.tbB v'
  · rw [heap_setCell_same _ _ _ _ _ _ hbx, ← cells_buses hd h.ph h.cf ⟨a', c'⟩ (T.buses ++ [x]), ← hs]; simp
  · exact (h.groups.grown hg (fun m e => by obtain ⟨ds, hd2⟩ := own_type h.buses _ e; exact ⟨ds, _, hd2, by decide, by decide⟩)).grown (grown_set _ _ _ _) (fun m e => by cases e; exact ⟨_, _, hbx, by decide, by decide⟩)
/-- A phase with one number changed. -/
def setF (f : Nat) (x : Int) (p : Ph) : Ph := match f with
  | 1 => { p with min := x }
  | 2 => { p with gap := x }
  | 3 => { p with max := x }
  | 4 => { p with top := x }
  | 5 => { p with step := x }
  | 6 => { p with yellow := x }
  | 7 => { p with red := x }
  | 8 => { p with walk := x }
  | 9 => { p with blinks := x }
  | _ => { p with recall := x }
theorem set_field {p : Ph} {f : Nat} (h1 : 1 ≤ f) (h2 : f ≤ 10) (x : Int) : p.cells.set f (I x) = (setF f x p).cells := by
  match f, h1, h2 with
  | 1, _, _ | 2, _, _ | 3, _, _ | 4, _, _ | 5, _, _ | 6, _, _ | 7, _, _ | 8, _, _ | 9, _, _ | 10, _, _ => rfl
theorem cells_field {T : Tab} (hd : Hd) (h8 : T.phases.length = 8) (p f : Nat) (hp : p < 8) (h1 : 1 ≤ f) (h2 : f ≤ 10) (x : Int) : (T.cells hd).set (p * 13 + f) (I x) = { T with phases := T.phases.set p (setF f x (T.phases.getD p default)) }.cells hd := by
  obtain ⟨a0, a1, a2, a3, a4, a5, a6, a7, e⟩ := eight h8
  obtain ⟨phases, groups, conflict, dets, rails, buses, extend, budget, start, revert, least, flash, window, share⟩ := T
  simp only at e
  subst e
  match p, hp with
  | 0, _ | 1, _ | 2, _ | 3, _ | 4, _ | 5, _ | 6, _ | 7, _ =>
    match f, h1, h2 with
    | 1, _, _ | 2, _, _ | 3, _, _ | 4, _, _ | 5, _, _ | 6, _, _ | 7, _, _ | 8, _, _ | 9, _, _ | 10, _, _ => rfl
theorem cell_field {T : Tab} (hd : Hd) (h8 : T.phases.length = 8) (p f : Nat) (hp : p < 8) (h1 : 1 ≤ f) (h2 : f ≤ 10) : ∃ v, (T.cells hd)[p * 13 + f]? = some (I v) := by
  obtain ⟨a0, a1, a2, a3, a4, a5, a6, a7, e⟩ := eight h8
  obtain ⟨phases, groups, conflict, dets, rails, buses, extend, budget, start, revert, least, flash, window, share⟩ := T
  simp only at e
  subst e
  match p, hp with
  | 0, _ | 1, _ | 2, _ | 3, _ | 4, _ | 5, _ | 6, _ | 7, _ =>
    match f, h1, h2 with
    | 1, _, _ | 2, _, _ | 3, _, _ | 4, _, _ | 5, _, _ | 6, _, _ | 7, _, _ | 8, _, _ | 9, _, _ | 10, _, _ => exact ⟨_, rfl⟩
end Go.Proofs.Ytfnpcfibgabmfaa.BendU
/- The contract of the statement's own bend: one number of a boxed table is another one. -/
namespace Go.Proofs.Ytfnpcfibgabmfaa.Bend
open Go.ChangeShapes Go.WideShapes Go.ChangeAt Go.RowKit
open Tab Gath GenG GenT Clone BendU
set_option linter.unusedVariables false
set_option linter.unusedSimpArgs false
theorem infoP11 : (Try.prog.info? 79).map (fun i => (i.zero, i.size)) = some (some (.agg #[.pointer none, .pointer none, .pointer none, .pointer none, .pointer none, .pointer none, .pointer none, .pointer none, .pointer none, .pointer none, .pointer none]), 11) := by kernel_rfl
theorem size11 : (Try.prog.info? 79).map (·.size) = some 11 := by kernel_rfl
theorem wp_store_at {P : Program} {op : Oper} {a : Act} {w : World} {K : Act → World → Prop} {Q : Exit → Act → World → Prop} (ty : TypeId) (x y : Operand) (ho : op.op = .store ty x y) (q v : Value) (hx : a.eval x = q) (hy : a.eval y = v) (w' : World)
    (hs : (Instr.storeAt ty q v).run P w = .ok () w') (hd : op.dst = none) (h : K a w') : op.wp P a w K Q := by
  unfold Oper.wp execOp
  simp only [ho, hx, hy, Sem.run_bind, hs, Result.andThen_ok, Sem.run_pure]
  show K (a.put op.dst undef) _
  rw [hd]
  exact h
theorem and7 (v : Int) : 0 ≤ bits .and .i64 v 7 ∧ bits .and .i64 v 7 < 8 := by
  have e : bits .and .i64 v 7 = IntKind.i64.wrap (((BitVec.ofInt 64 v &&& BitVec.ofInt 64 7).toNat : Nat) : Int) := rfl
  have hl : (BitVec.ofInt 64 v &&& BitVec.ofInt 64 7).toNat ≤ 7 := by
    rw [BitVec.toNat_and]; exact Nat.and_le_right
  rw [e, IntKind.wrap_i64]
  omega
theorem infoDz3 : (Try.prog.info? 44).map (fun i => (i.zero, i.size, i.bytes)) = some (some (.agg #[I 0, F 0, F 0, F 0, F 0, I 0, I 0]), 7, 56) := by kernel_rfl
theorem infoRz3 : (Try.prog.info? 46).map (fun i => (i.zero, i.size, i.bytes)) = some (some (.agg #[I 0, I 0, I 0, I 0, I 0, I 0, I 0, I 0, I 0, I 0, I 0]), 11, 88) := by kernel_rfl
theorem infoBz3 : (Try.prog.info? 48).map (fun i => (i.zero, i.size, i.bytes)) = some (some (.agg #[I 0, I 0]), 2, 16) := by kernel_rfl
/-- The lists are short. -/
structure Short (T : Tab) : Prop where
  groups : T.groups.length ≤ 1000
  rows : ∀ g ∈ T.groups, g.1.length ≤ 1000 ∧ g.2.length ≤ 1000
  dets : T.dets.length ≤ 900
  rails : T.rails.length ≤ 900
  buses : T.buses.length ≤ 900
theorem Short.small {T : Tab} (h : Short T) : Small T := ⟨h.groups, h.rows, by have := h.dets; omega, by have := h.rails; omega, by have := h.buses; omega⟩
set_option maxRecDepth 100000 in
set_option maxHeartbeats 8000000 in
theorem bend_any (w0 : World) (tb : Nat) (hd : Hd) (T : Tab) (w : World) (at_ v : Int) (x : Nat) (h : Ux w0 tb hd T w) (sh : Short T) :
    Calls Try.prog 12 #[.pointer (some ⟨tb, 0, none⟩), .int .i64 at_, .int .i64 v, .float .f64 x] w fun e w' => e = .returned (.tuple #[]) ∧ ∃ hd' T', Ux w0 tb hd' T' w' ∧ Small T' := by
  obtain ⟨hgg, ⟨da, dc⟩, ⟨ra, rc⟩, ⟨ba, bc⟩⟩ := hd
  generalize hhd : Hd.mk hgg ⟨da, dc⟩ ⟨ra, rc⟩ ⟨ba, bc⟩ = hd at h
  have HHD := Lib.hid hhd
  clear hhd
  have HU := Lib.hid h
  have hz := (zero_of_info infoP11).1
  have hk := Int.emod_nonneg at_ (show (100 : Int) ≠ 0 by omega)
  have hk2 := Int.emod_lt_of_pos at_ (show (0 : Int) < 100 by omega)
  obtain ⟨k, hkk⟩ := Int.eq_ofNat_of_zero_le hk
  have hk3 : k < 100 := by omega
  clear h hk hk2
  obtain ⟨p, hp⟩ : ∃ p, p = k % 8 := ⟨_, rfl⟩
  have hp8 : p < 8 := by omega
  have hrem : ((k : Nat) : Int).tmod 8 = (p : Int) := by rw [Int.tmod_eq_emod_of_nonneg (by omega)]; omega
  go_enter Try.func12, Try.ntmps12
  go_wp2_with fail
  refine (RefS.place_any at_ 100 w (by omega) (by omega)).mono ?_
  rintro e w' ⟨rfl, rfl⟩
  rw [hkk]
  clear hkk
  go_upto_region 2 with fail
  rw [show ((k : Nat) : Int) % 8 = (p : Int) by omega]
  have HP := Lib.hid hp
  have hpi : (p : Int) < 8 := by omega
  clear hrem hp
  refine wp_region_held (S := fun _ => True) (by kernel_rfl) ?_
  have hS : True := trivial
  have hu : Ux w0 tb hd T { w with drawn := w.drawn + 1 } := HU.out.step (Below.refl _ _).drew
  generalize ({ w with drawn := w.drawn + 1 } : World) = u at hu ⊢
  clear HU
  refine Held.take (i := 0) (some 15) rfl (v := ?_) rfl (by kernel_rfl) (by kernel_rfl) (by kernel_rfl) (fun _ _ _ h => h) (Or.inl ⟨by rfl, ?_⟩) hS ?_
  rotate_left
  · intro w' hw'
    go_simp
    try with_reducible rfl
  (try dsimp only [Act.put]); (try simp only [List.setIfInBounds_toArray, List.set_cons_zero, List.set_cons_succ])
  refine Held.take (i := 1) (some 16) rfl (v := ?_) rfl (by kernel_rfl) (by kernel_rfl) (by kernel_rfl) (fun _ _ _ h => h) (Or.inl ⟨by rfl, ?_⟩) hS ?_
  rotate_left
  · intro w' hw'
    go_simp
    try with_reducible rfl
  (try dsimp only [Act.put]); (try simp only [List.setIfInBounds_toArray, List.set_cons_zero, List.set_cons_succ])
  refine Held.take (i := 2) (some 17) rfl (v := ?_) rfl (by kernel_rfl) (by kernel_rfl) (by kernel_rfl) (fun _ _ _ h => h) (Or.inl ⟨by rfl, ?_⟩) hS ?_
  rotate_left
  · intro w' hw'
    go_simp
    try with_reducible rfl
  (try dsimp only [Act.put]); (try simp only [List.setIfInBounds_toArray, List.set_cons_zero, List.set_cons_succ])
  refine Held.take (i := 3) (some 18) rfl (v := ?_) rfl (by kernel_rfl) (by kernel_rfl) (by kernel_rfl) (fun _ _ _ h => h) (Or.inl ⟨by rfl, ?_⟩) hS ?_
  rotate_left
  · intro w' hw'
    go_simp
    try with_reducible rfl
  (try dsimp only [Act.put]); (try simp only [List.setIfInBounds_toArray, List.set_cons_zero, List.set_cons_succ])
  refine Held.take (i := 4) (some 19) rfl (v := ?_) rfl (by kernel_rfl) (by kernel_rfl) (by kernel_rfl) (fun _ _ _ h => h) (Or.inl ⟨by rfl, ?_⟩) hS ?_
  rotate_left
  · intro w' hw'
    go_simp
    try with_reducible rfl
  (try dsimp only [Act.put]); (try simp only [List.setIfInBounds_toArray, List.set_cons_zero, List.set_cons_succ])
  refine Held.take (i := 5) (some 20) rfl (v := ?_) rfl (by kernel_rfl) (by kernel_rfl) (by kernel_rfl) (fun _ _ _ h => h) (Or.inl ⟨by rfl, ?_⟩) hS ?_
  rotate_left
  · intro w' hw'
    go_simp
    try with_reducible rfl
  (try dsimp only [Act.put]); (try simp only [List.setIfInBounds_toArray, List.set_cons_zero, List.set_cons_succ])
  refine Held.take (i := 6) (some 21) rfl (v := ?_) rfl (by kernel_rfl) (by kernel_rfl) (by kernel_rfl) (fun _ _ _ h => h) (Or.inl ⟨by rfl, ?_⟩) hS ?_
  rotate_left
  · intro w' hw'
    go_simp
    try with_reducible rfl
  (try dsimp only [Act.put]); (try simp only [List.setIfInBounds_toArray, List.set_cons_zero, List.set_cons_succ])
  refine Held.take (i := 7) (some 22) rfl (v := ?_) rfl (by kernel_rfl) (by kernel_rfl) (by kernel_rfl) (fun _ _ _ h => h) (Or.inl ⟨by rfl, ?_⟩) hS ?_
  rotate_left
  · intro w' hw'
    go_simp
    try with_reducible rfl
  (try dsimp only [Act.put]); (try simp only [List.setIfInBounds_toArray, List.set_cons_zero, List.set_cons_succ])
  refine Held.take (i := 8) (some 23) rfl (v := ?_) rfl (by kernel_rfl) (by kernel_rfl) (by kernel_rfl) (fun _ _ _ h => h) (Or.inl ⟨by rfl, ?_⟩) hS ?_
  rotate_left
  · intro w' hw'
    go_simp
    try with_reducible rfl
  (try dsimp only [Act.put]); (try simp only [List.setIfInBounds_toArray, List.set_cons_zero, List.set_cons_succ])
  refine Held.take (i := 9) (some 24) rfl (v := ?_) rfl (by kernel_rfl) (by kernel_rfl) (by kernel_rfl) (fun _ _ _ h => h) (Or.inl ⟨by rfl, ?_⟩) hS ?_
  rotate_left
  · intro w' hw'
    go_simp
    try with_reducible rfl
  (try dsimp only [Act.put]); (try simp only [List.setIfInBounds_toArray, List.set_cons_zero, List.set_cons_succ])
  refine Held.take (i := 10) (some 25) rfl (v := ?_) rfl (by kernel_rfl) (by kernel_rfl) (by kernel_rfl) (fun _ _ _ h => h) (Or.inl ⟨by rfl, ?_⟩) hS ?_
  rotate_left
  · intro w' hw'
    go_simp
    try with_reducible rfl
  (try dsimp only [Act.put]); (try simp only [List.setIfInBounds_toArray, List.set_cons_zero, List.set_cons_succ])
  refine Held.take (i := 11) (some 26) rfl (v := ?_) rfl (by kernel_rfl) (by kernel_rfl) (by kernel_rfl) (fun _ _ _ h => h) (Or.inl ⟨by rfl, ?_⟩) hS ?_
  rotate_left
  · intro w' hw'
    go_simp
    try with_reducible rfl
  (try dsimp only [Act.put]); (try simp only [List.setIfInBounds_toArray, List.set_cons_zero, List.set_cons_succ])
  refine Held.take (i := 12) (some 27) rfl (v := ?_) rfl (by kernel_rfl) (by kernel_rfl) (by kernel_rfl) (fun _ _ _ h => h) (Or.inl ⟨by rfl, ?_⟩) hS ?_
  rotate_left
  · intro w' hw'
    go_simp
    try with_reducible rfl
  (try dsimp only [Act.put]); (try simp only [List.setIfInBounds_toArray, List.set_cons_zero, List.set_cons_succ])
  refine Held.take (i := 13) (some 28) rfl (v := ?_) rfl (by kernel_rfl) (by kernel_rfl) (by kernel_rfl) (fun _ _ _ h => h) (Or.inl ⟨by rfl, ?_⟩) hS ?_
  rotate_left
  · intro w' hw'
    go_simp
    try with_reducible rfl
  (try dsimp only [Act.put]); (try simp only [List.setIfInBounds_toArray, List.set_cons_zero, List.set_cons_succ])
  refine Held.take (i := 14) (some 29) rfl (v := ?_) rfl (by kernel_rfl) (by kernel_rfl) (by kernel_rfl) (fun _ _ _ h => h) (Or.inl ⟨by rfl, ?_⟩) hS ?_
  rotate_left
  · intro w' hw'
    go_simp
    try with_reducible rfl
  (try dsimp only [Act.put]); (try simp only [List.setIfInBounds_toArray, List.set_cons_zero, List.set_cons_succ])
  refine Held.take (i := 15) (some 30) rfl (v := ?_) rfl (by kernel_rfl) (by kernel_rfl) (by kernel_rfl) (fun _ _ _ h => h) (Or.inl ⟨by rfl, ?_⟩) hS ?_
  rotate_left
  · intro w' hw'
    go_simp
    try with_reducible rfl
  (try dsimp only [Act.put]); (try simp only [List.setIfInBounds_toArray, List.set_cons_zero, List.set_cons_succ])
  refine Held.take (i := 16) (some 31) rfl (v := ?_) rfl (by kernel_rfl) (by kernel_rfl) (by kernel_rfl) (fun _ _ _ h => h) (Or.inl ⟨by rfl, ?_⟩) hS ?_
  rotate_left
  · intro w' hw'
    go_simp
    try with_reducible rfl
  (try dsimp only [Act.put]); (try simp only [List.setIfInBounds_toArray, List.set_cons_zero, List.set_cons_succ])
  refine Held.take (i := 17) (some 32) rfl (v := ?_) rfl (by kernel_rfl) (by kernel_rfl) (by kernel_rfl) (fun _ _ _ h => h) (Or.inl ⟨by rfl, ?_⟩) hS ?_
  rotate_left
  · intro w' hw'
    go_simp
    try with_reducible rfl
  (try dsimp only [Act.put]); (try simp only [List.setIfInBounds_toArray, List.set_cons_zero, List.set_cons_succ])
  refine Held.take (i := 18) (some 33) rfl (v := ?_) rfl (by kernel_rfl) (by kernel_rfl) (by kernel_rfl) (fun _ _ _ h => h) (Or.inl ⟨by rfl, ?_⟩) hS ?_
  rotate_left
  · intro w' hw'
    go_simp
    try with_reducible rfl
  (try dsimp only [Act.put]); (try simp only [List.setIfInBounds_toArray, List.set_cons_zero, List.set_cons_succ])
  refine Held.take (i := 19) (some 34) rfl (v := ?_) rfl (by kernel_rfl) (by kernel_rfl) (by kernel_rfl) (fun _ _ _ h => h) (Or.inl ⟨by rfl, ?_⟩) hS ?_
  rotate_left
  · intro w' hw'
    go_simp
    try with_reducible rfl
  (try dsimp only [Act.put]); (try simp only [List.setIfInBounds_toArray, List.set_cons_zero, List.set_cons_succ])
  refine Held.take (i := 20) (some 35) rfl (v := ?_) rfl (by kernel_rfl) (by kernel_rfl) (by kernel_rfl) (fun _ _ _ h => h) (Or.inl ⟨by rfl, ?_⟩) hS ?_
  rotate_left
  · intro w' hw'
    go_simp
    try with_reducible rfl
  (try dsimp only [Act.put]); (try simp only [List.setIfInBounds_toArray, List.set_cons_zero, List.set_cons_succ])
  refine Held.take (i := 21) (some 36) rfl (v := ?_) rfl (by kernel_rfl) (by kernel_rfl) (by kernel_rfl) (fun _ _ _ h => h) (Or.inl ⟨by rfl, ?_⟩) hS ?_
  rotate_left
  · intro w' hw'
    go_simp
    try with_reducible rfl
  (try dsimp only [Act.put]); (try simp only [List.setIfInBounds_toArray, List.set_cons_zero, List.set_cons_succ])
  refine Held.take (i := 22) (some 37) rfl (v := ?_) rfl (by kernel_rfl) (by kernel_rfl) (by kernel_rfl) (fun _ _ _ h => h) (Or.inl ⟨by rfl, ?_⟩) hS ?_
  rotate_left
  · intro w' hw'
    go_simp
    try with_reducible rfl
  (try dsimp only [Act.put]); (try simp only [List.setIfInBounds_toArray, List.set_cons_zero, List.set_cons_succ])
  refine Held.take (i := 23) (some 38) rfl (v := ?_) rfl (by kernel_rfl) (by kernel_rfl) (by kernel_rfl) (fun _ _ _ h => h) (Or.inl ⟨by rfl, ?_⟩) hS ?_
  rotate_left
  · intro w' hw'
    go_simp
    try with_reducible rfl
  (try dsimp only [Act.put]); (try simp only [List.setIfInBounds_toArray, List.set_cons_zero, List.set_cons_succ])
  refine Held.take (i := 24) (some 39) rfl (v := ?_) rfl (by kernel_rfl) (by kernel_rfl) (by kernel_rfl) (fun _ _ _ h => h) (Or.inl ⟨by rfl, ?_⟩) hS ?_
  rotate_left
  · intro w' hw'
    go_simp
    try with_reducible rfl
  (try dsimp only [Act.put]); (try simp only [List.setIfInBounds_toArray, List.set_cons_zero, List.set_cons_succ])
  refine Held.take (i := 25) (some 40) rfl (v := ?_) rfl (by kernel_rfl) (by kernel_rfl) (by kernel_rfl) (fun _ _ _ h => h) (Or.inl ⟨by rfl, ?_⟩) hS ?_
  rotate_left
  · intro w' hw'
    go_simp
    try with_reducible rfl
  (try dsimp only [Act.put]); (try simp only [List.setIfInBounds_toArray, List.set_cons_zero, List.set_cons_succ])
  refine Held.take (i := 26) (some 41) rfl (v := ?_) rfl (by kernel_rfl) (by kernel_rfl) (by kernel_rfl) (fun _ _ _ h => h) (Or.inl ⟨by rfl, ?_⟩) hS ?_
  rotate_left
  · intro w' hw'
    go_simp
    try with_reducible rfl
  (try dsimp only [Act.put]); (try simp only [List.setIfInBounds_toArray, List.set_cons_zero, List.set_cons_succ])
  refine Held.take (i := 27) (some 42) rfl (v := ?_) rfl (by kernel_rfl) (by kernel_rfl) (by kernel_rfl) (fun _ _ _ h => h) (Or.inl ⟨by rfl, ?_⟩) hS ?_
  rotate_left
  · intro w' hw'
    go_simp
    try with_reducible rfl
  (try dsimp only [Act.put]); (try simp only [List.setIfInBounds_toArray, List.set_cons_zero, List.set_cons_succ])
  refine Held.take (i := 28) (some 43) rfl (v := ?_) rfl (by kernel_rfl) (by kernel_rfl) (by kernel_rfl) (fun _ _ _ h => h) (Or.inl ⟨by rfl, ?_⟩) hS ?_
  rotate_left
  · intro w' hw'
    go_simp
    try with_reducible rfl
  (try dsimp only [Act.put]); (try simp only [List.setIfInBounds_toArray, List.set_cons_zero, List.set_cons_succ])
  refine Held.take (i := 29) (some 44) rfl (v := ?_) rfl (by kernel_rfl) (by kernel_rfl) (by kernel_rfl) (fun _ _ _ h => h) (Or.inl ⟨by rfl, ?_⟩) hS ?_
  rotate_left
  · intro w' hw'
    go_simp
    try with_reducible rfl
  (try dsimp only [Act.put]); (try simp only [List.setIfInBounds_toArray, List.set_cons_zero, List.set_cons_succ])
  refine Held.take (i := 30) (some 45) rfl (v := ?_) rfl (by kernel_rfl) (by kernel_rfl) (by kernel_rfl) (fun _ _ _ h => h) (Or.inl ⟨by rfl, ?_⟩) hS ?_
  rotate_left
  · intro w' hw'
    go_simp
    try with_reducible rfl
  (try dsimp only [Act.put]); (try simp only [List.setIfInBounds_toArray, List.set_cons_zero, List.set_cons_succ])
  refine Held.take (i := 31) (some 46) rfl (v := ?_) rfl (by kernel_rfl) (by kernel_rfl) (by kernel_rfl) (fun _ _ _ h => h) (Or.inl ⟨by rfl, ?_⟩) hS ?_
  rotate_left
  · intro w' hw'
    go_simp
    try with_reducible rfl
  (try dsimp only [Act.put]); (try simp only [List.setIfInBounds_toArray, List.set_cons_zero, List.set_cons_succ])
  refine Held.take (i := 32) (some 47) rfl (v := ?_) rfl (by kernel_rfl) (by kernel_rfl) (by kernel_rfl) (fun _ _ _ h => h) (Or.inl ⟨by rfl, ?_⟩) hS ?_
  rotate_left
  · intro w' hw'
    go_simp
    try with_reducible rfl
  (try dsimp only [Act.put]); (try simp only [List.setIfInBounds_toArray, List.set_cons_zero, List.set_cons_succ])
  refine Held.take (i := 33) (some 48) rfl (v := ?_) rfl (by kernel_rfl) (by kernel_rfl) (by kernel_rfl) (fun _ _ _ h => h) (Or.inl ⟨by rfl, ?_⟩) hS ?_
  rotate_left
  · intro w' hw'
    go_simp
    try with_reducible rfl
  (try dsimp only [Act.put]); (try simp only [List.setIfInBounds_toArray, List.set_cons_zero, List.set_cons_succ])
  refine Held.take (i := 34) (some 49) rfl (v := ?_) rfl (by kernel_rfl) (by kernel_rfl) (by kernel_rfl) (fun _ _ _ h => h) (Or.inl ⟨by rfl, ?_⟩) hS ?_
  rotate_left
  · intro w' hw'
    go_simp
    try with_reducible rfl
  (try dsimp only [Act.put]); (try simp only [List.setIfInBounds_toArray, List.set_cons_zero, List.set_cons_succ])
  refine Held.take (i := 35) (some 50) rfl (v := ?_) rfl (by kernel_rfl) (by kernel_rfl) (by kernel_rfl) (fun _ _ _ h => h) (Or.inl ⟨by rfl, ?_⟩) hS ?_
  rotate_left
  · intro w' hw'
    go_simp
    try with_reducible rfl
  (try dsimp only [Act.put]); (try simp only [List.setIfInBounds_toArray, List.set_cons_zero, List.set_cons_succ])
  refine Held.take (i := 36) (some 51) rfl (v := ?_) rfl (by kernel_rfl) (by kernel_rfl) (by kernel_rfl) (fun _ _ _ h => h) (Or.inl ⟨by rfl, ?_⟩) hS ?_
  rotate_left
  · intro w' hw'
    go_simp
    try with_reducible rfl
  (try dsimp only [Act.put]); (try simp only [List.setIfInBounds_toArray, List.set_cons_zero, List.set_cons_succ])
  refine Held.take (i := 37) (some 52) rfl (v := ?_) rfl (by kernel_rfl) (by kernel_rfl) (by kernel_rfl) (fun _ _ _ h => h) (Or.inl ⟨by rfl, ?_⟩) hS ?_
  rotate_left
  · intro w' hw'
    go_simp
    try with_reducible rfl
  (try dsimp only [Act.put]); (try simp only [List.setIfInBounds_toArray, List.set_cons_zero, List.set_cons_succ])
  refine Held.take (i := 38) (some 53) rfl (v := ?_) rfl (by kernel_rfl) (by kernel_rfl) (by kernel_rfl) (fun _ _ _ h => h) (Or.inl ⟨by rfl, ?_⟩) hS ?_
  rotate_left
  · intro w' hw'
    go_simp
    try with_reducible rfl
  (try dsimp only [Act.put]); (try simp only [List.setIfInBounds_toArray, List.set_cons_zero, List.set_cons_succ])
  refine Held.take (i := 39) (some 54) rfl (v := ?_) rfl (by kernel_rfl) (by kernel_rfl) (by kernel_rfl) (fun _ _ _ h => h) (Or.inl ⟨by rfl, ?_⟩) hS ?_
  rotate_left
  · intro w' hw'
    go_simp
    try with_reducible rfl
  (try dsimp only [Act.put]); (try simp only [List.setIfInBounds_toArray, List.set_cons_zero, List.set_cons_succ])
  refine Held.take (i := 40) (some 55) rfl (v := ?_) rfl (by kernel_rfl) (by kernel_rfl) (by kernel_rfl) (fun _ _ _ h => h) (Or.inl ⟨by rfl, ?_⟩) hS ?_
  rotate_left
  · intro w' hw'
    go_simp
    try with_reducible rfl
  (try dsimp only [Act.put]); (try simp only [List.setIfInBounds_toArray, List.set_cons_zero, List.set_cons_succ])
  refine Held.take (i := 41) (some 56) rfl (v := ?_) rfl (by kernel_rfl) (by kernel_rfl) (by kernel_rfl) (fun _ _ _ h => h) (Or.inl ⟨by rfl, ?_⟩) hS ?_
  rotate_left
  · intro w' hw'
    go_simp
    try with_reducible rfl
  (try dsimp only [Act.put]); (try simp only [List.setIfInBounds_toArray, List.set_cons_zero, List.set_cons_succ])
  refine Held.take (i := 42) (some 57) rfl (v := ?_) rfl (by kernel_rfl) (by kernel_rfl) (by kernel_rfl) (fun _ _ _ h => h) (Or.inl ⟨by rfl, ?_⟩) hS ?_
  rotate_left
  · intro w' hw'
    go_simp
    try with_reducible rfl
  (try dsimp only [Act.put]); (try simp only [List.setIfInBounds_toArray, List.set_cons_zero, List.set_cons_succ])
  refine Held.take (i := 43) (some 58) rfl (v := ?_) rfl (by kernel_rfl) (by kernel_rfl) (by kernel_rfl) (fun _ _ _ h => h) (Or.inl ⟨by rfl, ?_⟩) hS ?_
  rotate_left
  · intro w' hw'
    go_simp
    try with_reducible rfl
  (try dsimp only [Act.put]); (try simp only [List.setIfInBounds_toArray, List.set_cons_zero, List.set_cons_succ])
  refine Held.take (i := 44) (some 59) rfl (v := ?_) rfl (by kernel_rfl) (by kernel_rfl) (by kernel_rfl) (fun _ _ _ h => h) (Or.inl ⟨by rfl, ?_⟩) hS ?_
  rotate_left
  · intro w' hw'
    go_simp
    try with_reducible rfl
  (try dsimp only [Act.put]); (try simp only [List.setIfInBounds_toArray, List.set_cons_zero, List.set_cons_succ])
  refine Held.take (i := 45) (some 60) rfl (v := ?_) rfl (by kernel_rfl) (by kernel_rfl) (by kernel_rfl) (fun _ _ _ h => h) (Or.inl ⟨by rfl, ?_⟩) hS ?_
  rotate_left
  · intro w' hw'
    go_simp
    try with_reducible rfl
  (try dsimp only [Act.put]); (try simp only [List.setIfInBounds_toArray, List.set_cons_zero, List.set_cons_succ])
  refine Held.take (i := 46) (some 61) rfl (v := ?_) rfl (by kernel_rfl) (by kernel_rfl) (by kernel_rfl) (fun _ _ _ h => h) (Or.inl ⟨by rfl, ?_⟩) hS ?_
  rotate_left
  · intro w' hw'
    go_simp
    try with_reducible rfl
  (try dsimp only [Act.put]); (try simp only [List.setIfInBounds_toArray, List.set_cons_zero, List.set_cons_succ])
  refine Held.take (i := 47) (some 62) rfl (v := ?_) rfl (by kernel_rfl) (by kernel_rfl) (by kernel_rfl) (fun _ _ _ h => h) (Or.inl ⟨by rfl, ?_⟩) hS ?_
  rotate_left
  · intro w' hw'
    go_simp
    try with_reducible rfl
  (try dsimp only [Act.put]); (try simp only [List.setIfInBounds_toArray, List.set_cons_zero, List.set_cons_succ])
  refine Held.take (i := 48) (some 63) rfl (v := ?_) rfl (by kernel_rfl) (by kernel_rfl) (by kernel_rfl) (fun _ _ _ h => h) (Or.inl ⟨by rfl, ?_⟩) hS ?_
  rotate_left
  · intro w' hw'
    go_simp
    try with_reducible rfl
  (try dsimp only [Act.put]); (try simp only [List.setIfInBounds_toArray, List.set_cons_zero, List.set_cons_succ])
  refine Held.take (i := 49) (some 64) rfl (v := ?_) rfl (by kernel_rfl) (by kernel_rfl) (by kernel_rfl) (fun _ _ _ h => h) (Or.inl ⟨by rfl, ?_⟩) hS ?_
  rotate_left
  · intro w' hw'
    go_simp
    try with_reducible rfl
  (try dsimp only [Act.put]); (try simp only [List.setIfInBounds_toArray, List.set_cons_zero, List.set_cons_succ])
  refine Held.take (i := 50) (some 65) rfl (v := ?_) rfl (by kernel_rfl) (by kernel_rfl) (by kernel_rfl) (fun _ _ _ h => h) (Or.inl ⟨by rfl, ?_⟩) hS ?_
  rotate_left
  · intro w' hw'
    go_simp
    try with_reducible rfl
  (try dsimp only [Act.put]); (try simp only [List.setIfInBounds_toArray, List.set_cons_zero, List.set_cons_succ])
  refine Held.take (i := 51) (some 66) rfl (v := ?_) rfl (by kernel_rfl) (by kernel_rfl) (by kernel_rfl) (fun _ _ _ h => h) (Or.inl ⟨by rfl, ?_⟩) hS ?_
  rotate_left
  · intro w' hw'
    go_simp
    try with_reducible rfl
  (try dsimp only [Act.put]); (try simp only [List.setIfInBounds_toArray, List.set_cons_zero, List.set_cons_succ])
  refine Held.take (i := 52) (some 67) rfl (v := ?_) rfl (by kernel_rfl) (by kernel_rfl) (by kernel_rfl) (fun _ _ _ h => h) (Or.inl ⟨by rfl, ?_⟩) hS ?_
  rotate_left
  · intro w' hw'
    go_simp
    try with_reducible rfl
  (try dsimp only [Act.put]); (try simp only [List.setIfInBounds_toArray, List.set_cons_zero, List.set_cons_succ])
  refine Held.take (i := 53) (some 68) rfl (v := ?_) rfl (by kernel_rfl) (by kernel_rfl) (by kernel_rfl) (fun _ _ _ h => h) (Or.inl ⟨by rfl, ?_⟩) hS ?_
  rotate_left
  · intro w' hw'
    go_simp
    try with_reducible rfl
  (try dsimp only [Act.put]); (try simp only [List.setIfInBounds_toArray, List.set_cons_zero, List.set_cons_succ])
  refine Held.take (i := 54) (some 69) rfl (v := ?_) rfl (by kernel_rfl) (by kernel_rfl) (by kernel_rfl) (fun _ _ _ h => h) (Or.inl ⟨by rfl, ?_⟩) hS ?_
  rotate_left
  · intro w' hw'
    go_simp
    try with_reducible rfl
  (try dsimp only [Act.put]); (try simp only [List.setIfInBounds_toArray, List.set_cons_zero, List.set_cons_succ])
  refine Held.take (i := 55) (some 70) rfl (v := ?_) rfl (by kernel_rfl) (by kernel_rfl) (by kernel_rfl) (fun _ _ _ h => h) (Or.inl ⟨by rfl, ?_⟩) hS ?_
  rotate_left
  · intro w' hw'
    go_simp
    try with_reducible rfl
  (try dsimp only [Act.put]); (try simp only [List.setIfInBounds_toArray, List.set_cons_zero, List.set_cons_succ])
  refine Held.take (i := 56) (some 71) rfl (v := ?_) rfl (by kernel_rfl) (by kernel_rfl) (by kernel_rfl) (fun _ _ _ h => h) (Or.inl ⟨by rfl, ?_⟩) hS ?_
  rotate_left
  · intro w' hw'
    go_simp
    try with_reducible rfl
  (try dsimp only [Act.put]); (try simp only [List.setIfInBounds_toArray, List.set_cons_zero, List.set_cons_succ])
  refine Held.take (i := 57) (some 72) rfl (v := ?_) rfl (by kernel_rfl) (by kernel_rfl) (by kernel_rfl) (fun _ _ _ h => h) (Or.inl ⟨by rfl, ?_⟩) hS ?_
  rotate_left
  · intro w' hw'
    go_simp
    try with_reducible rfl
  (try dsimp only [Act.put]); (try simp only [List.setIfInBounds_toArray, List.set_cons_zero, List.set_cons_succ])
  refine Held.take (i := 58) (some 73) rfl (v := ?_) rfl (by kernel_rfl) (by kernel_rfl) (by kernel_rfl) (fun _ _ _ h => h) (Or.inl ⟨by rfl, ?_⟩) hS ?_
  rotate_left
  · intro w' hw'
    go_simp
    try with_reducible rfl
  (try dsimp only [Act.put]); (try simp only [List.setIfInBounds_toArray, List.set_cons_zero, List.set_cons_succ])
  refine Held.take (i := 59) (some 74) rfl (v := ?_) rfl (by kernel_rfl) (by kernel_rfl) (by kernel_rfl) (fun _ _ _ h => h) (Or.inl ⟨by rfl, ?_⟩) hS ?_
  rotate_left
  · intro w' hw'
    go_simp
    try with_reducible rfl
  (try dsimp only [Act.put]); (try simp only [List.setIfInBounds_toArray, List.set_cons_zero, List.set_cons_succ])
  refine Held.take (i := 60) (some 75) rfl (v := ?_) rfl (by kernel_rfl) (by kernel_rfl) (by kernel_rfl) (fun _ _ _ h => h) (Or.inl ⟨by rfl, ?_⟩) hS ?_
  rotate_left
  · intro w' hw'
    go_simp
    try with_reducible rfl
  (try dsimp only [Act.put]); (try simp only [List.setIfInBounds_toArray, List.set_cons_zero, List.set_cons_succ])
  refine Held.take (i := 61) (some 76) rfl (v := ?_) rfl (by kernel_rfl) (by kernel_rfl) (by kernel_rfl) (fun _ _ _ h => h) (Or.inl ⟨by rfl, ?_⟩) hS ?_
  rotate_left
  · intro w' hw'
    go_simp
    try with_reducible rfl
  (try dsimp only [Act.put]); (try simp only [List.setIfInBounds_toArray, List.set_cons_zero, List.set_cons_succ])
  refine Held.take (i := 62) (some 77) rfl (v := ?_) rfl (by kernel_rfl) (by kernel_rfl) (by kernel_rfl) (fun _ _ _ h => h) (Or.inl ⟨by rfl, ?_⟩) hS ?_
  rotate_left
  · intro w' hw'
    go_simp
    try with_reducible rfl
  (try dsimp only [Act.put]); (try simp only [List.setIfInBounds_toArray, List.set_cons_zero, List.set_cons_succ])
  refine Held.take (i := 63) (some 78) rfl (v := ?_) rfl (by kernel_rfl) (by kernel_rfl) (by kernel_rfl) (fun _ _ _ h => h) (Or.inl ⟨by rfl, ?_⟩) hS ?_
  rotate_left
  · intro w' hw'
    go_simp
    try with_reducible rfl
  (try dsimp only [Act.put]); (try simp only [List.setIfInBounds_toArray, List.set_cons_zero, List.set_cons_succ])
  refine Held.take (i := 64) (some 79) rfl (v := ?_) rfl (by kernel_rfl) (by kernel_rfl) (by kernel_rfl) (fun _ _ _ h => h) (Or.inl ⟨by rfl, ?_⟩) hS ?_
  rotate_left
  · intro w' hw'
    go_simp
    try with_reducible rfl
  (try dsimp only [Act.put]); (try simp only [List.setIfInBounds_toArray, List.set_cons_zero, List.set_cons_succ])
  refine Held.take (i := 65) (some 80) rfl (v := ?_) rfl (by kernel_rfl) (by kernel_rfl) (by kernel_rfl) (fun _ _ _ h => h) (Or.inl ⟨by rfl, ?_⟩) hS ?_
  rotate_left
  · intro w' hw'
    go_simp
    try with_reducible rfl
  (try dsimp only [Act.put]); (try simp only [List.setIfInBounds_toArray, List.set_cons_zero, List.set_cons_succ])
  refine wpAnyH_ready (rs := [66]) (by kernel_rfl) (by simp) (AllReadyH.cons rfl (fun K hK => ?_) AllReadyH.nil)
  go_simp
  refine hK.out _ _ trivial (fun _ => ?_)
  clear hK K
  refine wpAnyH_ready (rs := [67]) (by kernel_rfl) (by simp) (AllReadyH.cons rfl (fun K hK => ?_) AllReadyH.nil)
  rw [if_pos (by rfl)]
  have hs := Row.run_storeAt_at (P := Try.prog) (u.alloc (.cells #[.pointer none, .pointer none, .pointer none, .pointer none, .pointer none, .pointer none, .pointer none, .pointer none, .pointer none, .pointer none, .pointer none] 79)) u.heap.size 0 79 79 _ #[.pointer (some ⟨tb, p * 13 + 1, none⟩), .pointer (some ⟨tb, p * 13 + 2, none⟩), .pointer (some ⟨tb, p * 13 + 3, none⟩), .pointer (some ⟨tb, p * 13 + 4, none⟩), .pointer (some ⟨tb, p * 13 + 5, none⟩), .pointer (some ⟨tb, p * 13 + 6, none⟩), .pointer (some ⟨tb, p * 13 + 7, none⟩), .pointer (some ⟨tb, p * 13 + 8, none⟩), .pointer (some ⟨tb, p * 13 + 9, none⟩), .pointer (some ⟨tb, p * 13 + 10, none⟩), .pointer (some ⟨tb, 105 + p, none⟩)] (heap_alloc_new u _) size11 (by simp) (by simp [Value.oneCell'])
  rw [World.setRow_alloc_new] at hs
  have hb2 : Below u.heap.size u (u.alloc (.cells #[.pointer (some ⟨tb, p * 13 + 1, none⟩), .pointer (some ⟨tb, p * 13 + 2, none⟩), .pointer (some ⟨tb, p * 13 + 3, none⟩), .pointer (some ⟨tb, p * 13 + 4, none⟩), .pointer (some ⟨tb, p * 13 + 5, none⟩), .pointer (some ⟨tb, p * 13 + 6, none⟩), .pointer (some ⟨tb, p * 13 + 7, none⟩), .pointer (some ⟨tb, p * 13 + 8, none⟩), .pointer (some ⟨tb, p * 13 + 9, none⟩), .pointer (some ⟨tb, p * 13 + 10, none⟩), .pointer (some ⟨tb, 105 + p, none⟩)] 79)) := (Below.refl _ _).alloc (Nat.le_refl _) _
  have hg : (u.alloc (.cells #[.pointer (some ⟨tb, p * 13 + 1, none⟩), .pointer (some ⟨tb, p * 13 + 2, none⟩), .pointer (some ⟨tb, p * 13 + 3, none⟩), .pointer (some ⟨tb, p * 13 + 4, none⟩), .pointer (some ⟨tb, p * 13 + 5, none⟩), .pointer (some ⟨tb, p * 13 + 6, none⟩), .pointer (some ⟨tb, p * 13 + 7, none⟩), .pointer (some ⟨tb, p * 13 + 8, none⟩), .pointer (some ⟨tb, p * 13 + 9, none⟩), .pointer (some ⟨tb, p * 13 + 10, none⟩), .pointer (some ⟨tb, 105 + p, none⟩)] 79)).heap[u.heap.size]? = some (.cells #[.pointer (some ⟨tb, p * 13 + 1, none⟩), .pointer (some ⟨tb, p * 13 + 2, none⟩), .pointer (some ⟨tb, p * 13 + 3, none⟩), .pointer (some ⟨tb, p * 13 + 4, none⟩), .pointer (some ⟨tb, p * 13 + 5, none⟩), .pointer (some ⟨tb, p * 13 + 6, none⟩), .pointer (some ⟨tb, p * 13 + 7, none⟩), .pointer (some ⟨tb, p * 13 + 8, none⟩), .pointer (some ⟨tb, p * 13 + 9, none⟩), .pointer (some ⟨tb, p * 13 + 10, none⟩), .pointer (some ⟨tb, 105 + p, none⟩)] 79 (0, 0)) := heap_alloc_new u _
  refine wp_store_at 79 _ _ rfl _ _ rfl rfl (u.alloc (.cells #[.pointer (some ⟨tb, p * 13 + 1, none⟩), .pointer (some ⟨tb, p * 13 + 2, none⟩), .pointer (some ⟨tb, p * 13 + 3, none⟩), .pointer (some ⟨tb, p * 13 + 4, none⟩), .pointer (some ⟨tb, p * 13 + 5, none⟩), .pointer (some ⟨tb, p * 13 + 6, none⟩), .pointer (some ⟨tb, p * 13 + 7, none⟩), .pointer (some ⟨tb, p * 13 + 8, none⟩), .pointer (some ⟨tb, p * 13 + 9, none⟩), .pointer (some ⟨tb, p * 13 + 10, none⟩), .pointer (some ⟨tb, 105 + p, none⟩)] 79)) hs rfl ?_
  have hu2 := hu.step hb2
  have htb := hu.size
  clear hs hu hz
  generalize (u.alloc (.cells #[.pointer (some ⟨tb, p * 13 + 1, none⟩), .pointer (some ⟨tb, p * 13 + 2, none⟩), .pointer (some ⟨tb, p * 13 + 3, none⟩), .pointer (some ⟨tb, p * 13 + 4, none⟩), .pointer (some ⟨tb, p * 13 + 5, none⟩), .pointer (some ⟨tb, p * 13 + 6, none⟩), .pointer (some ⟨tb, p * 13 + 7, none⟩), .pointer (some ⟨tb, p * 13 + 8, none⟩), .pointer (some ⟨tb, p * 13 + 9, none⟩), .pointer (some ⟨tb, p * 13 + 10, none⟩), .pointer (some ⟨tb, 105 + p, none⟩)] 79)) = u2 at hu2 hg ⊢
  generalize u.heap.size = pb at hg ⊢
  refine hK.out _ _ trivial (fun _ => ?_)
  clear hK K
  refine wpAnyH_done (by kernel_rfl) ?_ _
  have HU := Lib.hid hu2
  have HGP := Lib.hid hg
  have SM := Lib.hid sh.small
  clear hS hu2 hg hb2 htb
  by_cases hk88 : k < 88
  · have hq : k / 8 = 0 ∨ k / 8 = 1 ∨ k / 8 = 2 ∨ k / 8 = 3 ∨ k / 8 = 4 ∨ k / 8 = 5 ∨ k / 8 = 6 ∨ k / 8 = 7 ∨ k / 8 = 8 ∨ k / 8 = 9 ∨ k / 8 = 10 := by omega
    rcases hq with hq | hq | hq | hq | hq | hq | hq | hq | hq | hq | hq
    · have hq2 : ((k : Nat) : Int) / 8 = 0 := by omega
      obtain ⟨old, ho⟩ := cell_field hd HU.out.ph p 1 hp8 (by omega) (by omega)
      have c1 : u2.cell? ⟨pb, 0, none⟩ = some (.pointer (some ⟨tb, p * 13 + 1, none⟩)) := by rw [cell_of_row _ _ _ _ _ _ HGP.out]; rfl
      have c2 : u2.cell? ⟨tb, p * 13 + 1, none⟩ = some (I old) := by rw [HU.out.cell]; exact ho
      have f2 := HU.out.frozen (p * 13 + 1)
      have hn := HU.out.set (p * 13 + 1) (I v) (cells_field hd HU.out.ph p 1 hp8 (by omega) (by omega) v) (by simp [HU.out.ph]) HU.out.cf HU.out.fl rfl rfl rfl rfl
      have HN := Lib.hid hn
      clear hn hq HU HGP
      go_wp2
      (try simp only [Exit.inBlock, Exit.then])
      first | refine bodyPost_ret (results_none rfl _ _ _) rfl ?_ | refine bodyPost_end (results_none rfl _ _ _) rfl ?_
      exact ⟨rfl, hd, _, HN.out, ⟨SM.out.groups, SM.out.rows, SM.out.dets, SM.out.rails, SM.out.buses⟩⟩
    · have hq2 : ((k : Nat) : Int) / 8 = 1 := by omega
      obtain ⟨old, ho⟩ := cell_field hd HU.out.ph p 2 hp8 (by omega) (by omega)
      have c1 : u2.cell? ⟨pb, 1, none⟩ = some (.pointer (some ⟨tb, p * 13 + 2, none⟩)) := by rw [cell_of_row _ _ _ _ _ _ HGP.out]; rfl
      have c2 : u2.cell? ⟨tb, p * 13 + 2, none⟩ = some (I old) := by rw [HU.out.cell]; exact ho
      have f2 := HU.out.frozen (p * 13 + 2)
      have hn := HU.out.set (p * 13 + 2) (I v) (cells_field hd HU.out.ph p 2 hp8 (by omega) (by omega) v) (by simp [HU.out.ph]) HU.out.cf HU.out.fl rfl rfl rfl rfl
      have HN := Lib.hid hn
      clear hn hq HU HGP
      go_wp2
      (try simp only [Exit.inBlock, Exit.then])
      first | refine bodyPost_ret (results_none rfl _ _ _) rfl ?_ | refine bodyPost_end (results_none rfl _ _ _) rfl ?_
      exact ⟨rfl, hd, _, HN.out, ⟨SM.out.groups, SM.out.rows, SM.out.dets, SM.out.rails, SM.out.buses⟩⟩
    · have hq2 : ((k : Nat) : Int) / 8 = 2 := by omega
      obtain ⟨old, ho⟩ := cell_field hd HU.out.ph p 3 hp8 (by omega) (by omega)
      have c1 : u2.cell? ⟨pb, 2, none⟩ = some (.pointer (some ⟨tb, p * 13 + 3, none⟩)) := by rw [cell_of_row _ _ _ _ _ _ HGP.out]; rfl
      have c2 : u2.cell? ⟨tb, p * 13 + 3, none⟩ = some (I old) := by rw [HU.out.cell]; exact ho
      have f2 := HU.out.frozen (p * 13 + 3)
      have hn := HU.out.set (p * 13 + 3) (I v) (cells_field hd HU.out.ph p 3 hp8 (by omega) (by omega) v) (by simp [HU.out.ph]) HU.out.cf HU.out.fl rfl rfl rfl rfl
      have HN := Lib.hid hn
      clear hn hq HU HGP
      go_wp2
      (try simp only [Exit.inBlock, Exit.then])
      first | refine bodyPost_ret (results_none rfl _ _ _) rfl ?_ | refine bodyPost_end (results_none rfl _ _ _) rfl ?_
      exact ⟨rfl, hd, _, HN.out, ⟨SM.out.groups, SM.out.rows, SM.out.dets, SM.out.rails, SM.out.buses⟩⟩
    · have hq2 : ((k : Nat) : Int) / 8 = 3 := by omega
      obtain ⟨old, ho⟩ := cell_field hd HU.out.ph p 4 hp8 (by omega) (by omega)
      have c1 : u2.cell? ⟨pb, 3, none⟩ = some (.pointer (some ⟨tb, p * 13 + 4, none⟩)) := by rw [cell_of_row _ _ _ _ _ _ HGP.out]; rfl
      have c2 : u2.cell? ⟨tb, p * 13 + 4, none⟩ = some (I old) := by rw [HU.out.cell]; exact ho
      have f2 := HU.out.frozen (p * 13 + 4)
      have hn := HU.out.set (p * 13 + 4) (I v) (cells_field hd HU.out.ph p 4 hp8 (by omega) (by omega) v) (by simp [HU.out.ph]) HU.out.cf HU.out.fl rfl rfl rfl rfl
      have HN := Lib.hid hn
      clear hn hq HU HGP
      go_wp2
      (try simp only [Exit.inBlock, Exit.then])
      first | refine bodyPost_ret (results_none rfl _ _ _) rfl ?_ | refine bodyPost_end (results_none rfl _ _ _) rfl ?_
      exact ⟨rfl, hd, _, HN.out, ⟨SM.out.groups, SM.out.rows, SM.out.dets, SM.out.rails, SM.out.buses⟩⟩
    · have hq2 : ((k : Nat) : Int) / 8 = 4 := by omega
      obtain ⟨old, ho⟩ := cell_field hd HU.out.ph p 5 hp8 (by omega) (by omega)
      have c1 : u2.cell? ⟨pb, 4, none⟩ = some (.pointer (some ⟨tb, p * 13 + 5, none⟩)) := by rw [cell_of_row _ _ _ _ _ _ HGP.out]; rfl
      have c2 : u2.cell? ⟨tb, p * 13 + 5, none⟩ = some (I old) := by rw [HU.out.cell]; exact ho
      have f2 := HU.out.frozen (p * 13 + 5)
      have hn := HU.out.set (p * 13 + 5) (I v) (cells_field hd HU.out.ph p 5 hp8 (by omega) (by omega) v) (by simp [HU.out.ph]) HU.out.cf HU.out.fl rfl rfl rfl rfl
      have HN := Lib.hid hn
      clear hn hq HU HGP
      go_wp2
      (try simp only [Exit.inBlock, Exit.then])
      first | refine bodyPost_ret (results_none rfl _ _ _) rfl ?_ | refine bodyPost_end (results_none rfl _ _ _) rfl ?_
      exact ⟨rfl, hd, _, HN.out, ⟨SM.out.groups, SM.out.rows, SM.out.dets, SM.out.rails, SM.out.buses⟩⟩
    · have hq2 : ((k : Nat) : Int) / 8 = 5 := by omega
      obtain ⟨old, ho⟩ := cell_field hd HU.out.ph p 6 hp8 (by omega) (by omega)
      have c1 : u2.cell? ⟨pb, 5, none⟩ = some (.pointer (some ⟨tb, p * 13 + 6, none⟩)) := by rw [cell_of_row _ _ _ _ _ _ HGP.out]; rfl
      have c2 : u2.cell? ⟨tb, p * 13 + 6, none⟩ = some (I old) := by rw [HU.out.cell]; exact ho
      have f2 := HU.out.frozen (p * 13 + 6)
      have hn := HU.out.set (p * 13 + 6) (I v) (cells_field hd HU.out.ph p 6 hp8 (by omega) (by omega) v) (by simp [HU.out.ph]) HU.out.cf HU.out.fl rfl rfl rfl rfl
      have HN := Lib.hid hn
      clear hn hq HU HGP
      go_wp2
      (try simp only [Exit.inBlock, Exit.then])
      first | refine bodyPost_ret (results_none rfl _ _ _) rfl ?_ | refine bodyPost_end (results_none rfl _ _ _) rfl ?_
      exact ⟨rfl, hd, _, HN.out, ⟨SM.out.groups, SM.out.rows, SM.out.dets, SM.out.rails, SM.out.buses⟩⟩
    · have hq2 : ((k : Nat) : Int) / 8 = 6 := by omega
      obtain ⟨old, ho⟩ := cell_field hd HU.out.ph p 7 hp8 (by omega) (by omega)
      have c1 : u2.cell? ⟨pb, 6, none⟩ = some (.pointer (some ⟨tb, p * 13 + 7, none⟩)) := by rw [cell_of_row _ _ _ _ _ _ HGP.out]; rfl
      have c2 : u2.cell? ⟨tb, p * 13 + 7, none⟩ = some (I old) := by rw [HU.out.cell]; exact ho
      have f2 := HU.out.frozen (p * 13 + 7)
      have hn := HU.out.set (p * 13 + 7) (I v) (cells_field hd HU.out.ph p 7 hp8 (by omega) (by omega) v) (by simp [HU.out.ph]) HU.out.cf HU.out.fl rfl rfl rfl rfl
      have HN := Lib.hid hn
      clear hn hq HU HGP
      go_wp2
      (try simp only [Exit.inBlock, Exit.then])
      first | refine bodyPost_ret (results_none rfl _ _ _) rfl ?_ | refine bodyPost_end (results_none rfl _ _ _) rfl ?_
      exact ⟨rfl, hd, _, HN.out, ⟨SM.out.groups, SM.out.rows, SM.out.dets, SM.out.rails, SM.out.buses⟩⟩
    · have hq2 : ((k : Nat) : Int) / 8 = 7 := by omega
      obtain ⟨old, ho⟩ := cell_field hd HU.out.ph p 8 hp8 (by omega) (by omega)
      have c1 : u2.cell? ⟨pb, 7, none⟩ = some (.pointer (some ⟨tb, p * 13 + 8, none⟩)) := by rw [cell_of_row _ _ _ _ _ _ HGP.out]; rfl
      have c2 : u2.cell? ⟨tb, p * 13 + 8, none⟩ = some (I old) := by rw [HU.out.cell]; exact ho
      have f2 := HU.out.frozen (p * 13 + 8)
      have hn := HU.out.set (p * 13 + 8) (I v) (cells_field hd HU.out.ph p 8 hp8 (by omega) (by omega) v) (by simp [HU.out.ph]) HU.out.cf HU.out.fl rfl rfl rfl rfl
      have HN := Lib.hid hn
      clear hn hq HU HGP
      go_wp2
      (try simp only [Exit.inBlock, Exit.then])
      first | refine bodyPost_ret (results_none rfl _ _ _) rfl ?_ | refine bodyPost_end (results_none rfl _ _ _) rfl ?_
      exact ⟨rfl, hd, _, HN.out, ⟨SM.out.groups, SM.out.rows, SM.out.dets, SM.out.rails, SM.out.buses⟩⟩
    · have hq2 : ((k : Nat) : Int) / 8 = 8 := by omega
      obtain ⟨old, ho⟩ := cell_field hd HU.out.ph p 9 hp8 (by omega) (by omega)
      have c1 : u2.cell? ⟨pb, 8, none⟩ = some (.pointer (some ⟨tb, p * 13 + 9, none⟩)) := by rw [cell_of_row _ _ _ _ _ _ HGP.out]; rfl
      have c2 : u2.cell? ⟨tb, p * 13 + 9, none⟩ = some (I old) := by rw [HU.out.cell]; exact ho
      have f2 := HU.out.frozen (p * 13 + 9)
      have hn := HU.out.set (p * 13 + 9) (I v) (cells_field hd HU.out.ph p 9 hp8 (by omega) (by omega) v) (by simp [HU.out.ph]) HU.out.cf HU.out.fl rfl rfl rfl rfl
      have HN := Lib.hid hn
      clear hn hq HU HGP
      go_wp2
      (try simp only [Exit.inBlock, Exit.then])
      first | refine bodyPost_ret (results_none rfl _ _ _) rfl ?_ | refine bodyPost_end (results_none rfl _ _ _) rfl ?_
      exact ⟨rfl, hd, _, HN.out, ⟨SM.out.groups, SM.out.rows, SM.out.dets, SM.out.rails, SM.out.buses⟩⟩
    · have hq2 : ((k : Nat) : Int) / 8 = 9 := by omega
      obtain ⟨old, ho⟩ := cell_field hd HU.out.ph p 10 hp8 (by omega) (by omega)
      have c1 : u2.cell? ⟨pb, 9, none⟩ = some (.pointer (some ⟨tb, p * 13 + 10, none⟩)) := by rw [cell_of_row _ _ _ _ _ _ HGP.out]; rfl
      have c2 : u2.cell? ⟨tb, p * 13 + 10, none⟩ = some (I old) := by rw [HU.out.cell]; exact ho
      have f2 := HU.out.frozen (p * 13 + 10)
      have hn := HU.out.set (p * 13 + 10) (I v) (cells_field hd HU.out.ph p 10 hp8 (by omega) (by omega) v) (by simp [HU.out.ph]) HU.out.cf HU.out.fl rfl rfl rfl rfl
      have HN := Lib.hid hn
      clear hn hq HU HGP
      go_wp2
      (try simp only [Exit.inBlock, Exit.then])
      first | refine bodyPost_ret (results_none rfl _ _ _) rfl ?_ | refine bodyPost_end (results_none rfl _ _ _) rfl ?_
      exact ⟨rfl, hd, _, HN.out, ⟨SM.out.groups, SM.out.rows, SM.out.dets, SM.out.rails, SM.out.buses⟩⟩
    · have hq2 : ((k : Nat) : Int) / 8 = 10 := by omega
      have c1 : u2.cell? ⟨pb, 10, none⟩ = some (.pointer (some ⟨tb, 105 + p, none⟩)) := by rw [cell_of_row _ _ _ _ _ _ HGP.out]; rfl
      have c2 : u2.cell? ⟨tb, 105 + p, none⟩ = some (I (T.conflict.getD p 0)) := (range_of HU.out.blk 105 8 _ (cells_ok HU.out.tab).conflict) p _ (by rw [List.getElem?_map, List.getD_eq_getElem?_getD, List.getElem?_eq_getElem (show p < T.conflict.length by rw [HU.out.cf]; exact hp8)]; rfl)
      have f2 := HU.out.frozen (105 + p)
      generalize T.conflict.getD p 0 = old at c2
      have hn := HU.out.set (105 + p) (I v) (cells_conflict hd HU.out.ph HU.out.cf p hp8 v) HU.out.ph (by simp [HU.out.cf]) HU.out.fl rfl rfl rfl rfl
      have HN := Lib.hid hn
      clear hn hq HU HGP
      go_wp2
      (try simp only [Exit.inBlock, Exit.then])
      first | refine bodyPost_ret (results_none rfl _ _ _) rfl ?_ | refine bodyPost_end (results_none rfl _ _ _) rfl ?_
      exact ⟨rfl, hd, _, HN.out, ⟨SM.out.groups, SM.out.rows, SM.out.dets, SM.out.rails, SM.out.buses⟩⟩
  · clear HGP
    have hkc : k = 88 ∨ k = 89 ∨ k = 90 ∨ k = 91 ∨ k = 92 ∨ k = 93 ∨ k = 94 ∨ k = 95 ∨ k = 96 ∨ k = 97 ∨ k = 98 ∨ k = 99 := by omega
    rcases hkc with rfl | rfl | rfl | rfl | rfl | rfl | rfl | rfl | rfl | rfl | rfl | rfl
    · have c2 : u2.cell? ⟨tb, 116, none⟩ = some (I T.extend) := by rw [HU.out.cell, ← List.getElem?_toArray]; exact (cells_ok HU.out.tab).extend
      have f2 := HU.out.frozen 116
      have HN := Lib.hid (HU.out.set 116 (I v) (cells_extend hd HU.out.ph HU.out.cf v) HU.out.ph HU.out.cf HU.out.fl rfl rfl rfl rfl)
      generalize T.extend = old at c2
      clear HU
      go_wp2
      (try simp only [Exit.inBlock, Exit.then])
      first | refine bodyPost_ret (results_none rfl _ _ _) rfl ?_ | refine bodyPost_end (results_none rfl _ _ _) rfl ?_
      exact ⟨rfl, hd, _, HN.out, ⟨SM.out.groups, SM.out.rows, SM.out.dets, SM.out.rails, SM.out.buses⟩⟩
    · have c2 : u2.cell? ⟨tb, 117, none⟩ = some (I T.budget) := by rw [HU.out.cell, ← List.getElem?_toArray]; exact (cells_ok HU.out.tab).budget
      have f2 := HU.out.frozen 117
      have HN := Lib.hid (HU.out.set 117 (I v) (cells_budget hd HU.out.ph HU.out.cf v) HU.out.ph HU.out.cf HU.out.fl rfl rfl rfl rfl)
      generalize T.budget = old at c2
      clear HU
      go_wp2
      (try simp only [Exit.inBlock, Exit.then])
      first | refine bodyPost_ret (results_none rfl _ _ _) rfl ?_ | refine bodyPost_end (results_none rfl _ _ _) rfl ?_
      exact ⟨rfl, hd, _, HN.out, ⟨SM.out.groups, SM.out.rows, SM.out.dets, SM.out.rails, SM.out.buses⟩⟩
    · have c2 : u2.cell? ⟨tb, 118, none⟩ = some (I T.start) := by rw [HU.out.cell, ← List.getElem?_toArray]; exact (cells_ok HU.out.tab).start
      have f2 := HU.out.frozen 118
      have HN := Lib.hid (HU.out.set 118 (I v) (cells_start hd HU.out.ph HU.out.cf v) HU.out.ph HU.out.cf HU.out.fl rfl rfl rfl rfl)
      generalize T.start = old at c2
      clear HU
      go_wp2
      (try simp only [Exit.inBlock, Exit.then])
      first | refine bodyPost_ret (results_none rfl _ _ _) rfl ?_ | refine bodyPost_end (results_none rfl _ _ _) rfl ?_
      exact ⟨rfl, hd, _, HN.out, ⟨SM.out.groups, SM.out.rows, SM.out.dets, SM.out.rails, SM.out.buses⟩⟩
    · have c2 : u2.cell? ⟨tb, 119, none⟩ = some (I T.revert) := by rw [HU.out.cell, ← List.getElem?_toArray]; exact (cells_ok HU.out.tab).revert
      have f2 := HU.out.frozen 119
      have HN := Lib.hid (HU.out.set 119 (I v) (cells_revert hd HU.out.ph HU.out.cf v) HU.out.ph HU.out.cf HU.out.fl rfl rfl rfl rfl)
      generalize T.revert = old at c2
      clear HU
      go_wp2
      (try simp only [Exit.inBlock, Exit.then])
      first | refine bodyPost_ret (results_none rfl _ _ _) rfl ?_ | refine bodyPost_end (results_none rfl _ _ _) rfl ?_
      exact ⟨rfl, hd, _, HN.out, ⟨SM.out.groups, SM.out.rows, SM.out.dets, SM.out.rails, SM.out.buses⟩⟩
    · have c2 : u2.cell? ⟨tb, 120, none⟩ = some (I T.least) := by rw [HU.out.cell, ← List.getElem?_toArray]; exact (cells_ok HU.out.tab).least
      have f2 := HU.out.frozen 120
      have HN := Lib.hid (HU.out.set 120 (I v) (cells_least hd HU.out.ph HU.out.cf v) HU.out.ph HU.out.cf HU.out.fl rfl rfl rfl rfl)
      generalize T.least = old at c2
      clear HU
      go_wp2
      (try simp only [Exit.inBlock, Exit.then])
      first | refine bodyPost_ret (results_none rfl _ _ _) rfl ?_ | refine bodyPost_end (results_none rfl _ _ _) rfl ?_
      exact ⟨rfl, hd, _, HN.out, ⟨SM.out.groups, SM.out.rows, SM.out.dets, SM.out.rails, SM.out.buses⟩⟩
    · have c2 : u2.cell? ⟨tb, 129, none⟩ = some (I T.window) := by rw [HU.out.cell, ← List.getElem?_toArray]; exact (cells_ok HU.out.tab).window
      have f2 := HU.out.frozen 129
      have HN := Lib.hid (HU.out.set 129 (I v) (cells_window hd HU.out.ph HU.out.cf HU.out.fl v) HU.out.ph HU.out.cf HU.out.fl rfl rfl rfl rfl)
      generalize T.window = old at c2
      clear HU
      go_wp2
      (try simp only [Exit.inBlock, Exit.then])
      first | refine bodyPost_ret (results_none rfl _ _ _) rfl ?_ | refine bodyPost_end (results_none rfl _ _ _) rfl ?_
      exact ⟨rfl, hd, _, HN.out, ⟨SM.out.groups, SM.out.rows, SM.out.dets, SM.out.rails, SM.out.buses⟩⟩
    · have c2 : u2.cell? ⟨tb, 130, none⟩ = some (I T.share) := by rw [HU.out.cell, ← List.getElem?_toArray]; exact (cells_ok HU.out.tab).share
      have f2 := HU.out.frozen 130
      have HN := Lib.hid (HU.out.set 130 (I v) (cells_share hd HU.out.ph HU.out.cf HU.out.fl v) HU.out.ph HU.out.cf HU.out.fl rfl rfl rfl rfl)
      generalize T.share = old at c2
      clear HU
      go_wp2
      (try simp only [Exit.inBlock, Exit.then])
      first | refine bodyPost_ret (results_none rfl _ _ _) rfl ?_ | refine bodyPost_end (results_none rfl _ _ _) rfl ?_
      exact ⟨rfl, hd, _, HN.out, ⟨SM.out.groups, SM.out.rows, SM.out.dets, SM.out.rails, SM.out.buses⟩⟩
    · obtain ⟨a70, a71⟩ := and7 v
      obtain ⟨q, hq⟩ := Int.eq_ofNat_of_zero_le a70
      have hq8 : q < 8 := by omega
      have hqi : (q : Int) < 8 := by omega
      have c2 : u2.cell? ⟨tb, 121 + q, none⟩ = some (I (T.flash.getD q 0)) := (range_of HU.out.blk 121 8 _ (cells_ok HU.out.tab).flash) q _ (by rw [List.getElem?_map, List.getD_eq_getElem?_getD, List.getElem?_eq_getElem (show q < T.flash.length by rw [HU.out.fl]; exact hq8)]; rfl)
      have f2 := HU.out.frozen (121 + q)
      generalize T.flash.getD q 0 = old at c2
      have HN := Lib.hid (HU.out.set (121 + q) (I v) (cells_flash hd HU.out.ph HU.out.cf HU.out.fl q hq8 v) HU.out.ph HU.out.cf (by simp [HU.out.fl]) rfl rfl rfl rfl)
      clear HU a70 a71
      go_wp2
      (try simp only [Exit.inBlock, Exit.then])
      first | refine bodyPost_ret (results_none rfl _ _ _) rfl ?_ | refine bodyPost_end (results_none rfl _ _ _) rfl ?_
      exact ⟨rfl, hd, _, HN.out, ⟨SM.out.groups, SM.out.rows, SM.out.dets, SM.out.rails, SM.out.buses⟩⟩
    · obtain ⟨X, hX⟩ : ∃ X : Det, X.cells = [I (bits .and .i64 v 7), F x, F 4607182418800017408, F 0, F 0, I 0, I 0] := ⟨⟨bits .and .i64 v 7, x, 4607182418800017408, 0, 0, 0, 0⟩, rfl⟩
      obtain ⟨j0, hj, hy0, hy1, hy2⟩ := info_parts infoDz3
      have hv : hd.d = ⟨da, dc⟩ := by rw [← HHD.out]
      have c4 : u2.cell? ⟨tb, 113, none⟩ = some (.slice da T.dets.length dc) := by rw [HU.out.cell, ← List.getElem?_toArray, (cells_ok HU.out.tab).d, hv]
      have hown2 : u2.ownsRow w0.heap.size 44 7 (.slice da T.dets.length dc) T.dets.length (T.dets.flatMap Det.cells) := by have := HU.out.dets; rw [hv] at this; exact this
      have hbase := HU.out.bel.size
      have hsl := sh.dets
      go_wp2_with (at_builtin; refine wpList_append_own _ rfl _ _ 29 rfl w0.heap.size 44 j0 (.agg #[I 0, F 0, F 0, F 0, F 0, I 0, I 0]) 7 56 Try.underlying29 hj hy0 hy1 hy2 rfl (by decide) _ _ _ rfl (hown2.alloc _) ⟨u2.heap.size, 0, none⟩ 1 1 [I (bits .and .i64 v 7), F x, F 4607182418800017408, F 0, F 0, I 0, I 0] rfl rfl ?c1 ?c2 ?c3 ?c4 ?c5 ?_)
      case c1 =>
        intro m e hm
        exact Row.lies_of_block (heap_alloc_new u2 _) m e hm
      case c2 => intro e he; have h1 : (#[I (bits .and .i64 v 7), F x, F 4607182418800017408, F 0, F 0, I 0, I 0] : Array Value).all (·.oneCell') = true := by simp [Value.oneCell']
                 exact (Array.all_eq_true_iff_forall_mem.1 h1) e (by simpa using he)
      case c3 => unfold maxLen; omega
      case c4 => omega
      case c5 => simp; omega
      intro v' w5 hown' hgrow hnil'
      rw [← hX] at hown'
      obtain ⟨hbk, a', c', rfl, hG⟩ := (HU.out.step ((Below.refl _ _).alloc (Nat.le_refl _) _)).put_dets X (by rw [hv]; exact hgrow) hown'
      have c5 : w5.cell? ⟨tb, 113, none⟩ = some (.slice da T.dets.length dc) := by rw [cell_of_row _ _ _ _ _ _ hbk, (cells_ok HU.out.tab).d, hv]
      have f5 : w5.frozen? ⟨tb, 113, none⟩ = false := frozen_of_row _ _ _ _ _ hbk
      have HG := Lib.hid hG
      clear hown' hgrow hown2 hnil' hbk hG HU c4
      go_wp2
      (try simp only [Exit.inBlock, Exit.then])
      first | refine bodyPost_ret (results_none rfl _ _ _) rfl ?_ | refine bodyPost_end (results_none rfl _ _ _) rfl ?_
      exact ⟨rfl, _, _, HG.out, ⟨SM.out.groups, SM.out.rows, by rw [List.length_append]; simp; omega, SM.out.rails, SM.out.buses⟩⟩
    · obtain ⟨X, hX⟩ : ∃ X : Det, X.cells = [I (bits .and .i64 v 7), F 4607182418800017408, F 4607182418800017408, F x, F 0, I 0, I 0] := ⟨⟨bits .and .i64 v 7, 4607182418800017408, 4607182418800017408, x, 0, 0, 0⟩, rfl⟩
      obtain ⟨j0, hj, hy0, hy1, hy2⟩ := info_parts infoDz3
      have hv : hd.d = ⟨da, dc⟩ := by rw [← HHD.out]
      have c4 : u2.cell? ⟨tb, 113, none⟩ = some (.slice da T.dets.length dc) := by rw [HU.out.cell, ← List.getElem?_toArray, (cells_ok HU.out.tab).d, hv]
      have hown2 : u2.ownsRow w0.heap.size 44 7 (.slice da T.dets.length dc) T.dets.length (T.dets.flatMap Det.cells) := by have := HU.out.dets; rw [hv] at this; exact this
      have hbase := HU.out.bel.size
      have hsl := sh.dets
      go_wp2_with (at_builtin; refine wpList_append_own _ rfl _ _ 29 rfl w0.heap.size 44 j0 (.agg #[I 0, F 0, F 0, F 0, F 0, I 0, I 0]) 7 56 Try.underlying29 hj hy0 hy1 hy2 rfl (by decide) _ _ _ rfl (hown2.alloc _) ⟨u2.heap.size, 0, none⟩ 1 1 [I (bits .and .i64 v 7), F 4607182418800017408, F 4607182418800017408, F x, F 0, I 0, I 0] rfl rfl ?c1 ?c2 ?c3 ?c4 ?c5 ?_)
      case c1 =>
        intro m e hm
        exact Row.lies_of_block (heap_alloc_new u2 _) m e hm
      case c2 => intro e he; have h1 : (#[I (bits .and .i64 v 7), F 4607182418800017408, F 4607182418800017408, F x, F 0, I 0, I 0] : Array Value).all (·.oneCell') = true := by simp [Value.oneCell']
                 exact (Array.all_eq_true_iff_forall_mem.1 h1) e (by simpa using he)
      case c3 => unfold maxLen; omega
      case c4 => omega
      case c5 => simp; omega
      intro v' w5 hown' hgrow hnil'
      rw [← hX] at hown'
      obtain ⟨hbk, a', c', rfl, hG⟩ := (HU.out.step ((Below.refl _ _).alloc (Nat.le_refl _) _)).put_dets X (by rw [hv]; exact hgrow) hown'
      have c5 : w5.cell? ⟨tb, 113, none⟩ = some (.slice da T.dets.length dc) := by rw [cell_of_row _ _ _ _ _ _ hbk, (cells_ok HU.out.tab).d, hv]
      have f5 : w5.frozen? ⟨tb, 113, none⟩ = false := frozen_of_row _ _ _ _ _ hbk
      have HG := Lib.hid hG
      clear hown' hgrow hown2 hnil' hbk hG HU c4
      go_wp2
      (try simp only [Exit.inBlock, Exit.then])
      first | refine bodyPost_ret (results_none rfl _ _ _) rfl ?_ | refine bodyPost_end (results_none rfl _ _ _) rfl ?_
      exact ⟨rfl, _, _, HG.out, ⟨SM.out.groups, SM.out.rows, by rw [List.length_append]; simp; omega, SM.out.rails, SM.out.buses⟩⟩
    · obtain ⟨X, hX⟩ : ∃ X : Rl, X.cells = [I 0, I 0, I v, I 0, I 0, I 0, I 0, I 0, I 0, I 0, I 0] := ⟨⟨0, 0, v, 0, 0, 0, 0, 0, 0, 0, 0⟩, rfl⟩
      obtain ⟨j0, hj, hy0, hy1, hy2⟩ := info_parts infoRz3
      have hv : hd.r = ⟨ra, rc⟩ := by rw [← HHD.out]
      have c4 : u2.cell? ⟨tb, 114, none⟩ = some (.slice ra T.rails.length rc) := by rw [HU.out.cell, ← List.getElem?_toArray, (cells_ok HU.out.tab).r, hv]
      have hown2 : u2.ownsRow w0.heap.size 46 11 (.slice ra T.rails.length rc) T.rails.length (T.rails.flatMap Rl.cells) := by have := HU.out.rails; rw [hv] at this; exact this
      have hbase := HU.out.bel.size
      have hsl := sh.rails
      go_wp2_with (at_builtin; refine wpList_append_own _ rfl _ _ 30 rfl w0.heap.size 46 j0 (.agg #[I 0, I 0, I 0, I 0, I 0, I 0, I 0, I 0, I 0, I 0, I 0]) 11 88 Try.underlying30 hj hy0 hy1 hy2 rfl (by decide) _ _ _ rfl (hown2.alloc _) ⟨u2.heap.size, 0, none⟩ 1 1 [I 0, I 0, I v, I 0, I 0, I 0, I 0, I 0, I 0, I 0, I 0] rfl rfl ?c1 ?c2 ?c3 ?c4 ?c5 ?_)
      case c1 =>
        intro m e hm
        exact Row.lies_of_block (heap_alloc_new u2 _) m e hm
      case c2 => intro e he; have h1 : (#[I 0, I 0, I v, I 0, I 0, I 0, I 0, I 0, I 0, I 0, I 0] : Array Value).all (·.oneCell') = true := by simp [Value.oneCell']
                 exact (Array.all_eq_true_iff_forall_mem.1 h1) e (by simpa using he)
      case c3 => unfold maxLen; omega
      case c4 => omega
      case c5 => simp; omega
      intro v' w5 hown' hgrow hnil'
      rw [← hX] at hown'
      obtain ⟨hbk, a', c', rfl, hG⟩ := (HU.out.step ((Below.refl _ _).alloc (Nat.le_refl _) _)).put_rails X (by rw [hv]; exact hgrow) hown'
      have c5 : w5.cell? ⟨tb, 114, none⟩ = some (.slice ra T.rails.length rc) := by rw [cell_of_row _ _ _ _ _ _ hbk, (cells_ok HU.out.tab).r, hv]
      have f5 : w5.frozen? ⟨tb, 114, none⟩ = false := frozen_of_row _ _ _ _ _ hbk
      have HG := Lib.hid hG
      clear hown' hgrow hown2 hnil' hbk hG HU c4
      go_wp2
      (try simp only [Exit.inBlock, Exit.then])
      first | refine bodyPost_ret (results_none rfl _ _ _) rfl ?_ | refine bodyPost_end (results_none rfl _ _ _) rfl ?_
      exact ⟨rfl, _, _, HG.out, ⟨SM.out.groups, SM.out.rows, SM.out.dets, by rw [List.length_append]; simp; omega, SM.out.buses⟩⟩
    · obtain ⟨X, hX⟩ : ∃ X : Bs, X.cells = [I v, I 0] := ⟨⟨v, 0⟩, rfl⟩
      obtain ⟨j0, hj, hy0, hy1, hy2⟩ := info_parts infoBz3
      have hv : hd.b = ⟨ba, bc⟩ := by rw [← HHD.out]
      have c4 : u2.cell? ⟨tb, 115, none⟩ = some (.slice ba T.buses.length bc) := by rw [HU.out.cell, ← List.getElem?_toArray, (cells_ok HU.out.tab).b, hv]
      have hown2 : u2.ownsRow w0.heap.size 48 2 (.slice ba T.buses.length bc) T.buses.length (T.buses.flatMap Bs.cells) := by have := HU.out.buses; rw [hv] at this; exact this
      have hbase := HU.out.bel.size
      have hsl := sh.buses
      go_wp2_with (at_builtin; refine wpList_append_own _ rfl _ _ 31 rfl w0.heap.size 48 j0 (.agg #[I 0, I 0]) 2 16 Try.underlying31 hj hy0 hy1 hy2 rfl (by decide) _ _ _ rfl (hown2.alloc _) ⟨u2.heap.size, 0, none⟩ 1 1 [I v, I 0] rfl rfl ?c1 ?c2 ?c3 ?c4 ?c5 ?_)
      case c1 =>
        intro m e hm
        exact Row.lies_of_block (heap_alloc_new u2 _) m e hm
      case c2 => intro e he; have h1 : (#[I v, I 0] : Array Value).all (·.oneCell') = true := by simp [Value.oneCell']
                 exact (Array.all_eq_true_iff_forall_mem.1 h1) e (by simpa using he)
      case c3 => unfold maxLen; omega
      case c4 => omega
      case c5 => simp; omega
      intro v' w5 hown' hgrow hnil'
      rw [← hX] at hown'
      obtain ⟨hbk, a', c', rfl, hG⟩ := (HU.out.step ((Below.refl _ _).alloc (Nat.le_refl _) _)).put_buses X (by rw [hv]; exact hgrow) hown'
      have c5 : w5.cell? ⟨tb, 115, none⟩ = some (.slice ba T.buses.length bc) := by rw [cell_of_row _ _ _ _ _ _ hbk, (cells_ok HU.out.tab).b, hv]
      have f5 : w5.frozen? ⟨tb, 115, none⟩ = false := frozen_of_row _ _ _ _ _ hbk
      have HG := Lib.hid hG
      clear hown' hgrow hown2 hnil' hbk hG HU c4
      go_wp2
      (try simp only [Exit.inBlock, Exit.then])
      first | refine bodyPost_ret (results_none rfl _ _ _) rfl ?_ | refine bodyPost_end (results_none rfl _ _ _) rfl ?_
      exact ⟨rfl, _, _, HG.out, ⟨SM.out.groups, SM.out.rows, SM.out.dets, SM.out.rails, by rw [List.length_append]; simp; omega⟩⟩
end Go.Proofs.Ytfnpcfibgabmfaa.Bend
/- A clone, boxed, as a table of the call's own (Ux). -/
namespace Go.Proofs.Ytfnpcfibgabmfaa.BendU
open Go Go.RowKit
open Tab Gath GenG GenT Clone Owned
set_option linter.unusedVariables false
set_option linter.unusedSimpArgs false
theorem own_block {α : Type} {enc : α → List Value} {n B : Nat} {w : World} {t : TypeId} {g : Nat} {l : List α} (henc : ∀ x, (enc x).length = n) (hB : B ≤ g) (hg : w.heap[g]? = some (.cells (l.flatMap enc).toArray t (0, 0))) (hl : l.length ≤ maxLen) : Owns enc n B w t (.slice (some ⟨g, 0, none⟩) l.length l.length) l := by
  have hf := Gath.flat_len henc l
  refine ⟨hf, .inr ⟨g, l.length, (l.flatMap enc).toArray, rfl, hB, hg, Nat.le_refl _, hl, by rw [List.size_toArray, hf], ?_⟩⟩
  rw [List.take_of_length_le (by rw [hf]; exact Nat.le_refl _)]
theorem of_clone {w0 W : World} {T : Tab} {ns : List NG} {G D R S tb : Nat} (k8 : T.phases.length = 8) (c8 : T.conflict.length = 8) (f8 : T.flash.length = 8) (sm : Small T) (hnd : ns.map (fun g => (g.r0, g.r1)) = T.groups)
    (ho : Own w0.heap.size W (own T ns G D R S)) (hbel : Below w0.heap.size w0 W) (htb : w0.heap.size ≤ tb) (hblk : W.heap[tb]? = some (.cells (T.cells (hd T G D R S)).toArray 33 (0, 0))) : Ux w0 tb (hd T G D R S) T W := by
  have hm : ∀ n, n ≤ 1000 → n ≤ maxLen := fun n h => by unfold maxLen; omega
  have hD : (⟨D, T.dets.flatMap Det.cells, 44⟩ : Blk) ∈ own T ns G D R S := by simp [own]
  have hR : (⟨R, T.rails.flatMap Rl.cells, 46⟩ : Blk) ∈ own T ns G D R S := by simp [own]
  have hS : (⟨S, T.buses.flatMap Bs.cells, 48⟩ : Blk) ∈ own T ns G D R S := by simp [own]
  have hG : (⟨G, (ns.map NG.gr).flatMap Gr.cells, 42⟩ : Blk) ∈ own T ns G D R S := by simp [own]
  have hln : (ns.map NG.gr).length = T.groups.length := by rw [← hnd, List.length_map, List.length_map]
  refine ⟨hbel, htb, hblk, k8, c8, f8, ?_, own_block (fun _ => rfl) (ho.base hD) (ho.get hD) (hm _ sm.dets), own_block (fun _ => rfl) (ho.base hR) (ho.get hR) (hm _ sm.rails), own_block (fun _ => rfl) (ho.base hS) (ho.get hS) (hm _ sm.buses)⟩
  refine ⟨ns.map NG.gr, by rw [List.map_map, ← hnd]; rfl, ?_, ?_, ?_⟩
  · have := Copy.row_of_block (n := 2) (enc := Gr.cells) (fun _ => rfl) (ns.map NG.gr) (ho.get hG) (by rw [hln]; exact hm _ sm.groups)
    rw [hln] at this
    exact this
  · intro x hx
    obtain rfl := Option.some.inj hx
    exact ⟨_, ho.get hG⟩
  · intro g hg
    obtain ⟨y, hy, rfl⟩ := List.mem_map.1 hg
    have hyr := sm.rows (y.r0, y.r1) (by rw [← hnd]; exact List.mem_map.2 ⟨y, hy, rfl⟩)
    have h0 : (⟨y.b0, y.r0.flatMap (fun n => [I n]), 3⟩ : Blk) ∈ own T ns G D R S := by
      simp only [own, List.mem_cons]; exact .inr (.inr (.inr (.inr (List.mem_flatMap.2 ⟨y, hy, by simp [NG.blks]⟩))))
    have h1 : (⟨y.b1, y.r1.flatMap (fun n => [I n]), 3⟩ : Blk) ∈ own T ns G D R S := by
      simp only [own, List.mem_cons]; exact .inr (.inr (.inr (.inr (List.mem_flatMap.2 ⟨y, hy, by simp [NG.blks]⟩))))
    exact ⟨⟨Copy.row_of_block (n := 1) (enc := fun n => [I n]) (fun _ => rfl) y.r0 (ho.get h0) (hm _ hyr.1), fun x hx => by obtain rfl := Option.some.inj hx; exact ⟨_, ho.get h0⟩⟩,
      ⟨Copy.row_of_block (n := 1) (enc := fun n => [I n]) (fun _ => rfl) y.r1 (ho.get h1) (hm _ hyr.2), fun x hx => by obtain rfl := Option.some.inj hx; exact ⟨_, ho.get h1⟩⟩⟩
end Go.Proofs.Ytfnpcfibgabmfaa.BendU
/- Region 1 of the document's Same: what is compared ahead of the lists' elements. -/
namespace Go.Proofs.Ytfnpcfibgabmfaa.Same
open Go.ChangeShapes Go.WideShapes Go.ChangeAt Go.RowKit
open Tab Owned CodeAt
open May (ret_bool chain take_succ' infoP infoG infoD infoR infoB infoT row_new St)
set_option linter.unusedVariables false
set_option linter.unusedSimpArgs false
/-- Two boxed tables that a walk holds on to. -/
structure Two (w : World) (cs ds : Array Value) (h k : Hd) (T U : Tab) (W : World) : Prop where
  t : St w w.heap.size cs h T W
  u : St w (w.heap.size + 1) ds k U W
theorem Two.step {w W W' : World} {cs ds : Array Value} {h k : Hd} {T U : Tab} (p : Two w cs ds h k T U W) (hb : Below W.heap.size W W') : Two w cs ds h k T U W' := ⟨p.t.step hb, p.u.step hb⟩
theorem data_step {l m : List Gr} {k : Nat} {v u : Gr} (h : l[k]? = some v) (h' : m[k]? = some u) (e : (l.take k).map Gr.data = (m.take k).map Gr.data) (hv : v.data = u.data) : (l.take (k + 1)).map Gr.data = (m.take (k + 1)).map Gr.data := by
  rw [take_succ' l k v h, take_succ' m k u h', List.map_append, List.map_append, e]; simp [hv]
theorem data_break {l m : List Gr} {k : Nat} {v u : Gr} (h : l[k]? = some v) (h' : m[k]? = some u) (hv : ¬ v.data = u.data) : ¬ l.map Gr.data = m.map Gr.data := fun e => hv (by
  have h3 := congrArg (·[k]?) e
  simp only [List.getElem?_map, h, h', Option.map_some] at h3
  exact Option.some.inj h3)
/-- What is compared ahead of the lists' elements. -/
structure Heads (T U : Tab) : Prop where
  h1 : T.phases = U.phases
  h2 : T.conflict = U.conflict
  h3 : T.flash = U.flash
  h4 : T.groups.length = U.groups.length
  h5 : T.dets.length = U.dets.length
  h6 : T.rails.length = U.rails.length
  h7 : T.buses.length = U.buses.length
set_option maxRecDepth 100000 in
set_option maxHeartbeats 20000000 in
theorem heads_rg {Q : Exit → Act → World → Prop} (T U : Tab) (h k : Hd) (w w1 : World) (cs ds : Array Value) (L1 : Hid (IsTab w h T)) (L2 : Hid (IsTab w k U)) (C : Hid (CellsOk T h cs)) (D : Hid (CellsOk U k ds)) (SS : Hid (Two w cs ds h k T U w1)) (f0 f1 f4 f5 f6 f7 f8 f9 f10 f11 f12 f13 f14 f15 f16 f17 f18 f19 f20 f21 f22 f23 f24 f25 f26 f27 f28 f29 f30 f31 f32 f33 f34 f35 f36 f37 f38 f39 f40 f41 f42 f43 f44 f45 f46 f47 f48 f49 f50 f51 f52 f53 f54 f55 f56 f57 f58 f59 f60 f61 f62 f63 f64 f65 f66 f67 f68 f69 f70 f71 f72 f73 f74 f75 f76 f77 f78 f79 f80 f81 f82 f83 f84 f85 f86 f87 f88 f89 f90 f91 f92 f93 f94 f95 f96 f97 f98 f99 f100 f101 f102 f103 f104 f105 f106 f107 f108 f109 f110 f111 f112 f113 f114 f115 f116 f117 f118 f119 f120 f121 f122 f123 f124 f125 f126 f127 f128 f129 f130 f131 f132 f133 f134 f135 f136 f137 f138 f139 f140 f141 f142 f143 f144 f145 f146 f147 f148 f149 f150 f151 f152 f153 f154 f155 f156 f157 f158 f159 f160 f161 f162 f163 f164 f165 f166 f167 f168 f169 f170 f171 f172 f173 f174 f175 f176 f177 f178 f179 f180 f181 f182 f183 f184 f185 f186 f187 f188 f189 f190 f191 f192 f193 f194 f195 f196 f197 f198 f199 f200 f201 f202 f203 f204 f205 f206 f207 f208 f209 f210 f211 f212 f213 f214 f215 f216 f217 f218 f219 f220 f221 f222 f223 f224 f225 f226 f227 f228 f229 f230 f231 f232 f233 f234 f235 f236 f237 f238 f239 f240 f241 f242 : Value)
    (HQ : Hid (∀ (x11 x12 x13 x14 x15 x16 x17 x18 x19 x20 x21 x22 x23 x24 x25 x26 x27 x28 x29 x30 x31 x32 x33 x34 x35 x36 x37 x38 x39 x40 x41 x42 x43 x44 x45 x46 x47 x48 x49 x50 x51 x52 x53 x54 x55 x56 x57 x58 x59 x60 x61 x62 x63 x64 : Value) (b : Bool), (b = false ↔ Heads T U) → Q .normal ⟨#[f0, f1, Value.pointer (some ⟨w.heap.size, 0, none⟩), Value.pointer (some ⟨w.heap.size + 1, 0, none⟩), f4, f5, f6, f7, f8, f9, f10, x11, x12, x13, x14, x15, x16, x17, x18, x19, x20, x21, x22, x23, x24, x25, x26, x27, x28, x29, x30, x31, x32, x33, x34, x35, x36, x37, x38, x39, x40, x41, x42, x43, x44, x45, x46, x47, x48, x49, x50, x51, x52, x53, x54, x55, x56, x57, x58, x59, x60, x61, x62, x63, x64, Value.bool b, f66, f67, f68, f69, f70, f71, f72, f73, f74, f75, f76, f77, f78, f79, f80, f81, f82, f83, f84, f85, f86, f87, f88, f89, f90, f91, f92, f93, f94, f95, f96, f97, f98, f99, f100, f101, f102, f103, f104, f105, f106, f107, f108, f109, f110, f111, f112, f113, f114, f115, f116, f117, f118, f119, f120, f121, f122, f123, f124, f125, f126, f127, f128, f129, f130, f131, f132, f133, f134, f135, f136, f137, f138, f139, f140, f141, f142, f143, f144, f145, f146, f147, f148, f149, f150, f151, f152, f153, f154, f155, f156, f157, f158, f159, f160, f161, f162, f163, f164, f165, f166, f167, f168, f169, f170, f171, f172, f173, f174, f175, f176, f177, f178, f179, f180, f181, f182, f183, f184, f185, f186, f187, f188, f189, f190, f191, f192, f193, f194, f195, f196, f197, f198, f199, f200, f201, f202, f203, f204, f205, f206, f207, f208, f209, f210, f211, f212, f213, f214, f215, f216, f217, f218, f219, f220, f221, f222, f223, f224, f225, f226, f227, f228, f229, f230, f231, f232, f233, f234, f235, f236, f237, f238, f239, f240, f241, f242], []⟩ w1)) :
    (rg 1 Try.f16).wp Try.prog Q ⟨#[f0, f1, Value.pointer (some ⟨w.heap.size, 0, none⟩), Value.pointer (some ⟨w.heap.size + 1, 0, none⟩), f4, f5, f6, f7, f8, f9, f10, f11, f12, f13, f14, f15, f16, f17, f18, f19, f20, f21, f22, f23, f24, f25, f26, f27, f28, f29, f30, f31, f32, f33, f34, f35, f36, f37, f38, f39, f40, f41, f42, f43, f44, f45, f46, f47, f48, f49, f50, f51, f52, f53, f54, f55, f56, f57, f58, f59, f60, f61, f62, f63, f64, f65, f66, f67, f68, f69, f70, f71, f72, f73, f74, f75, f76, f77, f78, f79, f80, f81, f82, f83, f84, f85, f86, f87, f88, f89, f90, f91, f92, f93, f94, f95, f96, f97, f98, f99, f100, f101, f102, f103, f104, f105, f106, f107, f108, f109, f110, f111, f112, f113, f114, f115, f116, f117, f118, f119, f120, f121, f122, f123, f124, f125, f126, f127, f128, f129, f130, f131, f132, f133, f134, f135, f136, f137, f138, f139, f140, f141, f142, f143, f144, f145, f146, f147, f148, f149, f150, f151, f152, f153, f154, f155, f156, f157, f158, f159, f160, f161, f162, f163, f164, f165, f166, f167, f168, f169, f170, f171, f172, f173, f174, f175, f176, f177, f178, f179, f180, f181, f182, f183, f184, f185, f186, f187, f188, f189, f190, f191, f192, f193, f194, f195, f196, f197, f198, f199, f200, f201, f202, f203, f204, f205, f206, f207, f208, f209, f210, f211, f212, f213, f214, f215, f216, f217, f218, f219, f220, f221, f222, f223, f224, f225, f226, f227, f228, f229, f230, f231, f232, f233, f234, f235, f236, f237, f238, f239, f240, f241, f242], []⟩ w1 := by
  conv => arg 2; whnf
  have E1 := Lib.hid (phases_eqs T.phases U.phases L1.out.ph L2.out.ph)
  have E3 := Lib.hid (eight_eqs T.conflict U.conflict L1.out.cf L2.out.cf)
  have E7 := Lib.hid (eight_eqs T.flash U.flash L1.out.fl L2.out.fl)
  have q104 := SS.out.t.cell C.out.g
  have q113 := SS.out.t.cell C.out.d
  have q114 := SS.out.t.cell C.out.r
  have q115 := SS.out.t.cell C.out.b
  have r104 := SS.out.u.cell D.out.g
  have r113 := SS.out.u.cell D.out.d
  have r114 := SS.out.u.cell D.out.r
  have r115 := SS.out.u.cell D.out.b
  have PA : Hid (Lies w1 ⟨w.heap.size, 0, none⟩ (T.phases.flatMap Ph.cells)) := Lib.hid (lies_at SS.out.t.blk 0 104 _ (by rw [List.drop_zero]; exact C.out.phases))
  have PB : Hid (Lies w1 ⟨w.heap.size + 1, 0, none⟩ (U.phases.flatMap Ph.cells)) := Lib.hid (lies_at SS.out.u.blk 0 104 _ (by rw [List.drop_zero]; exact D.out.phases))
  have IA : Hid ((Try.prog.info? 26).map (·.size) = some (T.phases.flatMap Ph.cells).length) := Lib.hid (infoPs.trans (by rw [phases_len, L1.out.ph]))
  have IB : Hid ((Try.prog.info? 26).map (·.size) = some (U.phases.flatMap Ph.cells).length) := Lib.hid (infoPs.trans (by rw [phases_len, L2.out.ph]))
  generalize T.phases.flatMap Ph.cells = pa at PA IA E1
  generalize U.phases.flatMap Ph.cells = pb at PB IB E1
  have CA : Hid (Lies w1 ⟨w.heap.size, 105, none⟩ (T.conflict.map I)) := Lib.hid (lies_at SS.out.t.blk 105 8 _ C.out.conflict)
  have CB : Hid (Lies w1 ⟨w.heap.size + 1, 105, none⟩ (U.conflict.map I)) := Lib.hid (lies_at SS.out.u.blk 105 8 _ D.out.conflict)
  have JA : Hid ((Try.prog.info? 28).map (·.size) = some (T.conflict.map I).length) := Lib.hid (by rw [List.length_map, L1.out.cf]; exact info8)
  have JB : Hid ((Try.prog.info? 28).map (·.size) = some (U.conflict.map I).length) := Lib.hid (by rw [List.length_map, L2.out.cf]; exact info8)
  generalize T.conflict.map I = ca at CA JA E3
  generalize U.conflict.map I = cb at CB JB E3
  have FA : Hid (Lies w1 ⟨w.heap.size, 121, none⟩ (T.flash.map I)) := Lib.hid (lies_at SS.out.t.blk 121 8 _ C.out.flash)
  have FB : Hid (Lies w1 ⟨w.heap.size + 1, 121, none⟩ (U.flash.map I)) := Lib.hid (lies_at SS.out.u.blk 121 8 _ D.out.flash)
  have KA : Hid ((Try.prog.info? 28).map (·.size) = some (T.flash.map I).length) := Lib.hid (by rw [List.length_map, L1.out.fl]; exact info8)
  have KB : Hid ((Try.prog.info? 28).map (·.size) = some (U.flash.map I).length) := Lib.hid (by rw [List.length_map, L2.out.fl]; exact info8)
  generalize T.flash.map I = fa at FA KA E7
  generalize U.flash.map I = fb at FB KB E7
  go_step
  by_cases h1 : T.phases = U.phases
  rotate_left
  · rw [decide_eq_false h1] at E1
    have NE : Hid (¬ Heads T U) := fun e => h1 e.h1
    clear h1
    refine wpList_plain rfl (fun K hK => ?_)
    go_simp
    refine hK _ _ ?_
    clear hK K
    (try dsimp only [Act.put]); (try simp only [List.setIfInBounds_toArray, List.set_cons_zero, List.set_cons_succ])
    refine Row.wpList_load_g 26 _ rfl (by rfl) ⟨w.heap.size, 0, none⟩ rfl pa _ PA.out Try.underlying26 rfl IA.out ?_
    (try dsimp only [Act.put]); (try simp only [List.setIfInBounds_toArray, List.set_cons_zero, List.set_cons_succ])
    refine wpList_plain rfl (fun K hK => ?_)
    go_simp
    refine hK _ _ ?_
    clear hK K
    (try dsimp only [Act.put]); (try simp only [List.setIfInBounds_toArray, List.set_cons_zero, List.set_cons_succ])
    refine Row.wpList_load_g 26 _ rfl (by rfl) ⟨w.heap.size + 1, 0, none⟩ rfl pb _ PB.out Try.underlying26 rfl IB.out ?_
    (try dsimp only [Act.put]); (try simp only [List.setIfInBounds_toArray, List.set_cons_zero, List.set_cons_succ])
    refine Row.wpList_neq 26 _ _ _ rfl (by rfl) pa.toArray pb.toArray rfl rfl guardP false E1.out ?_
    simp only [Bool.not_false, Bool.not_true]
    (try dsimp only [Act.put]); (try simp only [List.setIfInBounds_toArray, List.set_cons_zero, List.set_cons_succ])
    go_wp2
    exact HQ.out _ _ _ _ _ _ _ _ _ _ _ _ _ _ _ _ _ _ _ _ _ _ _ _ _ _ _ _ _ _ _ _ _ _ _ _ _ _ _ _ _ _ _ _ _ _ _ _ _ _ _ _ _ _ true (by simp only [Bool.true_eq_false, false_iff]; exact NE.out)
  rw [decide_eq_true h1] at E1
  have H1 := Lib.hid h1
  clear h1
  refine wpList_plain rfl (fun K hK => ?_)
  go_simp
  refine hK _ _ ?_
  clear hK K
  (try dsimp only [Act.put]); (try simp only [List.setIfInBounds_toArray, List.set_cons_zero, List.set_cons_succ])
  refine Row.wpList_load_g 26 _ rfl (by rfl) ⟨w.heap.size, 0, none⟩ rfl pa _ PA.out Try.underlying26 rfl IA.out ?_
  (try dsimp only [Act.put]); (try simp only [List.setIfInBounds_toArray, List.set_cons_zero, List.set_cons_succ])
  refine wpList_plain rfl (fun K hK => ?_)
  go_simp
  refine hK _ _ ?_
  clear hK K
  (try dsimp only [Act.put]); (try simp only [List.setIfInBounds_toArray, List.set_cons_zero, List.set_cons_succ])
  refine Row.wpList_load_g 26 _ rfl (by rfl) ⟨w.heap.size + 1, 0, none⟩ rfl pb _ PB.out Try.underlying26 rfl IB.out ?_
  (try dsimp only [Act.put]); (try simp only [List.setIfInBounds_toArray, List.set_cons_zero, List.set_cons_succ])
  refine Row.wpList_neq 26 _ _ _ rfl (by rfl) pa.toArray pb.toArray rfl rfl guardP true E1.out ?_
  simp only [Bool.not_false, Bool.not_true]
  (try dsimp only [Act.put]); (try simp only [List.setIfInBounds_toArray, List.set_cons_zero, List.set_cons_succ])
  clear PA PB IA IB E1
  refine wpList_plain rfl (fun K hK => ?_)
  go_simp
  refine hK _ _ ?_
  clear hK K
  (try dsimp only [Act.put]); (try simp only [List.setIfInBounds_toArray, List.set_cons_zero, List.set_cons_succ])
  by_cases h2 : T.conflict = U.conflict
  rotate_left
  · rw [decide_eq_false h2] at E3
    have NE : Hid (¬ Heads T U) := fun e => h2 e.h2
    clear h2
    refine BigFrame.wpList_want (by rfl) (fun K hK => ?_)
    go_simp
    refine hK _ _ ?_
    clear hK K
    (try dsimp only [Act.put]); (try simp only [List.setIfInBounds_toArray, List.set_cons_zero, List.set_cons_succ])
    refine Row.wpList_load_g 28 _ rfl (by rfl) ⟨w.heap.size, 105, none⟩ rfl ca _ CA.out Try.underlying28 rfl JA.out ?_
    (try dsimp only [Act.put]); (try simp only [List.setIfInBounds_toArray, List.set_cons_zero, List.set_cons_succ])
    refine BigFrame.wpList_want (by rfl) (fun K hK => ?_)
    go_simp
    refine hK _ _ ?_
    clear hK K
    (try dsimp only [Act.put]); (try simp only [List.setIfInBounds_toArray, List.set_cons_zero, List.set_cons_succ])
    refine Row.wpList_load_g 28 _ rfl (by rfl) ⟨w.heap.size + 1, 105, none⟩ rfl cb _ CB.out Try.underlying28 rfl JB.out ?_
    (try dsimp only [Act.put]); (try simp only [List.setIfInBounds_toArray, List.set_cons_zero, List.set_cons_succ])
    refine Row.wpList_neq 28 _ _ _ rfl (by rfl) ca.toArray cb.toArray rfl rfl guard8 false E3.out ?_
    simp only [Bool.not_false, Bool.not_true]
    (try dsimp only [Act.put]); (try simp only [List.setIfInBounds_toArray, List.set_cons_zero, List.set_cons_succ])
    go_wp2
    exact HQ.out _ _ _ _ _ _ _ _ _ _ _ _ _ _ _ _ _ _ _ _ _ _ _ _ _ _ _ _ _ _ _ _ _ _ _ _ _ _ _ _ _ _ _ _ _ _ _ _ _ _ _ _ _ _ true (by simp only [Bool.true_eq_false, false_iff]; exact NE.out)
  rw [decide_eq_true h2] at E3
  have H2 := Lib.hid h2
  clear h2
  refine BigFrame.wpList_want (by rfl) (fun K hK => ?_)
  go_simp
  refine hK _ _ ?_
  clear hK K
  (try dsimp only [Act.put]); (try simp only [List.setIfInBounds_toArray, List.set_cons_zero, List.set_cons_succ])
  refine Row.wpList_load_g 28 _ rfl (by rfl) ⟨w.heap.size, 105, none⟩ rfl ca _ CA.out Try.underlying28 rfl JA.out ?_
  (try dsimp only [Act.put]); (try simp only [List.setIfInBounds_toArray, List.set_cons_zero, List.set_cons_succ])
  refine BigFrame.wpList_want (by rfl) (fun K hK => ?_)
  go_simp
  refine hK _ _ ?_
  clear hK K
  (try dsimp only [Act.put]); (try simp only [List.setIfInBounds_toArray, List.set_cons_zero, List.set_cons_succ])
  refine Row.wpList_load_g 28 _ rfl (by rfl) ⟨w.heap.size + 1, 105, none⟩ rfl cb _ CB.out Try.underlying28 rfl JB.out ?_
  (try dsimp only [Act.put]); (try simp only [List.setIfInBounds_toArray, List.set_cons_zero, List.set_cons_succ])
  refine Row.wpList_neq 28 _ _ _ rfl (by rfl) ca.toArray cb.toArray rfl rfl guard8 true E3.out ?_
  simp only [Bool.not_false, Bool.not_true]
  (try dsimp only [Act.put]); (try simp only [List.setIfInBounds_toArray, List.set_cons_zero, List.set_cons_succ])
  clear CA CB JA JB E3
  refine wpList_plain rfl (fun K hK => ?_)
  go_simp
  refine hK _ _ ?_
  clear hK K
  (try dsimp only [Act.put]); (try simp only [List.setIfInBounds_toArray, List.set_cons_zero, List.set_cons_succ])
  refine wpList_plain rfl (fun K hK => ?_)
  go_simp
  refine hK _ _ ?_
  clear hK K
  (try dsimp only [Act.put]); (try simp only [List.setIfInBounds_toArray, List.set_cons_zero, List.set_cons_succ])
  by_cases h3 : T.flash = U.flash
  rotate_left
  · rw [decide_eq_false h3] at E7
    have NE : Hid (¬ Heads T U) := fun e => h3 e.h3
    clear h3
    refine BigFrame.wpList_want (by rfl) (fun K hK => ?_)
    go_simp
    refine hK _ _ ?_
    clear hK K
    (try dsimp only [Act.put]); (try simp only [List.setIfInBounds_toArray, List.set_cons_zero, List.set_cons_succ])
    refine Row.wpList_load_g 28 _ rfl (by rfl) ⟨w.heap.size, 121, none⟩ rfl fa _ FA.out Try.underlying28 rfl KA.out ?_
    (try dsimp only [Act.put]); (try simp only [List.setIfInBounds_toArray, List.set_cons_zero, List.set_cons_succ])
    refine BigFrame.wpList_want (by rfl) (fun K hK => ?_)
    go_simp
    refine hK _ _ ?_
    clear hK K
    (try dsimp only [Act.put]); (try simp only [List.setIfInBounds_toArray, List.set_cons_zero, List.set_cons_succ])
    refine Row.wpList_load_g 28 _ rfl (by rfl) ⟨w.heap.size + 1, 121, none⟩ rfl fb _ FB.out Try.underlying28 rfl KB.out ?_
    (try dsimp only [Act.put]); (try simp only [List.setIfInBounds_toArray, List.set_cons_zero, List.set_cons_succ])
    refine Row.wpList_neq 28 _ _ _ rfl (by rfl) fa.toArray fb.toArray rfl rfl guard8 false E7.out ?_
    simp only [Bool.not_false, Bool.not_true]
    (try dsimp only [Act.put]); (try simp only [List.setIfInBounds_toArray, List.set_cons_zero, List.set_cons_succ])
    go_wp2
    exact HQ.out _ _ _ _ _ _ _ _ _ _ _ _ _ _ _ _ _ _ _ _ _ _ _ _ _ _ _ _ _ _ _ _ _ _ _ _ _ _ _ _ _ _ _ _ _ _ _ _ _ _ _ _ _ _ true (by simp only [Bool.true_eq_false, false_iff]; exact NE.out)
  rw [decide_eq_true h3] at E7
  have H3 := Lib.hid h3
  clear h3
  refine BigFrame.wpList_want (by rfl) (fun K hK => ?_)
  go_simp
  refine hK _ _ ?_
  clear hK K
  (try dsimp only [Act.put]); (try simp only [List.setIfInBounds_toArray, List.set_cons_zero, List.set_cons_succ])
  refine Row.wpList_load_g 28 _ rfl (by rfl) ⟨w.heap.size, 121, none⟩ rfl fa _ FA.out Try.underlying28 rfl KA.out ?_
  (try dsimp only [Act.put]); (try simp only [List.setIfInBounds_toArray, List.set_cons_zero, List.set_cons_succ])
  refine BigFrame.wpList_want (by rfl) (fun K hK => ?_)
  go_simp
  refine hK _ _ ?_
  clear hK K
  (try dsimp only [Act.put]); (try simp only [List.setIfInBounds_toArray, List.set_cons_zero, List.set_cons_succ])
  refine Row.wpList_load_g 28 _ rfl (by rfl) ⟨w.heap.size + 1, 121, none⟩ rfl fb _ FB.out Try.underlying28 rfl KB.out ?_
  (try dsimp only [Act.put]); (try simp only [List.setIfInBounds_toArray, List.set_cons_zero, List.set_cons_succ])
  refine Row.wpList_neq 28 _ _ _ rfl (by rfl) fa.toArray fb.toArray rfl rfl guard8 true E7.out ?_
  simp only [Bool.not_false, Bool.not_true]
  (try dsimp only [Act.put]); (try simp only [List.setIfInBounds_toArray, List.set_cons_zero, List.set_cons_succ])
  clear FA FB KA KB E7
  refine wpList_plain rfl (fun K hK => ?_)
  go_simp
  refine hK _ _ ?_
  clear hK K
  (try dsimp only [Act.put]); (try simp only [List.setIfInBounds_toArray, List.set_cons_zero, List.set_cons_succ])
  refine wpList_plain rfl (fun K hK => ?_)
  go_simp
  refine hK _ _ ?_
  clear hK K
  (try dsimp only [Act.put]); (try simp only [List.setIfInBounds_toArray, List.set_cons_zero, List.set_cons_succ])
  clear C D L1 L2 SS
  by_cases h4 : T.groups.length = U.groups.length
  rotate_left
  · have NE : Hid (¬ Heads T U) := fun e => h4 (e.h4)
    have hn : ((T.groups.length : Int) != (U.groups.length : Int)) = true := by rw [bne_iff_ne]; omega
    clear h4
    go_wp2
    exact HQ.out _ _ _ _ _ _ _ _ _ _ _ _ _ _ _ _ _ _ _ _ _ _ _ _ _ _ _ _ _ _ _ _ _ _ _ _ _ _ _ _ _ _ _ _ _ _ _ _ _ _ _ _ _ _ true (by simp only [Bool.true_eq_false, false_iff]; exact NE.out)
  have hn : ((T.groups.length : Int) != (U.groups.length : Int)) = false := by rw [bne_eq_false_iff_eq]; omega
  have H4 := Lib.hid h4
  clear h4
  refine BigFrame.wpList_want (by rfl) (fun K hK => ?_)
  go_simp
  refine hK _ _ ?_
  clear hK K
  (try dsimp only [Act.put]); (try simp only [List.setIfInBounds_toArray, List.set_cons_zero, List.set_cons_succ])
  refine BigFrame.wpList_want (by rfl) (fun K hK => ?_)
  go_simp
  refine hK _ _ ?_
  clear hK K
  (try dsimp only [Act.put]); (try simp only [List.setIfInBounds_toArray, List.set_cons_zero, List.set_cons_succ])
  refine BigFrame.wpList_want (by rfl) (fun K hK => ?_)
  go_simp
  refine hK _ _ ?_
  clear hK K
  (try dsimp only [Act.put]); (try simp only [List.setIfInBounds_toArray, List.set_cons_zero, List.set_cons_succ])
  refine BigFrame.wpList_want (by rfl) (fun K hK => ?_)
  go_simp
  refine hK _ _ ?_
  clear hK K
  (try dsimp only [Act.put]); (try simp only [List.setIfInBounds_toArray, List.set_cons_zero, List.set_cons_succ])
  refine BigFrame.wpList_want (by rfl) (fun K hK => ?_)
  go_simp
  refine hK _ _ ?_
  clear hK K
  (try dsimp only [Act.put]); (try simp only [List.setIfInBounds_toArray, List.set_cons_zero, List.set_cons_succ])
  refine BigFrame.wpList_want (by rfl) (fun K hK => ?_)
  go_simp
  refine hK _ _ ?_
  clear hK K
  (try dsimp only [Act.put]); (try simp only [List.setIfInBounds_toArray, List.set_cons_zero, List.set_cons_succ])
  refine BigFrame.wpList_want (by rfl) (fun K hK => ?_)
  go_simp
  refine hK _ _ ?_
  clear hK K
  (try dsimp only [Act.put]); (try simp only [List.setIfInBounds_toArray, List.set_cons_zero, List.set_cons_succ])
  refine wpList_plain rfl (fun K hK => ?_)
  go_simp
  refine hK _ _ ?_
  clear hK K
  (try dsimp only [Act.put]); (try simp only [List.setIfInBounds_toArray, List.set_cons_zero, List.set_cons_succ])
  refine wpList_plain rfl (fun K hK => ?_)
  go_simp
  refine hK _ _ ?_
  clear hK K
  (try dsimp only [Act.put]); (try simp only [List.setIfInBounds_toArray, List.set_cons_zero, List.set_cons_succ])
  by_cases h5 : T.dets.length = U.dets.length
  rotate_left
  · have NE : Hid (¬ Heads T U) := fun e => h5 (by exact e.h5)
    have hn : ((T.dets.length : Int) != (U.dets.length : Int)) = true := by rw [bne_iff_ne]; omega
    clear h5
    go_wp2
    exact HQ.out _ _ _ _ _ _ _ _ _ _ _ _ _ _ _ _ _ _ _ _ _ _ _ _ _ _ _ _ _ _ _ _ _ _ _ _ _ _ _ _ _ _ _ _ _ _ _ _ _ _ _ _ _ _ true (by simp only [Bool.true_eq_false, false_iff]; exact NE.out)
  have hn : ((T.dets.length : Int) != (U.dets.length : Int)) = false := by rw [bne_eq_false_iff_eq]; omega
  have H5 := Lib.hid h5
  clear h5
  refine BigFrame.wpList_want (by rfl) (fun K hK => ?_)
  go_simp
  refine hK _ _ ?_
  clear hK K
  (try dsimp only [Act.put]); (try simp only [List.setIfInBounds_toArray, List.set_cons_zero, List.set_cons_succ])
  refine BigFrame.wpList_want (by rfl) (fun K hK => ?_)
  go_simp
  refine hK _ _ ?_
  clear hK K
  (try dsimp only [Act.put]); (try simp only [List.setIfInBounds_toArray, List.set_cons_zero, List.set_cons_succ])
  refine BigFrame.wpList_want (by rfl) (fun K hK => ?_)
  go_simp
  refine hK _ _ ?_
  clear hK K
  (try dsimp only [Act.put]); (try simp only [List.setIfInBounds_toArray, List.set_cons_zero, List.set_cons_succ])
  refine BigFrame.wpList_want (by rfl) (fun K hK => ?_)
  go_simp
  refine hK _ _ ?_
  clear hK K
  (try dsimp only [Act.put]); (try simp only [List.setIfInBounds_toArray, List.set_cons_zero, List.set_cons_succ])
  refine BigFrame.wpList_want (by rfl) (fun K hK => ?_)
  go_simp
  refine hK _ _ ?_
  clear hK K
  (try dsimp only [Act.put]); (try simp only [List.setIfInBounds_toArray, List.set_cons_zero, List.set_cons_succ])
  refine BigFrame.wpList_want (by rfl) (fun K hK => ?_)
  go_simp
  refine hK _ _ ?_
  clear hK K
  (try dsimp only [Act.put]); (try simp only [List.setIfInBounds_toArray, List.set_cons_zero, List.set_cons_succ])
  refine BigFrame.wpList_want (by rfl) (fun K hK => ?_)
  go_simp
  refine hK _ _ ?_
  clear hK K
  (try dsimp only [Act.put]); (try simp only [List.setIfInBounds_toArray, List.set_cons_zero, List.set_cons_succ])
  refine wpList_plain rfl (fun K hK => ?_)
  go_simp
  refine hK _ _ ?_
  clear hK K
  (try dsimp only [Act.put]); (try simp only [List.setIfInBounds_toArray, List.set_cons_zero, List.set_cons_succ])
  refine wpList_plain rfl (fun K hK => ?_)
  go_simp
  refine hK _ _ ?_
  clear hK K
  (try dsimp only [Act.put]); (try simp only [List.setIfInBounds_toArray, List.set_cons_zero, List.set_cons_succ])
  by_cases h6 : T.rails.length = U.rails.length
  rotate_left
  · have NE : Hid (¬ Heads T U) := fun e => h6 (by exact e.h6)
    have hn : ((T.rails.length : Int) != (U.rails.length : Int)) = true := by rw [bne_iff_ne]; omega
    clear h6
    go_wp2
    exact HQ.out _ _ _ _ _ _ _ _ _ _ _ _ _ _ _ _ _ _ _ _ _ _ _ _ _ _ _ _ _ _ _ _ _ _ _ _ _ _ _ _ _ _ _ _ _ _ _ _ _ _ _ _ _ _ true (by simp only [Bool.true_eq_false, false_iff]; exact NE.out)
  have hn : ((T.rails.length : Int) != (U.rails.length : Int)) = false := by rw [bne_eq_false_iff_eq]; omega
  have H6 := Lib.hid h6
  clear h6
  refine BigFrame.wpList_want (by rfl) (fun K hK => ?_)
  go_simp
  refine hK _ _ ?_
  clear hK K
  (try dsimp only [Act.put]); (try simp only [List.setIfInBounds_toArray, List.set_cons_zero, List.set_cons_succ])
  refine BigFrame.wpList_want (by rfl) (fun K hK => ?_)
  go_simp
  refine hK _ _ ?_
  clear hK K
  (try dsimp only [Act.put]); (try simp only [List.setIfInBounds_toArray, List.set_cons_zero, List.set_cons_succ])
  refine BigFrame.wpList_want (by rfl) (fun K hK => ?_)
  go_simp
  refine hK _ _ ?_
  clear hK K
  (try dsimp only [Act.put]); (try simp only [List.setIfInBounds_toArray, List.set_cons_zero, List.set_cons_succ])
  refine BigFrame.wpList_want (by rfl) (fun K hK => ?_)
  go_simp
  refine hK _ _ ?_
  clear hK K
  (try dsimp only [Act.put]); (try simp only [List.setIfInBounds_toArray, List.set_cons_zero, List.set_cons_succ])
  refine BigFrame.wpList_want (by rfl) (fun K hK => ?_)
  go_simp
  refine hK _ _ ?_
  clear hK K
  (try dsimp only [Act.put]); (try simp only [List.setIfInBounds_toArray, List.set_cons_zero, List.set_cons_succ])
  refine BigFrame.wpList_want (by rfl) (fun K hK => ?_)
  go_simp
  refine hK _ _ ?_
  clear hK K
  (try dsimp only [Act.put]); (try simp only [List.setIfInBounds_toArray, List.set_cons_zero, List.set_cons_succ])
  refine BigFrame.wpList_want (by rfl) (fun K hK => ?_)
  go_simp
  refine hK _ _ ?_
  clear hK K
  (try dsimp only [Act.put]); (try simp only [List.setIfInBounds_toArray, List.set_cons_zero, List.set_cons_succ])
  refine wpList_plain rfl (fun K hK => ?_)
  go_simp
  refine hK _ _ ?_
  clear hK K
  (try dsimp only [Act.put]); (try simp only [List.setIfInBounds_toArray, List.set_cons_zero, List.set_cons_succ])
  refine wpList_plain rfl (fun K hK => ?_)
  go_simp
  refine hK _ _ ?_
  clear hK K
  (try dsimp only [Act.put]); (try simp only [List.setIfInBounds_toArray, List.set_cons_zero, List.set_cons_succ])
  by_cases h7 : T.buses.length = U.buses.length
  rotate_left
  · have NE : Hid (¬ Heads T U) := fun e => h7 (by exact e.h7)
    have hn : ((T.buses.length : Int) != (U.buses.length : Int)) = true := by rw [bne_iff_ne]; omega
    clear h7
    go_wp2
    exact HQ.out _ _ _ _ _ _ _ _ _ _ _ _ _ _ _ _ _ _ _ _ _ _ _ _ _ _ _ _ _ _ _ _ _ _ _ _ _ _ _ _ _ _ _ _ _ _ _ _ _ _ _ _ _ _ true (by simp only [Bool.true_eq_false, false_iff]; exact NE.out)
  have hn : ((T.buses.length : Int) != (U.buses.length : Int)) = false := by rw [bne_eq_false_iff_eq]; omega
  have H7 := Lib.hid h7
  clear h7
  go_wp2
  exact HQ.out _ _ _ _ _ _ _ _ _ _ _ _ _ _ _ _ _ _ _ _ _ _ _ _ _ _ _ _ _ _ _ _ _ _ _ _ _ _ _ _ _ _ _ _ _ _ _ _ _ _ _ _ _ _ false (by simp only [true_iff]; exact ⟨H1.out, H2.out, H3.out, H4.out, H5.out, H6.out, H7.out⟩)
end Go.Proofs.Ytfnpcfibgabmfaa.Same
