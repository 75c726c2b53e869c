/- 8 texts in one file, in build order. -/
import Derived.Test.YtjgpljnbeolapaaRows
import Derived.Test.YtjgpljnbeolapaaPart07
import Derived.Test.YtjgpljnbeolapaaPart02
import Derived.Test.YtjgpljnbeolapaaPart12
import Derived.Test.YtjgpljnbeolapaaPart03
import Derived.Test.YtjgpljnbeolapaaPart09
import Derived.Deep.Cut
import Derived.Test.YtjgpljnbeolapaaPart01
import Derived.Test.YtjgpljnbeolapaaPart08
set_option linter.unusedVariables false
set_option linter.unusedSimpArgs false
set_option linter.unusedSectionVars false
set_option maxHeartbeats 8000000
set_option maxRecDepth 100000
namespace Go.Proofs.Ytjgpljnbeolapaa
namespace GenT
open Go Tab GenG PlaceM OnS Clone
open RefS (num num_range)
open May MayF
theorem allIn_iff {m : Int} {l : List Int} : allIn m l = true ↔ ∀ x ∈ l, 0 ≤ x ∧ x ≤ m := by
  unfold allIn inB
  rw [List.all_eq_true]
  constructor
  · intro h x hx; have := h x hx; simpa using this
  · intro h x hx; have := h x hx; simpa using this
theorem listMay_iff {α : Type} {m : Int} {f : α → Bool} {l : List α} : listMay m f l = true ↔ (l.length : Int) ≤ m ∧ ∀ x ∈ l, f x = true := by
  unfold listMay
  rw [Bool.and_eq_true, decide_eq_true_eq, List.all_eq_true]
theorem upd_mem {α : Type} {f : Nat → α} {z : α} {n : Nat} {x : α} (h : x ∈ upd f z n) : x = z ∨ ∃ i, i < n ∧ i < 8 ∧ x = f i := by
  unfold upd at h
  rw [List.mem_map] at h
  obtain ⟨i, hi, rfl⟩ := h
  by_cases e : i < n
  · rw [if_pos e]; exact .inr ⟨i, e, List.mem_range.1 hi, rfl⟩
  · rw [if_neg e]; exact .inl rfl
theorem down_mem {α : Type} {f : Nat → α} {k : Nat} {x : α} : ∀ {j : Nat}, j ≤ k → x ∈ down f k j → ∃ i, 0 < i ∧ i ≤ k ∧ x = f i
  | 0, _, h => by simp [down] at h
  | j + 1, hj, h => by
    rw [down] at h
    rcases List.mem_append.1 h with h | h
    · exact down_mem (by omega) h
    · obtain rfl : x = f (k - j) := by simpa using h
      exact ⟨k - j, by omega, by omega, rfl⟩
theorem genPh_may (L : List Int) (i : Int) : Ph.may (GenP.genPh L i) = true := by
  have a0 := num_range L i 12 (by omega)
  have a1 := num_range L (i + 1) 9 (by omega)
  have a2 := num_range L (i + 2) 6 (by omega)
  have a3 := num_range L (i + 3) 4 (by omega)
  have a4 := num_range L (i + 4) 5 (by omega)
  have a5 := num_range L (i + 5) 25 (by omega)
  have a6 := num_range L (i + 6) 15 (by omega)
  have a8 := num_range L (i + 8) 10 (by omega)
  have b8 := num_range L (i + 8) 97 (by omega)
  have a9 := num_range L (i + 9) 7 (by omega)
  unfold Ph.may
  rw [Bool.and_eq_true, allIn_iff, allIn_iff]
  constructor
  · intro x hx
    simp only [GenP.genPh, List.mem_cons, List.not_mem_nil, or_false] at hx
    rcases hx with rfl | rfl | rfl | rfl | rfl | rfl | rfl | rfl | rfl
    · omega
    · omega
    · omega
    · omega
    · omega
    · omega
    · omega
    · split <;> omega
    · split <;> omega
  · intro x hx
    simp only [GenP.genPh, List.mem_cons, List.not_mem_nil, or_false] at hx
    subst hx
    unfold GenP.recall
    split <;> omega
theorem zPh_may : Ph.may zPh = true := by decide
theorem seg_may {p m : Nat} (h : p + m ≤ 8) (h2 : m ≤ 8) : rowMay (seg p m) = true := by
  unfold rowMay
  rw [Bool.and_eq_true, decide_eq_true_eq, allIn_iff, seg_len]
  exact ⟨h2, fun x hx => by have := mem_seg.1 hx; omega⟩
theorem up_may (L : List Int) (G : Nat) (hG : G ≤ 3) : ∀ g, g ≤ G → ∀ x ∈ (upTo L G g).1, groupMay x = true
  | 0, _ => fun x h => by simp [upTo] at h
  | g + 1, hg => fun x h => by
    have h8 := up_le L G hG (g + 1) hg
    have e2 : (upTo L G (g + 1)).2 = (upTo L G g).2 + n0 L G g (upTo L G g).2 + n1 L G g (upTo L G g).2 := rfl
    rw [e2] at h8
    rw [upTo] at h
    rcases List.mem_append.1 h with h | h
    · exact up_may L G hG g (by omega) x h
    · obtain rfl : x = grpD L G g (upTo L G g).2 := by simpa using h
      unfold groupMay grpD
      rw [seg_may (by omega) (by omega), seg_may (by omega) (by omega)]; rfl
theorem set_in {l : List Int} {m x : Int} {i : Nat} (h : ∀ y ∈ l, 0 ≤ y ∧ y ≤ m) (hx : 0 ≤ x ∧ x ≤ m) : ∀ y ∈ l.set i x, 0 ≤ y ∧ y ≤ m := fun y hy => by
  rcases List.mem_or_eq_of_mem_set hy with hy | rfl
  · exact h y hy
  · exact hx
theorem with_in (s p : Int) : 0 ≤ ((SetM.withN s p : Nat) : Int) ∧ ((SetM.withN s p : Nat) : Int) ≤ 255 := by have := SetM.with_lt s p; omega
theorem cset_in {L : List Int} {T : Tab} {p q : Nat} {C : List Int} (h : ∀ y ∈ C, 0 ≤ y ∧ y ≤ 255) : ∀ y ∈ cset L T p q C, 0 ≤ y ∧ y ≤ 255 := by
  unfold cset
  split
  · exact set_in (set_in h (with_in _ _)) (with_in _ _)
  · exact h
theorem crow_in {L : List Int} {T : Tab} {p : Nat} {C : List Int} (h : ∀ y ∈ C, 0 ≤ y ∧ y ≤ 255) : ∀ q, ∀ y ∈ crow L T p C q, 0 ≤ y ∧ y ≤ 255
  | 0 => h
  | q + 1 => cset_in (crow_in h q)
theorem call_in {L : List Int} {T : Tab} {C : List Int} (h : ∀ y ∈ C, 0 ≤ y ∧ y ≤ 255) : ∀ p, ∀ y ∈ call L T C p, 0 ≤ y ∧ y ≤ 255
  | 0 => h
  | p + 1 => crow_in (call_in h p) p
theorem lev_ok : ∀ x, x < 4 → ∀ y, y < 3 → level (GenD.onTab (x : Nat)) = true ∧ level (GenD.mulTab (x : Nat) (y : Nat)) = true := by decide +kernel
theorem span_ok : ∀ k, k < 6 → span (Fl.ofB k) = true := by decide +kernel
theorem genDet_may (L : List Int) (i : Int) (n : Nat) (n0 : 0 < n) (n8 : n ≤ 8) : Det.may (GenD.genDet L i n) = true := by
  have a0 := num_range L i n (by omega)
  obtain ⟨x1, h1⟩ := Int.eq_ofNat_of_zero_le (num_range L (i + 1) 4 (by omega)).1
  obtain ⟨x2, h2⟩ := Int.eq_ofNat_of_zero_le (num_range L (i + 2) 3 (by omega)).1
  have b1 := (num_range L (i + 1) 4 (by omega)).2
  have b2 := (num_range L (i + 2) 3 (by omega)).2
  have a3 := num_range L (i + 3) 4 (by omega)
  have a4 := num_range L (i + 4) 6 (by omega)
  have a6 := num_range L (i + 6) 60 (by omega)
  have a7 := num_range L (i + 7) 300 (by omega)
  have e := lev_ok x1 (by omega) x2 (by omega)
  unfold Det.may GenD.genDet
  simp only [Bool.and_eq_true, allIn_iff]
  refine ⟨?_, ?_, ?_, ?_, ?_, ?_⟩
  · intro x hx; simp at hx; omega
  · rw [h1]; exact e.1
  · rw [h1, h2]; exact e.2
  · exact span_ok _ (by omega)
  · exact span_ok _ (by omega)
  · intro x hx
    simp only [List.mem_cons, List.not_mem_nil, or_false] at hx
    rcases hx with rfl | rfl
    · split <;> omega
    · split <;> omega
theorem and_in (x m : Int) (h : 0 ≤ x ∧ x ≤ 255) : 0 ≤ bits .and .i64 x m ∧ bits .and .i64 x m ≤ 255 := by
  obtain ⟨k, rfl⟩ := Int.eq_ofNat_of_zero_le h.1
  have e : bits .and .i64 (k : Int) m = IntKind.i64.wrap (((BitVec.ofInt 64 (k : Int) &&& BitVec.ofInt 64 m).toNat : Nat) : Int) := rfl
  have hk : (BitVec.ofInt 64 (k : Int)).toNat = k := by rw [BitVec.ofInt_natCast, BitVec.toNat_ofNat]; omega
  have hl : (BitVec.ofInt 64 (k : Int) &&& BitVec.ofInt 64 m).toNat ≤ k := by rw [BitVec.toNat_and, hk]; exact Nat.and_le_left
  rw [e, IntKind.wrap_i64]
  omega
theorem andNot_in (x m : Int) (h : 0 ≤ x ∧ x ≤ 255) : 0 ≤ bits .andNot .i64 x m ∧ bits .andNot .i64 x m ≤ 255 := by
  obtain ⟨k, rfl⟩ := Int.eq_ofNat_of_zero_le h.1
  have e : bits .andNot .i64 (k : Int) m = IntKind.i64.wrap (((BitVec.ofInt 64 (k : Int) &&& ~~~ BitVec.ofInt 64 m).toNat : Nat) : Int) := rfl
  have hk : (BitVec.ofInt 64 (k : Int)).toNat = k := by rw [BitVec.ofInt_natCast, BitVec.toNat_ofNat]; omega
  have hl : (BitVec.ofInt 64 (k : Int) &&& ~~~ BitVec.ofInt 64 m).toNat ≤ k := by rw [BitVec.toNat_and, hk]; exact Nat.and_le_left
  rw [e, IntKind.wrap_i64]
  omega
theorem withS_in (T : Tab) (p q : Int) : 0 ≤ GenW.withS T p q ∧ GenW.withS T p q ≤ 255 := by
  unfold GenW.withS
  split
  · exact with_in _ _
  · have := SetM.of_lt [p]; omega
theorem genRl_may (T : Tab) (L : List Int) (i : Int) (n : Nat) (n0 : 0 < n) (n8 : n ≤ 8) : Rl.may (GenR.genRl T L i n) = true := by
  have a6 := num_range L (i + 6) 10 (by omega)
  have a7 := num_range L (i + 7) 256 (by omega)
  have a8 := num_range L (i + 8) 4 (by omega)
  have a9 := num_range L (i + 9) 6 (by omega)
  have aa := num_range L (i + 10) 6 (by omega)
  have ab := num_range L (i + 11) 15 (by omega)
  have ad := num_range L (i + 13) 30 (by omega)
  have al := GenR.lim_range (num L (i + 14) 3)
  unfold Rl.may
  simp only [Bool.and_eq_true, allIn_iff]
  refine ⟨?_, ?_, ?_⟩
  · intro x hx
    simp only [GenR.genRl, List.mem_cons, List.not_mem_nil, or_false] at hx
    rcases hx with rfl | rfl | rfl | rfl
    · exact andNot_in _ _ (and_in _ _ (by omega))
    · split
      · exact withS_in _ _ _
      · omega
    · exact withS_in _ _ _
    · exact withS_in _ _ _
  · intro x hx
    simp only [GenR.genRl, List.mem_cons, List.not_mem_nil, or_false] at hx
    rcases hx with rfl | rfl | rfl | rfl | rfl | rfl
    · omega
    · omega
    · omega
    · split <;> omega
    · omega
    · split <;> omega
  · intro x hx
    simp only [GenR.genRl, List.mem_cons, List.not_mem_nil, or_false] at hx
    subst hx
    omega
theorem genBs_may (L : List Int) (i n : Nat) : Bs.may (genBs L i n) = true := by
  have a0 := num_range L (330 + 2 * i) 256 (by omega)
  have a1 := num_range L (331 + 2 * i) 30 (by omega)
  have b := and_in (num L (330 + 2 * i) 256) (GenR.maskV n) (by omega)
  unfold Bs.may
  simp only [Bool.and_eq_true, allIn_iff]
  constructor
  · intro x hx
    simp only [genBs, List.mem_cons, List.not_mem_nil, or_false] at hx
    subst hx
    omega
  · intro x hx
    simp only [genBs, List.mem_cons, List.not_mem_nil, or_false] at hx
    subst hx
    omega
theorem sums_in (l : List Int) : 0 ≤ RefC.sums l ∧ RefC.sums l ≤ 2147483647 := by
  unfold RefC.sums
  have h : ∀ (l : List Int) (a : Int), 0 ≤ a ∧ a ≤ 2147483647 → 0 ≤ l.foldl RefC.add a ∧ l.foldl RefC.add a ≤ 2147483647 := by
    intro l
    induction l with
    | nil => intro a h; exact h
    | cons x l ih => intro a _; exact ih _ ⟨RefC.cap_lo _, RefC.cap_hi _⟩
  exact h l 0 (by omega)
theorem wait_in (T : Tab) (p : Int) : 0 ≤ WaitS.waitS T p ∧ WaitS.waitS T p ≤ 2147483647 := by
  have hf : 0 ≤ FreeS.freeS T p ∧ FreeS.freeS T p ≤ 2147483647 := by
    unfold FreeS.freeS
    split
    · split
      · exact sums_in _
      · omega
    · omega
  unfold WaitS.waitS
  split
  · exact hf
  · exact sums_in _
theorem maxW_in (T : Tab) : ∀ p, 0 ≤ maxW T p ∧ maxW T p ≤ 2147483647
  | 0 => by show (0 : Int) ≤ 0 ∧ (0 : Int) ≤ 2147483647; omega
  | p + 1 => by
    have h1 := maxW_in T p
    have h2 := wait_in T p
    show 0 ≤ max (maxW T p) (WaitS.waitS T p) ∧ max (maxW T p) (WaitS.waitS T p) ≤ 2147483647
    omega
/-- By any numbers the table is within its ranges. -/
theorem gen_may (L : List Int) : tabMay (genTab L) = true := by
  obtain ⟨g1, g3⟩ := genG_range L
  have n8 := genN_range L
  have n1 := genN_pos L
  have d9 := num_range L 175 9 (by omega)
  have r4 := num_range L 176 4 (by omega)
  have b3 := num_range L 177 3 (by omega)
  have hD : (genTab L).dets = down (fun i : Nat => GenD.genDet L (180 + 8 * i) (genN L)) (num L 175 9).toNat (num L 175 9).toNat := by unfold genTab; split <;> rfl
  have hR : (genTab L).rails = down (fun i : Nat => GenR.genRl (tab1 L) L (260 + 16 * i) (genN L)) (num L 176 4 % 3).toNat (num L 176 4 % 3).toNat := by unfold genTab; split <;> rfl
  have hB : (genTab L).buses = down (fun i : Nat => genBs L i (genN L)) (num L 177 3).toNat (num L 177 3).toNat := by unfold genTab; split <;> rfl
  have hC : (genTab L).conflict = call L (tab1 L) [0, 0, 0, 0, 0, 0, 0, 0] (genN L) := by
    have h : (tabF L).conflict = call L (tab1 L) [0, 0, 0, 0, 0, 0, 0, 0] (genN L) := by unfold tabF; split <;> rfl
    unfold genTab; split <;> exact h
  have hF : ∀ y ∈ (genTab L).flash, 0 ≤ y ∧ y ≤ 2 := by
    have hu : ∀ y ∈ upd (fun _ => (1 : Int)) 0 (genN L), 0 ≤ y ∧ y ≤ 2 := fun y hy => by rcases upd_mem hy with rfl | ⟨i, _, _, rfl⟩ <;> omega
    have h : ∀ y ∈ (tabF L).flash, 0 ≤ y ∧ y ≤ 2 := by
      unfold tabF; split
      · exact set_in hu (by omega)
      · exact hu
    unfold genTab; split <;> exact h
  have hS : ∀ y ∈ [(genTab L).extend, (genTab L).budget, (genTab L).start, (genTab L).revert, (genTab L).least], 0 ≤ y ∧ y ≤ 9999 := by
    have h : ∀ y ∈ [num L 178 12, num L 179 40, num L 180 8, num L 181 8, num L 182 12], 0 ≤ y ∧ y ≤ 9999 := by
      have a := num_range L 178 12 (by omega)
      have b := num_range L 179 40 (by omega)
      have c := num_range L 180 8 (by omega)
      have d := num_range L 181 8 (by omega)
      have e := num_range L 182 12 (by omega)
      intro y hy
      simp only [List.mem_cons, List.not_mem_nil, or_false] at hy
      rcases hy with rfl | rfl | rfl | rfl | rfl <;> omega
    unfold genTab; split <;> exact h
  have hW : ∀ y ∈ [(genTab L).window, (genTab L).share], 0 ≤ y ∧ y ≤ 2147483647 := by
    have s := num_range L 183 4 (by omega)
    have w0 : (tabS L).window = 0 := by have := congrArg Tab.window (tabS_window L); exact this.symm
    have w := maxW_in (tabS L) (genN L)
    unfold genTab; split
    · intro y hy
      simp only [List.mem_cons, List.not_mem_nil, or_false] at hy
      rcases hy with rfl | rfl
      · rw [w0]; omega
      · show 0 ≤ num L 183 4 ∧ num L 183 4 ≤ 2147483647; omega
    · intro y hy
      simp only [List.mem_cons, List.not_mem_nil, or_false] at hy
      rcases hy with rfl | rfl
      · exact w
      · show 0 ≤ num L 183 4 ∧ num L 183 4 ≤ 2147483647; omega
  unfold tabMay
  simp only [Bool.and_eq_true, listMay_iff, allIn_iff]
  refine ⟨⟨?_, ?_⟩, ⟨?_, ?_⟩, ?_, ⟨?_, ?_⟩, ⟨?_, ?_⟩, ⟨?_, ?_⟩, hS, hF, hW⟩
  · rw [genTab_phases, upd_len]; decide
  · rw [genTab_phases]
    intro x hx
    rcases upd_mem hx with rfl | ⟨i, _, _, rfl⟩
    · exact zPh_may
    · exact genPh_may _ _
  · rw [genTab_groups, genGs_len]; omega
  · rw [genTab_groups]; exact up_may L (genG L) g3 _ (Nat.le_refl _)
  · rw [hC]; exact call_in (fun y hy => by simp at hy; omega) _
  · rw [hD, down_len]; omega
  · rw [hD]
    intro x hx
    obtain ⟨i, _, _, rfl⟩ := down_mem (Nat.le_refl _) hx
    exact genDet_may _ _ _ (by omega) n8
  · rw [hR, down_len]; omega
  · rw [hR]
    intro x hx
    obtain ⟨i, _, _, rfl⟩ := down_mem (Nat.le_refl _) hx
    exact genRl_may _ _ _ _ (by omega) n8
  · rw [hB, down_len]; omega
  · rw [hB]
    intro x hx
    obtain ⟨i, _, _, rfl⟩ := down_mem (Nat.le_refl _) hx
    exact genBs_may _ _ _
end GenT
namespace BdX
open Go Tab PlaceM RefC Clear OnS ServeS PassS FreeS EntryS OverS WaitS BdM BdPM BdB BdQ GenT GenG
open ChkM (chkC rulesC)
open May (tabMay listMay allIn groupMay)
open RefS (num num_range)
open BdS (full)
theorem phAt_may {T : Tab} (h : ChkX.InR T) (p : Int) : May.Ph.may (phAt T p) = true := by
  unfold phAt
  rw [List.getD_eq_getElem?_getD]
  cases e : T.phases[p.toNat]? with
  | none => rfl
  | some u => exact h.ph u (List.mem_of_getElem? e)
theorem gen_share (L : List Int) : (genTab L).share = num L 183 4 := by unfold genTab; split <;> rfl
theorem gen_lo (L : List Int) : Lo (genTab L) := by
  have hm := gen_may L
  have R := ChkX.in_ranges hm
  have hS : ∀ y ∈ [(genTab L).extend, (genTab L).budget, (genTab L).start, (genTab L).revert, (genTab L).least], 0 ≤ y ∧ y ≤ 9999 := by
    unfold tabMay at hm
    simp only [Bool.and_eq_true] at hm
    exact allIn_iff.1 hm.2.2.2.2.2.2.1
  refine ⟨by rw [genTab_phases]; exact upd_len _ _ _, fun p => ?_, (hS _ (by simp)).2, (hS _ (by simp)).2, ?_, ?_, ?_, ?_⟩
  · have h := phAt_may R p
    unfold May.Ph.may at h
    rw [Bool.and_eq_true, allIn_iff] at h
    have h := h.1
    have a1 := h _ (by simp : (phAt (genTab L) p).min ∈ _)
    have a2 := h _ (by simp : (phAt (genTab L) p).top ∈ _)
    have a3 := h _ (by simp : (phAt (genTab L) p).yellow ∈ _)
    have a4 := h _ (by simp : (phAt (genTab L) p).red ∈ _)
    have a5 := h _ (by simp : (phAt (genTab L) p).walk ∈ _)
    have a6 := h _ (by simp : (phAt (genTab L) p).blinks ∈ _)
    omega
  · rw [gen_share]; have := num_range L 183 4 (by omega); omega
  · rw [genTab_groups, genGs_len]; exact (genG_range L).2
  · intro g hg
    rw [genTab_groups] at hg
    exact up_few L _ _ g hg
  · intro r hr
    have h := R.rl r hr
    unfold May.Rl.may at h
    rw [Bool.and_eq_true, Bool.and_eq_true, allIn_iff, allIn_iff, allIn_iff] at h
    have h := h.2.1
    have a1 := h _ (by simp : r.delay ∈ _)
    have a2 := h _ (by simp : r.hold ∈ _)
    have a3 := h _ (by simp : r.green ∈ _)
    have a4 := h _ (by simp : r.foot ∈ _)
    have a5 := h _ (by simp : r.stay ∈ _)
    omega
end BdX
namespace Rg
open Go Tab PlanM Ru
open Clear (phAt)
open PlaceM
open GenQ (Rng)
open RefC OnS ServeS PassS FreeS BdM BdQ
theorem sm_shift (f : Nat → Int) : ∀ n, sm (fun j => f (j + 1)) n + f 0 = sm f (n + 1)
  | 0 => by show (0 : Int) + f 0 = 0 + f 0; rfl
  | n + 1 => by
    have := sm_shift f n
    show sm (fun j => f (j + 1)) n + f (n + 1) + f 0 = sm f (n + 1) + f (n + 1)
    omega
theorem tot_sm {f : Int → Int} (hf : ∀ x, cap (f x) = f x) : ∀ l : List Int, tot (l.map f) = sm (fun j => f (l.getD j 0)) l.length
  | [] => rfl
  | x :: l => by
    rw [List.map_cons, tot_cons, tot_sm hf l, hf]
    have := sm_shift (fun j => f ((x :: l).getD j 0)) l.length
    have e : sm (fun j => f ((x :: l).getD (j + 1) 0)) l.length = sm (fun j => f (l.getD j 0)) l.length := sm_congr fun i _ => by simp
    rw [e] at this
    rw [List.length_cons, ← this]
    simp only [List.getD_cons_zero]
    omega
theorem pass_rowS (T : Tab) (g k : Nat) : ∀ (i : Nat) (l : List Int), (∀ p ∈ l, 0 ≤ p ∧ p < 8) → passL T g (rowS g k i l) = l.map (serveS T)
  | i, [], _ => rfl
  | i, p :: l, h => by
    have h1 := pass_rowS T g k (i + 1) l fun q hq => h q (List.mem_cons_of_mem _ hq)
    have hp := h p List.mem_cons_self
    unfold passL at h1 ⊢
    rw [rowS, List.filter_append, List.map_append, h1]
    unfold one
    rw [if_pos hp]
    simp
theorem pass_app (T : Tab) (g : Int) (l m : List Spt) : passL T g (l ++ m) = passL T g l ++ passL T g m := by
  unfold passL
  rw [List.filter_append, List.map_append]
/-- What is used of a table besides. -/
structure Gx (T : Tab) : Prop extends Gw T where
  lo : Lo T
theorem cap_serve {T : Tab} (h : Lo T) (p : Int) : cap (serveS T p) = serveS T p := cap_in (serve_le h p).1 (by have := (serve_le h p).2; omega)
theorem pass_rings {T : Tab} (G : Gx T) {g : Nat} (hg : g < T.groups.length) : 8 + sm (fun j => serveS T ((ringAt T g (0 : Nat)).getD j 0)) (ringAt T g (0 : Nat)).length + sm (fun j => serveS T ((ringAt T g (1 : Nat)).getD j 0)) (ringAt T g (1 : Nat)).length ≤ passS T g := by
  have hb := (pass_le G.lo g).2
  have hr : rowsAt T g = T.groups[g] := rows_in (List.getElem?_eq_getElem hg)
  have r0 : ringAt T g (0 : Nat) = T.groups[g].1 := by unfold ringAt; rw [hr]; rfl
  have r1 : ringAt T g (1 : Nat) = T.groups[g].2 := by unfold ringAt; rw [hr]; rfl
  have e1 : passS T g = tot (8 :: passL T g (spots T)) := by
    have e : passS T g = sums (8 :: passL T g (spots T)) := by unfold passS; rw [if_pos ⟨by omega, by omega⟩]
    rw [e, sums_tot] at hb ⊢
    omega
  have hs : spots T = allS 0 (T.groups.take g) ++ (grpS g T.groups[g] ++ allS (g + 1) (T.groups.drop (g + 1))) := by
    unfold spots
    have := allS_append 0 (T.groups.take g) (T.groups.drop g)
    rw [List.take_append_drop, List.length_take, Nat.min_eq_left (by omega), Nat.zero_add, List.drop_eq_getElem_cons hg] at this
    exact this
  have q0 : ∀ p ∈ T.groups[g].1, 0 ≤ p ∧ p < 8 := fun p hp => by
    obtain ⟨i, hi, rfl⟩ := List.getElem_of_mem hp
    exact G.row g (0 : Nat) i _ (by rw [r0]; exact List.getElem?_eq_getElem hi)
  have q1 : ∀ p ∈ T.groups[g].2, 0 ≤ p ∧ p < 8 := fun p hp => by
    obtain ⟨i, hi, rfl⟩ := List.getElem_of_mem hp
    exact G.row g (1 : Nat) i _ (by rw [r1]; exact List.getElem?_eq_getElem hi)
  rw [e1, hs, pass_app, pass_app, grpS, pass_app, pass_rowS T g 0 0 _ q0, pass_rowS T g 1 0 _ q1, tot_cons, tot_append, tot_append, tot_append, tot_sm (cap_serve G.lo), tot_sm (cap_serve G.lo), r0, r1]
  have c8 : cap 8 = 8 := cap_in (by decide) (by decide)
  have t1 := tot_lo (passL T g (allS 0 (T.groups.take g)))
  have t2 := tot_lo (passL T g (allS (g + 1) (T.groups.drop (g + 1))))
  rw [c8]
  omega
theorem serve_ge2 {T : Tab} (G : Gx T) {g k i : Nat} {p : Int} (hv : (ringAt T g k)[i]? = some p) : (phAt T p).top + (phAt T p).yellow + (phAt T p).red + T.revert + 8 ≤ serveS T p := by
  have R := G.rng g k i p hv
  have hon : SetM.has (OnS.onS T : Nat) p = true := (G.on p).2 ⟨_, G.spot hv, rfl⟩
  have r1 := R.min; have r2 := R.max; have r3 := R.top; have r4 := R.yellow; have r5 := R.red
  have rv := G.rev
  have e : serveS T p = serveR T (phAt T p) := by unfold serveS; rw [if_pos hon]
  have ct : cap (phAt T p).top = (phAt T p).top := cap_in (by omega) (by omega)
  have cy : cap (phAt T p).yellow = (phAt T p).yellow := cap_in (by omega) (by omega)
  have cr : cap (phAt T p).red = (phAt T p).red := cap_in (by omega) (by omega)
  have cv : cap T.revert = T.revert := cap_in (by omega) (by omega)
  have c8 : cap 8 = 8 := cap_in (by decide) (by decide)
  have hm : (phAt T p).top ≤ mosts [cap (phAt T p).min, sums [(phAt T p).walk, (phAt T p).blinks], cap (phAt T p).top] := by
    rw [ct]
    exact le_mosts (by simp)
  have hcm := cap_mono hm
  rw [ct] at hcm
  have hx : 0 ≤ cap T.extend := by unfold cap; split <;> (try split) <;> omega
  rw [e]
  unfold serveR
  rw [sums_tot]
  simp only [tot_cons, tot_nil]
  rw [cy, cr, cv, c8]
  rw [ct]
  omega
/-- what is left of a group's rings, within its Pass -/
theorem ws_pass {T : Tab} (G : Gx T) {r : Rg} {rs : List Ru} (I : Iw T r rs) {g : Nat} (hg : g < T.groups.length) : ws T r rs g 0 + ws T r rs g 1 + 8 ≤ passS T g := by
  have key : ∀ k : Nat, ws T r rs g k ≤ sm (fun j => serveS T ((ringAt T g k).getD j 0)) (ringAt T g k).length := fun k => sm_le fun i hi => by
    have hv := List.getElem?_eq_getElem hi
    have hgd : (ringAt T g k).getD i 0 = (ringAt T g k)[i] := by rw [List.getD_eq_getElem?_getD, hv]; rfl
    have hs := serve_ge2 G hv
    have R := G.rng g k i _ hv
    have hu := I.ok _ (G.row g k i _ hv)
    have r1 := R.min; have r2 := R.max; have r3 := R.top; have r4 := R.yellow; have r5 := R.red
    have rv := G.rev
    have u1 := hu.tm; have u2 := hu.pr
    unfold wi
    rw [hgd]
    dsimp only
    split
    · omega
    · split
      · unfold wg
        repeat' split
        all_goals omega
      · split
        · omega
        · unfold wn
          split <;> omega
  have k0 := key 0
  have k1 := key 1
  have := pass_rings G hg
  omega
theorem gx_gen (L : List Int) : Gx (GenT.genTab L) where
  toGd := gd_gen L
  rng := fun g k i p hv => by
    have G := gd_gen L
    have h8 := G.row g k i p hv
    obtain ⟨j, rfl⟩ := Int.eq_ofNat_of_zero_le h8.1
    refine GenQ.gen_rng L j (by omega) ?_
    have := (G.on (j : Nat)).2 ⟨_, G.spot hv, rfl⟩
    rwa [ChkX.has_on (BdX.gen_lo L).h8 h8.1 h8.2] at this
  rev := by
    have e : (GenT.genTab L).revert = RefS.num L 181 8 := by unfold GenT.genTab; split <;> rfl
    have := RefS.num_range L 181 8 (by decide)
    rw [e]; omega
  lo := BdX.gen_lo L
end Rg
namespace Rg
open Go Tab PlanM Ru
open Clear (phAt)
open PlaceM
open GenQ (Rng)
open RefC OnS ServeS PassS FreeS BdM BdQ
/-! sums of Pass, round and round -/
def pz (T : Tab) (j : Nat) : Int := passS T ((j % T.groups.length : Nat) : Int)
def bt (T : Tab) (g d : Nat) : Int := sm (fun j => pz T (g + 1 + j)) d
theorem sm_add (f : Nat → Int) (e : Nat) : ∀ d, sm f (e + d) = sm f e + sm (fun j => f (e + j)) d
  | 0 => by show sm f e = sm f e + 0; omega
  | d + 1 => by
    have := sm_add f e d
    show sm f (e + d) + f (e + d) = sm f e + (sm (fun j => f (e + j)) d + f (e + d))
    omega
section
variable {T : Tab} (L : Lo T)
include L
theorem pz_nn (j : Nat) : 0 ≤ pz T j := (pass_le L _).1
theorem bt_nn (g d : Nat) : 0 ≤ bt T g d := sm_nn fun i _ => pz_nn L _
theorem bt_mono (g : Nat) {d e : Nat} (h : d ≤ e) : bt T g d ≤ bt T g e := by
  obtain ⟨f, rfl⟩ := Nat.exists_eq_add_of_le h
  unfold bt
  rw [sm_add]
  have : 0 ≤ sm (fun j => pz T (g + 1 + (d + j))) f := sm_nn fun i _ => pz_nn L _
  omega
end
theorem bt_succ (T : Tab) (g d : Nat) : bt T g (d + 1) = bt T g d + pz T (g + 1 + d) := rfl
theorem bt_split (T : Tab) (g e d : Nat) : bt T g (e + d) = bt T g e + bt T ((g + e) % T.groups.length) d := by
  unfold bt
  rw [sm_add]
  congr 1
  refine sm_congr fun i _ => ?_
  unfold pz
  congr 2
  rw [Nat.add_assoc ((g + e) % T.groups.length) 1 i, Nat.mod_add_mod]
  congr 1
  omega
theorem cyc (T : Tab) : ∀ s : Nat, sm (fun j => pz T (s + j)) T.groups.length = sm (pz T) T.groups.length
  | 0 => sm_congr fun i _ => by rw [Nat.zero_add]
  | s + 1 => by
    have h1 : sm (fun j => pz T (s + 1 + j)) T.groups.length + pz T s = sm (fun j => pz T (s + j)) (T.groups.length + 1) := by
      have h := sm_shift (fun j => pz T (s + j)) T.groups.length
      have h5 : sm (fun j => pz T (s + 1 + j)) T.groups.length = sm (fun j => (fun j => pz T (s + j)) (j + 1)) T.groups.length := sm_congr fun i _ => by show pz T (s + 1 + i) = pz T (s + (i + 1)); congr 1; omega
      rw [h5]
      exact h
    have h2 : sm (fun j => pz T (s + j)) (T.groups.length + 1) = sm (fun j => pz T (s + j)) T.groups.length + pz T (s + T.groups.length) := rfl
    have h3 : pz T (s + T.groups.length) = pz T s := by unfold pz; rw [Nat.add_mod_right]
    have h4 := cyc T s
    rw [h2, h3, h4] at h1
    omega
theorem up_sm {T : Tab} (L : Lo T) : ∀ n, tot (upL T n) = sm (fun j => passS T (j : Nat)) n
  | 0 => rfl
  | n + 1 => by rw [up_tot L, up_sm L n]; rfl
theorem bt_full {T : Tab} (L : Lo T) (g : Nat) : bt T g T.groups.length = tot (upL T T.groups.length) := by
  have h := cyc T (g + 1)
  unfold bt
  rw [h, up_sm L]
  refine sm_congr fun i hi => ?_
  unfold pz
  rw [Nat.mod_eq_of_lt hi]
/-- how many groups on -/
def ds (n g gk : Nat) : Nat := (gk + n - g - 1) % n + 1
theorem ds_spec {n g gk : Nat} (hg : g < n) (hk : gk < n) : 1 ≤ ds n g gk ∧ ds n g gk ≤ n ∧ (g + ds n g gk) % n = gk := by
  unfold ds
  have h1 := Nat.mod_lt (gk + n - g - 1) (show 0 < n by omega)
  refine ⟨by omega, by omega, ?_⟩
  by_cases h : g < gk
  · have e : (gk + n - g - 1) % n = gk - g - 1 := by
      rw [show gk + n - g - 1 = (gk - g - 1) + n by omega, Nat.add_mod_right, Nat.mod_eq_of_lt (by omega)]
    rw [e, show g + (gk - g - 1 + 1) = gk by omega, Nat.mod_eq_of_lt hk]
  · have e : (gk + n - g - 1) % n = gk + n - g - 1 := Nat.mod_eq_of_lt (by omega)
    rw [e, show g + (gk + n - g - 1 + 1) = gk + n by omega, Nat.add_mod_right, Nat.mod_eq_of_lt hk]
theorem ds_eq {n g gk d : Nat} (hg : g < n) (hk : gk < n) (h1 : 1 ≤ d) (h2 : d ≤ n) (h : (g + d) % n = gk) : d = ds n g gk := by
  obtain ⟨a, b, c⟩ := ds_spec hg hk
  generalize ds n g gk = x at *
  by_cases hd : g + d < n
  · rw [Nat.mod_eq_of_lt hd] at h
    by_cases hx : g + x < n
    · rw [Nat.mod_eq_of_lt hx] at c; omega
    · rw [show g + x = (g + x - n) + n by omega, Nat.add_mod_right, Nat.mod_eq_of_lt (by omega)] at c; omega
  · rw [show g + d = (g + d - n) + n by omega, Nat.add_mod_right] at h
    by_cases hdn : g + d - n < n
    · rw [Nat.mod_eq_of_lt hdn] at h
      by_cases hx : g + x < n
      · rw [Nat.mod_eq_of_lt hx] at c; omega
      · rw [show g + x = (g + x - n) + n by omega, Nat.add_mod_right, Nat.mod_eq_of_lt (by omega)] at c; omega
    · omega
/-- what the phase at hand may still wait -/
def phi (T : Tab) (r : Rg) (rs : List Ru) (gk kr ki : Nat) : Int :=
  ws T r rs r.g.toNat 0 + ws T r rs r.g.toNat 1 + (if r.cr = true then 1 else 2) + (if r.cr = false ∧ r.g.toNat = gk ∧ r.at kr < (ki : Int) then 0 else bt T r.g.toNat (ds T.groups.length r.g.toNat gk))
theorem wi_nn {T : Tab} (G : Gx T) {r : Rg} {rs : List Ru} {g k i : Nat} (hi : i < (ringAt T g k).length) : 0 ≤ wi T r rs g k i := by
  have hv := List.getElem?_eq_getElem hi
  have hgd : (ringAt T g k).getD i 0 = (ringAt T g k)[i] := by rw [List.getD_eq_getElem?_getD, hv]; rfl
  have R := G.rng g k i _ hv
  have n1 := wg_nn R (ruAt rs (ringAt T g k)[i])
  have n2 := wn_nn R T.revert (ruAt rs (ringAt T g k)[i])
  unfold wi
  rw [hgd]
  dsimp only
  repeat' split
  all_goals omega
theorem ws_nn {T : Tab} (G : Gx T) (r : Rg) (rs : List Ru) (g k : Nat) : 0 ≤ ws T r rs g k := sm_nn fun i hi => wi_nn G hi
theorem phi_nn {T : Tab} (G : Gx T) (r : Rg) (rs : List Ru) (gk kr ki : Nat) : 0 ≤ phi T r rs gk kr ki := by
  have h0 := ws_nn G r rs r.g.toNat 0
  have h1 := ws_nn G r rs r.g.toNat 1
  have h2 := bt_nn G.lo r.g.toNat (ds T.groups.length r.g.toNat gk)
  unfold phi
  split <;> split <;> omega
section
variable {T : Tab} (G : Gx T) {r : Rg} {rs : List Ru} (I : Iw T r rs) {gk kr ki : Nat} (hgk : gk < T.groups.length)
include G I hgk
/-- it is within Free -/
theorem phi_free : phi T r rs gk kr ki + 1 ≤ tot (upL T T.groups.length) + passS T gk := by
  obtain ⟨g, hg⟩ := Int.eq_ofNat_of_zero_le I.g0.1
  have hgl : g < T.groups.length := by have := I.g0.2; omega
  have hw := ws_pass G I hgl
  have hp := (pass_le G.lo gk).1
  have ht := tot_lo (upL T T.groups.length)
  unfold phi
  rw [hg, Int.toNat_natCast]
  by_cases e : g = gk
  · subst e
    have hb := bt_mono G.lo g (ds_spec hgl hgk).2.1
    rw [bt_full G.lo] at hb
    split <;> split <;> omega
  · have hd : ds T.groups.length g gk ≤ T.groups.length - 1 := by
      obtain ⟨a, b, c⟩ := ds_spec hgl hgk
      rcases Nat.lt_or_ge (ds T.groups.length g gk) T.groups.length with h | h
      · omega
      · exfalso
        rw [show ds T.groups.length g gk = T.groups.length by omega, Nat.add_mod_right, Nat.mod_eq_of_lt hgl] at c
        exact e c
    have hb := bt_mono G.lo g hd
    have hf := bt_full G.lo g
    rw [show T.groups.length = (T.groups.length - 1) + 1 by omega, bt_succ, show T.groups.length - 1 + 1 = T.groups.length by omega] at hf
    have hz : pz T (g + 1 + (T.groups.length - 1)) = passS T g := by
      unfold pz
      rw [show g + 1 + (T.groups.length - 1) = g + T.groups.length by omega, Nat.add_mod_right, Nat.mod_eq_of_lt hgl]
    rw [hz] at hf
    have := (pass_le G.lo g).1
    split <;> split <;> omega
end
section
variable {T : Tab} (G : Gx T) {r : Rg} {rs : List Ru} (I : Iw T r rs) {g : Nat} (hg : r.g = g) {pr : Int}
include G I hg
/-- no phase begins: no term of its own index grows; one that is busy and not green, or ends, falls -/
theorem wg_still {S : So} {p : Int} {k i : Nat} (hv : (ringAt T g k)[i]? = some p) (hs : SetM.has S.st p = false) : wg (phAt T p) (ruAt (runsS T rs S.st S.en pr) p) ≤ wg (phAt T p) (ruAt rs p) ∧ (buB (ruAt rs p) = true → (ruAt rs p).co ≠ 1 → wg (phAt T p) (ruAt (runsS T rs S.st S.en pr) p) < wg (phAt T p) (ruAt rs p)) := by
  have h8 := G.row g k i p hv
  have R := G.rng g k i p hv
  have hu := I.ok p h8
  have hq := qk_cue S.st S.en pr p
  rw [runs_get _ _ _ _ _ h8]
  cases hb : buB (ruAt rs p) with
  | true =>
    have key := wg_stp hu hq R hb
    exact ⟨key.1, fun _ hc => key.2 fun h => absurd h hc⟩
  | false =>
    have key := (wn_stp hu hq R hb hs G.rev.2).1
    rw [wg_red key, wg_red hb]
    exact ⟨Int.le_refl _, fun h => by cases h⟩
/-- the rings cross -/
theorem ws_cross {S : So} (hs : S.st = 0) (k : Nat) {a : Rg} (ha : a.at k = r.at k) (hc : a.cr = true) : ws T a (runsS T rs S.st S.en pr) g k ≤ ws T r rs g k := sm_le fun i hi => by
  have hv := List.getElem?_eq_getElem hi
  have hgd : (ringAt T g k).getD i 0 = (ringAt T g k)[i] := by rw [List.getD_eq_getElem?_getD, hv]; rfl
  have R := G.rng g k i _ hv
  have n2 := wn_nn R T.revert (ruAt rs (ringAt T g k)[i])
  have key := (wg_still G I hg (S := S) (pr := pr) hv (by rw [hs, has_zero])).1
  unfold wi
  rw [hgd, ha, hc]
  dsimp only
  repeat' split
  all_goals first | omega | (exact key) | (simp at *; done)
theorem ws_wait {S : So} (hs : S.st = 0) (hc : r.cr = true) {k i : Nat} {p : Int} (hv : (ringAt T g k)[i]? = some p) (hi : (i : Int) = r.at k) (hb : buB (ruAt rs p) = true) : ws T r (runsS T rs S.st S.en pr) g k < ws T r rs g k := by
  have hlt := (List.getElem?_eq_some_iff.1 hv).1
  have h8 := G.row g k i p hv
  refine sm_lt (fun j hj => ?_) ⟨i, hlt, ?_⟩
  · have hv' := List.getElem?_eq_getElem hj
    have hgd : (ringAt T g k).getD j 0 = (ringAt T g k)[j] := by rw [List.getD_eq_getElem?_getD, hv']; rfl
    have key := (wg_still G I hg (S := S) (pr := pr) hv' (by rw [hs, has_zero])).1
    unfold wi
    rw [hgd, hc]
    dsimp only
    repeat' split
    all_goals first | omega | (exact key) | (simp at *; done)
  · have hgd : (ringAt T g k).getD i 0 = p := by rw [List.getD_eq_getElem?_getD, hv]; rfl
    have hco : (ruAt rs p).co ≠ 1 := fun e => by
      have := I.cr hc p h8
      unfold grB at this
      rw [e] at this
      cases this
    have key := (wg_still G I hg (S := S) (pr := pr) hv (by rw [hs, has_zero])).2 hb hco
    unfold wi
    rw [hgd]
    dsimp only
    rw [if_neg (by omega), if_pos hi, if_neg (by omega), if_pos hi]
    exact key
/-- all Red: nothing is left of the rings that cross -/
theorem wait_zero (hc : r.cr = true) (hb : bS rs = 0) (k : Nat) : ws T r rs g k = 0 := by
  have h : ∀ i, i < (ringAt T g k).length → wi T r rs g k i = 0 := fun i hi => by
    have hv := List.getElem?_eq_getElem hi
    have hgd : (ringAt T g k).getD i 0 = (ringAt T g k)[i] := by rw [List.getD_eq_getElem?_getD, hv]; rfl
    have h8 := G.row g k i _ hv
    have hr : buB (ruAt rs (ringAt T g k)[i]) = false := by rw [← bs_in I.len h8, hb, has_zero]
    unfold wi
    rw [hgd, hc]
    dsimp only
    rw [wg_red hr]
    repeat' split
    all_goals first | rfl | (simp at *; done)
  unfold ws
  rw [sm_congr h]
  generalize (ringAt T g k).length = n
  induction n with
  | zero => rfl
  | succ n ih => show sm (fun _ => 0) n + 0 = 0; rw [ih]; rfl
end
end Rg
namespace Rg
open Go Tab PlanM Ru
open Clear (phAt)
open PlaceM
open GenQ (Rng)
open RefC OnS ServeS PassS FreeS BdM BdQ
theorem and_comm_bits (a b : Int) : bits .and .i64 a b = bits .and .i64 b a := by
  show IntKind.i64.wrap ((BitVec.ofInt 64 a &&& BitVec.ofInt 64 b).toNat : Nat) = IntKind.i64.wrap ((BitVec.ofInt 64 b &&& BitVec.ofInt 64 a).toNat : Nat)
  rw [BitVec.and_comm]
theorem bt_last {T : Tab} (L : Lo T) (g : Nat) {e : Nat} (h : 1 ≤ e) : passS T (((g + e) % T.groups.length : Nat) : Int) ≤ bt T g e := by
  obtain ⟨f, rfl⟩ := Nat.exists_eq_add_of_le h
  rw [Nat.add_comm 1 f, bt_succ]
  have := bt_nn L g f
  have e2 : pz T (g + 1 + f) = passS T (((g + (f + 1)) % T.groups.length : Nat) : Int) := by unfold pz; congr 3; omega
  omega
theorem start_green {p : Ph} {u : Ru} {c : Cu} (hb : buB u = false) (hs : c.st = true) : grB (stp p u c) = true := by
  unfold buB at hb
  simp only [Bool.or_eq_false_iff, beq_eq_false_iff_ne] at hb
  unfold stp
  rw [if_neg hb.1, if_neg hb.2.1, if_neg hb.2.2]
  unfold rdR
  rw [if_pos hs]
  rfl
/-- the group that comes next, with a wanted phase in group gk -/
theorem follow_to {T : Tab} (G : Gx T) {g gk kr ki : Nat} {q want : Int} (hgl : g < T.groups.length) (hgk : gk < T.groups.length) (hv : (ringAt T gk kr)[ki]? = some q) (hw : SetM.has want q = true) : ∃ e : Nat, 1 ≤ e ∧ e ≤ ds T.groups.length g gk ∧ followS T g want = ((g + e) % T.groups.length : Nat) := by
  obtain ⟨d1, d2, d3⟩ := ds_spec hgl hgk
  have hfr : fromG T (g : Nat) = g := by unfold fromG; rw [if_pos ⟨by omega, by omega⟩]
  have hq8 := G.row gk kr ki q hv
  have hc : folC T (g : Nat) want (ds T.groups.length g gk - 1) = true := by
    unfold folC
    have e : (fromG T (g : Nat) + 1 + ((ds T.groups.length g gk - 1 : Nat) : Int)) % (T.groups.length : Int) = (gk : Int) := by
      rw [hfr, show ((g : Int) + 1 + ((ds T.groups.length g gk - 1 : Nat) : Int)) = ((g + ds T.groups.length g gk : Nat) : Int) by omega, ← Int.natCast_emod, d3]
    rw [e]
    refine decide_eq_true fun hz => ?_
    obtain ⟨j, rfl⟩ := Int.eq_ofNat_of_zero_le hq8.1
    have hm := List.mem_of_getElem? hv
    have hin : SetM.has (membS T gk : Nat) (j : Nat) = true := by
      rw [SetM.has_nat, SetM.low_nat _ (memb_lt _ _), memb_test]
      refine decide_eq_true ⟨?_, by omega⟩
      unfold ringAt at hm
      split at hm
      · exact .inl hm
      · split at hm
        · exact .inr hm
        · simp at hm
    have e2 : bits .and .i64 (membS T gk : Nat) want = ((SetM.low want &&& membS T gk : Nat) : Int) := by
      rw [← SetM.and_low want _ (memb_lt T gk), and_comm_bits]
    rw [e2] at hz
    have hz' : SetM.low want &&& membS T gk = 0 := by omega
    rw [SetM.has_nat] at hw hin
    rw [SetM.low_nat _ (memb_lt _ _)] at hin
    have : (SetM.low want &&& membS T gk).testBit j = true := by rw [Nat.testBit_and, hw, hin]; rfl
    rw [hz', Nat.zero_testBit] at this
    cases this
  have hlt : ds T.groups.length g gk - 1 < T.groups.length := by omega
  cases hf : (List.range T.groups.length).find? (folC T (g : Nat) want) with
  | none =>
    have := List.find?_eq_none.1 hf _ (List.mem_range.2 hlt)
    exact absurd hc this
  | some i =>
    have h1 := List.find?_range_eq_some.1 hf
    have hi : i ≤ ds T.groups.length g gk - 1 := by
      rcases Nat.lt_or_ge (ds T.groups.length g gk - 1) i with h | h
      · have := h1.2.2 _ h
        rw [hc] at this; cases this
      · exact h
    refine ⟨i + 1, by omega, by omega, ?_⟩
    unfold followS
    rw [hf]
    dsimp only
    rw [hfr, show ((g : Int) + 1 + (i : Int)) = ((g + (i + 1) : Nat) : Int) by omega, ← Int.natCast_emod]
theorem serve_tick {T : Tab} (G : Gx T) {r : Rg} {rs : List Ru} (I : Iw T r rs) {want : Int} {gk kr ki : Nat} {q : Int} (hgk : gk < T.groups.length) (hk2 : kr < 2) (hv : (ringAt T gk kr)[ki]? = some q) (hw : SetM.has want q = true) (hgq : grB (ruAt rs q) = false) :
    grB (ruAt (runsS T rs (stepS T r rs want).st (stepS T r rs want).en (prsS T r rs want)) q) = true ∨ phi T (stepS T r rs want).r (runsS T rs (stepS T r rs want).st (stepS T r rs want).en (prsS T r rs want)) gk kr ki + 1 ≤ phi T r rs gk kr ki := by
  obtain ⟨g, hg⟩ := Int.eq_ofNat_of_zero_le I.g0.1
  have hgl : g < T.groups.length := by have := I.g0.2; omega
  have hq8 := G.row gk kr ki q hv
  have W := way T r rs want
  have I2 := iw_tick G.toGd I want (prsS T r rs want)
  have htn : r.g.toNat = g := by rw [hg]; rfl
  generalize stepS T r rs want = S at W I2 ⊢
  cases W with
  | wait hc hb h =>
    subst h
    right
    have hne : thS buB rs ≠ 0 := fun e => hb (by unfold bS; rw [e]; rfl)
    obtain ⟨p, hp⟩ := (ChkX.low_ne (th_lt buB rs)).1 hne
    have h8 := has_range hp
    have hbu : buB (ruAt rs p) = true := by rw [← bs_in I.len h8]; exact hp
    obtain ⟨k, hk, e⟩ := I.red p h8 hbu
    rw [hg] at e
    rcases G.now_spec g k (r.at k) with ⟨h, _⟩ | ⟨i, h1, h2⟩
    · rw [h] at e; omega
    · rw [e] at h2
      have hlt := ws_wait G I hg (S := ⟨r, 0, 0⟩) (pr := prsS T r rs want) rfl hc h2 h1.symm hbu
      have l0 := ws_cross G I hg (S := ⟨r, 0, 0⟩) (pr := prsS T r rs want) rfl 0 (a := r) rfl hc
      have l1 := ws_cross G I hg (S := ⟨r, 0, 0⟩) (pr := prsS T r rs want) rfl 1 (a := r) rfl hc
      unfold phi
      rw [htn]
      dsimp only at hlt l0 l1 ⊢
      match k, hk, hlt with
      | 0, _, hlt => split <;> split <;> omega
      | 1, _, hlt => split <;> split <;> omega
  | cross hc hb he hs ho h =>
    subst h
    right
    have l0 := ws_cross G I hg (S := ⟨⟨r.g, r.a0, r.a1, true⟩, 0, gS rs⟩) (pr := prsS T r rs want) rfl 0 (a := ⟨r.g, r.a0, r.a1, true⟩) rfl rfl
    have l1 := ws_cross G I hg (S := ⟨⟨r.g, r.a0, r.a1, true⟩, 0, gS rs⟩) (pr := prsS T r rs want) rfl 1 (a := ⟨r.g, r.a0, r.a1, true⟩) rfl rfl
    have hT : ¬ (r.cr = false ∧ g = gk ∧ r.at kr < (ki : Int)) := fun ⟨_, e, ha⟩ => by
      subst e
      have hx := next_le (want := want) hg hv ha hw
      have := hs kr hk2
      unfold setS at this
      rw [decide_eq_true hx.1] at this
      cases this
    have hb0 := bt_nn G.lo g (ds T.groups.length g gk)
    unfold phi
    dsimp only at l0 l1 ⊢
    rw [htn, if_neg hT, hc]
    simp only [if_true, Bool.false_eq_true, if_false, false_and, Bool.true_eq_false]
    omega
  | go hc hr hst hen hn hnat =>
    cases hq : grB (ruAt (runsS T rs S.st S.en (prsS T r rs want)) q) with
    | true => exact .inl rfl
    | false =>
      right
      have hlt := go_falls G.toGw I hg hc hr hst hen hn hk2 hv hw hgq
      have hcr : S.r.cr = false := by rw [hr]; exact hc
      have hgg : S.r.g = r.g := by rw [hr]; rfl
      have hb0 := bt_nn G.lo g (ds T.groups.length g gk)
      have hT : (r.cr = false ∧ g = gk ∧ r.at kr < (ki : Int)) → S.r.at kr < (ki : Int) := fun ⟨_, e, ha⟩ => by
        subst e
        have hx := next_le (want := want) hg hv ha hw
        have hsat : S.r.at kr = if begS T rs (bS rs) (lnS T r want kr) = true then (lnS T r want kr).x else r.at kr := by
          rw [hr]
          match kr, hk2 with
          | 0, _ => rfl
          | 1, _ => rfl
        rw [hsat]
        split
        · rename_i hbeg
          rcases Int.lt_or_le (lnS T r want kr).x ki with h | h
          · exact h
          · exfalso
            have e : (ki : Int) = (lnS T r want kr).x := by omega
            have hs : SetM.has S.st q = true := (st_only G.toGw I hg (S := S) hst hk2 hv).2 ⟨hbeg, e⟩
            have hred := red_off G.toGw I hg hk2 hv (by omega)
            rw [runs_get _ _ _ _ _ hq8, start_green hred hs] at hq
            cases hq
        · exact ha
      unfold phi
      rw [hgg, htn, hcr, hc]
      rw [hc] at hT
      simp only [Bool.false_eq_true, if_false, true_and] at hT ⊢
      by_cases h1 : g = gk ∧ r.at kr < (ki : Int)
      · rw [if_pos h1, if_pos ⟨h1.1, hT h1⟩]; omega
      · rw [if_neg h1]; split <;> omega
  | over hc hb h =>
    right
    obtain ⟨e, e1, e2, e3⟩ := follow_to G hgl hgk hv hw
    have hf : followS T r.g want = (((g + e) % T.groups.length : Nat) : Int) := by rw [hg]; exact e3
    rw [if_neg (by rw [hf]; omega), hf] at h
    subst h
    have hgl' : (g + e) % T.groups.length < T.groups.length := Nat.mod_lt _ (by omega)
    have hp := ws_pass G I2 hgl'
    have z0 := wait_zero G I hg hc hb 0
    have z1 := wait_zero G I hg hc hb 1
    have hl := bt_last G.lo g e1
    unfold phi
    dsimp only at hp ⊢
    rw [htn, hc, z0, z1, Int.toNat_natCast]
    simp only [if_true, Bool.false_eq_true, if_false, false_and, Bool.true_eq_false, true_and]
    obtain ⟨d1, d2, d3⟩ := ds_spec hgl hgk
    have ham : (Rg.mk (((g + e) % T.groups.length : Nat) : Int) (-1) (-1) false).at kr < (ki : Int) := by
      match kr, hk2 with
      | 0, _ => show (-1 : Int) < _; omega
      | 1, _ => show (-1 : Int) < _; omega
    by_cases hed : e = ds T.groups.length g gk
    · have eg : (g + e) % T.groups.length = gk := by rw [hed]; exact d3
      rw [if_pos ⟨eg, ham⟩, ← hed]
      omega
    · obtain ⟨f, hfe⟩ := Nat.exists_eq_add_of_le (show e ≤ ds T.groups.length g gk from e2)
      have hs := bt_split T g e f
      have hfd : f = ds T.groups.length ((g + e) % T.groups.length) gk := ds_eq hgl' hgk (by omega) (by omega) (by rw [Nat.mod_add_mod, Nat.add_assoc, ← hfe]; exact d3)
      rw [hfe, hs, ← hfd]
      have hb0 := bt_nn G.lo ((g + e) % T.groups.length) f
      split <;> omega
end Rg
namespace Rg
open Go Go.ChangeShapes Go.WideShapes Go.ChangeAt Go.RowKit
open Tab Flat TabArg QL Ru PlanM
open ChkM (cfAt)
open Clear (phAt)
open PlaceM (where_ spots Spt)
open May (infoP)
theorem tick_any (u0 : World) (T : Tab) (hd : Hd) (r : Rg) (rs : List Ru) (cnt : List Int) (cross want : Int) (gx : Nat) (w : World) (TB : ∀ W, Below u0.heap.size u0 W → IsTab W hd T) (h8 : rs.length = 8) (hc : cnt.length = 8) (hb : ∀ x ∈ cnt, 0 ≤ x ∧ x ≤ 1000000000) (hx : 0 ≤ cross ∧ cross ≤ 1000000000) (hg : 0 ≤ r.g ∧ r.g < T.groups.length) (few : T.groups.length ≤ 1000) (hw : Blk.Bks u0 [(gx, (pC (T.cells hd) r (runsC rs) cnt cross).toArray, 57)] w) :
    Calls Try.prog 20 #[.pointer (some ⟨gx, 0, none⟩), .int .i64 want] w fun e w' => e = .returned (.tuple #[I (stepS T r rs want).st, I (stepS T r rs want).en]) ∧ Blk.Bks u0 [(gx, (pC (T.cells hd) (stepS T r rs want).r (runsC (runsS T rs (stepS T r rs want).st (stepS T r rs want).en (prsS T r rs want))) (cntS cnt (stepS T r rs want).st) (crS cross r.cr (stepS T r rs want).r.cr)).toArray, 57)] w' := by
  have h1 : (T.cells hd).length = 131 := by have := (cells_ok (TB u0 (Below.refl _ _))).size; rwa [List.size_toArray] at this
  have IA : (Try.prog.info? 32).map (·.size) = some (T.cells hd).length := by rw [h1]; exact PlanW.infoT
  obtain ⟨S, hS⟩ : ∃ S, stepS T r rs want = S := ⟨_, rfl⟩
  obtain ⟨pr, hpr⟩ : ∃ S, prsS T r rs want = S := ⟨_, rfl⟩
  have PF : Hid (∀ W, Below u0.heap.size u0 W → Calls Try.prog 49 #[.agg (T.cells hd).toArray, .agg r.cells.toArray, .agg (runsC rs).toArray, .int .i64 want] W fun e w' => e = .returned (.int .i64 pr) ∧ Below W.heap.size W w') := Lib.hid (fun W hb => by rw [← hpr]; exact pressed_any T hd r rs want W (TB W hb) h8)
  have SF : Hid (∀ W, Below u0.heap.size u0 W → Calls Try.prog 12 #[.agg (T.cells hd).toArray, .agg r.cells.toArray, .agg (runsC rs).toArray, .int .i64 want] W fun e w' => e = .returned (.tuple #[.agg S.r.cells.toArray, I S.st, I S.en]) ∧ Below W.heap.size W w') := Lib.hid (fun W hb => by rw [← hS]; exact step_any T hd r rs want W (TB W hb) h8 hg few)
  have LPH : Hid (∀ p : Nat, p < 8 → ∀ W g, Lies W ⟨g, 0, none⟩ (T.cells hd) → Lies W ⟨g, p * 13, none⟩ (phAt T p).cells) := Lib.hid (fun p hp W g hl j v hj => by
    have := hl (p * 13 + j) v (GenQ.cells_at (TB u0 (Below.refl _ _)) hp hj)
    rw [Addr.add_mid, Nat.zero_add] at this
    rwa [Addr.add_mid])
  rw [hS, hpr]
  clear hS hpr TB hg few
  obtain ⟨nf, hnf⟩ : ∃ f : Nat → Ru, f = fun p => stp (phAt T (p : Nat)) (ruAt rs (p : Nat)) (cueS S.st S.en pr (p : Nat)) := ⟨_, rfl⟩
  obtain ⟨cf, hcf⟩ : ∃ f : Nat → Int, f = fun p => cnt.getD p 0 + if SetM.has S.st (p : Nat) = true then 1 else 0 := ⟨_, rfl⟩
  have NF : Hid (∀ p : Nat, nf p = stp (phAt T p) (ruAt rs p) (cueS S.st S.en pr p)) := Lib.hid (fun p => by rw [hnf])
  have CF : Hid (∀ p : Nat, cf p = cnt.getD p 0 + if SetM.has S.st (p : Nat) = true then 1 else 0) := Lib.hid (fun p => by rw [hcf])
  have RN : Hid (runsS T rs S.st S.en pr = mix nf (fun i => ruAt rs i) 8) := Lib.hid (by rw [hnf, mix_upd _ _ zRu]; rfl)
  have CN : Hid (cntS cnt S.st = mix cf (fun i => cnt.getD i 0) 8) := Lib.hid (by rw [hcf, mix_upd _ _ 0]; rfl)
  have R0 : mix nf (fun i => ruAt rs i) 0 = rs := mix_zero nf h8 (fun i hi => ru_at h8 hi)
  have C0 : mix cf (fun i => cnt.getD i 0) 0 = cnt := mix_zero cf hc (fun i hi => by rw [List.getD_eq_getElem?_getD, List.getElem?_eq_getElem (show i < cnt.length by omega)]; rfl)
  have CB : Hid (∀ p : Nat, p < 8 → 0 ≤ cnt.getD p 0 ∧ cnt.getD p 0 ≤ 1000000000) := Lib.hid (fun p hp => by
    have hm := List.getElem_mem (show p < cnt.length by omega)
    have := hb _ hm
    rw [List.getD_eq_getElem?_getD, List.getElem?_eq_getElem (show p < cnt.length by omega)]
    exact this)
  rw [RN.out, CN.out]
  clear hnf hcf hb RN CN
  have h2 : (runsC rs).length = 96 := by rw [runs_len, h8]
  have IR : (Try.prog.info? 46).map (·.size) = some (runsC rs).length := by rw [h2]; exact infoRs
  generalize T.cells hd = tc at *
  generalize phAt T = ph at *
  have HW0 := Lib.hid hw
  clear hw
  go_enter Try.func20, Try.ntmps20
  go_upto_region 1 with fail
  have L1 := Lib.hid h1
  have L2 := Lib.hid h2
  have L3 := Lib.hid hc
  have HV := Lib.hid HW0.out.bel
  have PBW : Hid (∀ W, Below w.heap.size w W → PB W gx tc r (runsC rs) cnt cross) := Lib.hid (fun W hb => pb L1.out L2.out L3.out (HW0.out.step hb) 0 rfl)
  refine QB.region_below w.heap.size (by kernel_rfl) (by kernel_rfl) ?_
  repeat first
    | (refine wpQuiet_load rfl 32 _ rfl ⟨gx, 0, none⟩ rfl tc _ (fun w' ⟨pw, e⟩ => by rw [e]; exact (PBW.out _ pw.below).lt) Try.underlying32 rfl IA ?_
       dsimp only [Act.put]
       simp only [List.setIfInBounds_toArray, List.set_cons_zero, List.set_cons_succ])
    | (refine wpQuiet_load rfl 36 _ rfl ⟨gx, 131, none⟩ rfl r.cells _ (fun w' ⟨pw, e⟩ => by rw [e]; exact (PBW.out _ pw.below).lr) Try.underlying36 rfl infoRg ?_
       dsimp only [Act.put]
       simp only [List.setIfInBounds_toArray, List.set_cons_zero, List.set_cons_succ])
    | (refine wpQuiet_load rfl 46 _ rfl ⟨gx, 135, none⟩ rfl (runsC rs) _ (fun w' ⟨pw, e⟩ => by rw [e]; exact (PBW.out _ pw.below).ln) Try.underlying46 rfl IR ?_
       dsimp only [Act.put]
       simp only [List.setIfInBounds_toArray, List.set_cons_zero, List.set_cons_succ])
    | ((quiet_step (first | (go_at_call 49; with_reducible exact QB.call_of (Nat.le_refl _) (fun b => PF.out _ (HV.out.trans (b.mono HV.out.size)))))))
  refine wpQuiet_nil ?_
  intro _ hw'
  obtain ⟨pq, rfl⟩ := hw'
  have H1 := Lib.hid (HW0.out.by pq)
  clear HW0 PBW HV PF
  generalize pq.world = w1 at H1 ⊢
  go_upto_region 2 with fail
  have HV := Lib.hid H1.out.bel
  have PB1 : Hid (∀ W, Below w1.heap.size w1 W → PB W gx tc r (runsC rs) cnt cross) := Lib.hid (fun W hb => pb L1.out L2.out L3.out (H1.out.step hb) 0 rfl)
  (try dsimp only [Act.put]); (try simp only [List.setIfInBounds_toArray, List.set_cons_zero, List.set_cons_succ])
  go_cut [7, 8, 9] from 26 to 106 (fun t7 t8 t9 wx => ∃ gq, t7 = .pointer (some ⟨gq, 0, none⟩) ∧ t8 = I S.st ∧ t9 = I S.en ∧ Blk.Bks u0 [(gq, S.r.cells.toArray, 36), (gx, (pC tc r (runsC rs) cnt cross).toArray, 57)] wx)
  case first =>
    refine wp_region_held (S := fun w' => Below w1.heap.size w1 w') (by kernel_rfl) ?_
    have hS : Below w1.heap.size w1 { w1 with drawn := w1.drawn + 1 } := (Below.refl _ _).drew
    have HA := Lib.hid (H1.out.step hS)
    generalize ({ w1 with drawn := w1.drawn + 1 } : World) = v at hS HA ⊢
    refine Held.take (i := 0) (some 27) rfl (v := ?_) rfl (by kernel_rfl) (by kernel_rfl) (by kernel_rfl) (fun _ _ _ h => h) (Or.inl ⟨by rfl, ?_⟩) hS ?_
    rotate_left
    · intro w' hw'
      go_simp
      try with_reducible rfl
    (try dsimp only [Act.put]); (try simp only [List.setIfInBounds_toArray, List.set_cons_zero, List.set_cons_succ])
    refine Held.take (i := 1) (some 28) rfl (v := ?_) rfl (by kernel_rfl) (by kernel_rfl) (by kernel_rfl) (fun _ _ _ h => h) (Or.inl ⟨by rfl, ?_⟩) hS ?_
    rotate_left
    · intro w' hw'
      go_simp
      try with_reducible rfl
    (try dsimp only [Act.put]); (try simp only [List.setIfInBounds_toArray, List.set_cons_zero, List.set_cons_succ])
    refine Held.take (i := 2) (some 29) rfl (v := ?_) rfl (by kernel_rfl) (by kernel_rfl) (by kernel_rfl) (fun _ _ _ h => h) (Or.inl ⟨by rfl, ?_⟩) hS ?_
    rotate_left
    · intro w' hw'
      go_simp
      try with_reducible rfl
    (try dsimp only [Act.put]); (try simp only [List.setIfInBounds_toArray, List.set_cons_zero, List.set_cons_succ])
    refine Held.take_load (i := 3) (some 30) rfl 32 (.tmp 29) ⟨gx, 0, none⟩ tc _ rfl rfl (by kernel_rfl) (by kernel_rfl) (by kernel_rfl) (fun _ _ _ h => h) (by rfl) hS rfl (fun w' hw' => (PB1.out w' hw').lt) Try.underlying32 rfl IA ?_
    (try dsimp only [Act.put]); (try simp only [List.setIfInBounds_toArray, List.set_cons_zero, List.set_cons_succ])
    refine Held.take (i := 4) (some 31) rfl (v := ?_) rfl (by kernel_rfl) (by kernel_rfl) (by kernel_rfl) (fun _ _ _ h => h) (Or.inl ⟨by rfl, ?_⟩) hS ?_
    rotate_left
    · intro w' hw'
      go_simp
      try with_reducible rfl
    (try dsimp only [Act.put]); (try simp only [List.setIfInBounds_toArray, List.set_cons_zero, List.set_cons_succ])
    refine Held.take (i := 5) (some 32) rfl (v := ?_) rfl (by kernel_rfl) (by kernel_rfl) (by kernel_rfl) (fun _ _ _ h => h) (Or.inl ⟨by rfl, ?_⟩) hS ?_
    rotate_left
    · intro w' hw'
      go_simp
      try with_reducible rfl
    (try dsimp only [Act.put]); (try simp only [List.setIfInBounds_toArray, List.set_cons_zero, List.set_cons_succ])
    refine Held.take (i := 6) (some 33) rfl (v := ?_) rfl (by kernel_rfl) (by kernel_rfl) (by kernel_rfl) (fun _ _ _ h => h) (Or.inl ⟨by rfl, ?_⟩) hS ?_
    rotate_left
    · intro w' hw'
      go_simp
      try with_reducible rfl
    (try dsimp only [Act.put]); (try simp only [List.setIfInBounds_toArray, List.set_cons_zero, List.set_cons_succ])
    refine Held.take_load (i := 7) (some 34) rfl 36 (.tmp 33) ⟨gx, 131, none⟩ r.cells _ rfl rfl (by kernel_rfl) (by kernel_rfl) (by kernel_rfl) (fun _ _ _ h => h) (by rfl) hS rfl (fun w' hw' => (PB1.out w' hw').lr) Try.underlying36 rfl infoRg ?_
    (try dsimp only [Act.put]); (try simp only [List.setIfInBounds_toArray, List.set_cons_zero, List.set_cons_succ])
    refine Held.take (i := 8) (some 35) rfl (v := ?_) rfl (by kernel_rfl) (by kernel_rfl) (by kernel_rfl) (fun _ _ _ h => h) (Or.inl ⟨by rfl, ?_⟩) hS ?_
    rotate_left
    · intro w' hw'
      go_simp
      try with_reducible rfl
    (try dsimp only [Act.put]); (try simp only [List.setIfInBounds_toArray, List.set_cons_zero, List.set_cons_succ])
    refine Held.take (i := 9) (some 36) rfl (v := ?_) rfl (by kernel_rfl) (by kernel_rfl) (by kernel_rfl) (fun _ _ _ h => h) (Or.inl ⟨by rfl, ?_⟩) hS ?_
    rotate_left
    · intro w' hw'
      go_simp
      try with_reducible rfl
    (try dsimp only [Act.put]); (try simp only [List.setIfInBounds_toArray, List.set_cons_zero, List.set_cons_succ])
    refine Held.take (i := 10) (some 37) rfl (v := ?_) rfl (by kernel_rfl) (by kernel_rfl) (by kernel_rfl) (fun _ _ _ h => h) (Or.inl ⟨by rfl, ?_⟩) hS ?_
    rotate_left
    · intro w' hw'
      go_simp
      try with_reducible rfl
    (try dsimp only [Act.put]); (try simp only [List.setIfInBounds_toArray, List.set_cons_zero, List.set_cons_succ])
    refine Held.take_load (i := 11) (some 38) rfl 46 (.tmp 37) ⟨gx, 135, none⟩ (runsC rs) _ rfl rfl (by kernel_rfl) (by kernel_rfl) (by kernel_rfl) (fun _ _ _ h => h) (by rfl) hS rfl (fun w' hw' => (PB1.out w' hw').ln) Try.underlying46 rfl IR ?_
    (try dsimp only [Act.put]); (try simp only [List.setIfInBounds_toArray, List.set_cons_zero, List.set_cons_succ])
    refine Held.take (i := 12) (some 39) rfl (v := ?_) rfl (by kernel_rfl) (by kernel_rfl) (by kernel_rfl) (fun _ _ _ h => h) (Or.inl ⟨by rfl, ?_⟩) hS ?_
    rotate_left
    · intro w' hw'
      go_simp
      try with_reducible rfl
    (try dsimp only [Act.put]); (try simp only [List.setIfInBounds_toArray, List.set_cons_zero, List.set_cons_succ])
    refine wpAnyH_ready (rs := [13, 18]) (by kernel_rfl) (by simp) (AllReadyH.cons rfl (fun K hK => ?_) (AllReadyH.cons rfl (fun K hK => ?_) AllReadyH.nil))
    · go_simp
      refine (SF.out _ (HV.out.trans (hS.mono HV.out.size))).mono ?_
      rintro e vn ⟨rfl, hb⟩
      have hq := hS.trans (hb.mono hS.size)
      have HA2 := Lib.hid (HA.out.step hb)
      clear hS hb HA
      have HA := HA2
      clear HA2
      go_simp
      refine hK.out _ _ hq (fun hS => ?_)
      clear hK K hq
      rename World => v
      (try dsimp only [Act.put]); (try simp only [List.setIfInBounds_toArray, List.set_cons_zero, List.set_cons_succ])
      refine Held.take (i := 14) (some 26) rfl (v := ?_) rfl (by kernel_rfl) (by kernel_rfl) (by kernel_rfl) (fun _ _ _ h => h) (Or.inl ⟨by rfl, ?_⟩) hS ?_
      rotate_left
      · intro w' hw'
        go_simp
        try with_reducible rfl
      (try dsimp only [Act.put]); (try simp only [List.setIfInBounds_toArray, List.set_cons_zero, List.set_cons_succ])
      refine Held.take (i := 15) (some 41) rfl (v := ?_) rfl (by kernel_rfl) (by kernel_rfl) (by kernel_rfl) (fun _ _ _ h => h) (Or.inl ⟨by rfl, ?_⟩) hS ?_
      rotate_left
      · intro w' hw'
        go_simp
        try with_reducible rfl
      (try dsimp only [Act.put]); (try simp only [List.setIfInBounds_toArray, List.set_cons_zero, List.set_cons_succ])
      refine Held.take (i := 16) (some 42) rfl (v := ?_) rfl (by kernel_rfl) (by kernel_rfl) (by kernel_rfl) (fun _ _ _ h => h) (Or.inl ⟨by rfl, ?_⟩) hS ?_
      rotate_left
      · intro w' hw'
        go_simp
        try with_reducible rfl
      (try dsimp only [Act.put]); (try simp only [List.setIfInBounds_toArray, List.set_cons_zero, List.set_cons_succ])
      refine Held.take (i := 17) (some 43) rfl (v := ?_) rfl (by kernel_rfl) (by kernel_rfl) (by kernel_rfl) (fun _ _ _ h => h) (Or.inl ⟨by rfl, ?_⟩) hS ?_
      rotate_left
      · intro w' hw'
        go_simp
        try with_reducible rfl
      (try dsimp only [Act.put]); (try simp only [List.setIfInBounds_toArray, List.set_cons_zero, List.set_cons_succ])
      refine wpAnyH_ready (rs := [18]) (by kernel_rfl) (by simp) (AllReadyH.cons rfl (fun K hK => ?_) AllReadyH.nil)
      go_simp
      have ha := HA.out.alloc #[I 0, I 0, I 0, .bool false] 36
      have HGEgq := Lib.hid hS.size
      have hq := hS.alloc hS.size (.cells #[I 0, I 0, I 0, .bool false] 36)
      clear hS HA
      generalize v.heap.size = gq at ha HGEgq ⊢
      generalize World.alloc v _ = va at ha hq ⊢
      have HA := Lib.hid ha
      clear ha
      refine hK.out _ _ hq (fun hS => ?_)
      clear hK K hq
      rename World => v
      (try dsimp only [Act.put]); (try simp only [List.setIfInBounds_toArray, List.set_cons_zero, List.set_cons_succ])
      refine wpAnyH_ready (rs := [19]) (by kernel_rfl) (by simp) (AllReadyH.cons rfl (fun K hK => ?_) AllReadyH.nil)
      rw [if_pos (by rfl)]
      refine wp_store_row 36 _ _ rfl gq S.r.cells.toArray rfl rfl 36 _ (HA.out.at 0 rfl) infoRg rfl (one_rg _) ?_
      have hq := below_setRow hS (g := gq) HGEgq.out S.r.cells.toArray
      have hput := HA.out.put 0 rfl S.r.cells.toArray
      simp only [List.set_cons_succ, List.set_cons_zero] at hput
      clear hS HA
      generalize World.setRow _ gq _ = vs at hput hq ⊢
      have HA := Lib.hid hput
      clear hput
      refine hK.out _ _ hq (fun hS => ?_)
      clear hK K hq
      rename World => v
      (try simp only [List.getElem_toArray, List.getElem_cons_succ, List.getElem_cons_zero])
      (try dsimp only [Act.put]); (try simp only [List.setIfInBounds_toArray, List.set_cons_zero, List.set_cons_succ])
      refine Held.take (i := 20) (some 8) rfl (v := ?_) rfl (by kernel_rfl) (by kernel_rfl) (by kernel_rfl) (fun _ _ _ h => h) (Or.inl ⟨by rfl, ?_⟩) hS ?_
      rotate_left
      · intro w' hw'
        go_simp
        try with_reducible rfl
      (try dsimp only [Act.put]); (try simp only [List.setIfInBounds_toArray, List.set_cons_zero, List.set_cons_succ])
      refine Held.take (i := 21) (some 9) rfl (v := ?_) rfl (by kernel_rfl) (by kernel_rfl) (by kernel_rfl) (fun _ _ _ h => h) (Or.inl ⟨by rfl, ?_⟩) hS ?_
      rotate_left
      · intro w' hw'
        go_simp
        try with_reducible rfl
      (try dsimp only [Act.put]); (try simp only [List.setIfInBounds_toArray, List.set_cons_zero, List.set_cons_succ])
      refine wpAnyH_done (by kernel_rfl) ?_ _
      go_wp2_with fail
      go_meet
      case rel => exact ⟨gq, rfl, rfl, rfl, HA.out⟩
    · go_simp
      have ha := HA.out.alloc #[I 0, I 0, I 0, .bool false] 36
      have HGEgq := Lib.hid hS.size
      have hq := hS.alloc hS.size (.cells #[I 0, I 0, I 0, .bool false] 36)
      clear hS HA
      generalize v.heap.size = gq at ha HGEgq ⊢
      generalize World.alloc v _ = va at ha hq ⊢
      have HA := Lib.hid ha
      clear ha
      refine hK.out _ _ hq (fun hS => ?_)
      clear hK K hq
      rename World => v
      (try dsimp only [Act.put]); (try simp only [List.setIfInBounds_toArray, List.set_cons_zero, List.set_cons_succ])
      refine wpAnyH_ready (rs := [13]) (by kernel_rfl) (by simp) (AllReadyH.cons rfl (fun K hK => ?_) AllReadyH.nil)
      go_simp
      refine (SF.out _ (HV.out.trans (hS.mono HV.out.size))).mono ?_
      rintro e vn ⟨rfl, hb⟩
      have hq := hS.trans (hb.mono hS.size)
      have HA2 := Lib.hid (HA.out.step hb)
      clear hS hb HA
      have HA := HA2
      clear HA2
      go_simp
      refine hK.out _ _ hq (fun hS => ?_)
      clear hK K hq
      rename World => v
      (try dsimp only [Act.put]); (try simp only [List.setIfInBounds_toArray, List.set_cons_zero, List.set_cons_succ])
      refine Held.take (i := 14) (some 26) rfl (v := ?_) rfl (by kernel_rfl) (by kernel_rfl) (by kernel_rfl) (fun _ _ _ h => h) (Or.inl ⟨by rfl, ?_⟩) hS ?_
      rotate_left
      · intro w' hw'
        go_simp
        try with_reducible rfl
      (try dsimp only [Act.put]); (try simp only [List.setIfInBounds_toArray, List.set_cons_zero, List.set_cons_succ])
      refine Held.take (i := 15) (some 41) rfl (v := ?_) rfl (by kernel_rfl) (by kernel_rfl) (by kernel_rfl) (fun _ _ _ h => h) (Or.inl ⟨by rfl, ?_⟩) hS ?_
      rotate_left
      · intro w' hw'
        go_simp
        try with_reducible rfl
      (try dsimp only [Act.put]); (try simp only [List.setIfInBounds_toArray, List.set_cons_zero, List.set_cons_succ])
      refine Held.take (i := 16) (some 42) rfl (v := ?_) rfl (by kernel_rfl) (by kernel_rfl) (by kernel_rfl) (fun _ _ _ h => h) (Or.inl ⟨by rfl, ?_⟩) hS ?_
      rotate_left
      · intro w' hw'
        go_simp
        try with_reducible rfl
      (try dsimp only [Act.put]); (try simp only [List.setIfInBounds_toArray, List.set_cons_zero, List.set_cons_succ])
      refine Held.take (i := 17) (some 43) rfl (v := ?_) rfl (by kernel_rfl) (by kernel_rfl) (by kernel_rfl) (fun _ _ _ h => h) (Or.inl ⟨by rfl, ?_⟩) hS ?_
      rotate_left
      · intro w' hw'
        go_simp
        try with_reducible rfl
      (try dsimp only [Act.put]); (try simp only [List.setIfInBounds_toArray, List.set_cons_zero, List.set_cons_succ])
      refine wpAnyH_ready (rs := [19]) (by kernel_rfl) (by simp) (AllReadyH.cons rfl (fun K hK => ?_) AllReadyH.nil)
      rw [if_pos (by rfl)]
      refine wp_store_row 36 _ _ rfl gq S.r.cells.toArray rfl rfl 36 _ (HA.out.at 0 rfl) infoRg rfl (one_rg _) ?_
      have hq := below_setRow hS (g := gq) HGEgq.out S.r.cells.toArray
      have hput := HA.out.put 0 rfl S.r.cells.toArray
      simp only [List.set_cons_succ, List.set_cons_zero] at hput
      clear hS HA
      generalize World.setRow _ gq _ = vs at hput hq ⊢
      have HA := Lib.hid hput
      clear hput
      refine hK.out _ _ hq (fun hS => ?_)
      clear hK K hq
      rename World => v
      (try simp only [List.getElem_toArray, List.getElem_cons_succ, List.getElem_cons_zero])
      (try dsimp only [Act.put]); (try simp only [List.setIfInBounds_toArray, List.set_cons_zero, List.set_cons_succ])
      refine Held.take (i := 20) (some 8) rfl (v := ?_) rfl (by kernel_rfl) (by kernel_rfl) (by kernel_rfl) (fun _ _ _ h => h) (Or.inl ⟨by rfl, ?_⟩) hS ?_
      rotate_left
      · intro w' hw'
        go_simp
        try with_reducible rfl
      (try dsimp only [Act.put]); (try simp only [List.setIfInBounds_toArray, List.set_cons_zero, List.set_cons_succ])
      refine Held.take (i := 21) (some 9) rfl (v := ?_) rfl (by kernel_rfl) (by kernel_rfl) (by kernel_rfl) (fun _ _ _ h => h) (Or.inl ⟨by rfl, ?_⟩) hS ?_
      rotate_left
      · intro w' hw'
        go_simp
        try with_reducible rfl
      (try dsimp only [Act.put]); (try simp only [List.setIfInBounds_toArray, List.set_cons_zero, List.set_cons_succ])
      refine wpAnyH_done (by kernel_rfl) ?_ _
      go_wp2_with fail
      go_meet
      case rel => exact ⟨gq, rfl, rfl, rfl, HA.out⟩
  case rest =>
  obtain ⟨gq, rfl, rfl, rfl, hcut⟩ := hcut
  have H2 := Lib.hid hcut
  clear hcut H1 PB1 HV SF IR
  rename World => wx
  obtain ⟨⟨sg, s0, s1, scr⟩, st, en⟩ := S
  dsimp only at H2 NF CF ⊢
  have n3 : wx.cell? ⟨gq, 3, none⟩ = some (.bool scr) := H2.out.cell 0 3 rfl rfl
  have PB2 := Lib.hid (pb L1.out L2.out L3.out H2.out 1 rfl)
  have x3 := PB2.out.rc3
  have xc := PB2.out.cx
  have xf : wx.frozen? ⟨gx, 239, none⟩ = false := H2.out.frozen 1 239 rfl
  obtain ⟨rg, a0, a1, rcr⟩ := r
  dsimp only at x3
  have e1 : IntKind.i64.wrap (cross + 1) = cross + 1 := by rw [IntKind.wrap_i64]; omega
  clear PB2
  cases scr
  · go_upto_region 5 with fail
    clear n3 x3 xc xf e1
    have H3 := H2
    clear H2
    go_wp2_with fail
    go_loopw [10] (fun i wr => ∃ q : Nat, q ≤ 8 ∧ i = .int .i64 q ∧ Blk.Bks u0 [(gq, (Rg.cells ⟨sg, s0, s1, false⟩).toArray, 36), (gx, (pC tc ⟨rg, a0, a1, rcr⟩ (runsC (mix nf (fun i => ruAt rs i) q)) (mix cf (fun i => cnt.getD i 0) q) cross).toArray, 57)] wr) (fun i _ => 8 - (intOf i).toNat)
    case atStart => exact ⟨0, by omega, rfl, by rw [R0, C0]; exact H3.out⟩
    case round =>
      obtain ⟨q, hq, rfl, hB⟩ := hrel
      have HB := Lib.hid hB
      clear hB H3
      have M1 : Hid ((mix nf (fun i => ruAt rs i) q).length = 8) := Lib.hid (mix_len _ _ _)
      have M2 : Hid ((mix cf (fun i => cnt.getD i 0) q).length = 8) := Lib.hid (mix_len _ _ _)
      have M3 : Hid ((runsC (mix nf (fun i => ruAt rs i) q)).length = 96) := Lib.hid (by rw [runs_len, mix_len])
      by_cases hlt : q < 8
      · have hq8 : (q : Int) < 8 := by omega
        have S1 : Hid ((mix nf (fun i => ruAt rs i) q).set q (nf q) = mix nf (fun i => ruAt rs i) (q + 1)) := Lib.hid (mix_set _ _ _)
        have S2 : Hid ((mix cf (fun i => cnt.getD i 0) q).set q (cf q) = mix cf (fun i => cnt.getD i 0) (q + 1)) := Lib.hid (mix_set _ _ _)
        have S3 : Hid (cf q = cnt.getD q 0 → mix cf (fun i => cnt.getD i 0) (q + 1) = mix cf (fun i => cnt.getD i 0) q) := Lib.hid (fun h => mix_skip _ _ _ h)
        have G1 : Hid (ruAt (mix nf (fun i => ruAt rs i) q) q = ruAt rs q) := Lib.hid (by
          unfold ruAt
          rw [Int.toNat_natCast, List.getD_eq_getElem?_getD, mix_at _ _ _ hlt, if_neg (by omega)]
          rfl)
        have G2 : Hid ((mix cf (fun i => cnt.getD i 0) q)[q]? = some (cnt.getD q 0)) := Lib.hid (by rw [mix_at _ _ _ hlt, if_neg (by omega)])
        obtain ⟨cb0, cb1⟩ := CB.out q hlt
        have CFq := Lib.hid (CF.out q)
        have NFq := Lib.hid (NF.out q)
        obtain ⟨rs2, hrs2⟩ : ∃ x, mix nf (fun i => ruAt rs i) (q + 1) = x := ⟨_, rfl⟩
        obtain ⟨ct2, hct2⟩ : ∃ x, mix cf (fun i => cnt.getD i 0) (q + 1) = x := ⟨_, rfl⟩
        rw [hrs2] at S1
        rw [hct2] at S2 S3
        have HR2 := Lib.hid hrs2
        have HC2 := Lib.hid hct2
        clear hrs2 hct2
        generalize mix nf (fun i => ruAt rs i) q = rs1 at S1 G1 M1 M3 HB
        generalize mix cf (fun i => cnt.getD i 0) q = ct1 at S2 S3 G2 M2 HB
        generalize cnt.getD q 0 = k0 at *
        obtain ⟨hst, hhst⟩ : ∃ x, SetM.has st q = x := ⟨_, rfl⟩
        obtain ⟨hen, hhen⟩ : ∃ x, SetM.has en q = x := ⟨_, rfl⟩
        obtain ⟨hpr, hhpr⟩ : ∃ x, SetM.has pr q = x := ⟨_, rfl⟩
        have HA : Hid (∀ W, Calls Try.prog 14 #[.int .i64 st, .int .i64 q] W fun e w' => e = .returned (.bool hst) ∧ W = w') := Lib.hid (fun W => by rw [← hhst]; exact RefS.rhas_any _ _ W)
        have HE : Hid (∀ W, Calls Try.prog 14 #[.int .i64 en, .int .i64 q] W fun e w' => e = .returned (.bool hen) ∧ W = w') := Lib.hid (fun W => by rw [← hhen]; exact RefS.rhas_any _ _ W)
        have HP : Hid (∀ W, Calls Try.prog 14 #[.int .i64 pr, .int .i64 q] W fun e w' => e = .returned (.bool hpr) ∧ W = w') := Lib.hid (fun W => by rw [← hhpr]; exact RefS.rhas_any _ _ W)
        have CU : Hid (cueS st en pr q = ⟨hst, hen, false, false, hpr, false, false, false⟩) := Lib.hid (by unfold cueS; rw [hhst, hhen, hhpr])
        rw [CU.out] at NFq
        rw [hhst] at CFq
        clear hhst hhen hhpr CU
        go_upto_region 9 with (first | (go_at_call 14; with_reducible refine (HA.out _).mono ?_; rintro e w' ⟨rfl, rfl⟩) | (go_at_call 14; with_reducible refine (HE.out _).mono ?_; rintro e w' ⟨rfl, rfl⟩) | (go_at_call 14; with_reducible refine (HP.out _).mono ?_; rintro e w' ⟨rfl, rfl⟩) | (refine wpList_build rfl 107 [(0, .tmp 67), (1, .tmp 70), (4, .tmp 73)] rfl (Cu.cells ⟨hst, hen, false, false, hpr, false, false, false⟩).toArray _ (by rfl) (builtC _ _ _) ?_) | (refine Row.wpList_store_new rfl 107 _ _ rfl _ _ (Cu.cells ⟨hst, hen, false, false, hpr, false, false, false⟩).toArray rfl rfl rfl infoCu rfl (one_cu _) ?_))
        have hn := HB.out.alloc (Cu.cells ⟨hst, hen, false, false, hpr, false, false, false⟩).toArray 107
        generalize World.alloc wr _ = w4 at hn ⊢
        generalize wr.heap.size = gc at hn ⊢
        have H4 := Lib.hid hn
        clear hn HB HA HE HP
        have c0 : w4.cell? ⟨gc, 0, none⟩ = some (.bool hst) := H4.out.cell 0 0 rfl rfl
        have kx : w4.cell? ⟨gx, 231 + q, none⟩ = some (I k0) := (pb L1.out M3.out M2.out H4.out 2 rfl).ct q k0 G2.out
        have fx : w4.frozen? ⟨gx, 231 + q, none⟩ = false := H4.out.frozen 2 (231 + q) rfl
        have e2 : IntKind.i64.wrap (k0 + 1) = k0 + 1 := by rw [IntKind.wrap_i64]; omega
        cases hst
        · have hct : ct2 = ct1 := S3.out (by rw [CFq.out]; simp)
          subst hct
          go_upto_region 11 with fail
          clear c0 kx fx e2
          have HV := Lib.hid H4.out.bel
          have PBY := Lib.hid (pb L1.out M3.out M2.out H4.out 2 rfl)
          have LX : Hid (∀ W, Below w4.heap.size w4 W → Lies W ⟨gx, q * 13, none⟩ (ph q).cells) := Lib.hid (fun W hb => LPH.out q hlt W gx (pb L1.out M3.out M2.out (H4.out.step hb) 2 rfl).lt)
          have LY : Hid (∀ W, Below w4.heap.size w4 W → Lies W ⟨gx, 135 + q * 12, none⟩ (ruAt rs q).cells) := Lib.hid (fun W hb j v hj => by
            rw [← G1.out] at hj
            have := (pb L1.out M3.out M2.out (H4.out.step hb) 2 rfl).ln (q * 12 + j) v (runs_at M1.out hlt hj)
            rw [Addr.add_mid] at this ⊢
            rwa [Nat.add_assoc])
          have NN : Hid (nf q = stp (ph q) (ruAt rs q) ⟨false, hen, false, false, hpr, false, false, false⟩) := NFq
          have STC : Hid (∀ W, Calls Try.prog 50 #[.agg (ph q).cells.toArray, .agg (ruAt rs q).cells.toArray, .agg (Cu.cells ⟨false, hen, false, false, hpr, false, false, false⟩).toArray] W fun e w' => e = .returned (.agg (nf q).cells.toArray) ∧ Below W.heap.size W w') := Lib.hid (fun W => by rw [NN.out]; exact Ru.rstep_any _ _ _ W)
          have HRUN := Lib.hid (pC_run (tc := tc) (r := ⟨rg, a0, a1, rcr⟩) (cnt := ct2) (cross := cross) L1.out M1.out hlt (nf q))
          rw [S1.out] at HRUN
          have PL0 : Hid ((pC tc ⟨rg, a0, a1, rcr⟩ (runsC rs1) ct2 cross).toArray.size = 240) := Lib.hid (by rw [List.size_toArray]; exact pC_len L1.out M3.out M2.out)
          generalize ph q = pq0 at LX STC
          generalize ruAt rs q = uq at LY STC
          generalize nf q = nq at STC HRUN
          clear PBY NN
          refine QT.region w4.heap.size 20 (by kernel_rfl) (by kernel_rfl) ?_
          simp only [List.take_succ_cons, List.take_zero]
          repeat first
            | (refine wpQuiet_load rfl 24 _ rfl ⟨gx, q * 13, none⟩ rfl pq0.cells _ (fun w' ⟨pw, e⟩ => by rw [e]; exact LX.out _ pw.below) Try.underlying24 rfl infoP ?_
               dsimp only [Act.put]
               simp only [List.setIfInBounds_toArray, List.set_cons_zero, List.set_cons_succ])
            | (refine wpQuiet_load rfl 45 _ rfl ⟨gx, 135 + q * 12, none⟩ rfl uq.cells _ (fun w' ⟨pw, e⟩ => by rw [e]; exact LY.out _ pw.below) Try.underlying45 rfl infoRu ?_
               dsimp only [Act.put]
               simp only [List.setIfInBounds_toArray, List.set_cons_zero, List.set_cons_succ])
            | (refine wpQuiet_load rfl 107 _ rfl ⟨gc, 0, none⟩ rfl (Cu.cells ⟨false, hen, false, false, hpr, false, false, false⟩) _ (fun w' ⟨pw, e⟩ => by rw [e]; exact seg (H4.out.by pw) 0 0 rfl _ rfl) Try.underlying107 rfl infoCu ?_
               dsimp only [Act.put]
               simp only [List.setIfInBounds_toArray, List.set_cons_zero, List.set_cons_succ])
            | (quiet_step (first | (go_at_call 50; with_reducible exact QB.call_of (Nat.le_refl _) (fun b => STC.out _))))
          refine wpQuiet_nil ?_
          intro _ hw'
          obtain ⟨py, rfl⟩ := hw'
          have H6 := Lib.hid (H4.out.by py)
          generalize py.world = w6 at H6 ⊢
          simp only [List.drop_succ_cons, List.drop_zero]
          go_wp2_with (refine Ru.store_mid rfl 45 _ _ rfl gx (135 + q * 12) nq.cells.toArray rfl rfl 57 _ _ H6.out 2 rfl infoRu (by rw [PL0.out]; show 135 + q * 12 + 12 ≤ 240; omega) (one_ru _) HRUN.out ?_)
          have hput := H6.out.put 2 rfl (pC tc ⟨rg, a0, a1, rcr⟩ (runsC rs2) ct2 cross).toArray
          simp only [List.set_cons_succ, List.set_cons_zero] at hput
          generalize World.setRow w6 gx _ = w7 at hput ⊢
          have H7 := Lib.hid hput
          clear hput H6 H4 LX LY STC HRUN
          (try go_wp2)
          go_roundw
          case rel => exact ⟨q + 1, by omega, by go_num, by rw [HR2.out, HC2.out]; exact H7.out.drop⟩
          case measure => simp [intOf]; omega
        · have hct : ct1.set q (k0 + 1) = ct2 := by rw [← S2.out, CFq.out]; simp
          go_upto_region 10 with fail
          go_region
          have hput := (H4.out.set 2 (231 + q) rfl (I (k0 + 1))).drew
          rw [pC_cnt L1.out M3.out M2.out hlt, hct] at hput
          simp only [List.set_cons_succ, List.set_cons_zero] at hput
          generalize World.drew (World.setCell w4 _ _) = w5 at hput ⊢
          have H5 := Lib.hid hput
          have M22 : Hid (ct2.length = 8) := Lib.hid (by rw [← hct, List.length_set]; exact M2.out)
          clear hput kx fx H4 hct c0 e2
          go_upto_region 11 with fail
          have HV := Lib.hid H5.out.bel
          have PBY := Lib.hid (pb L1.out M3.out M22.out H5.out 2 rfl)
          have LX : Hid (∀ W, Below w5.heap.size w5 W → Lies W ⟨gx, q * 13, none⟩ (ph q).cells) := Lib.hid (fun W hb => LPH.out q hlt W gx (pb L1.out M3.out M22.out (H5.out.step hb) 2 rfl).lt)
          have LY : Hid (∀ W, Below w5.heap.size w5 W → Lies W ⟨gx, 135 + q * 12, none⟩ (ruAt rs q).cells) := Lib.hid (fun W hb j v hj => by
            rw [← G1.out] at hj
            have := (pb L1.out M3.out M22.out (H5.out.step hb) 2 rfl).ln (q * 12 + j) v (runs_at M1.out hlt hj)
            rw [Addr.add_mid] at this ⊢
            rwa [Nat.add_assoc])
          have NN : Hid (nf q = stp (ph q) (ruAt rs q) ⟨true, hen, false, false, hpr, false, false, false⟩) := NFq
          have STC : Hid (∀ W, Calls Try.prog 50 #[.agg (ph q).cells.toArray, .agg (ruAt rs q).cells.toArray, .agg (Cu.cells ⟨true, hen, false, false, hpr, false, false, false⟩).toArray] W fun e w' => e = .returned (.agg (nf q).cells.toArray) ∧ Below W.heap.size W w') := Lib.hid (fun W => by rw [NN.out]; exact Ru.rstep_any _ _ _ W)
          have HRUN := Lib.hid (pC_run (tc := tc) (r := ⟨rg, a0, a1, rcr⟩) (cnt := ct2) (cross := cross) L1.out M1.out hlt (nf q))
          rw [S1.out] at HRUN
          have PL0 : Hid ((pC tc ⟨rg, a0, a1, rcr⟩ (runsC rs1) ct2 cross).toArray.size = 240) := Lib.hid (by rw [List.size_toArray]; exact pC_len L1.out M3.out M22.out)
          generalize ph q = pq0 at LX STC
          generalize ruAt rs q = uq at LY STC
          generalize nf q = nq at STC HRUN
          clear PBY NN
          refine QT.region w5.heap.size 20 (by kernel_rfl) (by kernel_rfl) ?_
          simp only [List.take_succ_cons, List.take_zero]
          repeat first
            | (refine wpQuiet_load rfl 24 _ rfl ⟨gx, q * 13, none⟩ rfl pq0.cells _ (fun w' ⟨pw, e⟩ => by rw [e]; exact LX.out _ pw.below) Try.underlying24 rfl infoP ?_
               dsimp only [Act.put]
               simp only [List.setIfInBounds_toArray, List.set_cons_zero, List.set_cons_succ])
            | (refine wpQuiet_load rfl 45 _ rfl ⟨gx, 135 + q * 12, none⟩ rfl uq.cells _ (fun w' ⟨pw, e⟩ => by rw [e]; exact LY.out _ pw.below) Try.underlying45 rfl infoRu ?_
               dsimp only [Act.put]
               simp only [List.setIfInBounds_toArray, List.set_cons_zero, List.set_cons_succ])
            | (refine wpQuiet_load rfl 107 _ rfl ⟨gc, 0, none⟩ rfl (Cu.cells ⟨true, hen, false, false, hpr, false, false, false⟩) _ (fun w' ⟨pw, e⟩ => by rw [e]; exact seg (H5.out.by pw) 0 0 rfl _ rfl) Try.underlying107 rfl infoCu ?_
               dsimp only [Act.put]
               simp only [List.setIfInBounds_toArray, List.set_cons_zero, List.set_cons_succ])
            | (quiet_step (first | (go_at_call 50; with_reducible exact QB.call_of (Nat.le_refl _) (fun b => STC.out _))))
          refine wpQuiet_nil ?_
          intro _ hw'
          obtain ⟨py, rfl⟩ := hw'
          have H6 := Lib.hid (H5.out.by py)
          generalize py.world = w6 at H6 ⊢
          simp only [List.drop_succ_cons, List.drop_zero]
          go_wp2_with (refine Ru.store_mid rfl 45 _ _ rfl gx (135 + q * 12) nq.cells.toArray rfl rfl 57 _ _ H6.out 2 rfl infoRu (by rw [PL0.out]; show 135 + q * 12 + 12 ≤ 240; omega) (one_ru _) HRUN.out ?_)
          have hput := H6.out.put 2 rfl (pC tc ⟨rg, a0, a1, rcr⟩ (runsC rs2) ct2 cross).toArray
          simp only [List.set_cons_succ, List.set_cons_zero] at hput
          generalize World.setRow w6 gx _ = w7 at hput ⊢
          have H7 := Lib.hid hput
          clear hput H6 H5 LX LY STC HRUN
          (try go_wp2)
          go_roundw
          case rel => exact ⟨q + 1, by omega, by go_num, by rw [HR2.out, HC2.out]; exact H7.out.drop⟩
          case measure => simp [intOf]; omega
      · obtain rfl : q = 8 := by omega
        have M4 := pC_put L1.out M3.out M2.out (r := ⟨rg, a0, a1, rcr⟩) (cross := cross) ⟨sg, s0, s1, false⟩
        obtain ⟨rs1, hrs1⟩ : ∃ x, mix nf (fun i => ruAt rs i) 8 = x := ⟨_, rfl⟩
        obtain ⟨ct1, hct1⟩ : ∃ x, mix cf (fun i => cnt.getD i 0) 8 = x := ⟨_, rfl⟩
        rw [hrs1, hct1] at HB M4
        rw [hrs1] at M1 M3
        rw [hct1] at M2
        have HR8 := Lib.hid hrs1
        have HC8 := Lib.hid hct1
        clear hrs1 hct1
        have HM4 := Lib.hid M4
        clear M4
        have PL4 : Hid ((pC tc ⟨rg, a0, a1, rcr⟩ (runsC rs1) ct1 cross).toArray.size = 240) := Lib.hid (by rw [List.size_toArray]; exact pC_len L1.out M3.out M2.out)
        go_upto_region 13 with (first | (refine Row.wpList_load_g 36 _ rfl (by first | rfl | (go_simp; done) | fail) ⟨gq, 0, none⟩ rfl (Rg.cells ⟨sg, s0, s1, false⟩) _ (seg HB.out 0 0 rfl _ rfl) Try.underlying36 rfl infoRg ?_) | (refine Ru.store_mid rfl 36 _ _ rfl gx 131 (Rg.cells ⟨sg, s0, s1, false⟩).toArray rfl rfl 57 _ _ HB.out 1 rfl infoRg (by rw [PL4.out]; show 131 + 4 ≤ 240; omega) (one_rg _) HM4.out ?_))
        have hput := HB.out.put 1 rfl (pC tc ⟨sg, s0, s1, false⟩ (runsC rs1) ct1 cross).toArray
        simp only [List.set_cons_succ, List.set_cons_zero] at hput
        generalize World.setRow wr gx _ = w9 at hput ⊢
        have H9 := Lib.hid hput
        clear hput HB HM4 PL4
        go_wp2
        go_ret2
        exact ⟨rfl, (show Blk.Bks u0 [(gx, (pC tc ⟨sg, s0, s1, false⟩ (runsC (mix nf (fun i => ruAt rs i) 8)) (mix cf (fun i => cnt.getD i 0) 8) (crS cross rcr false)).toArray, 57)] w9 from by rw [HR8.out, HC8.out, show crS cross rcr false = cross from rfl]; exact H9.out.drop)⟩
  cases rcr
  rotate_left
  · go_upto_region 5 with fail
    clear n3 x3 xc xf e1
    have H3 := H2
    clear H2
    go_wp2_with fail
    go_loopw [10] (fun i wr => ∃ q : Nat, q ≤ 8 ∧ i = .int .i64 q ∧ Blk.Bks u0 [(gq, (Rg.cells ⟨sg, s0, s1, true⟩).toArray, 36), (gx, (pC tc ⟨rg, a0, a1, true⟩ (runsC (mix nf (fun i => ruAt rs i) q)) (mix cf (fun i => cnt.getD i 0) q) cross).toArray, 57)] wr) (fun i _ => 8 - (intOf i).toNat)
    case atStart => exact ⟨0, by omega, rfl, by rw [R0, C0]; exact H3.out⟩
    case round =>
      obtain ⟨q, hq, rfl, hB⟩ := hrel
      have HB := Lib.hid hB
      clear hB H3
      have M1 : Hid ((mix nf (fun i => ruAt rs i) q).length = 8) := Lib.hid (mix_len _ _ _)
      have M2 : Hid ((mix cf (fun i => cnt.getD i 0) q).length = 8) := Lib.hid (mix_len _ _ _)
      have M3 : Hid ((runsC (mix nf (fun i => ruAt rs i) q)).length = 96) := Lib.hid (by rw [runs_len, mix_len])
      by_cases hlt : q < 8
      · have hq8 : (q : Int) < 8 := by omega
        have S1 : Hid ((mix nf (fun i => ruAt rs i) q).set q (nf q) = mix nf (fun i => ruAt rs i) (q + 1)) := Lib.hid (mix_set _ _ _)
        have S2 : Hid ((mix cf (fun i => cnt.getD i 0) q).set q (cf q) = mix cf (fun i => cnt.getD i 0) (q + 1)) := Lib.hid (mix_set _ _ _)
        have S3 : Hid (cf q = cnt.getD q 0 → mix cf (fun i => cnt.getD i 0) (q + 1) = mix cf (fun i => cnt.getD i 0) q) := Lib.hid (fun h => mix_skip _ _ _ h)
        have G1 : Hid (ruAt (mix nf (fun i => ruAt rs i) q) q = ruAt rs q) := Lib.hid (by
          unfold ruAt
          rw [Int.toNat_natCast, List.getD_eq_getElem?_getD, mix_at _ _ _ hlt, if_neg (by omega)]
          rfl)
        have G2 : Hid ((mix cf (fun i => cnt.getD i 0) q)[q]? = some (cnt.getD q 0)) := Lib.hid (by rw [mix_at _ _ _ hlt, if_neg (by omega)])
        obtain ⟨cb0, cb1⟩ := CB.out q hlt
        have CFq := Lib.hid (CF.out q)
        have NFq := Lib.hid (NF.out q)
        obtain ⟨rs2, hrs2⟩ : ∃ x, mix nf (fun i => ruAt rs i) (q + 1) = x := ⟨_, rfl⟩
        obtain ⟨ct2, hct2⟩ : ∃ x, mix cf (fun i => cnt.getD i 0) (q + 1) = x := ⟨_, rfl⟩
        rw [hrs2] at S1
        rw [hct2] at S2 S3
        have HR2 := Lib.hid hrs2
        have HC2 := Lib.hid hct2
        clear hrs2 hct2
        generalize mix nf (fun i => ruAt rs i) q = rs1 at S1 G1 M1 M3 HB
        generalize mix cf (fun i => cnt.getD i 0) q = ct1 at S2 S3 G2 M2 HB
        generalize cnt.getD q 0 = k0 at *
        obtain ⟨hst, hhst⟩ : ∃ x, SetM.has st q = x := ⟨_, rfl⟩
        obtain ⟨hen, hhen⟩ : ∃ x, SetM.has en q = x := ⟨_, rfl⟩
        obtain ⟨hpr, hhpr⟩ : ∃ x, SetM.has pr q = x := ⟨_, rfl⟩
        have HA : Hid (∀ W, Calls Try.prog 14 #[.int .i64 st, .int .i64 q] W fun e w' => e = .returned (.bool hst) ∧ W = w') := Lib.hid (fun W => by rw [← hhst]; exact RefS.rhas_any _ _ W)
        have HE : Hid (∀ W, Calls Try.prog 14 #[.int .i64 en, .int .i64 q] W fun e w' => e = .returned (.bool hen) ∧ W = w') := Lib.hid (fun W => by rw [← hhen]; exact RefS.rhas_any _ _ W)
        have HP : Hid (∀ W, Calls Try.prog 14 #[.int .i64 pr, .int .i64 q] W fun e w' => e = .returned (.bool hpr) ∧ W = w') := Lib.hid (fun W => by rw [← hhpr]; exact RefS.rhas_any _ _ W)
        have CU : Hid (cueS st en pr q = ⟨hst, hen, false, false, hpr, false, false, false⟩) := Lib.hid (by unfold cueS; rw [hhst, hhen, hhpr])
        rw [CU.out] at NFq
        rw [hhst] at CFq
        clear hhst hhen hhpr CU
        go_upto_region 9 with (first | (go_at_call 14; with_reducible refine (HA.out _).mono ?_; rintro e w' ⟨rfl, rfl⟩) | (go_at_call 14; with_reducible refine (HE.out _).mono ?_; rintro e w' ⟨rfl, rfl⟩) | (go_at_call 14; with_reducible refine (HP.out _).mono ?_; rintro e w' ⟨rfl, rfl⟩) | (refine wpList_build rfl 107 [(0, .tmp 67), (1, .tmp 70), (4, .tmp 73)] rfl (Cu.cells ⟨hst, hen, false, false, hpr, false, false, false⟩).toArray _ (by rfl) (builtC _ _ _) ?_) | (refine Row.wpList_store_new rfl 107 _ _ rfl _ _ (Cu.cells ⟨hst, hen, false, false, hpr, false, false, false⟩).toArray rfl rfl rfl infoCu rfl (one_cu _) ?_))
        have hn := HB.out.alloc (Cu.cells ⟨hst, hen, false, false, hpr, false, false, false⟩).toArray 107
        generalize World.alloc wr _ = w4 at hn ⊢
        generalize wr.heap.size = gc at hn ⊢
        have H4 := Lib.hid hn
        clear hn HB HA HE HP
        have c0 : w4.cell? ⟨gc, 0, none⟩ = some (.bool hst) := H4.out.cell 0 0 rfl rfl
        have kx : w4.cell? ⟨gx, 231 + q, none⟩ = some (I k0) := (pb L1.out M3.out M2.out H4.out 2 rfl).ct q k0 G2.out
        have fx : w4.frozen? ⟨gx, 231 + q, none⟩ = false := H4.out.frozen 2 (231 + q) rfl
        have e2 : IntKind.i64.wrap (k0 + 1) = k0 + 1 := by rw [IntKind.wrap_i64]; omega
        cases hst
        · have hct : ct2 = ct1 := S3.out (by rw [CFq.out]; simp)
          subst hct
          go_upto_region 11 with fail
          clear c0 kx fx e2
          have HV := Lib.hid H4.out.bel
          have PBY := Lib.hid (pb L1.out M3.out M2.out H4.out 2 rfl)
          have LX : Hid (∀ W, Below w4.heap.size w4 W → Lies W ⟨gx, q * 13, none⟩ (ph q).cells) := Lib.hid (fun W hb => LPH.out q hlt W gx (pb L1.out M3.out M2.out (H4.out.step hb) 2 rfl).lt)
          have LY : Hid (∀ W, Below w4.heap.size w4 W → Lies W ⟨gx, 135 + q * 12, none⟩ (ruAt rs q).cells) := Lib.hid (fun W hb j v hj => by
            rw [← G1.out] at hj
            have := (pb L1.out M3.out M2.out (H4.out.step hb) 2 rfl).ln (q * 12 + j) v (runs_at M1.out hlt hj)
            rw [Addr.add_mid] at this ⊢
            rwa [Nat.add_assoc])
          have NN : Hid (nf q = stp (ph q) (ruAt rs q) ⟨false, hen, false, false, hpr, false, false, false⟩) := NFq
          have STC : Hid (∀ W, Calls Try.prog 50 #[.agg (ph q).cells.toArray, .agg (ruAt rs q).cells.toArray, .agg (Cu.cells ⟨false, hen, false, false, hpr, false, false, false⟩).toArray] W fun e w' => e = .returned (.agg (nf q).cells.toArray) ∧ Below W.heap.size W w') := Lib.hid (fun W => by rw [NN.out]; exact Ru.rstep_any _ _ _ W)
          have HRUN := Lib.hid (pC_run (tc := tc) (r := ⟨rg, a0, a1, true⟩) (cnt := ct2) (cross := cross) L1.out M1.out hlt (nf q))
          rw [S1.out] at HRUN
          have PL0 : Hid ((pC tc ⟨rg, a0, a1, true⟩ (runsC rs1) ct2 cross).toArray.size = 240) := Lib.hid (by rw [List.size_toArray]; exact pC_len L1.out M3.out M2.out)
          generalize ph q = pq0 at LX STC
          generalize ruAt rs q = uq at LY STC
          generalize nf q = nq at STC HRUN
          clear PBY NN
          refine QT.region w4.heap.size 20 (by kernel_rfl) (by kernel_rfl) ?_
          simp only [List.take_succ_cons, List.take_zero]
          repeat first
            | (refine wpQuiet_load rfl 24 _ rfl ⟨gx, q * 13, none⟩ rfl pq0.cells _ (fun w' ⟨pw, e⟩ => by rw [e]; exact LX.out _ pw.below) Try.underlying24 rfl infoP ?_
               dsimp only [Act.put]
               simp only [List.setIfInBounds_toArray, List.set_cons_zero, List.set_cons_succ])
            | (refine wpQuiet_load rfl 45 _ rfl ⟨gx, 135 + q * 12, none⟩ rfl uq.cells _ (fun w' ⟨pw, e⟩ => by rw [e]; exact LY.out _ pw.below) Try.underlying45 rfl infoRu ?_
               dsimp only [Act.put]
               simp only [List.setIfInBounds_toArray, List.set_cons_zero, List.set_cons_succ])
            | (refine wpQuiet_load rfl 107 _ rfl ⟨gc, 0, none⟩ rfl (Cu.cells ⟨false, hen, false, false, hpr, false, false, false⟩) _ (fun w' ⟨pw, e⟩ => by rw [e]; exact seg (H4.out.by pw) 0 0 rfl _ rfl) Try.underlying107 rfl infoCu ?_
               dsimp only [Act.put]
               simp only [List.setIfInBounds_toArray, List.set_cons_zero, List.set_cons_succ])
            | (quiet_step (first | (go_at_call 50; with_reducible exact QB.call_of (Nat.le_refl _) (fun b => STC.out _))))
          refine wpQuiet_nil ?_
          intro _ hw'
          obtain ⟨py, rfl⟩ := hw'
          have H6 := Lib.hid (H4.out.by py)
          generalize py.world = w6 at H6 ⊢
          simp only [List.drop_succ_cons, List.drop_zero]
          go_wp2_with (refine Ru.store_mid rfl 45 _ _ rfl gx (135 + q * 12) nq.cells.toArray rfl rfl 57 _ _ H6.out 2 rfl infoRu (by rw [PL0.out]; show 135 + q * 12 + 12 ≤ 240; omega) (one_ru _) HRUN.out ?_)
          have hput := H6.out.put 2 rfl (pC tc ⟨rg, a0, a1, true⟩ (runsC rs2) ct2 cross).toArray
          simp only [List.set_cons_succ, List.set_cons_zero] at hput
          generalize World.setRow w6 gx _ = w7 at hput ⊢
          have H7 := Lib.hid hput
          clear hput H6 H4 LX LY STC HRUN
          (try go_wp2)
          go_roundw
          case rel => exact ⟨q + 1, by omega, by go_num, by rw [HR2.out, HC2.out]; exact H7.out.drop⟩
          case measure => simp [intOf]; omega
        · have hct : ct1.set q (k0 + 1) = ct2 := by rw [← S2.out, CFq.out]; simp
          go_upto_region 10 with fail
          go_region
          have hput := (H4.out.set 2 (231 + q) rfl (I (k0 + 1))).drew
          rw [pC_cnt L1.out M3.out M2.out hlt, hct] at hput
          simp only [List.set_cons_succ, List.set_cons_zero] at hput
          generalize World.drew (World.setCell w4 _ _) = w5 at hput ⊢
          have H5 := Lib.hid hput
          have M22 : Hid (ct2.length = 8) := Lib.hid (by rw [← hct, List.length_set]; exact M2.out)
          clear hput kx fx H4 hct c0 e2
          go_upto_region 11 with fail
          have HV := Lib.hid H5.out.bel
          have PBY := Lib.hid (pb L1.out M3.out M22.out H5.out 2 rfl)
          have LX : Hid (∀ W, Below w5.heap.size w5 W → Lies W ⟨gx, q * 13, none⟩ (ph q).cells) := Lib.hid (fun W hb => LPH.out q hlt W gx (pb L1.out M3.out M22.out (H5.out.step hb) 2 rfl).lt)
          have LY : Hid (∀ W, Below w5.heap.size w5 W → Lies W ⟨gx, 135 + q * 12, none⟩ (ruAt rs q).cells) := Lib.hid (fun W hb j v hj => by
            rw [← G1.out] at hj
            have := (pb L1.out M3.out M22.out (H5.out.step hb) 2 rfl).ln (q * 12 + j) v (runs_at M1.out hlt hj)
            rw [Addr.add_mid] at this ⊢
            rwa [Nat.add_assoc])
          have NN : Hid (nf q = stp (ph q) (ruAt rs q) ⟨true, hen, false, false, hpr, false, false, false⟩) := NFq
          have STC : Hid (∀ W, Calls Try.prog 50 #[.agg (ph q).cells.toArray, .agg (ruAt rs q).cells.toArray, .agg (Cu.cells ⟨true, hen, false, false, hpr, false, false, false⟩).toArray] W fun e w' => e = .returned (.agg (nf q).cells.toArray) ∧ Below W.heap.size W w') := Lib.hid (fun W => by rw [NN.out]; exact Ru.rstep_any _ _ _ W)
          have HRUN := Lib.hid (pC_run (tc := tc) (r := ⟨rg, a0, a1, true⟩) (cnt := ct2) (cross := cross) L1.out M1.out hlt (nf q))
          rw [S1.out] at HRUN
          have PL0 : Hid ((pC tc ⟨rg, a0, a1, true⟩ (runsC rs1) ct2 cross).toArray.size = 240) := Lib.hid (by rw [List.size_toArray]; exact pC_len L1.out M3.out M22.out)
          generalize ph q = pq0 at LX STC
          generalize ruAt rs q = uq at LY STC
          generalize nf q = nq at STC HRUN
          clear PBY NN
          refine QT.region w5.heap.size 20 (by kernel_rfl) (by kernel_rfl) ?_
          simp only [List.take_succ_cons, List.take_zero]
          repeat first
            | (refine wpQuiet_load rfl 24 _ rfl ⟨gx, q * 13, none⟩ rfl pq0.cells _ (fun w' ⟨pw, e⟩ => by rw [e]; exact LX.out _ pw.below) Try.underlying24 rfl infoP ?_
               dsimp only [Act.put]
               simp only [List.setIfInBounds_toArray, List.set_cons_zero, List.set_cons_succ])
            | (refine wpQuiet_load rfl 45 _ rfl ⟨gx, 135 + q * 12, none⟩ rfl uq.cells _ (fun w' ⟨pw, e⟩ => by rw [e]; exact LY.out _ pw.below) Try.underlying45 rfl infoRu ?_
               dsimp only [Act.put]
               simp only [List.setIfInBounds_toArray, List.set_cons_zero, List.set_cons_succ])
            | (refine wpQuiet_load rfl 107 _ rfl ⟨gc, 0, none⟩ rfl (Cu.cells ⟨true, hen, false, false, hpr, false, false, false⟩) _ (fun w' ⟨pw, e⟩ => by rw [e]; exact seg (H5.out.by pw) 0 0 rfl _ rfl) Try.underlying107 rfl infoCu ?_
               dsimp only [Act.put]
               simp only [List.setIfInBounds_toArray, List.set_cons_zero, List.set_cons_succ])
            | (quiet_step (first | (go_at_call 50; with_reducible exact QB.call_of (Nat.le_refl _) (fun b => STC.out _))))
          refine wpQuiet_nil ?_
          intro _ hw'
          obtain ⟨py, rfl⟩ := hw'
          have H6 := Lib.hid (H5.out.by py)
          generalize py.world = w6 at H6 ⊢
          simp only [List.drop_succ_cons, List.drop_zero]
          go_wp2_with (refine Ru.store_mid rfl 45 _ _ rfl gx (135 + q * 12) nq.cells.toArray rfl rfl 57 _ _ H6.out 2 rfl infoRu (by rw [PL0.out]; show 135 + q * 12 + 12 ≤ 240; omega) (one_ru _) HRUN.out ?_)
          have hput := H6.out.put 2 rfl (pC tc ⟨rg, a0, a1, true⟩ (runsC rs2) ct2 cross).toArray
          simp only [List.set_cons_succ, List.set_cons_zero] at hput
          generalize World.setRow w6 gx _ = w7 at hput ⊢
          have H7 := Lib.hid hput
          clear hput H6 H5 LX LY STC HRUN
          (try go_wp2)
          go_roundw
          case rel => exact ⟨q + 1, by omega, by go_num, by rw [HR2.out, HC2.out]; exact H7.out.drop⟩
          case measure => simp [intOf]; omega
      · obtain rfl : q = 8 := by omega
        have M4 := pC_put L1.out M3.out M2.out (r := ⟨rg, a0, a1, true⟩) (cross := cross) ⟨sg, s0, s1, true⟩
        obtain ⟨rs1, hrs1⟩ : ∃ x, mix nf (fun i => ruAt rs i) 8 = x := ⟨_, rfl⟩
        obtain ⟨ct1, hct1⟩ : ∃ x, mix cf (fun i => cnt.getD i 0) 8 = x := ⟨_, rfl⟩
        rw [hrs1, hct1] at HB M4
        rw [hrs1] at M1 M3
        rw [hct1] at M2
        have HR8 := Lib.hid hrs1
        have HC8 := Lib.hid hct1
        clear hrs1 hct1
        have HM4 := Lib.hid M4
        clear M4
        have PL4 : Hid ((pC tc ⟨rg, a0, a1, true⟩ (runsC rs1) ct1 cross).toArray.size = 240) := Lib.hid (by rw [List.size_toArray]; exact pC_len L1.out M3.out M2.out)
        go_upto_region 13 with (first | (refine Row.wpList_load_g 36 _ rfl (by first | rfl | (go_simp; done) | fail) ⟨gq, 0, none⟩ rfl (Rg.cells ⟨sg, s0, s1, true⟩) _ (seg HB.out 0 0 rfl _ rfl) Try.underlying36 rfl infoRg ?_) | (refine Ru.store_mid rfl 36 _ _ rfl gx 131 (Rg.cells ⟨sg, s0, s1, true⟩).toArray rfl rfl 57 _ _ HB.out 1 rfl infoRg (by rw [PL4.out]; show 131 + 4 ≤ 240; omega) (one_rg _) HM4.out ?_))
        have hput := HB.out.put 1 rfl (pC tc ⟨sg, s0, s1, true⟩ (runsC rs1) ct1 cross).toArray
        simp only [List.set_cons_succ, List.set_cons_zero] at hput
        generalize World.setRow wr gx _ = w9 at hput ⊢
        have H9 := Lib.hid hput
        clear hput HB HM4 PL4
        go_wp2
        go_ret2
        exact ⟨rfl, (show Blk.Bks u0 [(gx, (pC tc ⟨sg, s0, s1, true⟩ (runsC (mix nf (fun i => ruAt rs i) 8)) (mix cf (fun i => cnt.getD i 0) 8) (crS cross true true)).toArray, 57)] w9 from by rw [HR8.out, HC8.out, show crS cross true true = cross from rfl]; exact H9.out.drop)⟩
  go_upto_region 5 with fail
  have hput := H2.out.set 1 239 rfl (I (cross + 1))
  rw [pC_cross L1.out L2.out L3.out] at hput
  simp only [List.set_cons_succ, List.set_cons_zero] at hput
  generalize World.setCell wx _ _ = wy at hput ⊢
  have H3 := Lib.hid hput
  clear hput n3 x3 xc xf e1 H2
  go_wp2_with fail
  go_loopw [10] (fun i wr => ∃ q : Nat, q ≤ 8 ∧ i = .int .i64 q ∧ Blk.Bks u0 [(gq, (Rg.cells ⟨sg, s0, s1, true⟩).toArray, 36), (gx, (pC tc ⟨rg, a0, a1, false⟩ (runsC (mix nf (fun i => ruAt rs i) q)) (mix cf (fun i => cnt.getD i 0) q) (cross + 1)).toArray, 57)] wr) (fun i _ => 8 - (intOf i).toNat)
  case atStart => exact ⟨0, by omega, rfl, by rw [R0, C0]; exact H3.out⟩
  case round =>
    obtain ⟨q, hq, rfl, hB⟩ := hrel
    have HB := Lib.hid hB
    clear hB H3
    have M1 : Hid ((mix nf (fun i => ruAt rs i) q).length = 8) := Lib.hid (mix_len _ _ _)
    have M2 : Hid ((mix cf (fun i => cnt.getD i 0) q).length = 8) := Lib.hid (mix_len _ _ _)
    have M3 : Hid ((runsC (mix nf (fun i => ruAt rs i) q)).length = 96) := Lib.hid (by rw [runs_len, mix_len])
    by_cases hlt : q < 8
    · have hq8 : (q : Int) < 8 := by omega
      have S1 : Hid ((mix nf (fun i => ruAt rs i) q).set q (nf q) = mix nf (fun i => ruAt rs i) (q + 1)) := Lib.hid (mix_set _ _ _)
      have S2 : Hid ((mix cf (fun i => cnt.getD i 0) q).set q (cf q) = mix cf (fun i => cnt.getD i 0) (q + 1)) := Lib.hid (mix_set _ _ _)
      have S3 : Hid (cf q = cnt.getD q 0 → mix cf (fun i => cnt.getD i 0) (q + 1) = mix cf (fun i => cnt.getD i 0) q) := Lib.hid (fun h => mix_skip _ _ _ h)
      have G1 : Hid (ruAt (mix nf (fun i => ruAt rs i) q) q = ruAt rs q) := Lib.hid (by
        unfold ruAt
        rw [Int.toNat_natCast, List.getD_eq_getElem?_getD, mix_at _ _ _ hlt, if_neg (by omega)]
        rfl)
      have G2 : Hid ((mix cf (fun i => cnt.getD i 0) q)[q]? = some (cnt.getD q 0)) := Lib.hid (by rw [mix_at _ _ _ hlt, if_neg (by omega)])
      obtain ⟨cb0, cb1⟩ := CB.out q hlt
      have CFq := Lib.hid (CF.out q)
      have NFq := Lib.hid (NF.out q)
      obtain ⟨rs2, hrs2⟩ : ∃ x, mix nf (fun i => ruAt rs i) (q + 1) = x := ⟨_, rfl⟩
      obtain ⟨ct2, hct2⟩ : ∃ x, mix cf (fun i => cnt.getD i 0) (q + 1) = x := ⟨_, rfl⟩
      rw [hrs2] at S1
      rw [hct2] at S2 S3
      have HR2 := Lib.hid hrs2
      have HC2 := Lib.hid hct2
      clear hrs2 hct2
      generalize mix nf (fun i => ruAt rs i) q = rs1 at S1 G1 M1 M3 HB
      generalize mix cf (fun i => cnt.getD i 0) q = ct1 at S2 S3 G2 M2 HB
      generalize cnt.getD q 0 = k0 at *
      obtain ⟨hst, hhst⟩ : ∃ x, SetM.has st q = x := ⟨_, rfl⟩
      obtain ⟨hen, hhen⟩ : ∃ x, SetM.has en q = x := ⟨_, rfl⟩
      obtain ⟨hpr, hhpr⟩ : ∃ x, SetM.has pr q = x := ⟨_, rfl⟩
      have HA : Hid (∀ W, Calls Try.prog 14 #[.int .i64 st, .int .i64 q] W fun e w' => e = .returned (.bool hst) ∧ W = w') := Lib.hid (fun W => by rw [← hhst]; exact RefS.rhas_any _ _ W)
      have HE : Hid (∀ W, Calls Try.prog 14 #[.int .i64 en, .int .i64 q] W fun e w' => e = .returned (.bool hen) ∧ W = w') := Lib.hid (fun W => by rw [← hhen]; exact RefS.rhas_any _ _ W)
      have HP : Hid (∀ W, Calls Try.prog 14 #[.int .i64 pr, .int .i64 q] W fun e w' => e = .returned (.bool hpr) ∧ W = w') := Lib.hid (fun W => by rw [← hhpr]; exact RefS.rhas_any _ _ W)
      have CU : Hid (cueS st en pr q = ⟨hst, hen, false, false, hpr, false, false, false⟩) := Lib.hid (by unfold cueS; rw [hhst, hhen, hhpr])
      rw [CU.out] at NFq
      rw [hhst] at CFq
      clear hhst hhen hhpr CU
      go_upto_region 9 with (first | (go_at_call 14; with_reducible refine (HA.out _).mono ?_; rintro e w' ⟨rfl, rfl⟩) | (go_at_call 14; with_reducible refine (HE.out _).mono ?_; rintro e w' ⟨rfl, rfl⟩) | (go_at_call 14; with_reducible refine (HP.out _).mono ?_; rintro e w' ⟨rfl, rfl⟩) | (refine wpList_build rfl 107 [(0, .tmp 67), (1, .tmp 70), (4, .tmp 73)] rfl (Cu.cells ⟨hst, hen, false, false, hpr, false, false, false⟩).toArray _ (by rfl) (builtC _ _ _) ?_) | (refine Row.wpList_store_new rfl 107 _ _ rfl _ _ (Cu.cells ⟨hst, hen, false, false, hpr, false, false, false⟩).toArray rfl rfl rfl infoCu rfl (one_cu _) ?_))
      have hn := HB.out.alloc (Cu.cells ⟨hst, hen, false, false, hpr, false, false, false⟩).toArray 107
      generalize World.alloc wr _ = w4 at hn ⊢
      generalize wr.heap.size = gc at hn ⊢
      have H4 := Lib.hid hn
      clear hn HB HA HE HP
      have c0 : w4.cell? ⟨gc, 0, none⟩ = some (.bool hst) := H4.out.cell 0 0 rfl rfl
      have kx : w4.cell? ⟨gx, 231 + q, none⟩ = some (I k0) := (pb L1.out M3.out M2.out H4.out 2 rfl).ct q k0 G2.out
      have fx : w4.frozen? ⟨gx, 231 + q, none⟩ = false := H4.out.frozen 2 (231 + q) rfl
      have e2 : IntKind.i64.wrap (k0 + 1) = k0 + 1 := by rw [IntKind.wrap_i64]; omega
      cases hst
      · have hct : ct2 = ct1 := S3.out (by rw [CFq.out]; simp)
        subst hct
        go_upto_region 11 with fail
        clear c0 kx fx e2
        have HV := Lib.hid H4.out.bel
        have PBY := Lib.hid (pb L1.out M3.out M2.out H4.out 2 rfl)
        have LX : Hid (∀ W, Below w4.heap.size w4 W → Lies W ⟨gx, q * 13, none⟩ (ph q).cells) := Lib.hid (fun W hb => LPH.out q hlt W gx (pb L1.out M3.out M2.out (H4.out.step hb) 2 rfl).lt)
        have LY : Hid (∀ W, Below w4.heap.size w4 W → Lies W ⟨gx, 135 + q * 12, none⟩ (ruAt rs q).cells) := Lib.hid (fun W hb j v hj => by
          rw [← G1.out] at hj
          have := (pb L1.out M3.out M2.out (H4.out.step hb) 2 rfl).ln (q * 12 + j) v (runs_at M1.out hlt hj)
          rw [Addr.add_mid] at this ⊢
          rwa [Nat.add_assoc])
        have NN : Hid (nf q = stp (ph q) (ruAt rs q) ⟨false, hen, false, false, hpr, false, false, false⟩) := NFq
        have STC : Hid (∀ W, Calls Try.prog 50 #[.agg (ph q).cells.toArray, .agg (ruAt rs q).cells.toArray, .agg (Cu.cells ⟨false, hen, false, false, hpr, false, false, false⟩).toArray] W fun e w' => e = .returned (.agg (nf q).cells.toArray) ∧ Below W.heap.size W w') := Lib.hid (fun W => by rw [NN.out]; exact Ru.rstep_any _ _ _ W)
        have HRUN := Lib.hid (pC_run (tc := tc) (r := ⟨rg, a0, a1, false⟩) (cnt := ct2) (cross := (cross + 1)) L1.out M1.out hlt (nf q))
        rw [S1.out] at HRUN
        have PL0 : Hid ((pC tc ⟨rg, a0, a1, false⟩ (runsC rs1) ct2 (cross + 1)).toArray.size = 240) := Lib.hid (by rw [List.size_toArray]; exact pC_len L1.out M3.out M2.out)
        generalize ph q = pq0 at LX STC
        generalize ruAt rs q = uq at LY STC
        generalize nf q = nq at STC HRUN
        clear PBY NN
        refine QT.region w4.heap.size 20 (by kernel_rfl) (by kernel_rfl) ?_
        simp only [List.take_succ_cons, List.take_zero]
        repeat first
          | (refine wpQuiet_load rfl 24 _ rfl ⟨gx, q * 13, none⟩ rfl pq0.cells _ (fun w' ⟨pw, e⟩ => by rw [e]; exact LX.out _ pw.below) Try.underlying24 rfl infoP ?_
             dsimp only [Act.put]
             simp only [List.setIfInBounds_toArray, List.set_cons_zero, List.set_cons_succ])
          | (refine wpQuiet_load rfl 45 _ rfl ⟨gx, 135 + q * 12, none⟩ rfl uq.cells _ (fun w' ⟨pw, e⟩ => by rw [e]; exact LY.out _ pw.below) Try.underlying45 rfl infoRu ?_
             dsimp only [Act.put]
             simp only [List.setIfInBounds_toArray, List.set_cons_zero, List.set_cons_succ])
          | (refine wpQuiet_load rfl 107 _ rfl ⟨gc, 0, none⟩ rfl (Cu.cells ⟨false, hen, false, false, hpr, false, false, false⟩) _ (fun w' ⟨pw, e⟩ => by rw [e]; exact seg (H4.out.by pw) 0 0 rfl _ rfl) Try.underlying107 rfl infoCu ?_
             dsimp only [Act.put]
             simp only [List.setIfInBounds_toArray, List.set_cons_zero, List.set_cons_succ])
          | (quiet_step (first | (go_at_call 50; with_reducible exact QB.call_of (Nat.le_refl _) (fun b => STC.out _))))
        refine wpQuiet_nil ?_
        intro _ hw'
        obtain ⟨py, rfl⟩ := hw'
        have H6 := Lib.hid (H4.out.by py)
        generalize py.world = w6 at H6 ⊢
        simp only [List.drop_succ_cons, List.drop_zero]
        go_wp2_with (refine Ru.store_mid rfl 45 _ _ rfl gx (135 + q * 12) nq.cells.toArray rfl rfl 57 _ _ H6.out 2 rfl infoRu (by rw [PL0.out]; show 135 + q * 12 + 12 ≤ 240; omega) (one_ru _) HRUN.out ?_)
        have hput := H6.out.put 2 rfl (pC tc ⟨rg, a0, a1, false⟩ (runsC rs2) ct2 (cross + 1)).toArray
        simp only [List.set_cons_succ, List.set_cons_zero] at hput
        generalize World.setRow w6 gx _ = w7 at hput ⊢
        have H7 := Lib.hid hput
        clear hput H6 H4 LX LY STC HRUN
        (try go_wp2)
        go_roundw
        case rel => exact ⟨q + 1, by omega, by go_num, by rw [HR2.out, HC2.out]; exact H7.out.drop⟩
        case measure => simp [intOf]; omega
      · have hct : ct1.set q (k0 + 1) = ct2 := by rw [← S2.out, CFq.out]; simp
        go_upto_region 10 with fail
        go_region
        have hput := (H4.out.set 2 (231 + q) rfl (I (k0 + 1))).drew
        rw [pC_cnt L1.out M3.out M2.out hlt, hct] at hput
        simp only [List.set_cons_succ, List.set_cons_zero] at hput
        generalize World.drew (World.setCell w4 _ _) = w5 at hput ⊢
        have H5 := Lib.hid hput
        have M22 : Hid (ct2.length = 8) := Lib.hid (by rw [← hct, List.length_set]; exact M2.out)
        clear hput kx fx H4 hct c0 e2
        go_upto_region 11 with fail
        have HV := Lib.hid H5.out.bel
        have PBY := Lib.hid (pb L1.out M3.out M22.out H5.out 2 rfl)
        have LX : Hid (∀ W, Below w5.heap.size w5 W → Lies W ⟨gx, q * 13, none⟩ (ph q).cells) := Lib.hid (fun W hb => LPH.out q hlt W gx (pb L1.out M3.out M22.out (H5.out.step hb) 2 rfl).lt)
        have LY : Hid (∀ W, Below w5.heap.size w5 W → Lies W ⟨gx, 135 + q * 12, none⟩ (ruAt rs q).cells) := Lib.hid (fun W hb j v hj => by
          rw [← G1.out] at hj
          have := (pb L1.out M3.out M22.out (H5.out.step hb) 2 rfl).ln (q * 12 + j) v (runs_at M1.out hlt hj)
          rw [Addr.add_mid] at this ⊢
          rwa [Nat.add_assoc])
        have NN : Hid (nf q = stp (ph q) (ruAt rs q) ⟨true, hen, false, false, hpr, false, false, false⟩) := NFq
        have STC : Hid (∀ W, Calls Try.prog 50 #[.agg (ph q).cells.toArray, .agg (ruAt rs q).cells.toArray, .agg (Cu.cells ⟨true, hen, false, false, hpr, false, false, false⟩).toArray] W fun e w' => e = .returned (.agg (nf q).cells.toArray) ∧ Below W.heap.size W w') := Lib.hid (fun W => by rw [NN.out]; exact Ru.rstep_any _ _ _ W)
        have HRUN := Lib.hid (pC_run (tc := tc) (r := ⟨rg, a0, a1, false⟩) (cnt := ct2) (cross := (cross + 1)) L1.out M1.out hlt (nf q))
        rw [S1.out] at HRUN
        have PL0 : Hid ((pC tc ⟨rg, a0, a1, false⟩ (runsC rs1) ct2 (cross + 1)).toArray.size = 240) := Lib.hid (by rw [List.size_toArray]; exact pC_len L1.out M3.out M22.out)
        generalize ph q = pq0 at LX STC
        generalize ruAt rs q = uq at LY STC
        generalize nf q = nq at STC HRUN
        clear PBY NN
        refine QT.region w5.heap.size 20 (by kernel_rfl) (by kernel_rfl) ?_
        simp only [List.take_succ_cons, List.take_zero]
        repeat first
          | (refine wpQuiet_load rfl 24 _ rfl ⟨gx, q * 13, none⟩ rfl pq0.cells _ (fun w' ⟨pw, e⟩ => by rw [e]; exact LX.out _ pw.below) Try.underlying24 rfl infoP ?_
             dsimp only [Act.put]
             simp only [List.setIfInBounds_toArray, List.set_cons_zero, List.set_cons_succ])
          | (refine wpQuiet_load rfl 45 _ rfl ⟨gx, 135 + q * 12, none⟩ rfl uq.cells _ (fun w' ⟨pw, e⟩ => by rw [e]; exact LY.out _ pw.below) Try.underlying45 rfl infoRu ?_
             dsimp only [Act.put]
             simp only [List.setIfInBounds_toArray, List.set_cons_zero, List.set_cons_succ])
          | (refine wpQuiet_load rfl 107 _ rfl ⟨gc, 0, none⟩ rfl (Cu.cells ⟨true, hen, false, false, hpr, false, false, false⟩) _ (fun w' ⟨pw, e⟩ => by rw [e]; exact seg (H5.out.by pw) 0 0 rfl _ rfl) Try.underlying107 rfl infoCu ?_
             dsimp only [Act.put]
             simp only [List.setIfInBounds_toArray, List.set_cons_zero, List.set_cons_succ])
          | (quiet_step (first | (go_at_call 50; with_reducible exact QB.call_of (Nat.le_refl _) (fun b => STC.out _))))
        refine wpQuiet_nil ?_
        intro _ hw'
        obtain ⟨py, rfl⟩ := hw'
        have H6 := Lib.hid (H5.out.by py)
        generalize py.world = w6 at H6 ⊢
        simp only [List.drop_succ_cons, List.drop_zero]
        go_wp2_with (refine Ru.store_mid rfl 45 _ _ rfl gx (135 + q * 12) nq.cells.toArray rfl rfl 57 _ _ H6.out 2 rfl infoRu (by rw [PL0.out]; show 135 + q * 12 + 12 ≤ 240; omega) (one_ru _) HRUN.out ?_)
        have hput := H6.out.put 2 rfl (pC tc ⟨rg, a0, a1, false⟩ (runsC rs2) ct2 (cross + 1)).toArray
        simp only [List.set_cons_succ, List.set_cons_zero] at hput
        generalize World.setRow w6 gx _ = w7 at hput ⊢
        have H7 := Lib.hid hput
        clear hput H6 H5 LX LY STC HRUN
        (try go_wp2)
        go_roundw
        case rel => exact ⟨q + 1, by omega, by go_num, by rw [HR2.out, HC2.out]; exact H7.out.drop⟩
        case measure => simp [intOf]; omega
    · obtain rfl : q = 8 := by omega
      have M4 := pC_put L1.out M3.out M2.out (r := ⟨rg, a0, a1, false⟩) (cross := (cross + 1)) ⟨sg, s0, s1, true⟩
      obtain ⟨rs1, hrs1⟩ : ∃ x, mix nf (fun i => ruAt rs i) 8 = x := ⟨_, rfl⟩
      obtain ⟨ct1, hct1⟩ : ∃ x, mix cf (fun i => cnt.getD i 0) 8 = x := ⟨_, rfl⟩
      rw [hrs1, hct1] at HB M4
      rw [hrs1] at M1 M3
      rw [hct1] at M2
      have HR8 := Lib.hid hrs1
      have HC8 := Lib.hid hct1
      clear hrs1 hct1
      have HM4 := Lib.hid M4
      clear M4
      have PL4 : Hid ((pC tc ⟨rg, a0, a1, false⟩ (runsC rs1) ct1 (cross + 1)).toArray.size = 240) := Lib.hid (by rw [List.size_toArray]; exact pC_len L1.out M3.out M2.out)
      go_upto_region 13 with (first | (refine Row.wpList_load_g 36 _ rfl (by first | rfl | (go_simp; done) | fail) ⟨gq, 0, none⟩ rfl (Rg.cells ⟨sg, s0, s1, true⟩) _ (seg HB.out 0 0 rfl _ rfl) Try.underlying36 rfl infoRg ?_) | (refine Ru.store_mid rfl 36 _ _ rfl gx 131 (Rg.cells ⟨sg, s0, s1, true⟩).toArray rfl rfl 57 _ _ HB.out 1 rfl infoRg (by rw [PL4.out]; show 131 + 4 ≤ 240; omega) (one_rg _) HM4.out ?_))
      have hput := HB.out.put 1 rfl (pC tc ⟨sg, s0, s1, true⟩ (runsC rs1) ct1 (cross + 1)).toArray
      simp only [List.set_cons_succ, List.set_cons_zero] at hput
      generalize World.setRow wr gx _ = w9 at hput ⊢
      have H9 := Lib.hid hput
      clear hput HB HM4 PL4
      go_wp2
      go_ret2
      exact ⟨rfl, (show Blk.Bks u0 [(gx, (pC tc ⟨sg, s0, s1, true⟩ (runsC (mix nf (fun i => ruAt rs i) 8)) (mix cf (fun i => cnt.getD i 0) 8) (crS cross false true)).toArray, 57)] w9 from by rw [HR8.out, HC8.out, show crS cross false true = (cross + 1) from rfl]; exact H9.out.drop)⟩
end Rg
namespace Rg
open Go Tab PlanM Ru
open Go.ChangeShapes Go.WideShapes Go.ChangeAt Go.RowKit
open Clear (phAt)
open PlaceM
open RefC OnS ServeS PassS FreeS BdM BdQ
structure Sv (T : Tab) (gk kr ki : Nat) (q F : Int) (n : Nat) (r : Rg) (rs : List Ru) (cnt : List Int) (cross since : Int) : Prop where
  I : Iw T r rs
  c8 : cnt.length = 8
  cb : ∀ x ∈ cnt, 0 ≤ x ∧ x ≤ (n : Int)
  xb : 0 ≤ cross ∧ cross ≤ (n : Int)
  s0 : 0 ≤ since ∧ since ≤ (n : Int)
  j1 : grB (ruAt rs q) = true → since = 0
  j2 : grB (ruAt rs q) = false → since + phi T r rs gk kr ki ≤ F
/-- where a phase that is On stands, and its Free -/
theorem at_on {T : Tab} (G : Gx T) {q : Int} (h : SetM.has (OnS.onS T : Nat) q = true) : ∃ gk kr ki : Nat, gk < T.groups.length ∧ kr < 2 ∧ (ringAt T gk kr)[ki]? = some q ∧ freeS T q = tot (upL T T.groups.length) + passS T gk := by
  obtain ⟨x, hx, rfl⟩ := (G.on q).1 h
  have hv := (mem_ringAt.1 hx).1
  have hm := List.mem_of_getElem? hv
  refine ⟨x.g, x.k, x.i, ?_, ?_, hv, free_val G.lo (G.wh x hx) h⟩
  · rcases Nat.lt_or_ge x.g T.groups.length with h' | h'
    · exact h'
    · exfalso
      have hr := rows_out (T := T) (g := (x.g : Int)) (by omega)
      unfold ringAt at hm
      rw [hr] at hm
      split at hm
      · simp at hm
      · split at hm <;> simp at hm
  · rcases Nat.lt_or_ge x.k 2 with h' | h'
    · exact h'
    · exfalso
      unfold ringAt at hm
      rw [if_neg (by omega), if_neg (by omega)] at hm
      simp at hm
section
variable {T : Tab} (G : Gx T) {gk kr ki : Nat} {q F : Int} (hgk : gk < T.groups.length) (hk2 : kr < 2) (hv : (ringAt T gk kr)[ki]? = some q) (hF : F = tot (upL T T.groups.length) + passS T gk)
include G hgk hk2 hv hF
theorem sv_start : Sv T gk kr ki q F 0 ⟨0, -1, -1, false⟩ (begunS T) (List.replicate 8 0) 0 0 := by
  have I := iw_start G.toGd
  have h := phi_free G I (kr := kr) (ki := ki) hgk
  refine ⟨I, by simp, fun x hx => ?_, by omega, by omega, fun _ => rfl, fun _ => by omega⟩
  have := (List.mem_replicate.1 hx).2
  omega
theorem sv_tick (u0 : World) (hd : Hd) (few : T.groups.length ≤ 1000) {n : Nat} (hn : n ≤ 2000) {r : Rg} {rs : List Ru} {cnt : List Int} {cross since : Int} (want : Int) (gx : Nat) (w : World) (TB : ∀ W, Below u0.heap.size u0 W → IsTab W hd T) (H : Sv T gk kr ki q F n r rs cnt cross since) (hw : SetM.has want q = true) (hB : Blk.Bks u0 [(gx, (pC (T.cells hd) r (runsC rs) cnt cross).toArray, 57)] w) :
    Calls Try.prog 20 #[.pointer (some ⟨gx, 0, none⟩), .int .i64 want] w fun e w' => ∃ st en r' rs' cnt' cross', e = .returned (.tuple #[I st, I en]) ∧ Blk.Bks u0 [(gx, (pC (T.cells hd) r' (runsC rs') cnt' cross').toArray, 57)] w' ∧ Sv T gk kr ki q F (n + 1) r' rs' cnt' cross' (if (ruAt rs' q).co = 1 then 0 else since + 1) ∧ (if (ruAt rs' q).co = 1 then 0 else since + 1) ≤ F := by
  refine (tick_any u0 T hd r rs cnt cross want gx w TB H.I.len H.c8 (fun x hx => by have := H.cb x hx; omega) (by have := H.xb; omega) H.I.g0 few hB).mono ?_
  rintro e w' ⟨rfl, hB⟩
  have I2 := iw_tick G.toGd H.I want (prsS T r rs want)
  have hq8 := G.row gk kr ki q hv
  have hp0 := phi_nn G (stepS T r rs want).r (runsS T rs (stepS T r rs want).st (stepS T r rs want).en (prsS T r rs want)) gk kr ki
  have hp1 := phi_free G I2 (kr := kr) (ki := ki) hgk
  have hfl : 0 ≤ F := by have := tot_lo (upL T T.groups.length); have := (pass_le G.lo gk).1; omega
  have key : grB (ruAt (runsS T rs (stepS T r rs want).st (stepS T r rs want).en (prsS T r rs want)) q) = false → since + 1 + phi T (stepS T r rs want).r (runsS T rs (stepS T r rs want).st (stepS T r rs want).en (prsS T r rs want)) gk kr ki ≤ F := fun hg => by
    cases hgq : grB (ruAt rs q) with
    | true => have := H.j1 hgq; omega
    | false =>
      have := H.j2 hgq
      rcases serve_tick G H.I hgk hk2 hv hw hgq with h3 | h3
      · rw [hg] at h3; cases h3
      · omega
  have hs := H.s0
  refine ⟨_, _, _, _, _, _, rfl, hB, ⟨I2, cnt_len _ _, fun x hx => ?_, ?_, ?_, fun hg => ?_, fun hg => ?_⟩, ?_⟩
  · obtain ⟨p, hp, rfl⟩ := List.getElem_of_mem hx
    have hp8 : p < 8 := by rw [cnt_len] at hp; exact hp
    have h1 := cnt_get cnt (stepS T r rs want).st hp8
    rw [List.getD_eq_getElem?_getD, List.getElem?_eq_getElem hp] at h1
    have h2 : cnt.getD p 0 ∈ cnt := by
      rw [List.getD_eq_getElem?_getD, List.getElem?_eq_getElem (show p < cnt.length by rw [H.c8]; exact hp8)]
      exact List.getElem_mem _
    have h3 := H.cb _ h2
    simp only [Option.getD_some] at h1
    rw [h1]
    split <;> omega
  · have := H.xb
    unfold crS
    split <;> omega
  · split <;> omega
  · exact if_pos (by unfold grB at hg; exact eq_of_beq hg)
  · rw [if_neg (by unfold grB at hg; exact beq_eq_false_iff_ne.1 hg)]
    exact key hg
  · by_cases hc : (ruAt (runsS T rs (stepS T r rs want).st (stepS T r rs want).en (prsS T r rs want)) q).co = 1
    · rw [if_pos hc]; exact hfl
    · rw [if_neg hc]
      have := key (by unfold grB; exact beq_eq_false_iff_ne.2 hc)
      omega
end
end Rg
namespace Rg
open Go Tab PlanM Ru
def rest0 : List Value := Rg.cells ⟨0, 0, 0, false⟩ ++ (runsC (List.replicate 8 zRu) ++ ((List.replicate 8 0).map I ++ [I 0]))
theorem foldPl {tc : List Value} (h1 : tc.length = 131) : List.foldl (fun (cs : Array Value) (x : Value × Nat) => cs.setIfInBounds x.snd x.fst) Try.zeroCells57 tc.zipIdx = (pC tc ⟨0, 0, 0, false⟩ (runsC (List.replicate 8 zRu)) (List.replicate 8 0) 0).toArray := by
  have hs : Try.zeroCells57.size = 240 := by kernel_rfl
  have hz : Try.zeroCells57.toList.drop 131 = rest0 := by kernel_rfl
  have h := fold_set 0 tc 0 Try.zeroCells57 (by rw [h1, hs]; omega)
  simp only [Nat.zero_add] at h
  rw [h, h1, hz]
  simp [pC, rest0]
theorem one34 (x y : Int) : (#[I x, I y] : Array Value).all (·.oneCell') = true := by simp [Value.oneCell']
theorem built34 (x y : Int) : Try.prog.built 34 [(0, I x), (1, I y)] = some #[I x, I y] := by kernel_rfl
theorem info34 : (Try.prog.info? 34).map (·.size) = some 2 := by kernel_rfl
section
variable {tc : List Value} {r : Rg} {rc : List Value} {cnt : List Int} {cross : Int} (h1 : tc.length = 131) (h2 : rc.length = 96) (h3 : cnt.length = 8)
include h1 h2 h3
theorem pC_ats (x y : Int) : ((pC tc r rc cnt cross).toArray.toList.take 132 ++ (#[I x, I y] : Array Value).toList ++ (pC tc r rc cnt cross).toArray.toList.drop (132 + (#[I x, I y] : Array Value).size)).toArray = (pC tc ⟨r.g, x, y, r.cr⟩ rc cnt cross).toArray := by
  apply Array.ext'
  have e : pC tc r rc cnt cross = (tc ++ [I r.g]) ++ ([I r.a0, I r.a1] ++ ([.bool r.cr] ++ (rc ++ (cnt.map I ++ [I cross])))) := by simp [pC, Rg.cells]
  have hl : (tc ++ [I r.g]).length = 132 := by simp [h1]
  have e1 : (pC tc r rc cnt cross).take 132 = tc ++ [I r.g] := by rw [e]; exact List.take_left' hl
  have e2 : (pC tc r rc cnt cross).drop (132 + 2) = [.bool r.cr] ++ (rc ++ (cnt.map I ++ [I cross])) := by
    rw [e, ← List.drop_drop, List.drop_left' hl]; rfl
  rw [List.toList_toArray, List.toList_toArray, show (#[I x, I y] : Array Value).size = 2 from rfl, e1, e2]
  simp [pC, Rg.cells]
theorem pC_runs {rc' : List Value} (h2' : rc'.length = 96) : ((pC tc r rc cnt cross).toArray.toList.take 135 ++ rc'.toArray.toList ++ (pC tc r rc cnt cross).toArray.toList.drop (135 + rc'.toArray.size)).toArray = (pC tc r rc' cnt cross).toArray := by
  apply Array.ext'
  have e : pC tc r rc cnt cross = (tc ++ r.cells) ++ (rc ++ (cnt.map I ++ [I cross])) := by simp [pC]
  have hl : (tc ++ r.cells).length = 135 := by simp [h1, Rg.cells]
  have e1 : (pC tc r rc cnt cross).take 135 = tc ++ r.cells := by rw [e]; exact List.take_left' hl
  have e2 : (pC tc r rc cnt cross).drop (135 + 96) = cnt.map I ++ [I cross] := by
    rw [e, ← List.drop_drop, List.drop_left' hl, List.drop_left' h2]
  rw [List.toList_toArray, List.toList_toArray, List.toList_toArray, List.size_toArray, h2', e1, e2]
  simp [pC]
end
end Rg
end Go.Proofs.Ytjgpljnbeolapaa
