/- 17 texts in one file, in build order. -/
import Derived.Test.YtjgpljnbeolapaaRows
import Derived.Test.YtjgpljnbeolapaaPart11
import Derived.Test.YtjgpljnbeolapaaPart09
import Derived.Test.YtjgpljnbeolapaaPart02
import Derived.Test.YtjgpljnbeolapaaPart03
import Derived.Deep.Cut
import Derived.Test.YtjgpljnbeolapaaPart01
import Derived.Test.YtjgpljnbeolapaaPart05
import Derived.Test.YtjgpljnbeolapaaPart08
import Derived.Test.YtjgpljnbeolapaaPart07
set_option linter.unusedVariables false
set_option linter.unusedSimpArgs false
set_option linter.unusedSectionVars false
set_option maxHeartbeats 8000000
set_option maxRecDepth 100000
namespace Go.Proofs.Ytjgpljnbeolapaa
namespace Val
open Go Tab GenG GenT PlaceM PlanM OnS ChkM Clone May
open RefS (num num_range)
open ChkX (allIn_iff in_ranges InR)
open MayF (level span)
theorem list_may {α : Type} {m : Int} {f : α → Bool} {l : List α} (hl : (l.length : Int) ≤ m) (h : ∀ x ∈ l, f x = true) : listMay m f l = true := by
  unfold listMay
  rw [decide_eq_true hl, Bool.true_and, List.all_eq_true]
  exact h
theorem recall_range (x walk : Int) (h : 0 ≤ x) : 0 ≤ GenP.recall x walk ∧ GenP.recall x walk ≤ 3 := by
  unfold GenP.recall
  split <;> omega
theorem ph_may (L : List Int) (i : Int) : Ph.may (GenP.genPh L i) = true := by
  have a0 := num_range L i 12 (by omega)
  have a1 := num_range L (i + 5) 25 (by omega)
  have a2 := num_range L (i + 6) 15 (by omega)
  have a3 := num_range L (i + 2) 6 (by omega)
  have a4 := num_range L (i + 3) 4 (by omega)
  have a5 := num_range L (i + 8) 10 (by omega)
  have a6 := num_range L (i + 8) 97 (by omega)
  have a7 := num_range L (i + 1) 9 (by omega)
  have a8 := num_range L (i + 4) 5 (by omega)
  have a9 := num_range L (i + 9) 7 (by omega)
  unfold Ph.may
  rw [Bool.and_eq_true, allIn_iff, allIn_iff]
  unfold GenP.genPh
  dsimp only
  have hr := recall_range (num L (i + 9) 7) (if num L (i + 7) 2 = 1 then 1 + num L (i + 8) 10 else 0) a9.1
  simp only [List.mem_cons, List.not_mem_nil, or_false, forall_eq_or_imp, forall_eq]
  refine ⟨?_, hr⟩
  by_cases hw : num L (i + 7) 2 = 1
  · simp only [if_pos hw]; omega
  · simp only [if_neg hw]; omega
theorem phases_may (L : List Int) : listMay 8 Ph.may (genTab L).phases = true := by
  rw [genTab_phases]
  refine list_may (by rw [upd_len]; omega) (fun x hx => ?_)
  unfold upd at hx
  obtain ⟨i, _, rfl⟩ := List.mem_map.1 hx
  by_cases h : i < genN L
  · rw [if_pos h]; exact ph_may L _
  · rw [if_neg h]; decide
theorem row_may {p m : Nat} (h : p + m ≤ 8) : rowMay (seg p m) = true := by
  unfold rowMay
  rw [decide_eq_true (by rw [seg_len]; omega), Bool.true_and, allIn_iff]
  intro x hx
  have := mem_seg.1 hx
  omega
theorem groups_may (L : List Int) : ∀ g, g ≤ genG L → ∀ x ∈ (upTo L (genG L) g).1, groupMay x = true
  | 0, _, x, hx => by simp [upTo] at hx
  | g + 1, h, x, hx => by
    have h8 := up_le L (genG L) (genG_range L).2 (g + 1) h
    have e2 : (upTo L (genG L) (g + 1)).2 = (upTo L (genG L) g).2 + n0 L (genG L) g (upTo L (genG L) g).2 + n1 L (genG L) g (upTo L (genG L) g).2 := rfl
    have e1 : (upTo L (genG L) (g + 1)).1 = (upTo L (genG L) g).1 ++ [grpD L (genG L) g (upTo L (genG L) g).2] := rfl
    rw [e2] at h8
    rw [e1, List.mem_append, List.mem_singleton] at hx
    rcases hx with hx | rfl
    · exact groups_may L g (by omega) x hx
    · unfold groupMay grpD
      dsimp only
      rw [row_may (by omega), row_may (by omega)]
      rfl
theorem off_tab : ∀ a : Fin 4, ∀ b : Fin 3, (level (GenD.onTab a.val) && level (GenD.mulTab a.val b.val)) = true := by decide +kernel
theorem span_tab : ∀ a : Fin 6, span (Fl.ofB a.val) = true := by decide +kernel
theorem det_may (L : List Int) (i : Int) (n : Nat) (h0 : 0 < n) (h8 : n ≤ 8) : Det.may (GenD.genDet L i n) = true := by
  have r := num_range L i n (by omega)
  have ra := num_range L (i + 1) 4 (by omega)
  have rb := num_range L (i + 2) 3 (by omega)
  have rc := num_range L (i + 3) 4 (by omega)
  have rd := num_range L (i + 4) 6 (by omega)
  have re := num_range L (i + 6) 60 (by omega)
  have rf := num_range L (i + 7) 300 (by omega)
  unfold Det.may GenD.genDet
  dsimp only
  have hs1 := span_tab ⟨(num L (i + 3) 4).toNat, by omega⟩
  have hs2 := span_tab ⟨(num L (i + 4) 6).toNat, by omega⟩
  dsimp only at hs1 hs2
  generalize num L (i + 1) 4 = a at ra ⊢
  generalize num L (i + 2) 3 = b at rb ⊢
  obtain ⟨a, rfl⟩ := Int.eq_ofNat_of_zero_le ra.1
  obtain ⟨b, rfl⟩ := Int.eq_ofNat_of_zero_le rb.1
  have ht := off_tab ⟨a, by omega⟩ ⟨b, by omega⟩
  rw [Bool.and_eq_true] at ht
  rw [ht.1, ht.2, hs1, hs2]
  simp only [Bool.true_and, Bool.and_eq_true, allIn_iff, List.mem_cons, List.not_mem_nil, or_false, forall_eq_or_imp, forall_eq]
  refine ⟨by omega, ?_, ?_⟩
  · split <;> omega
  · split <;> omega
theorem mask_eq : ∀ n : Fin 9, GenR.maskV n.val = ((2 ^ n.val - 1 : Nat) : Int) := by decide +kernel
theorem and_mask (x : Int) {n : Nat} (h8 : n ≤ 8) : ∃ m : Nat, bits .and .i64 x (GenR.maskV n) = (m : Int) ∧ m < 256 := by
  have := mask_eq ⟨n, by omega⟩
  dsimp only at this
  rw [this]
  have hb : 2 ^ n - 1 < 256 := by
    have : 2 ^ n ≤ 2 ^ 8 := Nat.pow_le_pow_right (by omega) h8
    omega
  rw [SetM.and_low x _ hb]
  exact ⟨_, rfl, Nat.lt_of_le_of_lt Nat.and_le_right hb⟩
theorem withS_nat (T : Tab) (p q : Int) : ∃ m : Nat, GenW.withS T p q = (m : Int) ∧ m < 256 := by
  unfold GenW.withS
  split
  · exact ⟨_, rfl, SetM.with_lt _ _⟩
  · exact ⟨_, rfl, SetM.of_lt _⟩
theorem bars_range (x d : Int) {n : Nat} (h8 : n ≤ 8) (hd : ∃ m : Nat, d = (m : Int) ∧ m < 256) : 0 ≤ GenR.barsV x d n ∧ GenR.barsV x d n ≤ 255 := by
  obtain ⟨m, rfl, hm⟩ := hd
  obtain ⟨k, hk, hk2⟩ := and_mask x h8
  unfold GenR.barsV
  rw [hk, ChkX.andNot_eq (by omega) hm]
  have : SetM.low (k : Int) &&& (255 - m) < 256 := Nat.lt_of_le_of_lt Nat.and_le_left (SetM.low_lt _)
  omega
theorem rl_may (T : Tab) (L : List Int) (i : Int) {n : Nat} (h0 : 0 < n) (h8 : n ≤ 8) : Rl.may (GenR.genRl T L i n) = true := by
  have r8 := num_range L (i + 8) 4 (by omega)
  have r9 := num_range L (i + 9) 6 (by omega)
  have ra := num_range L (i + 10) 6 (by omega)
  have rb := num_range L (i + 6) 10 (by omega)
  have rc := num_range L (i + 11) 15 (by omega)
  have rd := num_range L (i + 13) 30 (by omega)
  have rl := GenR.lim_range (num L (i + 14) 3)
  have w1 := withS_nat T (num L i n) (num L (i + 1) n)
  obtain ⟨b0, b1⟩ := bars_range (num L (i + 7) 256) _ h8 w1
  obtain ⟨d, hd, hd2⟩ := w1
  obtain ⟨c, hc, hc2⟩ := withS_nat T (num L (i + 4) (n + 1)) (num L (i + 5) n)
  obtain ⟨x, hx, hx2⟩ := withS_nat T (num L (i + 2) n) (num L (i + 3) n)
  unfold Rl.may GenR.genRl
  dsimp only
  simp only [Bool.and_eq_true, allIn_iff, List.mem_cons, List.not_mem_nil, or_false, forall_eq_or_imp, forall_eq]
  rw [hc, hx, hd]
  rw [hd] at b0 b1
  refine ⟨⟨⟨b0, b1⟩, ?_, by omega, by omega⟩, ⟨by omega, by omega, by omega, ?_, by omega, ?_⟩, by omega⟩
  · split <;> omega
  · split <;> omega
  · split <;> omega
theorem bs_may (L : List Int) (i : Nat) {n : Nat} (h8 : n ≤ 8) : Bs.may (genBs L i n) = true := by
  have r := num_range L (331 + 2 * i) 30 (by omega)
  obtain ⟨m, hm, hm2⟩ := and_mask (num L (330 + 2 * i) 256) h8
  unfold Bs.may genBs
  dsimp only
  rw [hm]
  simp only [Bool.and_eq_true, allIn_iff, List.mem_cons, List.not_mem_nil, or_false, forall_eq_or_imp, forall_eq]
  omega
theorem genTab_rails (L : List Int) : (genTab L).rails = down (fun i => GenR.genRl (tab1 L) L (260 + 16 * i) (genN L)) (num L 176 4 % 3).toNat (num L 176 4 % 3).toNat := by
  unfold genTab; split <;> rfl
/-! ### sums stay within a tick's range -/
theorem cap_bd (n : Int) : 0 ≤ RefC.cap n ∧ RefC.cap n ≤ 2147483647 := ⟨RefC.cap_lo n, RefC.cap_hi n⟩
theorem fold_bd : ∀ (l : List Int) (x : Int), 0 ≤ x ∧ x ≤ 2147483647 → 0 ≤ l.foldl RefC.add x ∧ l.foldl RefC.add x ≤ 2147483647
  | [], x, h => h
  | y :: l, x, h => fold_bd l _ (cap_bd _)
theorem sums_bd (l : List Int) : 0 ≤ RefC.sums l ∧ RefC.sums l ≤ 2147483647 := fold_bd l 0 (by omega)
theorem free_bd (T : Tab) (p : Int) : 0 ≤ FreeS.freeS T p ∧ FreeS.freeS T p ≤ 2147483647 := by
  unfold FreeS.freeS
  split
  · split
    · exact sums_bd _
    · omega
  · omega
theorem wait_bd (T : Tab) (p : Int) : 0 ≤ WaitS.waitS T p ∧ WaitS.waitS T p ≤ 2147483647 := by
  unfold WaitS.waitS
  split
  · exact free_bd T p
  · exact sums_bd _
theorem maxW_bd (T : Tab) : ∀ n, 0 ≤ maxW T n ∧ maxW T n ≤ 2147483647
  | 0 => by simp [maxW]
  | n + 1 => by
    have h1 := maxW_bd T n
    have h2 := wait_bd T n
    rw [maxW]
    omega
theorem genTab_times (L : List Int) : (genTab L).extend = num L 178 12 ∧ (genTab L).budget = num L 179 40 ∧ (genTab L).start = num L 180 8 ∧ (genTab L).revert = num L 181 8 ∧ (genTab L).least = num L 182 12 ∧ (genTab L).share = num L 183 4 := by
  unfold genTab; split <;> exact ⟨rfl, rfl, rfl, rfl, rfl, rfl⟩
theorem tabS_win (L : List Int) : (tabS L).window = 0 := (congrArg Tab.window (tabS_window L)).symm
theorem genTab_window (L : List Int) : 0 ≤ (genTab L).window ∧ (genTab L).window ≤ 2147483647 := by
  unfold genTab
  split
  · rw [tabS_win]; omega
  · exact maxW_bd _ _
theorem flash_bd (L : List Int) : ∀ x ∈ (genTab L).flash, 0 ≤ x ∧ x ≤ 2 := by
  have hu : ∀ x ∈ upd (fun _ => (1 : Int)) 0 (genN L), 0 ≤ x ∧ x ≤ 2 := by
    intro x hx
    unfold upd at hx
    obtain ⟨i, _, rfl⟩ := List.mem_map.1 hx
    by_cases h : i < genN L
    · rw [if_pos h]; exact ⟨(show (0 : Int) ≤ 1 by decide), (show (1 : Int) ≤ 2 by decide)⟩
    · rw [if_neg h]; exact ⟨(show (0 : Int) ≤ 0 by decide), (show (0 : Int) ≤ 2 by decide)⟩
  intro x hx
  rw [genTab_flash] at hx
  split at hx
  · rcases List.mem_or_eq_of_mem_set hx with h1 | rfl
    · exact hu x h1
    · omega
  · exact hu x hx
theorem gen_may (L : List Int) : tabMay (genTab L) = true := by
  have h8 := genN_range L
  have h1 := genN_pos L
  obtain ⟨t1, t2, t3, t4, t5, t6⟩ := genTab_times L
  have a1 := num_range L 178 12 (by omega)
  have a2 := num_range L 179 40 (by omega)
  have a3 := num_range L 180 8 (by omega)
  have a4 := num_range L 181 8 (by omega)
  have a5 := num_range L 182 12 (by omega)
  have a6 := num_range L 183 4 (by omega)
  have a7 := num_range L 175 9 (by omega)
  have a8 := num_range L 176 4 (by omega)
  have a9 := num_range L 177 3 (by omega)
  have w := genTab_window L
  unfold tabMay
  rw [phases_may, t1, t2, t3, t4, t5, t6]
  simp only [Bool.true_and, Bool.and_eq_true, allIn_iff, List.mem_cons, List.not_mem_nil, or_false, forall_eq_or_imp, forall_eq]
  refine ⟨?_, fun x hx => by have := (cf_gen L).bd x hx; omega, ?_, ?_, ?_, by omega, flash_bd L, by omega⟩
  · rw [genTab_groups]
    refine list_may ?_ (groups_may L _ (Nat.le_refl _))
    have := genG_range L
    unfold genGs
    rw [up_len]
    omega
  · rw [genTab_dets]
    refine list_may (by rw [down_len]; omega) (fun x hx => ?_)
    obtain ⟨i, rfl⟩ := mem_down _ hx
    exact det_may L _ _ h1 h8
  · rw [genTab_rails]
    refine list_may (by rw [down_len]; omega) (fun x hx => ?_)
    obtain ⟨i, rfl⟩ := mem_down _ hx
    exact rl_may _ L _ h1 h8
  · rw [genTab_buses]
    refine list_may (by rw [down_len]; omega) (fun x hx => ?_)
    obtain ⟨i, rfl⟩ := mem_down _ hx
    exact bs_may L _ h8
end Val
namespace ChkI
open Go.RowKit Go.Shelf
open Tab PlaceM PlanM OnS ChkM Each Search
attribute [local go_sem] Oper.semAt_some
/-- What a table's box gives: the conflicts and the flash of each phase. -/
structure Bxd (T : Tab) (b : Nat) (W : World) : Prop where
  cf : ∀ p : Int, 0 ≤ p → p < 8 → W.cell? ⟨b, 105 + p.toNat, none⟩ = some (I (cfAt T p))
  fl : ∀ p : Int, 0 ≤ p → p < 8 → W.cell? ⟨b, 121 + p.toNat, none⟩ = some (I (flAt T p))
theorem Bxd.below {T : Tab} {b : Nat} {W W' : World} (h : Bxd T b W) (hb : Below W.heap.size W W') : Bxd T b W' :=
  ⟨fun p h0 h8 => (hb.cell (World.block_lt_of_cell? W _ (h.cf p h0 h8))).trans (h.cf p h0 h8), fun p h0 h8 => (hb.cell (World.block_lt_of_cell? W _ (h.fl p h0 h8))).trans (h.fl p h0 h8)⟩
end ChkI
namespace ChkJ
open Go.RowKit Go.Shelf
open Tab PlaceM PlanM OnS ChkM Each Search ChkI
open May (infoT)
attribute [local go_sem] Oper.semAt_some
end ChkJ
namespace ChkA
open Go.ChangeShapes Go.WideShapes Go.ChangeAt Go.RowKit
open Tab PlaceM PlanM OnS ChkM
open May (ret_bool infoT St ints_in phases_in)
/-! ### the numbers of a rail -/
end ChkA
namespace ChkB
open Go.ChangeShapes Go.WideShapes Go.ChangeAt Go.RowKit
open Tab PlaceM PlanM OnS ChkM ChkA
open May (ret_bool infoT infoP infoB infoD infoR St ints_in phases_in)
/-- Two blocks laid one behind the other. -/
theorem laid2 (w : World) (o0 o1 : Obj) : ∃ W, ((w.alloc o0).alloc o1) = W ∧ W.heap.size = w.heap.size + 2 ∧ Below w.heap.size w W ∧ Below (w.heap.size + 1) (w.alloc o0) W ∧ W.heap[w.heap.size + 1]? = some o1 := by
  refine ⟨_, rfl, by simp, ((Below.refl _ w).alloc (Nat.le_refl _) _).alloc (by simp) _, ?_, ?_⟩
  · have := (Below.refl (w.alloc o0).heap.size (w.alloc o0)).alloc (Nat.le_refl _) o1
    simpa using this
  · have h1 := heap_alloc_new (w.alloc o0) o1
    rwa [World.size_alloc] at h1
end ChkB
namespace RkA
open Go.ChangeShapes Go.WideShapes Go.ChangeAt Go.RowKit
open Tab PlaceM PlanM OnS ChkM ChkI
open RefS (rlist_any rhas_any row_of)
open May (ret_bool infoT infoP)
end RkA
namespace ChkG
open Go.ChangeShapes Go.WideShapes Go.ChangeAt Go.RowKit
open Tab PlaceM PlanM OnS ChkM ChkA
open PlanW (wG wK wI idx0 idx1 info2 pwhere_any)
open May (ret_bool infoT St)
end ChkG
namespace ChkH
open Go.ChangeShapes Go.WideShapes Go.ChangeAt Go.RowKit
open Tab PlaceM PlanM OnS ChkM ChkA ChkG
open May (ret_bool infoT St)
open Same (below_setRow)
end ChkH
namespace RkR
open Go.ChangeShapes Go.WideShapes Go.ChangeAt Go.RowKit
open Tab PlaceM PlanM OnS ChkM ChkH
open ChkB (laid2)
open Same (below_setRow)
open Where (infoS)
open RefS (rhas_any rwith_any)
open May (ret_bool infoT)
end RkR
namespace ChkZ
open Go Tab PlaceM PlanM OnS May ChkM ChkX
open PlanW (where_some)
/-! ### the document's walk through a group -/
/-! ### first places -/
theorem inj_of {A : List Spt} : (A.map Spt.p).Nodup → ∀ {x y : Spt}, x ∈ A → y ∈ A → x.p = y.p → x = y := by
  induction A with
  | nil => intro _ x y hx; cases hx
  | cons a A ih =>
    intro hn x y hx hy hp
    rw [List.map_cons, List.nodup_cons] at hn
    rcases List.mem_cons.1 hx with hx | hx
    · rcases List.mem_cons.1 hy with hy | hy
      · rw [hx, hy]
      · exact absurd (List.mem_map.2 ⟨y, hy, by rw [← hp, hx]⟩) hn.1
    · rcases List.mem_cons.1 hy with hy | hy
      · exact absurd (List.mem_map.2 ⟨x, hx, by rw [hp, hy]⟩) hn.1
      · exact ih hn.2 hx hy hp
/-! ### all rules -/
end ChkZ
namespace Val
open Go Tab GenG GenT PlaceM PlanM OnS ChkM Clone May
open RefS (num num_range)
open ChkX (in_ranges InR)
open ChkZ
theorem gen_in (L : List Int) : InR (genTab L) := in_ranges (gen_may L)
theorem gen_where (L : List Int) {x : Spt} (hx : x ∈ spots (genTab L)) : where_ (genTab L) x.p = some x := by
  have h : (where_ (genTab L) x.p).isSome = true := by
    rw [where_isSome, decide_eq_true_eq]
    exact List.mem_map.2 ⟨x, hx, rfl⟩
  obtain ⟨y, hy⟩ := Option.isSome_iff_exists.1 h
  have h1 : y ∈ spots (genTab L) := List.mem_of_find?_eq_some hy
  have h2 : y.p = x.p := by simpa using List.find?_some hy
  rw [hy, inj_of (gen_nodup L) h1 hx h2]
theorem gen_spot_on (L : List Int) {x : Spt} (hx : x ∈ spots (genTab L)) : SetM.has (onS (genTab L) : Nat) x.p = true := by
  rw [gen_has_on, gen_where L hx]; rfl
theorem gen_glen (L : List Int) : (genTab L).groups.length = genG L := by
  rw [genTab_groups]; unfold genGs; rw [up_len]
end Val
namespace Val
open Go Tab GenG GenT PlaceM PlanM OnS ChkM Clone May
open RefS (num num_range)
open ChkX (has_bits and_ne low_in allOn_iff andNot_eq not_bit low_ne)
theorem has_or4 {a b q : Int} (hb : 0 ≤ b ∧ b ≤ 255) : SetM.has (bits .or .i64 a b) q = true ↔ SetM.has a q = true ∨ SetM.has b q = true := by
  obtain ⟨m, rfl⟩ := Int.eq_ofNat_of_zero_le hb.1
  have hm : m < 256 := by omega
  rw [has_bits, has_bits, has_bits, SetM.or_low a m hm, Nat.testBit_or, SetM.low_nat m hm]
  simp only [Bool.or_eq_true]
  constructor
  · rintro ⟨h1, h2, h3 | h3⟩
    · exact .inl ⟨h1, h2, h3⟩
    · exact .inr ⟨h1, h2, h3⟩
  · rintro (⟨h1, h2, h3⟩ | ⟨h1, h2, h3⟩)
    · exact ⟨h1, h2, .inl h3⟩
    · exact ⟨h1, h2, .inr h3⟩
end Val
namespace Rg
open Go Tab PlanM Ru
open ChkM (cfAt)
open Clear (phAt)
open PlaceM (where_ spots Spt)
/-- What is used of a table. -/
structure Gd (T : Tab) : Prop where
  gl : 0 < T.groups.length
  cf : ∀ p q : Int, 0 ≤ p ∧ p < 8 → SetM.has (cfAt T p) q = true → SetM.has (cfAt T q) p = true ∧ p ≠ q ∧ PlaceM.beside T p q = false
  wh : ∀ x ∈ spots T, where_ T x.p = some x
  row : ∀ (g : Nat) (k i : Nat) (p : Int), (ringAt T g k)[i]? = some p → 0 ≤ p ∧ p < 8
  on : ∀ q : Int, SetM.has (OnS.onS T : Nat) q = true ↔ ∃ x ∈ spots T, x.p = q
theorem gd_gen (L : List Int) : Gd (GenT.genTab L) := by
  refine ⟨?_, fun p q hp h => Val.cf_at L hp h, fun x hx => Val.gen_where L hx, fun g k i p h => ?_, fun q => ⟨fun h => ?_, fun ⟨x, hx, e⟩ => e ▸ Val.gen_spot_on L hx⟩⟩
  · rw [Val.gen_glen]
    have := GenG.genG_range L
    omega
  · have R := Val.gen_in L
    by_cases hg : g < (GenT.genTab L).groups.length
    · have hm := R.gr _ (List.getElem_mem hg)
      have hr : rowsAt (GenT.genTab L) g = (GenT.genTab L).groups[g] := rows_in (List.getElem?_eq_getElem hg)
      unfold May.groupMay May.rowMay at hm
      simp only [Bool.and_eq_true] at hm
      obtain ⟨⟨_, h1⟩, ⟨_, h2⟩⟩ := hm
      have a1 := ChkX.allIn_iff.1 h1
      have a2 := ChkX.allIn_iff.1 h2
      have hmem := List.mem_of_getElem? h
      unfold ringAt at hmem
      rw [hr] at hmem
      split at hmem
      · have := a1 p hmem; omega
      · split at hmem
        · have := a2 p hmem; omega
        · simp at hmem
    · have hr := rows_out (T := GenT.genTab L) (g := (g : Int)) (by omega)
      unfold ringAt at h
      rw [hr] at h
      split at h
      · simp at h
      · split at h <;> simp at h
  · rw [GenT.gen_has_on] at h
    obtain ⟨y, hy⟩ := Option.isSome_iff_exists.1 h
    exact ⟨y, List.mem_of_find?_eq_some hy, by simpa using List.find?_some hy⟩
section
variable {T : Tab} (G : Gd T)
include G
theorem Gd.spot {g k i : Nat} {p : Int} (h : (ringAt T g k)[i]? = some p) : (⟨g, k, i, p⟩ : Spt) ∈ spots T := mem_ringAt.2 ⟨h, G.row g k i p h⟩
theorem Gd.same {g k i g' k' i' : Nat} {p : Int} (h : (ringAt T g k)[i]? = some p) (h' : (ringAt T g' k')[i']? = some p) : g = g' ∧ k = k' ∧ i = i' := by
  have h1 := G.wh _ (G.spot h)
  have h2 := G.wh _ (G.spot h')
  rw [h1] at h2
  have e := Option.some.inj h2
  simp only [Spt.mk.injEq] at e
  exact ⟨e.1, e.2.1, e.2.2.1⟩
theorem Gd.beside {g k i k' i' : Nat} {p p' : Int} (h : (ringAt T g k)[i]? = some p) (h' : (ringAt T g k')[i']? = some p') (hk : k ≠ k') : PlaceM.beside T p p' = true := by
  unfold PlaceM.beside
  rw [G.wh _ (G.spot h), G.wh _ (G.spot h')]
  simp [hk]
theorem Gd.now_of {g k i : Nat} {p : Int} (h : (ringAt T g k)[i]? = some p) : nowS T g k (i : Nat) = p := by
  have hi := (List.getElem?_eq_some_iff.1 h).1
  have h8 := G.row g k i p h
  unfold nowS
  rw [if_pos ⟨by omega, by omega⟩, Int.toNat_natCast, List.getD_eq_getElem?_getD, h]
  exact first_one h8.1 h8.2
theorem Gd.now_spec (g k : Nat) (a : Int) : (nowS T g k a = -1 ∧ ¬ (0 ≤ a ∧ a < ((ringAt T g k).length : Int))) ∨ ∃ i : Nat, a = i ∧ (ringAt T g k)[i]? = some (nowS T g k a) := by
  by_cases ha : 0 ≤ a ∧ a < ((ringAt T g k).length : Int)
  · obtain ⟨i, rfl⟩ := Int.eq_ofNat_of_zero_le ha.1
    have hv := List.getElem?_eq_getElem (show i < (ringAt T g k).length by omega)
    refine .inr ⟨i, rfl, ?_⟩
    rw [G.now_of hv]; exact hv
  · refine .inl ⟨?_, ha⟩
    unfold nowS; rw [if_neg ha]
/-- the next index of a ring, and the phase there -/
theorem Gd.ln_spec {r : Rg} {g : Nat} (hg : r.g = g) {want : Int} (k : Nat) (h : 0 ≤ (lnS T r want k).x) : ∃ i : Nat, (lnS T r want k).x = i ∧ (ringAt T g k)[i]? = some (lnS T r want k).t ∧ r.at k < i ∧ SetM.has want (lnS T r want k).t = true ∧ ∀ j, j < i → ¬ (r.at k < (j : Int) ∧ SetM.has want ((ringAt T g k).getD j 0) = true) := by
  obtain ⟨i, h1, h2, h3, h4, h5⟩ := next_spec h
  have hx : (lnS T r want k).x = i := h1
  have ht : (lnS T r want k).t = (ringAt T r.g k).getD i 0 := by
    show nowS T r.g k (lnS T r want k).x = _
    rw [hx]
    exact now_next h2 h4
  rw [hg] at h2 h4 h5 ht
  have hv := List.getElem?_eq_getElem h2
  have hgd : (ringAt T g k).getD i 0 = (ringAt T g k)[i] := by rw [List.getD_eq_getElem?_getD, hv]; rfl
  refine ⟨i, hx, ?_, h3, ?_, h5⟩
  · rw [ht, hgd]; exact hv
  · rw [ht]; exact h4
end
theorem has_zero (q : Int) : SetM.has 0 q = false := Val.has_zero q
theorem has_withv {s p q : Int} (hp : 0 ≤ p ∧ p < 8) : SetM.has (SetM.withN s p : Nat) q = (SetM.has s q || (q == p)) := by
  rw [SetM.has_with]
  obtain ⟨k, rfl⟩ := Int.eq_ofNat_of_zero_le hp.1
  rw [Val.bit_ne k (by omega), Bool.true_and]
theorem st_has {b0 b1 : Bool} {t0 t1 p : Int} (h0 : b0 = true → 0 ≤ t0 ∧ t0 < 8) (h1 : b1 = true → 0 ≤ t1 ∧ t1 < 8) : SetM.has (stS b0 b1 t0 t1) p = ((b0 && p == t0) || (b1 && p == t1)) := by
  unfold stS
  cases b0 <;> cases b1
  · simp [has_zero]
  · simp [has_withv (h1 rfl), has_zero]
  · simp [has_withv (h0 rfl), has_zero]
  · simp [has_withv (h0 rfl), has_withv (h1 rfl), has_zero]
theorem st_nat (b0 b1 : Bool) (t0 t1 : Int) : ∃ m : Nat, stS b0 b1 t0 t1 = m ∧ m < 256 := by
  unfold stS
  cases b0 <;> cases b1
  · exact ⟨0, rfl, by decide⟩
  · exact ⟨_, rfl, SetM.with_lt _ _⟩
  · exact ⟨_, rfl, SetM.with_lt _ _⟩
  · exact ⟨_, rfl, SetM.with_lt _ _⟩
theorem st_none {b0 b1 c0 c1 : Bool} {t0 t1 u0 u1 : Int} (h0 : b0 = true → 0 ≤ t0 ∧ t0 < 8) (h1 : b1 = true → 0 ≤ t1 ∧ t1 < 8) (k0 : c0 = true → 0 ≤ u0 ∧ u0 < 8) (k1 : c1 = true → 0 ≤ u1 ∧ u1 < 8) (h : bits .or .i64 (stS b0 b1 t0 t1) (stS c0 c1 u0 u1) = 0) : b0 = false ∧ b1 = false ∧ c0 = false ∧ c1 = false := by
  obtain ⟨m, hm, hm2⟩ := st_nat c0 c1 u0 u1
  have key : ∀ q, SetM.has (stS b0 b1 t0 t1) q = false ∧ SetM.has (stS c0 c1 u0 u1) q = false := fun q => by
    have : ¬ (SetM.has (stS b0 b1 t0 t1) q = true ∨ SetM.has (stS c0 c1 u0 u1) q = true) := fun hh => by
      have := (Val.has_or4 (a := stS b0 b1 t0 t1) (b := stS c0 c1 u0 u1) (q := q) (by rw [hm]; omega)).2 hh
      rw [h, has_zero] at this
      cases this
    simpa using this
  refine ⟨?_, ?_, ?_, ?_⟩
  · cases b0 with
    | false => rfl
    | true => have := (key t0).1; rw [st_has h0 h1] at this; simp at this
  · cases b1 with
    | false => rfl
    | true => have := (key t1).1; rw [st_has h0 h1] at this; simp at this
  · cases c0 with
    | false => rfl
    | true => have := (key u0).2; rw [st_has k0 k1] at this; simp at this
  · cases c1 with
    | false => rfl
    | true => have := (key u1).2; rw [st_has k0 k1] at this; simp at this
/-! ### a tick, by its ways -/
def ln (T : Tab) (r : Rg) (want : Int) : Nat → Ln
  | 0 => lnS T r want 0
  | _ => lnS T r want 1
/-- what a tick does, told apart -/
inductive Way (T : Tab) (r : Rg) (rs : List Ru) (want : Int) (S : So) : Prop where
  | wait (hc : r.cr = true) (hb : bS rs ≠ 0) (h : S = ⟨r, 0, 0⟩)
  | over (hc : r.cr = true) (hb : bS rs = 0) (h : S = ⟨⟨if followS T r.g want < 0 then r.g else followS T r.g want, -1, -1, false⟩, 0, 0⟩)
  | cross (hc : r.cr = false) (hb : ∀ k, k < 2 → begS T rs (bS rs) (lnS T r want k) = false) (he : ∀ k, k < 2 → endS T rs want (gS rs) (lnS T r want k) = false) (hs : ∀ k, k < 2 → setS rs (gS rs) (bS rs) (lnS T r want k) = true) (ho : othS want (gS rs) = true) (h : S = ⟨⟨r.g, r.a0, r.a1, true⟩, 0, gS rs⟩)
  | go (hc : r.cr = false) (hr : S.r = atS r (begS T rs (bS rs) (lnS T r want 0)) (begS T rs (bS rs) (lnS T r want 1)) (lnS T r want 0).x (lnS T r want 1).x)
      (hst : ∀ p, SetM.has S.st p = true ↔ ∃ k, k < 2 ∧ begS T rs (bS rs) (lnS T r want k) = true ∧ p = (lnS T r want k).t)
      (hen : ∀ p, SetM.has S.en p = true ↔ ∃ k, k < 2 ∧ endS T rs want (gS rs) (lnS T r want k) = true ∧ p = (lnS T r want k).n)
      (hn : (∀ k, k < 2 → begS T rs (bS rs) (lnS T r want k) = false) → (∀ k, k < 2 → endS T rs want (gS rs) (lnS T r want k) = false) → (∀ k, k < 2 → setS rs (gS rs) (bS rs) (lnS T r want k) = true) → othS want (gS rs) = false)
      (hnat : ∃ m n : Nat, S.st = m ∧ m < 256 ∧ S.en = n ∧ n < 256)
theorem beg_valid {T : Tab} {r : Rg} {rs : List Ru} {want : Int} {k : Nat} (h : begS T rs (bS rs) (lnS T r want k) = true) : 0 ≤ (lnS T r want k).x ∧ 0 ≤ (lnS T r want k).t ∧ (lnS T r want k).t < 8 := by
  unfold begS at h
  simp only [Bool.and_eq_true, decide_eq_true_eq] at h
  exact ⟨h.2.1, ln_valid T r want k h.2.1⟩
theorem end_valid {T : Tab} {r : Rg} {rs : List Ru} {want : Int} {k : Nat} (h : endS T rs want (gS rs) (lnS T r want k) = true) : 0 ≤ (lnS T r want k).n ∧ (lnS T r want k).n < 8 := by
  unfold endS at h
  simp only [Bool.and_eq_true] at h
  exact has_range h.1
theorem two_iff {p : Nat → Prop} : (∃ k, k < 2 ∧ p k) ↔ p 0 ∨ p 1 := by
  constructor
  · rintro ⟨k, hk, h⟩
    match k, hk with
    | 0, _ => exact .inl h
    | 1, _ => exact .inr h
  · rintro (h | h)
    · exact ⟨0, by omega, h⟩
    · exact ⟨1, by omega, h⟩
theorem two_all {p : Nat → Prop} : (∀ k, k < 2 → p k) ↔ p 0 ∧ p 1 := by
  constructor
  · exact fun h => ⟨h 0 (by omega), h 1 (by omega)⟩
  · rintro ⟨h0, h1⟩ k hk
    match k, hk with
    | 0, _ => exact h0
    | 1, _ => exact h1
theorem way (T : Tab) (r : Rg) (rs : List Ru) (want : Int) : Way T r rs want (stepS T r rs want) := by
  cases hc : r.cr with
  | true =>
    have e : stepS T r rs want = ⟨acrS T r want (bS rs), 0, 0⟩ := by unfold stepS; rw [hc]; rfl
    rw [e]
    unfold acrS
    by_cases hb : bS rs = 0
    · rw [if_pos hb]; exact .over hc hb rfl
    · rw [if_neg hb]; exact .wait hc hb rfl
  | false =>
    have e : stepS T r rs want = stepL T r rs want (gS rs) (bS rs) (lnS T r want 0) (lnS T r want 1) := by unfold stepS; rw [hc]; rfl
    rw [e]
    obtain ⟨b0, hb0⟩ : ∃ x, begS T rs (bS rs) (lnS T r want 0) = x := ⟨_, rfl⟩
    obtain ⟨b1, hb1⟩ : ∃ x, begS T rs (bS rs) (lnS T r want 1) = x := ⟨_, rfl⟩
    obtain ⟨e0, he0⟩ : ∃ x, endS T rs want (gS rs) (lnS T r want 0) = x := ⟨_, rfl⟩
    obtain ⟨e1, he1⟩ : ∃ x, endS T rs want (gS rs) (lnS T r want 1) = x := ⟨_, rfl⟩
    have v0 : b0 = true → 0 ≤ (lnS T r want 0).t ∧ (lnS T r want 0).t < 8 := fun h => (beg_valid (hb0.trans h)).2
    have v1 : b1 = true → 0 ≤ (lnS T r want 1).t ∧ (lnS T r want 1).t < 8 := fun h => (beg_valid (hb1.trans h)).2
    have u0 : e0 = true → 0 ≤ (lnS T r want 0).n ∧ (lnS T r want 0).n < 8 := fun h => end_valid (he0.trans h)
    have u1 : e1 = true → 0 ≤ (lnS T r want 1).n ∧ (lnS T r want 1).n < 8 := fun h => end_valid (he1.trans h)
    unfold stepL
    rw [hb0, hb1, he0, he1]
    dsimp only
    by_cases hx : bits .or .i64 (stS b0 b1 (lnS T r want 0).t (lnS T r want 1).t) (stS e0 e1 (lnS T r want 0).n (lnS T r want 1).n) = 0 ∧ (setS rs (gS rs) (bS rs) (lnS T r want 0) = true ∧ setS rs (gS rs) (bS rs) (lnS T r want 1) = true) ∧ othS want (gS rs) = true
    · rw [if_pos hx]
      obtain ⟨rfl, rfl, rfl, rfl⟩ := st_none v0 v1 u0 u1 hx.1
      exact .cross hc (two_all.2 ⟨hb0, hb1⟩) (two_all.2 ⟨he0, he1⟩) (two_all.2 hx.2.1) hx.2.2 rfl
    · rw [if_neg hx]
      refine .go hc (by rw [hb0, hb1]) (fun p => ?_) (fun p => ?_) (fun q0 q1 q2 => ?_) ?_
      · dsimp only
        rw [st_has v0 v1, two_iff, hb0, hb1]
        simp
      · dsimp only
        rw [st_has u0 u1, two_iff, he0, he1]
        simp
      · rw [two_all, hb0, hb1] at q0
        rw [two_all, he0, he1] at q1
        obtain ⟨rfl, rfl⟩ := q0
        obtain ⟨rfl, rfl⟩ := q1
        cases ho : othS want (gS rs) with
        | false => rfl
        | true => exact absurd ⟨by show bits .or .i64 0 0 = 0; decide, two_all.1 q2, ho⟩ hx
      · obtain ⟨m, hm, hm2⟩ := st_nat b0 b1 (lnS T r want 0).t (lnS T r want 1).t
        obtain ⟨n, hn, hn2⟩ := st_nat e0 e1 (lnS T r want 0).n (lnS T r want 1).n
        exact ⟨m, n, hm, hm2, hn, hn2⟩
end Rg
namespace Rg
open Go Go.ChangeShapes Go.WideShapes Go.ChangeAt Go.RowKit
open Tab Flat TabArg QL Ru PlanM
open ChkM (cfAt)
open Clear (phAt)
open PlaceM (where_ spots Spt)
open May (infoP)
def rdB (r : Ru) : Bool := !buB r
def clsS (T : Tab) (p q : Int) : Bool := SetM.has (cfAt T p) q || SetM.has (cfAt T q) p
theorem red_any (r : Ru) (w : World) : Calls Try.prog 47 #[.agg (Ru.cells r).toArray] w fun e w' => e = .returned (.bool (rdB r)) ∧ Below w.heap.size w w' := by
  obtain ⟨co, hco⟩ : ∃ x, r.co = x := ⟨_, rfl⟩
  by_cases h1 : co = 1
  · subst h1
    have HE : Hid (rdB r = false) := Lib.hid (by unfold rdB buB; rw [hco]; rfl)
    have hn0 := Blk.Bks.nil w
    have hn1 := hn0.alloc (Ru.cells r).toArray 45
    clear hn0
    go_enter Try.func47, Try.ntmps47
    go_upto_region 1 with fail
    generalize World.alloc w _ = v at hn1 ⊢
    generalize hg0 : w.heap.size = gq at hn1 ⊢
    clear hg0
    have H0 := Lib.hid hn1
    clear hn1
    have c0 : v.cell? ⟨gq, 0, none⟩ = some (I r.co) := H0.out.cell 0 0 rfl rfl
    rw [hco] at c0
    go_wp2
    go_ret
    exact ⟨ret_bool (by first | exact HE.out.symm | (rw [HE.out]; simp [*])), H0.out.bel⟩
  by_cases h2 : co = 2
  · subst h2
    have HE : Hid (rdB r = false) := Lib.hid (by unfold rdB buB; rw [hco]; rfl)
    have hn0 := Blk.Bks.nil w
    have hn1 := hn0.alloc (Ru.cells r).toArray 45
    clear hn0
    go_enter Try.func47, Try.ntmps47
    go_upto_region 1 with fail
    generalize World.alloc w _ = v at hn1 ⊢
    generalize hg0 : w.heap.size = gq at hn1 ⊢
    clear hg0
    have H0 := Lib.hid hn1
    clear hn1
    have c0 : v.cell? ⟨gq, 0, none⟩ = some (I r.co) := H0.out.cell 0 0 rfl rfl
    rw [hco] at c0
    go_wp2
    go_ret
    exact ⟨ret_bool (by first | exact HE.out.symm | (rw [HE.out]; simp [*])), H0.out.bel⟩
  by_cases h3 : co = 3
  · subst h3
    have HE : Hid (rdB r = false) := Lib.hid (by unfold rdB buB; rw [hco]; rfl)
    have hn0 := Blk.Bks.nil w
    have hn1 := hn0.alloc (Ru.cells r).toArray 45
    clear hn0
    go_enter Try.func47, Try.ntmps47
    go_upto_region 1 with fail
    generalize World.alloc w _ = v at hn1 ⊢
    generalize hg0 : w.heap.size = gq at hn1 ⊢
    clear hg0
    have H0 := Lib.hid hn1
    clear hn1
    have c0 : v.cell? ⟨gq, 0, none⟩ = some (I r.co) := H0.out.cell 0 0 rfl rfl
    rw [hco] at c0
    go_wp2
    go_ret
    exact ⟨ret_bool (by first | exact HE.out.symm | (rw [HE.out]; simp [*])), H0.out.bel⟩
  have e1 : (co != 1) = true := bne_iff_ne.2 h1
  have e2 : (co != 2) = true := bne_iff_ne.2 h2
  have e3 : (co != 3) = true := bne_iff_ne.2 h3
  have HE : Hid (rdB r = true) := Lib.hid (by unfold rdB buB; rw [hco]; simp [h1, h2, h3])
  have hn0 := Blk.Bks.nil w
  have hn1 := hn0.alloc (Ru.cells r).toArray 45
  clear hn0
  go_enter Try.func47, Try.ntmps47
  go_upto_region 1 with fail
  generalize World.alloc w _ = v at hn1 ⊢
  generalize hg0 : w.heap.size = gq at hn1 ⊢
  clear hg0
  have H0 := Lib.hid hn1
  clear hn1
  have c0 : v.cell? ⟨gq, 0, none⟩ = some (I r.co) := H0.out.cell 0 0 rfl rfl
  rw [hco] at c0
  go_wp2
  go_ret
  exact ⟨ret_bool (by first | exact HE.out.symm | (rw [HE.out]; simp [*])), H0.out.bel⟩
theorem reds_any (rs : List Ru) (h8 : rs.length = 8) (w : World) : Calls Try.prog 16 #[.agg (runsC rs).toArray] w fun e w' => e = .returned (.int .i64 (thS rdB rs : Nat)) ∧ Below w.heap.size w w' := by
  have RS : Hid (((thS rdB rs : Nat) : Int) = (SetM.of (thTo rdB 0 (rs.take 8)) : Nat)) := Lib.hid (by rw [List.take_of_length_le (by omega)]; rfl)
  have L8 := Lib.hid h8
  have RL : Hid (∀ q, q < 8 → ∀ u gq, Lies u ⟨gq, 0, none⟩ (runsC rs) → Lies u ⟨gq, q * 12, none⟩ (ruAt rs q).cells) := Lib.hid (fun q hq u gq hl j v hj => by
    have := hl (q * 12 + j) v (runs_at h8 hq hj)
    rw [Addr.add_mid, Nat.zero_add] at this
    rwa [Addr.add_mid])
  generalize hrs : ((thS rdB rs : Nat) : Int) = res at RS ⊢
  clear hrs
  generalize runsC rs = fl at *
  clear h8
  have hn0 := Blk.Bks.nil w
  have hn1 := hn0.alloc fl.toArray 46
  clear hn0
  go_enter Try.func16, Try.ntmps16
  go_upto_region 1 with fail
  generalize World.alloc w _ = v at hn1 ⊢
  generalize hg0 : w.heap.size = gq at hn1 ⊢
  clear hg0
  have H0 := Lib.hid hn1
  clear hn1
  have LF : Hid (∀ W, Below v.heap.size v W → Lies W ⟨gq, 0, none⟩ fl) := Lib.hid (fun W hb => by have := (H0.out.step hb).lies 0 rfl; simpa using this)
  go_wp2
  go_loopw [3, 4] (fun s i wr => ∃ q : Nat, q ≤ 8 ∧ i = .int .i64 q ∧ s = .int .i64 (SetM.of (thTo rdB 0 (rs.take q)) : Nat) ∧ Below v.heap.size v wr) (fun _ i _ => 8 - (intOf i).toNat)
  case atStart => exact ⟨0, by omega, rfl, rfl, Below.refl _ _⟩
  case round =>
    obtain ⟨q, hq, rfl, rfl, hbel⟩ := hrel
    have HB := Lib.hid hbel
    clear hbel
    by_cases hlt : q < 8
    · have hv : rs[q]? = some (ruAt rs q) := ru_at L8.out hlt
      have LU := Lib.hid (RL.out q hlt wr gq (LF.out wr HB.out))
      generalize ruAt rs q = u at hv LU
      have HV := Lib.hid hv
      have hq8 : (q : Int) < 8 := by omega
      clear hv
      go_wp2_with (refine Row.wpList_load_g 45 _ rfl (by first | rfl | (go_simp; done) | fail) ⟨gq, q * 12, none⟩ rfl u.cells _ LU.out Try.underlying45 rfl infoRu ?_)
      refine (red_any u _).mono ?_
      rintro e w5 ⟨rfl, b5⟩
      have HN := Lib.hid (HB.out.trans (b5.mono HB.out.size))
      clear b5 HB LU
      cases hon : rdB u with
      | true =>
        have HS := Lib.hid (th_with HV.out hon)
        clear hon
        generalize SetM.of (thTo rdB 0 (rs.take q)) = s0 at HS ⊢
        go_wp2_with fail
        refine (RefS.rwith_any _ _ _).mono ?_
        rintro e w6 ⟨rfl, b6⟩
        have HN6 := Lib.hid (HN.out.trans (b6.mono HN.out.size))
        clear b6 HN
        go_wp2
        go_roundw
        case rel => exact ⟨q + 1, by omega, by go_num, by rw [← HS.out], HN6.out⟩
        case measure => simp [intOf]; omega
      | false =>
        have HS := Lib.hid (th_skip HV.out hon)
        clear hon
        generalize SetM.of (thTo rdB 0 (rs.take q)) = s0 at HS ⊢
        go_wp2
        go_roundw
        case rel => exact ⟨q + 1, by omega, by go_num, by rw [← HS.out], HN.out⟩
        case measure => simp [intOf]; omega
    · obtain rfl : q = 8 := by omega
      have HE : Hid (((SetM.of (thTo rdB 0 (rs.take 8)) : Nat) : Int) = res) := Lib.hid RS.out.symm
      generalize SetM.of (thTo rdB 0 (rs.take 8)) = s0 at HE ⊢
      go_wp2
      go_ret
      exact ⟨ret_int HE.out, H0.out.bel.trans (HB.out.mono H0.out.bel.size)⟩
theorem clash_any (T : Tab) (hd : Hd) (p q : Nat) (hp : p < 8) (hq : q < 8) (w : World) (ht : IsTab w hd T) : Calls Try.prog 15 #[.agg (T.cells hd).toArray, .int .i64 p, .int .i64 q] w fun e w' => e = .returned (.bool (clsS T p q)) ∧ Below w.heap.size w w' := by
  have h1 : (T.cells hd).length = 131 := by have := (cells_ok ht).size; rwa [List.size_toArray] at this
  have LCF : Hid (∀ p : Nat, p < 8 → ∀ u gt, Lies u ⟨gt, 0, none⟩ (T.cells hd) → u.cell? ⟨gt, 105 + p, none⟩ = some (I (cfAt T p))) := Lib.hid (fun p hp u gt hl => by
    have := hl (105 + p) _ (tab_cf ht hp)
    rwa [Addr.add_mid, Nat.zero_add] at this)
  have HR : Hid (clsS T p q = (SetM.has (cfAt T p) q || SetM.has (cfAt T q) p)) := Lib.hid rfl
  generalize clsS T p q = res at HR ⊢
  generalize T.cells hd = tc at *
  generalize hcp : cfAt T p = cp at *
  generalize hcq : cfAt T q = cq at *
  clear ht
  have hn0 := Blk.Bks.nil w
  have hn1 := hn0.alloc tc.toArray 32
  clear hn0
  go_enter Try.func15, Try.ntmps15
  go_upto_region 1 with fail
  generalize World.alloc w _ = v at hn1 ⊢
  generalize hg0 : w.heap.size = gt at hn1 ⊢
  clear hg0
  have H0 := Lib.hid hn1
  clear hn1
  have LT := Lib.hid (show Lies v ⟨gt, 0, none⟩ tc by have := H0.out.lies 0 rfl; simpa using this)
  have c0 : v.cell? ⟨gt, 105 + p, none⟩ = some (I cp) := by rw [← hcp]; exact LCF.out p hp v gt LT.out
  have c1 : v.cell? ⟨gt, 105 + q, none⟩ = some (I cq) := by rw [← hcq]; exact LCF.out q hq v gt LT.out
  have hp8 : (p : Int) < 8 := by omega
  have hq8 : (q : Int) < 8 := by omega
  clear hcp hcq LCF LT
  obtain ⟨x, hx⟩ : ∃ b, SetM.has cp q = b := ⟨_, rfl⟩
  obtain ⟨y, hy⟩ : ∃ b, SetM.has cq p = b := ⟨_, rfl⟩
  have HA : Hid (∀ W, Calls Try.prog 14 #[.int .i64 cp, .int .i64 q] W fun e w' => e = .returned (.bool x) ∧ W = w') := Lib.hid (fun W => by rw [← hx]; exact RefS.rhas_any _ _ W)
  have HB : Hid (∀ W, Calls Try.prog 14 #[.int .i64 cq, .int .i64 p] W fun e w' => e = .returned (.bool y) ∧ W = w') := Lib.hid (fun W => by rw [← hy]; exact RefS.rhas_any _ _ W)
  rw [hx, hy] at HR
  clear hx hy
  cases x
  · cases y
    · go_wp2_with (first | (go_at_call 14; with_reducible refine (HA.out _).mono ?_; rintro e w' ⟨rfl, rfl⟩) | (go_at_call 14; with_reducible refine (HB.out _).mono ?_; rintro e w' ⟨rfl, rfl⟩))
      go_ret
      exact ⟨ret_bool (by rw [HR.out]; rfl), H0.out.bel⟩
    · go_wp2_with (first | (go_at_call 14; with_reducible refine (HA.out _).mono ?_; rintro e w' ⟨rfl, rfl⟩) | (go_at_call 14; with_reducible refine (HB.out _).mono ?_; rintro e w' ⟨rfl, rfl⟩))
      go_ret
      exact ⟨ret_bool (by rw [HR.out]; rfl), H0.out.bel⟩
  · skip
    go_wp2_with (first | (go_at_call 14; with_reducible refine (HA.out _).mono ?_; rintro e w' ⟨rfl, rfl⟩) | (go_at_call 14; with_reducible refine (HB.out _).mono ?_; rintro e w' ⟨rfl, rfl⟩))
    go_ret
    exact ⟨ret_bool (by rw [HR.out]; rfl), H0.out.bel⟩
end Rg
namespace Rg
open Go Tab PlanM Ru
open ChkM (cfAt)
open Clear (phAt)
open PlaceM (where_ spots Spt)
theorem bs_has {rs : List Ru} (h8 : rs.length = 8) (p : Int) : SetM.has (bS rs) p = (decide (0 ≤ p ∧ p < 8) && buB (ruAt rs p)) := th_has h8 p
theorem gs_has {rs : List Ru} (h8 : rs.length = 8) (p : Int) : SetM.has (gS rs) p = (decide (0 ≤ p ∧ p < 8) && grB (ruAt rs p)) := th_has h8 p
theorem bs_in {rs : List Ru} (h8 : rs.length = 8) {p : Int} (hp : 0 ≤ p ∧ p < 8) : SetM.has (bS rs) p = buB (ruAt rs p) := by rw [bs_has h8, decide_eq_true hp, Bool.true_and]
theorem gs_in {rs : List Ru} (h8 : rs.length = 8) {p : Int} (hp : 0 ≤ p ∧ p < 8) : SetM.has (gS rs) p = grB (ruAt rs p) := by rw [gs_has h8, decide_eq_true hp, Bool.true_and]
theorem beg_iff {T : Tab} {rs : List Ru} {bu : Int} {l : Ln} : begS T rs bu l = true ↔ SetM.has bu l.n = false ∧ 0 ≤ l.x ∧ SetM.has bu l.t = false ∧ T.revert ≤ (ruAt rs l.t).tm ∧ bits .and .i64 (cfAt T l.t) bu = 0 := by
  unfold begS
  simp only [Bool.and_eq_true, Bool.not_eq_true', decide_eq_true_eq]
section
variable {T : Tab} (G : Gd T) {r : Rg} {g : Nat} (hg : r.g = g) {rs : List Ru} (h8 : rs.length = 8) {want : Int}
include G hg h8
end
/-! ### the runs of a tick -/
def cueS (st en pr p : Int) : Cu := ⟨SetM.has st p, SetM.has en p, false, false, SetM.has pr p, false, false, false⟩
def runsS (T : Tab) (rs : List Ru) (st en pr : Int) : List Ru := GenT.upd (fun p => stp (phAt T (p : Nat)) (ruAt rs (p : Nat)) (cueS st en pr (p : Nat))) zRu 8
theorem runs_len8 (T : Tab) (rs : List Ru) (st en pr : Int) : (runsS T rs st en pr).length = 8 := GenT.upd_len _ _ _
theorem runs_get (T : Tab) (rs : List Ru) (st en pr : Int) {p : Int} (hp : 0 ≤ p ∧ p < 8) : ruAt (runsS T rs st en pr) p = stp (phAt T p) (ruAt rs p) (cueS st en pr p) := by
  obtain ⟨k, rfl⟩ := Int.eq_ofNat_of_zero_le hp.1
  unfold ruAt runsS
  rw [Int.toNat_natCast, List.getD_eq_getElem?_getD, GenT.upd_at _ _ _ _ (by omega), if_pos (by omega)]
  rfl
/-- a phase that is not Red was not, or begins -/
theorem stp_bu {p : Ph} {u : Ru} {c : Cu} (h : buB (stp p u c) = true) : buB u = true ∨ c.st = true := by
  by_cases hb : buB u = true
  · exact .inl hb
  · right
    unfold buB at hb
    simp only [Bool.or_eq_true, beq_iff_eq, not_or] at hb
    unfold stp at h
    rw [if_neg hb.1, if_neg hb.2.1, if_neg hb.2.2] at h
    unfold rdR at h
    cases hs : c.st with
    | true => rfl
    | false =>
      rw [hs] at h
      have h' : buB (lst u 0) = true := h
      exact absurd h' (by unfold buB lst; simp)
/-- a green phase was green and did not end, or begins -/
theorem stp_gr {p : Ph} {u : Ru} {c : Cu} (h : grB (stp p u c) = true) : (grB u = true ∧ c.en = false) ∨ (buB u = false ∧ c.st = true) := by
  unfold grB at h
  rw [beq_iff_eq] at h
  unfold stp at h
  by_cases h1 : u.co = 1
  · rw [if_pos h1] at h
    cases he : c.en with
    | true => rw [he] at h; exact absurd h (by show ¬ (2 : Int) = 1; decide)
    | false => exact .inl ⟨by unfold grB; rw [h1]; rfl, rfl⟩
  · rw [if_neg h1] at h
    by_cases h2 : u.co = 2
    · rw [if_pos h2] at h
      unfold yel at h
      split at h
      · exact absurd h (by show ¬ (2 : Int) = 1; decide)
      · split at h
        · exact absurd h (by show ¬ (3 : Int) = 1; decide)
        · exact absurd h (by show ¬ (0 : Int) = 1; decide)
    · rw [if_neg h2] at h
      by_cases h3 : u.co = 3
      · rw [if_pos h3] at h
        unfold cle at h
        split at h
        · exact absurd h (by show ¬ (3 : Int) = 1; decide)
        · exact absurd h (by show ¬ (0 : Int) = 1; decide)
      · rw [if_neg h3] at h
        have hb : buB u = false := by unfold buB; simp [h1, h2, h3]
        unfold rdR at h
        cases hs : c.st with
        | true => exact .inr ⟨hb, rfl⟩
        | false => rw [hs] at h; exact absurd h (by show ¬ (0 : Int) = 1; decide)
/-- What a tick keeps. -/
structure Inv (T : Tab) (r : Rg) (rs : List Ru) : Prop where
  len : rs.length = 8
  g0 : 0 ≤ r.g ∧ r.g < (T.groups.length : Int)
  at0 : ∀ k : Nat, k < 2 → -1 ≤ r.at k ∧ r.at k < ((ringAt T r.g k).length : Int)
  red : ∀ p : Int, 0 ≤ p ∧ p < 8 → buB (ruAt rs p) = true → ∃ k, k < 2 ∧ nowS T r.g k (r.at k) = p
  cr : r.cr = true → ∀ p : Int, 0 ≤ p ∧ p < 8 → grB (ruAt rs p) = false
theorem follow_in {T : Tab} (hl : 0 < T.groups.length) (g want : Int) (h : ¬ followS T g want < 0) : 0 ≤ followS T g want ∧ followS T g want < (T.groups.length : Int) := by
  refine ⟨by omega, ?_⟩
  unfold followS at h ⊢
  split
  · exact Int.emod_lt_of_pos _ (by omega)
  · omega
theorem at_atS (r : Rg) (b0 b1 : Bool) (x0 x1 : Int) {k : Nat} (hk : k < 2) : (atS r b0 b1 x0 x1).at k = if (if k = 0 then b0 else b1) = true then (if k = 0 then x0 else x1) else r.at k := by
  match k, hk with
  | 0, _ => rfl
  | 1, _ => rfl
theorem inv_tick {T : Tab} (G : Gd T) {r : Rg} {rs : List Ru} (I : Inv T r rs) (want pr : Int) : Inv T (stepS T r rs want).r (runsS T rs (stepS T r rs want).st (stepS T r rs want).en pr) := by
  obtain ⟨g, hg⟩ := Int.eq_ofNat_of_zero_le I.g0.1
  have h8 := I.len
  have W := way T r rs want
  generalize stepS T r rs want = S at W
  have busy : ∀ p : Int, 0 ≤ p ∧ p < 8 → buB (ruAt (runsS T rs S.st S.en pr) p) = true → buB (ruAt rs p) = true ∨ SetM.has S.st p = true := fun p hp h => by
    rw [runs_get _ _ _ _ _ hp] at h
    exact stp_bu h
  have green : ∀ p : Int, 0 ≤ p ∧ p < 8 → grB (ruAt (runsS T rs S.st S.en pr) p) = true → (grB (ruAt rs p) = true ∧ SetM.has S.en p = false) ∨ SetM.has S.st p = true := fun p hp h => by
    rw [runs_get _ _ _ _ _ hp] at h
    exact (stp_gr h).imp id And.right
  cases W with
  | wait hc hb h =>
    subst h
    refine ⟨runs_len8 _ _ _ _ _, I.g0, I.at0, fun p hp h => ?_, fun _ p hp => ?_⟩
    · rcases busy p hp h with h | h
      · exact I.red p hp h
      · rw [has_zero] at h; cases h
    · cases hgr : grB (ruAt (runsS T rs 0 0 pr) p) with
      | false => rfl
      | true =>
        rcases green p hp hgr with h | h
        · rw [I.cr hc p hp] at h; cases h.1
        · rw [has_zero] at h; cases h
  | over hc hb h =>
    subst h
    refine ⟨runs_len8 _ _ _ _ _, ?_, ?_, fun p hp h => ?_, fun h => by cases h⟩
    · show 0 ≤ (if followS T r.g want < 0 then r.g else followS T r.g want) ∧ _
      split
      · exact I.g0
      · rename_i hf
        have := follow_in G.gl r.g want hf
        exact this
    · intro k hk
      have e : (Rg.mk (if followS T r.g want < 0 then r.g else followS T r.g want) (-1) (-1) false).at k = -1 := by
        match k, hk with
        | 0, _ => rfl
        | 1, _ => rfl
      dsimp only
      rw [e]
      omega
    · exfalso
      rcases busy p hp h with h | h
      · rw [← bs_in h8 hp, hb, has_zero] at h; cases h
      · rw [has_zero] at h; cases h
  | cross hc hb he hs ho h =>
    subst h
    refine ⟨runs_len8 _ _ _ _ _, I.g0, fun k hk => ?_, fun p hp h => ?_, fun _ p hp => ?_⟩
    · have := I.at0 k hk
      match k, hk with
      | 0, _ => exact this
      | 1, _ => exact this
    · rcases busy p hp h with h | h
      · obtain ⟨k, hk, e⟩ := I.red p hp h
        refine ⟨k, hk, ?_⟩
        match k, hk with
        | 0, _ => exact e
        | 1, _ => exact e
      · rw [has_zero] at h; cases h
    · cases hgr : grB (ruAt (runsS T rs 0 (gS rs) pr) p) with
      | false => rfl
      | true =>
        rcases green p hp hgr with h | h
        · rw [gs_in h8 hp, h.1] at h; cases h.2
        · rw [has_zero] at h; cases h
  | go hc hr hst hen hn hnat =>
    have atk : ∀ k, k < 2 → S.r.at k = if begS T rs (bS rs) (lnS T r want k) = true then (lnS T r want k).x else r.at k := fun k hk => by
      rw [hr, at_atS _ _ _ _ _ hk]
      match k, hk with
      | 0, _ => rfl
      | 1, _ => rfl
    have hgg : S.r.g = r.g := by rw [hr]; rfl
    refine ⟨runs_len8 _ _ _ _ _, by rw [hgg]; exact I.g0, fun k hk => ?_, fun p hp h => ?_, fun h => by rw [hr] at h; rw [show (atS r _ _ _ _).cr = r.cr from rfl, hc] at h; cases h⟩
    · rw [atk k hk, hgg]
      split
      · rename_i hb
        obtain ⟨i, hx, hi, _⟩ := G.ln_spec hg k (beg_iff.1 hb).2.1
        have := (List.getElem?_eq_some_iff.1 hi).1
        rw [hx, hg]
        omega
      · exact I.at0 k hk
    · rw [hgg]
      rcases busy p hp h with h | h
      · obtain ⟨k, hk, e⟩ := I.red p hp h
        refine ⟨k, hk, ?_⟩
        rw [atk k hk, if_neg, e]
        intro hb
        have h1 := (beg_iff.1 hb).1
        rw [show (lnS T r want k).n = p from e, bs_in h8 hp, h] at h1
        cases h1
      · obtain ⟨k, hk, hb, rfl⟩ := (hst p).1 h
        refine ⟨k, hk, ?_⟩
        rw [atk k hk, if_pos hb]
        rfl
/-- two that conflict are never both other than Red -/
theorem inv_clash {T : Tab} (G : Gd T) {r : Rg} {rs : List Ru} (I : Inv T r rs) {p q : Int} (hp : 0 ≤ p ∧ p < 8) (hq : 0 ≤ q ∧ q < 8) (hc : clsS T p q = true) : buB (ruAt rs p) = false ∨ buB (ruAt rs q) = false := by
  cases bp : buB (ruAt rs p) with
  | false => exact .inl rfl
  | true =>
    cases bq : buB (ruAt rs q) with
    | false => exact .inr rfl
    | true =>
      exfalso
      obtain ⟨g, hg⟩ := Int.eq_ofNat_of_zero_le I.g0.1
      obtain ⟨k, hk, e1⟩ := I.red p hp bp
      obtain ⟨k', hk', e2⟩ := I.red q hq bq
      rw [hg] at e1 e2
      have hcf : SetM.has (cfAt T p) q = true := by
        unfold clsS at hc
        rw [Bool.or_eq_true] at hc
        exact hc.elim id (fun h => (G.cf q p hq h).1)
      obtain ⟨_, hne, hbs⟩ := G.cf p q hp hcf
      rcases G.now_spec g k (r.at k) with ⟨h1, _⟩ | ⟨i, _, hi⟩
      · omega
      · rcases G.now_spec g k' (r.at k') with ⟨h1, _⟩ | ⟨i', _, hi'⟩
        · omega
        · rw [e1] at hi
          rw [e2] at hi'
          by_cases hkk : k = k'
          · subst hkk
            exact hne (e1.symm.trans e2)
          · rw [G.beside hi hi' hkk] at hbs
            cases hbs
theorem bgn_bu (p : Ph) : buB (bgn p) = false := rfl
theorem inv_start {T : Tab} (G : Gd T) : Inv T ⟨0, -1, -1, false⟩ (begunS T) := by
  refine ⟨begun_len T, ⟨by show (0 : Int) ≤ 0; omega, by show (0 : Int) < _; have := G.gl; omega⟩, fun k hk => ?_, fun p hp h => ?_, fun h => by cases h⟩
  · have e : (Rg.mk 0 (-1) (-1) false).at k = -1 := by
      match k, hk with
      | 0, _ => rfl
      | 1, _ => rfl
    rw [e]; omega
  · obtain ⟨k, rfl⟩ := Int.eq_ofNat_of_zero_le hp.1
    rw [begun_at T (by omega), bgn_bu] at h
    cases h
end Rg
namespace Rg
open Go Go.ChangeShapes Go.WideShapes Go.ChangeAt Go.RowKit
open Tab Flat TabArg QL Ru PlanM
open ChkM (cfAt)
open Clear (phAt)
open PlaceM (where_ spots Spt)
open May (infoP)
def pC (tc : List Value) (r : Rg) (rc : List Value) (cnt : List Int) (cross : Int) : List Value := tc ++ (r.cells ++ (rc ++ (cnt.map I ++ [I cross])))
structure PB (u : World) (g : Nat) (tc : List Value) (r : Rg) (rc : List Value) (cnt : List Int) (cross : Int) : Prop where
  lt : Lies u ⟨g, 0, none⟩ tc
  lr : Lies u ⟨g, 131, none⟩ r.cells
  ln : Lies u ⟨g, 135, none⟩ rc
  rc3 : u.cell? ⟨g, 134, none⟩ = some (.bool r.cr)
  ct : ∀ (p : Nat) (x : Int), cnt[p]? = some x → u.cell? ⟨g, 231 + p, none⟩ = some (I x)
  cx : u.cell? ⟨g, 239, none⟩ = some (I cross)
section
variable {tc : List Value} {r : Rg} {rc : List Value} {cnt : List Int} {cross : Int} (h1 : tc.length = 131) (h2 : rc.length = 96) (h3 : cnt.length = 8)
include h1 h2 h3
theorem pC_len : (pC tc r rc cnt cross).length = 240 := by simp [pC, Rg.cells, h1, h2, h3]
omit h3 in
theorem pC_at {k : Nat} {l : List Value} (h : ∃ a b, pC tc r rc cnt cross = a ++ (l ++ b) ∧ a.length = k) : ((pC tc r rc cnt cross).toArray.toList.drop k).take l.length = l := by
  obtain ⟨a, b, e, hk⟩ := h
  rw [List.toList_toArray, e, List.drop_left' hk, List.take_left]
theorem pb {w u : World} {L : List Blk.Bl} (h : Blk.Bks w L u) (i : Nat) {g : Nat} {ty : TypeId} (hi : L[i]? = some (g, (pC tc r rc cnt cross).toArray, ty)) : PB u g tc r rc cnt cross := by
  have t1 := pC_at (r := r) (cnt := cnt) (cross := cross) h1 h2 (k := 0) (l := tc) ⟨[], _, rfl, rfl⟩
  have t2 := pC_at (r := r) (cnt := cnt) (cross := cross) h1 h2 (k := 131) (l := r.cells) ⟨tc, _, rfl, h1⟩
  have t3 := pC_at (r := r) (cnt := cnt) (cross := cross) h1 h2 (k := 135) (l := rc) ⟨tc ++ r.cells, cnt.map I ++ [I cross], by simp [pC], by simp [h1, Rg.cells]⟩
  have t4 := pC_at (r := r) (cnt := cnt) (cross := cross) h1 h2 (k := 231) (l := cnt.map I) ⟨tc ++ (r.cells ++ rc), [I cross], by simp [pC], by simp [h1, h2, Rg.cells]⟩
  have t5 := pC_at (r := r) (cnt := cnt) (cross := cross) h1 h2 (k := 239) (l := [I cross]) ⟨tc ++ (r.cells ++ (rc ++ cnt.map I)), [], by simp [pC], by simp [h1, h2, h3, Rg.cells]⟩
  refine ⟨seg h i 0 hi _ t1, seg h i 131 hi _ t2, seg h i 135 hi _ t3, h.cell i 134 hi (at_take t2 3 rfl), fun p x hp => h.cell i (231 + p) hi (at_take t4 p (by rw [List.getElem?_map, hp]; rfl)), h.cell i 239 hi (at_take t5 0 rfl)⟩
theorem pC_cross (x : Int) : (pC tc r rc cnt cross).toArray.setIfInBounds 239 (I x) = (pC tc r rc cnt x).toArray := by
  apply Array.ext'
  rw [Array.toList_setIfInBounds, List.toList_toArray, List.toList_toArray]
  unfold pC
  rw [List.set_append_right _ _ (by rw [h1]; omega), List.set_append_right _ _ (by simp [h1, Rg.cells]), List.set_append_right _ _ (by simp [h1, h2, Rg.cells]), List.set_append_right _ _ (by simp [h1, h2, h3, Rg.cells])]
  simp [h1, h2, h3, Rg.cells]
theorem pC_cnt {p : Nat} (hp : p < 8) (x : Int) : (pC tc r rc cnt cross).toArray.setIfInBounds (231 + p) (I x) = (pC tc r rc (cnt.set p x) cross).toArray := by
  apply Array.ext'
  rw [Array.toList_setIfInBounds, List.toList_toArray, List.toList_toArray]
  unfold pC
  rw [List.set_append_right _ _ (by rw [h1]; omega), List.set_append_right _ _ (by simp [h1, Rg.cells]; omega), List.set_append_right _ _ (by simp [h1, h2, Rg.cells]; omega), List.set_append_left _ _ (by simp [h1, h2, h3, Rg.cells]; omega)]
  rw [← List.map_set]
  simp [h1, h2, Rg.cells]
  congr 5
  omega
theorem pC_put (r' : Rg) : ((pC tc r rc cnt cross).toArray.toList.take 131 ++ r'.cells.toArray.toList ++ (pC tc r rc cnt cross).toArray.toList.drop (131 + r'.cells.toArray.size)).toArray = (pC tc r' rc cnt cross).toArray := by
  apply Array.ext'
  have e1 : (pC tc r rc cnt cross).take 131 = tc := by unfold pC; exact List.take_left' h1
  have e2 : (pC tc r rc cnt cross).drop (131 + 4) = rc ++ (cnt.map I ++ [I cross]) := by
    unfold pC
    rw [← List.drop_drop, List.drop_left' h1, List.drop_left' (show r.cells.length = 4 from rfl)]
  rw [List.toList_toArray, List.toList_toArray, List.toList_toArray, List.toList_toArray, e1, show r'.cells.toArray.size = 4 from rfl, e2]
  simp [pC]
end
theorem pC_run {tc : List Value} {r : Rg} {rs : List Ru} {cnt : List Int} {cross : Int} (h1 : tc.length = 131) (h8 : rs.length = 8) {p : Nat} (hp : p < 8) (u : Ru) : ((pC tc r (runsC rs) cnt cross).toArray.toList.take (135 + p * 12) ++ u.cells.toArray.toList ++ (pC tc r (runsC rs) cnt cross).toArray.toList.drop (135 + p * 12 + u.cells.toArray.size)).toArray = (pC tc r (runsC (rs.set p u)) cnt cross).toArray := by
  apply Array.ext'
  have hl : (runsC rs).length = 96 := by rw [runs_len, h8]
  have hc : (tc ++ r.cells).length = 135 := by simp [h1, Rg.cells]
  have e0 : ∀ rc, pC tc r rc cnt cross = (tc ++ r.cells) ++ (rc ++ (cnt.map I ++ [I cross])) := fun rc => by simp [pC]
  rw [List.toList_toArray, List.toList_toArray, List.toList_toArray, List.toList_toArray, runs_set _ _ _ (by omega), e0, e0, show u.cells.toArray.size = 12 from rfl]
  have e1 : ((tc ++ r.cells) ++ (runsC rs ++ (cnt.map I ++ [I cross]))).take (135 + p * 12) = (tc ++ r.cells) ++ (runsC rs).take (p * 12) := by
    rw [← hc, take_len, List.take_append_of_le_length (by omega)]
  have e2 : ((tc ++ r.cells) ++ (runsC rs ++ (cnt.map I ++ [I cross]))).drop (135 + p * 12 + 12) = (runsC rs).drop (p * 12 + 12) ++ (cnt.map I ++ [I cross]) := by
    rw [Nat.add_assoc, ← hc, drop_len, List.drop_append_of_le_length (by omega)]
  rw [e1, e2]
  simp [List.append_assoc]
/-! a list that is written place by place -/
def mix {α : Type} (f o : Nat → α) (q : Nat) : List α := (List.range 8).map fun i => if i < q then f i else o i
theorem mix_len {α : Type} (f o : Nat → α) (q : Nat) : (mix f o q).length = 8 := by simp [mix]
theorem mix_at {α : Type} (f o : Nat → α) (q : Nat) {i : Nat} (h : i < 8) : (mix f o q)[i]? = some (if i < q then f i else o i) := by
  unfold mix
  rw [List.getElem?_map, List.getElem?_range h]; rfl
theorem mix_set {α : Type} (f o : Nat → α) (q : Nat) : (mix f o q).set q (f q) = mix f o (q + 1) := by
  apply List.ext_getElem?
  intro i
  by_cases hi : i < 8
  · rw [List.getElem?_set, mix_at f o (q + 1) hi]
    by_cases e : q = i
    · subst e; rw [if_pos rfl, mix_len, if_pos hi, if_pos (by omega)]
    · rw [if_neg e, mix_at f o q hi]
      by_cases h : i < q
      · rw [if_pos h, if_pos (by omega)]
      · rw [if_neg h, if_neg (by omega)]
  · rw [List.getElem?_eq_none (by rw [List.length_set, mix_len]; omega), List.getElem?_eq_none (by rw [mix_len]; omega)]
theorem mix_zero {α : Type} (f : Nat → α) {l : List α} (h : l.length = 8) {o : Nat → α} (ho : ∀ i, i < 8 → l[i]? = some (o i)) : mix f o 0 = l := by
  apply List.ext_getElem?
  intro i
  by_cases hi : i < 8
  · rw [mix_at f o 0 hi, if_neg (by omega), ho i hi]
  · rw [List.getElem?_eq_none (by rw [mix_len]; omega), List.getElem?_eq_none (by omega)]
theorem mix_upd {α : Type} (f o : Nat → α) (z : α) : mix f o 8 = GenT.upd f z 8 := by
  unfold mix GenT.upd
  apply List.map_congr_left
  intro i hi
  have := List.mem_range.1 hi
  rw [if_pos this, if_pos this]
theorem mix_skip {α : Type} (f o : Nat → α) (q : Nat) (h : f q = o q) : mix f o (q + 1) = mix f o q := by
  unfold mix
  apply List.map_congr_left
  intro i hi
  by_cases e : i < q
  · rw [if_pos e, if_pos (by omega)]
  · by_cases e2 : i = q
    · subst e2; rw [if_pos (by omega), if_neg e, h]
    · rw [if_neg e, if_neg (by omega)]
theorem builtC (a b c : Bool) : Try.prog.built 107 [(0, .bool a), (1, .bool b), (4, .bool c)] = some (Cu.cells ⟨a, b, false, false, c, false, false, false⟩).toArray := by kernel_rfl
theorem one_cu (c : Cu) : c.cells.toArray.all (·.oneCell') = true := by simp [Cu.cells, Value.oneCell']
end Rg
namespace Rg
open Go Tab PlanM Ru
open Go.RowKit
open ChkM (cfAt)
open Clear (phAt)
open PlaceM (where_ spots Spt)
/-- the counts after a tick -/
def cntS (cnt : List Int) (st : Int) : List Int := GenT.upd (fun p => cnt.getD p 0 + if SetM.has st (p : Nat) = true then 1 else 0) 0 8
/-- the crossings after a tick -/
def crS (cross : Int) (a b : Bool) : Int := if b && !a then cross + 1 else cross
theorem cnt_len (cnt : List Int) (st : Int) : (cntS cnt st).length = 8 := GenT.upd_len _ _ _
theorem cnt_get (cnt : List Int) (st : Int) {p : Nat} (hp : p < 8) : (cntS cnt st).getD p 0 = cnt.getD p 0 + if SetM.has st (p : Nat) = true then 1 else 0 := by
  unfold cntS
  rw [List.getD_eq_getElem?_getD, GenT.upd_at _ _ _ _ (by omega), if_pos (by omega)]
  rfl
structure CI (T : Tab) (r : Rg) (cnt : List Int) : Prop where
  len : cnt.length = 8
  out : ∀ p : Nat, p < 8 → cnt.getD p 0 = 0 ∨ (cnt.getD p 0 = 1 ∧ r.cr = false ∧ ∃ k i : Nat, k < 2 ∧ (ringAt T r.g k)[i]? = some (p : Int) ∧ (i : Int) ≤ r.at k)
theorem ci_zero (T : Tab) (r : Rg) : CI T r (List.replicate 8 0) := ⟨by simp, fun p hp => .inl (by rw [List.getD_eq_getElem?_getD, List.getElem?_replicate]; split <;> rfl)⟩
theorem CI.small {T : Tab} {r : Rg} {cnt : List Int} (C : CI T r cnt) {p : Nat} (hp : p < 8) : 0 ≤ cnt.getD p 0 ∧ cnt.getD p 0 ≤ 1 := by
  rcases C.out p hp with h | h
  · omega
  · have := h.1; omega
theorem CI.all {T : Tab} {r : Rg} {cnt : List Int} (C : CI T r cnt) : ∀ x ∈ cnt, 0 ≤ x ∧ x ≤ 1000000000 := fun x hx => by
  obtain ⟨p, hp, rfl⟩ := List.getElem_of_mem hx
  have := C.small (p := p) (by rw [← C.len]; exact hp)
  rw [List.getD_eq_getElem?_getD, List.getElem?_eq_getElem hp] at this
  simp only [Option.getD_some] at this
  omega
/-- who counts, counts for a phase that its ring has come to -/
theorem CI.none {T : Tab} {r : Rg} {cnt : List Int} (C : CI T r cnt) (h : r.cr = true) {p : Nat} (hp : p < 8) : cnt.getD p 0 = 0 := by
  rcases C.out p hp with h' | h'
  · exact h'
  · rw [h'.2.1] at h; cases h
theorem CI.zero {T : Tab} {r r' : Rg} {cnt cnt' : List Int} (C : CI T r cnt) (h : r.cr = true) (hl : cnt'.length = 8) (he : ∀ p : Nat, p < 8 → cnt'.getD p 0 = cnt.getD p 0) : CI T r' cnt' := ⟨hl, fun p hp => .inl ((he p hp).trans (C.none h hp))⟩
theorem cnt_no (cnt : List Int) {p : Nat} (hp : p < 8) : (cntS cnt 0).getD p 0 = cnt.getD p 0 := by
  rw [cnt_get _ _ hp, has_zero]; simp
theorem ci_tick {T : Tab} (G : Gd T) {r : Rg} {rs : List Ru} (I : Inv T r rs) {cnt : List Int} (C : CI T r cnt) (want : Int) : CI T (stepS T r rs want).r (if (stepS T r rs want).r.cr = true ∧ r.cr = false then List.replicate 8 0 else cntS cnt (stepS T r rs want).st) := by
  obtain ⟨g, hg⟩ := Int.eq_ofNat_of_zero_le I.g0.1
  have W := way T r rs want
  generalize stepS T r rs want = S at W
  cases W with
  | wait hc hb h =>
    subst h
    rw [if_neg (show ¬ (_ = true ∧ r.cr = false) from fun h => by rw [hc] at h; cases h.2)]
    exact C.zero hc (cnt_len _ _) fun p hp => cnt_no _ hp
  | over hc hb h =>
    subst h
    rw [if_neg (show ¬ (_ = true ∧ r.cr = false) from fun h => by rw [hc] at h; cases h.2)]
    exact C.zero hc (cnt_len _ _) fun p hp => cnt_no _ hp
  | cross hc hb he hs ho h =>
    subst h
    rw [if_pos ⟨rfl, hc⟩]
    exact ci_zero _ _
  | go hc hr hst hen hn hnat =>
    have hcr : S.r.cr = false := by rw [hr]; exact hc
    have hgg : S.r.g = r.g := by rw [hr]; rfl
    rw [if_neg (by rintro ⟨h, -⟩; rw [hcr] at h; cases h)]
    have at' : ∀ k, k < 2 → r.at k ≤ S.r.at k := fun k hk => by
      rw [hr]
      match k, hk with
      | 0, _ =>
        show r.a0 ≤ if begS T rs (bS rs) (lnS T r want 0) = true then (lnS T r want 0).x else r.a0
        split
        · rename_i hb
          obtain ⟨i, h1, h2, h3, _⟩ := G.ln_spec hg (want := want) 0 (beg_valid hb).1
          have h3' : r.a0 < i := h3
          rw [h1]; omega
        · omega
      | 1, _ =>
        show r.a1 ≤ if begS T rs (bS rs) (lnS T r want 1) = true then (lnS T r want 1).x else r.a1
        split
        · rename_i hb
          obtain ⟨i, h1, h2, h3, _⟩ := G.ln_spec hg (want := want) 1 (beg_valid hb).1
          have h3' : r.a1 < i := h3
          rw [h1]; omega
        · omega
    have bg : ∀ k, k < 2 → begS T rs (bS rs) (lnS T r want k) = true → S.r.at k = (lnS T r want k).x := fun k hk hb => by
      rw [hr]
      match k, hk with
      | 0, _ =>
        show (if begS T rs (bS rs) (lnS T r want 0) = true then (lnS T r want 0).x else r.a0) = _
        rw [if_pos hb]
      | 1, _ =>
        show (if begS T rs (bS rs) (lnS T r want 1) = true then (lnS T r want 1).x else r.a1) = _
        rw [if_pos hb]
    refine ⟨cnt_len _ _, fun p hp => ?_⟩
    rw [cnt_get _ _ hp, hcr, hgg]
    cases hs : SetM.has S.st (p : Nat) with
    | false =>
      simp only [Bool.false_eq_true, if_false, Int.add_zero]
      rcases C.out p hp with h | ⟨h1, h2, k, i, hk, h3, h4⟩
      · exact .inl h
      · exact .inr ⟨h1, trivial, k, i, hk, h3, Int.le_trans h4 (at' k hk)⟩
    | true =>
      obtain ⟨k, hk, hb, e⟩ := (hst _).1 hs
      obtain ⟨i, h1, h2, h3, _⟩ := G.ln_spec hg (want := want) k (beg_valid hb).1
      rw [← e] at h2
      have hz : cnt.getD p 0 = 0 := by
        rcases C.out p hp with h | ⟨q1, q2, k', i', hk', q3, q4⟩
        · exact h
        · exfalso
          rw [hg] at q3
          obtain ⟨_, ek, ei⟩ := G.same h2 q3
          subst ek
          subst ei
          omega
      refine .inr ⟨by rw [hz]; rfl, rfl, k, i, hk, by rw [hg]; exact h2, ?_⟩
      rw [bg k hk hb, h1]
      exact Int.le_refl _
/-- one of two is red: the bits of both are not all out of the set -/
theorem two_reds {rd : Int} {p q : Nat} (hp : p < 8) (hq : q < 8) (h : SetM.has rd p = true ∨ SetM.has rd q = true) : (bits .and .i64 rd (bits .or .i64 (wrap64 ((2 : Int) ^ p)) (wrap64 ((2 : Int) ^ q))) == 0) = false := by
  have b1 : 2 ^ p < 256 := Nat.pow_lt_pow_right (n := 8) (by decide) hp
  have b2 : 2 ^ q < 256 := Nat.pow_lt_pow_right (n := 8) (by decide) hq
  rw [RefS.wrap_pow p hp, RefS.wrap_pow q hq, RefS.or_small _ _ b1 b2, SetM.and_low _ _ (Nat.or_lt_two_pow (n := 8) b1 b2)]
  refine beq_eq_false_iff_ne.2 fun e => ?_
  have e0 : SetM.low rd &&& (2 ^ p ||| 2 ^ q) = 0 := by omega
  have key : ∀ j, (j = p ∨ j = q) → (SetM.low rd).testBit j = false := fun j hj => by
    have h1 : (SetM.low rd &&& (2 ^ p ||| 2 ^ q)).testBit j = false := by rw [e0]; exact Nat.zero_testBit j
    rw [Nat.testBit_and, Nat.testBit_or, Nat.testBit_two_pow, Nat.testBit_two_pow] at h1
    rcases hj with rfl | rfl
    · simpa using h1
    · simpa using h1
  rw [SetM.has_nat, SetM.has_nat, key p (.inl rfl), key q (.inr rfl)] at h
  rcases h with h | h <;> cases h
theorem rds_in {rs : List Ru} (h8 : rs.length = 8) {p : Int} (hp : 0 ≤ p ∧ p < 8) : SetM.has (thS rdB rs : Nat) p = rdB (ruAt rs p) := by rw [th_has h8, decide_eq_true hp, Bool.true_and]
theorem rd_bu (r : Ru) (h : buB r = false) : rdB r = true := by unfold rdB; rw [h]; rfl
end Rg
end Go.Proofs.Ytjgpljnbeolapaa
