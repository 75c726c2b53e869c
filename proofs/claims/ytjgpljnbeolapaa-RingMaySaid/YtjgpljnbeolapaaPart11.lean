/- 17 texts in one file, in build order. -/
import Derived.Test.YtjgpljnbeolapaaRows
import Derived.Test.YtjgpljnbeolapaaPart10
import Derived.Test.YtjgpljnbeolapaaPart08
import Derived.Test.YtjgpljnbeolapaaPart02
import Derived.Test.YtjgpljnbeolapaaPart03
import Derived.Deep.Cut
import Derived.Test.YtjgpljnbeolapaaPart01
import Derived.Test.YtjgpljnbeolapaaPart04
import Derived.Test.YtjgpljnbeolapaaPart07
set_option linter.unusedVariables false
set_option linter.unusedSimpArgs false
set_option linter.unusedSectionVars false
set_option maxHeartbeats 8000000
set_option maxRecDepth 100000
namespace Go.Proofs.Ytjgpljnbeolapaa
namespace Val
open Go Tab GenG GenT PlaceM PlanM OnS ChkM Clone May
open RefS (num num_range)
open ChkX (allIn_iff in_ranges InR)
open MayF (level span)
theorem list_may {α : Type} {m : Int} {f : α → Bool} {l : List α} (hl : (l.length : Int) ≤ m) (h : ∀ x ∈ l, f x = true) : listMay m f l = true := by
  unfold listMay
  rw [decide_eq_true hl, Bool.true_and, List.all_eq_true]
  exact h
theorem recall_range (x walk : Int) (h : 0 ≤ x) : 0 ≤ GenP.recall x walk ∧ GenP.recall x walk ≤ 3 := by
  unfold GenP.recall
  split <;> omega
theorem ph_may (L : List Int) (i : Int) : Ph.may (GenP.genPh L i) = true := by
  have a0 := num_range L i 12 (by omega)
  have a1 := num_range L (i + 5) 25 (by omega)
  have a2 := num_range L (i + 6) 15 (by omega)
  have a3 := num_range L (i + 2) 6 (by omega)
  have a4 := num_range L (i + 3) 4 (by omega)
  have a5 := num_range L (i + 8) 10 (by omega)
  have a6 := num_range L (i + 8) 97 (by omega)
  have a7 := num_range L (i + 1) 9 (by omega)
  have a8 := num_range L (i + 4) 5 (by omega)
  have a9 := num_range L (i + 9) 7 (by omega)
  unfold Ph.may
  rw [Bool.and_eq_true, allIn_iff, allIn_iff]
  unfold GenP.genPh
  dsimp only
  have hr := recall_range (num L (i + 9) 7) (if num L (i + 7) 2 = 1 then 1 + num L (i + 8) 10 else 0) a9.1
  simp only [List.mem_cons, List.not_mem_nil, or_false, forall_eq_or_imp, forall_eq]
  refine ⟨?_, hr⟩
  by_cases hw : num L (i + 7) 2 = 1
  · simp only [if_pos hw]; omega
  · simp only [if_neg hw]; omega
theorem phases_may (L : List Int) : listMay 8 Ph.may (genTab L).phases = true := by
  rw [genTab_phases]
  refine list_may (by rw [upd_len]; omega) (fun x hx => ?_)
  unfold upd at hx
  obtain ⟨i, _, rfl⟩ := List.mem_map.1 hx
  by_cases h : i < genN L
  · rw [if_pos h]; exact ph_may L _
  · rw [if_neg h]; decide
theorem row_may {p m : Nat} (h : p + m ≤ 8) : rowMay (seg p m) = true := by
  unfold rowMay
  rw [decide_eq_true (by rw [seg_len]; omega), Bool.true_and, allIn_iff]
  intro x hx
  have := mem_seg.1 hx
  omega
theorem groups_may (L : List Int) : ∀ g, g ≤ genG L → ∀ x ∈ (upTo L (genG L) g).1, groupMay x = true
  | 0, _, x, hx => by simp [upTo] at hx
  | g + 1, h, x, hx => by
    have h8 := up_le L (genG L) (genG_range L).2 (g + 1) h
    have e2 : (upTo L (genG L) (g + 1)).2 = (upTo L (genG L) g).2 + n0 L (genG L) g (upTo L (genG L) g).2 + n1 L (genG L) g (upTo L (genG L) g).2 := rfl
    have e1 : (upTo L (genG L) (g + 1)).1 = (upTo L (genG L) g).1 ++ [grpD L (genG L) g (upTo L (genG L) g).2] := rfl
    rw [e2] at h8
    rw [e1, List.mem_append, List.mem_singleton] at hx
    rcases hx with hx | rfl
    · exact groups_may L g (by omega) x hx
    · unfold groupMay grpD
      dsimp only
      rw [row_may (by omega), row_may (by omega)]
      rfl
theorem off_tab : ∀ a : Fin 4, ∀ b : Fin 3, (level (GenD.onTab a.val) && level (GenD.mulTab a.val b.val)) = true := by decide +kernel
theorem span_tab : ∀ a : Fin 6, span (Fl.ofB a.val) = true := by decide +kernel
theorem det_may (L : List Int) (i : Int) (n : Nat) (h0 : 0 < n) (h8 : n ≤ 8) : Det.may (GenD.genDet L i n) = true := by
  have r := num_range L i n (by omega)
  have ra := num_range L (i + 1) 4 (by omega)
  have rb := num_range L (i + 2) 3 (by omega)
  have rc := num_range L (i + 3) 4 (by omega)
  have rd := num_range L (i + 4) 6 (by omega)
  have re := num_range L (i + 6) 60 (by omega)
  have rf := num_range L (i + 7) 300 (by omega)
  unfold Det.may GenD.genDet
  dsimp only
  have hs1 := span_tab ⟨(num L (i + 3) 4).toNat, by omega⟩
  have hs2 := span_tab ⟨(num L (i + 4) 6).toNat, by omega⟩
  dsimp only at hs1 hs2
  generalize num L (i + 1) 4 = a at ra ⊢
  generalize num L (i + 2) 3 = b at rb ⊢
  obtain ⟨a, rfl⟩ := Int.eq_ofNat_of_zero_le ra.1
  obtain ⟨b, rfl⟩ := Int.eq_ofNat_of_zero_le rb.1
  have ht := off_tab ⟨a, by omega⟩ ⟨b, by omega⟩
  rw [Bool.and_eq_true] at ht
  rw [ht.1, ht.2, hs1, hs2]
  simp only [Bool.true_and, Bool.and_eq_true, allIn_iff, List.mem_cons, List.not_mem_nil, or_false, forall_eq_or_imp, forall_eq]
  refine ⟨by omega, ?_, ?_⟩
  · split <;> omega
  · split <;> omega
theorem mask_eq : ∀ n : Fin 9, GenR.maskV n.val = ((2 ^ n.val - 1 : Nat) : Int) := by decide +kernel
theorem and_mask (x : Int) {n : Nat} (h8 : n ≤ 8) : ∃ m : Nat, bits .and .i64 x (GenR.maskV n) = (m : Int) ∧ m < 256 := by
  have := mask_eq ⟨n, by omega⟩
  dsimp only at this
  rw [this]
  have hb : 2 ^ n - 1 < 256 := by
    have : 2 ^ n ≤ 2 ^ 8 := Nat.pow_le_pow_right (by omega) h8
    omega
  rw [SetM.and_low x _ hb]
  exact ⟨_, rfl, Nat.lt_of_le_of_lt Nat.and_le_right hb⟩
theorem withS_nat (T : Tab) (p q : Int) : ∃ m : Nat, GenW.withS T p q = (m : Int) ∧ m < 256 := by
  unfold GenW.withS
  split
  · exact ⟨_, rfl, SetM.with_lt _ _⟩
  · exact ⟨_, rfl, SetM.of_lt _⟩
theorem bars_range (x d : Int) {n : Nat} (h8 : n ≤ 8) (hd : ∃ m : Nat, d = (m : Int) ∧ m < 256) : 0 ≤ GenR.barsV x d n ∧ GenR.barsV x d n ≤ 255 := by
  obtain ⟨m, rfl, hm⟩ := hd
  obtain ⟨k, hk, hk2⟩ := and_mask x h8
  unfold GenR.barsV
  rw [hk, ChkX.andNot_eq (by omega) hm]
  have : SetM.low (k : Int) &&& (255 - m) < 256 := Nat.lt_of_le_of_lt Nat.and_le_left (SetM.low_lt _)
  omega
theorem rl_may (T : Tab) (L : List Int) (i : Int) {n : Nat} (h0 : 0 < n) (h8 : n ≤ 8) : Rl.may (GenR.genRl T L i n) = true := by
  have r8 := num_range L (i + 8) 4 (by omega)
  have r9 := num_range L (i + 9) 6 (by omega)
  have ra := num_range L (i + 10) 6 (by omega)
  have rb := num_range L (i + 6) 10 (by omega)
  have rc := num_range L (i + 11) 15 (by omega)
  have rd := num_range L (i + 13) 30 (by omega)
  have rl := GenR.lim_range (num L (i + 14) 3)
  have w1 := withS_nat T (num L i n) (num L (i + 1) n)
  obtain ⟨b0, b1⟩ := bars_range (num L (i + 7) 256) _ h8 w1
  obtain ⟨d, hd, hd2⟩ := w1
  obtain ⟨c, hc, hc2⟩ := withS_nat T (num L (i + 4) (n + 1)) (num L (i + 5) n)
  obtain ⟨x, hx, hx2⟩ := withS_nat T (num L (i + 2) n) (num L (i + 3) n)
  unfold Rl.may GenR.genRl
  dsimp only
  simp only [Bool.and_eq_true, allIn_iff, List.mem_cons, List.not_mem_nil, or_false, forall_eq_or_imp, forall_eq]
  rw [hc, hx, hd]
  rw [hd] at b0 b1
  refine ⟨⟨⟨b0, b1⟩, ?_, by omega, by omega⟩, ⟨by omega, by omega, by omega, ?_, by omega, ?_⟩, by omega⟩
  · split <;> omega
  · split <;> omega
  · split <;> omega
theorem bs_may (L : List Int) (i : Nat) {n : Nat} (h8 : n ≤ 8) : Bs.may (genBs L i n) = true := by
  have r := num_range L (331 + 2 * i) 30 (by omega)
  obtain ⟨m, hm, hm2⟩ := and_mask (num L (330 + 2 * i) 256) h8
  unfold Bs.may genBs
  dsimp only
  rw [hm]
  simp only [Bool.and_eq_true, allIn_iff, List.mem_cons, List.not_mem_nil, or_false, forall_eq_or_imp, forall_eq]
  omega
theorem genTab_rails (L : List Int) : (genTab L).rails = down (fun i => GenR.genRl (tab1 L) L (260 + 16 * i) (genN L)) (num L 176 4 % 3).toNat (num L 176 4 % 3).toNat := by
  unfold genTab; split <;> rfl
/-! ### sums stay within a tick's range -/
theorem cap_bd (n : Int) : 0 ≤ RefC.cap n ∧ RefC.cap n ≤ 2147483647 := ⟨RefC.cap_lo n, RefC.cap_hi n⟩
theorem fold_bd : ∀ (l : List Int) (x : Int), 0 ≤ x ∧ x ≤ 2147483647 → 0 ≤ l.foldl RefC.add x ∧ l.foldl RefC.add x ≤ 2147483647
  | [], x, h => h
  | y :: l, x, h => fold_bd l _ (cap_bd _)
theorem sums_bd (l : List Int) : 0 ≤ RefC.sums l ∧ RefC.sums l ≤ 2147483647 := fold_bd l 0 (by omega)
theorem free_bd (T : Tab) (p : Int) : 0 ≤ FreeS.freeS T p ∧ FreeS.freeS T p ≤ 2147483647 := by
  unfold FreeS.freeS
  split
  · split
    · exact sums_bd _
    · omega
  · omega
theorem wait_bd (T : Tab) (p : Int) : 0 ≤ WaitS.waitS T p ∧ WaitS.waitS T p ≤ 2147483647 := by
  unfold WaitS.waitS
  split
  · exact free_bd T p
  · exact sums_bd _
theorem maxW_bd (T : Tab) : ∀ n, 0 ≤ maxW T n ∧ maxW T n ≤ 2147483647
  | 0 => by simp [maxW]
  | n + 1 => by
    have h1 := maxW_bd T n
    have h2 := wait_bd T n
    rw [maxW]
    omega
theorem genTab_times (L : List Int) : (genTab L).extend = num L 178 12 ∧ (genTab L).budget = num L 179 40 ∧ (genTab L).start = num L 180 8 ∧ (genTab L).revert = num L 181 8 ∧ (genTab L).least = num L 182 12 ∧ (genTab L).share = num L 183 4 := by
  unfold genTab; split <;> exact ⟨rfl, rfl, rfl, rfl, rfl, rfl⟩
theorem tabS_win (L : List Int) : (tabS L).window = 0 := (congrArg Tab.window (tabS_window L)).symm
theorem genTab_window (L : List Int) : 0 ≤ (genTab L).window ∧ (genTab L).window ≤ 2147483647 := by
  unfold genTab
  split
  · rw [tabS_win]; omega
  · exact maxW_bd _ _
theorem flash_bd (L : List Int) : ∀ x ∈ (genTab L).flash, 0 ≤ x ∧ x ≤ 2 := by
  have hu : ∀ x ∈ upd (fun _ => (1 : Int)) 0 (genN L), 0 ≤ x ∧ x ≤ 2 := by
    intro x hx
    unfold upd at hx
    obtain ⟨i, _, rfl⟩ := List.mem_map.1 hx
    by_cases h : i < genN L
    · rw [if_pos h]; exact ⟨(show (0 : Int) ≤ 1 by decide), (show (1 : Int) ≤ 2 by decide)⟩
    · rw [if_neg h]; exact ⟨(show (0 : Int) ≤ 0 by decide), (show (0 : Int) ≤ 2 by decide)⟩
  intro x hx
  rw [genTab_flash] at hx
  split at hx
  · rcases List.mem_or_eq_of_mem_set hx with h1 | rfl
    · exact hu x h1
    · omega
  · exact hu x hx
theorem gen_may (L : List Int) : tabMay (genTab L) = true := by
  have h8 := genN_range L
  have h1 := genN_pos L
  obtain ⟨t1, t2, t3, t4, t5, t6⟩ := genTab_times L
  have a1 := num_range L 178 12 (by omega)
  have a2 := num_range L 179 40 (by omega)
  have a3 := num_range L 180 8 (by omega)
  have a4 := num_range L 181 8 (by omega)
  have a5 := num_range L 182 12 (by omega)
  have a6 := num_range L 183 4 (by omega)
  have a7 := num_range L 175 9 (by omega)
  have a8 := num_range L 176 4 (by omega)
  have a9 := num_range L 177 3 (by omega)
  have w := genTab_window L
  unfold tabMay
  rw [phases_may, t1, t2, t3, t4, t5, t6]
  simp only [Bool.true_and, Bool.and_eq_true, allIn_iff, List.mem_cons, List.not_mem_nil, or_false, forall_eq_or_imp, forall_eq]
  refine ⟨?_, fun x hx => by have := (cf_gen L).bd x hx; omega, ?_, ?_, ?_, by omega, flash_bd L, by omega⟩
  · rw [genTab_groups]
    refine list_may ?_ (groups_may L _ (Nat.le_refl _))
    have := genG_range L
    unfold genGs
    rw [up_len]
    omega
  · rw [genTab_dets]
    refine list_may (by rw [down_len]; omega) (fun x hx => ?_)
    obtain ⟨i, rfl⟩ := mem_down _ hx
    exact det_may L _ _ h1 h8
  · rw [genTab_rails]
    refine list_may (by rw [down_len]; omega) (fun x hx => ?_)
    obtain ⟨i, rfl⟩ := mem_down _ hx
    exact rl_may _ L _ h1 h8
  · rw [genTab_buses]
    refine list_may (by rw [down_len]; omega) (fun x hx => ?_)
    obtain ⟨i, rfl⟩ := mem_down _ hx
    exact bs_may L _ h8
end Val
namespace ChkI
open Go.RowKit Go.Shelf
open Tab PlaceM PlanM OnS ChkM Each Search
attribute [local go_sem] Oper.semAt_some
/-- What a table's box gives: the conflicts and the flash of each phase. -/
structure Bxd (T : Tab) (b : Nat) (W : World) : Prop where
  cf : ∀ p : Int, 0 ≤ p → p < 8 → W.cell? ⟨b, 105 + p.toNat, none⟩ = some (I (cfAt T p))
  fl : ∀ p : Int, 0 ≤ p → p < 8 → W.cell? ⟨b, 121 + p.toNat, none⟩ = some (I (flAt T p))
theorem Bxd.below {T : Tab} {b : Nat} {W W' : World} (h : Bxd T b W) (hb : Below W.heap.size W W') : Bxd T b W' :=
  ⟨fun p h0 h8 => (hb.cell (World.block_lt_of_cell? W _ (h.cf p h0 h8))).trans (h.cf p h0 h8), fun p h0 h8 => (hb.cell (World.block_lt_of_cell? W _ (h.fl p h0 h8))).trans (h.fl p h0 h8)⟩
end ChkI
namespace ChkJ
open Go.RowKit Go.Shelf
open Tab PlaceM PlanM OnS ChkM Each Search ChkI
open May (infoT)
attribute [local go_sem] Oper.semAt_some
end ChkJ
namespace ChkA
open Go.ChangeShapes Go.WideShapes Go.ChangeAt Go.RowKit
open Tab PlaceM PlanM OnS ChkM
open May (ret_bool infoT St ints_in phases_in)
/-! ### the numbers of a rail -/
end ChkA
namespace ChkB
open Go.ChangeShapes Go.WideShapes Go.ChangeAt Go.RowKit
open Tab PlaceM PlanM OnS ChkM ChkA
open May (ret_bool infoT infoP infoB infoD infoR St ints_in phases_in)
/-- Two blocks laid one behind the other. -/
theorem laid2 (w : World) (o0 o1 : Obj) : ∃ W, ((w.alloc o0).alloc o1) = W ∧ W.heap.size = w.heap.size + 2 ∧ Below w.heap.size w W ∧ Below (w.heap.size + 1) (w.alloc o0) W ∧ W.heap[w.heap.size + 1]? = some o1 := by
  refine ⟨_, rfl, by simp, ((Below.refl _ w).alloc (Nat.le_refl _) _).alloc (by simp) _, ?_, ?_⟩
  · have := (Below.refl (w.alloc o0).heap.size (w.alloc o0)).alloc (Nat.le_refl _) o1
    simpa using this
  · have h1 := heap_alloc_new (w.alloc o0) o1
    rwa [World.size_alloc] at h1
end ChkB
namespace RkA
open Go.ChangeShapes Go.WideShapes Go.ChangeAt Go.RowKit
open Tab PlaceM PlanM OnS ChkM ChkI
open RefS (rlist_any rhas_any row_of)
open May (ret_bool infoT infoP)
end RkA
namespace ChkG
open Go.ChangeShapes Go.WideShapes Go.ChangeAt Go.RowKit
open Tab PlaceM PlanM OnS ChkM ChkA
open PlanW (wG wK wI idx0 idx1 info2 pwhere_any)
open May (ret_bool infoT St)
end ChkG
namespace ChkH
open Go.ChangeShapes Go.WideShapes Go.ChangeAt Go.RowKit
open Tab PlaceM PlanM OnS ChkM ChkA ChkG
open May (ret_bool infoT St)
open Same (below_setRow)
end ChkH
namespace RkR
open Go.ChangeShapes Go.WideShapes Go.ChangeAt Go.RowKit
open Tab PlaceM PlanM OnS ChkM ChkH
open ChkB (laid2)
open Same (below_setRow)
open Where (infoS)
open RefS (rhas_any rwith_any)
open May (ret_bool infoT)
end RkR
namespace ChkZ
open Go Tab PlaceM PlanM OnS May ChkM ChkX
open PlanW (where_some)
/-! ### the document's walk through a group -/
/-! ### first places -/
theorem inj_of {A : List Spt} : (A.map Spt.p).Nodup → ∀ {x y : Spt}, x ∈ A → y ∈ A → x.p = y.p → x = y := by
  induction A with
  | nil => intro _ x y hx; cases hx
  | cons a A ih =>
    intro hn x y hx hy hp
    rw [List.map_cons, List.nodup_cons] at hn
    rcases List.mem_cons.1 hx with hx | hx
    · rcases List.mem_cons.1 hy with hy | hy
      · rw [hx, hy]
      · exact absurd (List.mem_map.2 ⟨y, hy, by rw [← hp, hx]⟩) hn.1
    · rcases List.mem_cons.1 hy with hy | hy
      · exact absurd (List.mem_map.2 ⟨x, hx, by rw [hp, hy]⟩) hn.1
      · exact ih hn.2 hx hy hp
/-! ### all rules -/
end ChkZ
namespace Val
open Go Tab GenG GenT PlaceM PlanM OnS ChkM Clone May
open RefS (num num_range)
open ChkX (in_ranges InR)
open ChkZ
theorem gen_in (L : List Int) : InR (genTab L) := in_ranges (gen_may L)
theorem gen_where (L : List Int) {x : Spt} (hx : x ∈ spots (genTab L)) : where_ (genTab L) x.p = some x := by
  have h : (where_ (genTab L) x.p).isSome = true := by
    rw [where_isSome, decide_eq_true_eq]
    exact List.mem_map.2 ⟨x, hx, rfl⟩
  obtain ⟨y, hy⟩ := Option.isSome_iff_exists.1 h
  have h1 : y ∈ spots (genTab L) := List.mem_of_find?_eq_some hy
  have h2 : y.p = x.p := by simpa using List.find?_some hy
  rw [hy, inj_of (gen_nodup L) h1 hx h2]
theorem gen_spot_on (L : List Int) {x : Spt} (hx : x ∈ spots (genTab L)) : SetM.has (onS (genTab L) : Nat) x.p = true := by
  rw [gen_has_on, gen_where L hx]; rfl
theorem gen_glen (L : List Int) : (genTab L).groups.length = genG L := by
  rw [genTab_groups]; unfold genGs; rw [up_len]
end Val
namespace Val
open Go Tab GenG GenT PlaceM PlanM OnS ChkM Clone May
open RefS (num num_range)
open ChkX (has_bits and_ne low_in allOn_iff andNot_eq not_bit low_ne)
theorem has_or4 {a b q : Int} (hb : 0 ≤ b ∧ b ≤ 255) : SetM.has (bits .or .i64 a b) q = true ↔ SetM.has a q = true ∨ SetM.has b q = true := by
  obtain ⟨m, rfl⟩ := Int.eq_ofNat_of_zero_le hb.1
  have hm : m < 256 := by omega
  rw [has_bits, has_bits, has_bits, SetM.or_low a m hm, Nat.testBit_or, SetM.low_nat m hm]
  simp only [Bool.or_eq_true]
  constructor
  · rintro ⟨h1, h2, h3 | h3⟩
    · exact .inl ⟨h1, h2, h3⟩
    · exact .inr ⟨h1, h2, h3⟩
  · rintro (⟨h1, h2, h3⟩ | ⟨h1, h2, h3⟩)
    · exact ⟨h1, h2, .inl h3⟩
    · exact ⟨h1, h2, .inr h3⟩
end Val
namespace Rg
open Go Tab PlanM Ru
open ChkM (cfAt)
open Clear (phAt)
open PlaceM (where_ spots Spt)
/-- What is used of a table. -/
structure Gd (T : Tab) : Prop where
  gl : 0 < T.groups.length
  cf : ∀ p q : Int, 0 ≤ p ∧ p < 8 → SetM.has (cfAt T p) q = true → SetM.has (cfAt T q) p = true ∧ p ≠ q ∧ PlaceM.beside T p q = false
  wh : ∀ x ∈ spots T, where_ T x.p = some x
  row : ∀ (g : Nat) (k i : Nat) (p : Int), (ringAt T g k)[i]? = some p → 0 ≤ p ∧ p < 8
  on : ∀ q : Int, SetM.has (OnS.onS T : Nat) q = true ↔ ∃ x ∈ spots T, x.p = q
theorem gd_gen (L : List Int) : Gd (GenT.genTab L) := by
  refine ⟨?_, fun p q hp h => Val.cf_at L hp h, fun x hx => Val.gen_where L hx, fun g k i p h => ?_, fun q => ⟨fun h => ?_, fun ⟨x, hx, e⟩ => e ▸ Val.gen_spot_on L hx⟩⟩
  · rw [Val.gen_glen]
    have := GenG.genG_range L
    omega
  · have R := Val.gen_in L
    by_cases hg : g < (GenT.genTab L).groups.length
    · have hm := R.gr _ (List.getElem_mem hg)
      have hr : rowsAt (GenT.genTab L) g = (GenT.genTab L).groups[g] := rows_in (List.getElem?_eq_getElem hg)
      unfold May.groupMay May.rowMay at hm
      simp only [Bool.and_eq_true] at hm
      obtain ⟨⟨_, h1⟩, ⟨_, h2⟩⟩ := hm
      have a1 := ChkX.allIn_iff.1 h1
      have a2 := ChkX.allIn_iff.1 h2
      have hmem := List.mem_of_getElem? h
      unfold ringAt at hmem
      rw [hr] at hmem
      split at hmem
      · have := a1 p hmem; omega
      · split at hmem
        · have := a2 p hmem; omega
        · simp at hmem
    · have hr := rows_out (T := GenT.genTab L) (g := (g : Int)) (by omega)
      unfold ringAt at h
      rw [hr] at h
      split at h
      · simp at h
      · split at h <;> simp at h
  · rw [GenT.gen_has_on] at h
    obtain ⟨y, hy⟩ := Option.isSome_iff_exists.1 h
    exact ⟨y, List.mem_of_find?_eq_some hy, by simpa using List.find?_some hy⟩
section
variable {T : Tab} (G : Gd T)
include G
theorem Gd.spot {g k i : Nat} {p : Int} (h : (ringAt T g k)[i]? = some p) : (⟨g, k, i, p⟩ : Spt) ∈ spots T := mem_ringAt.2 ⟨h, G.row g k i p h⟩
theorem Gd.same {g k i g' k' i' : Nat} {p : Int} (h : (ringAt T g k)[i]? = some p) (h' : (ringAt T g' k')[i']? = some p) : g = g' ∧ k = k' ∧ i = i' := by
  have h1 := G.wh _ (G.spot h)
  have h2 := G.wh _ (G.spot h')
  rw [h1] at h2
  have e := Option.some.inj h2
  simp only [Spt.mk.injEq] at e
  exact ⟨e.1, e.2.1, e.2.2.1⟩
theorem Gd.beside {g k i k' i' : Nat} {p p' : Int} (h : (ringAt T g k)[i]? = some p) (h' : (ringAt T g k')[i']? = some p') (hk : k ≠ k') : PlaceM.beside T p p' = true := by
  unfold PlaceM.beside
  rw [G.wh _ (G.spot h), G.wh _ (G.spot h')]
  simp [hk]
/-- the next index of a ring, and the phase there -/
theorem Gd.ln_spec {r : Rg} {g : Nat} (hg : r.g = g) {want : Int} (k : Nat) (h : 0 ≤ (lnS T r want k).x) : ∃ i : Nat, (lnS T r want k).x = i ∧ (ringAt T g k)[i]? = some (lnS T r want k).t ∧ r.at k < i ∧ SetM.has want (lnS T r want k).t = true ∧ ∀ j, j < i → ¬ (r.at k < (j : Int) ∧ SetM.has want ((ringAt T g k).getD j 0) = true) := by
  obtain ⟨i, h1, h2, h3, h4, h5⟩ := next_spec h
  have hx : (lnS T r want k).x = i := h1
  have ht : (lnS T r want k).t = (ringAt T r.g k).getD i 0 := by
    show nowS T r.g k (lnS T r want k).x = _
    rw [hx]
    exact now_next h2 h4
  rw [hg] at h2 h4 h5 ht
  have hv := List.getElem?_eq_getElem h2
  have hgd : (ringAt T g k).getD i 0 = (ringAt T g k)[i] := by rw [List.getD_eq_getElem?_getD, hv]; rfl
  refine ⟨i, hx, ?_, h3, ?_, h5⟩
  · rw [ht, hgd]; exact hv
  · rw [ht]; exact h4
end
theorem has_zero (q : Int) : SetM.has 0 q = false := Val.has_zero q
theorem has_withv {s p q : Int} (hp : 0 ≤ p ∧ p < 8) : SetM.has (SetM.withN s p : Nat) q = (SetM.has s q || (q == p)) := by
  rw [SetM.has_with]
  obtain ⟨k, rfl⟩ := Int.eq_ofNat_of_zero_le hp.1
  rw [Val.bit_ne k (by omega), Bool.true_and]
theorem st_has {b0 b1 : Bool} {t0 t1 p : Int} (h0 : b0 = true → 0 ≤ t0 ∧ t0 < 8) (h1 : b1 = true → 0 ≤ t1 ∧ t1 < 8) : SetM.has (stS b0 b1 t0 t1) p = ((b0 && p == t0) || (b1 && p == t1)) := by
  unfold stS
  cases b0 <;> cases b1
  · simp [has_zero]
  · simp [has_withv (h1 rfl), has_zero]
  · simp [has_withv (h0 rfl), has_zero]
  · simp [has_withv (h0 rfl), has_withv (h1 rfl), has_zero]
theorem st_nat (b0 b1 : Bool) (t0 t1 : Int) : ∃ m : Nat, stS b0 b1 t0 t1 = m ∧ m < 256 := by
  unfold stS
  cases b0 <;> cases b1
  · exact ⟨0, rfl, by decide⟩
  · exact ⟨_, rfl, SetM.with_lt _ _⟩
  · exact ⟨_, rfl, SetM.with_lt _ _⟩
  · exact ⟨_, rfl, SetM.with_lt _ _⟩
theorem st_none {b0 b1 c0 c1 : Bool} {t0 t1 u0 u1 : Int} (h0 : b0 = true → 0 ≤ t0 ∧ t0 < 8) (h1 : b1 = true → 0 ≤ t1 ∧ t1 < 8) (k0 : c0 = true → 0 ≤ u0 ∧ u0 < 8) (k1 : c1 = true → 0 ≤ u1 ∧ u1 < 8) (h : bits .or .i64 (stS b0 b1 t0 t1) (stS c0 c1 u0 u1) = 0) : b0 = false ∧ b1 = false ∧ c0 = false ∧ c1 = false := by
  obtain ⟨m, hm, hm2⟩ := st_nat c0 c1 u0 u1
  have key : ∀ q, SetM.has (stS b0 b1 t0 t1) q = false ∧ SetM.has (stS c0 c1 u0 u1) q = false := fun q => by
    have : ¬ (SetM.has (stS b0 b1 t0 t1) q = true ∨ SetM.has (stS c0 c1 u0 u1) q = true) := fun hh => by
      have := (Val.has_or4 (a := stS b0 b1 t0 t1) (b := stS c0 c1 u0 u1) (q := q) (by rw [hm]; omega)).2 hh
      rw [h, has_zero] at this
      cases this
    simpa using this
  refine ⟨?_, ?_, ?_, ?_⟩
  · cases b0 with
    | false => rfl
    | true => have := (key t0).1; rw [st_has h0 h1] at this; simp at this
  · cases b1 with
    | false => rfl
    | true => have := (key t1).1; rw [st_has h0 h1] at this; simp at this
  · cases c0 with
    | false => rfl
    | true => have := (key u0).2; rw [st_has k0 k1] at this; simp at this
  · cases c1 with
    | false => rfl
    | true => have := (key u1).2; rw [st_has k0 k1] at this; simp at this
/-! ### a tick, by its ways -/
def ln (T : Tab) (r : Rg) (want : Int) : Nat → Ln
  | 0 => lnS T r want 0
  | _ => lnS T r want 1
/-- what a tick does, told apart -/
inductive Way (T : Tab) (r : Rg) (rs : List Ru) (want : Int) (S : So) : Prop where
  | wait (hc : r.cr = true) (hb : bS rs ≠ 0) (h : S = ⟨r, 0, 0⟩)
  | over (hc : r.cr = true) (hb : bS rs = 0) (h : S = ⟨⟨if followS T r.g want < 0 then r.g else followS T r.g want, -1, -1, false⟩, 0, 0⟩)
  | cross (hc : r.cr = false) (hb : ∀ k, k < 2 → begS T rs (bS rs) (lnS T r want k) = false) (he : ∀ k, k < 2 → endS T rs want (gS rs) (lnS T r want k) = false) (hs : ∀ k, k < 2 → setS rs (gS rs) (bS rs) (lnS T r want k) = true) (ho : othS want (gS rs) = true) (h : S = ⟨⟨r.g, r.a0, r.a1, true⟩, 0, gS rs⟩)
  | go (hc : r.cr = false) (hr : S.r = atS r (begS T rs (bS rs) (lnS T r want 0)) (begS T rs (bS rs) (lnS T r want 1)) (lnS T r want 0).x (lnS T r want 1).x)
      (hst : ∀ p, SetM.has S.st p = true ↔ ∃ k, k < 2 ∧ begS T rs (bS rs) (lnS T r want k) = true ∧ p = (lnS T r want k).t)
      (hen : ∀ p, SetM.has S.en p = true ↔ ∃ k, k < 2 ∧ endS T rs want (gS rs) (lnS T r want k) = true ∧ p = (lnS T r want k).n)
      (hn : (∀ k, k < 2 → begS T rs (bS rs) (lnS T r want k) = false) → (∀ k, k < 2 → endS T rs want (gS rs) (lnS T r want k) = false) → (∀ k, k < 2 → setS rs (gS rs) (bS rs) (lnS T r want k) = true) → othS want (gS rs) = false)
      (hnat : ∃ m n : Nat, S.st = m ∧ m < 256 ∧ S.en = n ∧ n < 256)
theorem beg_valid {T : Tab} {r : Rg} {rs : List Ru} {want : Int} {k : Nat} (h : begS T rs (bS rs) (lnS T r want k) = true) : 0 ≤ (lnS T r want k).x ∧ 0 ≤ (lnS T r want k).t ∧ (lnS T r want k).t < 8 := by
  unfold begS at h
  simp only [Bool.and_eq_true, decide_eq_true_eq] at h
  exact ⟨h.2.1, ln_valid T r want k h.2.1⟩
theorem end_valid {T : Tab} {r : Rg} {rs : List Ru} {want : Int} {k : Nat} (h : endS T rs want (gS rs) (lnS T r want k) = true) : 0 ≤ (lnS T r want k).n ∧ (lnS T r want k).n < 8 := by
  unfold endS at h
  simp only [Bool.and_eq_true] at h
  exact has_range h.1
theorem two_iff {p : Nat → Prop} : (∃ k, k < 2 ∧ p k) ↔ p 0 ∨ p 1 := by
  constructor
  · rintro ⟨k, hk, h⟩
    match k, hk with
    | 0, _ => exact .inl h
    | 1, _ => exact .inr h
  · rintro (h | h)
    · exact ⟨0, by omega, h⟩
    · exact ⟨1, by omega, h⟩
theorem two_all {p : Nat → Prop} : (∀ k, k < 2 → p k) ↔ p 0 ∧ p 1 := by
  constructor
  · exact fun h => ⟨h 0 (by omega), h 1 (by omega)⟩
  · rintro ⟨h0, h1⟩ k hk
    match k, hk with
    | 0, _ => exact h0
    | 1, _ => exact h1
theorem way (T : Tab) (r : Rg) (rs : List Ru) (want : Int) : Way T r rs want (stepS T r rs want) := by
  cases hc : r.cr with
  | true =>
    have e : stepS T r rs want = ⟨acrS T r want (bS rs), 0, 0⟩ := by unfold stepS; rw [hc]; rfl
    rw [e]
    unfold acrS
    by_cases hb : bS rs = 0
    · rw [if_pos hb]; exact .over hc hb rfl
    · rw [if_neg hb]; exact .wait hc hb rfl
  | false =>
    have e : stepS T r rs want = stepL T r rs want (gS rs) (bS rs) (lnS T r want 0) (lnS T r want 1) := by unfold stepS; rw [hc]; rfl
    rw [e]
    obtain ⟨b0, hb0⟩ : ∃ x, begS T rs (bS rs) (lnS T r want 0) = x := ⟨_, rfl⟩
    obtain ⟨b1, hb1⟩ : ∃ x, begS T rs (bS rs) (lnS T r want 1) = x := ⟨_, rfl⟩
    obtain ⟨e0, he0⟩ : ∃ x, endS T rs want (gS rs) (lnS T r want 0) = x := ⟨_, rfl⟩
    obtain ⟨e1, he1⟩ : ∃ x, endS T rs want (gS rs) (lnS T r want 1) = x := ⟨_, rfl⟩
    have v0 : b0 = true → 0 ≤ (lnS T r want 0).t ∧ (lnS T r want 0).t < 8 := fun h => (beg_valid (hb0.trans h)).2
    have v1 : b1 = true → 0 ≤ (lnS T r want 1).t ∧ (lnS T r want 1).t < 8 := fun h => (beg_valid (hb1.trans h)).2
    have u0 : e0 = true → 0 ≤ (lnS T r want 0).n ∧ (lnS T r want 0).n < 8 := fun h => end_valid (he0.trans h)
    have u1 : e1 = true → 0 ≤ (lnS T r want 1).n ∧ (lnS T r want 1).n < 8 := fun h => end_valid (he1.trans h)
    unfold stepL
    rw [hb0, hb1, he0, he1]
    dsimp only
    by_cases hx : bits .or .i64 (stS b0 b1 (lnS T r want 0).t (lnS T r want 1).t) (stS e0 e1 (lnS T r want 0).n (lnS T r want 1).n) = 0 ∧ (setS rs (gS rs) (bS rs) (lnS T r want 0) = true ∧ setS rs (gS rs) (bS rs) (lnS T r want 1) = true) ∧ othS want (gS rs) = true
    · rw [if_pos hx]
      obtain ⟨rfl, rfl, rfl, rfl⟩ := st_none v0 v1 u0 u1 hx.1
      exact .cross hc (two_all.2 ⟨hb0, hb1⟩) (two_all.2 ⟨he0, he1⟩) (two_all.2 hx.2.1) hx.2.2 rfl
    · rw [if_neg hx]
      refine .go hc (by rw [hb0, hb1]) (fun p => ?_) (fun p => ?_) (fun q0 q1 q2 => ?_) ?_
      · dsimp only
        rw [st_has v0 v1, two_iff, hb0, hb1]
        simp
      · dsimp only
        rw [st_has u0 u1, two_iff, he0, he1]
        simp
      · rw [two_all, hb0, hb1] at q0
        rw [two_all, he0, he1] at q1
        obtain ⟨rfl, rfl⟩ := q0
        obtain ⟨rfl, rfl⟩ := q1
        cases ho : othS want (gS rs) with
        | false => rfl
        | true => exact absurd ⟨by show bits .or .i64 0 0 = 0; decide, two_all.1 q2, ho⟩ hx
      · obtain ⟨m, hm, hm2⟩ := st_nat b0 b1 (lnS T r want 0).t (lnS T r want 1).t
        obtain ⟨n, hn, hn2⟩ := st_nat e0 e1 (lnS T r want 0).n (lnS T r want 1).n
        exact ⟨m, n, hm, hm2, hn, hn2⟩
end Rg
namespace Rg
open Go Go.ChangeShapes Go.WideShapes Go.ChangeAt Go.RowKit
open Tab Flat TabArg QL Ru PlanM
open ChkM (cfAt)
open Clear (phAt)
open PlaceM (where_ spots Spt)
open May (infoP)
def rdB (r : Ru) : Bool := !buB r
theorem rd_has {rs : List Ru} (h8 : rs.length = 8) (p : Int) : SetM.has (thS rdB rs : Nat) p = (decide (0 ≤ p ∧ p < 8) && !buB (ruAt rs p)) := th_has h8 p
def clsS (T : Tab) (p q : Int) : Bool := SetM.has (cfAt T p) q || SetM.has (cfAt T q) p
theorem red_any (r : Ru) (w : World) : Calls Try.prog 47 #[.agg (Ru.cells r).toArray] w fun e w' => e = .returned (.bool (rdB r)) ∧ Below w.heap.size w w' := by
  obtain ⟨co, hco⟩ : ∃ x, r.co = x := ⟨_, rfl⟩
  by_cases h1 : co = 1
  · subst h1
    have HE : Hid (rdB r = false) := Lib.hid (by unfold rdB buB; rw [hco]; rfl)
    have hn0 := Blk.Bks.nil w
    have hn1 := hn0.alloc (Ru.cells r).toArray 45
    clear hn0
    go_enter Try.func47, Try.ntmps47
    go_upto_region 1 with fail
    generalize World.alloc w _ = v at hn1 ⊢
    generalize hg0 : w.heap.size = gq at hn1 ⊢
    clear hg0
    have H0 := Lib.hid hn1
    clear hn1
    have c0 : v.cell? ⟨gq, 0, none⟩ = some (I r.co) := H0.out.cell 0 0 rfl rfl
    rw [hco] at c0
    go_wp2
    go_ret
    exact ⟨ret_bool (by first | exact HE.out.symm | (rw [HE.out]; simp [*])), H0.out.bel⟩
  by_cases h2 : co = 2
  · subst h2
    have HE : Hid (rdB r = false) := Lib.hid (by unfold rdB buB; rw [hco]; rfl)
    have hn0 := Blk.Bks.nil w
    have hn1 := hn0.alloc (Ru.cells r).toArray 45
    clear hn0
    go_enter Try.func47, Try.ntmps47
    go_upto_region 1 with fail
    generalize World.alloc w _ = v at hn1 ⊢
    generalize hg0 : w.heap.size = gq at hn1 ⊢
    clear hg0
    have H0 := Lib.hid hn1
    clear hn1
    have c0 : v.cell? ⟨gq, 0, none⟩ = some (I r.co) := H0.out.cell 0 0 rfl rfl
    rw [hco] at c0
    go_wp2
    go_ret
    exact ⟨ret_bool (by first | exact HE.out.symm | (rw [HE.out]; simp [*])), H0.out.bel⟩
  by_cases h3 : co = 3
  · subst h3
    have HE : Hid (rdB r = false) := Lib.hid (by unfold rdB buB; rw [hco]; rfl)
    have hn0 := Blk.Bks.nil w
    have hn1 := hn0.alloc (Ru.cells r).toArray 45
    clear hn0
    go_enter Try.func47, Try.ntmps47
    go_upto_region 1 with fail
    generalize World.alloc w _ = v at hn1 ⊢
    generalize hg0 : w.heap.size = gq at hn1 ⊢
    clear hg0
    have H0 := Lib.hid hn1
    clear hn1
    have c0 : v.cell? ⟨gq, 0, none⟩ = some (I r.co) := H0.out.cell 0 0 rfl rfl
    rw [hco] at c0
    go_wp2
    go_ret
    exact ⟨ret_bool (by first | exact HE.out.symm | (rw [HE.out]; simp [*])), H0.out.bel⟩
  have e1 : (co != 1) = true := bne_iff_ne.2 h1
  have e2 : (co != 2) = true := bne_iff_ne.2 h2
  have e3 : (co != 3) = true := bne_iff_ne.2 h3
  have HE : Hid (rdB r = true) := Lib.hid (by unfold rdB buB; rw [hco]; simp [h1, h2, h3])
  have hn0 := Blk.Bks.nil w
  have hn1 := hn0.alloc (Ru.cells r).toArray 45
  clear hn0
  go_enter Try.func47, Try.ntmps47
  go_upto_region 1 with fail
  generalize World.alloc w _ = v at hn1 ⊢
  generalize hg0 : w.heap.size = gq at hn1 ⊢
  clear hg0
  have H0 := Lib.hid hn1
  clear hn1
  have c0 : v.cell? ⟨gq, 0, none⟩ = some (I r.co) := H0.out.cell 0 0 rfl rfl
  rw [hco] at c0
  go_wp2
  go_ret
  exact ⟨ret_bool (by first | exact HE.out.symm | (rw [HE.out]; simp [*])), H0.out.bel⟩
theorem reds_any (rs : List Ru) (h8 : rs.length = 8) (w : World) : Calls Try.prog 16 #[.agg (runsC rs).toArray] w fun e w' => e = .returned (.int .i64 (thS rdB rs : Nat)) ∧ Below w.heap.size w w' := by
  have RS : Hid (((thS rdB rs : Nat) : Int) = (SetM.of (thTo rdB 0 (rs.take 8)) : Nat)) := Lib.hid (by rw [List.take_of_length_le (by omega)]; rfl)
  have L8 := Lib.hid h8
  have RL : Hid (∀ q, q < 8 → ∀ u gq, Lies u ⟨gq, 0, none⟩ (runsC rs) → Lies u ⟨gq, q * 12, none⟩ (ruAt rs q).cells) := Lib.hid (fun q hq u gq hl j v hj => by
    have := hl (q * 12 + j) v (runs_at h8 hq hj)
    rw [Addr.add_mid, Nat.zero_add] at this
    rwa [Addr.add_mid])
  generalize hrs : ((thS rdB rs : Nat) : Int) = res at RS ⊢
  clear hrs
  generalize runsC rs = fl at *
  clear h8
  have hn0 := Blk.Bks.nil w
  have hn1 := hn0.alloc fl.toArray 46
  clear hn0
  go_enter Try.func16, Try.ntmps16
  go_upto_region 1 with fail
  generalize World.alloc w _ = v at hn1 ⊢
  generalize hg0 : w.heap.size = gq at hn1 ⊢
  clear hg0
  have H0 := Lib.hid hn1
  clear hn1
  have LF : Hid (∀ W, Below v.heap.size v W → Lies W ⟨gq, 0, none⟩ fl) := Lib.hid (fun W hb => by have := (H0.out.step hb).lies 0 rfl; simpa using this)
  go_wp2
  go_loopw [3, 4] (fun s i wr => ∃ q : Nat, q ≤ 8 ∧ i = .int .i64 q ∧ s = .int .i64 (SetM.of (thTo rdB 0 (rs.take q)) : Nat) ∧ Below v.heap.size v wr) (fun _ i _ => 8 - (intOf i).toNat)
  case atStart => exact ⟨0, by omega, rfl, rfl, Below.refl _ _⟩
  case round =>
    obtain ⟨q, hq, rfl, rfl, hbel⟩ := hrel
    have HB := Lib.hid hbel
    clear hbel
    by_cases hlt : q < 8
    · have hv : rs[q]? = some (ruAt rs q) := ru_at L8.out hlt
      have LU := Lib.hid (RL.out q hlt wr gq (LF.out wr HB.out))
      generalize ruAt rs q = u at hv LU
      have HV := Lib.hid hv
      have hq8 : (q : Int) < 8 := by omega
      clear hv
      go_wp2_with (refine Row.wpList_load_g 45 _ rfl (by first | rfl | (go_simp; done) | fail) ⟨gq, q * 12, none⟩ rfl u.cells _ LU.out Try.underlying45 rfl infoRu ?_)
      refine (red_any u _).mono ?_
      rintro e w5 ⟨rfl, b5⟩
      have HN := Lib.hid (HB.out.trans (b5.mono HB.out.size))
      clear b5 HB LU
      cases hon : rdB u with
      | true =>
        have HS := Lib.hid (th_with HV.out hon)
        clear hon
        generalize SetM.of (thTo rdB 0 (rs.take q)) = s0 at HS ⊢
        go_wp2_with fail
        refine (RefS.rwith_any _ _ _).mono ?_
        rintro e w6 ⟨rfl, b6⟩
        have HN6 := Lib.hid (HN.out.trans (b6.mono HN.out.size))
        clear b6 HN
        go_wp2
        go_roundw
        case rel => exact ⟨q + 1, by omega, by go_num, by rw [← HS.out], HN6.out⟩
        case measure => simp [intOf]; omega
      | false =>
        have HS := Lib.hid (th_skip HV.out hon)
        clear hon
        generalize SetM.of (thTo rdB 0 (rs.take q)) = s0 at HS ⊢
        go_wp2
        go_roundw
        case rel => exact ⟨q + 1, by omega, by go_num, by rw [← HS.out], HN.out⟩
        case measure => simp [intOf]; omega
    · obtain rfl : q = 8 := by omega
      have HE : Hid (((SetM.of (thTo rdB 0 (rs.take 8)) : Nat) : Int) = res) := Lib.hid RS.out.symm
      generalize SetM.of (thTo rdB 0 (rs.take 8)) = s0 at HE ⊢
      go_wp2
      go_ret
      exact ⟨ret_int HE.out, H0.out.bel.trans (HB.out.mono H0.out.bel.size)⟩
theorem rgreen_any (rs : List Ru) (h8 : rs.length = 8) (w : World) : Calls Try.prog 18 #[.agg (runsC rs).toArray] w fun e w' => e = .returned (.int .i64 (thS grB rs : Nat)) ∧ Below w.heap.size w w' := by
  have RS : Hid (((thS grB rs : Nat) : Int) = (SetM.of (thTo grB 0 (rs.take 8)) : Nat)) := Lib.hid (by rw [List.take_of_length_le (by omega)]; rfl)
  have L8 := Lib.hid h8
  have RL : Hid (∀ q, q < 8 → ∀ u gq, Lies u ⟨gq, 0, none⟩ (runsC rs) → Lies u ⟨gq, q * 12, none⟩ (ruAt rs q).cells) := Lib.hid (fun q hq u gq hl j v hj => by
    have := hl (q * 12 + j) v (runs_at h8 hq hj)
    rw [Addr.add_mid, Nat.zero_add] at this
    rwa [Addr.add_mid])
  generalize hrs : ((thS grB rs : Nat) : Int) = res at RS ⊢
  clear hrs
  generalize runsC rs = fl at *
  clear h8
  have hn0 := Blk.Bks.nil w
  have hn1 := hn0.alloc fl.toArray 46
  clear hn0
  go_enter Try.func18, Try.ntmps18
  go_upto_region 1 with fail
  generalize World.alloc w _ = v at hn1 ⊢
  generalize hg0 : w.heap.size = gq at hn1 ⊢
  clear hg0
  have H0 := Lib.hid hn1
  clear hn1
  have LF : Hid (∀ W, Below v.heap.size v W → Lies W ⟨gq, 0, none⟩ fl) := Lib.hid (fun W hb => by have := (H0.out.step hb).lies 0 rfl; simpa using this)
  go_wp2
  go_loopw [3, 4] (fun s i wr => ∃ q : Nat, q ≤ 8 ∧ i = .int .i64 q ∧ s = .int .i64 (SetM.of (thTo grB 0 (rs.take q)) : Nat) ∧ Below v.heap.size v wr) (fun _ i _ => 8 - (intOf i).toNat)
  case atStart => exact ⟨0, by omega, rfl, rfl, Below.refl _ _⟩
  case round =>
    obtain ⟨q, hq, rfl, rfl, hbel⟩ := hrel
    have HB := Lib.hid hbel
    clear hbel
    by_cases hlt : q < 8
    · have hv : rs[q]? = some (ruAt rs q) := ru_at L8.out hlt
      have LU := Lib.hid (RL.out q hlt wr gq (LF.out wr HB.out))
      generalize ruAt rs q = u at hv LU
      have HV := Lib.hid hv
      have hq8 : (q : Int) < 8 := by omega
      clear hv
      have c0 : wr.cell? ⟨gq, q * 12, none⟩ = some (I u.co) := by have := LU.out 0 _ rfl; rwa [Tab.add_zero] at this
      have HN := HB
      clear LU
      cases hon : grB u with
      | true =>
        have HS := Lib.hid (th_with HV.out hon)
        have e1 : u.co = 1 := by unfold grB at hon; exact beq_iff_eq.1 hon
        rw [e1] at c0
        clear hon e1
        generalize SetM.of (thTo grB 0 (rs.take q)) = s0 at HS ⊢
        go_wp2_with fail
        refine (RefS.rwith_any _ _ _).mono ?_
        rintro e w6 ⟨rfl, b6⟩
        have HN6 := Lib.hid (HN.out.trans (b6.mono HN.out.size))
        clear b6 HN
        go_wp2
        go_roundw
        case rel => exact ⟨q + 1, by omega, by go_num, by rw [← HS.out], HN6.out⟩
        case measure => simp [intOf]; omega
      | false =>
        have HS := Lib.hid (th_skip HV.out hon)
        have e1 : ¬ u.co = 1 := by unfold grB at hon; exact beq_eq_false_iff_ne.1 hon
        have e2 : (u.co == 1) = false := beq_eq_false_iff_ne.2 e1
        clear hon
        generalize SetM.of (thTo grB 0 (rs.take q)) = s0 at HS ⊢
        go_wp2
        go_roundw
        case rel => exact ⟨q + 1, by omega, by go_num, by rw [← HS.out], HN.out⟩
        case measure => simp [intOf]; omega
    · obtain rfl : q = 8 := by omega
      have HE : Hid (((SetM.of (thTo grB 0 (rs.take 8)) : Nat) : Int) = res) := Lib.hid RS.out.symm
      generalize SetM.of (thTo grB 0 (rs.take 8)) = s0 at HE ⊢
      go_wp2
      go_ret
      exact ⟨ret_int HE.out, H0.out.bel.trans (HB.out.mono H0.out.bel.size)⟩
theorem clash_any (T : Tab) (hd : Hd) (p q : Nat) (hp : p < 8) (hq : q < 8) (w : World) (ht : IsTab w hd T) : Calls Try.prog 15 #[.agg (T.cells hd).toArray, .int .i64 p, .int .i64 q] w fun e w' => e = .returned (.bool (clsS T p q)) ∧ Below w.heap.size w w' := by
  have h1 : (T.cells hd).length = 131 := by have := (cells_ok ht).size; rwa [List.size_toArray] at this
  have LCF : Hid (∀ p : Nat, p < 8 → ∀ u gt, Lies u ⟨gt, 0, none⟩ (T.cells hd) → u.cell? ⟨gt, 105 + p, none⟩ = some (I (cfAt T p))) := Lib.hid (fun p hp u gt hl => by
    have := hl (105 + p) _ (tab_cf ht hp)
    rwa [Addr.add_mid, Nat.zero_add] at this)
  have HR : Hid (clsS T p q = (SetM.has (cfAt T p) q || SetM.has (cfAt T q) p)) := Lib.hid rfl
  generalize clsS T p q = res at HR ⊢
  generalize T.cells hd = tc at *
  generalize hcp : cfAt T p = cp at *
  generalize hcq : cfAt T q = cq at *
  clear ht
  have hn0 := Blk.Bks.nil w
  have hn1 := hn0.alloc tc.toArray 32
  clear hn0
  go_enter Try.func15, Try.ntmps15
  go_upto_region 1 with fail
  generalize World.alloc w _ = v at hn1 ⊢
  generalize hg0 : w.heap.size = gt at hn1 ⊢
  clear hg0
  have H0 := Lib.hid hn1
  clear hn1
  have LT := Lib.hid (show Lies v ⟨gt, 0, none⟩ tc by have := H0.out.lies 0 rfl; simpa using this)
  have c0 : v.cell? ⟨gt, 105 + p, none⟩ = some (I cp) := by rw [← hcp]; exact LCF.out p hp v gt LT.out
  have c1 : v.cell? ⟨gt, 105 + q, none⟩ = some (I cq) := by rw [← hcq]; exact LCF.out q hq v gt LT.out
  have hp8 : (p : Int) < 8 := by omega
  have hq8 : (q : Int) < 8 := by omega
  clear hcp hcq LCF LT
  obtain ⟨x, hx⟩ : ∃ b, SetM.has cp q = b := ⟨_, rfl⟩
  obtain ⟨y, hy⟩ : ∃ b, SetM.has cq p = b := ⟨_, rfl⟩
  have HA : Hid (∀ W, Calls Try.prog 14 #[.int .i64 cp, .int .i64 q] W fun e w' => e = .returned (.bool x) ∧ W = w') := Lib.hid (fun W => by rw [← hx]; exact RefS.rhas_any _ _ W)
  have HB : Hid (∀ W, Calls Try.prog 14 #[.int .i64 cq, .int .i64 p] W fun e w' => e = .returned (.bool y) ∧ W = w') := Lib.hid (fun W => by rw [← hy]; exact RefS.rhas_any _ _ W)
  rw [hx, hy] at HR
  clear hx hy
  cases x
  · cases y
    · go_wp2_with (first | (go_at_call 14; with_reducible refine (HA.out _).mono ?_; rintro e w' ⟨rfl, rfl⟩) | (go_at_call 14; with_reducible refine (HB.out _).mono ?_; rintro e w' ⟨rfl, rfl⟩))
      go_ret
      exact ⟨ret_bool (by rw [HR.out]; rfl), H0.out.bel⟩
    · go_wp2_with (first | (go_at_call 14; with_reducible refine (HA.out _).mono ?_; rintro e w' ⟨rfl, rfl⟩) | (go_at_call 14; with_reducible refine (HB.out _).mono ?_; rintro e w' ⟨rfl, rfl⟩))
      go_ret
      exact ⟨ret_bool (by rw [HR.out]; rfl), H0.out.bel⟩
  · skip
    go_wp2_with (first | (go_at_call 14; with_reducible refine (HA.out _).mono ?_; rintro e w' ⟨rfl, rfl⟩) | (go_at_call 14; with_reducible refine (HB.out _).mono ?_; rintro e w' ⟨rfl, rfl⟩))
    go_ret
    exact ⟨ret_bool (by rw [HR.out]; rfl), H0.out.bel⟩
end Rg
namespace Rg
open Go Tab PlanM Ru
open ChkM (cfAt)
open Clear (phAt)
open PlaceM (where_ spots Spt)
theorem bs_has {rs : List Ru} (h8 : rs.length = 8) (p : Int) : SetM.has (bS rs) p = (decide (0 ≤ p ∧ p < 8) && buB (ruAt rs p)) := th_has h8 p
theorem gs_has {rs : List Ru} (h8 : rs.length = 8) (p : Int) : SetM.has (gS rs) p = (decide (0 ≤ p ∧ p < 8) && grB (ruAt rs p)) := th_has h8 p
theorem bs_in {rs : List Ru} (h8 : rs.length = 8) {p : Int} (hp : 0 ≤ p ∧ p < 8) : SetM.has (bS rs) p = buB (ruAt rs p) := by rw [bs_has h8, decide_eq_true hp, Bool.true_and]
theorem gs_in {rs : List Ru} (h8 : rs.length = 8) {p : Int} (hp : 0 ≤ p ∧ p < 8) : SetM.has (gS rs) p = grB (ruAt rs p) := by rw [gs_has h8, decide_eq_true hp, Bool.true_and]
theorem gr_bu {r : Ru} (h : grB r = true) : buB r = true := by unfold grB at h; unfold buB; rw [h]; rfl
theorem beg_iff {T : Tab} {rs : List Ru} {bu : Int} {l : Ln} : begS T rs bu l = true ↔ SetM.has bu l.n = false ∧ 0 ≤ l.x ∧ SetM.has bu l.t = false ∧ T.revert ≤ (ruAt rs l.t).tm ∧ bits .and .i64 (cfAt T l.t) bu = 0 := by
  unfold begS
  simp only [Bool.and_eq_true, Bool.not_eq_true', decide_eq_true_eq]
theorem end_iff {T : Tab} {rs : List Ru} {want gr : Int} {l : Ln} : endS T rs want gr l = true ↔ SetM.has gr l.n = true ∧ ((ruAt rs l.n).dn = true ∧ 0 ≤ l.x ∨ resS T rs want l.n = true) := by
  unfold endS
  simp only [Bool.and_eq_true, Bool.or_eq_true, decide_eq_true_eq]
theorem list_nodup (s : Int) : (SetM.list s).Nodup := by
  unfold SetM.list SetM.upto
  exact List.pairwise_map.2 ((List.nodup_range.filter _).imp (fun h e => h (Int.ofNat.inj e)))
theorem two_len {l : List Int} (hn : l.Nodup) {a b : Int} (h : ∀ x ∈ l, x = a ∨ x = b) : l.length ≤ 2 := by
  match l, hn, h with
  | [], _, _ => simp
  | [_], _, _ => simp
  | [_, _], _, _ => simp
  | x :: y :: z :: l, hn, h =>
    exfalso
    simp only [List.nodup_cons, List.mem_cons, not_or] at hn
    have hx := h x (by simp)
    have hy := h y (by simp)
    have hz := h z (by simp)
    obtain ⟨⟨h1, h2, _⟩, ⟨h3, _⟩, _⟩ := hn
    rcases hx with rfl | rfl <;> rcases hy with rfl | rfl <;> rcases hz with rfl | rfl <;> simp_all
section
variable {T : Tab} (G : Gd T) {r : Rg} {g : Nat} (hg : r.g = g) {rs : List Ru} (h8 : rs.length = 8) {want : Int}
include G hg h8
/-- who begins -/
theorem may_st {p : Int} (hp : SetM.has (stepS T r rs want).st p = true) : SetM.has want p = true ∧ buB (ruAt rs p) = false ∧ T.revert ≤ (ruAt rs p).tm ∧ (0 ≤ p ∧ p < 8) ∧ ∀ q : Int, 0 ≤ q ∧ q < 8 → clsS T p q = true → buB (ruAt rs q) = false := by
  cases way T r rs want with
  | wait _ _ h => rw [h] at hp; rw [has_zero] at hp; cases hp
  | over _ _ h => rw [h] at hp; rw [has_zero] at hp; cases hp
  | cross _ _ _ _ _ h => rw [h] at hp; rw [has_zero] at hp; cases hp
  | go _ _ hst _ _ _ =>
    obtain ⟨k, hk, hb, rfl⟩ := (hst p).1 hp
    obtain ⟨h1, h2, h3, h4, h5⟩ := beg_iff.1 hb
    obtain ⟨i, _, _, _, hw, _⟩ := G.ln_spec hg k h2
    have hv := has_range hw
    refine ⟨hw, by rwa [bs_in h8 hv] at h3, h4, hv, fun q hq hc => ?_⟩
    have hcf : SetM.has (cfAt T (lnS T r want k).t) q = true := by
      unfold clsS at hc
      rw [Bool.or_eq_true] at hc
      rcases hc with hc | hc
      · exact hc
      · exact (G.cf q _ hq hc).1
    cases hbq : buB (ruAt rs q) with
    | false => rfl
    | true =>
      exfalso
      have hbs : 0 ≤ bS rs ∧ bS rs ≤ 255 := by have := th_lt buB rs; unfold bS; omega
      exact (ChkX.and_ne hbs).2 ⟨q, hcf, by rw [bs_in h8 hq]; exact hbq⟩ h5
theorem may_two {p q : Int} (hp : SetM.has (stepS T r rs want).st p = true) (hq : SetM.has (stepS T r rs want).st q = true) (hne : p ≠ q) : PlaceM.beside T p q = true := by
  cases way T r rs want with
  | wait _ _ h => rw [h] at hp; rw [has_zero] at hp; cases hp
  | over _ _ h => rw [h] at hp; rw [has_zero] at hp; cases hp
  | cross _ _ _ _ _ h => rw [h] at hp; rw [has_zero] at hp; cases hp
  | go _ _ hst _ _ _ =>
    obtain ⟨k, hk, hb, rfl⟩ := (hst p).1 hp
    obtain ⟨k', hk', hb', rfl⟩ := (hst q).1 hq
    obtain ⟨i, _, hi, _⟩ := G.ln_spec hg k (beg_iff.1 hb).2.1
    obtain ⟨i', _, hi', _⟩ := G.ln_spec hg k' (beg_iff.1 hb').2.1
    exact G.beside hi hi' (fun e => hne (by rw [e]))
theorem may_len : (SetM.list (stepS T r rs want).st).length ≤ 2 := by
  cases way T r rs want with
  | wait _ _ h => rw [h]; exact (by decide +kernel : (SetM.list 0).length ≤ 2)
  | over _ _ h => rw [h]; exact (by decide +kernel : (SetM.list 0).length ≤ 2)
  | cross _ _ _ _ _ h => rw [h]; exact (by decide +kernel : (SetM.list 0).length ≤ 2)
  | go _ _ hst _ _ _ =>
    refine two_len (list_nodup _) (a := (lnS T r want 0).t) (b := (lnS T r want 1).t) fun x hx => ?_
    obtain ⟨k, hk, _, e⟩ := (hst x).1 ((SetM.mem_list _ _).1 hx)
    match k, hk, e with
    | 0, _, e => exact .inl e
    | 1, _, e => exact .inr e
theorem may_end : bits .andNot .i64 (stepS T r rs want).en (gS rs) = 0 := by
  have gl := th_lt grB rs
  have key : ∀ e : Int, 0 ≤ e ∧ e ≤ 255 → (∀ q, SetM.has e q = true → SetM.has (gS rs) q = true) → bits .andNot .i64 e (gS rs) = 0 := fun e he h => (ChkX.andNot_zero he gl).2 h
  cases way T r rs want with
  | wait _ _ h => rw [h]; exact key 0 (by omega) (fun q hq => by rw [has_zero] at hq; cases hq)
  | over _ _ h => rw [h]; exact key 0 (by omega) (fun q hq => by rw [has_zero] at hq; cases hq)
  | cross _ _ _ _ _ h => rw [h]; exact key (gS rs) (by unfold gS; omega) (fun q hq => hq)
  | go _ _ _ hen _ hnat =>
    obtain ⟨_, n, _, _, hn, hn2⟩ := hnat
    refine key _ (by rw [hn]; omega) fun q hq => ?_
    obtain ⟨k, hk, he, rfl⟩ := (hen q).1 hq
    exact (end_iff.1 he).1
theorem may_sep : (stepS T r rs want).st = 0 ∨ (bits .and .i64 (stepS T r rs want).en (stepS T r rs want).st = 0 ∧ (stepS T r rs want).r.cr = false) := by
  cases way T r rs want with
  | wait _ _ h => rw [h]; exact .inl rfl
  | over _ _ h => rw [h]; exact .inl rfl
  | cross _ _ _ _ _ h => rw [h]; exact .inl rfl
  | go hc hr hst hen _ hnat =>
    refine .inr ⟨?_, by rw [hr]; exact hc⟩
    obtain ⟨m, _, hm, hm2, _, _⟩ := hnat
    apply Decidable.byContradiction
    intro hne
    obtain ⟨q, h1, h2⟩ := (ChkX.and_ne (by rw [hm]; omega)).1 hne
    obtain ⟨k, hk, he, rfl⟩ := (hen q).1 h1
    obtain ⟨k', hk', hb, e⟩ := (hst _).1 h2
    have hgr := (end_iff.1 he).1
    have hv := has_range hgr
    have h3 := (beg_iff.1 hb).2.2.1
    rw [← e, bs_in h8 hv, gr_bu (by rwa [gs_in h8 hv] at hgr)] at h3
    cases h3
theorem may_grp : (stepS T r rs want).r.cr = true → (stepS T r rs want).r.g = r.g := by
  cases way T r rs want with
  | wait _ _ h => rw [h]; exact fun _ => rfl
  | over _ _ h => rw [h]; exact fun h => by cases h
  | cross _ _ _ _ _ h => rw [h]; exact fun _ => rfl
  | go hc hr _ _ _ _ => rw [hr]; exact fun _ => rfl
end
/-! ### the runs of a tick -/
end Rg
namespace Rg
open Go Go.ChangeShapes Go.WideShapes Go.ChangeAt Go.RowKit
open Tab Flat TabArg QL Ru PlanM
open ChkM (cfAt)
open Clear (phAt)
open PlaceM (where_ spots Spt)
open May (infoP)
def rowN (T : Tab) (g : Int) (k : Nat) : Int := ((ringAt T g k).length : Int)
def ringsS (T : Tab) (r : Rg) : Rg := ⟨r.g % (T.groups.length : Int), r.a0 % (rowN T (r.g % (T.groups.length : Int)) 0 + 1) - 1, r.a1 % (rowN T (r.g % (T.groups.length : Int)) 1 + 1) - 1, r.cr⟩
def rsq (g x0 x1 : Int) (c : Bool) : Nat → Rg
  | 0 => ⟨g, 0, 0, c⟩
  | 1 => ⟨g, x0, 0, c⟩
  | _ => ⟨g, x0, x1, c⟩
theorem rsq_step (g x0 x1 : Int) (c : Bool) {k : Nat} (hk : k < 2) (x : Int) (hx : x = if k = 0 then x0 else x1) : (rsq g x0 x1 c k).cells.toArray.setIfInBounds (1 + k) (I x) = (rsq g x0 x1 c (k + 1)).cells.toArray := by
  subst hx
  match k, hk with
  | 0, _ => rfl
  | 1, _ => rfl
theorem builtQ (g : Int) (c : Bool) : Try.prog.built 36 [(0, I g), (2, .bool c)] = some (Rg.cells ⟨g, 0, 0, c⟩).toArray := by kernel_rfl
theorem ringAt_len {T : Tab} (sm : PlaceM.Few T) (g : Int) (k : Nat) : (ringAt T g k).length ≤ 1000 := by
  by_cases hg : 0 ≤ g ∧ g < T.groups.length
  · obtain ⟨q, rfl⟩ := Int.eq_ofNat_of_zero_le hg.1
    have hq : q < T.groups.length := by omega
    have hm := List.getElem_mem hq
    have hr : rowsAt T q = T.groups[q] := rows_in (List.getElem?_eq_getElem hq)
    have := sm.rows _ hm
    unfold ringAt
    rw [hr]
    split
    · exact this.1
    · split
      · exact this.2
      · exact Nat.zero_le _
  · unfold ringAt
    rw [rows_out hg]
    split <;> (try split) <;> exact Nat.zero_le _
theorem rings_any (T : Tab) (hd : Hd) (r : Rg) (w : World) (ht : IsTab w hd T) (h0 : 0 < T.groups.length) (sm : PlaceM.Few T) : Calls Try.prog 11 #[.agg (T.cells hd).toArray, .agg r.cells.toArray] w fun e w' => e = .returned (.agg (Rg.cells (ringsS T r)).toArray) ∧ Below w.heap.size w w' := by
  have hg0 : 0 ≤ r.g % (T.groups.length : Int) := Int.emod_nonneg _ (by omega)
  have hg1 : r.g % (T.groups.length : Int) < T.groups.length := Int.emod_lt_of_pos _ (by omega)
  obtain ⟨q, hq⟩ := Int.eq_ofNat_of_zero_le hg0
  have hql : q < T.groups.length := by omega
  obtain ⟨xx, gcap, _, _, q104, _, _⟩ := group_row ht hql (k := 0) (by omega)
  have ROW : Hid (∀ k : Nat, k < 2 → ∃ sa cap, ∀ W, Below w.heap.size w W → W.cell? (xx.add (q * 2 + k)) = some (.slice sa (ringAt T q k).length cap)) := Lib.hid (fun k hk => by
    obtain ⟨x, gc, sa, cap, h104, hrow, _⟩ := group_row ht hql hk
    rw [q104] at h104
    have e := Option.some.inj h104
    simp only [Value.slice.injEq, Option.some.injEq] at e
    obtain ⟨rfl, _, _⟩ := e
    exact ⟨sa, cap, fun W hb => (hb.cell (World.block_lt_of_cell? w _ hrow)).trans hrow⟩)
  have LEN : Hid (∀ k : Nat, (ringAt T q k).length ≤ 1000) := Lib.hid (fun k => ringAt_len sm _ _)
  have KN : T.groups.length ≤ 1000 := sm.groups
  have PG : Hid (∀ W, Calls Try.prog 22 #[.int .i64 r.g, .int .i64 (T.groups.length : Int)] W fun e w' => e = .returned (.int .i64 q) ∧ W = w') := Lib.hid (fun W => by have := RefS.place_any r.g (T.groups.length : Int) W (by omega) (by omega); rwa [hq] at this)
  have PA : Hid (∀ k : Nat, ∀ W, Calls Try.prog 22 #[.int .i64 (r.at k), .int .i64 (((ringAt T q k).length : Int) + 1)] W fun e w' => e = .returned (.int .i64 (r.at k % (((ringAt T q k).length : Int) + 1))) ∧ W = w') := Lib.hid (fun k W => RefS.place_any _ _ W (by omega) (by have := LEN.out k; omega))
  obtain ⟨x0, hx0⟩ : ∃ x, r.a0 % (rowN T q 0 + 1) - 1 = x := ⟨_, rfl⟩
  obtain ⟨x1, hx1⟩ : ∃ x, r.a1 % (rowN T q 1 + 1) - 1 = x := ⟨_, rfl⟩
  have HR : Hid (ringsS T r = ⟨q, x0, x1, r.cr⟩) := Lib.hid (by unfold ringsS; rw [hq, hx0, hx1])
  have XK : Hid (∀ k : Nat, k < 2 → r.at k % (((ringAt T q k).length : Int) + 1) - 1 = if k = 0 then x0 else x1) := Lib.hid (fun k hk => by
    match k, hk with
    | 0, _ => exact hx0
    | 1, _ => exact hx1)
  have RK : Hid (∀ k : Nat, k < 2 → r.cells[1 + k]? = some (I (r.at k))) := Lib.hid (fun k hk => rg_at r hk)
  generalize ringsS T r = res at HR ⊢
  generalize hnn : T.groups.length = n at *
  generalize hcs : (T.cells hd).toArray = cs at *
  have C104 := Lib.hid q104
  obtain ⟨ln, hln⟩ : ∃ f : Nat → Nat, f = fun k : Nat => (ringAt T q (k : Int)).length := ⟨_, rfl⟩
  have LNE : ∀ k : Nat, (ringAt T q k).length = ln k := fun k => by rw [hln]
  simp only [LNE] at ROW LEN PA XK
  have h0n : 0 < n := h0
  clear ht q104 hcs hnn hg0 hg1 hx0 hx1 LNE hln hq
  have hn0 := Blk.Bks.nil w
  have hn1 := hn0.alloc cs 32
  have hn2 := hn1.alloc r.cells.toArray 36
  rw [show (w.alloc (.cells cs 32)).heap.size = w.heap.size + 1 by simp] at hn2
  have hn3 := hn2.alloc #[I 0, I 0, I 0, .bool false] 36
  rw [show ((w.alloc (.cells cs 32)).alloc (.cells r.cells.toArray 36)).heap.size = w.heap.size + 1 + 1 by simp] at hn3
  clear hn0
  clear hn1
  clear hn2
  go_enter Try.func11, Try.ntmps11
  go_upto_region 1 with fail
  generalize World.alloc (World.alloc (World.alloc w _) _) _ = v at hn3 ⊢
  generalize hg2 : w.heap.size + 1 + 1 = gz at hn3 ⊢
  generalize hg1 : w.heap.size + 1 = gr at hn3 ⊢
  generalize hg0 : w.heap.size = gt at hn3 ⊢
  clear hg0 hg1 hg2
  have H0 := Lib.hid hn3
  clear hn3
  have a0 : v.cell? ⟨gt, 104, none⟩ = some (.slice (some xx) n gcap) := H0.out.cell 2 104 rfl C104.out
  have a1 : v.cell? ⟨gr, 0, none⟩ = some (I r.g) := H0.out.cell 1 0 rfl rfl
  have a3 : v.cell? ⟨gr, 3, none⟩ = some (.bool r.cr) := H0.out.cell 1 3 rfl rfl
  have d0 : ((n : Int) == 0) = false := beq_eq_false_iff_ne.2 (by omega)
  go_upto_region 3 with fail
  clear d0
  go_upto_region 5 with (first | (go_at_call 22; with_reducible refine (PG.out _).mono ?_; rintro e w' ⟨rfl, rfl⟩) | (refine wpList_build rfl 36 [(0, .tmp 19), (2, .tmp 21)] rfl (Rg.cells ⟨q, 0, 0, r.cr⟩).toArray _ (by rfl) (builtQ q r.cr) ?_) | (refine Row.wpList_store_new rfl 36 _ _ rfl _ _ (Rg.cells ⟨q, 0, 0, r.cr⟩).toArray rfl rfl rfl infoRg rfl (one_rg _) ?_))
  have hn := H0.out.alloc (Rg.cells ⟨q, 0, 0, r.cr⟩).toArray 36
  generalize World.alloc v _ = v2 at hn ⊢
  generalize v.heap.size = g6 at hn ⊢
  have H2 := Lib.hid hn
  clear hn H0 a0 a1 a3 PG
  go_wp2_with fail
  go_loopw [7] (fun i wr => ∃ k : Nat, k ≤ 2 ∧ i = .int .i64 k ∧ Blk.Bks w [(g6, (rsq q x0 x1 r.cr k).cells.toArray, 36), (gz, #[I 0, I 0, I 0, .bool false], 36), (gr, r.cells.toArray, 36), (gt, cs, 32)] wr) (fun i _ => 2 - (intOf i).toNat)
  case atStart => exact ⟨0, by omega, rfl, H2.out⟩
  case round =>
    obtain ⟨k, hk, rfl, hB⟩ := hrel
    have HB := Lib.hid hB
    clear hB H2
    by_cases hlt : k < 2
    · obtain ⟨sa, cap, hrow⟩ := ROW.out k hlt
      have HRW := Lib.hid hrow
      have HP := Lib.hid (PA.out k)
      have hl := LEN.out k
      have HX := Lib.hid (rsq_step q x0 x1 r.cr hlt _ (XK.out k hlt))
      have HK := Lib.hid (RK.out k hlt)
      generalize ln k = len at HRW HP hl HX
      have m0 : 0 ≤ r.at k % ((len : Int) + 1) := Int.emod_nonneg _ (by omega)
      have m1 : r.at k % ((len : Int) + 1) < (len : Int) + 1 := Int.emod_lt_of_pos _ (by omega)
      generalize r.at k % ((len : Int) + 1) = m at HP HX m0 m1
      generalize r.at k = a at HP HK
      have kk0 : 0 ≤ (k : Int) := by omega
      have kk1 : (k : Int) < 2 := by omega
      have kk2 : ((k : Int)).toNat = k := by omega
      have qq : (q : Int) < n := by omega
      have e1 : IntKind.i64.wrap ((len : Int) + 1) = (len : Int) + 1 := by rw [IntKind.wrap_i64]; omega
      have e2 : IntKind.i64.wrap (m - 1) = m - 1 := by rw [IntKind.wrap_i64]; omega
      have HV := Lib.hid HB.out.bel
      have q1 : ∀ p : QB.By wr.heap.size wr, p.world.cell? ⟨gr, 1 + k, none⟩ = some (I a) := fun p => (HB.out.by p).cell 2 (1 + k) rfl (by rw [List.getElem?_toArray]; exact HK.out)
      have q2 : ∀ p : QB.By wr.heap.size wr, p.world.cell? ⟨gt, 104, none⟩ = some (.slice (some xx) n gcap) := fun p => (HB.out.by p).cell 3 104 rfl C104.out
      have q3 : ∀ p : QB.By wr.heap.size wr, p.world.cell? ((xx.add (q * 2)).add k) = some (.slice sa len cap) := fun p => by rw [add_two]; exact HRW.out _ (HV.out.trans (p.below.mono HV.out.size))
      go_upto_region 8 with fail
      refine QT.region wr.heap.size 18 (by kernel_rfl) (by kernel_rfl) ?_
      simp only [List.take_succ_cons, List.take_zero]
      repeat first
        | fail
        | (first | (quiet_step (first | (go_at_call 22; with_reducible exact QB.call_of (Nat.le_refl _) (fun b => (HP.out _).mono fun e w' h => ⟨h.1, h.2 ▸ Below.refl _ _⟩)))) | (go_big_quiet_step (fail)))
      refine wpQuiet_nil ?_
      intro _ hw'
      obtain ⟨pq, rfl⟩ := hw'
      have HP2 := Lib.hid (HB.out.by pq)
      generalize pq.world = vp at HP2 ⊢
      simp only [List.drop_succ_cons, List.drop_zero]
      clear q1 q2 q3
      have kx : vp.cell? ⟨g6, 1 + k, none⟩ = some ((rsq q x0 x1 r.cr k).cells.toArray[1 + k]'(by show 1 + k < 4; omega)) := HP2.out.cell 0 (1 + k) rfl (Array.getElem?_eq_getElem _)
      have fx : vp.frozen? ⟨g6, 1 + k, none⟩ = false := HP2.out.frozen 0 (1 + k) rfl
      go_upto_region 7 with fail
      have hput := HP2.out.set 0 (1 + k) rfl (I (m - 1))
      rw [HX.out] at hput
      simp only [List.set_cons_succ, List.set_cons_zero] at hput
      generalize World.setCell vp _ _ = v4 at hput ⊢
      have H4 := Lib.hid hput
      clear hput kx fx HP2 e1 e2
      go_wp2
      go_roundw
      case rel => exact ⟨k + 1, by omega, by go_num, H4.out⟩
      case measure => simp [intOf]; omega
    · obtain rfl : k = 2 := by omega
      go_wp2_with (first | (refine Row.wpList_load_g 36 _ rfl (by first | rfl | (go_simp; done) | fail) ⟨g6, 0, none⟩ rfl (⟨q, x0, x1, r.cr⟩ : Rg).cells _ (seg HB.out 0 0 rfl _ rfl) Try.underlying36 rfl infoRg ?_) | (refine wpList_store_row rfl 36 _ _ rfl gz (⟨q, x0, x1, r.cr⟩ : Rg).cells.toArray rfl rfl 36 _ (HB.out.at 1 rfl) infoRg rfl (one_rg _) ?_))
      have hput := HB.out.put 1 rfl (⟨q, x0, x1, r.cr⟩ : Rg).cells.toArray
      simp only [List.set_cons_succ, List.set_cons_zero] at hput
      generalize World.setRow wr gz _ = vz at hput ⊢
      have HG := Lib.hid hput
      clear hput
      go_wp2_with fail
      (try simp only [Exit.inBlock, Exit.then])
      refine bodyPost_ret (v := .agg (⟨q, x0, x1, r.cr⟩ : Rg).cells.toArray) ?_ rfl ⟨by rw [HR.out], HG.out.bel⟩
      exact results_cell_row rfl _ _ gz 36 _ (0, 0) _ rfl (HG.out.at 1 rfl) Try.underlying36 rfl infoRg
end Rg
namespace Rg
open Go Go.ChangeShapes Go.WideShapes Go.ChangeAt Go.RowKit
open Tab Flat TabArg QL Ru PlanM
open ChkM (cfAt)
open Clear (phAt)
open PlaceM (where_ spots Spt)
open May (infoP)
theorem flRg : flat Try.prog 4 36 = some [3, 3, 3, 4] := by kernel_rfl
theorem okWide_arr {P : Program} {w : World} {r : Reach} {base : Nat} {t : TypeId} {v : Value} {n : Nat} {e : TypeId} (ht : P.underlying t = some (.array n e)) (h : Value.okWide P w r base t v) : ∃ cs, v = .agg cs ∧ cs.size = P.cellsOf t := by
  simp only [Value.okWide, ht] at h
  obtain ⟨cs, h1, h2, _⟩ := h
  exact ⟨cs, h1, h2⟩
section
variable {H : Type} {enc : TypeId × Value → H} {P : Program} {w : World} {base : Nat} {spare : Nat → Bool} {held : Bool}
theorem rg_el : ∀ {cs : List Value}, All2 (Tr enc Try.prog w base spare held) [3, 3, 3, 4] cs → ∃ d : Rg, cs = d.cells
  | [_, _, _, _], ⟨h0, h1, h2, h3, _⟩ => by
    obtain ⟨v0, rfl⟩ := tr_int Try.underlying3 h0
    obtain ⟨v1, rfl⟩ := tr_int Try.underlying3 h1
    obtain ⟨v2, rfl⟩ := tr_int Try.underlying3 h2
    obtain ⟨v3, rfl⟩ := tr_bool Try.underlying4 h3
    exact ⟨⟨v0, v1, v2, v3⟩, rfl⟩
theorem all2_split {α β : Type} {R : α → β → Prop} : ∀ {l m : List α} {cs : List β}, All2 R (l ++ m) cs → ∃ a b, cs = a ++ b ∧ All2 R l a ∧ All2 R m b
  | [], m, cs, h => ⟨[], cs, rfl, trivial, h⟩
  | x :: l, m, [], h => h.elim
  | x :: l, m, c :: cs, h => by
    obtain ⟨a, b, rfl, h1, h2⟩ := all2_split (l := l) h.2
    exact ⟨c :: a, b, rfl, ⟨h.1, h1⟩, h2⟩
def ruT : List TypeId := [3, 3, 3, 3, 3, 3, 3, 4, 4, 3, 3, 3]
def rusT : Nat → List TypeId
  | 0 => []
  | n + 1 => ruT ++ rusT n
theorem flRs : flat Try.prog 5 46 = some (rusT 8) := by kernel_rfl
theorem rus_el : ∀ (n : Nat) {cs : List Value}, All2 (Tr enc Try.prog w base spare held) (rusT n) cs → ∃ rs : List Ru, rs.length = n ∧ cs = runsC rs
  | 0, [], _ => ⟨[], rfl, rfl⟩
  | n + 1, cs, h => by
    obtain ⟨a, b, rfl, h1, h2⟩ := all2_split h
    obtain ⟨r, rfl⟩ := ru_el h1
    obtain ⟨rs, hl, rfl⟩ := rus_el n h2
    exact ⟨r :: rs, by simp [hl], rfl⟩
end
end Rg
end Go.Proofs.Ytjgpljnbeolapaa
