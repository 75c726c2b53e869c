/- 37 texts in one file, in build order. -/
import Derived.Test.YtjgpljnbeolapaaRows
import Derived.Test.YtjgpljnbeolapaaPart11
import Derived.Test.YtjgpljnbeolapaaPart09
import Derived.Test.YtjgpljnbeolapaaPart02
import Derived.Test.YtjgpljnbeolapaaPart03
import Derived.Deep.Cut
import Derived.Test.YtjgpljnbeolapaaPart01
import Derived.Test.YtjgpljnbeolapaaPart05
import Derived.Test.YtjgpljnbeolapaaPart08
import Derived.Test.YtjgpljnbeolapaaPart07
import Derived.Test.YtjgpljnbeolapaaPart06
import Derived.Test.YtjgpljnbeolapaaPart04
import Derived.LoopTactic
set_option linter.unusedVariables false
set_option linter.unusedSimpArgs false
set_option linter.unusedSectionVars false
set_option maxHeartbeats 8000000
set_option maxRecDepth 100000
namespace Go.Proofs.Ytjgpljnbeolapaa
namespace Val
open Go Tab GenG GenT PlaceM PlanM OnS ChkM Clone May
open RefS (num num_range)
open ChkX (allIn_iff in_ranges InR)
open MayF (level span)
theorem list_may {α : Type} {m : Int} {f : α → Bool} {l : List α} (hl : (l.length : Int) ≤ m) (h : ∀ x ∈ l, f x = true) : listMay m f l = true := by
  unfold listMay
  rw [decide_eq_true hl, Bool.true_and, List.all_eq_true]
  exact h
theorem recall_range (x walk : Int) (h : 0 ≤ x) : 0 ≤ GenP.recall x walk ∧ GenP.recall x walk ≤ 3 := by
  unfold GenP.recall
  split <;> omega
theorem ph_may (L : List Int) (i : Int) : Ph.may (GenP.genPh L i) = true := by
  have a0 := num_range L i 12 (by omega)
  have a1 := num_range L (i + 5) 25 (by omega)
  have a2 := num_range L (i + 6) 15 (by omega)
  have a3 := num_range L (i + 2) 6 (by omega)
  have a4 := num_range L (i + 3) 4 (by omega)
  have a5 := num_range L (i + 8) 10 (by omega)
  have a6 := num_range L (i + 8) 97 (by omega)
  have a7 := num_range L (i + 1) 9 (by omega)
  have a8 := num_range L (i + 4) 5 (by omega)
  have a9 := num_range L (i + 9) 7 (by omega)
  unfold Ph.may
  rw [Bool.and_eq_true, allIn_iff, allIn_iff]
  unfold GenP.genPh
  dsimp only
  have hr := recall_range (num L (i + 9) 7) (if num L (i + 7) 2 = 1 then 1 + num L (i + 8) 10 else 0) a9.1
  simp only [List.mem_cons, List.not_mem_nil, or_false, forall_eq_or_imp, forall_eq]
  refine ⟨?_, hr⟩
  by_cases hw : num L (i + 7) 2 = 1
  · simp only [if_pos hw]; omega
  · simp only [if_neg hw]; omega
theorem phases_may (L : List Int) : listMay 8 Ph.may (genTab L).phases = true := by
  rw [genTab_phases]
  refine list_may (by rw [upd_len]; omega) (fun x hx => ?_)
  unfold upd at hx
  obtain ⟨i, _, rfl⟩ := List.mem_map.1 hx
  by_cases h : i < genN L
  · rw [if_pos h]; exact ph_may L _
  · rw [if_neg h]; decide
theorem row_may {p m : Nat} (h : p + m ≤ 8) : rowMay (seg p m) = true := by
  unfold rowMay
  rw [decide_eq_true (by rw [seg_len]; omega), Bool.true_and, allIn_iff]
  intro x hx
  have := mem_seg.1 hx
  omega
theorem groups_may (L : List Int) : ∀ g, g ≤ genG L → ∀ x ∈ (upTo L (genG L) g).1, groupMay x = true
  | 0, _, x, hx => by simp [upTo] at hx
  | g + 1, h, x, hx => by
    have h8 := up_le L (genG L) (genG_range L).2 (g + 1) h
    have e2 : (upTo L (genG L) (g + 1)).2 = (upTo L (genG L) g).2 + n0 L (genG L) g (upTo L (genG L) g).2 + n1 L (genG L) g (upTo L (genG L) g).2 := rfl
    have e1 : (upTo L (genG L) (g + 1)).1 = (upTo L (genG L) g).1 ++ [grpD L (genG L) g (upTo L (genG L) g).2] := rfl
    rw [e2] at h8
    rw [e1, List.mem_append, List.mem_singleton] at hx
    rcases hx with hx | rfl
    · exact groups_may L g (by omega) x hx
    · unfold groupMay grpD
      dsimp only
      rw [row_may (by omega), row_may (by omega)]
      rfl
theorem off_tab : ∀ a : Fin 4, ∀ b : Fin 3, (level (GenD.onTab a.val) && level (GenD.mulTab a.val b.val)) = true := by decide +kernel
theorem span_tab : ∀ a : Fin 6, span (Fl.ofB a.val) = true := by decide +kernel
theorem det_may (L : List Int) (i : Int) (n : Nat) (h0 : 0 < n) (h8 : n ≤ 8) : Det.may (GenD.genDet L i n) = true := by
  have r := num_range L i n (by omega)
  have ra := num_range L (i + 1) 4 (by omega)
  have rb := num_range L (i + 2) 3 (by omega)
  have rc := num_range L (i + 3) 4 (by omega)
  have rd := num_range L (i + 4) 6 (by omega)
  have re := num_range L (i + 6) 60 (by omega)
  have rf := num_range L (i + 7) 300 (by omega)
  unfold Det.may GenD.genDet
  dsimp only
  have hs1 := span_tab ⟨(num L (i + 3) 4).toNat, by omega⟩
  have hs2 := span_tab ⟨(num L (i + 4) 6).toNat, by omega⟩
  dsimp only at hs1 hs2
  generalize num L (i + 1) 4 = a at ra ⊢
  generalize num L (i + 2) 3 = b at rb ⊢
  obtain ⟨a, rfl⟩ := Int.eq_ofNat_of_zero_le ra.1
  obtain ⟨b, rfl⟩ := Int.eq_ofNat_of_zero_le rb.1
  have ht := off_tab ⟨a, by omega⟩ ⟨b, by omega⟩
  rw [Bool.and_eq_true] at ht
  rw [ht.1, ht.2, hs1, hs2]
  simp only [Bool.true_and, Bool.and_eq_true, allIn_iff, List.mem_cons, List.not_mem_nil, or_false, forall_eq_or_imp, forall_eq]
  refine ⟨by omega, ?_, ?_⟩
  · split <;> omega
  · split <;> omega
theorem mask_eq : ∀ n : Fin 9, GenR.maskV n.val = ((2 ^ n.val - 1 : Nat) : Int) := by decide +kernel
theorem and_mask (x : Int) {n : Nat} (h8 : n ≤ 8) : ∃ m : Nat, bits .and .i64 x (GenR.maskV n) = (m : Int) ∧ m < 256 := by
  have := mask_eq ⟨n, by omega⟩
  dsimp only at this
  rw [this]
  have hb : 2 ^ n - 1 < 256 := by
    have : 2 ^ n ≤ 2 ^ 8 := Nat.pow_le_pow_right (by omega) h8
    omega
  rw [SetM.and_low x _ hb]
  exact ⟨_, rfl, Nat.lt_of_le_of_lt Nat.and_le_right hb⟩
theorem withS_nat (T : Tab) (p q : Int) : ∃ m : Nat, GenW.withS T p q = (m : Int) ∧ m < 256 := by
  unfold GenW.withS
  split
  · exact ⟨_, rfl, SetM.with_lt _ _⟩
  · exact ⟨_, rfl, SetM.of_lt _⟩
theorem bars_range (x d : Int) {n : Nat} (h8 : n ≤ 8) (hd : ∃ m : Nat, d = (m : Int) ∧ m < 256) : 0 ≤ GenR.barsV x d n ∧ GenR.barsV x d n ≤ 255 := by
  obtain ⟨m, rfl, hm⟩ := hd
  obtain ⟨k, hk, hk2⟩ := and_mask x h8
  unfold GenR.barsV
  rw [hk, ChkX.andNot_eq (by omega) hm]
  have : SetM.low (k : Int) &&& (255 - m) < 256 := Nat.lt_of_le_of_lt Nat.and_le_left (SetM.low_lt _)
  omega
theorem rl_may (T : Tab) (L : List Int) (i : Int) {n : Nat} (h0 : 0 < n) (h8 : n ≤ 8) : Rl.may (GenR.genRl T L i n) = true := by
  have r8 := num_range L (i + 8) 4 (by omega)
  have r9 := num_range L (i + 9) 6 (by omega)
  have ra := num_range L (i + 10) 6 (by omega)
  have rb := num_range L (i + 6) 10 (by omega)
  have rc := num_range L (i + 11) 15 (by omega)
  have rd := num_range L (i + 13) 30 (by omega)
  have rl := GenR.lim_range (num L (i + 14) 3)
  have w1 := withS_nat T (num L i n) (num L (i + 1) n)
  obtain ⟨b0, b1⟩ := bars_range (num L (i + 7) 256) _ h8 w1
  obtain ⟨d, hd, hd2⟩ := w1
  obtain ⟨c, hc, hc2⟩ := withS_nat T (num L (i + 4) (n + 1)) (num L (i + 5) n)
  obtain ⟨x, hx, hx2⟩ := withS_nat T (num L (i + 2) n) (num L (i + 3) n)
  unfold Rl.may GenR.genRl
  dsimp only
  simp only [Bool.and_eq_true, allIn_iff, List.mem_cons, List.not_mem_nil, or_false, forall_eq_or_imp, forall_eq]
  rw [hc, hx, hd]
  rw [hd] at b0 b1
  refine ⟨⟨⟨b0, b1⟩, ?_, by omega, by omega⟩, ⟨by omega, by omega, by omega, ?_, by omega, ?_⟩, by omega⟩
  · split <;> omega
  · split <;> omega
  · split <;> omega
theorem bs_may (L : List Int) (i : Nat) {n : Nat} (h8 : n ≤ 8) : Bs.may (genBs L i n) = true := by
  have r := num_range L (331 + 2 * i) 30 (by omega)
  obtain ⟨m, hm, hm2⟩ := and_mask (num L (330 + 2 * i) 256) h8
  unfold Bs.may genBs
  dsimp only
  rw [hm]
  simp only [Bool.and_eq_true, allIn_iff, List.mem_cons, List.not_mem_nil, or_false, forall_eq_or_imp, forall_eq]
  omega
theorem genTab_rails (L : List Int) : (genTab L).rails = down (fun i => GenR.genRl (tab1 L) L (260 + 16 * i) (genN L)) (num L 176 4 % 3).toNat (num L 176 4 % 3).toNat := by
  unfold genTab; split <;> rfl
/-! ### sums stay within a tick's range -/
theorem cap_bd (n : Int) : 0 ≤ RefC.cap n ∧ RefC.cap n ≤ 2147483647 := ⟨RefC.cap_lo n, RefC.cap_hi n⟩
theorem fold_bd : ∀ (l : List Int) (x : Int), 0 ≤ x ∧ x ≤ 2147483647 → 0 ≤ l.foldl RefC.add x ∧ l.foldl RefC.add x ≤ 2147483647
  | [], x, h => h
  | y :: l, x, h => fold_bd l _ (cap_bd _)
theorem sums_bd (l : List Int) : 0 ≤ RefC.sums l ∧ RefC.sums l ≤ 2147483647 := fold_bd l 0 (by omega)
theorem free_bd (T : Tab) (p : Int) : 0 ≤ FreeS.freeS T p ∧ FreeS.freeS T p ≤ 2147483647 := by
  unfold FreeS.freeS
  split
  · split
    · exact sums_bd _
    · omega
  · omega
theorem wait_bd (T : Tab) (p : Int) : 0 ≤ WaitS.waitS T p ∧ WaitS.waitS T p ≤ 2147483647 := by
  unfold WaitS.waitS
  split
  · exact free_bd T p
  · exact sums_bd _
theorem maxW_bd (T : Tab) : ∀ n, 0 ≤ maxW T n ∧ maxW T n ≤ 2147483647
  | 0 => by simp [maxW]
  | n + 1 => by
    have h1 := maxW_bd T n
    have h2 := wait_bd T n
    rw [maxW]
    omega
theorem genTab_times (L : List Int) : (genTab L).extend = num L 178 12 ∧ (genTab L).budget = num L 179 40 ∧ (genTab L).start = num L 180 8 ∧ (genTab L).revert = num L 181 8 ∧ (genTab L).least = num L 182 12 ∧ (genTab L).share = num L 183 4 := by
  unfold genTab; split <;> exact ⟨rfl, rfl, rfl, rfl, rfl, rfl⟩
theorem tabS_win (L : List Int) : (tabS L).window = 0 := (congrArg Tab.window (tabS_window L)).symm
theorem genTab_window (L : List Int) : 0 ≤ (genTab L).window ∧ (genTab L).window ≤ 2147483647 := by
  unfold genTab
  split
  · rw [tabS_win]; omega
  · exact maxW_bd _ _
theorem flash_bd (L : List Int) : ∀ x ∈ (genTab L).flash, 0 ≤ x ∧ x ≤ 2 := by
  have hu : ∀ x ∈ upd (fun _ => (1 : Int)) 0 (genN L), 0 ≤ x ∧ x ≤ 2 := by
    intro x hx
    unfold upd at hx
    obtain ⟨i, _, rfl⟩ := List.mem_map.1 hx
    by_cases h : i < genN L
    · rw [if_pos h]; exact ⟨(show (0 : Int) ≤ 1 by decide), (show (1 : Int) ≤ 2 by decide)⟩
    · rw [if_neg h]; exact ⟨(show (0 : Int) ≤ 0 by decide), (show (0 : Int) ≤ 2 by decide)⟩
  intro x hx
  rw [genTab_flash] at hx
  split at hx
  · rcases List.mem_or_eq_of_mem_set hx with h1 | rfl
    · exact hu x h1
    · omega
  · exact hu x hx
theorem gen_may (L : List Int) : tabMay (genTab L) = true := by
  have h8 := genN_range L
  have h1 := genN_pos L
  obtain ⟨t1, t2, t3, t4, t5, t6⟩ := genTab_times L
  have a1 := num_range L 178 12 (by omega)
  have a2 := num_range L 179 40 (by omega)
  have a3 := num_range L 180 8 (by omega)
  have a4 := num_range L 181 8 (by omega)
  have a5 := num_range L 182 12 (by omega)
  have a6 := num_range L 183 4 (by omega)
  have a7 := num_range L 175 9 (by omega)
  have a8 := num_range L 176 4 (by omega)
  have a9 := num_range L 177 3 (by omega)
  have w := genTab_window L
  unfold tabMay
  rw [phases_may, t1, t2, t3, t4, t5, t6]
  simp only [Bool.true_and, Bool.and_eq_true, allIn_iff, List.mem_cons, List.not_mem_nil, or_false, forall_eq_or_imp, forall_eq]
  refine ⟨?_, fun x hx => by have := (cf_gen L).bd x hx; omega, ?_, ?_, ?_, by omega, flash_bd L, by omega⟩
  · rw [genTab_groups]
    refine list_may ?_ (groups_may L _ (Nat.le_refl _))
    have := genG_range L
    unfold genGs
    rw [up_len]
    omega
  · rw [genTab_dets]
    refine list_may (by rw [down_len]; omega) (fun x hx => ?_)
    obtain ⟨i, rfl⟩ := mem_down _ hx
    exact det_may L _ _ h1 h8
  · rw [genTab_rails]
    refine list_may (by rw [down_len]; omega) (fun x hx => ?_)
    obtain ⟨i, rfl⟩ := mem_down _ hx
    exact rl_may _ L _ h1 h8
  · rw [genTab_buses]
    refine list_may (by rw [down_len]; omega) (fun x hx => ?_)
    obtain ⟨i, rfl⟩ := mem_down _ hx
    exact bs_may L _ h8
end Val
namespace ChkI
open Go.RowKit Go.Shelf
open Tab PlaceM PlanM OnS ChkM Each Search
attribute [local go_sem] Oper.semAt_some
/-- What a table's box gives: the conflicts and the flash of each phase. -/
structure Bxd (T : Tab) (b : Nat) (W : World) : Prop where
  cf : ∀ p : Int, 0 ≤ p → p < 8 → W.cell? ⟨b, 105 + p.toNat, none⟩ = some (I (cfAt T p))
  fl : ∀ p : Int, 0 ≤ p → p < 8 → W.cell? ⟨b, 121 + p.toNat, none⟩ = some (I (flAt T p))
theorem Bxd.below {T : Tab} {b : Nat} {W W' : World} (h : Bxd T b W) (hb : Below W.heap.size W W') : Bxd T b W' :=
  ⟨fun p h0 h8 => (hb.cell (World.block_lt_of_cell? W _ (h.cf p h0 h8))).trans (h.cf p h0 h8), fun p h0 h8 => (hb.cell (World.block_lt_of_cell? W _ (h.fl p h0 h8))).trans (h.fl p h0 h8)⟩
end ChkI
namespace ChkJ
open Go.RowKit Go.Shelf
open Tab PlaceM PlanM OnS ChkM Each Search ChkI
open May (infoT)
attribute [local go_sem] Oper.semAt_some
end ChkJ
namespace ChkA
open Go.ChangeShapes Go.WideShapes Go.ChangeAt Go.RowKit
open Tab PlaceM PlanM OnS ChkM
open May (ret_bool infoT St ints_in phases_in)
/-! ### the numbers of a rail -/
end ChkA
namespace ChkB
open Go.ChangeShapes Go.WideShapes Go.ChangeAt Go.RowKit
open Tab PlaceM PlanM OnS ChkM ChkA
open May (ret_bool infoT infoP infoB infoD infoR St ints_in phases_in)
/-- Two blocks laid one behind the other. -/
theorem laid2 (w : World) (o0 o1 : Obj) : ∃ W, ((w.alloc o0).alloc o1) = W ∧ W.heap.size = w.heap.size + 2 ∧ Below w.heap.size w W ∧ Below (w.heap.size + 1) (w.alloc o0) W ∧ W.heap[w.heap.size + 1]? = some o1 := by
  refine ⟨_, rfl, by simp, ((Below.refl _ w).alloc (Nat.le_refl _) _).alloc (by simp) _, ?_, ?_⟩
  · have := (Below.refl (w.alloc o0).heap.size (w.alloc o0)).alloc (Nat.le_refl _) o1
    simpa using this
  · have h1 := heap_alloc_new (w.alloc o0) o1
    rwa [World.size_alloc] at h1
end ChkB
namespace RkA
open Go.ChangeShapes Go.WideShapes Go.ChangeAt Go.RowKit
open Tab PlaceM PlanM OnS ChkM ChkI
open RefS (rlist_any rhas_any row_of)
open May (ret_bool infoT infoP)
end RkA
namespace ChkG
open Go.ChangeShapes Go.WideShapes Go.ChangeAt Go.RowKit
open Tab PlaceM PlanM OnS ChkM ChkA
open PlanW (wG wK wI idx0 idx1 info2 pwhere_any)
open May (ret_bool infoT St)
end ChkG
namespace ChkH
open Go.ChangeShapes Go.WideShapes Go.ChangeAt Go.RowKit
open Tab PlaceM PlanM OnS ChkM ChkA ChkG
open May (ret_bool infoT St)
open Same (below_setRow)
end ChkH
namespace RkR
open Go.ChangeShapes Go.WideShapes Go.ChangeAt Go.RowKit
open Tab PlaceM PlanM OnS ChkM ChkH
open ChkB (laid2)
open Same (below_setRow)
open Where (infoS)
open RefS (rhas_any rwith_any)
open May (ret_bool infoT)
end RkR
namespace ChkZ
open Go Tab PlaceM PlanM OnS May ChkM ChkX
open PlanW (where_some)
/-! ### the document's walk through a group -/
/-! ### first places -/
theorem inj_of {A : List Spt} : (A.map Spt.p).Nodup → ∀ {x y : Spt}, x ∈ A → y ∈ A → x.p = y.p → x = y := by
  induction A with
  | nil => intro _ x y hx; cases hx
  | cons a A ih =>
    intro hn x y hx hy hp
    rw [List.map_cons, List.nodup_cons] at hn
    rcases List.mem_cons.1 hx with hx | hx
    · rcases List.mem_cons.1 hy with hy | hy
      · rw [hx, hy]
      · exact absurd (List.mem_map.2 ⟨y, hy, by rw [← hp, hx]⟩) hn.1
    · rcases List.mem_cons.1 hy with hy | hy
      · exact absurd (List.mem_map.2 ⟨x, hx, by rw [hp, hy]⟩) hn.1
      · exact ih hn.2 hx hy hp
/-! ### all rules -/
end ChkZ
namespace Val
open Go Tab GenG GenT PlaceM PlanM OnS ChkM Clone May
open RefS (num num_range)
open ChkX (in_ranges InR)
open ChkZ
theorem gen_in (L : List Int) : InR (genTab L) := in_ranges (gen_may L)
theorem gen_where (L : List Int) {x : Spt} (hx : x ∈ spots (genTab L)) : where_ (genTab L) x.p = some x := by
  have h : (where_ (genTab L) x.p).isSome = true := by
    rw [where_isSome, decide_eq_true_eq]
    exact List.mem_map.2 ⟨x, hx, rfl⟩
  obtain ⟨y, hy⟩ := Option.isSome_iff_exists.1 h
  have h1 : y ∈ spots (genTab L) := List.mem_of_find?_eq_some hy
  have h2 : y.p = x.p := by simpa using List.find?_some hy
  rw [hy, inj_of (gen_nodup L) h1 hx h2]
theorem gen_spot_on (L : List Int) {x : Spt} (hx : x ∈ spots (genTab L)) : SetM.has (onS (genTab L) : Nat) x.p = true := by
  rw [gen_has_on, gen_where L hx]; rfl
theorem gen_glen (L : List Int) : (genTab L).groups.length = genG L := by
  rw [genTab_groups]; unfold genGs; rw [up_len]
end Val
namespace Val
open Go Tab GenG GenT PlaceM PlanM OnS ChkM Clone May
open RefS (num num_range)
open ChkX (has_bits and_ne low_in allOn_iff andNot_eq not_bit low_ne)
theorem has_or4 {a b q : Int} (hb : 0 ≤ b ∧ b ≤ 255) : SetM.has (bits .or .i64 a b) q = true ↔ SetM.has a q = true ∨ SetM.has b q = true := by
  obtain ⟨m, rfl⟩ := Int.eq_ofNat_of_zero_le hb.1
  have hm : m < 256 := by omega
  rw [has_bits, has_bits, has_bits, SetM.or_low a m hm, Nat.testBit_or, SetM.low_nat m hm]
  simp only [Bool.or_eq_true]
  constructor
  · rintro ⟨h1, h2, h3 | h3⟩
    · exact .inl ⟨h1, h2, h3⟩
    · exact .inr ⟨h1, h2, h3⟩
  · rintro (⟨h1, h2, h3⟩ | ⟨h1, h2, h3⟩)
    · exact ⟨h1, h2, .inl h3⟩
    · exact ⟨h1, h2, .inr h3⟩
end Val
namespace Rg
open Go Tab PlanM Ru
open ChkM (cfAt)
open Clear (phAt)
open PlaceM (where_ spots Spt)
/-- What is used of a table. -/
structure Gd (T : Tab) : Prop where
  gl : 0 < T.groups.length
  cf : ∀ p q : Int, 0 ≤ p ∧ p < 8 → SetM.has (cfAt T p) q = true → SetM.has (cfAt T q) p = true ∧ p ≠ q ∧ PlaceM.beside T p q = false
  wh : ∀ x ∈ spots T, where_ T x.p = some x
  row : ∀ (g : Nat) (k i : Nat) (p : Int), (ringAt T g k)[i]? = some p → 0 ≤ p ∧ p < 8
  on : ∀ q : Int, SetM.has (OnS.onS T : Nat) q = true ↔ ∃ x ∈ spots T, x.p = q
theorem gd_gen (L : List Int) : Gd (GenT.genTab L) := by
  refine ⟨?_, fun p q hp h => Val.cf_at L hp h, fun x hx => Val.gen_where L hx, fun g k i p h => ?_, fun q => ⟨fun h => ?_, fun ⟨x, hx, e⟩ => e ▸ Val.gen_spot_on L hx⟩⟩
  · rw [Val.gen_glen]
    have := GenG.genG_range L
    omega
  · have R := Val.gen_in L
    by_cases hg : g < (GenT.genTab L).groups.length
    · have hm := R.gr _ (List.getElem_mem hg)
      have hr : rowsAt (GenT.genTab L) g = (GenT.genTab L).groups[g] := rows_in (List.getElem?_eq_getElem hg)
      unfold May.groupMay May.rowMay at hm
      simp only [Bool.and_eq_true] at hm
      obtain ⟨⟨_, h1⟩, ⟨_, h2⟩⟩ := hm
      have a1 := ChkX.allIn_iff.1 h1
      have a2 := ChkX.allIn_iff.1 h2
      have hmem := List.mem_of_getElem? h
      unfold ringAt at hmem
      rw [hr] at hmem
      split at hmem
      · have := a1 p hmem; omega
      · split at hmem
        · have := a2 p hmem; omega
        · simp at hmem
    · have hr := rows_out (T := GenT.genTab L) (g := (g : Int)) (by omega)
      unfold ringAt at h
      rw [hr] at h
      split at h
      · simp at h
      · split at h <;> simp at h
  · rw [GenT.gen_has_on] at h
    obtain ⟨y, hy⟩ := Option.isSome_iff_exists.1 h
    exact ⟨y, List.mem_of_find?_eq_some hy, by simpa using List.find?_some hy⟩
section
variable {T : Tab} (G : Gd T)
include G
theorem Gd.spot {g k i : Nat} {p : Int} (h : (ringAt T g k)[i]? = some p) : (⟨g, k, i, p⟩ : Spt) ∈ spots T := mem_ringAt.2 ⟨h, G.row g k i p h⟩
theorem Gd.same {g k i g' k' i' : Nat} {p : Int} (h : (ringAt T g k)[i]? = some p) (h' : (ringAt T g' k')[i']? = some p) : g = g' ∧ k = k' ∧ i = i' := by
  have h1 := G.wh _ (G.spot h)
  have h2 := G.wh _ (G.spot h')
  rw [h1] at h2
  have e := Option.some.inj h2
  simp only [Spt.mk.injEq] at e
  exact ⟨e.1, e.2.1, e.2.2.1⟩
theorem Gd.beside {g k i k' i' : Nat} {p p' : Int} (h : (ringAt T g k)[i]? = some p) (h' : (ringAt T g k')[i']? = some p') (hk : k ≠ k') : PlaceM.beside T p p' = true := by
  unfold PlaceM.beside
  rw [G.wh _ (G.spot h), G.wh _ (G.spot h')]
  simp [hk]
theorem Gd.now_of {g k i : Nat} {p : Int} (h : (ringAt T g k)[i]? = some p) : nowS T g k (i : Nat) = p := by
  have hi := (List.getElem?_eq_some_iff.1 h).1
  have h8 := G.row g k i p h
  unfold nowS
  rw [if_pos ⟨by omega, by omega⟩, Int.toNat_natCast, List.getD_eq_getElem?_getD, h]
  exact first_one h8.1 h8.2
theorem Gd.now_spec (g k : Nat) (a : Int) : (nowS T g k a = -1 ∧ ¬ (0 ≤ a ∧ a < ((ringAt T g k).length : Int))) ∨ ∃ i : Nat, a = i ∧ (ringAt T g k)[i]? = some (nowS T g k a) := by
  by_cases ha : 0 ≤ a ∧ a < ((ringAt T g k).length : Int)
  · obtain ⟨i, rfl⟩ := Int.eq_ofNat_of_zero_le ha.1
    have hv := List.getElem?_eq_getElem (show i < (ringAt T g k).length by omega)
    refine .inr ⟨i, rfl, ?_⟩
    rw [G.now_of hv]; exact hv
  · refine .inl ⟨?_, ha⟩
    unfold nowS; rw [if_neg ha]
/-- the next index of a ring, and the phase there -/
theorem Gd.ln_spec {r : Rg} {g : Nat} (hg : r.g = g) {want : Int} (k : Nat) (h : 0 ≤ (lnS T r want k).x) : ∃ i : Nat, (lnS T r want k).x = i ∧ (ringAt T g k)[i]? = some (lnS T r want k).t ∧ r.at k < i ∧ SetM.has want (lnS T r want k).t = true ∧ ∀ j, j < i → ¬ (r.at k < (j : Int) ∧ SetM.has want ((ringAt T g k).getD j 0) = true) := by
  obtain ⟨i, h1, h2, h3, h4, h5⟩ := next_spec h
  have hx : (lnS T r want k).x = i := h1
  have ht : (lnS T r want k).t = (ringAt T r.g k).getD i 0 := by
    show nowS T r.g k (lnS T r want k).x = _
    rw [hx]
    exact now_next h2 h4
  rw [hg] at h2 h4 h5 ht
  have hv := List.getElem?_eq_getElem h2
  have hgd : (ringAt T g k).getD i 0 = (ringAt T g k)[i] := by rw [List.getD_eq_getElem?_getD, hv]; rfl
  refine ⟨i, hx, ?_, h3, ?_, h5⟩
  · rw [ht, hgd]; exact hv
  · rw [ht]; exact h4
end
theorem has_zero (q : Int) : SetM.has 0 q = false := Val.has_zero q
theorem has_withv {s p q : Int} (hp : 0 ≤ p ∧ p < 8) : SetM.has (SetM.withN s p : Nat) q = (SetM.has s q || (q == p)) := by
  rw [SetM.has_with]
  obtain ⟨k, rfl⟩ := Int.eq_ofNat_of_zero_le hp.1
  rw [Val.bit_ne k (by omega), Bool.true_and]
theorem st_has {b0 b1 : Bool} {t0 t1 p : Int} (h0 : b0 = true → 0 ≤ t0 ∧ t0 < 8) (h1 : b1 = true → 0 ≤ t1 ∧ t1 < 8) : SetM.has (stS b0 b1 t0 t1) p = ((b0 && p == t0) || (b1 && p == t1)) := by
  unfold stS
  cases b0 <;> cases b1
  · simp [has_zero]
  · simp [has_withv (h1 rfl), has_zero]
  · simp [has_withv (h0 rfl), has_zero]
  · simp [has_withv (h0 rfl), has_withv (h1 rfl), has_zero]
theorem st_nat (b0 b1 : Bool) (t0 t1 : Int) : ∃ m : Nat, stS b0 b1 t0 t1 = m ∧ m < 256 := by
  unfold stS
  cases b0 <;> cases b1
  · exact ⟨0, rfl, by decide⟩
  · exact ⟨_, rfl, SetM.with_lt _ _⟩
  · exact ⟨_, rfl, SetM.with_lt _ _⟩
  · exact ⟨_, rfl, SetM.with_lt _ _⟩
theorem st_none {b0 b1 c0 c1 : Bool} {t0 t1 u0 u1 : Int} (h0 : b0 = true → 0 ≤ t0 ∧ t0 < 8) (h1 : b1 = true → 0 ≤ t1 ∧ t1 < 8) (k0 : c0 = true → 0 ≤ u0 ∧ u0 < 8) (k1 : c1 = true → 0 ≤ u1 ∧ u1 < 8) (h : bits .or .i64 (stS b0 b1 t0 t1) (stS c0 c1 u0 u1) = 0) : b0 = false ∧ b1 = false ∧ c0 = false ∧ c1 = false := by
  obtain ⟨m, hm, hm2⟩ := st_nat c0 c1 u0 u1
  have key : ∀ q, SetM.has (stS b0 b1 t0 t1) q = false ∧ SetM.has (stS c0 c1 u0 u1) q = false := fun q => by
    have : ¬ (SetM.has (stS b0 b1 t0 t1) q = true ∨ SetM.has (stS c0 c1 u0 u1) q = true) := fun hh => by
      have := (Val.has_or4 (a := stS b0 b1 t0 t1) (b := stS c0 c1 u0 u1) (q := q) (by rw [hm]; omega)).2 hh
      rw [h, has_zero] at this
      cases this
    simpa using this
  refine ⟨?_, ?_, ?_, ?_⟩
  · cases b0 with
    | false => rfl
    | true => have := (key t0).1; rw [st_has h0 h1] at this; simp at this
  · cases b1 with
    | false => rfl
    | true => have := (key t1).1; rw [st_has h0 h1] at this; simp at this
  · cases c0 with
    | false => rfl
    | true => have := (key u0).2; rw [st_has k0 k1] at this; simp at this
  · cases c1 with
    | false => rfl
    | true => have := (key u1).2; rw [st_has k0 k1] at this; simp at this
/-! ### a tick, by its ways -/
def ln (T : Tab) (r : Rg) (want : Int) : Nat → Ln
  | 0 => lnS T r want 0
  | _ => lnS T r want 1
/-- what a tick does, told apart -/
inductive Way (T : Tab) (r : Rg) (rs : List Ru) (want : Int) (S : So) : Prop where
  | wait (hc : r.cr = true) (hb : bS rs ≠ 0) (h : S = ⟨r, 0, 0⟩)
  | over (hc : r.cr = true) (hb : bS rs = 0) (h : S = ⟨⟨if followS T r.g want < 0 then r.g else followS T r.g want, -1, -1, false⟩, 0, 0⟩)
  | cross (hc : r.cr = false) (hb : ∀ k, k < 2 → begS T rs (bS rs) (lnS T r want k) = false) (he : ∀ k, k < 2 → endS T rs want (gS rs) (lnS T r want k) = false) (hs : ∀ k, k < 2 → setS rs (gS rs) (bS rs) (lnS T r want k) = true) (ho : othS want (gS rs) = true) (h : S = ⟨⟨r.g, r.a0, r.a1, true⟩, 0, gS rs⟩)
  | go (hc : r.cr = false) (hr : S.r = atS r (begS T rs (bS rs) (lnS T r want 0)) (begS T rs (bS rs) (lnS T r want 1)) (lnS T r want 0).x (lnS T r want 1).x)
      (hst : ∀ p, SetM.has S.st p = true ↔ ∃ k, k < 2 ∧ begS T rs (bS rs) (lnS T r want k) = true ∧ p = (lnS T r want k).t)
      (hen : ∀ p, SetM.has S.en p = true ↔ ∃ k, k < 2 ∧ endS T rs want (gS rs) (lnS T r want k) = true ∧ p = (lnS T r want k).n)
      (hn : (∀ k, k < 2 → begS T rs (bS rs) (lnS T r want k) = false) → (∀ k, k < 2 → endS T rs want (gS rs) (lnS T r want k) = false) → (∀ k, k < 2 → setS rs (gS rs) (bS rs) (lnS T r want k) = true) → othS want (gS rs) = false)
      (hnat : ∃ m n : Nat, S.st = m ∧ m < 256 ∧ S.en = n ∧ n < 256)
theorem beg_valid {T : Tab} {r : Rg} {rs : List Ru} {want : Int} {k : Nat} (h : begS T rs (bS rs) (lnS T r want k) = true) : 0 ≤ (lnS T r want k).x ∧ 0 ≤ (lnS T r want k).t ∧ (lnS T r want k).t < 8 := by
  unfold begS at h
  simp only [Bool.and_eq_true, decide_eq_true_eq] at h
  exact ⟨h.2.1, ln_valid T r want k h.2.1⟩
theorem end_valid {T : Tab} {r : Rg} {rs : List Ru} {want : Int} {k : Nat} (h : endS T rs want (gS rs) (lnS T r want k) = true) : 0 ≤ (lnS T r want k).n ∧ (lnS T r want k).n < 8 := by
  unfold endS at h
  simp only [Bool.and_eq_true] at h
  exact has_range h.1
theorem two_iff {p : Nat → Prop} : (∃ k, k < 2 ∧ p k) ↔ p 0 ∨ p 1 := by
  constructor
  · rintro ⟨k, hk, h⟩
    match k, hk with
    | 0, _ => exact .inl h
    | 1, _ => exact .inr h
  · rintro (h | h)
    · exact ⟨0, by omega, h⟩
    · exact ⟨1, by omega, h⟩
theorem two_all {p : Nat → Prop} : (∀ k, k < 2 → p k) ↔ p 0 ∧ p 1 := by
  constructor
  · exact fun h => ⟨h 0 (by omega), h 1 (by omega)⟩
  · rintro ⟨h0, h1⟩ k hk
    match k, hk with
    | 0, _ => exact h0
    | 1, _ => exact h1
theorem way (T : Tab) (r : Rg) (rs : List Ru) (want : Int) : Way T r rs want (stepS T r rs want) := by
  cases hc : r.cr with
  | true =>
    have e : stepS T r rs want = ⟨acrS T r want (bS rs), 0, 0⟩ := by unfold stepS; rw [hc]; rfl
    rw [e]
    unfold acrS
    by_cases hb : bS rs = 0
    · rw [if_pos hb]; exact .over hc hb rfl
    · rw [if_neg hb]; exact .wait hc hb rfl
  | false =>
    have e : stepS T r rs want = stepL T r rs want (gS rs) (bS rs) (lnS T r want 0) (lnS T r want 1) := by unfold stepS; rw [hc]; rfl
    rw [e]
    obtain ⟨b0, hb0⟩ : ∃ x, begS T rs (bS rs) (lnS T r want 0) = x := ⟨_, rfl⟩
    obtain ⟨b1, hb1⟩ : ∃ x, begS T rs (bS rs) (lnS T r want 1) = x := ⟨_, rfl⟩
    obtain ⟨e0, he0⟩ : ∃ x, endS T rs want (gS rs) (lnS T r want 0) = x := ⟨_, rfl⟩
    obtain ⟨e1, he1⟩ : ∃ x, endS T rs want (gS rs) (lnS T r want 1) = x := ⟨_, rfl⟩
    have v0 : b0 = true → 0 ≤ (lnS T r want 0).t ∧ (lnS T r want 0).t < 8 := fun h => (beg_valid (hb0.trans h)).2
    have v1 : b1 = true → 0 ≤ (lnS T r want 1).t ∧ (lnS T r want 1).t < 8 := fun h => (beg_valid (hb1.trans h)).2
    have u0 : e0 = true → 0 ≤ (lnS T r want 0).n ∧ (lnS T r want 0).n < 8 := fun h => end_valid (he0.trans h)
    have u1 : e1 = true → 0 ≤ (lnS T r want 1).n ∧ (lnS T r want 1).n < 8 := fun h => end_valid (he1.trans h)
    unfold stepL
    rw [hb0, hb1, he0, he1]
    dsimp only
    by_cases hx : bits .or .i64 (stS b0 b1 (lnS T r want 0).t (lnS T r want 1).t) (stS e0 e1 (lnS T r want 0).n (lnS T r want 1).n) = 0 ∧ (setS rs (gS rs) (bS rs) (lnS T r want 0) = true ∧ setS rs (gS rs) (bS rs) (lnS T r want 1) = true) ∧ othS want (gS rs) = true
    · rw [if_pos hx]
      obtain ⟨rfl, rfl, rfl, rfl⟩ := st_none v0 v1 u0 u1 hx.1
      exact .cross hc (two_all.2 ⟨hb0, hb1⟩) (two_all.2 ⟨he0, he1⟩) (two_all.2 hx.2.1) hx.2.2 rfl
    · rw [if_neg hx]
      refine .go hc (by rw [hb0, hb1]) (fun p => ?_) (fun p => ?_) (fun q0 q1 q2 => ?_) ?_
      · dsimp only
        rw [st_has v0 v1, two_iff, hb0, hb1]
        simp
      · dsimp only
        rw [st_has u0 u1, two_iff, he0, he1]
        simp
      · rw [two_all, hb0, hb1] at q0
        rw [two_all, he0, he1] at q1
        obtain ⟨rfl, rfl⟩ := q0
        obtain ⟨rfl, rfl⟩ := q1
        cases ho : othS want (gS rs) with
        | false => rfl
        | true => exact absurd ⟨by show bits .or .i64 0 0 = 0; decide, two_all.1 q2, ho⟩ hx
      · obtain ⟨m, hm, hm2⟩ := st_nat b0 b1 (lnS T r want 0).t (lnS T r want 1).t
        obtain ⟨n, hn, hn2⟩ := st_nat e0 e1 (lnS T r want 0).n (lnS T r want 1).n
        exact ⟨m, n, hm, hm2, hn, hn2⟩
end Rg
namespace Rg
open Go Go.ChangeShapes Go.WideShapes Go.ChangeAt Go.RowKit
open Tab Flat TabArg QL Ru PlanM
open ChkM (cfAt)
open Clear (phAt)
open PlaceM (where_ spots Spt)
open May (infoP)
end Rg
namespace Rg
open Go Tab PlanM Ru
open ChkM (cfAt)
open Clear (phAt)
open PlaceM (where_ spots Spt)
theorem bs_has {rs : List Ru} (h8 : rs.length = 8) (p : Int) : SetM.has (bS rs) p = (decide (0 ≤ p ∧ p < 8) && buB (ruAt rs p)) := th_has h8 p
theorem gs_has {rs : List Ru} (h8 : rs.length = 8) (p : Int) : SetM.has (gS rs) p = (decide (0 ≤ p ∧ p < 8) && grB (ruAt rs p)) := th_has h8 p
theorem bs_in {rs : List Ru} (h8 : rs.length = 8) {p : Int} (hp : 0 ≤ p ∧ p < 8) : SetM.has (bS rs) p = buB (ruAt rs p) := by rw [bs_has h8, decide_eq_true hp, Bool.true_and]
theorem gs_in {rs : List Ru} (h8 : rs.length = 8) {p : Int} (hp : 0 ≤ p ∧ p < 8) : SetM.has (gS rs) p = grB (ruAt rs p) := by rw [gs_has h8, decide_eq_true hp, Bool.true_and]
theorem gr_bu {r : Ru} (h : grB r = true) : buB r = true := by unfold grB at h; unfold buB; rw [h]; rfl
theorem beg_iff {T : Tab} {rs : List Ru} {bu : Int} {l : Ln} : begS T rs bu l = true ↔ SetM.has bu l.n = false ∧ 0 ≤ l.x ∧ SetM.has bu l.t = false ∧ T.revert ≤ (ruAt rs l.t).tm ∧ bits .and .i64 (cfAt T l.t) bu = 0 := by
  unfold begS
  simp only [Bool.and_eq_true, Bool.not_eq_true', decide_eq_true_eq]
theorem end_iff {T : Tab} {rs : List Ru} {want gr : Int} {l : Ln} : endS T rs want gr l = true ↔ SetM.has gr l.n = true ∧ ((ruAt rs l.n).dn = true ∧ 0 ≤ l.x ∨ resS T rs want l.n = true) := by
  unfold endS
  simp only [Bool.and_eq_true, Bool.or_eq_true, decide_eq_true_eq]
section
variable {T : Tab} (G : Gd T) {r : Rg} {g : Nat} (hg : r.g = g) {rs : List Ru} (h8 : rs.length = 8) {want : Int}
include G hg h8
end
/-! ### the runs of a tick -/
def cueS (st en pr p : Int) : Cu := ⟨SetM.has st p, SetM.has en p, false, false, SetM.has pr p, false, false, false⟩
def runsS (T : Tab) (rs : List Ru) (st en pr : Int) : List Ru := GenT.upd (fun p => stp (phAt T (p : Nat)) (ruAt rs (p : Nat)) (cueS st en pr (p : Nat))) zRu 8
theorem runs_len8 (T : Tab) (rs : List Ru) (st en pr : Int) : (runsS T rs st en pr).length = 8 := GenT.upd_len _ _ _
theorem runs_get (T : Tab) (rs : List Ru) (st en pr : Int) {p : Int} (hp : 0 ≤ p ∧ p < 8) : ruAt (runsS T rs st en pr) p = stp (phAt T p) (ruAt rs p) (cueS st en pr p) := by
  obtain ⟨k, rfl⟩ := Int.eq_ofNat_of_zero_le hp.1
  unfold ruAt runsS
  rw [Int.toNat_natCast, List.getD_eq_getElem?_getD, GenT.upd_at _ _ _ _ (by omega), if_pos (by omega)]
  rfl
/-- a phase that is not Red was not, or begins -/
theorem stp_bu {p : Ph} {u : Ru} {c : Cu} (h : buB (stp p u c) = true) : buB u = true ∨ c.st = true := by
  by_cases hb : buB u = true
  · exact .inl hb
  · right
    unfold buB at hb
    simp only [Bool.or_eq_true, beq_iff_eq, not_or] at hb
    unfold stp at h
    rw [if_neg hb.1, if_neg hb.2.1, if_neg hb.2.2] at h
    unfold rdR at h
    cases hs : c.st with
    | true => rfl
    | false =>
      rw [hs] at h
      have h' : buB (lst u 0) = true := h
      exact absurd h' (by unfold buB lst; simp)
/-- a green phase was green and did not end, or begins -/
theorem stp_gr {p : Ph} {u : Ru} {c : Cu} (h : grB (stp p u c) = true) : (grB u = true ∧ c.en = false) ∨ (buB u = false ∧ c.st = true) := by
  unfold grB at h
  rw [beq_iff_eq] at h
  unfold stp at h
  by_cases h1 : u.co = 1
  · rw [if_pos h1] at h
    cases he : c.en with
    | true => rw [he] at h; exact absurd h (by show ¬ (2 : Int) = 1; decide)
    | false => exact .inl ⟨by unfold grB; rw [h1]; rfl, rfl⟩
  · rw [if_neg h1] at h
    by_cases h2 : u.co = 2
    · rw [if_pos h2] at h
      unfold yel at h
      split at h
      · exact absurd h (by show ¬ (2 : Int) = 1; decide)
      · split at h
        · exact absurd h (by show ¬ (3 : Int) = 1; decide)
        · exact absurd h (by show ¬ (0 : Int) = 1; decide)
    · rw [if_neg h2] at h
      by_cases h3 : u.co = 3
      · rw [if_pos h3] at h
        unfold cle at h
        split at h
        · exact absurd h (by show ¬ (3 : Int) = 1; decide)
        · exact absurd h (by show ¬ (0 : Int) = 1; decide)
      · rw [if_neg h3] at h
        have hb : buB u = false := by unfold buB; simp [h1, h2, h3]
        unfold rdR at h
        cases hs : c.st with
        | true => exact .inr ⟨hb, rfl⟩
        | false => rw [hs] at h; exact absurd h (by show ¬ (0 : Int) = 1; decide)
/-- What a tick keeps. -/
structure Inv (T : Tab) (r : Rg) (rs : List Ru) : Prop where
  len : rs.length = 8
  g0 : 0 ≤ r.g ∧ r.g < (T.groups.length : Int)
  at0 : ∀ k : Nat, k < 2 → -1 ≤ r.at k ∧ r.at k < ((ringAt T r.g k).length : Int)
  red : ∀ p : Int, 0 ≤ p ∧ p < 8 → buB (ruAt rs p) = true → ∃ k, k < 2 ∧ nowS T r.g k (r.at k) = p
  cr : r.cr = true → ∀ p : Int, 0 ≤ p ∧ p < 8 → grB (ruAt rs p) = false
theorem follow_in {T : Tab} (hl : 0 < T.groups.length) (g want : Int) (h : ¬ followS T g want < 0) : 0 ≤ followS T g want ∧ followS T g want < (T.groups.length : Int) := by
  refine ⟨by omega, ?_⟩
  unfold followS at h ⊢
  split
  · exact Int.emod_lt_of_pos _ (by omega)
  · omega
theorem at_atS (r : Rg) (b0 b1 : Bool) (x0 x1 : Int) {k : Nat} (hk : k < 2) : (atS r b0 b1 x0 x1).at k = if (if k = 0 then b0 else b1) = true then (if k = 0 then x0 else x1) else r.at k := by
  match k, hk with
  | 0, _ => rfl
  | 1, _ => rfl
theorem inv_tick {T : Tab} (G : Gd T) {r : Rg} {rs : List Ru} (I : Inv T r rs) (want pr : Int) : Inv T (stepS T r rs want).r (runsS T rs (stepS T r rs want).st (stepS T r rs want).en pr) := by
  obtain ⟨g, hg⟩ := Int.eq_ofNat_of_zero_le I.g0.1
  have h8 := I.len
  have W := way T r rs want
  generalize stepS T r rs want = S at W
  have busy : ∀ p : Int, 0 ≤ p ∧ p < 8 → buB (ruAt (runsS T rs S.st S.en pr) p) = true → buB (ruAt rs p) = true ∨ SetM.has S.st p = true := fun p hp h => by
    rw [runs_get _ _ _ _ _ hp] at h
    exact stp_bu h
  have green : ∀ p : Int, 0 ≤ p ∧ p < 8 → grB (ruAt (runsS T rs S.st S.en pr) p) = true → (grB (ruAt rs p) = true ∧ SetM.has S.en p = false) ∨ SetM.has S.st p = true := fun p hp h => by
    rw [runs_get _ _ _ _ _ hp] at h
    exact (stp_gr h).imp id And.right
  cases W with
  | wait hc hb h =>
    subst h
    refine ⟨runs_len8 _ _ _ _ _, I.g0, I.at0, fun p hp h => ?_, fun _ p hp => ?_⟩
    · rcases busy p hp h with h | h
      · exact I.red p hp h
      · rw [has_zero] at h; cases h
    · cases hgr : grB (ruAt (runsS T rs 0 0 pr) p) with
      | false => rfl
      | true =>
        rcases green p hp hgr with h | h
        · rw [I.cr hc p hp] at h; cases h.1
        · rw [has_zero] at h; cases h
  | over hc hb h =>
    subst h
    refine ⟨runs_len8 _ _ _ _ _, ?_, ?_, fun p hp h => ?_, fun h => by cases h⟩
    · show 0 ≤ (if followS T r.g want < 0 then r.g else followS T r.g want) ∧ _
      split
      · exact I.g0
      · rename_i hf
        have := follow_in G.gl r.g want hf
        exact this
    · intro k hk
      have e : (Rg.mk (if followS T r.g want < 0 then r.g else followS T r.g want) (-1) (-1) false).at k = -1 := by
        match k, hk with
        | 0, _ => rfl
        | 1, _ => rfl
      dsimp only
      rw [e]
      omega
    · exfalso
      rcases busy p hp h with h | h
      · rw [← bs_in h8 hp, hb, has_zero] at h; cases h
      · rw [has_zero] at h; cases h
  | cross hc hb he hs ho h =>
    subst h
    refine ⟨runs_len8 _ _ _ _ _, I.g0, fun k hk => ?_, fun p hp h => ?_, fun _ p hp => ?_⟩
    · have := I.at0 k hk
      match k, hk with
      | 0, _ => exact this
      | 1, _ => exact this
    · rcases busy p hp h with h | h
      · obtain ⟨k, hk, e⟩ := I.red p hp h
        refine ⟨k, hk, ?_⟩
        match k, hk with
        | 0, _ => exact e
        | 1, _ => exact e
      · rw [has_zero] at h; cases h
    · cases hgr : grB (ruAt (runsS T rs 0 (gS rs) pr) p) with
      | false => rfl
      | true =>
        rcases green p hp hgr with h | h
        · rw [gs_in h8 hp, h.1] at h; cases h.2
        · rw [has_zero] at h; cases h
  | go hc hr hst hen hn hnat =>
    have atk : ∀ k, k < 2 → S.r.at k = if begS T rs (bS rs) (lnS T r want k) = true then (lnS T r want k).x else r.at k := fun k hk => by
      rw [hr, at_atS _ _ _ _ _ hk]
      match k, hk with
      | 0, _ => rfl
      | 1, _ => rfl
    have hgg : S.r.g = r.g := by rw [hr]; rfl
    refine ⟨runs_len8 _ _ _ _ _, by rw [hgg]; exact I.g0, fun k hk => ?_, fun p hp h => ?_, fun h => by rw [hr] at h; rw [show (atS r _ _ _ _).cr = r.cr from rfl, hc] at h; cases h⟩
    · rw [atk k hk, hgg]
      split
      · rename_i hb
        obtain ⟨i, hx, hi, _⟩ := G.ln_spec hg k (beg_iff.1 hb).2.1
        have := (List.getElem?_eq_some_iff.1 hi).1
        rw [hx, hg]
        omega
      · exact I.at0 k hk
    · rw [hgg]
      rcases busy p hp h with h | h
      · obtain ⟨k, hk, e⟩ := I.red p hp h
        refine ⟨k, hk, ?_⟩
        rw [atk k hk, if_neg, e]
        intro hb
        have h1 := (beg_iff.1 hb).1
        rw [show (lnS T r want k).n = p from e, bs_in h8 hp, h] at h1
        cases h1
      · obtain ⟨k, hk, hb, rfl⟩ := (hst p).1 h
        refine ⟨k, hk, ?_⟩
        rw [atk k hk, if_pos hb]
        rfl
theorem bgn_bu (p : Ph) : buB (bgn p) = false := rfl
theorem inv_start {T : Tab} (G : Gd T) : Inv T ⟨0, -1, -1, false⟩ (begunS T) := by
  refine ⟨begun_len T, ⟨by show (0 : Int) ≤ 0; omega, by show (0 : Int) < _; have := G.gl; omega⟩, fun k hk => ?_, fun p hp h => ?_, fun h => by cases h⟩
  · have e : (Rg.mk 0 (-1) (-1) false).at k = -1 := by
      match k, hk with
      | 0, _ => rfl
      | 1, _ => rfl
    rw [e]; omega
  · obtain ⟨k, rfl⟩ := Int.eq_ofNat_of_zero_le hp.1
    rw [begun_at T (by omega), bgn_bu] at h
    cases h
end Rg
namespace Rg
open Go Go.ChangeShapes Go.WideShapes Go.ChangeAt Go.RowKit
open Tab Flat TabArg QL Ru PlanM
open ChkM (cfAt)
open Clear (phAt)
open PlaceM (where_ spots Spt)
open May (infoP)
def pC (tc : List Value) (r : Rg) (rc : List Value) (cnt : List Int) (cross : Int) : List Value := tc ++ (r.cells ++ (rc ++ (cnt.map I ++ [I cross])))
structure PB (u : World) (g : Nat) (tc : List Value) (r : Rg) (rc : List Value) (cnt : List Int) (cross : Int) : Prop where
  lt : Lies u ⟨g, 0, none⟩ tc
  lr : Lies u ⟨g, 131, none⟩ r.cells
  ln : Lies u ⟨g, 135, none⟩ rc
  rc3 : u.cell? ⟨g, 134, none⟩ = some (.bool r.cr)
  ct : ∀ (p : Nat) (x : Int), cnt[p]? = some x → u.cell? ⟨g, 231 + p, none⟩ = some (I x)
  cx : u.cell? ⟨g, 239, none⟩ = some (I cross)
section
variable {tc : List Value} {r : Rg} {rc : List Value} {cnt : List Int} {cross : Int} (h1 : tc.length = 131) (h2 : rc.length = 96) (h3 : cnt.length = 8)
include h1 h2 h3
theorem pC_len : (pC tc r rc cnt cross).length = 240 := by simp [pC, Rg.cells, h1, h2, h3]
omit h3 in
theorem pC_at {k : Nat} {l : List Value} (h : ∃ a b, pC tc r rc cnt cross = a ++ (l ++ b) ∧ a.length = k) : ((pC tc r rc cnt cross).toArray.toList.drop k).take l.length = l := by
  obtain ⟨a, b, e, hk⟩ := h
  rw [List.toList_toArray, e, List.drop_left' hk, List.take_left]
theorem pb {w u : World} {L : List Blk.Bl} (h : Blk.Bks w L u) (i : Nat) {g : Nat} {ty : TypeId} (hi : L[i]? = some (g, (pC tc r rc cnt cross).toArray, ty)) : PB u g tc r rc cnt cross := by
  have t1 := pC_at (r := r) (cnt := cnt) (cross := cross) h1 h2 (k := 0) (l := tc) ⟨[], _, rfl, rfl⟩
  have t2 := pC_at (r := r) (cnt := cnt) (cross := cross) h1 h2 (k := 131) (l := r.cells) ⟨tc, _, rfl, h1⟩
  have t3 := pC_at (r := r) (cnt := cnt) (cross := cross) h1 h2 (k := 135) (l := rc) ⟨tc ++ r.cells, cnt.map I ++ [I cross], by simp [pC], by simp [h1, Rg.cells]⟩
  have t4 := pC_at (r := r) (cnt := cnt) (cross := cross) h1 h2 (k := 231) (l := cnt.map I) ⟨tc ++ (r.cells ++ rc), [I cross], by simp [pC], by simp [h1, h2, Rg.cells]⟩
  have t5 := pC_at (r := r) (cnt := cnt) (cross := cross) h1 h2 (k := 239) (l := [I cross]) ⟨tc ++ (r.cells ++ (rc ++ cnt.map I)), [], by simp [pC], by simp [h1, h2, h3, Rg.cells]⟩
  refine ⟨seg h i 0 hi _ t1, seg h i 131 hi _ t2, seg h i 135 hi _ t3, h.cell i 134 hi (at_take t2 3 rfl), fun p x hp => h.cell i (231 + p) hi (at_take t4 p (by rw [List.getElem?_map, hp]; rfl)), h.cell i 239 hi (at_take t5 0 rfl)⟩
theorem pC_cross (x : Int) : (pC tc r rc cnt cross).toArray.setIfInBounds 239 (I x) = (pC tc r rc cnt x).toArray := by
  apply Array.ext'
  rw [Array.toList_setIfInBounds, List.toList_toArray, List.toList_toArray]
  unfold pC
  rw [List.set_append_right _ _ (by rw [h1]; omega), List.set_append_right _ _ (by simp [h1, Rg.cells]), List.set_append_right _ _ (by simp [h1, h2, Rg.cells]), List.set_append_right _ _ (by simp [h1, h2, h3, Rg.cells])]
  simp [h1, h2, h3, Rg.cells]
theorem pC_cnt {p : Nat} (hp : p < 8) (x : Int) : (pC tc r rc cnt cross).toArray.setIfInBounds (231 + p) (I x) = (pC tc r rc (cnt.set p x) cross).toArray := by
  apply Array.ext'
  rw [Array.toList_setIfInBounds, List.toList_toArray, List.toList_toArray]
  unfold pC
  rw [List.set_append_right _ _ (by rw [h1]; omega), List.set_append_right _ _ (by simp [h1, Rg.cells]; omega), List.set_append_right _ _ (by simp [h1, h2, Rg.cells]; omega), List.set_append_left _ _ (by simp [h1, h2, h3, Rg.cells]; omega)]
  rw [← List.map_set]
  simp [h1, h2, Rg.cells]
  congr 5
  omega
theorem pC_put (r' : Rg) : ((pC tc r rc cnt cross).toArray.toList.take 131 ++ r'.cells.toArray.toList ++ (pC tc r rc cnt cross).toArray.toList.drop (131 + r'.cells.toArray.size)).toArray = (pC tc r' rc cnt cross).toArray := by
  apply Array.ext'
  have e1 : (pC tc r rc cnt cross).take 131 = tc := by unfold pC; exact List.take_left' h1
  have e2 : (pC tc r rc cnt cross).drop (131 + 4) = rc ++ (cnt.map I ++ [I cross]) := by
    unfold pC
    rw [← List.drop_drop, List.drop_left' h1, List.drop_left' (show r.cells.length = 4 from rfl)]
  rw [List.toList_toArray, List.toList_toArray, List.toList_toArray, List.toList_toArray, e1, show r'.cells.toArray.size = 4 from rfl, e2]
  simp [pC]
end
theorem pC_run {tc : List Value} {r : Rg} {rs : List Ru} {cnt : List Int} {cross : Int} (h1 : tc.length = 131) (h8 : rs.length = 8) {p : Nat} (hp : p < 8) (u : Ru) : ((pC tc r (runsC rs) cnt cross).toArray.toList.take (135 + p * 12) ++ u.cells.toArray.toList ++ (pC tc r (runsC rs) cnt cross).toArray.toList.drop (135 + p * 12 + u.cells.toArray.size)).toArray = (pC tc r (runsC (rs.set p u)) cnt cross).toArray := by
  apply Array.ext'
  have hl : (runsC rs).length = 96 := by rw [runs_len, h8]
  have hc : (tc ++ r.cells).length = 135 := by simp [h1, Rg.cells]
  have e0 : ∀ rc, pC tc r rc cnt cross = (tc ++ r.cells) ++ (rc ++ (cnt.map I ++ [I cross])) := fun rc => by simp [pC]
  rw [List.toList_toArray, List.toList_toArray, List.toList_toArray, List.toList_toArray, runs_set _ _ _ (by omega), e0, e0, show u.cells.toArray.size = 12 from rfl]
  have e1 : ((tc ++ r.cells) ++ (runsC rs ++ (cnt.map I ++ [I cross]))).take (135 + p * 12) = (tc ++ r.cells) ++ (runsC rs).take (p * 12) := by
    rw [← hc, take_len, List.take_append_of_le_length (by omega)]
  have e2 : ((tc ++ r.cells) ++ (runsC rs ++ (cnt.map I ++ [I cross]))).drop (135 + p * 12 + 12) = (runsC rs).drop (p * 12 + 12) ++ (cnt.map I ++ [I cross]) := by
    rw [Nat.add_assoc, ← hc, drop_len, List.drop_append_of_le_length (by omega)]
  rw [e1, e2]
  simp [List.append_assoc]
/-! a list that is written place by place -/
def mix {α : Type} (f o : Nat → α) (q : Nat) : List α := (List.range 8).map fun i => if i < q then f i else o i
theorem mix_len {α : Type} (f o : Nat → α) (q : Nat) : (mix f o q).length = 8 := by simp [mix]
theorem mix_at {α : Type} (f o : Nat → α) (q : Nat) {i : Nat} (h : i < 8) : (mix f o q)[i]? = some (if i < q then f i else o i) := by
  unfold mix
  rw [List.getElem?_map, List.getElem?_range h]; rfl
theorem mix_set {α : Type} (f o : Nat → α) (q : Nat) : (mix f o q).set q (f q) = mix f o (q + 1) := by
  apply List.ext_getElem?
  intro i
  by_cases hi : i < 8
  · rw [List.getElem?_set, mix_at f o (q + 1) hi]
    by_cases e : q = i
    · subst e; rw [if_pos rfl, mix_len, if_pos hi, if_pos (by omega)]
    · rw [if_neg e, mix_at f o q hi]
      by_cases h : i < q
      · rw [if_pos h, if_pos (by omega)]
      · rw [if_neg h, if_neg (by omega)]
  · rw [List.getElem?_eq_none (by rw [List.length_set, mix_len]; omega), List.getElem?_eq_none (by rw [mix_len]; omega)]
theorem mix_zero {α : Type} (f : Nat → α) {l : List α} (h : l.length = 8) {o : Nat → α} (ho : ∀ i, i < 8 → l[i]? = some (o i)) : mix f o 0 = l := by
  apply List.ext_getElem?
  intro i
  by_cases hi : i < 8
  · rw [mix_at f o 0 hi, if_neg (by omega), ho i hi]
  · rw [List.getElem?_eq_none (by rw [mix_len]; omega), List.getElem?_eq_none (by omega)]
theorem mix_upd {α : Type} (f o : Nat → α) (z : α) : mix f o 8 = GenT.upd f z 8 := by
  unfold mix GenT.upd
  apply List.map_congr_left
  intro i hi
  have := List.mem_range.1 hi
  rw [if_pos this, if_pos this]
theorem mix_skip {α : Type} (f o : Nat → α) (q : Nat) (h : f q = o q) : mix f o (q + 1) = mix f o q := by
  unfold mix
  apply List.map_congr_left
  intro i hi
  by_cases e : i < q
  · rw [if_pos e, if_pos (by omega)]
  · by_cases e2 : i = q
    · subst e2; rw [if_pos (by omega), if_neg e, h]
    · rw [if_neg e, if_neg (by omega)]
theorem builtC (a b c : Bool) : Try.prog.built 107 [(0, .bool a), (1, .bool b), (4, .bool c)] = some (Cu.cells ⟨a, b, false, false, c, false, false, false⟩).toArray := by kernel_rfl
theorem one_cu (c : Cu) : c.cells.toArray.all (·.oneCell') = true := by simp [Cu.cells, Value.oneCell']
end Rg
namespace Rg
open Go Tab PlanM Ru
open Go.RowKit
open ChkM (cfAt)
open Clear (phAt)
open PlaceM (where_ spots Spt)
/-- the counts after a tick -/
def cntS (cnt : List Int) (st : Int) : List Int := GenT.upd (fun p => cnt.getD p 0 + if SetM.has st (p : Nat) = true then 1 else 0) 0 8
/-- the crossings after a tick -/
def crS (cross : Int) (a b : Bool) : Int := if b && !a then cross + 1 else cross
theorem cnt_len (cnt : List Int) (st : Int) : (cntS cnt st).length = 8 := GenT.upd_len _ _ _
theorem cnt_get (cnt : List Int) (st : Int) {p : Nat} (hp : p < 8) : (cntS cnt st).getD p 0 = cnt.getD p 0 + if SetM.has st (p : Nat) = true then 1 else 0 := by
  unfold cntS
  rw [List.getD_eq_getElem?_getD, GenT.upd_at _ _ _ _ (by omega), if_pos (by omega)]
  rfl
structure CI (T : Tab) (r : Rg) (cnt : List Int) : Prop where
  len : cnt.length = 8
  out : ∀ p : Nat, p < 8 → cnt.getD p 0 = 0 ∨ (cnt.getD p 0 = 1 ∧ r.cr = false ∧ ∃ k i : Nat, k < 2 ∧ (ringAt T r.g k)[i]? = some (p : Int) ∧ (i : Int) ≤ r.at k)
theorem CI.small {T : Tab} {r : Rg} {cnt : List Int} (C : CI T r cnt) {p : Nat} (hp : p < 8) : 0 ≤ cnt.getD p 0 ∧ cnt.getD p 0 ≤ 1 := by
  rcases C.out p hp with h | h
  · omega
  · have := h.1; omega
theorem CI.all {T : Tab} {r : Rg} {cnt : List Int} (C : CI T r cnt) : ∀ x ∈ cnt, 0 ≤ x ∧ x ≤ 1000000000 := fun x hx => by
  obtain ⟨p, hp, rfl⟩ := List.getElem_of_mem hx
  have := C.small (p := p) (by rw [← C.len]; exact hp)
  rw [List.getD_eq_getElem?_getD, List.getElem?_eq_getElem hp] at this
  simp only [Option.getD_some] at this
  omega
/-- who counts, counts for a phase that its ring has come to -/
theorem CI.none {T : Tab} {r : Rg} {cnt : List Int} (C : CI T r cnt) (h : r.cr = true) {p : Nat} (hp : p < 8) : cnt.getD p 0 = 0 := by
  rcases C.out p hp with h' | h'
  · exact h'
  · rw [h'.2.1] at h; cases h
theorem CI.zero {T : Tab} {r r' : Rg} {cnt cnt' : List Int} (C : CI T r cnt) (h : r.cr = true) (hl : cnt'.length = 8) (he : ∀ p : Nat, p < 8 → cnt'.getD p 0 = cnt.getD p 0) : CI T r' cnt' := ⟨hl, fun p hp => .inl ((he p hp).trans (C.none h hp))⟩
end Rg
namespace GenQ
open Go.ChangeShapes Go.WideShapes Go.ChangeAt Go.RowKit
open Tab
open Clear (phAt)
structure Rng (p : Ph) : Prop where
  min : 1 ≤ p.min ∧ p.min ≤ 12
  gap : 0 ≤ p.gap ∧ p.gap ≤ 8
  max : p.min ≤ p.max ∧ p.max ≤ 36
  top : p.max ≤ p.top ∧ p.top ≤ 50
  step : 1 ≤ p.step ∧ p.step ≤ 6
  yellow : 10 ≤ p.yellow ∧ p.yellow ≤ 13
  red : 0 ≤ p.red ∧ p.red ≤ 4
  walk : (p.walk = 0 ∧ p.blinks = 0) ∨ (1 ≤ p.walk ∧ p.walk ≤ 10 ∧ 1 ≤ p.blinks ∧ p.blinks ≤ 10)
/-- A phase that is On: its times. -/
theorem gen_rng (L : List Int) (k : Nat) (hk : k < 8) (h : (phAt (GenT.genTab L) k).on = true) : Rng (phAt (GenT.genTab L) k) := by
  rw [gen_ph L k hk] at h ⊢
  split at h
  · rename_i hn
    rw [if_pos hn]
    have h0 := RefS.num_range L (10 + 12 * (k : Int)) 12 (by decide)
    have h1 := RefS.num_range L (10 + 12 * (k : Int) + 1) 9 (by decide)
    have h2 := RefS.num_range L (10 + 12 * (k : Int) + 2) 6 (by decide)
    have h3 := RefS.num_range L (10 + 12 * (k : Int) + 3) 4 (by decide)
    have h4 := RefS.num_range L (10 + 12 * (k : Int) + 4) 5 (by decide)
    have h5 := RefS.num_range L (10 + 12 * (k : Int) + 5) 25 (by decide)
    have h6 := RefS.num_range L (10 + 12 * (k : Int) + 6) 15 (by decide)
    have h8 := RefS.num_range L (10 + 12 * (k : Int) + 8) 10 (by decide)
    have h9 := RefS.num_range L (10 + 12 * (k : Int) + 8) 97 (by decide)
    constructor <;> simp only [GenP.genPh] <;> (try omega)
  · cases h
end GenQ
namespace Rg
open Go Tab PlanM Ru
open Gap (lm lf gr Tn)
open Ped (ft cu idl Ft)
open GenQ (Rng)
theorem more_val {n : Int} (h : 0 ≤ n ∧ n ≤ 10000) : Cnt.more n = if n ≤ 9999 then n + 1 else 10000 := by
  unfold Cnt.more Cnt.ct
  split
  · omega
  · split
    · rw [if_neg (by omega)]; rfl
    · rw [if_pos (by omega)]
/-- What a run is in the statements' play: nobody calls for a walk. -/
structure Ok (u : Ru) : Prop where
  fs : u.fs = 0
  tm : 0 ≤ u.tm ∧ u.tm ≤ 10000
  pr : 0 ≤ u.pr ∧ u.pr ≤ u.tm
/-- a cue of the statements' play -/
structure Qk (c : Cu) : Prop where
  pu : c.pu = false
  kt : c.kt = false
  ho : c.ho = false
theorem qk_cue (st en pr p : Int) : Qk (cueS st en pr p) := ⟨rfl, rfl, rfl⟩
theorem ok_bgn (p : Ph) : Ok (bgn p) := ⟨rfl, by show (0 : Int) ≤ 9999 ∧ (9999 : Int) ≤ 10000; omega, by show (0 : Int) ≤ 0 ∧ (0 : Int) ≤ 9999; omega⟩
section
variable {p : Ph} {u : Ru} {c : Cu} (hu : Ok u) (hc : Qk c)
include hu hc
theorem foo_eq : fooA p u c = ⟨0, 0⟩ := by
  unfold fooA
  rw [hc.kt, hu.fs, hc.pu]
  simp [ft]
theorem lon_eq : lon p u c = ⟨u.co, Cnt.more u.tm, 0, 0, lf p.gap u.lf c.he, if c.ps then Cnt.more u.pr else u.pr, u.ex, u.dn, u.mx, u.tl, u.tu, u.td⟩ := by
  have hb : beg p u c = false := by unfold beg; rw [foo_eq hu hc]; simp
  unfold lon
  rw [hb, foo_eq hu hc]
  simp
/-- a green phase that does not end -/
theorem stp_on (h1 : u.co = 1) (he : c.en = false) : (stp p u c).co = 1 ∧ (stp p u c).tm = Cnt.more u.tm ∧ (stp p u c).fs = 0 ∧ (stp p u c).pr = (if c.ps then Cnt.more u.pr else u.pr) ∧ (stp p u c).dn = (u.dn || duB p c (lon p u c)) := by
  unfold stp
  rw [if_pos h1, he]
  simp only [Bool.false_eq_true, if_false]
  unfold sty
  rw [hc.ho]
  cases hd : duB p c (lon p u c) with
  | true => rw [lon_eq hu hc]; simp [h1]
  | false => rw [lon_eq hu hc]; simp [h1]
/-- who is pressed for as long as Top is done -/
theorem du_top (R : Rng p) (h1 : u.co = 1) (hd : u.dn = false) (hp : c.ps = true) (ht : p.top ≤ Cnt.more u.pr) : duB p c (lon p u c) = true := by
  have m1 := more_val hu.tm
  have m2 := more_val (n := u.pr) ⟨hu.pr.1, by have := hu.pr.2; have := hu.tm.2; omega⟩
  have r1 := R.min; have r2 := R.max; have r3 := R.top
  have hl : lm p u.tl ≤ p.top := by unfold lm; split <;> (try split) <;> omega
  have hle : p.min ≤ Cnt.more u.tm := by have := hu.pr.2; rw [m1]; rw [m2] at ht; split at ht <;> split <;> omega
  unfold duB fuB
  rw [lon_eq hu hc, hp, hd]
  have i0 : idl 0 = true := rfl
  simp only [i0, if_true, Bool.not_false, Bool.true_and, decide_eq_true hle, Bool.or_eq_true, decide_eq_true_eq]
  exact .inr (.inl (by omega))
theorem ok_stp : Ok (stp p u c) := by
  have m1 := more_val hu.tm
  have hpr := hu.pr
  have htm := hu.tm
  have m2 := more_val (n := u.pr) ⟨hpr.1, by omega⟩
  by_cases h1 : u.co = 1
  · cases he : c.en with
    | true =>
      unfold stp
      rw [if_pos h1, he]
      exact ⟨rfl, by show (0 : Int) ≤ 1 ∧ (1 : Int) ≤ 10000; omega, by show (0 : Int) ≤ 0 ∧ (0 : Int) ≤ 1; omega⟩
    | false =>
      obtain ⟨_, s2, s3, s4, _⟩ := stp_on hu hc (p := p) h1 he
      refine ⟨s3, ?_, ?_⟩
      · rw [s2, m1]; split <;> omega
      · rw [s2, s4, m1, m2]
        cases c.ps
        · simp only [Bool.false_eq_true, if_false]; split <;> omega
        · simp only [if_true]; split <;> split <;> omega
  · have F : ∀ k, Ok (fst u k) := fun k => ⟨rfl, by show (0 : Int) ≤ 1 ∧ (1 : Int) ≤ 10000; omega, by show (0 : Int) ≤ 0 ∧ (0 : Int) ≤ 1; omega⟩
    have L : ∀ k, Ok (lst u k) := fun k => ⟨rfl, by show 0 ≤ Cnt.more u.tm ∧ Cnt.more u.tm ≤ 10000; rw [m1]; split <;> omega, by show (0 : Int) ≤ 0 ∧ 0 ≤ Cnt.more u.tm; rw [m1]; split <;> omega⟩
    unfold stp
    rw [if_neg h1]
    split
    · unfold yel; split
      · exact L 2
      · split
        · exact F 3
        · exact F 0
    · split
      · unfold cle; split
        · exact L 3
        · exact F 0
      · unfold rdR
        split
        · refine ⟨?_, by show (0 : Int) ≤ 1 ∧ (1 : Int) ≤ 10000; omega, by show (0 : Int) ≤ 0 ∧ (0 : Int) ≤ 1; omega⟩
          show (ft p.walk p.blinks 0 0 c.pu).st = 0
          rw [hc.pu]; simp [ft]
        · exact L 0
end
/-- what is left of a phase that is not Red -/
def wg (p : Ph) (u : Ru) : Int := if u.co = 1 then (if u.dn = true then 0 else 1 + (if u.pr < p.top then p.top - u.pr else 0)) + p.yellow + p.red + 3 else if u.co = 2 then (if u.tm < p.yellow then p.yellow - u.tm else 0) + p.red + 2 else if u.co = 3 then (if u.tm < p.red then p.red - u.tm else 0) + 1 else 0
/-- what a Red phase that is still to come may take -/
def wn (p : Ph) (rev : Int) (u : Ru) : Int := p.top + p.yellow + p.red + 5 + (if u.tm < rev then rev - u.tm else 0)
theorem wg_red {p : Ph} {u : Ru} (h : buB u = false) : wg p u = 0 := by
  unfold buB at h
  simp only [Bool.or_eq_false_iff, beq_eq_false_iff_ne] at h
  unfold wg
  rw [if_neg h.1, if_neg h.2.1, if_neg h.2.2]
theorem wg_nn {p : Ph} (R : Rng p) (u : Ru) : 0 ≤ wg p u := by
  have := R.yellow; have := R.red
  unfold wg
  repeat' split
  all_goals omega
theorem wn_nn {p : Ph} (R : Rng p) (rev : Int) (u : Ru) : 0 ≤ wn p rev u := by
  have := R.yellow; have := R.red; have := R.top; have := R.max; have := R.min
  unfold wn
  split <;> omega
section
variable {p : Ph} {u : Ru} {c : Cu} (hu : Ok u) (hc : Qk c) (R : Rng p)
include hu hc R
/-- a phase that is not Red: what is left does not grow; it falls unless it is green, does not end, and is done or not pressed -/
theorem wg_stp (hb : buB u = true) : wg p (stp p u c) ≤ wg p u ∧ ((u.co = 1 → c.en = true ∨ (u.dn = false ∧ c.ps = true)) → wg p (stp p u c) < wg p u) := by
  have m1 := more_val hu.tm
  have hpr := hu.pr
  have htm := hu.tm
  have m2 := more_val (n := u.pr) ⟨hpr.1, by omega⟩
  have y := R.yellow; have r := R.red; have t := R.top; have mx := R.max; have mn := R.min
  by_cases h1 : u.co = 1
  · cases he : c.en with
    | true =>
      have e : (stp p u c).co = 2 ∧ (stp p u c).tm = 1 := by unfold stp; rw [if_pos h1, he]; exact ⟨rfl, rfl⟩
      have hw : wg p (stp p u c) = (p.yellow - 1) + p.red + 2 := by
        unfold wg
        rw [e.1, e.2, if_neg (by omega), if_pos rfl, if_pos (by omega)]
      have hv : p.yellow + p.red + 3 ≤ wg p u := by
        unfold wg
        rw [if_pos h1]
        repeat' split
        all_goals omega
      rw [hw]
      exact ⟨by omega, fun _ => by omega⟩
    | false =>
      obtain ⟨s1, s2, s3, s4, s5⟩ := stp_on hu hc (p := p) h1 he
      have hw : wg p (stp p u c) = (if (u.dn || duB p c (lon p u c)) = true then 0 else 1 + (if (if c.ps then Cnt.more u.pr else u.pr) < p.top then p.top - (if c.ps then Cnt.more u.pr else u.pr) else 0)) + p.yellow + p.red + 3 := by
        unfold wg
        rw [s1, s4, s5, if_pos rfl]
      have hv : wg p u = (if u.dn = true then 0 else 1 + (if u.pr < p.top then p.top - u.pr else 0)) + p.yellow + p.red + 3 := by
        unfold wg
        rw [if_pos h1]
      rw [hw, hv]
      cases hd : u.dn with
      | true =>
        refine ⟨by simp, fun h => ?_⟩
        rcases h h1 with h | h
        · cases h
        · cases h.1
      | false =>
        cases hp : c.ps with
        | false =>
          simp only [Bool.false_or, Bool.false_eq_true, if_false]
          refine ⟨?_, fun h => ?_⟩
          · split <;> split <;> omega
          · rcases h h1 with h | h
            · cases h
            · cases h.2
        | true =>
          by_cases ht : p.top ≤ Cnt.more u.pr
          · rw [du_top hu hc R h1 hd hp ht]
            simp only [Bool.false_or, if_true, Bool.false_eq_true, if_false]
            exact ⟨by split <;> omega, fun _ => by split <;> omega⟩
          · have hlt : u.pr < p.top := by rw [m2] at ht; split at ht <;> omega
            have hm : Cnt.more u.pr = u.pr + 1 := by rw [m2, if_pos (by omega)]
            simp only [Bool.false_or, if_true, Bool.false_eq_true, if_false]
            rw [hm]
            exact ⟨by repeat' split
                      all_goals omega, fun _ => by
                      repeat' split
                      all_goals omega⟩
  · by_cases h2 : u.co = 2
    · have e : stp p u c = yel p u := by unfold stp; rw [if_neg h1, if_pos h2]
      have hv : wg p u = (if u.tm < p.yellow then p.yellow - u.tm else 0) + p.red + 2 := by unfold wg; rw [if_neg h1, if_pos h2]
      have key : wg p (stp p u c) < wg p u := by
        rw [e, hv]
        unfold yel
        split
        · have hw : wg p (lst u 2) = (if Cnt.more u.tm < p.yellow then p.yellow - Cnt.more u.tm else 0) + p.red + 2 := rfl
          rw [hw, m1, if_pos (show u.tm ≤ 9999 by omega)]
          split <;> omega
        · split
          · have hw : wg p (fst u 3) = (if (1 : Int) < p.red then p.red - 1 else 0) + 1 := rfl
            rw [hw]
            split <;> omega
          · have hw : wg p (fst u 0) = 0 := rfl
            rw [hw]; omega
      exact ⟨by omega, fun _ => key⟩
    · have h3 : u.co = 3 := by
        unfold buB at hb
        simp only [Bool.or_eq_true, beq_iff_eq] at hb
        rcases hb with h | h | h
        · exact absurd h h1
        · exact absurd h h2
        · exact h
      have e : stp p u c = cle p u := by unfold stp; rw [if_neg h1, if_neg h2, if_pos h3]
      have hv : wg p u = (if u.tm < p.red then p.red - u.tm else 0) + 1 := by unfold wg; rw [if_neg h1, if_neg h2, if_pos h3]
      have key : wg p (stp p u c) < wg p u := by
        rw [e, hv]
        unfold cle
        split
        · have hw : wg p (lst u 3) = (if Cnt.more u.tm < p.red then p.red - Cnt.more u.tm else 0) + 1 := rfl
          rw [hw, m1, if_pos (show u.tm ≤ 9999 by omega)]
          split <;> omega
        · have hw : wg p (fst u 0) = 0 := rfl
          rw [hw]; omega
      exact ⟨by omega, fun _ => key⟩
/-- a Red phase begins -/
theorem wg_start (hb : buB u = false) (hs : c.st = true) (rev : Int) : wg p (stp p u c) + 1 ≤ wn p rev u := by
  unfold buB at hb
  simp only [Bool.or_eq_false_iff, beq_eq_false_iff_ne] at hb
  have t := R.top; have mx := R.max; have mn := R.min
  have e : (stp p u c).co = 1 ∧ (stp p u c).pr = 0 ∧ (stp p u c).dn = false := by
    unfold stp
    rw [if_neg hb.1, if_neg hb.2.1, if_neg hb.2.2]
    unfold rdR
    rw [if_pos hs]
    exact ⟨rfl, rfl, rfl⟩
  unfold wg wn
  rw [e.1, e.2.1, e.2.2, if_pos rfl]
  simp only [Bool.false_eq_true, if_false]
  rw [if_pos (by omega)]
  split <;> omega
/-- a Red phase waits -/
theorem wn_stp (hb : buB u = false) (hs : c.st = false) {rev : Int} (hr : rev ≤ 9999) : buB (stp p u c) = false ∧ wn p rev (stp p u c) ≤ wn p rev u ∧ (u.tm < rev → wn p rev (stp p u c) < wn p rev u) := by
  have m1 := more_val hu.tm
  have htm := hu.tm
  have hb' := hb
  unfold buB at hb'
  simp only [Bool.or_eq_false_iff, beq_eq_false_iff_ne] at hb'
  have e : stp p u c = lst u 0 := by
    unfold stp
    rw [if_neg hb'.1, if_neg hb'.2.1, if_neg hb'.2.2]
    unfold rdR
    rw [hs]; rfl
  rw [e]
  have hw : wn p rev (lst u 0) = p.top + p.yellow + p.red + 5 + (if Cnt.more u.tm < rev then rev - Cnt.more u.tm else 0) := rfl
  rw [hw, m1]
  unfold wn
  refine ⟨rfl, ?_, fun h => ?_⟩
  · repeat' split
    all_goals omega
  · repeat' split
    all_goals omega
end
end Rg
namespace Rg
open Go Tab PlanM Ru
open ChkM (cfAt)
open Clear (phAt)
open PlaceM (where_ spots Spt)
open GenQ (Rng)
/-! sums of n terms -/
def sm (f : Nat → Int) : Nat → Int
  | 0 => 0
  | n + 1 => sm f n + f n
theorem sm_le {f g : Nat → Int} : ∀ {n : Nat}, (∀ i, i < n → f i ≤ g i) → sm f n ≤ sm g n
  | 0, _ => Int.le_refl _
  | n + 1, h => by
    have h1 := sm_le (n := n) fun i hi => h i (by omega)
    have h2 := h n (by omega)
    show sm f n + f n ≤ sm g n + g n
    omega
theorem sm_lt {f g : Nat → Int} : ∀ {n : Nat}, (∀ i, i < n → f i ≤ g i) → (∃ i, i < n ∧ f i < g i) → sm f n < sm g n
  | 0, _, ⟨i, hi, _⟩ => by omega
  | n + 1, h, ⟨i, hi, hlt⟩ => by
    have h1 := sm_le (n := n) fun i hi => h i (by omega)
    have h2 := h n (by omega)
    show sm f n + f n < sm g n + g n
    by_cases e : i = n
    · subst e; omega
    · have := sm_lt (n := n) (fun i hi => h i (by omega)) ⟨i, by omega, hlt⟩
      omega
theorem sm_nn {f : Nat → Int} : ∀ {n : Nat}, (∀ i, i < n → 0 ≤ f i) → 0 ≤ sm f n
  | 0, _ => Int.le_refl _
  | n + 1, h => by
    have h1 := sm_nn (n := n) fun i hi => h i (by omega)
    have h2 := h n (by omega)
    show 0 ≤ sm f n + f n
    omega
theorem sm_congr {f g : Nat → Int} {n : Nat} (h : ∀ i, i < n → f i = g i) : sm f n = sm g n :=
  Int.le_antisymm (sm_le fun i hi => Int.le_of_eq (h i hi)) (sm_le fun i hi => Int.le_of_eq (h i hi).symm)
/-- What is used of a table besides. -/
structure Gw (T : Tab) : Prop extends Gd T where
  rng : ∀ (g k i : Nat) (p : Int), (ringAt T g k)[i]? = some p → Rng (phAt T p)
  rev : 0 ≤ T.revert ∧ T.revert ≤ 9999
/-- what the i-th phase of a ring may still take -/
def wi (T : Tab) (r : Rg) (rs : List Ru) (g k i : Nat) : Int :=
  let p := (ringAt T g k).getD i 0
  if (i : Int) < r.at k then 0 else if (i : Int) = r.at k then wg (phAt T p) (ruAt rs p) else if r.cr = true then 0 else wn (phAt T p) T.revert (ruAt rs p)
def ws (T : Tab) (r : Rg) (rs : List Ru) (g k : Nat) : Int := sm (wi T r rs g k) (ringAt T g k).length
/-- what the play keeps besides -/
structure Iw (T : Tab) (r : Rg) (rs : List Ru) : Prop extends Inv T r rs where
  ok : ∀ p : Int, 0 ≤ p ∧ p < 8 → Ok (ruAt rs p)
theorem iw_start {T : Tab} (G : Gd T) : Iw T ⟨0, -1, -1, false⟩ (begunS T) := ⟨inv_start G, fun p hp => by
  obtain ⟨k, rfl⟩ := Int.eq_ofNat_of_zero_le hp.1
  rw [begun_at T (by omega)]
  exact ok_bgn _⟩
theorem iw_tick {T : Tab} (G : Gd T) {r : Rg} {rs : List Ru} (I : Iw T r rs) (want pr : Int) : Iw T (stepS T r rs want).r (runsS T rs (stepS T r rs want).st (stepS T r rs want).en pr) := ⟨inv_tick G I.toInv want pr, fun p hp => by
  rw [runs_get _ _ _ _ _ hp]
  exact ok_stp (I.ok p hp) (qk_cue _ _ _ _)⟩
section
variable {T : Tab} (G : Gw T) {r : Rg} {rs : List Ru} (I : Iw T r rs) {g : Nat} (hg : r.g = g) {want pr : Int}
include G I hg
/-- a phase of the group at hand, not at its ring's index, is Red -/
theorem red_off {k i : Nat} {p : Int} (hk : k < 2) (hv : (ringAt T g k)[i]? = some p) (hi : (i : Int) ≠ r.at k) : buB (ruAt rs p) = false := by
  cases hb : buB (ruAt rs p) with
  | false => rfl
  | true =>
    exfalso
    have h8 := G.row g k i p hv
    obtain ⟨k', hk', e⟩ := I.red p h8 hb
    rw [hg] at e
    rcases G.now_spec g k' (r.at k') with ⟨h, _⟩ | ⟨j, hj, h⟩
    · rw [h] at e; omega
    · rw [e] at h
      obtain ⟨_, ek, ei⟩ := G.same hv h
      subst ek; subst ei
      exact hi hj.symm
/-- who begins, by the case of a tick that goes on -/
theorem st_only {S : So} (hst : ∀ p, SetM.has S.st p = true ↔ ∃ k, k < 2 ∧ begS T rs (bS rs) (lnS T r want k) = true ∧ p = (lnS T r want k).t) {k i : Nat} {p : Int} (hk : k < 2) (hv : (ringAt T g k)[i]? = some p) : SetM.has S.st p = true ↔ begS T rs (bS rs) (lnS T r want k) = true ∧ (i : Int) = (lnS T r want k).x := by
  rw [hst]
  constructor
  · rintro ⟨k', hk', hb, e⟩
    obtain ⟨j, h1, h2, h3, _⟩ := G.ln_spec hg (want := want) k' (beg_valid hb).1
    rw [← e] at h2
    obtain ⟨_, ek, ei⟩ := G.same hv h2
    subst ek; subst ei
    exact ⟨hb, h1.symm⟩
  · rintro ⟨hb, e⟩
    obtain ⟨j, h1, h2, h3, _⟩ := G.ln_spec hg (want := want) k (beg_valid hb).1
    rw [h1] at e
    obtain rfl : i = j := by omega
    exact ⟨k, hk, hb, by rw [hv] at h2; exact Option.some.inj h2⟩
/-- a tick that goes on: no term grows; which fall -/
theorem wi_go {S : So} (hc : r.cr = false) (hr : S.r = atS r (begS T rs (bS rs) (lnS T r want 0)) (begS T rs (bS rs) (lnS T r want 1)) (lnS T r want 0).x (lnS T r want 1).x)
    (hst : ∀ p, SetM.has S.st p = true ↔ ∃ k, k < 2 ∧ begS T rs (bS rs) (lnS T r want k) = true ∧ p = (lnS T r want k).t) {k i : Nat} {p : Int} (hk : k < 2) (hv : (ringAt T g k)[i]? = some p) :
    wi T S.r (runsS T rs S.st S.en pr) g k i ≤ wi T r rs g k i
    ∧ (((i : Int) = (lnS T r want k).x ∧ r.at k < (i : Int) ∧ (begS T rs (bS rs) (lnS T r want k) = true ∨ (ruAt rs p).tm < T.revert)) ∨ ((i : Int) = r.at k ∧ buB (ruAt rs p) = true ∧ begS T rs (bS rs) (lnS T r want k) = false ∧ ((ruAt rs p).co = 1 → SetM.has S.en p = true ∨ ((ruAt rs p).dn = false ∧ SetM.has pr p = true))) → wi T S.r (runsS T rs S.st S.en pr) g k i < wi T r rs g k i) := by
  have h8 := G.row g k i p hv
  have R := G.rng g k i p hv
  have hu := I.ok p h8
  have hq := qk_cue S.st S.en pr p
  have hgd : (ringAt T g k).getD i 0 = p := by rw [List.getD_eq_getElem?_getD, hv]; rfl
  have hcr : S.r.cr = false := by rw [hr]; exact hc
  have hsat : S.r.at k = if begS T rs (bS rs) (lnS T r want k) = true then (lnS T r want k).x else r.at k := by
    rw [hr]
    match k, hk with
    | 0, _ => rfl
    | 1, _ => rfl
  have hso := st_only G I hg (S := S) (want := want) hst hk hv
  have hw : wi T S.r (runsS T rs S.st S.en pr) g k i = if (i : Int) < S.r.at k then 0 else if (i : Int) = S.r.at k then wg (phAt T p) (stp (phAt T p) (ruAt rs p) (cueS S.st S.en pr p)) else wn (phAt T p) T.revert (stp (phAt T p) (ruAt rs p) (cueS S.st S.en pr p)) := by
    unfold wi
    rw [hgd]
    dsimp only
    rw [runs_get _ _ _ _ _ h8, hcr]
    simp only [Bool.false_eq_true, if_false]
  have hv0 : wi T r rs g k i = if (i : Int) < r.at k then 0 else if (i : Int) = r.at k then wg (phAt T p) (ruAt rs p) else wn (phAt T p) T.revert (ruAt rs p) := by
    unfold wi
    rw [hgd]
    dsimp only
    rw [hc]
    simp only [Bool.false_eq_true, if_false]
  have n1 := wg_nn R (ruAt rs p)
  have n2 := wn_nn R T.revert (ruAt rs p)
  rw [hw, hv0, hsat]
  have hst' : (cueS S.st S.en pr p).st = SetM.has S.st p := rfl
  have hen' : (cueS S.st S.en pr p).en = SetM.has S.en p := rfl
  have hps' : (cueS S.st S.en pr p).ps = SetM.has pr p := rfl
  cases hb : begS T rs (bS rs) (lnS T r want k) with
  | true =>
    obtain ⟨x, hx1, hx2, hx3, _⟩ := G.ln_spec hg (want := want) k (beg_valid hb).1
    simp only [if_true]
    rw [hx1]
    rcases Int.lt_trichotomy (i : Int) (x : Int) with h | h | h
    · rw [if_pos h]
      refine ⟨?_, fun hh => ?_⟩
      · repeat' split
        all_goals omega
      · rcases hh with ⟨h1, _⟩ | ⟨_, _, h3, _⟩
        · omega
        · cases h3
    · have hs : SetM.has S.st p = true := hso.2 ⟨hb, by rw [hx1]; exact h⟩
      have hred := red_off G I hg hk hv (by omega)
      have key := wg_start hu hq R hred (by rw [hst']; exact hs) T.revert
      rw [if_neg (by omega), if_pos h, if_neg (by omega), if_neg (by omega)]
      exact ⟨by omega, fun _ => by omega⟩
    · have hs : SetM.has S.st p = false := by
        cases e : SetM.has S.st p with
        | false => rfl
        | true => have := (hso.1 e).2; rw [hx1] at this; omega
      have hred := red_off G I hg hk hv (by omega)
      have key := (wn_stp hu hq R hred (by rw [hst']; exact hs) G.rev.2).2
      rw [if_neg (by omega), if_neg (by omega), if_neg (by omega), if_neg (by omega)]
      refine ⟨key.1, fun hh => ?_⟩
      rcases hh with ⟨h1, _⟩ | ⟨_, _, h3, _⟩
      · omega
      · cases h3
  | false =>
    have hs : SetM.has S.st p = false := by
      cases e : SetM.has S.st p with
      | false => rfl
      | true => have := (hso.1 e).1; rw [hb] at this; cases this
    simp only [Bool.false_eq_true, if_false]
    rcases Int.lt_trichotomy (i : Int) (r.at k) with h | h | h
    · rw [if_pos h, if_pos h]
      refine ⟨Int.le_refl _, fun hh => ?_⟩
      rcases hh with ⟨_, h2, _⟩ | ⟨h1, _⟩ <;> omega
    · rw [if_neg (by omega), if_pos h, if_neg (by omega), if_pos h]
      cases hbu : buB (ruAt rs p) with
      | true =>
        have key := wg_stp hu hq R hbu
        refine ⟨key.1, fun hh => key.2 ?_⟩
        rcases hh with ⟨_, h2, _⟩ | ⟨_, _, _, h4⟩
        · omega
        · rw [hen', hps']; exact h4
      | false =>
        have key := (wn_stp hu hq R hbu (by rw [hst']; exact hs) G.rev.2).1
        rw [wg_red key, wg_red hbu]
        refine ⟨Int.le_refl _, fun hh => ?_⟩
        rcases hh with ⟨_, h2, _⟩ | ⟨_, h2, _⟩
        · omega
        · cases h2
    · have hred := red_off G I hg hk hv (by omega)
      have key := (wn_stp hu hq R hred (by rw [hst']; exact hs) G.rev.2).2
      rw [if_neg (by omega), if_neg (by omega), if_neg (by omega), if_neg (by omega)]
      refine ⟨key.1, fun hh => key.2 ?_⟩
      rcases hh with ⟨_, _, h3⟩ | ⟨h1, _⟩
      · rcases h3 with h3 | h3
        · cases h3
        · exact h3
      · omega
end
end Rg
namespace Rg
open Go Tab PlanM Ru
open ChkM (cfAt)
open Clear (phAt)
open PlaceM (where_ spots Spt)
open GenQ (Rng)
theorem has_inter {a : Int} {m : Nat} (hm : m < 256) (q : Int) : SetM.has (bits .and .i64 a (m : Int)) q = (SetM.has a q && SetM.has (m : Int) q) := by
  rw [SetM.and_low _ _ hm]
  unfold SetM.has
  rw [SetM.low_nat _ (Nat.lt_of_le_of_lt Nat.and_le_right hm), SetM.low_nat _ hm, Nat.testBit_and]
  cases decide (0 ≤ q) <;> simp
theorem has_minus {a : Int} {m : Nat} (hm : m < 256) {q : Int} (hq : 0 ≤ q ∧ q < 8) : SetM.has (bits .andNot .i64 a (m : Int)) q = (SetM.has a q && !SetM.has (m : Int) q) := by
  obtain ⟨j, rfl⟩ := Int.eq_ofNat_of_zero_le hq.1
  rw [SetM.has_nat, SetM.has_nat, SetM.has_nat, SetM.andNot_low _ _ hm, SetM.low_nat _ hm, Nat.testBit_and, ChkX.not_bit hm (by omega)]
theorem has_ofl {l : List Int} {q : Int} (hq : 0 ≤ q ∧ q < 8) : SetM.has (SetM.of l : Nat) q = decide (q ∈ l) := by
  obtain ⟨j, rfl⟩ := Int.eq_ofNat_of_zero_le hq.1
  rw [SetM.has_nat, SetM.low_nat _ (SetM.of_lt _), SetM.of_test]
  simp only [show j < 8 by omega, and_true]
theorem first_in {s p : Int} (h : SetM.has s p = true) : 0 ≤ SetM.first s := by
  have hm := (SetM.mem_list s p).2 h
  unfold SetM.first
  cases e : SetM.list s with
  | nil => rw [e] at hm; simp at hm
  | cons x l =>
    have := SetM.list_bd s x (by rw [e]; exact List.mem_cons_self)
    exact this.1
/-- a wanted phase that is not green -/
theorem oth_of {rs : List Ru} (h8 : rs.length = 8) {want q : Int} (hq : 0 ≤ q ∧ q < 8) (hw : SetM.has want q = true) (hg : grB (ruAt rs q) = false) : othS want (gS rs) = true := by
  unfold othS
  refine decide_eq_true (first_in (p := q) ?_)
  have hgs : SetM.has (gS rs) q = false := by rw [gs_in h8 hq]; exact hg
  have := has_minus (a := want) (th_lt grB rs) hq
  unfold gS at hgs ⊢
  rw [this, hw, hgs]; rfl
/-- who is pressed -/
theorem prs_of {T : Tab} {r : Rg} {rs : List Ru} (h8 : rs.length = 8) {want p q : Int} (hp : 0 ≤ p ∧ p < 8) (hq : 0 ≤ q ∧ q < 8) (hgp : grB (ruAt rs p) = true) (hon : SetM.has (OnS.onS T : Nat) p = true) (hw : SetM.has want q = true) (hgq : grB (ruAt rs q) = false) (hl : latS T r p q = false) : SetM.has (prsS T r rs want) p = true := by
  unfold prsS
  rw [has_ofl hp]
  refine decide_eq_true (List.mem_filter.2 ⟨(SetM.mem_list _ _).2 ?_, List.any_eq_true.2 ⟨q, (SetM.mem_list _ _).2 ?_, by rw [hl]; rfl⟩⟩)
  · rw [has_inter (show OnS.onS T < 256 from SetM.of_lt _), gs_in h8 hp, hgp, hon]; rfl
  · have hgs : SetM.has (gS rs) q = false := by rw [gs_in h8 hq]; exact hgq
    have := has_minus (a := want) (th_lt grB rs) hq
    unfold gS at hgs ⊢
    rw [this, hw, hgs]; rfl
theorem next_le {T : Tab} {r : Rg} {want : Int} {g k i : Nat} {p : Int} (hg : r.g = g) (hv : (ringAt T g k)[i]? = some p) (hi : r.at k < (i : Int)) (hw : SetM.has want p = true) : 0 ≤ (lnS T r want k).x ∧ (lnS T r want k).x ≤ i := by
  have hx : (lnS T r want k).x = nextIn (ringAt T g k) (r.at k) want := by show nextS T r.g k (r.at k) want = _; rw [hg]; rfl
  have hlt := (List.getElem?_eq_some_iff.1 hv).1
  have hgd : (ringAt T g k).getD i 0 = p := by rw [List.getD_eq_getElem?_getD, hv]; rfl
  have h0 : 0 ≤ nextIn (ringAt T g k) (r.at k) want := by
    unfold nextIn
    cases hf : (List.range (ringAt T g k).length).find? (fun i : Nat => decide (r.at k < (i : Int)) && SetM.has want ((ringAt T g k).getD i 0)) with
    | some j => dsimp only; omega
    | none =>
      exfalso
      have := List.find?_eq_none.1 hf i (List.mem_range.2 hlt)
      rw [hgd, hw, decide_eq_true hi] at this
      exact this rfl
  refine ⟨by rw [hx]; exact h0, ?_⟩
  obtain ⟨j, h1, h2, h3, h4, h5⟩ := next_spec h0
  rw [hx, h1]
  rcases Nat.lt_or_ge i j with h | h
  · exact absurd ⟨hi, by rw [hgd]; exact hw⟩ (h5 i h)
  · omega
section
variable {T : Tab} (G : Gw T) {r : Rg} {rs : List Ru} (I : Iw T r rs) {g : Nat} (hg : r.g = g) {want pr : Int}
include G I hg
theorem now_busy {k : Nat} (hb : SetM.has (bS rs) (lnS T r want k).n = true) : ∃ i : Nat, r.at k = i ∧ (ringAt T g k)[i]? = some (lnS T r want k).n ∧ buB (ruAt rs (lnS T r want k).n) = true := by
  have hr := has_range hb
  have hn : (lnS T r want k).n = nowS T g k (r.at k) := by show nowS T r.g k (r.at k) = _; rw [hg]
  rcases G.now_spec g k (r.at k) with ⟨h, _⟩ | ⟨i, h1, h2⟩
  · rw [hn, h] at hr; omega
  · exact ⟨i, h1, by rw [hn]; exact h2, by rw [← bs_in I.len hr]; exact hb⟩
/-- a ring that is not settled, none of whose phases begins or ends, and whose green phase is pressed: a term falls -/
theorem ring_moves {S : So} (hc : r.cr = false) (hr : S.r = atS r (begS T rs (bS rs) (lnS T r want 0)) (begS T rs (bS rs) (lnS T r want 1)) (lnS T r want 0).x (lnS T r want 1).x)
    (hst : ∀ p, SetM.has S.st p = true ↔ ∃ k, k < 2 ∧ begS T rs (bS rs) (lnS T r want k) = true ∧ p = (lnS T r want k).t) {k : Nat} (hk : k < 2)
    (hs : setS rs (gS rs) (bS rs) (lnS T r want k) = false) (hb : begS T rs (bS rs) (lnS T r want k) = false) (he : endS T rs want (gS rs) (lnS T r want k) = false)
    (hp : ∀ (i : Nat) (p : Int), r.at k = i → (ringAt T g k)[i]? = some p → grB (ruAt rs p) = true → SetM.has pr p = true) : ∃ i, i < (ringAt T g k).length ∧ wi T S.r (runsS T rs S.st S.en pr) g k i < wi T r rs g k i := by
  cases hbu : SetM.has (bS rs) (lnS T r want k).n with
  | true =>
    obtain ⟨i, h1, h2, h3⟩ := now_busy G I hg hbu
    refine ⟨i, (List.getElem?_eq_some_iff.1 h2).1, (wi_go G I hg hc hr hst hk h2).2 (.inr ⟨h1.symm, h3, hb, fun hco => .inr ⟨?_, ?_⟩⟩)⟩
    · have hgr : SetM.has (gS rs) (lnS T r want k).n = true := by rw [gs_in I.len (has_range hbu)]; unfold grB; rw [hco]; rfl
      cases hd : (ruAt rs (lnS T r want k).n).dn with
      | false => rfl
      | true =>
        exfalso
        by_cases hx : 0 ≤ (lnS T r want k).x
        · have := end_iff (T := T) (rs := rs) (want := want) (gr := gS rs) (l := lnS T r want k) |>.2 ⟨hgr, .inl ⟨hd, hx⟩⟩
          rw [he] at this; cases this
        · unfold setS at hs
          rw [decide_eq_false hx, hgr, hd, hbu] at hs
          cases hs
    · exact hp i _ h1 h2 (by unfold grB; rw [hco]; rfl)
  | false =>
    have hx : 0 ≤ (lnS T r want k).x := by
      by_cases hx : 0 ≤ (lnS T r want k).x
      · exact hx
      · unfold setS at hs
        rw [decide_eq_false hx, hbu] at hs
        cases hs
    obtain ⟨x, hx1, hx2, hx3, hx4, _⟩ := G.ln_spec hg (want := want) k hx
    have h8 := G.row g k x _ hx2
    have hred := red_off G I hg hk hx2 (by omega)
    have hbt : SetM.has (bS rs) (lnS T r want k).t = false := by rw [bs_in I.len h8]; exact hred
    have hcf : bits .and .i64 (cfAt T (lnS T r want k).t) (bS rs) = 0 := by
      by_cases hz : bits .and .i64 (cfAt T (lnS T r want k).t) (bS rs) = 0
      · exact hz
      · exfalso
        have hlt : 0 ≤ bS rs ∧ bS rs ≤ 255 := by
          have := th_lt buB rs
          unfold bS
          omega
        obtain ⟨q, q1, q2⟩ := (ChkX.and_ne hlt).1 hz
        have hq8 := has_range q2
        have hcq := G.cf _ q h8 q1
        rw [bs_in I.len hq8] at q2
        obtain ⟨k', hk', e⟩ := I.red q hq8 q2
        rw [hg] at e
        rcases G.now_spec g k' (r.at k') with ⟨h, _⟩ | ⟨j, hj, h⟩
        · rw [h] at e; omega
        · rw [e] at h
          by_cases ek : k = k'
          · subst ek
            have hn : (lnS T r want k).n = q := by show nowS T r.g k (r.at k) = _; rw [hg]; exact e
            rw [hn, bs_in I.len hq8, q2] at hbu
            cases hbu
          · have := G.beside hx2 h ek
            rw [hcq.2.2] at this; cases this
    have htm : (ruAt rs (lnS T r want k).t).tm < T.revert := by
      rcases Int.lt_or_le (ruAt rs (lnS T r want k).t).tm T.revert with h | h
      · exact h
      · have := beg_iff (T := T) (rs := rs) (bu := bS rs) (l := lnS T r want k) |>.2 ⟨hbu, hx, hbt, h, hcf⟩
        rw [hb] at this; cases this
    exact ⟨x, (List.getElem?_eq_some_iff.1 hx2).1, (wi_go G I hg hc hr hst hk hx2).2 (.inl ⟨hx1.symm, hx3, .inr htm⟩)⟩
/-- each tick that goes on, what is left of the two rings falls while a phase waits -/
theorem go_falls {S : So} (hc : r.cr = false) (hr : S.r = atS r (begS T rs (bS rs) (lnS T r want 0)) (begS T rs (bS rs) (lnS T r want 1)) (lnS T r want 0).x (lnS T r want 1).x)
    (hst : ∀ p, SetM.has S.st p = true ↔ ∃ k, k < 2 ∧ begS T rs (bS rs) (lnS T r want k) = true ∧ p = (lnS T r want k).t)
    (hen : ∀ p, SetM.has S.en p = true ↔ ∃ k, k < 2 ∧ endS T rs want (gS rs) (lnS T r want k) = true ∧ p = (lnS T r want k).n)
    (hn : (∀ k, k < 2 → begS T rs (bS rs) (lnS T r want k) = false) → (∀ k, k < 2 → endS T rs want (gS rs) (lnS T r want k) = false) → (∀ k, k < 2 → setS rs (gS rs) (bS rs) (lnS T r want k) = true) → othS want (gS rs) = false)
    {gk kr ki : Nat} {q : Int} (hk2 : kr < 2) (hv : (ringAt T gk kr)[ki]? = some q) (hw : SetM.has want q = true) (hgq : grB (ruAt rs q) = false) :
    ws T S.r (runsS T rs S.st S.en (prsS T r rs want)) g 0 + ws T S.r (runsS T rs S.st S.en (prsS T r rs want)) g 1 < ws T r rs g 0 + ws T r rs g 1 := by
  have hq8 := G.row gk kr ki q hv
  have le : ∀ k : Nat, k < 2 → ws T S.r (runsS T rs S.st S.en (prsS T r rs want)) g k ≤ ws T r rs g k := fun k hk => sm_le fun i hi => (wi_go G I hg hc hr hst hk (List.getElem?_eq_getElem hi)).1
  have l0 := le 0 (by omega)
  have l1 := le 1 (by omega)
  have lt : ∀ k : Nat, k < 2 → (∃ i, i < (ringAt T g k).length ∧ wi T S.r (runsS T rs S.st S.en (prsS T r rs want)) g k i < wi T r rs g k i) → ws T S.r (runsS T rs S.st S.en (prsS T r rs want)) g 0 + ws T S.r (runsS T rs S.st S.en (prsS T r rs want)) g 1 < ws T r rs g 0 + ws T r rs g 1 := fun k hk h => by
    have : ws T S.r (runsS T rs S.st S.en (prsS T r rs want)) g k < ws T r rs g k := sm_lt (fun i hi => (wi_go G I hg hc hr hst hk (List.getElem?_eq_getElem hi)).1) h
    match k, hk, this with
    | 0, _, this => omega
    | 1, _, this => omega
  by_cases hB : ∃ k : Nat, k < 2 ∧ begS T rs (bS rs) (lnS T r want k) = true
  · obtain ⟨k, hk, hb⟩ := hB
    obtain ⟨x, hx1, hx2, hx3, _⟩ := G.ln_spec hg (want := want) k (beg_valid hb).1
    exact lt k hk ⟨x, (List.getElem?_eq_some_iff.1 hx2).1, (wi_go G I hg hc hr hst hk hx2).2 (.inl ⟨hx1.symm, hx3, .inl hb⟩)⟩
  have hB' : ∀ k, k < 2 → begS T rs (bS rs) (lnS T r want k) = false := fun k hk => by
    cases e : begS T rs (bS rs) (lnS T r want k) with
    | false => rfl
    | true => exact absurd ⟨k, hk, e⟩ hB
  by_cases hE : ∃ k, k < 2 ∧ endS T rs want (gS rs) (lnS T r want k) = true
  · obtain ⟨k, hk, he⟩ := hE
    have hgn := (end_iff.1 he).1
    have h8 := has_range hgn
    have hbn : SetM.has (bS rs) (lnS T r want k).n = true := by
      rw [bs_in I.len h8]
      rw [gs_in I.len h8] at hgn
      exact gr_bu hgn
    obtain ⟨i, h1, h2, h3⟩ := now_busy G I hg hbn
    exact lt k hk ⟨i, (List.getElem?_eq_some_iff.1 h2).1, (wi_go G I hg hc hr hst hk h2).2 (.inr ⟨h1.symm, h3, hB' k hk, fun _ => .inl ((hen _).2 ⟨k, hk, he, rfl⟩)⟩)⟩
  have hE' : ∀ k, k < 2 → endS T rs want (gS rs) (lnS T r want k) = false := fun k hk => by
    cases e : endS T rs want (gS rs) (lnS T r want k) with
    | false => rfl
    | true => exact absurd ⟨k, hk, e⟩ hE
  have hO := oth_of I.len hq8 hw hgq
  have hwq : where_ T q = some ⟨gk, kr, ki, q⟩ := G.wh _ (G.spot hv)
  have hpr : ∀ (k i : Nat) (p : Int), (ringAt T g k)[i]? = some p → grB (ruAt rs p) = true → latS T r p q = false → SetM.has (prsS T r rs want) p = true := fun k i p hp hgp hl =>
    prs_of I.len (G.row g k i p hp) hq8 hgp ((G.on p).2 ⟨_, G.spot hp, rfl⟩) hw hgq hl
  by_cases hT : (gk : Int) = r.g ∧ r.at kr < (ki : Int)
  · obtain ⟨e, ha⟩ := hT
    obtain rfl : gk = g := by omega
    have hx := next_le (want := want) hg hv ha hw
    refine lt kr hk2 (ring_moves G I hg hc hr hst hk2 (by unfold setS; rw [decide_eq_true hx.1]; rfl) (hB' kr hk2) (hE' kr hk2) fun i p _ hp hgp => hpr kr i p hp hgp ?_)
    unfold latS
    rw [hwq, G.wh _ (G.spot hp)]
    simp
  · have hl : ∀ p, latS T r p q = false := fun p => by
      unfold latS
      rw [hwq]
      dsimp only
      by_cases e : (gk : Int) = r.g
      · rw [decide_eq_false (fun h => hT ⟨e, h⟩)]; simp
      · rw [decide_eq_false e]; rfl
    by_cases hS : ∃ k, k < 2 ∧ setS rs (gS rs) (bS rs) (lnS T r want k) = false
    · obtain ⟨k, hk, hs⟩ := hS
      exact lt k hk (ring_moves G I hg hc hr hst hk hs (hB' k hk) (hE' k hk) fun i p _ hp hgp => hpr k i p hp hgp (hl p))
    · have := hn hB' hE' fun k hk => by
        cases e : setS rs (gS rs) (bS rs) (lnS T r want k) with
        | true => rfl
        | false => exact absurd ⟨k, hk, e⟩ hS
      rw [hO] at this; cases this
end
end Rg
namespace BdS
open Go.ChangeShapes Go.WideShapes Go.ChangeAt Go.RowKit
open RefC
def full (n : Int) : Bool := decide (2147483647 ≤ n)
end BdS
namespace BdA
open Go.ChangeShapes Go.WideShapes Go.ChangeAt Go.RowKit
open Tab Gath OnS RefC Clear
open May (St phases_in infoP infoT row_new)
end BdA
namespace BdM
open RefC
/-- The sum of what is capped, not capped itself. -/
def tot (l : List Int) : Int := l.foldl (fun s x => s + cap x) 0
theorem tot_snoc (l : List Int) (x : Int) : tot (l ++ [x]) = tot l + cap x := by unfold tot; rw [List.foldl_append]; rfl
theorem fold_from (l : List Int) : ∀ s : Int, l.foldl (fun s x => s + cap x) s = s + tot l := by
  induction l with
  | nil => intro s; simp [tot]
  | cons y t ih =>
    intro s
    have e : tot (y :: t) = cap y + tot t := by
      show List.foldl (fun s x => s + cap x) (0 + cap y) t = _
      rw [ih]; omega
    rw [List.foldl_cons, ih, e]; omega
theorem tot_cons (y : Int) (t : List Int) : tot (y :: t) = cap y + tot t := by
  show List.foldl (fun s x => s + cap x) (0 + cap y) t = _
  rw [fold_from]; omega
theorem tot_nil : tot [] = 0 := rfl
theorem tot_append (l m : List Int) : tot (l ++ m) = tot l + tot m := by
  induction l with
  | nil => simp [tot_nil]
  | cons y t ih => rw [List.cons_append, tot_cons, tot_cons, ih]; omega
theorem tot_lo (l : List Int) : 0 ≤ tot l := by
  induction l with
  | nil => exact Int.le_refl _
  | cons y t ih => rw [tot_cons]; have := cap_lo y; omega
theorem sums_tot_from (l : List Int) : ∀ s : Int, 0 ≤ s → l.foldl add (min s 2147483647) = min (s + tot l) 2147483647 := by
  induction l with
  | nil => intro s hs; simp [tot_nil]
  | cons y t ih =>
    intro s hs
    have hc := cap_lo y
    have hh := cap_hi y
    have e : add (min s 2147483647) y = min (s + cap y) 2147483647 := by
      unfold add
      rw [cap_in (n := min s 2147483647) (by omega) (by omega)]
      by_cases h : s + cap y ≤ 2147483647
      · rw [cap_in (by omega) (by omega)]; omega
      · by_cases h2 : 2147483647 < min s 2147483647 + cap y
        · rw [cap_big h2]; omega
        · rw [cap_in (by omega) (by omega)]; omega
    rw [List.foldl_cons, e, ih _ (by omega), tot_cons]
    congr 1; omega
theorem sums_tot (l : List Int) : sums l = min (tot l) 2147483647 := by
  have := sums_tot_from l 0 (Int.le_refl _)
  rw [show min (0 : Int) 2147483647 = 0 from rfl] at this
  unfold sums; rw [this, Int.zero_add]
theorem sums_lo (l : List Int) : 0 ≤ sums l := by rw [sums_tot]; have := tot_lo l; omega
theorem cap_mono {a b : Int} (h : a ≤ b) : cap a ≤ cap b := by unfold cap; split <;> (try split) <;> (try split) <;> (try split) <;> omega
/-- The greatest, 0 of none: one by one. -/
theorem mosts_cons_from (l : List Int) : ∀ s : Int, 0 ≤ s → l.foldl max s = max s (mosts l) := by
  induction l with
  | nil => intro s hs; show s = max s (mosts []); unfold mosts; simp; omega
  | cons y t ih =>
    intro s hs
    have e : mosts (y :: t) = max (max 0 y) (mosts t) := by
      show List.foldl max (max 0 y) t = _
      exact ih _ (by omega)
    rw [List.foldl_cons, ih _ (by omega), e]; omega
theorem mosts_cons (y : Int) (t : List Int) : mosts (y :: t) = max (max 0 y) (mosts t) := mosts_cons_from t _ (by omega)
theorem mosts_nil : mosts [] = 0 := rfl
end BdM
namespace BdV
open Go.ChangeShapes Go.WideShapes Go.ChangeAt Go.RowKit
open Tab Gath OnS RefC Clear
open May (St phases_in infoP infoT row_new)
open ServeS (serveS serveR)
end BdV
namespace BdPM
open Tab PlaceM RefC ServeS PassS BdM
/-- What the spots of group g give. -/
def tg (T : Tab) (g : Int) (l : List Spt) : Int := tot (passL T g l)
theorem tg_append (T : Tab) (g : Int) (l m : List Spt) : tg T g (l ++ m) = tg T g l + tg T g m := by
  unfold tg passL; rw [List.filter_append, List.map_append, tot_append]
theorem serve_off (T : Tab) (p : Int) (h : ¬ (0 ≤ p ∧ p < 8)) : serveS T p = 0 := by
  unfold serveS
  rw [if_neg]
  intro hh
  exact h (SetM.list_bd _ p ((SetM.mem_list _ p).2 hh))
theorem tg_row (T : Tab) (g : Int) (g' k : Nat) : ∀ (i : Nat) (l : List Int), tg T g (rowS g' k i l) = if (g' : Int) = g then tot (l.map (serveS T)) else 0
  | i, [] => by
    have : tg T g (rowS g' k i []) = 0 := rfl
    rw [this]; split <;> rfl
  | i, p :: l => by
    rw [rowS, tg_append, tg_row T g g' k (i + 1) l, List.map_cons, tot_cons]
    unfold one
    by_cases hp : 0 ≤ p ∧ p < 8
    · rw [if_pos hp]
      by_cases e : (g' : Int) = g
      · have : tg T g [(⟨g', k, i, p⟩ : Spt)] = cap (serveS T p) := by
          unfold tg passL
          simp [e, tot_cons, tot_nil]
        rw [this, if_pos e, if_pos e]
      · have : tg T g [(⟨g', k, i, p⟩ : Spt)] = 0 := by
          unfold tg passL
          simp [e, tot_nil]
        rw [this, if_neg e, if_neg e]; rfl
    · rw [if_neg hp, serve_off T p hp]
      have : tg T g [] = 0 := rfl
      rw [this]
      split <;> simp [show cap 0 = 0 from rfl]
theorem tg_before (T : Tab) (g : Int) : ∀ (G : List (List Int × List Int)) (s : Nat), g < s → tg T g (allS s G) = 0
  | [], s, h => rfl
  | x :: l, s, h => by
    rw [allS, tg_append, grpS, tg_append, tg_row, tg_row, tg_before T g l (s + 1) (by omega), if_neg (by omega), if_neg (by omega)]; rfl
theorem tg_all (T : Tab) (g : Int) : ∀ (G : List (List Int × List Int)) (s j : Nat) (y : List Int × List Int), G[j]? = some y → g = s + j → tg T g (allS s G) = tot ((y.1 ++ y.2).map (serveS T))
  | [], s, j, y, h, e => by simp at h
  | x :: l, s, 0, y, h, e => by
    obtain rfl : x = y := by simpa using h
    rw [allS, tg_append, grpS, tg_append, tg_row, tg_row, tg_before T g l (s + 1) (by omega), if_pos (by omega), if_pos (by omega), List.map_append, tot_append]; omega
  | x :: l, s, j + 1, y, h, e => by
    rw [allS, tg_append, grpS, tg_append, tg_row, tg_row, if_neg (by omega), if_neg (by omega), tg_all T g l (s + 1) j y (by simpa using h) (by omega)]; omega
theorem pass_rows {T : Tab} {q : Nat} {y : List Int × List Int} (h : T.groups[q]? = some y) : passS T q = sums (8 :: (y.1 ++ y.2).map (serveS T)) := by
  have hl := (List.getElem?_eq_some_iff.1 h).1
  unfold passS
  rw [if_pos (by omega), sums_tot, sums_tot, tot_cons, tot_cons]
  have := tg_all T q T.groups 0 q y h (by omega)
  unfold tg at this
  rw [show passL T q (spots T) = passL T q (allS 0 T.groups) from rfl, this]
end BdPM
namespace BdP
open Go.ChangeShapes Go.WideShapes Go.ChangeAt Go.RowKit
open Tab Gath OnS RefC Clear
open May (St phases_in infoP infoT row_new)
open ServeS PassS PlaceM BdPM
open RefS (info3)
end BdP
namespace BdF
open Go.ChangeShapes Go.WideShapes Go.ChangeAt Go.RowKit
open Tab Gath OnS RefC Clear
open May (St phases_in infoP infoT row_new)
open ServeS PassS FreeS PlaceM
open RefS (info3)
end BdF
namespace BdG
open Go.ChangeShapes Go.WideShapes Go.ChangeAt
open Go.RowKit Go.Shelf
open Tab Gath OnS RefC Clear Each Search
open May (St phases_in infoP infoT row_new)
attribute [local go_sem] Oper.semAt_some
section
variable {l n : Nat} {P : Program} {Q : Exit → Act → World → Prop} {S : World → Prop}
end
end BdG
namespace BdE
open Go.ChangeShapes Go.WideShapes Go.ChangeAt Go.RowKit
open Tab Gath OnS RefC Clear
open May (St phases_in infoP infoT row_new)
open EntryS
open May (infoR)
end BdE
namespace BdO
open Go.ChangeShapes Go.WideShapes Go.ChangeAt Go.RowKit
open Tab Gath OnS RefC Clear
open May (St phases_in infoP infoT row_new)
open EntryS OverS
open May (infoR)
end BdO
namespace BdW
open Go.ChangeShapes Go.WideShapes Go.ChangeAt Go.RowKit
open Tab Gath OnS RefC Clear
open May (St phases_in infoP infoT row_new)
open FreeS OverS WaitS
end BdW
namespace BdB
open Go.ChangeShapes Go.WideShapes Go.ChangeAt Go.RowKit
open Tab Gath OnS RefC Clear
open May (St phases_in infoP infoT row_new)
open ServeS PassS FreeS OverS WaitS EntryS ChkM BdS
section
variable {w1 u v : World}
/-- Blocks of a call's own, known whole. -/
structure Bks (w1 : World) (m : List (Nat × Array Value × TypeId)) (u : World) : Prop where
  bel : Below w1.heap.size w1 u
  own : ∀ x ∈ m, w1.heap.size ≤ x.1
  blk : ∀ x ∈ m, u.heap[x.1]? = some (.cells x.2.1 x.2.2 (0, 0))
theorem Bks.step {m : List (Nat × Array Value × TypeId)} (h : Bks w1 m u) (hb : Below u.heap.size u v) : Bks w1 m v :=
  ⟨h.bel.trans (hb.mono h.bel.size), h.own, fun x hx => (hb.block _ (Array.getElem?_eq_some_iff.1 (h.blk x hx)).1).trans (h.blk x hx)⟩
theorem Bks.set {m : List (Nat × Array Value × TypeId)} {n : Nat} {cs : Array Value} {t : TypeId} (h : Bks w1 ((n, cs, t) :: m) u) (hd : ∀ x ∈ m, x.1 ≠ n) (i : Nat) (x : Value) :
    Bks w1 ((n, cs.setIfInBounds i x, t) :: m) (u.setCell ⟨n, i, none⟩ x) := by
  have ho := h.own _ (List.mem_cons_self ..)
  have hk := h.blk _ (List.mem_cons_self ..)
  have hg := GenG.grown_set u n i x
  refine ⟨h.bel.grown hg h.bel.size (fun k hk => by cases hk; exact ho), fun y hy => ?_, fun y hy => ?_⟩
  · rcases List.mem_cons.1 hy with rfl | hy
    · exact ho
    · exact h.own _ (List.mem_cons_of_mem _ hy)
  · rcases List.mem_cons.1 hy with rfl | hy
    · exact heap_setCell_same _ _ _ _ _ _ hk
    · have h1 := h.blk _ (List.mem_cons_of_mem _ hy)
      exact (hg.block _ (Array.getElem?_eq_some_iff.1 h1).1 (fun e => hd y hy (Option.some.inj e))).trans h1
theorem Bks.row {m : List (Nat × Array Value × TypeId)} {n : Nat} {cs : Array Value} {t : TypeId} (h : Bks w1 ((n, cs, t) :: m) u) (hd : ∀ x ∈ m, x.1 ≠ n) (cs' : Array Value) :
    Bks w1 ((n, cs', t) :: m) (u.setRow n cs') := by
  have ho := h.own _ (List.mem_cons_self ..)
  have hk := h.blk _ (List.mem_cons_self ..)
  refine ⟨Same.below_setRow h.bel ho cs', fun y hy => ?_, fun y hy => ?_⟩
  · rcases List.mem_cons.1 hy with rfl | hy
    · exact ho
    · exact h.own _ (List.mem_cons_of_mem _ hy)
  · rcases List.mem_cons.1 hy with rfl | hy
    · exact setRow_heap _ _ _ _ _ _ hk
    · have h1 := h.blk _ (List.mem_cons_of_mem _ hy)
      exact (setRow_other _ _ _ _ (hd y hy)).trans h1
end
end BdB
namespace BdQ
open Go Tab PlaceM RefC Clear OnS ServeS PassS FreeS EntryS OverS WaitS BdM BdPM BdB
/-! ### how large -/
theorem cap_le {x B : Int} (h : x ≤ B) (h0 : 0 ≤ B) : cap x ≤ B := by unfold cap; split <;> (try split) <;> omega
theorem tot_le {B : Int} (h0 : 0 ≤ B) : ∀ {l : List Int}, (∀ x ∈ l, x ≤ B) → tot l ≤ l.length * B
  | [], _ => by simp [tot_nil]
  | x :: l, h => by
    rw [tot_cons, List.length_cons]
    have := cap_le (h x (by simp)) h0
    have := tot_le h0 (l := l) (fun y hy => h y (by simp [hy]))
    have e : ((l.length + 1 : Nat) : Int) * B = l.length * B + B := by rw [Int.natCast_add, Int.add_mul]; simp
    omega
theorem le_mosts {x : Int} : ∀ {l : List Int}, x ∈ l → x ≤ mosts l
  | y :: l, h => by
    rw [mosts_cons]
    rcases List.mem_cons.1 h with rfl | h
    · omega
    · have := le_mosts h; omega
/-- A table whose times are in range and whose groups are few. -/
structure Lo (T : Tab) : Prop where
  h8 : T.phases.length = 8
  ph : ∀ p, 0 ≤ (phAt T p).min ∧ (phAt T p).min ≤ 9999 ∧ (phAt T p).top ≤ 9999 ∧ (phAt T p).yellow ≤ 9999 ∧ (phAt T p).red ≤ 9999 ∧ (phAt T p).walk ≤ 9999 ∧ (phAt T p).blinks ≤ 9999
  ex : T.extend ≤ 9999
  rv : T.revert ≤ 9999
  sh : 0 ≤ T.share ∧ T.share ≤ 3
  gr : T.groups.length ≤ 3
  rw : ∀ g ∈ T.groups, g.1.length ≤ 2 ∧ g.2.length ≤ 2
  rl : ∀ r ∈ T.rails, r.delay ≤ 9999 ∧ r.hold ≤ 9999 ∧ r.green ≤ 9999 ∧ r.foot ≤ 9999 ∧ r.stay ≤ 9999
theorem serve_le {T : Tab} (h : Lo T) (p : Int) : 0 ≤ serveS T p ∧ serveS T p ≤ 60002 := by
  unfold serveS serveR
  split
  · refine ⟨sums_lo _, ?_⟩
    obtain ⟨h0, h1, h2, h3, h4, h5, h6⟩ := h.ph p
    rw [sums_tot]
    simp only [tot_cons, tot_nil]
    have a1 := cap_le h.ex (by omega)
    have a2 := cap_le h.rv (by omega)
    have a3 := cap_le h3 (by omega)
    have a4 := cap_le h4 (by omega)
    have a5 := cap_le h5 (by omega)
    have a6 := cap_le h6 (by omega)
    have a7 := cap_le h2 (by omega)
    have a8 := cap_le h1 (by omega)
    have b1 : sums [(phAt T p).walk, (phAt T p).blinks] ≤ 19998 := by rw [sums_tot]; simp only [tot_cons, tot_nil]; omega
    have b2 : cap (mosts [cap (phAt T p).min, sums [(phAt T p).walk, (phAt T p).blinks], cap (phAt T p).top]) ≤ 19998 := by
      refine cap_le ?_ (by omega)
      simp only [mosts_cons, mosts_nil]
      omega
    have b3 : cap 8 = 8 := rfl
    omega
  · omega
theorem pass_le {T : Tab} (h : Lo T) (g : Int) : 0 ≤ passS T g ∧ passS T g ≤ 240016 := by
  by_cases hg : 0 ≤ g ∧ g < T.groups.length
  · obtain ⟨q, rfl⟩ := Int.eq_ofNat_of_zero_le hg.1
    have hq : q < T.groups.length := by omega
    rw [pass_rows (List.getElem?_eq_getElem hq)]
    refine ⟨sums_lo _, ?_⟩
    obtain ⟨r0, r1⟩ := h.rw _ (List.getElem_mem hq)
    generalize T.groups[q] = y at r0 r1
    rw [sums_tot, tot_cons]
    have h1 := tot_le (B := 60002) (by omega) (l := (y.1 ++ y.2).map (serveS T)) (by
      intro x hx
      obtain ⟨p, _, rfl⟩ := List.mem_map.1 hx
      exact (serve_le h p).2)
    rw [List.length_map, List.length_append] at h1
    have h2 : ((y.1.length + y.2.length : Nat) : Int) ≤ 4 := by omega
    have h3 : ((y.1.length + y.2.length : Nat) : Int) * 60002 ≤ 4 * 60002 := by omega
    have b3 : cap 8 = 8 := rfl
    omega
  · unfold passS
    rw [if_neg hg]; omega
theorem cap_pass {T : Tab} (h : Lo T) (g : Int) : cap (passS T g) = passS T g := cap_in (pass_le h g).1 (by have := (pass_le h g).2; omega)
theorem up_le {T : Tab} (h : Lo T) {n : Nat} (hn : n ≤ T.groups.length) : 0 ≤ tot (upL T n) ∧ tot (upL T n) ≤ 720048 := by
  refine ⟨tot_lo _, ?_⟩
  have h1 := tot_le (B := 240016) (by omega) (l := upL T n) (by
    intro x hx
    unfold upL at hx
    obtain ⟨i, _, rfl⟩ := List.mem_map.1 hx
    exact (pass_le h i).2)
  have : (upL T n).length = n := by unfold upL; simp
  rw [this] at h1
  have := h.gr
  omega
theorem up_tot {T : Tab} (h : Lo T) (n : Nat) : tot (upL T (n + 1)) = tot (upL T n) + passS T n := by
  rw [up_succ, tot_snoc, cap_pass h]
theorem free_val {T : Tab} (h : Lo T) {p : Int} {x : Spt} (hw : where_ T p = some x) (ho : SetM.has (onS T : Nat) p = true) : freeS T p = tot (upL T T.groups.length) + passS T x.g := by
  unfold freeS
  rw [hw]
  simp only
  rw [if_pos ho]
  unfold freeR
  rw [sums_tot, tot_cons, cap_pass h]
  have := (up_le h (Nat.le_refl _)).2
  have := (pass_le h x.g).2
  omega
end BdQ
namespace BdN
open Go.ChangeShapes Go.WideShapes Go.ChangeAt Go.RowKit
open Tab Gath OnS RefC Clear
open May (St phases_in infoP infoT row_new)
open FreeS OverS WaitS EntryS BdB PlaceM
end BdN
namespace BdI
open Go.ChangeShapes Go.WideShapes Go.ChangeAt Go.RowKit
open Tab Gath OnS RefC Clear
open May (St phases_in infoP infoT row_new)
open BdS BdB
end BdI
namespace BdT
open Go.ChangeShapes Go.WideShapes Go.ChangeAt Go.RowKit
open Tab Gath OnS RefC Clear
open May (St phases_in infoP infoT row_new)
open BdB BdN BdI ChkM PlaceM
end BdT
end Go.Proofs.Ytjgpljnbeolapaa
