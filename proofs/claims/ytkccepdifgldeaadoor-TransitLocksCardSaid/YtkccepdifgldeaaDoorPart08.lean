/- 6 texts in one file, in build order. -/
import Derived.Test.YtkccepdifgldeaaDoorPart04
import Derived.Test.YtkccepdifgldeaaDoorPart07
import Derived.Test.YtkccepdifgldeaaDoorRows
import Derived.Deep.Cut
import Derived.LoopTactic
import Derived.Great.BuildSlice
set_option linter.unusedVariables false
set_option linter.unusedSimpArgs false
set_option linter.unusedSectionVars false
set_option maxHeartbeats 8000000
set_option maxRecDepth 100000
namespace Go.Proofs.YtkccepdifgldeaaDoor
namespace Tr
attribute [local go_sem] Oper.semAt_some
open Go Go.ChangeShapes Go.WideShapes Go.ChangeAt Go.RowKit
open GenT (genTab)
open Tab Flat TabArg QL Ru Rg PlanM
theorem gen_bus (L : List Int) : (genTab L).buses.length ≤ 4 ∧ (∀ b ∈ (genTab L).buses, (0 ≤ b.set ∧ b.set ≤ 255) ∧ (0 ≤ b.lock ∧ b.lock ≤ 9999)) ∧ (0 ≤ (genTab L).budget ∧ (genTab L).budget ≤ 9999) := by
  have h := GenT.gen_may L
  unfold May.tabMay at h
  simp only [Bool.and_eq_true] at h
  obtain ⟨_, _, _, _, _, h1, h2, _⟩ := h
  obtain ⟨h3, h4⟩ := GenT.listMay_iff.1 h1
  have h5 := GenT.allIn_iff.1 h2
  refine ⟨by omega, fun b hb => ?_, h5 _ (by simp)⟩
  have h6 := h4 b hb
  unfold May.Bs.may at h6
  rw [Bool.and_eq_true] at h6
  exact ⟨GenT.allIn_iff.1 h6.1 _ (by simp), GenT.allIn_iff.1 h6.2 _ (by simp)⟩
theorem lk_put (r : Rid) {j k : Nat} (hj : j < 4) (hk : k < 4) (v : Int) : (r.put j v).lk k = if k = j then v else r.lk k := by
  match j, hj, k, hk with
  | 0, _, 0, _ => rfl
  | 0, _, 1, _ => rfl
  | 0, _, 2, _ => rfl
  | 0, _, 3, _ => rfl
  | 1, _, 0, _ => rfl
  | 1, _, 1, _ => rfl
  | 1, _, 2, _ => rfl
  | 1, _, 3, _ => rfl
  | 2, _, 0, _ => rfl
  | 2, _, 1, _ => rfl
  | 2, _, 2, _ => rfl
  | 2, _, 3, _ => rfl
  | 3, _, 0, _ => rfl
  | 3, _, 1, _ => rfl
  | 3, _, 2, _ => rfl
  | 3, _, 3, _ => rfl
theorem put_was (r : Rid) (j : Nat) (v : Int) : (r.put j v).was = r.was ∧ (r.put j v).sp = r.sp := by
  unfold Rid.put
  split <;> exact ⟨rfl, rfl⟩
/-- A bus's next Lock. -/
def valL (T : Tab) (s : Rid) (ask : Int) (k : Nat) (z : Int) : Int := if 0 < s.lk k then wrap64 (s.lk k - 1) else if SetM.has s.was k && !SetM.has ask k then (busAt T.buses k).lock else z
theorem nxt1_lk (T : Tab) (s : Rid) (ask : Int) (r : Rid) {j k : Nat} (hj : j < 4) (hk : k < 4) : (nxt1 T s ask r j).lk k = if k = j then valL T s ask k (r.lk k) else r.lk k := by
  unfold nxt1 valL
  by_cases hkj : k = j
  · subst hkj
    rw [if_pos rfl]
    split
    · rw [lk_put r hj hk, if_pos rfl]
    · split
      · rw [lk_put r hj hk, if_pos rfl]
      · rfl
  · rw [if_neg hkj]
    split
    · rw [lk_put r hj hk, if_neg hkj]
    · split
      · rw [lk_put r hj hk, if_neg hkj]
      · rfl
theorem nxt1_was (T : Tab) (s : Rid) (ask : Int) (r : Rid) (j : Nat) : (nxt1 T s ask r j).was = r.was ∧ (nxt1 T s ask r j).sp = r.sp := by
  unfold nxt1
  split
  · exact put_was _ _ _
  · split
    · exact put_was _ _ _
    · exact ⟨rfl, rfl⟩
theorem nxt_fold (T : Tab) (s : Rid) (ask : Int) (b : Rid) : ∀ m, m ≤ 4 → ((List.range m).foldl (nxt1 T s ask) b).was = b.was ∧ ((List.range m).foldl (nxt1 T s ask) b).sp = b.sp ∧ ∀ k, k < 4 → ((List.range m).foldl (nxt1 T s ask) b).lk k = if k < m then valL T s ask k (b.lk k) else b.lk k
  | 0, _ => ⟨rfl, rfl, fun k _ => by simp⟩
  | m + 1, hm => by
    obtain ⟨h1, h2, h3⟩ := nxt_fold T s ask b m (by omega)
    rw [List.range_succ, List.foldl_append, List.foldl_cons, List.foldl_nil]
    obtain ⟨e1, e2⟩ := nxt1_was T s ask ((List.range m).foldl (nxt1 T s ask) b) m
    refine ⟨e1.trans h1, e2.trans h2, fun k hk => ?_⟩
    rw [nxt1_lk T s ask _ (by omega) hk]
    by_cases hkm : k = m
    · subst hkm
      rw [if_pos rfl, h3 k hk, if_neg (by omega), if_pos (by omega)]
    · rw [if_neg hkm, h3 k hk]
      by_cases hlt : k < m
      · rw [if_pos hlt, if_pos (by omega)]
      · rw [if_neg hlt, if_neg (by omega)]
theorem next_is (T : Tab) (s : Rid) (ask : Int) (held round : Bool) : (nextS T s ask held round).was = (liveS T s ask : Nat) ∧ (nextS T s ask held round).sp = spS s held round ∧ ∀ k, k < 4 → (nextS T s ask held round).lk k = if k < T.buses.length then valL T s ask k 0 else 0 := by
  unfold nextS
  rw [eL15]
  have hm : nB T.buses ≤ 4 := Nat.min_le_right _ _
  obtain ⟨h1, h2, h3⟩ := nxt_fold T s ask ⟨0, 0, 0, 0, (liveS T s ask : Nat), spS s held round⟩ (nB T.buses) hm
  refine ⟨h1, h2, fun k hk => ?_⟩
  rw [h3 k hk]
  have e : ((⟨0, 0, 0, 0, (liveS T s ask : Nat), spS s held round⟩ : Rid).lk k) = 0 := by
    unfold Rid.lk
    split <;> rfl
  rw [e]
  have hb : (k < nB T.buses) = (k < T.buses.length) := by unfold nB; exact propext ⟨fun h => by omega, fun h => by omega⟩
  simp only [hb]
/-- What holds between ticks of TransitLocks. -/
structure LkI (T : Tab) (r : Rid) : Prop where
  lo : ∀ k, k < 4 → 0 ≤ r.lk k ∧ r.lk k ≤ 9999
  out : ∀ k, k < 4 → ¬ k < T.buses.length → r.lk k = 0
  sp : r.sp = 0
  was : ∀ k : Nat, k < 4 → SetM.has r.was k = true → k < T.buses.length
def zRid : Rid := ⟨0, 0, 0, 0, 0, 0⟩
theorem lki_zero (T : Tab) : LkI T zRid := by
  have e : ∀ k, zRid.lk k = 0 := fun k => by unfold zRid Rid.lk; split <;> rfl
  exact ⟨fun k _ => by rw [e]; decide, fun k _ _ => e k, rfl, fun k _ h => by rw [show zRid.was = 0 from rfl, has_zero] at h; cases h⟩
theorem lki_next {T : Tab} {r : Rid} (h : LkI T r) (hb : ∀ b ∈ T.buses, (0 ≤ b.set ∧ b.set ≤ 255) ∧ (0 ≤ b.lock ∧ b.lock ≤ 9999)) (ask : Int) : LkI T (nextS T r ask false false) := by
  obtain ⟨h1, h2, h3⟩ := next_is T r ask false false
  refine ⟨fun k hk => ?_, fun k hk hl => by rw [h3 k hk, if_neg hl], by rw [h2]; exact h.sp, fun k hk hw => ?_⟩
  · rw [h3 k hk]
    split
    · rename_i hl
      unfold valL
      split
      · have := h.lo k hk
        rw [IntWalk.wrap64_in _ (by omega)]
        omega
      · split
        · exact (hb _ (List.mem_of_getElem? (bus_at hl))).2
        · decide
    · decide
  · rw [h1, live_has] at hw
    exact (of_decide_eq_true hw).1
theorem heard {T : Tab} {r : Rid} (h : LkI T r) (ask : Int) {k : Nat} (hk : k < 4) : SetM.has (liveS T r ask : Nat) k = (decide (k < T.buses.length) && (SetM.has ask k && (r.lk k == 0))) := by
  rw [live_has]
  have := h.lo k hk
  by_cases h1 : k < T.buses.length
  · rw [decide_eq_true h1, Bool.true_and]
    cases SetM.has ask k
    · exact decide_eq_false fun hh => by cases hh.2.2.1
    · rw [Bool.true_and]
      by_cases h0 : r.lk k = 0
      · rw [beq_iff_eq.2 h0]
        exact decide_eq_true ⟨h1, hk, rfl, by omega⟩
      · rw [beq_eq_false_iff_ne.2 h0]
        exact decide_eq_false fun hh => by have := hh.2.2.2; omega
  · rw [decide_eq_false h1, Bool.false_and]
    exact decide_eq_false fun hh => h1 hh.1
/-- four cells -/
def dC (d : Rid) : Array Value := #[I d.l0, I d.l1, I d.l2, I d.l3]
theorem dC_at (d : Rid) {k : Nat} (hk : k < 4) : (dC d)[k]? = some (I (d.lk k)) := by
  match k, hk with
  | 0, _ => rfl
  | 1, _ => rfl
  | 2, _ => rfl
  | 3, _ => rfl
theorem dC_put (d : Rid) {k : Nat} (hk : k < 4) (v : Int) : (dC d).setIfInBounds k (I v) = dC (d.put k v) := by
  match k, hk with
  | 0, _ => rfl
  | 1, _ => rfl
  | 2, _ => rfl
  | 3, _ => rfl
theorem dC_ext {d e : Rid} (h : ∀ k, k < 4 → d.lk k = e.lk k) : dC d = dC e := by
  have h0 := h 0 (by decide)
  have h1 := h 1 (by decide)
  have h2 := h 2 (by decide)
  have h3 := h 3 (by decide)
  simp only [Rid.lk] at h0 h1 h2 h3
  unfold dC
  rw [h0, h1, h2, h3]
/-- Half way: what is below k has been renewed. -/
structure Half (r N d : Rid) (k : Nat) : Prop where
  new : ∀ j, j < k → j < 4 → d.lk j = N.lk j
  old : ∀ j, k ≤ j → j < 4 → d.lk j = r.lk j
theorem Half.zero (r N : Rid) : Half r N r 0 := ⟨fun j h => absurd h (by omega), fun j _ _ => rfl⟩
theorem Half.put {r N d : Rid} {k : Nat} (h : Half r N d k) (hk : k < 4) {v : Int} (hv : v = N.lk k) : Half r N (d.put k v) (k + 1) := by
  refine ⟨fun j hj h4 => ?_, fun j hj h4 => ?_⟩
  · rw [lk_put d hk h4]
    by_cases e : j = k
    · subst e; rw [if_pos rfl]; exact hv
    · rw [if_neg e]; exact h.new j (by omega) h4
  · rw [lk_put d hk h4, if_neg (by omega)]; exact h.old j (by omega) h4
theorem Half.skip {r N d : Rid} {k : Nat} (h : Half r N d k) (hk : k < 4) (hv : r.lk k = N.lk k) : Half r N d (k + 1) := by
  refine ⟨fun j hj h4 => ?_, fun j hj h4 => h.old j (by omega) h4⟩
  by_cases e : j = k
  · subst e; rw [h.old j (Nat.le_refl _) h4]; exact hv
  · exact h.new j (by omega) h4
theorem Half.full {r N d : Rid} (h : Half r N d 4) : dC d = dC N := dC_ext fun k hk => h.new k hk hk
theorem shr1 {s : Int} {k : Nat} (hk : k < 8) {b : Bool} (h : SetM.has s k = b) : (bits .and .i64 (s / 2 ^ k) 1 == 1) = b ∧ (bits .and .i64 (s / 2 ^ k) 1 == 0) = !b := by
  have SH := SetM.has_shr s k hk
  rw [h] at SH
  cases b
  · rw [if_neg (by simp)] at SH; rw [SH]; exact ⟨rfl, rfl⟩
  · rw [if_pos rfl] at SH; rw [SH]; exact ⟨rfl, rfl⟩
/-- A tick of TransitBudget: what is spent. -/
theorem spend {T : Tab} (hb : 0 ≤ T.budget ∧ T.budget ≤ 9999) {s : Rid} {rs : List Ru} {ask : Int} (h0 : 0 ≤ s.sp ∧ s.sp ≤ 9999) {held : Bool} (hh : ((holdS T s rs ask : Nat) : Int) ≠ 0 → held = true) (hn : held = true → ((holdS T s rs ask : Nat) : Int) ≠ 0) (round : Bool) :
    (held = true → s.sp < T.budget) ∧ spS s held round = (if held then (if round then 0 else s.sp) + 1 else if round then 0 else s.sp) ∧ (0 ≤ spS s held round ∧ spS s held round ≤ 9999) := by
  have key : held = true → s.sp < T.budget := fun h => by
    have h1 := hn h
    unfold holdS at h1
    by_cases h2 : T.budget ≤ s.sp
    · rw [if_pos h2] at h1; exact absurd rfl h1
    · omega
  have hm : ∀ n : Int, 0 ≤ n → n ≤ 9999 → Cnt.more n = n + 1 := fun n h1 h2 => by unfold Cnt.more Cnt.ct; rw [if_neg (by omega), if_neg (by omega)]
  refine ⟨key, ?_⟩
  unfold spS
  cases held
  · cases round
    · exact ⟨rfl, h0⟩
    · exact ⟨rfl, by simp⟩
  · have := key rfl
    cases round
    · simp only [Bool.false_eq_true, if_false, if_true]
      rw [hm _ h0.1 h0.2]
      exact ⟨rfl, by omega, by omega⟩
    · simp only [if_true]
      rw [hm 0 (by omega) (by omega)]
      exact ⟨rfl, by omega, by omega⟩
end Tr
namespace GenG
open Go.ChangeShapes Go.WideShapes Go.ChangeAt Go.RowKit
open Tab Gath
open RefS (num from_any num_range ret_int)
/-- Where the middle loop stands. -/
def Mid (Bg : Nat) (w1 : World) (p m n : Nat) (k : Nat) (s : Value) (W : World) : Prop :=
  (k = 0 ∧ s = .int .i64 p ∧ G0 Bg w1 none 0 p 0 W) ∨ (k = 1 ∧ s = .int .i64 (p + m : Nat) ∧ ∃ a c, G0 Bg w1 a c p m W) ∨ (k = 2 ∧ s = .int .i64 (p + m + n : Nat) ∧ ∃ a c a1 c1 B1, G1 Bg w1 B1 a c p m a1 c1 n W)
theorem rows_any (tb : Nat) (a : Option Addr) (cap : Nat) (L : List Int) (cs : List Value) (w : World) (hb : w.heap[tb]? = some (.cells cs.toArray 31 (0, 0))) (hc : cs.length = 131) (h104 : cs[104]? = some (.slice none 0 0))
    (HL : Hid (∀ W, w.grownBy W (some tb) → IntRow W ⟨a, cap⟩ L)) :
    Calls Tryd.prog 30 #[.pointer (some ⟨tb, 0, none⟩), .slice a L.length cap] w fun e w' => ∃ ga gc gs, e = .returned (.int .i64 (genN L : Nat)) ∧ gs.map Gr.data = genGs L ∧ GS w tb cs ga gc (genG L) gs w' := by
  obtain ⟨hG1, hG3⟩ := genG_range L
  have UP := Lib.hid (up_le L (genG L) hG3)
  have ST : Hid (GS w tb cs none 0 0 [] w) := Lib.hid (by
    refine ⟨World.grownBy.refl _ _, ?_, Owns.nil, rfl, fun x hx => by simp at hx⟩
    rw [hb]
    have : cs.set 104 (.slice none 0 0) = cs := by
      apply List.ext_getElem?
      intro j
      rw [List.getElem?_set]
      split
      · rename_i e
        subst e
        rw [h104]; simp [hc]
      · rfl
    rw [this])
  have N0 : Hid (genN L = (upTo L (genG L) (genG L)).2) := Lib.hid rfl
  have D0 : Hid (genGs L = (upTo L (genG L) (genG L)).1) := Lib.hid rfl
  have E0 : Hid ((1 + num L 0 3).toNat = genG L ∧ 0 ≤ num L 0 3 ∧ num L 0 3 < 3) := Lib.hid ⟨rfl, num_range L 0 3 (by omega)⟩
  generalize genN L = rn at N0 ⊢
  generalize genGs L = rg at D0 ⊢
  generalize genG L = G at *
  obtain ⟨i0, hi, hz0, hz1, hz2⟩ := info_parts RefS.info3
  obtain ⟨j0, hj, hy0, hy1, hy2⟩ := info_parts infoG3
  have hz := (zero_of_info infoGz).1
  clear hb h104
  go_enter Tryd.func30, Tryd.ntmps30
  go_wp2_with fail
  refine (from_at a cap L _ 0 3 (by go_num) w (HL.out _ (World.grownBy.refl _ _)) (by go_num) (by omega) (by omega)).mono ?_
  rintro e w' ⟨rfl, rfl⟩
  obtain ⟨e0, e1, e2⟩ := E0.out
  have E3 : Hid (1 + num L 0 3 = (G : Int)) := Lib.hid (by omega)
  clear e0
  generalize num L 0 3 = x0 at *
  go_upto_region 2 with fail
  rw [E3.out]
  clear e1 e2
  go_wp2_with fail
  go_loopw [6, 7] (fun s i wr => ∃ g : Nat, g ≤ G ∧ i = .int .i64 g ∧ s = .int .i64 ((upTo L G g).2 : Nat) ∧ ∃ ga gc gs, gs.map Gr.data = (upTo L G g).1 ∧ GS w tb cs ga gc g gs wr) (fun _ i _ => G - (intOf i).toNat)
  case atStart => exact ⟨0, by omega, rfl, rfl, none, 0, [], rfl, ST.out⟩
  case round =>
    obtain ⟨g, hg, rfl, rfl, ga, gc, gs, hdata, hgs⟩ := hrel
    have HS := Lib.hid hgs
    have HD := Lib.hid hdata
    clear hgs hdata
    rename World => wg
    by_cases hlt : g < G
    · have hp8 := UP.out g (by omega)
      have UN : Hid (upTo L G (g + 1) = ((upTo L G g).1 ++ [grpD L G g (upTo L G g).2], (upTo L G g).2 + n0 L G g (upTo L G g).2 + n1 L G g (upTo L G g).2)) := Lib.hid rfl
      have hp9 : (upTo L G g).2 + n0 L G g (upTo L G g).2 + n1 L G g (upTo L G g).2 ≤ 8 := UP.out (g + 1) (by omega)
      have GD : Hid (grpD L G g (upTo L G g).2 = (seg (upTo L G g).2 (n0 L G g (upTo L G g).2), seg ((upTo L G g).2 + n0 L G g (upTo L G g).2) (n1 L G g (upTo L G g).2))) := Lib.hid rfl
      have N1 : Hid (n1 L G g (upTo L G g).2 = min (want1 L g (n0 L G g (upTo L G g).2)) (lim G g - ((upTo L G g).2 + n0 L G g (upTo L G g).2))) := Lib.hid rfl
      have N0' : Hid (n0 L G g (upTo L G g).2 = min (want0 L g) (lim G g - (upTo L G g).2)) := Lib.hid rfl
      generalize (upTo L G g).2 = p at *
      generalize n0 L G g p = m at *
      generalize n1 L G g p = n at *
      have W0 := Lib.hid (want0_le L g)
      have W1 := Lib.hid (want1_le L g m)
      have LM : Hid (lim G g = 9 + g - G) := Lib.hid rfl
      have X0 : Hid (num L (1 + 2 * g) 3 = ((want0 L g : Nat) : Int)) := Lib.hid (by have := num_range L (1 + 2 * g) 3 (by omega); unfold want0; omega)
      have HLW : Hid (∀ W, Below wg.heap.size wg W → IntRow W ⟨a, cap⟩ L) := Lib.hid (fun W hb => HL.out W (HS.out.step hb).gb)
      have Z0 : Hid (G0 wg.heap.size wg none 0 p 0 (wg.alloc (.cells #[.slice none 0 0, .slice none 0 0] 86))) := Lib.hid ⟨(Below.refl _ _).alloc (Nat.le_refl _) _, heap_alloc_new wg _, Owns.nil⟩
      have BS : Hid (∀ a c W, G0 wg.heap.size wg a c p m W → wg.heap.size + 1 ≤ W.heap.size) := Lib.hid (fun a c W h => (Array.getElem?_eq_some_iff.1 h.box).1)
      go_upto_region 7 with fail
      generalize wg.alloc (.cells #[.slice none 0 0, .slice none 0 0] 86) = w2 at Z0 ⊢
      generalize hBg : wg.heap.size = Bg at *
      go_wp2_with fail
      go_loopw [6, 9] (fun s k wk => ∃ q : Nat, q ≤ 2 ∧ k = .int .i64 q ∧ Mid Bg wg p m n q s wk) (fun _ k _ => 2 - (intOf k).toNat)
      case atStart => exact ⟨0, by omega, rfl, .inl ⟨rfl, rfl, Z0.out⟩⟩
      case round =>
        obtain ⟨q, hq, rfl, hmid⟩ := hrel
        rcases hmid with ⟨rfl, rfl, hm⟩ | ⟨rfl, rfl, a0, c0, hm⟩ | ⟨rfl, rfl, a0, c0, a1, c1, B1, hm⟩
        · have HM := Lib.hid hm
          clear hm
          rw [show ((0 : Nat) : Int) = (0 : Int) from rfl]
          go_wp2_with fail
          refine (from_at a cap L _ (1 + 2 * g) 3 (by go_num) wr (HLW.out _ HM.out.bel) (by go_num) (by omega) (by omega)).mono ?_
          rintro e w' ⟨rfl, rfl⟩
          rw [X0.out]
          generalize want0 L g = v at *
          go_wp2_with fail
          go_loopw [6, 11] (fun s i wk => ∃ j : Nat, j ≤ m ∧ i = .int .i64 j ∧ s = .int .i64 (p + j : Nat) ∧ ∃ aa cc, G0 Bg wg aa cc p j wk) (fun _ i _ => m - (intOf i).toNat)
          case atStart => exact ⟨0, by omega, by go_num, by go_num, _, _, HM.out⟩
          case round =>
            obtain ⟨j, hj, rfl, rfl, aa, cc, hm⟩ := hrel
            have HM := Lib.hid hm
            clear hm
            by_cases hjl : j < m
            · have h1 : (j : Int) < (v : Int) := by have := N0'.out; omega
              have h2 : ((p + j : Nat) : Int) < 8 - ((G : Int) - 1 - g) := by have := N0'.out; have := LM.out; omega
              have c8 : wr.cell? ⟨Bg, 0, none⟩ = some (.slice aa j cc) := by rw [cell_of_row _ _ _ _ _ _ HM.out.box]; rfl
              have hsz : Bg + 1 ≤ wr.heap.size := (Array.getElem?_eq_some_iff.1 HM.out.box).1
              have hown2 : wr.ownsRow (Bg + 1) 3 1 (.slice aa j cc) j ((seg (p) j).flatMap (fun n => [I n])) := by have := HM.out.own; unfold Owns at this; rw [seg_len] at this; exact this
              go_wp2_with (at_builtin; refine wpList_append_own _ rfl _ _ 47 rfl (Bg + 1) 3 i0 (.int .i64 0) 1 8 Tryd.underlying47 hi hz0 hz1 hz2 rfl (by decide) _ _ _ rfl (hown2.alloc _) ⟨wr.heap.size, 0, none⟩ 1 1 [.int .i64 ((p + j : Nat) : Int)] rfl rfl ?c1 ?c2 ?c3 ?c4 ?c5 ?_)
              case c1 =>
                intro m q hm
                match m, hm with
                | 0, hm => simp at hm; subst hm; simp [Addr.add]
              case c2 => intro q hq; simp at hq; subst hq; rfl
              case c3 => unfold maxLen; omega
              case c4 => omega
              case c5 => simp; omega
              intro v' w3 hown' hgrow hnil'
              obtain ⟨hbx, a', c', rfl, hG⟩ := (HM.out.step ((Below.refl _ _).alloc (Nat.le_refl _) _) (by omega)).put (by simp; omega) hgrow hown'
              have c3 : w3.cell? ⟨Bg, 0, none⟩ = some (.slice aa j cc) := by rw [cell_of_row _ _ _ _ _ _ hbx]; rfl
              have f3 : w3.frozen? ⟨Bg, 0, none⟩ = false := frozen_of_row _ _ _ _ _ hbx
              have HG := Lib.hid hG
              clear hown' hgrow hown2 hnil' hbx hG HM
              go_wp2
              go_roundw
              case rel => exact ⟨j + 1, by omega, by go_num, by go_num, a', c', HG.out⟩
              case measure => simp [intOf]; omega
            · have hje : j = m := by omega
              by_cases h1 : (j : Int) < (v : Int)
              · have h2 : ¬ ((p + j : Nat) : Int) < 8 - ((G : Int) - 1 - g) := by have := N0'.out; have := LM.out; omega
                go_wp2
                go_roundw
                case rel => exact ⟨1, by omega, by go_num, .inr (.inl ⟨rfl, by (try rw [hje]); go_num, aa, cc, by have := HM.out; rw [hje] at this; exact this⟩)⟩
                case measure => simp [intOf]
              · go_wp2
                go_roundw
                case rel => exact ⟨1, by omega, by go_num, .inr (.inl ⟨rfl, by (try rw [hje]); go_num, aa, cc, by have := HM.out; rw [hje] at this; exact this⟩)⟩
                case measure => simp [intOf]
        · have HM := Lib.hid hm
          have hb1 := BS.out _ _ _ hm
          clear hm
          rw [show ((1 : Nat) : Int) = (1 : Int) from rfl]
          have HM1 := Lib.hid (HM.out.next)
          generalize hB1 : wr.heap.size = B1 at *
          have c80 : wr.cell? ⟨Bg, 0, none⟩ = some (.slice a0 m c0) := by rw [cell_of_row _ _ _ _ _ _ HM.out.box]; rfl
          go_wp2_with fail
          refine (from_at a cap L _ (2 + 2 * g) 3 (by go_num) wr (HLW.out _ HM.out.bel) (by go_num) (by omega) (by omega)).mono ?_
          rintro e w' ⟨rfl, rfl⟩
          have hx1 := num_range L (2 + 2 * g) 3 (by omega)
          have WQ : Hid (want1 L g m = if num L (2 + 2 * g) 3 = 0 ∧ m = 0 then 1 else (num L (2 + 2 * g) 3).toNat) := Lib.hid rfl
          generalize num L (2 + 2 * g) 3 = x1 at *
          generalize want1 L g m = v at *
          clear hB1 HM
          by_cases hx0 : x1 = 0
          · subst hx0
            by_cases hm0 : m = 0
            · have hv : v = 1 := by rw [WQ.out]; simp [hm0]
              subst hm0
              subst hv
              clear WQ
              go_wp2_with fail
              go_loopw [6, 11] (fun s i wk => ∃ j : Nat, j ≤ n ∧ i = .int .i64 j ∧ s = .int .i64 ((p + 0) + j : Nat) ∧ ∃ aa cc, G1 Bg wg B1 a0 c0 p 0 aa cc j wk) (fun _ i _ => n - (intOf i).toNat)
              case atStart => exact ⟨0, by omega, by go_num, by go_num, _, _, HM1.out⟩
              case round =>
                obtain ⟨j, hj, rfl, rfl, aa, cc, hm⟩ := hrel
                have HM := Lib.hid hm
                clear hm
                by_cases hjl : j < n
                · have h1 : (j : Int) < 1 := by have := N1.out; omega
                  have h2 : (((p + 0) + j : Nat) : Int) < 8 - ((G : Int) - 1 - g) := by have := N1.out; have := LM.out; omega
                  have c8 : wr.cell? ⟨Bg, 1, none⟩ = some (.slice aa j cc) := by rw [cell_of_row _ _ _ _ _ _ HM.out.box]; rfl
                  have hsz : B1 ≤ wr.heap.size := HM.out.sz
                  have hown2 : wr.ownsRow (B1) 3 1 (.slice aa j cc) j ((seg ((p + 0)) j).flatMap (fun n => [I n])) := by have := HM.out.own1; unfold Owns at this; rw [seg_len] at this; exact this
                  go_wp2_with (at_builtin; refine wpList_append_own _ rfl _ _ 47 rfl (B1) 3 i0 (.int .i64 0) 1 8 Tryd.underlying47 hi hz0 hz1 hz2 rfl (by decide) _ _ _ rfl (hown2.alloc _) ⟨wr.heap.size, 0, none⟩ 1 1 [.int .i64 (((p + 0) + j : Nat) : Int)] rfl rfl ?c1 ?c2 ?c3 ?c4 ?c5 ?_)
                  case c1 =>
                    intro m q hm
                    match m, hm with
                    | 0, hm => simp at hm; subst hm; simp [Addr.add]
                  case c2 => intro q hq; simp at hq; subst hq; rfl
                  case c3 => unfold maxLen; omega
                  case c4 => omega
                  case c5 => simp; omega
                  intro v' w3 hown' hgrow hnil'
                  obtain ⟨hbx, a', c', rfl, hG⟩ := (HM.out.step ((Below.refl _ _).alloc (Nat.le_refl _) _) (by omega)).put (by omega) (by simp; omega) hgrow hown'
                  have c3 : w3.cell? ⟨Bg, 1, none⟩ = some (.slice aa j cc) := by rw [cell_of_row _ _ _ _ _ _ hbx]; rfl
                  have f3 : w3.frozen? ⟨Bg, 1, none⟩ = false := frozen_of_row _ _ _ _ _ hbx
                  have HG := Lib.hid hG
                  clear hown' hgrow hown2 hnil' hbx hG HM
                  go_wp2
                  go_roundw
                  case rel => exact ⟨j + 1, by omega, by go_num, by go_num, a', c', HG.out⟩
                  case measure => simp [intOf]; omega
                · have hje : j = n := by omega
                  by_cases h1 : (j : Int) < 1
                  · have h2 : ¬ (((p + 0) + j : Nat) : Int) < 8 - ((G : Int) - 1 - g) := by have := N1.out; have := LM.out; omega
                    go_wp2
                    go_roundw
                    case rel => exact ⟨2, by omega, by go_num, .inr (.inr ⟨rfl, by (try rw [hje]); go_num, a0, c0, aa, cc, B1, by have := HM.out; rw [hje] at this; exact this⟩)⟩
                    case measure => simp [intOf]
                  · go_wp2
                    go_roundw
                    case rel => exact ⟨2, by omega, by go_num, .inr (.inr ⟨rfl, by (try rw [hje]); go_num, a0, c0, aa, cc, B1, by have := HM.out; rw [hje] at this; exact this⟩)⟩
                    case measure => simp [intOf]
            · have hv : v = 0 := by rw [WQ.out]; simp [hm0]
              have hmb : ((m : Int) == 0) = false := by rw [beq_eq_false_iff_ne]; omega
              subst hv
              clear WQ
              go_wp2_with fail
              clear hmb hm0
              go_loopw [6, 11] (fun s i wk => ∃ j : Nat, j ≤ n ∧ i = .int .i64 j ∧ s = .int .i64 ((p + m) + j : Nat) ∧ ∃ aa cc, G1 Bg wg B1 a0 c0 p m aa cc j wk) (fun _ i _ => n - (intOf i).toNat)
              case atStart => exact ⟨0, by omega, by go_num, by go_num, _, _, HM1.out⟩
              case round =>
                obtain ⟨j, hj, rfl, rfl, aa, cc, hm⟩ := hrel
                have HM := Lib.hid hm
                clear hm
                by_cases hjl : j < n
                · exfalso; have := N1.out; omega
                · have hje : j = n := by omega
                  by_cases h1 : (j : Int) < 0
                  · exfalso; omega
                  · go_wp2
                    go_roundw
                    case rel => exact ⟨2, by omega, by go_num, .inr (.inr ⟨rfl, by (try rw [hje]); go_num, a0, c0, aa, cc, B1, by have := HM.out; rw [hje] at this; exact this⟩)⟩
                    case measure => simp [intOf]
          · have hv : x1 = (v : Int) := by have := WQ.out; rw [if_neg (fun e => hx0 e.1)] at this; omega
            have hmb : (x1 == 0) = false := by rw [beq_eq_false_iff_ne]; exact hx0
            clear WQ
            go_wp2_with fail
            subst hv
            clear hmb hx0 hx1
            go_loopw [6, 11] (fun s i wk => ∃ j : Nat, j ≤ n ∧ i = .int .i64 j ∧ s = .int .i64 ((p + m) + j : Nat) ∧ ∃ aa cc, G1 Bg wg B1 a0 c0 p m aa cc j wk) (fun _ i _ => n - (intOf i).toNat)
            case atStart => exact ⟨0, by omega, by go_num, by go_num, _, _, HM1.out⟩
            case round =>
              obtain ⟨j, hj, rfl, rfl, aa, cc, hm⟩ := hrel
              have HM := Lib.hid hm
              clear hm
              by_cases hjl : j < n
              · have h1 : (j : Int) < (v : Int) := by have := N1.out; omega
                have h2 : (((p + m) + j : Nat) : Int) < 8 - ((G : Int) - 1 - g) := by have := N1.out; have := LM.out; omega
                have c8 : wr.cell? ⟨Bg, 1, none⟩ = some (.slice aa j cc) := by rw [cell_of_row _ _ _ _ _ _ HM.out.box]; rfl
                have hsz : B1 ≤ wr.heap.size := HM.out.sz
                have hown2 : wr.ownsRow (B1) 3 1 (.slice aa j cc) j ((seg ((p + m)) j).flatMap (fun n => [I n])) := by have := HM.out.own1; unfold Owns at this; rw [seg_len] at this; exact this
                go_wp2_with (at_builtin; refine wpList_append_own _ rfl _ _ 47 rfl (B1) 3 i0 (.int .i64 0) 1 8 Tryd.underlying47 hi hz0 hz1 hz2 rfl (by decide) _ _ _ rfl (hown2.alloc _) ⟨wr.heap.size, 0, none⟩ 1 1 [.int .i64 (((p + m) + j : Nat) : Int)] rfl rfl ?c1 ?c2 ?c3 ?c4 ?c5 ?_)
                case c1 =>
                  intro m q hm
                  match m, hm with
                  | 0, hm => simp at hm; subst hm; simp [Addr.add]
                case c2 => intro q hq; simp at hq; subst hq; rfl
                case c3 => unfold maxLen; omega
                case c4 => omega
                case c5 => simp; omega
                intro v' w3 hown' hgrow hnil'
                obtain ⟨hbx, a', c', rfl, hG⟩ := (HM.out.step ((Below.refl _ _).alloc (Nat.le_refl _) _) (by omega)).put (by omega) (by simp; omega) hgrow hown'
                have c3 : w3.cell? ⟨Bg, 1, none⟩ = some (.slice aa j cc) := by rw [cell_of_row _ _ _ _ _ _ hbx]; rfl
                have f3 : w3.frozen? ⟨Bg, 1, none⟩ = false := frozen_of_row _ _ _ _ _ hbx
                have HG := Lib.hid hG
                clear hown' hgrow hown2 hnil' hbx hG HM
                go_wp2
                go_roundw
                case rel => exact ⟨j + 1, by omega, by go_num, by go_num, a', c', HG.out⟩
                case measure => simp [intOf]; omega
              · have hje : j = n := by omega
                by_cases h1 : (j : Int) < (v : Int)
                · have h2 : ¬ (((p + m) + j : Nat) : Int) < 8 - ((G : Int) - 1 - g) := by have := N1.out; have := LM.out; omega
                  go_wp2
                  go_roundw
                  case rel => exact ⟨2, by omega, by go_num, .inr (.inr ⟨rfl, by (try rw [hje]); go_num, a0, c0, aa, cc, B1, by have := HM.out; rw [hje] at this; exact this⟩)⟩
                  case measure => simp [intOf]
                · go_wp2
                  go_roundw
                  case rel => exact ⟨2, by omega, by go_num, .inr (.inr ⟨rfl, by (try rw [hje]); go_num, a0, c0, aa, cc, B1, by have := HM.out; rw [hje] at this; exact this⟩)⟩
                  case measure => simp [intOf]
        · have HM := Lib.hid hm
          clear hm
          rw [show ((2 : Nat) : Int) = (2 : Int) from rfl]
          have HG1 := Lib.hid (HS.out.step (show Below wg.heap.size wg wr by rw [hBg]; exact HM.out.bel))
          go_upto_region 18 with fail
          refine wp_region_held (S := fun _ => True) (by kernel_rfl) ?_
          have hS : True := trivial
          have hgs : GS w tb cs ga gc g gs { wr with drawn := wr.drawn + 1 } := HG1.out.step (Below.refl _ _).drew
          have hg1 : G1 Bg wg B1 a0 c0 p m a1 c1 n { wr with drawn := wr.drawn + 1 } := HM.out.step (Below.refl _ _).drew (by rw [← hBg]; exact HM.out.bel.size)
          generalize ({ wr with drawn := wr.drawn + 1 } : World) = v at hgs hg1 ⊢
          clear HG1 HM HS
          refine Held.take (i := 0) (some 67) rfl (v := ?_) rfl (by kernel_rfl) (by kernel_rfl) (by kernel_rfl) (fun _ _ _ h => h) (Or.inl ⟨by rfl, ?_⟩) hS ?_
          rotate_left
          · intro w' hw'
            go_simp
            try with_reducible rfl
          (try dsimp only [Act.put]); (try simp only [List.setIfInBounds_toArray, List.set_cons_zero, List.set_cons_succ])
          refine Held.take (i := 1) (some 68) rfl (v := ?_) rfl (by kernel_rfl) (by kernel_rfl) (by kernel_rfl) (fun _ _ _ h => h) (Or.inl ⟨by rfl, ?_⟩) hS ?_
          rotate_left
          · intro w' hw'
            go_simp
            try with_reducible rfl
          (try dsimp only [Act.put]); (try simp only [List.setIfInBounds_toArray, List.set_cons_zero, List.set_cons_succ])
          refine Held.take (i := 2) (some 69) rfl (v := ?_) rfl (by kernel_rfl) (by kernel_rfl) (by kernel_rfl) (fun _ _ _ h => h) (Or.inl ⟨by rfl, ?_⟩) hS ?_
          rotate_left
          · intro w' hw'
            go_simp
            try with_reducible rfl
          (try dsimp only [Act.put]); (try simp only [List.setIfInBounds_toArray, List.set_cons_zero, List.set_cons_succ])
          refine Held.take (i := 3) (some 70) rfl (v := ?_) rfl (by kernel_rfl) (by kernel_rfl) (by kernel_rfl) (fun _ _ _ h => h) (Or.inl ⟨by rfl, ?_⟩) hS ?_
          rotate_left
          · intro w' hw'
            go_simp
            try with_reducible rfl
          (try dsimp only [Act.put]); (try simp only [List.setIfInBounds_toArray, List.set_cons_zero, List.set_cons_succ])
          refine wpAnyH_ready (rs := [4, 5]) (by kernel_rfl) (by simp) (AllReadyH.cons rfl (fun K hK => ?_) (AllReadyH.cons rfl (fun K hK => ?_) AllReadyH.nil))
          · have c4 : v.cell? ⟨tb, 104, none⟩ = some (.slice ga g gc) := by rw [cell_of_row _ _ _ _ _ _ hgs.tbk]; simp [hc]
            go_simp
            refine hK.out _ _ trivial (fun _ => ?_)
            clear hK K c4
            refine wpAnyH_ready (rs := [5]) (by kernel_rfl) (by simp) (AllReadyH.cons rfl (fun K hK => ?_) AllReadyH.nil)
            rw [if_pos (by rfl)]
            refine Row.wp_load_lies 86 _ rfl ⟨Bg, 0, none⟩ rfl [.slice a0 m c0, .slice a1 n c1] _ (Row.lies_of_block hg1.box) Tryd.underlying86 rfl infoG2 ?_
            (try dsimp only [Act.put]); (try simp only [List.setIfInBounds_toArray, List.set_cons_zero, List.set_cons_succ])
            refine hK.out _ _ trivial (fun _ => ?_)
            clear hK K
            refine wpAnyH_ready (rs := [6]) (by kernel_rfl) (by simp) (AllReadyH.cons rfl (fun K hK => ?_) AllReadyH.nil)
            go_simp
            have hbw : Below v.heap.size v (v.alloc (.cells #[.slice a0 m c0, .slice a1 n c1] 86)) := (Below.refl _ _).alloc (Nat.le_refl _) _
            have hN := heap_alloc_new v (.cells #[.slice a0 m c0, .slice a1 n c1] 86)
            replace hgs := hgs.step hbw
            replace hg1 := hg1.step hbw (by have := hg1.bel.size; omega)
            clear hbw
            generalize hbn : v.heap.size = bn at hN ⊢
            clear hbn
            generalize World.alloc v (.cells #[.slice a0 m c0, .slice a1 n c1] 86) = v at hgs hg1 hN ⊢
            refine hK.out _ _ trivial (fun _ => ?_)
            clear hK K
            refine wpAnyH_ready (rs := [7]) (by kernel_rfl) (by simp) (AllReadyH.cons rfl (fun K hK => ?_) AllReadyH.nil)
            rw [if_pos (by rfl)]
            have hown2 : v.ownsRow w.heap.size 86 2 (.slice ga g gc) g (gs.flatMap Gr.cells) := by have := hgs.own; unfold Owns at this; rw [hgs.len] at this; exact this
            refine wp_append_own _ _ _ _ rfl w.heap.size 86 j0 (.agg #[.slice none 0 0, .slice none 0 0]) 2 48 Tryd.underlying25 hj hy0 hy1 hy2 rfl (by decide) (.slice ga g gc) g _ rfl hown2 ⟨bn, 0, none⟩ 1 1 [.slice a0 m c0, .slice a1 n c1] rfl rfl ?c1 ?c2 ?c3 ?c4 hgs.gb.size ?_
            case c1 =>
              intro j e hj
              match j, hj with
              | 0, hj => simp at hj; subst hj; rw [Tab.add_zero, cell_of_row _ _ _ _ _ _ hN]; rfl
              | 1, hj => simp at hj; subst hj; rw [Tab.add_one, cell_of_row _ _ _ _ _ _ hN]; rfl
            case c2 => intro e he; simp at he; rcases he with rfl | rfl <;> rfl
            case c3 => unfold maxLen; omega
            case c4 => omega
            intro v' w5 hown' hgrow hnil'
            have hx : RowI v ⟨a0, c0⟩ (seg p m) ∧ RowI v ⟨a1, c1⟩ (seg (p + m) n) := by
              obtain ⟨s0, e0, r0⟩ := own_row hg1.own
              obtain ⟨s1, e1, r1⟩ := own_row hg1.own1
              simp only [Value.slice.injEq] at e0 e1
              obtain ⟨s0a, s0c⟩ := s0
              obtain ⟨s1a, s1c⟩ := s1
              obtain ⟨rfl, _, rfl⟩ := e0
              obtain ⟨rfl, _, rfl⟩ := e1
              exact ⟨r0, r1⟩
            obtain ⟨hbx, a', c', rfl, hG⟩ := hgs.put ⟨seg p m, seg (p + m) n, ⟨a0, c0⟩, ⟨a1, c1⟩⟩ hx hgrow hc (by rw [show (Gr.mk (seg p m) (seg (p + m) n) ⟨a0, c0⟩ ⟨a1, c1⟩).cells = [.slice a0 m c0, .slice a1 n c1] from by simp [Gr.cells, Sl.val, seg_len]]; exact hown')
            have c104 : w5.cell? ⟨tb, 104, none⟩ = some (.slice ga g gc) := by rw [cell_of_row _ _ _ _ _ _ hbx]; simp [hc]
            have f104 : w5.frozen? ⟨tb, 104, none⟩ = false := frozen_of_row _ _ _ _ _ hbx
            have HG := Lib.hid hG
            clear hown' hgrow hown2 hnil' hbx hG hgs hg1 hN hx
            refine hK.out _ _ trivial (fun _ => ?_)
            clear hK K
            refine Held.take (i := 8) (some 75) rfl (v := ?_) rfl (by kernel_rfl) (by kernel_rfl) (by kernel_rfl) (fun _ _ _ h => h) (Or.inl ⟨by rfl, ?_⟩) hS ?_
            rotate_left
            · intro w' hw'
              go_simp
              try with_reducible rfl
            (try dsimp only [Act.put]); (try simp only [List.setIfInBounds_toArray, List.set_cons_zero, List.set_cons_succ])
            refine Held.take (i := 9) (some 76) rfl (v := ?_) rfl (by kernel_rfl) (by kernel_rfl) (by kernel_rfl) (fun _ _ _ h => h) (Or.inl ⟨by rfl, ?_⟩) hS ?_
            rotate_left
            · intro w' hw'
              go_simp
              try with_reducible rfl
            (try dsimp only [Act.put]); (try simp only [List.setIfInBounds_toArray, List.set_cons_zero, List.set_cons_succ])
            refine wpAnyH_ready (rs := [10]) (by kernel_rfl) (by simp) (AllReadyH.cons rfl (fun K hK => ?_) AllReadyH.nil)
            go_simp
            refine hK.out _ _ trivial (fun _ => ?_)
            clear hK K
            refine wpAnyH_done (by kernel_rfl) ?_ _
            have HE : Hid (upTo L G (g + 1) = ((upTo L G g).1 ++ [(seg p m, seg (p + m) n)], p + m + n)) := Lib.hid (by rw [UN.out, GD.out])
            have HD2 : Hid ((gs ++ [Gr.mk (seg p m) (seg (p + m) n) ⟨a0, c0⟩ ⟨a1, c1⟩]).map Gr.data = (upTo L G (g + 1)).1) := Lib.hid (by rw [List.map_append, HD.out, HE.out]; simp [Gr.data])
            have HP2 : Hid ((upTo L G (g + 1)).2 = p + m + n) := Lib.hid (by rw [HE.out])
            clear hS c104 f104
            go_wp2
            go_roundw
            case rel => exact ⟨g + 1, by omega, by go_num, by rw [HP2.out]; go_num, a', c', _, HD2.out, HG.out⟩
            case measure => simp [intOf]; omega
          · rw [if_pos (by rfl)]
            refine Row.wp_load_lies 86 _ rfl ⟨Bg, 0, none⟩ rfl [.slice a0 m c0, .slice a1 n c1] _ (Row.lies_of_block hg1.box) Tryd.underlying86 rfl infoG2 ?_
            (try dsimp only [Act.put]); (try simp only [List.setIfInBounds_toArray, List.set_cons_zero, List.set_cons_succ])
            refine hK.out _ _ trivial (fun _ => ?_)
            clear hK K
            refine wpAnyH_ready (rs := [4, 6]) (by kernel_rfl) (by simp) (AllReadyH.cons rfl (fun K hK => ?_) (AllReadyH.cons rfl (fun K hK => ?_) AllReadyH.nil))
            · have c4 : v.cell? ⟨tb, 104, none⟩ = some (.slice ga g gc) := by rw [cell_of_row _ _ _ _ _ _ hgs.tbk]; simp [hc]
              go_simp
              refine hK.out _ _ trivial (fun _ => ?_)
              clear hK K c4
              refine wpAnyH_ready (rs := [6]) (by kernel_rfl) (by simp) (AllReadyH.cons rfl (fun K hK => ?_) AllReadyH.nil)
              go_simp
              have hbw : Below v.heap.size v (v.alloc (.cells #[.slice a0 m c0, .slice a1 n c1] 86)) := (Below.refl _ _).alloc (Nat.le_refl _) _
              have hN := heap_alloc_new v (.cells #[.slice a0 m c0, .slice a1 n c1] 86)
              replace hgs := hgs.step hbw
              replace hg1 := hg1.step hbw (by have := hg1.bel.size; omega)
              clear hbw
              generalize hbn : v.heap.size = bn at hN ⊢
              clear hbn
              generalize World.alloc v (.cells #[.slice a0 m c0, .slice a1 n c1] 86) = v at hgs hg1 hN ⊢
              refine hK.out _ _ trivial (fun _ => ?_)
              clear hK K
              refine wpAnyH_ready (rs := [7]) (by kernel_rfl) (by simp) (AllReadyH.cons rfl (fun K hK => ?_) AllReadyH.nil)
              rw [if_pos (by rfl)]
              have hown2 : v.ownsRow w.heap.size 86 2 (.slice ga g gc) g (gs.flatMap Gr.cells) := by have := hgs.own; unfold Owns at this; rw [hgs.len] at this; exact this
              refine wp_append_own _ _ _ _ rfl w.heap.size 86 j0 (.agg #[.slice none 0 0, .slice none 0 0]) 2 48 Tryd.underlying25 hj hy0 hy1 hy2 rfl (by decide) (.slice ga g gc) g _ rfl hown2 ⟨bn, 0, none⟩ 1 1 [.slice a0 m c0, .slice a1 n c1] rfl rfl ?c1 ?c2 ?c3 ?c4 hgs.gb.size ?_
              case c1 =>
                intro j e hj
                match j, hj with
                | 0, hj => simp at hj; subst hj; rw [Tab.add_zero, cell_of_row _ _ _ _ _ _ hN]; rfl
                | 1, hj => simp at hj; subst hj; rw [Tab.add_one, cell_of_row _ _ _ _ _ _ hN]; rfl
              case c2 => intro e he; simp at he; rcases he with rfl | rfl <;> rfl
              case c3 => unfold maxLen; omega
              case c4 => omega
              intro v' w5 hown' hgrow hnil'
              have hx : RowI v ⟨a0, c0⟩ (seg p m) ∧ RowI v ⟨a1, c1⟩ (seg (p + m) n) := by
                obtain ⟨s0, e0, r0⟩ := own_row hg1.own
                obtain ⟨s1, e1, r1⟩ := own_row hg1.own1
                simp only [Value.slice.injEq] at e0 e1
                obtain ⟨s0a, s0c⟩ := s0
                obtain ⟨s1a, s1c⟩ := s1
                obtain ⟨rfl, _, rfl⟩ := e0
                obtain ⟨rfl, _, rfl⟩ := e1
                exact ⟨r0, r1⟩
              obtain ⟨hbx, a', c', rfl, hG⟩ := hgs.put ⟨seg p m, seg (p + m) n, ⟨a0, c0⟩, ⟨a1, c1⟩⟩ hx hgrow hc (by rw [show (Gr.mk (seg p m) (seg (p + m) n) ⟨a0, c0⟩ ⟨a1, c1⟩).cells = [.slice a0 m c0, .slice a1 n c1] from by simp [Gr.cells, Sl.val, seg_len]]; exact hown')
              have c104 : w5.cell? ⟨tb, 104, none⟩ = some (.slice ga g gc) := by rw [cell_of_row _ _ _ _ _ _ hbx]; simp [hc]
              have f104 : w5.frozen? ⟨tb, 104, none⟩ = false := frozen_of_row _ _ _ _ _ hbx
              have HG := Lib.hid hG
              clear hown' hgrow hown2 hnil' hbx hG hgs hg1 hN hx
              refine hK.out _ _ trivial (fun _ => ?_)
              clear hK K
              refine Held.take (i := 8) (some 75) rfl (v := ?_) rfl (by kernel_rfl) (by kernel_rfl) (by kernel_rfl) (fun _ _ _ h => h) (Or.inl ⟨by rfl, ?_⟩) hS ?_
              rotate_left
              · intro w' hw'
                go_simp
                try with_reducible rfl
              (try dsimp only [Act.put]); (try simp only [List.setIfInBounds_toArray, List.set_cons_zero, List.set_cons_succ])
              refine Held.take (i := 9) (some 76) rfl (v := ?_) rfl (by kernel_rfl) (by kernel_rfl) (by kernel_rfl) (fun _ _ _ h => h) (Or.inl ⟨by rfl, ?_⟩) hS ?_
              rotate_left
              · intro w' hw'
                go_simp
                try with_reducible rfl
              (try dsimp only [Act.put]); (try simp only [List.setIfInBounds_toArray, List.set_cons_zero, List.set_cons_succ])
              refine wpAnyH_ready (rs := [10]) (by kernel_rfl) (by simp) (AllReadyH.cons rfl (fun K hK => ?_) AllReadyH.nil)
              go_simp
              refine hK.out _ _ trivial (fun _ => ?_)
              clear hK K
              refine wpAnyH_done (by kernel_rfl) ?_ _
              have HE : Hid (upTo L G (g + 1) = ((upTo L G g).1 ++ [(seg p m, seg (p + m) n)], p + m + n)) := Lib.hid (by rw [UN.out, GD.out])
              have HD2 : Hid ((gs ++ [Gr.mk (seg p m) (seg (p + m) n) ⟨a0, c0⟩ ⟨a1, c1⟩]).map Gr.data = (upTo L G (g + 1)).1) := Lib.hid (by rw [List.map_append, HD.out, HE.out]; simp [Gr.data])
              have HP2 : Hid ((upTo L G (g + 1)).2 = p + m + n) := Lib.hid (by rw [HE.out])
              clear hS c104 f104
              go_wp2
              go_roundw
              case rel => exact ⟨g + 1, by omega, by go_num, by rw [HP2.out]; go_num, a', c', _, HD2.out, HG.out⟩
              case measure => simp [intOf]; omega
            · go_simp
              have hbw : Below v.heap.size v (v.alloc (.cells #[.slice a0 m c0, .slice a1 n c1] 86)) := (Below.refl _ _).alloc (Nat.le_refl _) _
              have hN := heap_alloc_new v (.cells #[.slice a0 m c0, .slice a1 n c1] 86)
              replace hgs := hgs.step hbw
              replace hg1 := hg1.step hbw (by have := hg1.bel.size; omega)
              clear hbw
              generalize hbn : v.heap.size = bn at hN ⊢
              clear hbn
              generalize World.alloc v (.cells #[.slice a0 m c0, .slice a1 n c1] 86) = v at hgs hg1 hN ⊢
              refine hK.out _ _ trivial (fun _ => ?_)
              clear hK K
              refine wpAnyH_ready (rs := [4]) (by kernel_rfl) (by simp) (AllReadyH.cons rfl (fun K hK => ?_) AllReadyH.nil)
              have c4 : v.cell? ⟨tb, 104, none⟩ = some (.slice ga g gc) := by rw [cell_of_row _ _ _ _ _ _ hgs.tbk]; simp [hc]
              go_simp
              refine hK.out _ _ trivial (fun _ => ?_)
              clear hK K c4
              refine wpAnyH_ready (rs := [7]) (by kernel_rfl) (by simp) (AllReadyH.cons rfl (fun K hK => ?_) AllReadyH.nil)
              rw [if_pos (by rfl)]
              have hown2 : v.ownsRow w.heap.size 86 2 (.slice ga g gc) g (gs.flatMap Gr.cells) := by have := hgs.own; unfold Owns at this; rw [hgs.len] at this; exact this
              refine wp_append_own _ _ _ _ rfl w.heap.size 86 j0 (.agg #[.slice none 0 0, .slice none 0 0]) 2 48 Tryd.underlying25 hj hy0 hy1 hy2 rfl (by decide) (.slice ga g gc) g _ rfl hown2 ⟨bn, 0, none⟩ 1 1 [.slice a0 m c0, .slice a1 n c1] rfl rfl ?c1 ?c2 ?c3 ?c4 hgs.gb.size ?_
              case c1 =>
                intro j e hj
                match j, hj with
                | 0, hj => simp at hj; subst hj; rw [Tab.add_zero, cell_of_row _ _ _ _ _ _ hN]; rfl
                | 1, hj => simp at hj; subst hj; rw [Tab.add_one, cell_of_row _ _ _ _ _ _ hN]; rfl
              case c2 => intro e he; simp at he; rcases he with rfl | rfl <;> rfl
              case c3 => unfold maxLen; omega
              case c4 => omega
              intro v' w5 hown' hgrow hnil'
              have hx : RowI v ⟨a0, c0⟩ (seg p m) ∧ RowI v ⟨a1, c1⟩ (seg (p + m) n) := by
                obtain ⟨s0, e0, r0⟩ := own_row hg1.own
                obtain ⟨s1, e1, r1⟩ := own_row hg1.own1
                simp only [Value.slice.injEq] at e0 e1
                obtain ⟨s0a, s0c⟩ := s0
                obtain ⟨s1a, s1c⟩ := s1
                obtain ⟨rfl, _, rfl⟩ := e0
                obtain ⟨rfl, _, rfl⟩ := e1
                exact ⟨r0, r1⟩
              obtain ⟨hbx, a', c', rfl, hG⟩ := hgs.put ⟨seg p m, seg (p + m) n, ⟨a0, c0⟩, ⟨a1, c1⟩⟩ hx hgrow hc (by rw [show (Gr.mk (seg p m) (seg (p + m) n) ⟨a0, c0⟩ ⟨a1, c1⟩).cells = [.slice a0 m c0, .slice a1 n c1] from by simp [Gr.cells, Sl.val, seg_len]]; exact hown')
              have c104 : w5.cell? ⟨tb, 104, none⟩ = some (.slice ga g gc) := by rw [cell_of_row _ _ _ _ _ _ hbx]; simp [hc]
              have f104 : w5.frozen? ⟨tb, 104, none⟩ = false := frozen_of_row _ _ _ _ _ hbx
              have HG := Lib.hid hG
              clear hown' hgrow hown2 hnil' hbx hG hgs hg1 hN hx
              refine hK.out _ _ trivial (fun _ => ?_)
              clear hK K
              refine Held.take (i := 8) (some 75) rfl (v := ?_) rfl (by kernel_rfl) (by kernel_rfl) (by kernel_rfl) (fun _ _ _ h => h) (Or.inl ⟨by rfl, ?_⟩) hS ?_
              rotate_left
              · intro w' hw'
                go_simp
                try with_reducible rfl
              (try dsimp only [Act.put]); (try simp only [List.setIfInBounds_toArray, List.set_cons_zero, List.set_cons_succ])
              refine Held.take (i := 9) (some 76) rfl (v := ?_) rfl (by kernel_rfl) (by kernel_rfl) (by kernel_rfl) (fun _ _ _ h => h) (Or.inl ⟨by rfl, ?_⟩) hS ?_
              rotate_left
              · intro w' hw'
                go_simp
                try with_reducible rfl
              (try dsimp only [Act.put]); (try simp only [List.setIfInBounds_toArray, List.set_cons_zero, List.set_cons_succ])
              refine wpAnyH_ready (rs := [10]) (by kernel_rfl) (by simp) (AllReadyH.cons rfl (fun K hK => ?_) AllReadyH.nil)
              go_simp
              refine hK.out _ _ trivial (fun _ => ?_)
              clear hK K
              refine wpAnyH_done (by kernel_rfl) ?_ _
              have HE : Hid (upTo L G (g + 1) = ((upTo L G g).1 ++ [(seg p m, seg (p + m) n)], p + m + n)) := Lib.hid (by rw [UN.out, GD.out])
              have HD2 : Hid ((gs ++ [Gr.mk (seg p m) (seg (p + m) n) ⟨a0, c0⟩ ⟨a1, c1⟩]).map Gr.data = (upTo L G (g + 1)).1) := Lib.hid (by rw [List.map_append, HD.out, HE.out]; simp [Gr.data])
              have HP2 : Hid ((upTo L G (g + 1)).2 = p + m + n) := Lib.hid (by rw [HE.out])
              clear hS c104 f104
              go_wp2
              go_roundw
              case rel => exact ⟨g + 1, by omega, by go_num, by rw [HP2.out]; go_num, a', c', _, HD2.out, HG.out⟩
              case measure => simp [intOf]; omega
    · have hge : g = G := by omega
      subst hge
      have HN : Hid ((upTo L g g).2 = rn) := Lib.hid N0.out.symm
      have HDD : Hid (gs.map Gr.data = rg) := Lib.hid (by rw [HD.out, D0.out])
      rw [HN.out]
      clear hlt
      go_wp2
      go_ret
      exact ⟨ga, gc, gs, rfl, HDD.out, HS.out⟩
end GenG
namespace GenT
open Go.ChangeShapes Go.WideShapes Go.ChangeAt Go.RowKit
open Tab Gath GenG Clone PlaceM CodeAt
open RefS (num num_range from_any)
theorem Bx.store_ph {w W : World} {hd : Hd} {T : Tab} (h : Bx w hd T W) (p : Nat) (hp : p < 8) (x : Ph) :
    ∃ W', Sem.run Tryd.prog (storeCells ⟨w.heap.size + 1, p * 13, none⟩ x.cells) W = .ok () W' ∧ Bx w hd { T with phases := T.phases.set p x } W' := by
  have hl := cells_cut hd h.ph h.cf h.fl
  have hr := run_storeCells_at Tryd.prog (w.heap.size + 1) (p * 13) 31 x.cells 0 (T.cells hd).toArray W h.blk (by simp [hl, Ph.cells]; omega) (fun v hv => (Array.all_eq_true_iff_forall_mem.1 (Ph.one x)) v (by simpa using hv))
  simp only [Nat.add_zero] at hr
  refine ⟨_, hr, h.write (setRow_grown _ _ _ h.size) ?_ (by simp [h.ph]) h.cf h.fl rfl rfl rfl rfl⟩
  rw [setRow_heap _ _ _ _ _ _ h.blk, ← cells_phase hd h.ph p hp x, Nat.mul_comm 13 p]
  rfl
theorem loop_ph {Q : Exit → Act → World → Prop} (a : Option Addr) (cap : Nat) (L : List Int) (w W0 : World) (hd : Hd) (T : Tab) (n : Nat) (hn : n ≤ 8) {f1 f6 f7 f8 f9 f10 f11 f12 f13 f14 f15 f16 f17 f18 f19 f20 f21 f22 f23 f24 f25 f26 f27 f28 f29 f30 f31 f32 f33 f34 f35 f36 f37 f38 f39 f40 f41 f42 f43 f44 f45 f46 f47 f48 f49 f50 f51 f52 f53 f54 f55 f56 f57 f58 f59 f60 f61 f62 f63 f64 f65 f66 f67 f68 f69 f70 f71 f72 f73 f74 f75 f76 f77 f78 f79 f80 f81 f82 f83 f84 f85 f86 f87 f88 f89 f90 f91 f92 f93 f94 f95 f96 f97 f98 f99 f100 f101 f102 f103 f104 f105 f106 f107 f108 f109 f110 f111 f112 f113 f114 f115 f116 f117 f118 f119 f120 f121 f122 f123 f124 f125 f126 f127 f128 f129 f130 f131 f132 f133 f134 f135 f136 f137 f138 f139 f140 f141 f142 f143 f144 f145 f146 f147 f148 f149 f150 f151 f152 f153 f154 f155 f156 f157 f158 f159 f160 f161 f162 f163 f164 f165 f166 f167 f168 f169 f170 f171 f172 f173 f174 f175 f176 f177 f178 f179 f180 f181 f182 f183 f184 f185 : Value}
    (HL : Hid (∀ W, Below w.heap.size w W → IntRow W ⟨a, cap⟩ L)) (BX : Hid (Bx w hd { T with phases := upd (fun p => GenP.genPh L (10 + 12 * p)) zPh 0, flash := upd (fun _ => 1) 0 0 } W0))
    (HP : ∀ c a d v w, Q (.panic c) (a.put d v) w → Q (.panic c) a w) (HQ : Hid (∀ (x5 x15 x16 x17 x18 x19 x20 x21 x22 x23 x24 x25 x26 x27 x28 x29 x30 : Value) (W' : World), Bx w hd { T with phases := upd (fun p => GenP.genPh L (10 + 12 * p)) zPh n, flash := upd (fun _ => 1) 0 n } W' → Q (.exit 0) ⟨#[Value.slice a L.length cap, f1, Value.pointer (some ⟨w.heap.size, 0, none⟩), Value.pointer (some ⟨w.heap.size + 1, 0, none⟩), Value.int .i64 (n : Nat), x5, f6, f7, f8, f9, f10, f11, f12, f13, f14, x15, x16, x17, x18, x19, x20, x21, x22, x23, x24, x25, x26, x27, x28, x29, x30, f31, f32, f33, f34, f35, f36, f37, f38, f39, f40, f41, f42, f43, f44, f45, f46, f47, f48, f49, f50, f51, f52, f53, f54, f55, f56, f57, f58, f59, f60, f61, f62, f63, f64, f65, f66, f67, f68, f69, f70, f71, f72, f73, f74, f75, f76, f77, f78, f79, f80, f81, f82, f83, f84, f85, f86, f87, f88, f89, f90, f91, f92, f93, f94, f95, f96, f97, f98, f99, f100, f101, f102, f103, f104, f105, f106, f107, f108, f109, f110, f111, f112, f113, f114, f115, f116, f117, f118, f119, f120, f121, f122, f123, f124, f125, f126, f127, f128, f129, f130, f131, f132, f133, f134, f135, f136, f137, f138, f139, f140, f141, f142, f143, f144, f145, f146, f147, f148, f149, f150, f151, f152, f153, f154, f155, f156, f157, f158, f159, f160, f161, f162, f163, f164, f165, f166, f167, f168, f169, f170, f171, f172, f173, f174, f175, f176, f177, f178, f179, f180, f181, f182, f183, f184, f185], []⟩ W')) :
    (lp 4 Tryd.f18).wp Tryd.prog Q ⟨#[Value.slice a L.length cap, f1, Value.pointer (some ⟨w.heap.size, 0, none⟩), Value.pointer (some ⟨w.heap.size + 1, 0, none⟩), Value.int .i64 (n : Nat), Value.int .i64 0, f6, f7, f8, f9, f10, f11, f12, f13, f14, f15, f16, f17, f18, f19, f20, f21, f22, f23, f24, f25, f26, f27, f28, f29, f30, f31, f32, f33, f34, f35, f36, f37, f38, f39, f40, f41, f42, f43, f44, f45, f46, f47, f48, f49, f50, f51, f52, f53, f54, f55, f56, f57, f58, f59, f60, f61, f62, f63, f64, f65, f66, f67, f68, f69, f70, f71, f72, f73, f74, f75, f76, f77, f78, f79, f80, f81, f82, f83, f84, f85, f86, f87, f88, f89, f90, f91, f92, f93, f94, f95, f96, f97, f98, f99, f100, f101, f102, f103, f104, f105, f106, f107, f108, f109, f110, f111, f112, f113, f114, f115, f116, f117, f118, f119, f120, f121, f122, f123, f124, f125, f126, f127, f128, f129, f130, f131, f132, f133, f134, f135, f136, f137, f138, f139, f140, f141, f142, f143, f144, f145, f146, f147, f148, f149, f150, f151, f152, f153, f154, f155, f156, f157, f158, f159, f160, f161, f162, f163, f164, f165, f166, f167, f168, f169, f170, f171, f172, f173, f174, f175, f176, f177, f178, f179, f180, f181, f182, f183, f184, f185], []⟩ W0 := by
  conv => arg 2; whnf
  dsimp only
  go_loopw [5] (fun i wr => ∃ q : Nat, q ≤ n ∧ i = .int .i64 q ∧ Bx w hd { T with phases := upd (fun p => GenP.genPh L (10 + 12 * p)) zPh q, flash := upd (fun _ => 1) 0 q } wr) (fun i _ => n - (intOf i).toNat)
  case atStart => exact ⟨0, by omega, rfl, BX.out⟩
  case round =>
    obtain ⟨q, hq, rfl, hbx⟩ := hrel
    have HB := Lib.hid hbx
    clear hbx BX
    by_cases hlt : q < n
    · go_wp2_with fail
      refine (GenP.phase_any a cap L _ _ (HL.out _ HB.out.bel) (by go_num) (by go_num)).mono ?_
      rintro e w2 ⟨rfl, hb⟩
      obtain ⟨w3, hst, hB3⟩ := (HB.out.step hb).store_ph q (by omega) (GenP.genPh L (10 + 12 * q))
      have HB3 := Lib.hid hB3
      clear hb hB3 HB
      go_upto_region 7 with fail
      have e1 : (upd (fun p => GenP.genPh L (10 + 12 * p)) zPh q).set q (GenP.genPh L (10 + 12 * q)) = upd (fun p => GenP.genPh L (10 + 12 * p)) zPh (q + 1) := upd_succ _ _ _
      have e2 : (upd (fun _ => (1 : Int)) 0 q).set q 1 = upd (fun _ => 1) 0 (q + 1) := upd_succ _ _ _
      have hs := HB3.out.set (121 + q) (I 1) (cells_flash hd HB3.out.ph HB3.out.cf HB3.out.fl q (by omega) 1) HB3.out.ph HB3.out.cf (by simp [upd_len]) rfl rfl rfl rfl
      have c7 : w3.cell? ⟨w.heap.size + 1, 121 + q, none⟩ = some (I 0) := by
        have h1 := (range_of HB3.out.blk 121 8 _ (cells_ok HB3.out.tab).flash) q _ (by rw [List.getElem?_map, upd_at _ _ _ _ (by omega), if_neg (by omega)]; rfl)
        exact h1
      have f7 := HB3.out.frozen (121 + q)
      dsimp only at hs
      rw [e1, e2] at hs
      have HS := Lib.hid hs
      clear hs e1 e2 HB3
      go_wp2
      go_roundw
      case rel => exact ⟨q + 1, by omega, by go_num, HS.out⟩
      case measure => simp [intOf]; omega
    · have hqe : q = n := by omega
      subst hqe
      go_wp2
      exact HQ.out _ _ _ _ _ _ _ _ _ _ _ _ _ _ _ _ _ _ HB.out
end GenT
namespace GenT
open Go.ChangeShapes Go.WideShapes Go.ChangeAt Go.RowKit
open Tab Gath GenG Clone PlaceM CodeAt
open RefS (num num_range from_any)
theorem loop_cf {Q : Exit → Act → World → Prop} (a : Option Addr) (cap : Nat) (L : List Int) (w W0 : World) (hd : Hd) (T : Tab) (n : Nat) (hn : n ≤ 8) (sm : Few T) {f1 f5 f7 f8 f9 f10 f11 f12 f13 f14 f15 f16 f17 f18 f19 f20 f21 f22 f23 f24 f25 f26 f27 f28 f29 f30 f31 f32 f33 f34 f35 f36 f37 f38 f39 f40 f41 f42 f43 f44 f45 f46 f47 f48 f49 f50 f51 f52 f53 f54 f55 f56 f57 f58 f59 f60 f61 f62 f63 f64 f65 f66 f67 f68 f69 f70 f71 f72 f73 f74 f75 f76 f77 f78 f79 f80 f81 f82 f83 f84 f85 f86 f87 f88 f89 f90 f91 f92 f93 f94 f95 f96 f97 f98 f99 f100 f101 f102 f103 f104 f105 f106 f107 f108 f109 f110 f111 f112 f113 f114 f115 f116 f117 f118 f119 f120 f121 f122 f123 f124 f125 f126 f127 f128 f129 f130 f131 f132 f133 f134 f135 f136 f137 f138 f139 f140 f141 f142 f143 f144 f145 f146 f147 f148 f149 f150 f151 f152 f153 f154 f155 f156 f157 f158 f159 f160 f161 f162 f163 f164 f165 f166 f167 f168 f169 f170 f171 f172 f173 f174 f175 f176 f177 f178 f179 f180 f181 f182 f183 f184 f185 : Value}
    (HL : Hid (∀ W, Below w.heap.size w W → IntRow W ⟨a, cap⟩ L)) (BX : Hid (Bx w hd T W0))
    (HP : ∀ c a d v w, Q (.panic c) (a.put d v) w → Q (.panic c) a w) (HQ : Hid (∀ (x6 x7 x31 x32 x33 x34 x35 x36 x37 x38 x39 x40 x41 x42 x43 x44 x45 x46 x47 x48 x49 x50 x51 x52 x53 x54 x55 x56 x57 x58 x59 x60 x61 x62 x63 x64 x65 x66 x67 x68 x69 x70 x71 x72 x73 : Value) (W' : World), Bx w hd { T with conflict := call L T T.conflict n } W' → Q (.exit 2) ⟨#[Value.slice a L.length cap, f1, Value.pointer (some ⟨w.heap.size, 0, none⟩), Value.pointer (some ⟨w.heap.size + 1, 0, none⟩), Value.int .i64 (n : Nat), f5, x6, x7, f8, f9, f10, f11, f12, f13, f14, f15, f16, f17, f18, f19, f20, f21, f22, f23, f24, f25, f26, f27, f28, f29, f30, x31, x32, x33, x34, x35, x36, x37, x38, x39, x40, x41, x42, x43, x44, x45, x46, x47, x48, x49, x50, x51, x52, x53, x54, x55, x56, x57, x58, x59, x60, x61, x62, x63, x64, x65, x66, x67, x68, x69, x70, x71, x72, x73, f74, f75, f76, f77, f78, f79, f80, f81, f82, f83, f84, f85, f86, f87, f88, f89, f90, f91, f92, f93, f94, f95, f96, f97, f98, f99, f100, f101, f102, f103, f104, f105, f106, f107, f108, f109, f110, f111, f112, f113, f114, f115, f116, f117, f118, f119, f120, f121, f122, f123, f124, f125, f126, f127, f128, f129, f130, f131, f132, f133, f134, f135, f136, f137, f138, f139, f140, f141, f142, f143, f144, f145, f146, f147, f148, f149, f150, f151, f152, f153, f154, f155, f156, f157, f158, f159, f160, f161, f162, f163, f164, f165, f166, f167, f168, f169, f170, f171, f172, f173, f174, f175, f176, f177, f178, f179, f180, f181, f182, f183, f184, f185], []⟩ W')) :
    (lp 9 Tryd.f18).wp Tryd.prog Q ⟨#[Value.slice a L.length cap, f1, Value.pointer (some ⟨w.heap.size, 0, none⟩), Value.pointer (some ⟨w.heap.size + 1, 0, none⟩), Value.int .i64 (n : Nat), f5, Value.int .i64 0, f7, f8, f9, f10, f11, f12, f13, f14, f15, f16, f17, f18, f19, f20, f21, f22, f23, f24, f25, f26, f27, f28, f29, f30, f31, f32, f33, f34, f35, f36, f37, f38, f39, f40, f41, f42, f43, f44, f45, f46, f47, f48, f49, f50, f51, f52, f53, f54, f55, f56, f57, f58, f59, f60, f61, f62, f63, f64, f65, f66, f67, f68, f69, f70, f71, f72, f73, f74, f75, f76, f77, f78, f79, f80, f81, f82, f83, f84, f85, f86, f87, f88, f89, f90, f91, f92, f93, f94, f95, f96, f97, f98, f99, f100, f101, f102, f103, f104, f105, f106, f107, f108, f109, f110, f111, f112, f113, f114, f115, f116, f117, f118, f119, f120, f121, f122, f123, f124, f125, f126, f127, f128, f129, f130, f131, f132, f133, f134, f135, f136, f137, f138, f139, f140, f141, f142, f143, f144, f145, f146, f147, f148, f149, f150, f151, f152, f153, f154, f155, f156, f157, f158, f159, f160, f161, f162, f163, f164, f165, f166, f167, f168, f169, f170, f171, f172, f173, f174, f175, f176, f177, f178, f179, f180, f181, f182, f183, f184, f185], []⟩ W0 := by
  conv => arg 2; whnf
  dsimp only
  have BS : Hid (∀ (C : List Int) p q, PlaceM.beside { T with conflict := C } p q = PlaceM.beside T p q) := Lib.hid (fun C p q => beside_same rfl p q)
  have CL : Hid (∀ C p, (call L T C p).length = C.length) := Lib.hid (call_len L T)
  have RL : Hid (∀ C p q, (crow L T p C q).length = C.length) := Lib.hid (fun C p q => crow_len L T p C q)
  have SMC : Hid (∀ C : List Int, Few { T with conflict := C }) := Lib.hid (fun C => ⟨sm.groups, sm.rows⟩)
  have C8 := Lib.hid BX.out.cf
  generalize hC0 : T.conflict = C0 at *
  have BX0 : Hid (Bx w hd { T with conflict := call L T C0 0 } W0) := Lib.hid (by have := BX.out; rw [← hC0]; exact this)
  clear BX hC0
  go_loopw [6] (fun i wr => ∃ p : Nat, p ≤ n ∧ i = .int .i64 p ∧ Bx w hd { T with conflict := call L T C0 p } wr) (fun i _ => n - (intOf i).toNat)
  case atStart => exact ⟨0, by omega, rfl, BX0.out⟩
  case round =>
    obtain ⟨p, hp, rfl, hbx⟩ := hrel
    have HB := Lib.hid hbx
    clear hbx BX0
    by_cases hlt : p < n
    · have HB2 : Hid (Bx w hd { T with conflict := crow L T p (call L T C0 p) 0 } wr) := HB
      have L8 : Hid ((call L T C0 p).length = 8) := Lib.hid (by rw [CL.out, C8.out])
      have NX : Hid (call L T C0 (p + 1) = crow L T p (call L T C0 p) p) := Lib.hid rfl
      generalize call L T C0 p = C1 at *
      clear HB
      go_wp2_with fail
      go_loopw [7] (fun i wr => ∃ q : Nat, q ≤ p ∧ i = .int .i64 q ∧ Bx w hd { T with conflict := crow L T p C1 q } wr) (fun i _ => p - (intOf i).toNat)
      case atStart => exact ⟨0, by omega, rfl, HB2.out⟩
      case round =>
        obtain ⟨q, hq, rfl, hbx⟩ := hrel
        have HB := Lib.hid hbx
        clear hbx HB2
        by_cases hlt2 : q < p
        · have LC : Hid ((crow L T p C1 q).length = 8) := Lib.hid (by rw [RL.out, L8.out])
          have NC : Hid (crow L T p C1 (q + 1) = cset L T p q (crow L T p C1 q)) := Lib.hid rfl
          generalize crow L T p C1 q = C at *
          have CSet : Hid (cset L T p q C = if PlaceM.beside T p q = false ∧ num L (110 + 8 * p + q) 9 ≠ 1 then (C.set p (SetM.withN (C.getD p 0) q : Nat)).set q (SetM.withN ((C.set p (SetM.withN (C.getD p 0) q : Nat)).getD q 0) p : Nat) else C) := Lib.hid rfl
          generalize cset L T p q C = CN at *
          have BC : Hid (∀ W, Below wr.heap.size wr W → Calls Tryd.prog 32 #[.agg ({ T with conflict := C }.cells hd).toArray, .int .i64 p, .int .i64 q] W fun e w' => e = .returned (.bool (PlaceM.beside T p q)) ∧ Below W.heap.size W w') := Lib.hid (fun W hb => by
            have := Where.beside_any { T with conflict := C } hd p q W (HB.out.step hb).tab (SMC.out C)
            rw [BS.out] at this; exact this)
          have FC : Hid (∀ i W, i = 110 + 8 * (p : Int) + q → Below w.heap.size w W → Calls Tryd.prog 33 #[.slice a L.length cap, .int .i64 i, .int .i64 9] W fun e w' => e = .returned (.int .i64 (num L (110 + 8 * p + q) 9)) ∧ W = w') := Lib.hid (fun i W hi hb => from_at a cap L i _ 9 hi W (HL.out W hb) (by omega) (by omega) (by omega))
          have LT : Hid (Lies wr ⟨w.heap.size + 1, 0, none⟩ ({ T with conflict := C }.cells hd)) := Lib.hid (by have := Row.lies_of_block HB.out.blk; simpa using this)
          have IA : Hid ((Tryd.prog.info? 31).map (·.size) = some ({ T with conflict := C }.cells hd).length) := Lib.hid (by rw [cells_cut hd HB.out.ph HB.out.cf HB.out.fl]; exact May.infoT)
          generalize hcs : ({ T with conflict := C } : Tab).cells hd = cs at LT IA BC
          go_upto_region 14 with fail
          go_wp2_with (refine Row.wpList_load_g 31 _ rfl (by first | rfl | go_simp) ⟨w.heap.size + 1, 0, none⟩ rfl cs _ LT.out Tryd.underlying31 rfl IA.out ?_)
          refine (BC.out _ (Below.refl _ _)).mono ?_
          rintro e w2 ⟨rfl, hb⟩
          have HB2 := Lib.hid (HB.out.step hb)
          clear hb LT IA BC hcs HB
          generalize PlaceM.beside T p q = bb at *
          cases bb with
          | true =>
            have HE : Hid (CN = C) := Lib.hid (by rw [CSet.out]; simp)
            go_wp2
            go_roundw
            case rel => exact ⟨q + 1, by omega, by go_num, by rw [NC.out, HE.out]; exact HB2.out⟩
            case measure => simp [intOf]; omega
          | false =>
            go_wp2_with fail
            refine (FC.out _ _ (by go_num) HB2.out.bel).mono ?_
            rintro e w' ⟨rfl, rfl⟩
            generalize num L (110 + 8 * p + q) 9 = x at *
            by_cases hx : x = 1
            · have HE : Hid (CN = C) := Lib.hid (by rw [CSet.out]; simp [hx])
              subst hx
              go_wp2
              go_roundw
              case rel => exact ⟨q + 1, by omega, by go_num, by rw [NC.out, HE.out]; exact HB2.out⟩
              case measure => simp [intOf]; omega
            · have HE : Hid (CN = (C.set p (SetM.withN (C.getD p 0) q : Nat)).set q (SetM.withN ((C.set p (SetM.withN (C.getD p 0) q : Nat)).getD q 0) p : Nat)) := Lib.hid (by rw [CSet.out]; simp [hx])
              have hxb : (x != 1) = true := by simpa using hx
              clear CSet FC
              have CC : Hid (∀ (D : List Int) j v W, v = D.getD j 0 → j < 8 → D.length = 8 → Bx w hd { T with conflict := D } W → W.cell? ⟨w.heap.size + 1, 105 + j, none⟩ = some (I v) ∧ W.frozen? ⟨w.heap.size + 1, 105 + j, none⟩ = false) := Lib.hid (fun D j v W hv hj h8 hb => ⟨hv ▸ (range_of hb.blk 105 8 _ (cells_ok hb.tab).conflict) j _ (by rw [List.getElem?_map, List.getD_eq_getElem?_getD, List.getElem?_eq_getElem (show j < D.length by omega)]; rfl), hb.frozen _⟩)
              have ST : Hid (∀ (D : List Int) j x W, j < 8 → D.length = 8 → Bx w hd { T with conflict := D } W → Bx w hd { T with conflict := D.set j x } (W.setCell ⟨w.heap.size + 1, 105 + j, none⟩ (I x))) := Lib.hid (fun D j x W hj h8 hb => hb.set (105 + j) (I x) (cells_conflict hd hb.ph hb.cf j hj x) hb.ph (by simp [h8]) hb.fl rfl rfl rfl rfl)
              generalize hv1 : C.getD p 0 = v1 at HE
              have HV1 := Lib.hid hv1.symm
              clear hv1
              obtain ⟨c1, f1'⟩ := CC.out C p v1 _ HV1.out (by omega) LC.out HB2.out
              go_upto_region 15 with fail
              clear hxb hx
              go_wp2_with fail
              refine (RefS.rwith_any _ _ _).mono ?_
              rintro e w3 ⟨rfl, hb⟩
              have HB3 := Lib.hid (HB2.out.step hb)
              clear hb HB2 c1 f1'
              obtain ⟨c1, f1'⟩ := CC.out C p v1 _ HV1.out (by omega) LC.out HB3.out
              generalize hX1 : ((SetM.withN v1 q : Nat) : Int) = X1 at *
              clear hX1
              have HB4 := Lib.hid (ST.out C p X1 _ (by omega) LC.out HB3.out)
              have LC2 : Hid ((C.set p X1).length = 8) := Lib.hid (by rw [List.length_set, LC.out])
              clear HB3
              go_upto_region 16 with fail
              generalize C.set p X1 = C2 at *
              generalize hv2 : C2.getD q 0 = v2 at HE
              have HV2 := Lib.hid hv2.symm
              clear hv2
              generalize w3.setCell ⟨w.heap.size + 1, 105 + p, none⟩ (I X1) = w4 at HB4 ⊢
              clear c1 f1'
              obtain ⟨c1, f1'⟩ := CC.out C2 q v2 _ HV2.out (by omega) LC2.out HB4.out
              go_wp2_with fail
              refine (RefS.rwith_any _ _ _).mono ?_
              rintro e w5 ⟨rfl, hb⟩
              have HB5 := Lib.hid (HB4.out.step hb)
              clear hb HB4 c1 f1'
              obtain ⟨c1, f1'⟩ := CC.out C2 q v2 _ HV2.out (by omega) LC2.out HB5.out
              generalize hX2 : ((SetM.withN v2 p : Nat) : Int) = X2 at *
              clear hX2
              have HB6 := Lib.hid (ST.out C2 q X2 _ (by omega) LC2.out HB5.out)
              clear HB5 CC ST
              go_wp2
              go_roundw
              case rel => exact ⟨q + 1, by omega, by go_num, by rw [NC.out, HE.out]; exact HB6.out⟩
              case measure => simp [intOf]; omega
        · have hqe : q = p := by omega
          subst hqe
          go_wp2
          go_roundw
          case rel => exact ⟨q + 1, by omega, by go_num, by rw [NX.out]; exact HB.out⟩
          case measure => simp [intOf]; omega
    · have hpe : p = n := by omega
      subst hpe
      go_wp2
      exact HQ.out _ _ _ _ _ _ _ _ _ _ _ _ _ _ _ _ _ _ _ _ _ _ _ _ _ _ _ _ _ _ _ _ _ _ _ _ _ _ _ _ _ _ _ _ _ _ HB.out
end GenT
namespace GenT
open Go.ChangeShapes Go.WideShapes Go.ChangeAt Go.RowKit
open Tab Gath GenG Clone PlaceM CodeAt
open RefS (num num_range from_any)
theorem infoDz3 : (Tryd.prog.info? 75).map (fun i => (i.zero, i.size, i.bytes)) = some (some (.agg #[I 0, F 0, F 0, F 0, F 0, I 0, I 0]), 7, 56) := by kernel_rfl
theorem loop_dets {Q : Exit → Act → World → Prop} (a : Option Addr) (cap : Nat) (L : List Int) (w W0 : World) (hd : Hd) (T : Tab) (n : Nat) (hn : n ≤ 8) (n0 : 0 < n) (k : Nat) (hk : k ≤ 20) {f1 f5 f6 f7 f8 f10 f11 f12 f13 f14 f15 f16 f17 f18 f19 f20 f21 f22 f23 f24 f25 f26 f27 f28 f29 f30 f31 f32 f33 f34 f35 f36 f37 f38 f39 f40 f41 f42 f43 f44 f45 f46 f47 f48 f49 f50 f51 f52 f53 f54 f55 f56 f57 f58 f59 f60 f61 f62 f63 f64 f65 f66 f67 f68 f69 f70 f71 f72 f73 f74 f75 f76 f77 f78 f79 f80 f81 f82 f83 f84 f85 f86 f87 f88 f89 f90 f91 f92 f93 f94 f95 f96 f97 f98 f99 f100 f101 f102 f103 f104 f105 f106 f107 f108 f109 f110 f111 f112 f113 f114 f115 f116 f117 f118 f119 f120 f121 f122 f123 f124 f125 f126 f127 f128 f129 f130 f131 f132 f133 f134 f135 f136 f137 f138 f139 f140 f141 f142 f143 f144 f145 f146 f147 f148 f149 f150 f151 f152 f153 f154 f155 f156 f157 f158 f159 f160 f161 f162 f163 f164 f165 f166 f167 f168 f169 f170 f171 f172 f173 f174 f175 f176 f177 f178 f179 f180 f181 f182 f183 f184 f185 : Value}
    (HL : Hid (∀ W, Below w.heap.size w W → IntRow W ⟨a, cap⟩ L)) (s0 : Sl) (BX : Hid (Bx w ⟨hd.g, s0, hd.r, hd.b⟩ { T with dets := [] } W0))
    (HP : ∀ c a d v w, Q (.panic c) (a.put d v) w → Q (.panic c) a w) (HQ : Hid (∀ (x9 x86 x87 x88 x89 x90 x91 x92 x93 x94 x95 x96 x97 x98 x99 x100 : Value) (W' : World) (s1 : Sl), Bx w ⟨hd.g, s1, hd.r, hd.b⟩ { T with dets := down (fun i : Nat => GenD.genDet L (180 + 8 * i) n) k k } W' → Q (.exit 6) ⟨#[Value.slice a L.length cap, f1, Value.pointer (some ⟨w.heap.size, 0, none⟩), Value.pointer (some ⟨w.heap.size + 1, 0, none⟩), Value.int .i64 (n : Nat), f5, f6, f7, f8, x9, f10, f11, f12, f13, f14, f15, f16, f17, f18, f19, f20, f21, f22, f23, f24, f25, f26, f27, f28, f29, f30, f31, f32, f33, f34, f35, f36, f37, f38, f39, f40, f41, f42, f43, f44, f45, f46, f47, f48, f49, f50, f51, f52, f53, f54, f55, f56, f57, f58, f59, f60, f61, f62, f63, f64, f65, f66, f67, f68, f69, f70, f71, f72, f73, f74, f75, f76, f77, f78, f79, f80, f81, f82, f83, f84, f85, x86, x87, x88, x89, x90, x91, x92, x93, x94, x95, x96, x97, x98, x99, x100, f101, f102, f103, f104, f105, f106, f107, f108, f109, f110, f111, f112, f113, f114, f115, f116, f117, f118, f119, f120, f121, f122, f123, f124, f125, f126, f127, f128, f129, f130, f131, f132, f133, f134, f135, f136, f137, f138, f139, f140, f141, f142, f143, f144, f145, f146, f147, f148, f149, f150, f151, f152, f153, f154, f155, f156, f157, f158, f159, f160, f161, f162, f163, f164, f165, f166, f167, f168, f169, f170, f171, f172, f173, f174, f175, f176, f177, f178, f179, f180, f181, f182, f183, f184, f185], []⟩ W')) :
    (lp 21 Tryd.f18).wp Tryd.prog Q ⟨#[Value.slice a L.length cap, f1, Value.pointer (some ⟨w.heap.size, 0, none⟩), Value.pointer (some ⟨w.heap.size + 1, 0, none⟩), Value.int .i64 (n : Nat), f5, f6, f7, f8, Value.int .i64 (k : Nat), f10, f11, f12, f13, f14, f15, f16, f17, f18, f19, f20, f21, f22, f23, f24, f25, f26, f27, f28, f29, f30, f31, f32, f33, f34, f35, f36, f37, f38, f39, f40, f41, f42, f43, f44, f45, f46, f47, f48, f49, f50, f51, f52, f53, f54, f55, f56, f57, f58, f59, f60, f61, f62, f63, f64, f65, f66, f67, f68, f69, f70, f71, f72, f73, f74, f75, f76, f77, f78, f79, f80, f81, f82, f83, f84, f85, f86, f87, f88, f89, f90, f91, f92, f93, f94, f95, f96, f97, f98, f99, f100, f101, f102, f103, f104, f105, f106, f107, f108, f109, f110, f111, f112, f113, f114, f115, f116, f117, f118, f119, f120, f121, f122, f123, f124, f125, f126, f127, f128, f129, f130, f131, f132, f133, f134, f135, f136, f137, f138, f139, f140, f141, f142, f143, f144, f145, f146, f147, f148, f149, f150, f151, f152, f153, f154, f155, f156, f157, f158, f159, f160, f161, f162, f163, f164, f165, f166, f167, f168, f169, f170, f171, f172, f173, f174, f175, f176, f177, f178, f179, f180, f181, f182, f183, f184, f185], []⟩ W0 := by
  conv => arg 2; whnf
  dsimp only
  obtain ⟨j0, hj, hy0, hy1, hy2⟩ := info_parts infoDz3
  go_loopw [9] (fun i wr => ∃ j : Nat, j ≤ k ∧ i = .int .i64 (k - j : Nat) ∧ ∃ s, Bx w ⟨hd.g, s, hd.r, hd.b⟩ { T with dets := down (fun i : Nat => GenD.genDet L (180 + 8 * i) n) k j } wr) (fun i _ => (intOf i).toNat)
  case atStart => exact ⟨0, by omega, by go_num, s0, BX.out⟩
  case round =>
    obtain ⟨j, hjk, rfl, ⟨da, dc⟩, hbx⟩ := hrel
    have HB := Lib.hid hbx
    clear hbx BX
    by_cases hlt : j < k
    · obtain ⟨i, hi⟩ : ∃ i : Nat, i = k - j := ⟨_, rfl⟩
      have NX : Hid (down (fun i : Nat => GenD.genDet L (180 + 8 * i) n) k (j + 1) = down (fun i : Nat => GenD.genDet L (180 + 8 * i) n) k j ++ [(GenD.genDet L (180 + 8 * i) n)]) := Lib.hid (by rw [down, ← hi])
      have DL : Hid ((down (fun i : Nat => GenD.genDet L (180 + 8 * i) n) k j).length = j) := Lib.hid (down_len _ _ _)
      generalize down (fun i : Nat => GenD.genDet L (180 + 8 * i) n) k j = D at *
      have HI := Lib.hid hi
      have hi0 : 0 < i := by omega
      have hi9 : i ≤ 20 := by omega
      rw [← hi]
      clear hi
      have e1 : IntKind.i64.wrap (8 * (i : Int)) = 8 * i := by rw [IntKind.wrap_i64]; omega
      have e2 : IntKind.i64.wrap (180 + 8 * (i : Int)) = 180 + 8 * i := by rw [IntKind.wrap_i64]; omega
      go_upto_region 23 with fail
      refine wp_region_held (S := fun _ => True) (by kernel_rfl) ?_
      have hS : True := trivial
      have hb : Bx w ⟨hd.g, ⟨da, dc⟩, hd.r, hd.b⟩ { T with dets := D } { wr with drawn := wr.drawn + 1 } := HB.out.step (Below.refl _ _).drew
      generalize ({ wr with drawn := wr.drawn + 1 } : World) = v at hb ⊢
      clear HB
      refine Held.take (i := 0) (some 90) rfl (v := ?_) rfl (by kernel_rfl) (by kernel_rfl) (by kernel_rfl) (fun _ _ _ h => HP _ _ _ _ _ h) (Or.inl ⟨by rfl, ?_⟩) hS ?_
      rotate_left
      · intro w' hw'
        go_simp
        try with_reducible rfl
      (try dsimp only [Act.put]); (try simp only [List.setIfInBounds_toArray, List.set_cons_zero, List.set_cons_succ])
      refine Held.take (i := 2) (some 92) rfl (v := ?_) rfl (by kernel_rfl) (by kernel_rfl) (by kernel_rfl) (fun _ _ _ h => HP _ _ _ _ _ h) (Or.inl ⟨by rfl, ?_⟩) hS ?_
      rotate_left
      · intro w' hw'
        go_simp
        try with_reducible rfl
      (try dsimp only [Act.put]); (try simp only [List.setIfInBounds_toArray, List.set_cons_zero, List.set_cons_succ])
      refine Held.take (i := 3) (some 93) rfl (v := ?_) rfl (by kernel_rfl) (by kernel_rfl) (by kernel_rfl) (fun _ _ _ h => HP _ _ _ _ _ h) (Or.inl ⟨by rfl, ?_⟩) hS ?_
      rotate_left
      · intro w' hw'
        go_simp
        try with_reducible rfl
      (try dsimp only [Act.put]); (try simp only [List.setIfInBounds_toArray, List.set_cons_zero, List.set_cons_succ])
      refine Held.take (i := 4) (some 94) rfl (v := ?_) rfl (by kernel_rfl) (by kernel_rfl) (by kernel_rfl) (fun _ _ _ h => HP _ _ _ _ _ h) (Or.inl ⟨by rfl, ?_⟩) hS ?_
      rotate_left
      · intro w' hw'
        go_simp
        try with_reducible rfl
      (try dsimp only [Act.put]); (try simp only [List.setIfInBounds_toArray, List.set_cons_zero, List.set_cons_succ])
      refine Held.take (i := 5) (some 95) rfl (v := ?_) rfl (by kernel_rfl) (by kernel_rfl) (by kernel_rfl) (fun _ _ _ h => HP _ _ _ _ _ h) (Or.inl ⟨by rfl, ?_⟩) hS ?_
      rotate_left
      · intro w' hw'
        go_simp
        try with_reducible rfl
      (try dsimp only [Act.put]); (try simp only [List.setIfInBounds_toArray, List.set_cons_zero, List.set_cons_succ])
      refine Held.take (i := 6) (some 96) rfl (v := ?_) rfl (by kernel_rfl) (by kernel_rfl) (by kernel_rfl) (fun _ _ _ h => HP _ _ _ _ _ h) (Or.inl ⟨by rfl, ?_⟩) hS ?_
      rotate_left
      · intro w' hw'
        go_simp
        try with_reducible rfl
      (try dsimp only [Act.put]); (try simp only [List.setIfInBounds_toArray, List.set_cons_zero, List.set_cons_succ])
      refine wpAnyH_ready (rs := [1, 7]) (by kernel_rfl) (by simp) (AllReadyH.cons rfl (fun K hK => ?_) (AllReadyH.cons rfl (fun K hK => ?_) AllReadyH.nil))
      · have c4 : v.cell? ⟨w.heap.size + 1, 113, none⟩ = some (.slice da D.length dc) := by rw [hb.cell, ← List.getElem?_toArray]; exact (cells_ok hb.tab).d
        go_simp
        refine hK.out _ _ trivial (fun _ => ?_)
        clear hK K
        clear c4
        refine wpAnyH_ready (rs := [7]) (by kernel_rfl) (by simp) (AllReadyH.cons rfl (fun K hK => ?_) AllReadyH.nil)
        go_simp
        refine (GenD.detector_any a cap L _ _ _ (HL.out _ hb.bel) (by omega) (by omega) (by omega) (by omega)).mono ?_
        rintro e v2 ⟨rfl, hbb⟩
        replace hb := hb.step hbb
        clear hbb
        rename World => v
        generalize hX : (GenD.genDet L (180 + 8 * i) n) = X at NX ⊢
        clear hX
        rw [show X.cells.toArray = #[I X.phase, F X.on, F X.off, F X.delay, F X.extend, I X.maxOn, I X.maxOff] from rfl]
        go_simp
        refine hK.out _ _ trivial (fun _ => ?_)
        clear hK K
        refine wpAnyH_ready (rs := [8]) (by kernel_rfl) (by simp) (AllReadyH.cons rfl (fun K hK => ?_) AllReadyH.nil)
        go_simp
        have hbw : Below v.heap.size v (v.alloc (.cells #[I X.phase, F X.on, F X.off, F X.delay, F X.extend, I X.maxOn, I X.maxOff] 75)) := (Below.refl _ _).alloc (Nat.le_refl _) _
        have hN := heap_alloc_new v (.cells #[I X.phase, F X.on, F X.off, F X.delay, F X.extend, I X.maxOn, I X.maxOff] 75)
        replace hb := hb.step hbw
        clear hbw
        generalize hbn : v.heap.size = bn at hN ⊢
        clear hbn
        generalize World.alloc v (.cells #[I X.phase, F X.on, F X.off, F X.delay, F X.extend, I X.maxOn, I X.maxOff] 75) = v at hb hN ⊢
        refine hK.out _ _ trivial (fun _ => ?_)
        clear hK K
        refine wpAnyH_ready (rs := [9]) (by kernel_rfl) (by simp) (AllReadyH.cons rfl (fun K hK => ?_) AllReadyH.nil)
        rw [if_pos (by rfl)]
        have hown2 : v.ownsRow w.heap.size 75 7 (.slice da D.length dc) D.length (D.flatMap Det.cells) := hb.dets
        refine wp_append_own _ _ _ _ rfl w.heap.size 75 j0 (.agg #[I 0, F 0, F 0, F 0, F 0, I 0, I 0]) 7 56 Tryd.underlying27 hj hy0 hy1 hy2 rfl (by decide) (.slice da D.length dc) D.length _ rfl hown2 ⟨bn, 0, none⟩ 1 1 X.cells rfl rfl ?c1 ?c2 ?c3 ?c4 hb.bel.size ?_
        case c1 =>
          intro j e hj
          exact Row.lies_of_block hN j e hj
        case c2 => intro e he; have h1 := Det.one X; exact (Array.all_eq_true_iff_forall_mem.1 h1) e (by simpa using he)
        case c3 => unfold maxLen; have := DL.out; omega
        case c4 => have := DL.out; omega
        intro v' w5 hown' hgrow hnil'
        obtain ⟨hbk, a', c', rfl, hG⟩ := hb.put_dets X hgrow hown'
        have c5 : w5.cell? ⟨w.heap.size + 1, 113, none⟩ = some (.slice da D.length dc) := by rw [cell_of_row _ _ _ _ _ _ hbk]; exact (cells_ok hb.tab).d
        have f5 : w5.frozen? ⟨w.heap.size + 1, 113, none⟩ = false := frozen_of_row _ _ _ _ _ hbk
        have HG := Lib.hid hG
        clear hown' hgrow hown2 hnil' hbk hG hb hN
        refine hK.out _ _ trivial (fun _ => ?_)
        clear hK K
        refine Held.take (i := 10) (some 100) rfl (v := ?_) rfl (by kernel_rfl) (by kernel_rfl) (by kernel_rfl) (fun _ _ _ h => HP _ _ _ _ _ h) (Or.inl ⟨by rfl, ?_⟩) hS ?_
        rotate_left
        · intro w' hw'
          go_simp
          try with_reducible rfl
        (try dsimp only [Act.put]); (try simp only [List.setIfInBounds_toArray, List.set_cons_zero, List.set_cons_succ])
        refine wpAnyH_ready (rs := [11]) (by kernel_rfl) (by simp) (AllReadyH.cons rfl (fun K hK => ?_) AllReadyH.nil)
        go_simp
        refine hK.out _ _ trivial (fun _ => ?_)
        clear hK K
        refine wpAnyH_done (by kernel_rfl) ?_ _
        clear hS c5 f5
        go_wp2
        go_roundw
        case rel => exact ⟨j + 1, by omega, by have := HI.out; go_num, _, by rw [NX.out]; exact HG.out⟩
        case measure => simp [intOf]; have := HI.out; omega
      · go_simp
        refine (GenD.detector_any a cap L _ _ _ (HL.out _ hb.bel) (by omega) (by omega) (by omega) (by omega)).mono ?_
        rintro e v2 ⟨rfl, hbb⟩
        replace hb := hb.step hbb
        clear hbb
        rename World => v
        generalize hX : (GenD.genDet L (180 + 8 * i) n) = X at NX ⊢
        clear hX
        rw [show X.cells.toArray = #[I X.phase, F X.on, F X.off, F X.delay, F X.extend, I X.maxOn, I X.maxOff] from rfl]
        go_simp
        refine hK.out _ _ trivial (fun _ => ?_)
        clear hK K
        refine wpAnyH_ready (rs := [1, 8]) (by kernel_rfl) (by simp) (AllReadyH.cons rfl (fun K hK => ?_) (AllReadyH.cons rfl (fun K hK => ?_) AllReadyH.nil))
        · have c4 : v.cell? ⟨w.heap.size + 1, 113, none⟩ = some (.slice da D.length dc) := by rw [hb.cell, ← List.getElem?_toArray]; exact (cells_ok hb.tab).d
          go_simp
          refine hK.out _ _ trivial (fun _ => ?_)
          clear hK K
          clear c4
          refine wpAnyH_ready (rs := [8]) (by kernel_rfl) (by simp) (AllReadyH.cons rfl (fun K hK => ?_) AllReadyH.nil)
          go_simp
          have hbw : Below v.heap.size v (v.alloc (.cells #[I X.phase, F X.on, F X.off, F X.delay, F X.extend, I X.maxOn, I X.maxOff] 75)) := (Below.refl _ _).alloc (Nat.le_refl _) _
          have hN := heap_alloc_new v (.cells #[I X.phase, F X.on, F X.off, F X.delay, F X.extend, I X.maxOn, I X.maxOff] 75)
          replace hb := hb.step hbw
          clear hbw
          generalize hbn : v.heap.size = bn at hN ⊢
          clear hbn
          generalize World.alloc v (.cells #[I X.phase, F X.on, F X.off, F X.delay, F X.extend, I X.maxOn, I X.maxOff] 75) = v at hb hN ⊢
          refine hK.out _ _ trivial (fun _ => ?_)
          clear hK K
          refine wpAnyH_ready (rs := [9]) (by kernel_rfl) (by simp) (AllReadyH.cons rfl (fun K hK => ?_) AllReadyH.nil)
          rw [if_pos (by rfl)]
          have hown2 : v.ownsRow w.heap.size 75 7 (.slice da D.length dc) D.length (D.flatMap Det.cells) := hb.dets
          refine wp_append_own _ _ _ _ rfl w.heap.size 75 j0 (.agg #[I 0, F 0, F 0, F 0, F 0, I 0, I 0]) 7 56 Tryd.underlying27 hj hy0 hy1 hy2 rfl (by decide) (.slice da D.length dc) D.length _ rfl hown2 ⟨bn, 0, none⟩ 1 1 X.cells rfl rfl ?c1 ?c2 ?c3 ?c4 hb.bel.size ?_
          case c1 =>
            intro j e hj
            exact Row.lies_of_block hN j e hj
          case c2 => intro e he; have h1 := Det.one X; exact (Array.all_eq_true_iff_forall_mem.1 h1) e (by simpa using he)
          case c3 => unfold maxLen; have := DL.out; omega
          case c4 => have := DL.out; omega
          intro v' w5 hown' hgrow hnil'
          obtain ⟨hbk, a', c', rfl, hG⟩ := hb.put_dets X hgrow hown'
          have c5 : w5.cell? ⟨w.heap.size + 1, 113, none⟩ = some (.slice da D.length dc) := by rw [cell_of_row _ _ _ _ _ _ hbk]; exact (cells_ok hb.tab).d
          have f5 : w5.frozen? ⟨w.heap.size + 1, 113, none⟩ = false := frozen_of_row _ _ _ _ _ hbk
          have HG := Lib.hid hG
          clear hown' hgrow hown2 hnil' hbk hG hb hN
          refine hK.out _ _ trivial (fun _ => ?_)
          clear hK K
          refine Held.take (i := 10) (some 100) rfl (v := ?_) rfl (by kernel_rfl) (by kernel_rfl) (by kernel_rfl) (fun _ _ _ h => HP _ _ _ _ _ h) (Or.inl ⟨by rfl, ?_⟩) hS ?_
          rotate_left
          · intro w' hw'
            go_simp
            try with_reducible rfl
          (try dsimp only [Act.put]); (try simp only [List.setIfInBounds_toArray, List.set_cons_zero, List.set_cons_succ])
          refine wpAnyH_ready (rs := [11]) (by kernel_rfl) (by simp) (AllReadyH.cons rfl (fun K hK => ?_) AllReadyH.nil)
          go_simp
          refine hK.out _ _ trivial (fun _ => ?_)
          clear hK K
          refine wpAnyH_done (by kernel_rfl) ?_ _
          clear hS c5 f5
          go_wp2
          go_roundw
          case rel => exact ⟨j + 1, by omega, by have := HI.out; go_num, _, by rw [NX.out]; exact HG.out⟩
          case measure => simp [intOf]; have := HI.out; omega
        · go_simp
          have hbw : Below v.heap.size v (v.alloc (.cells #[I X.phase, F X.on, F X.off, F X.delay, F X.extend, I X.maxOn, I X.maxOff] 75)) := (Below.refl _ _).alloc (Nat.le_refl _) _
          have hN := heap_alloc_new v (.cells #[I X.phase, F X.on, F X.off, F X.delay, F X.extend, I X.maxOn, I X.maxOff] 75)
          replace hb := hb.step hbw
          clear hbw
          generalize hbn : v.heap.size = bn at hN ⊢
          clear hbn
          generalize World.alloc v (.cells #[I X.phase, F X.on, F X.off, F X.delay, F X.extend, I X.maxOn, I X.maxOff] 75) = v at hb hN ⊢
          refine hK.out _ _ trivial (fun _ => ?_)
          clear hK K
          refine wpAnyH_ready (rs := [1]) (by kernel_rfl) (by simp) (AllReadyH.cons rfl (fun K hK => ?_) AllReadyH.nil)
          have c4 : v.cell? ⟨w.heap.size + 1, 113, none⟩ = some (.slice da D.length dc) := by rw [hb.cell, ← List.getElem?_toArray]; exact (cells_ok hb.tab).d
          go_simp
          refine hK.out _ _ trivial (fun _ => ?_)
          clear hK K
          clear c4
          refine wpAnyH_ready (rs := [9]) (by kernel_rfl) (by simp) (AllReadyH.cons rfl (fun K hK => ?_) AllReadyH.nil)
          rw [if_pos (by rfl)]
          have hown2 : v.ownsRow w.heap.size 75 7 (.slice da D.length dc) D.length (D.flatMap Det.cells) := hb.dets
          refine wp_append_own _ _ _ _ rfl w.heap.size 75 j0 (.agg #[I 0, F 0, F 0, F 0, F 0, I 0, I 0]) 7 56 Tryd.underlying27 hj hy0 hy1 hy2 rfl (by decide) (.slice da D.length dc) D.length _ rfl hown2 ⟨bn, 0, none⟩ 1 1 X.cells rfl rfl ?c1 ?c2 ?c3 ?c4 hb.bel.size ?_
          case c1 =>
            intro j e hj
            exact Row.lies_of_block hN j e hj
          case c2 => intro e he; have h1 := Det.one X; exact (Array.all_eq_true_iff_forall_mem.1 h1) e (by simpa using he)
          case c3 => unfold maxLen; have := DL.out; omega
          case c4 => have := DL.out; omega
          intro v' w5 hown' hgrow hnil'
          obtain ⟨hbk, a', c', rfl, hG⟩ := hb.put_dets X hgrow hown'
          have c5 : w5.cell? ⟨w.heap.size + 1, 113, none⟩ = some (.slice da D.length dc) := by rw [cell_of_row _ _ _ _ _ _ hbk]; exact (cells_ok hb.tab).d
          have f5 : w5.frozen? ⟨w.heap.size + 1, 113, none⟩ = false := frozen_of_row _ _ _ _ _ hbk
          have HG := Lib.hid hG
          clear hown' hgrow hown2 hnil' hbk hG hb hN
          refine hK.out _ _ trivial (fun _ => ?_)
          clear hK K
          refine Held.take (i := 10) (some 100) rfl (v := ?_) rfl (by kernel_rfl) (by kernel_rfl) (by kernel_rfl) (fun _ _ _ h => HP _ _ _ _ _ h) (Or.inl ⟨by rfl, ?_⟩) hS ?_
          rotate_left
          · intro w' hw'
            go_simp
            try with_reducible rfl
          (try dsimp only [Act.put]); (try simp only [List.setIfInBounds_toArray, List.set_cons_zero, List.set_cons_succ])
          refine wpAnyH_ready (rs := [11]) (by kernel_rfl) (by simp) (AllReadyH.cons rfl (fun K hK => ?_) AllReadyH.nil)
          go_simp
          refine hK.out _ _ trivial (fun _ => ?_)
          clear hK K
          refine wpAnyH_done (by kernel_rfl) ?_ _
          clear hS c5 f5
          go_wp2
          go_roundw
          case rel => exact ⟨j + 1, by omega, by have := HI.out; go_num, _, by rw [NX.out]; exact HG.out⟩
          case measure => simp [intOf]; have := HI.out; omega
    · have hje : j = k := by omega
      subst hje
      rw [show ((j - j : Nat) : Int) = (0 : Int) by omega]
      go_wp2
      exact HQ.out _ _ _ _ _ _ _ _ _ _ _ _ _ _ _ _ _ _ HB.out
end GenT
namespace GenT
open Go.ChangeShapes Go.WideShapes Go.ChangeAt Go.RowKit
open Tab Gath GenG Clone PlaceM CodeAt
open RefS (num num_range from_any)
theorem infoRz3 : (Tryd.prog.info? 78).map (fun i => (i.zero, i.size, i.bytes)) = some (some (.agg #[I 0, I 0, I 0, I 0, I 0, I 0, I 0, I 0, I 0, I 0, I 0]), 11, 88) := by kernel_rfl
theorem genRl_same {T U : Tab} (h : T.groups = U.groups) (L : List Int) (i n : Int) : GenR.genRl T L i n = GenR.genRl U L i n := by
  unfold GenR.genRl GenW.withS; simp only [beside_same h]
theorem loop_rails {Q : Exit → Act → World → Prop} (a : Option Addr) (cap : Nat) (L : List Int) (w W0 : World) (hd : Hd) (T : Tab) (n : Nat) (hn : n ≤ 8) (n0 : 0 < n) (k : Nat) (hk : k ≤ 20) (sm : Few T) {f1 f5 f6 f7 f8 f9 f11 f12 f13 f14 f15 f16 f17 f18 f19 f20 f21 f22 f23 f24 f25 f26 f27 f28 f29 f30 f31 f32 f33 f34 f35 f36 f37 f38 f39 f40 f41 f42 f43 f44 f45 f46 f47 f48 f49 f50 f51 f52 f53 f54 f55 f56 f57 f58 f59 f60 f61 f62 f63 f64 f65 f66 f67 f68 f69 f70 f71 f72 f73 f74 f75 f76 f77 f78 f79 f80 f81 f82 f83 f84 f85 f86 f87 f88 f89 f90 f91 f92 f93 f94 f95 f96 f97 f98 f99 f100 f101 f102 f103 f104 f105 f106 f107 f108 f109 f110 f111 f112 f113 f114 f115 f116 f117 f118 f119 f120 f121 f122 f123 f124 f125 f126 f127 f128 f129 f130 f131 f132 f133 f134 f135 f136 f137 f138 f139 f140 f141 f142 f143 f144 f145 f146 f147 f148 f149 f150 f151 f152 f153 f154 f155 f156 f157 f158 f159 f160 f161 f162 f163 f164 f165 f166 f167 f168 f169 f170 f171 f172 f173 f174 f175 f176 f177 f178 f179 f180 f181 f182 f183 f184 f185 : Value}
    (HL : Hid (∀ W, Below w.heap.size w W → IntRow W ⟨a, cap⟩ L)) (s0 : Sl) (BX : Hid (Bx w ⟨hd.g, hd.d, s0, hd.b⟩ { T with rails := [] } W0))
    (HP : ∀ c a d v w, Q (.panic c) (a.put d v) w → Q (.panic c) a w) (HQ : Hid (∀ (x10 x104 x105 x106 x107 x108 x109 x110 x111 x112 x113 x114 x115 x116 x117 x118 x119 : Value) (W' : World) (s1 : Sl), Bx w ⟨hd.g, hd.d, s1, hd.b⟩ { T with rails := down (fun i : Nat => GenR.genRl T L (260 + 16 * i) n) k k } W' → Q (.exit 8) ⟨#[Value.slice a L.length cap, f1, Value.pointer (some ⟨w.heap.size, 0, none⟩), Value.pointer (some ⟨w.heap.size + 1, 0, none⟩), Value.int .i64 (n : Nat), f5, f6, f7, f8, f9, x10, f11, f12, f13, f14, f15, f16, f17, f18, f19, f20, f21, f22, f23, f24, f25, f26, f27, f28, f29, f30, f31, f32, f33, f34, f35, f36, f37, f38, f39, f40, f41, f42, f43, f44, f45, f46, f47, f48, f49, f50, f51, f52, f53, f54, f55, f56, f57, f58, f59, f60, f61, f62, f63, f64, f65, f66, f67, f68, f69, f70, f71, f72, f73, f74, f75, f76, f77, f78, f79, f80, f81, f82, f83, f84, f85, f86, f87, f88, f89, f90, f91, f92, f93, f94, f95, f96, f97, f98, f99, f100, f101, f102, f103, x104, x105, x106, x107, x108, x109, x110, x111, x112, x113, x114, x115, x116, x117, x118, x119, f120, f121, f122, f123, f124, f125, f126, f127, f128, f129, f130, f131, f132, f133, f134, f135, f136, f137, f138, f139, f140, f141, f142, f143, f144, f145, f146, f147, f148, f149, f150, f151, f152, f153, f154, f155, f156, f157, f158, f159, f160, f161, f162, f163, f164, f165, f166, f167, f168, f169, f170, f171, f172, f173, f174, f175, f176, f177, f178, f179, f180, f181, f182, f183, f184, f185], []⟩ W')) :
    (lp 25 Tryd.f18).wp Tryd.prog Q ⟨#[Value.slice a L.length cap, f1, Value.pointer (some ⟨w.heap.size, 0, none⟩), Value.pointer (some ⟨w.heap.size + 1, 0, none⟩), Value.int .i64 (n : Nat), f5, f6, f7, f8, f9, Value.int .i64 (k : Nat), f11, f12, f13, f14, f15, f16, f17, f18, f19, f20, f21, f22, f23, f24, f25, f26, f27, f28, f29, f30, f31, f32, f33, f34, f35, f36, f37, f38, f39, f40, f41, f42, f43, f44, f45, f46, f47, f48, f49, f50, f51, f52, f53, f54, f55, f56, f57, f58, f59, f60, f61, f62, f63, f64, f65, f66, f67, f68, f69, f70, f71, f72, f73, f74, f75, f76, f77, f78, f79, f80, f81, f82, f83, f84, f85, f86, f87, f88, f89, f90, f91, f92, f93, f94, f95, f96, f97, f98, f99, f100, f101, f102, f103, f104, f105, f106, f107, f108, f109, f110, f111, f112, f113, f114, f115, f116, f117, f118, f119, f120, f121, f122, f123, f124, f125, f126, f127, f128, f129, f130, f131, f132, f133, f134, f135, f136, f137, f138, f139, f140, f141, f142, f143, f144, f145, f146, f147, f148, f149, f150, f151, f152, f153, f154, f155, f156, f157, f158, f159, f160, f161, f162, f163, f164, f165, f166, f167, f168, f169, f170, f171, f172, f173, f174, f175, f176, f177, f178, f179, f180, f181, f182, f183, f184, f185], []⟩ W0 := by
  conv => arg 2; whnf
  dsimp only
  obtain ⟨j0, hj, hy0, hy1, hy2⟩ := info_parts infoRz3
  go_loopw [10] (fun i wr => ∃ j : Nat, j ≤ k ∧ i = .int .i64 (k - j : Nat) ∧ ∃ s, Bx w ⟨hd.g, hd.d, s, hd.b⟩ { T with rails := down (fun i : Nat => GenR.genRl T L (260 + 16 * i) n) k j } wr) (fun i _ => (intOf i).toNat)
  case atStart => exact ⟨0, by omega, by go_num, s0, BX.out⟩
  case round =>
    obtain ⟨j, hjk, rfl, ⟨da, dc⟩, hbx⟩ := hrel
    have HB := Lib.hid hbx
    clear hbx BX
    by_cases hlt : j < k
    · obtain ⟨i, hi⟩ : ∃ i : Nat, i = k - j := ⟨_, rfl⟩
      have NX : Hid (down (fun i : Nat => GenR.genRl T L (260 + 16 * i) n) k (j + 1) = down (fun i : Nat => GenR.genRl T L (260 + 16 * i) n) k j ++ [(GenR.genRl T L (260 + 16 * i) n)]) := Lib.hid (by rw [down, ← hi])
      have DL : Hid ((down (fun i : Nat => GenR.genRl T L (260 + 16 * i) n) k j).length = j) := Lib.hid (down_len _ _ _)
      generalize down (fun i : Nat => GenR.genRl T L (260 + 16 * i) n) k j = D at *
      have HI := Lib.hid hi
      have hi0 : 0 < i := by omega
      have hi9 : i ≤ 20 := by omega
      rw [← hi]
      clear hi
      have e1 : IntKind.i64.wrap (16 * (i : Int)) = 16 * i := by rw [IntKind.wrap_i64]; omega
      have e2 : IntKind.i64.wrap (260 + 16 * (i : Int)) = 260 + 16 * i := by rw [IntKind.wrap_i64]; omega
      have RC : Hid (∀ W, Bx w ⟨hd.g, hd.d, ⟨da, dc⟩, hd.b⟩ { T with rails := D } W → Calls Tryd.prog 35 #[.agg (({ T with rails := D } : Tab).cells ⟨hd.g, hd.d, ⟨da, dc⟩, hd.b⟩).toArray, .slice a L.length cap, .int .i64 (260 + 16 * i), .int .i64 n] W fun e w' => e = .returned (.agg (GenR.genRl T L (260 + 16 * i) n).cells.toArray) ∧ Below W.heap.size W w') := Lib.hid (fun W hb => by
        have := GenR.rail_any { T with rails := D } ⟨hd.g, hd.d, ⟨da, dc⟩, hd.b⟩ a cap L (260 + 16 * i) n W hb.tab ⟨sm.groups, sm.rows⟩ (HL.out _ hb.bel) (by omega) (by omega) (by omega) (by omega)
        rw [genRl_same (T := { T with rails := D }) (U := T) rfl] at this
        exact this)
      have IA : Hid ((Tryd.prog.info? 31).map (·.size) = some (({ T with rails := D } : Tab).cells ⟨hd.g, hd.d, ⟨da, dc⟩, hd.b⟩).length) := Lib.hid (by rw [cells_cut _ HB.out.ph HB.out.cf HB.out.fl]; exact May.infoT)
      generalize hX : (GenR.genRl T L (260 + 16 * i) n) = X at NX RC
      clear hX
      generalize hcs : ({ T with rails := D } : Tab).cells ⟨hd.g, hd.d, ⟨da, dc⟩, hd.b⟩ = cs at RC IA
      go_upto_region 27 with fail
      refine wp_region_held (S := fun _ => True) (by kernel_rfl) ?_
      have hS : True := trivial
      have hb : Bx w ⟨hd.g, hd.d, ⟨da, dc⟩, hd.b⟩ { T with rails := D } { wr with drawn := wr.drawn + 1 } := HB.out.step (Below.refl _ _).drew
      generalize ({ wr with drawn := wr.drawn + 1 } : World) = v at hb ⊢
      clear HB
      refine Held.take (i := 0) (some 108) rfl (v := ?_) rfl (by kernel_rfl) (by kernel_rfl) (by kernel_rfl) (fun _ _ _ h => HP _ _ _ _ _ h) (Or.inl ⟨by rfl, ?_⟩) hS ?_
      rotate_left
      · intro w' hw'
        go_simp
        try with_reducible rfl
      (try dsimp only [Act.put]); (try simp only [List.setIfInBounds_toArray, List.set_cons_zero, List.set_cons_succ])
      refine Held.take (i := 3) (some 111) rfl (v := ?_) rfl (by kernel_rfl) (by kernel_rfl) (by kernel_rfl) (fun _ _ _ h => HP _ _ _ _ _ h) (Or.inl ⟨by rfl, ?_⟩) hS ?_
      rotate_left
      · intro w' hw'
        go_simp
        try with_reducible rfl
      (try dsimp only [Act.put]); (try simp only [List.setIfInBounds_toArray, List.set_cons_zero, List.set_cons_succ])
      refine Held.take (i := 4) (some 112) rfl (v := ?_) rfl (by kernel_rfl) (by kernel_rfl) (by kernel_rfl) (fun _ _ _ h => HP _ _ _ _ _ h) (Or.inl ⟨by rfl, ?_⟩) hS ?_
      rotate_left
      · intro w' hw'
        go_simp
        try with_reducible rfl
      (try dsimp only [Act.put]); (try simp only [List.setIfInBounds_toArray, List.set_cons_zero, List.set_cons_succ])
      refine Held.take (i := 5) (some 113) rfl (v := ?_) rfl (by kernel_rfl) (by kernel_rfl) (by kernel_rfl) (fun _ _ _ h => HP _ _ _ _ _ h) (Or.inl ⟨by rfl, ?_⟩) hS ?_
      rotate_left
      · intro w' hw'
        go_simp
        try with_reducible rfl
      (try dsimp only [Act.put]); (try simp only [List.setIfInBounds_toArray, List.set_cons_zero, List.set_cons_succ])
      refine Held.take (i := 6) (some 114) rfl (v := ?_) rfl (by kernel_rfl) (by kernel_rfl) (by kernel_rfl) (fun _ _ _ h => HP _ _ _ _ _ h) (Or.inl ⟨by rfl, ?_⟩) hS ?_
      rotate_left
      · intro w' hw'
        go_simp
        try with_reducible rfl
      (try dsimp only [Act.put]); (try simp only [List.setIfInBounds_toArray, List.set_cons_zero, List.set_cons_succ])
      refine Held.take (i := 7) (some 115) rfl (v := ?_) rfl (by kernel_rfl) (by kernel_rfl) (by kernel_rfl) (fun _ _ _ h => HP _ _ _ _ _ h) (Or.inl ⟨by rfl, ?_⟩) hS ?_
      rotate_left
      · intro w' hw'
        go_simp
        try with_reducible rfl
      (try dsimp only [Act.put]); (try simp only [List.setIfInBounds_toArray, List.set_cons_zero, List.set_cons_succ])
      refine wpAnyH_ready (rs := [1, 2]) (by kernel_rfl) (by simp) (AllReadyH.cons rfl (fun K hK => ?_) (AllReadyH.cons rfl (fun K hK => ?_) AllReadyH.nil))
      · have c4 : v.cell? ⟨w.heap.size + 1, 114, none⟩ = some (.slice da D.length dc) := by rw [hb.cell, ← List.getElem?_toArray]; exact (cells_ok hb.tab).r
        go_simp
        refine hK.out _ _ trivial (fun _ => ?_)
        clear hK K
        clear c4
        refine wpAnyH_ready (rs := [2]) (by kernel_rfl) (by simp) (AllReadyH.cons rfl (fun K hK => ?_) AllReadyH.nil)
        rw [if_pos (by rfl)]
        have LT : Lies v ⟨w.heap.size + 1, 0, none⟩ cs := by have := Row.lies_of_block hb.blk; rw [hcs] at this; simpa using this
        refine Row.wp_load_lies 31 _ rfl ⟨w.heap.size + 1, 0, none⟩ rfl cs _ LT Tryd.underlying31 rfl IA.out ?_
        (try dsimp only [Act.put]); (try simp only [List.setIfInBounds_toArray, List.set_cons_zero, List.set_cons_succ])
        refine hK.out _ _ trivial (fun _ => ?_)
        clear hK K
        clear LT
        refine wpAnyH_ready (rs := [8]) (by kernel_rfl) (by simp) (AllReadyH.cons rfl (fun K hK => ?_) AllReadyH.nil)
        go_simp
        refine (RC.out _ hb).mono ?_
        rintro e v2 ⟨rfl, hbb⟩
        replace hb := hb.step hbb
        clear hbb
        rename World => v
        rw [show X.cells.toArray = #[I X.bars, I X.clear, I X.dwell, I X.exit, I X.delay, I X.green, I X.foot, I X.hold, I X.stay, I X.most, I X.limit] from rfl]
        go_simp
        refine hK.out _ _ trivial (fun _ => ?_)
        clear hK K
        refine wpAnyH_ready (rs := [9]) (by kernel_rfl) (by simp) (AllReadyH.cons rfl (fun K hK => ?_) AllReadyH.nil)
        go_simp
        have hbw : Below v.heap.size v (v.alloc (.cells #[I X.bars, I X.clear, I X.dwell, I X.exit, I X.delay, I X.green, I X.foot, I X.hold, I X.stay, I X.most, I X.limit] 78)) := (Below.refl _ _).alloc (Nat.le_refl _) _
        have hN := heap_alloc_new v (.cells #[I X.bars, I X.clear, I X.dwell, I X.exit, I X.delay, I X.green, I X.foot, I X.hold, I X.stay, I X.most, I X.limit] 78)
        replace hb := hb.step hbw
        clear hbw
        generalize hbn : v.heap.size = bn at hN ⊢
        clear hbn
        generalize World.alloc v (.cells #[I X.bars, I X.clear, I X.dwell, I X.exit, I X.delay, I X.green, I X.foot, I X.hold, I X.stay, I X.most, I X.limit] 78) = v at hb hN ⊢
        refine hK.out _ _ trivial (fun _ => ?_)
        clear hK K
        refine wpAnyH_ready (rs := [10]) (by kernel_rfl) (by simp) (AllReadyH.cons rfl (fun K hK => ?_) AllReadyH.nil)
        rw [if_pos (by rfl)]
        have hown2 : v.ownsRow w.heap.size 78 11 (.slice da D.length dc) D.length (D.flatMap Rl.cells) := hb.rails
        refine wp_append_own _ _ _ _ rfl w.heap.size 78 j0 (.agg #[I 0, I 0, I 0, I 0, I 0, I 0, I 0, I 0, I 0, I 0, I 0]) 11 88 Tryd.underlying28 hj hy0 hy1 hy2 rfl (by decide) (.slice da D.length dc) D.length _ rfl hown2 ⟨bn, 0, none⟩ 1 1 X.cells rfl rfl ?c1 ?c2 ?c3 ?c4 hb.bel.size ?_
        case c1 =>
          intro j e hj
          exact Row.lies_of_block hN j e hj
        case c2 => intro e he; have h1 := Rl.one X; exact (Array.all_eq_true_iff_forall_mem.1 h1) e (by simpa using he)
        case c3 => unfold maxLen; have := DL.out; omega
        case c4 => have := DL.out; omega
        intro v' w5 hown' hgrow hnil'
        obtain ⟨hbk, a', c', rfl, hG⟩ := hb.put_rails X hgrow hown'
        have c5 : w5.cell? ⟨w.heap.size + 1, 114, none⟩ = some (.slice da D.length dc) := by rw [cell_of_row _ _ _ _ _ _ hbk]; exact (cells_ok hb.tab).r
        have f5 : w5.frozen? ⟨w.heap.size + 1, 114, none⟩ = false := frozen_of_row _ _ _ _ _ hbk
        have HG := Lib.hid hG
        clear hown' hgrow hown2 hnil' hbk hG hb hN
        refine hK.out _ _ trivial (fun _ => ?_)
        clear hK K
        refine Held.take (i := 11) (some 119) rfl (v := ?_) rfl (by kernel_rfl) (by kernel_rfl) (by kernel_rfl) (fun _ _ _ h => HP _ _ _ _ _ h) (Or.inl ⟨by rfl, ?_⟩) hS ?_
        rotate_left
        · intro w' hw'
          go_simp
          try with_reducible rfl
        (try dsimp only [Act.put]); (try simp only [List.setIfInBounds_toArray, List.set_cons_zero, List.set_cons_succ])
        refine wpAnyH_ready (rs := [12]) (by kernel_rfl) (by simp) (AllReadyH.cons rfl (fun K hK => ?_) AllReadyH.nil)
        go_simp
        refine hK.out _ _ trivial (fun _ => ?_)
        clear hK K
        refine wpAnyH_done (by kernel_rfl) ?_ _
        clear hS c5 f5
        go_wp2
        go_roundw
        case rel => exact ⟨j + 1, by omega, by have := HI.out; go_num, _, by rw [NX.out]; exact HG.out⟩
        case measure => simp [intOf]; have := HI.out; omega
      · rw [if_pos (by rfl)]
        have LT : Lies v ⟨w.heap.size + 1, 0, none⟩ cs := by have := Row.lies_of_block hb.blk; rw [hcs] at this; simpa using this
        refine Row.wp_load_lies 31 _ rfl ⟨w.heap.size + 1, 0, none⟩ rfl cs _ LT Tryd.underlying31 rfl IA.out ?_
        (try dsimp only [Act.put]); (try simp only [List.setIfInBounds_toArray, List.set_cons_zero, List.set_cons_succ])
        refine hK.out _ _ trivial (fun _ => ?_)
        clear hK K
        clear LT
        refine wpAnyH_ready (rs := [1, 8]) (by kernel_rfl) (by simp) (AllReadyH.cons rfl (fun K hK => ?_) (AllReadyH.cons rfl (fun K hK => ?_) AllReadyH.nil))
        · have c4 : v.cell? ⟨w.heap.size + 1, 114, none⟩ = some (.slice da D.length dc) := by rw [hb.cell, ← List.getElem?_toArray]; exact (cells_ok hb.tab).r
          go_simp
          refine hK.out _ _ trivial (fun _ => ?_)
          clear hK K
          clear c4
          refine wpAnyH_ready (rs := [8]) (by kernel_rfl) (by simp) (AllReadyH.cons rfl (fun K hK => ?_) AllReadyH.nil)
          go_simp
          refine (RC.out _ hb).mono ?_
          rintro e v2 ⟨rfl, hbb⟩
          replace hb := hb.step hbb
          clear hbb
          rename World => v
          rw [show X.cells.toArray = #[I X.bars, I X.clear, I X.dwell, I X.exit, I X.delay, I X.green, I X.foot, I X.hold, I X.stay, I X.most, I X.limit] from rfl]
          go_simp
          refine hK.out _ _ trivial (fun _ => ?_)
          clear hK K
          refine wpAnyH_ready (rs := [9]) (by kernel_rfl) (by simp) (AllReadyH.cons rfl (fun K hK => ?_) AllReadyH.nil)
          go_simp
          have hbw : Below v.heap.size v (v.alloc (.cells #[I X.bars, I X.clear, I X.dwell, I X.exit, I X.delay, I X.green, I X.foot, I X.hold, I X.stay, I X.most, I X.limit] 78)) := (Below.refl _ _).alloc (Nat.le_refl _) _
          have hN := heap_alloc_new v (.cells #[I X.bars, I X.clear, I X.dwell, I X.exit, I X.delay, I X.green, I X.foot, I X.hold, I X.stay, I X.most, I X.limit] 78)
          replace hb := hb.step hbw
          clear hbw
          generalize hbn : v.heap.size = bn at hN ⊢
          clear hbn
          generalize World.alloc v (.cells #[I X.bars, I X.clear, I X.dwell, I X.exit, I X.delay, I X.green, I X.foot, I X.hold, I X.stay, I X.most, I X.limit] 78) = v at hb hN ⊢
          refine hK.out _ _ trivial (fun _ => ?_)
          clear hK K
          refine wpAnyH_ready (rs := [10]) (by kernel_rfl) (by simp) (AllReadyH.cons rfl (fun K hK => ?_) AllReadyH.nil)
          rw [if_pos (by rfl)]
          have hown2 : v.ownsRow w.heap.size 78 11 (.slice da D.length dc) D.length (D.flatMap Rl.cells) := hb.rails
          refine wp_append_own _ _ _ _ rfl w.heap.size 78 j0 (.agg #[I 0, I 0, I 0, I 0, I 0, I 0, I 0, I 0, I 0, I 0, I 0]) 11 88 Tryd.underlying28 hj hy0 hy1 hy2 rfl (by decide) (.slice da D.length dc) D.length _ rfl hown2 ⟨bn, 0, none⟩ 1 1 X.cells rfl rfl ?c1 ?c2 ?c3 ?c4 hb.bel.size ?_
          case c1 =>
            intro j e hj
            exact Row.lies_of_block hN j e hj
          case c2 => intro e he; have h1 := Rl.one X; exact (Array.all_eq_true_iff_forall_mem.1 h1) e (by simpa using he)
          case c3 => unfold maxLen; have := DL.out; omega
          case c4 => have := DL.out; omega
          intro v' w5 hown' hgrow hnil'
          obtain ⟨hbk, a', c', rfl, hG⟩ := hb.put_rails X hgrow hown'
          have c5 : w5.cell? ⟨w.heap.size + 1, 114, none⟩ = some (.slice da D.length dc) := by rw [cell_of_row _ _ _ _ _ _ hbk]; exact (cells_ok hb.tab).r
          have f5 : w5.frozen? ⟨w.heap.size + 1, 114, none⟩ = false := frozen_of_row _ _ _ _ _ hbk
          have HG := Lib.hid hG
          clear hown' hgrow hown2 hnil' hbk hG hb hN
          refine hK.out _ _ trivial (fun _ => ?_)
          clear hK K
          refine Held.take (i := 11) (some 119) rfl (v := ?_) rfl (by kernel_rfl) (by kernel_rfl) (by kernel_rfl) (fun _ _ _ h => HP _ _ _ _ _ h) (Or.inl ⟨by rfl, ?_⟩) hS ?_
          rotate_left
          · intro w' hw'
            go_simp
            try with_reducible rfl
          (try dsimp only [Act.put]); (try simp only [List.setIfInBounds_toArray, List.set_cons_zero, List.set_cons_succ])
          refine wpAnyH_ready (rs := [12]) (by kernel_rfl) (by simp) (AllReadyH.cons rfl (fun K hK => ?_) AllReadyH.nil)
          go_simp
          refine hK.out _ _ trivial (fun _ => ?_)
          clear hK K
          refine wpAnyH_done (by kernel_rfl) ?_ _
          clear hS c5 f5
          go_wp2
          go_roundw
          case rel => exact ⟨j + 1, by omega, by have := HI.out; go_num, _, by rw [NX.out]; exact HG.out⟩
          case measure => simp [intOf]; have := HI.out; omega
        · go_simp
          refine (RC.out _ hb).mono ?_
          rintro e v2 ⟨rfl, hbb⟩
          replace hb := hb.step hbb
          clear hbb
          rename World => v
          rw [show X.cells.toArray = #[I X.bars, I X.clear, I X.dwell, I X.exit, I X.delay, I X.green, I X.foot, I X.hold, I X.stay, I X.most, I X.limit] from rfl]
          go_simp
          refine hK.out _ _ trivial (fun _ => ?_)
          clear hK K
          refine wpAnyH_ready (rs := [1, 9]) (by kernel_rfl) (by simp) (AllReadyH.cons rfl (fun K hK => ?_) (AllReadyH.cons rfl (fun K hK => ?_) AllReadyH.nil))
          · have c4 : v.cell? ⟨w.heap.size + 1, 114, none⟩ = some (.slice da D.length dc) := by rw [hb.cell, ← List.getElem?_toArray]; exact (cells_ok hb.tab).r
            go_simp
            refine hK.out _ _ trivial (fun _ => ?_)
            clear hK K
            clear c4
            refine wpAnyH_ready (rs := [9]) (by kernel_rfl) (by simp) (AllReadyH.cons rfl (fun K hK => ?_) AllReadyH.nil)
            go_simp
            have hbw : Below v.heap.size v (v.alloc (.cells #[I X.bars, I X.clear, I X.dwell, I X.exit, I X.delay, I X.green, I X.foot, I X.hold, I X.stay, I X.most, I X.limit] 78)) := (Below.refl _ _).alloc (Nat.le_refl _) _
            have hN := heap_alloc_new v (.cells #[I X.bars, I X.clear, I X.dwell, I X.exit, I X.delay, I X.green, I X.foot, I X.hold, I X.stay, I X.most, I X.limit] 78)
            replace hb := hb.step hbw
            clear hbw
            generalize hbn : v.heap.size = bn at hN ⊢
            clear hbn
            generalize World.alloc v (.cells #[I X.bars, I X.clear, I X.dwell, I X.exit, I X.delay, I X.green, I X.foot, I X.hold, I X.stay, I X.most, I X.limit] 78) = v at hb hN ⊢
            refine hK.out _ _ trivial (fun _ => ?_)
            clear hK K
            refine wpAnyH_ready (rs := [10]) (by kernel_rfl) (by simp) (AllReadyH.cons rfl (fun K hK => ?_) AllReadyH.nil)
            rw [if_pos (by rfl)]
            have hown2 : v.ownsRow w.heap.size 78 11 (.slice da D.length dc) D.length (D.flatMap Rl.cells) := hb.rails
            refine wp_append_own _ _ _ _ rfl w.heap.size 78 j0 (.agg #[I 0, I 0, I 0, I 0, I 0, I 0, I 0, I 0, I 0, I 0, I 0]) 11 88 Tryd.underlying28 hj hy0 hy1 hy2 rfl (by decide) (.slice da D.length dc) D.length _ rfl hown2 ⟨bn, 0, none⟩ 1 1 X.cells rfl rfl ?c1 ?c2 ?c3 ?c4 hb.bel.size ?_
            case c1 =>
              intro j e hj
              exact Row.lies_of_block hN j e hj
            case c2 => intro e he; have h1 := Rl.one X; exact (Array.all_eq_true_iff_forall_mem.1 h1) e (by simpa using he)
            case c3 => unfold maxLen; have := DL.out; omega
            case c4 => have := DL.out; omega
            intro v' w5 hown' hgrow hnil'
            obtain ⟨hbk, a', c', rfl, hG⟩ := hb.put_rails X hgrow hown'
            have c5 : w5.cell? ⟨w.heap.size + 1, 114, none⟩ = some (.slice da D.length dc) := by rw [cell_of_row _ _ _ _ _ _ hbk]; exact (cells_ok hb.tab).r
            have f5 : w5.frozen? ⟨w.heap.size + 1, 114, none⟩ = false := frozen_of_row _ _ _ _ _ hbk
            have HG := Lib.hid hG
            clear hown' hgrow hown2 hnil' hbk hG hb hN
            refine hK.out _ _ trivial (fun _ => ?_)
            clear hK K
            refine Held.take (i := 11) (some 119) rfl (v := ?_) rfl (by kernel_rfl) (by kernel_rfl) (by kernel_rfl) (fun _ _ _ h => HP _ _ _ _ _ h) (Or.inl ⟨by rfl, ?_⟩) hS ?_
            rotate_left
            · intro w' hw'
              go_simp
              try with_reducible rfl
            (try dsimp only [Act.put]); (try simp only [List.setIfInBounds_toArray, List.set_cons_zero, List.set_cons_succ])
            refine wpAnyH_ready (rs := [12]) (by kernel_rfl) (by simp) (AllReadyH.cons rfl (fun K hK => ?_) AllReadyH.nil)
            go_simp
            refine hK.out _ _ trivial (fun _ => ?_)
            clear hK K
            refine wpAnyH_done (by kernel_rfl) ?_ _
            clear hS c5 f5
            go_wp2
            go_roundw
            case rel => exact ⟨j + 1, by omega, by have := HI.out; go_num, _, by rw [NX.out]; exact HG.out⟩
            case measure => simp [intOf]; have := HI.out; omega
          · go_simp
            have hbw : Below v.heap.size v (v.alloc (.cells #[I X.bars, I X.clear, I X.dwell, I X.exit, I X.delay, I X.green, I X.foot, I X.hold, I X.stay, I X.most, I X.limit] 78)) := (Below.refl _ _).alloc (Nat.le_refl _) _
            have hN := heap_alloc_new v (.cells #[I X.bars, I X.clear, I X.dwell, I X.exit, I X.delay, I X.green, I X.foot, I X.hold, I X.stay, I X.most, I X.limit] 78)
            replace hb := hb.step hbw
            clear hbw
            generalize hbn : v.heap.size = bn at hN ⊢
            clear hbn
            generalize World.alloc v (.cells #[I X.bars, I X.clear, I X.dwell, I X.exit, I X.delay, I X.green, I X.foot, I X.hold, I X.stay, I X.most, I X.limit] 78) = v at hb hN ⊢
            refine hK.out _ _ trivial (fun _ => ?_)
            clear hK K
            refine wpAnyH_ready (rs := [1]) (by kernel_rfl) (by simp) (AllReadyH.cons rfl (fun K hK => ?_) AllReadyH.nil)
            have c4 : v.cell? ⟨w.heap.size + 1, 114, none⟩ = some (.slice da D.length dc) := by rw [hb.cell, ← List.getElem?_toArray]; exact (cells_ok hb.tab).r
            go_simp
            refine hK.out _ _ trivial (fun _ => ?_)
            clear hK K
            clear c4
            refine wpAnyH_ready (rs := [10]) (by kernel_rfl) (by simp) (AllReadyH.cons rfl (fun K hK => ?_) AllReadyH.nil)
            rw [if_pos (by rfl)]
            have hown2 : v.ownsRow w.heap.size 78 11 (.slice da D.length dc) D.length (D.flatMap Rl.cells) := hb.rails
            refine wp_append_own _ _ _ _ rfl w.heap.size 78 j0 (.agg #[I 0, I 0, I 0, I 0, I 0, I 0, I 0, I 0, I 0, I 0, I 0]) 11 88 Tryd.underlying28 hj hy0 hy1 hy2 rfl (by decide) (.slice da D.length dc) D.length _ rfl hown2 ⟨bn, 0, none⟩ 1 1 X.cells rfl rfl ?c1 ?c2 ?c3 ?c4 hb.bel.size ?_
            case c1 =>
              intro j e hj
              exact Row.lies_of_block hN j e hj
            case c2 => intro e he; have h1 := Rl.one X; exact (Array.all_eq_true_iff_forall_mem.1 h1) e (by simpa using he)
            case c3 => unfold maxLen; have := DL.out; omega
            case c4 => have := DL.out; omega
            intro v' w5 hown' hgrow hnil'
            obtain ⟨hbk, a', c', rfl, hG⟩ := hb.put_rails X hgrow hown'
            have c5 : w5.cell? ⟨w.heap.size + 1, 114, none⟩ = some (.slice da D.length dc) := by rw [cell_of_row _ _ _ _ _ _ hbk]; exact (cells_ok hb.tab).r
            have f5 : w5.frozen? ⟨w.heap.size + 1, 114, none⟩ = false := frozen_of_row _ _ _ _ _ hbk
            have HG := Lib.hid hG
            clear hown' hgrow hown2 hnil' hbk hG hb hN
            refine hK.out _ _ trivial (fun _ => ?_)
            clear hK K
            refine Held.take (i := 11) (some 119) rfl (v := ?_) rfl (by kernel_rfl) (by kernel_rfl) (by kernel_rfl) (fun _ _ _ h => HP _ _ _ _ _ h) (Or.inl ⟨by rfl, ?_⟩) hS ?_
            rotate_left
            · intro w' hw'
              go_simp
              try with_reducible rfl
            (try dsimp only [Act.put]); (try simp only [List.setIfInBounds_toArray, List.set_cons_zero, List.set_cons_succ])
            refine wpAnyH_ready (rs := [12]) (by kernel_rfl) (by simp) (AllReadyH.cons rfl (fun K hK => ?_) AllReadyH.nil)
            go_simp
            refine hK.out _ _ trivial (fun _ => ?_)
            clear hK K
            refine wpAnyH_done (by kernel_rfl) ?_ _
            clear hS c5 f5
            go_wp2
            go_roundw
            case rel => exact ⟨j + 1, by omega, by have := HI.out; go_num, _, by rw [NX.out]; exact HG.out⟩
            case measure => simp [intOf]; have := HI.out; omega
    · have hje : j = k := by omega
      subst hje
      rw [show ((j - j : Nat) : Int) = (0 : Int) by omega]
      go_wp2
      exact HQ.out _ _ _ _ _ _ _ _ _ _ _ _ _ _ _ _ _ _ _ HB.out
end GenT
end Go.Proofs.YtkccepdifgldeaaDoor
