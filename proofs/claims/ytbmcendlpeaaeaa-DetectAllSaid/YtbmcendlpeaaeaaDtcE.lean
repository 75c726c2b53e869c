/- Channels compared: ==, and the statements' own SameChannels at two slices that hold the same. -/
import Derived.Test.YtbmcendlpeaaeaaDtcH
import Derived.Test.YtbmcendlpeaaeaaSameB
import Derived.Test.YtbmcendlpeaaeaaRecs
namespace Go.Proofs.Ytbmcendlpeaaeaa.Dtc
open Go.ChangeShapes Go.WideShapes Go.ChangeAt Go.RowKit
open Tab Flat TabArg Copy Go.Proofs.Fl
open Lvl (Lv stp failed)
open Dig (Wd wat stk)
open Dly (Tm tmr)
set_option linter.unusedVariables false
set_option linter.unusedSimpArgs false
set_option maxRecDepth 100000
theorem flC2 : flat Try.prog 5 63 = some [4, 3, 3, 3, 3, 3, 4] := by kernel_rfl
theorem ch_eqs (c d : Ch) : Same.Eqs 63 c.cells d.cells (decide (c = d)) := by
  obtain ⟨⟨a0, a1⟩, ⟨a2, a3⟩, a4, a5, a6⟩ := c
  obtain ⟨⟨b0, b1⟩, ⟨b2, b3⟩, b4, b5, b6⟩ := d
  refine Same.eqs_of flC2 (by decide) (by kernel_rfl) [(.bool a0, .bool b0), (I a1, I b1), (I a2, I b2), (I a3, I b3), (I a4, I b4), (I a5, I b5), (.bool a6, .bool b6)] ⟨Same.lbool _ _, Same.lint _ _, Same.lint _ _, Same.lint _ _, Same.lint _ _, Same.lint _ _, Same.lbool _ _, trivial⟩ rfl rfl ?_
  simp [Ch.cells, and_assoc]
theorem guardC : Try.prog.eqGuardType Try.prog.depth 63 = false := by kernel_rfl
/-- Two structs compared in a walk by a class. -/
theorem wpQuiet_neq {P : Program} {C : World → Prop} {ops : Array Oper} {Q : Act → Prop} {a : Act} {o : Oper} {rest : List Oper} (hw : Region.wanted o (yielded ops a.tmps) = true) (t : TypeId) (x y : Operand) (t2 : TypeId) (ho : o.op = .binOp .neq t x y t2) (xs ys : Array Value) (hx : a.eval x = .agg xs) (hy : a.eval y = .agg ys)
    (hg : P.eqGuardType P.depth t = false) (b : Bool) (he : ∀ w, (Op.equalIn 10000 t (.agg xs) (.agg ys)).run P w = .ok b w) (h : wpQuiet P ops C Q rest (a.put o.dst (.bool (!b)))) : wpQuiet P ops C Q (o :: rest) a :=
  wpQuiet_step fun K hK => by
    rw [if_pos hw]
    refine ⟨_, fun w _ => ?_, hK _ h⟩
    unfold Oper.quietAt
    rw [Row.run_neq_op w t x y t2 ho xs ys hx hy hg b he]
    exact ⟨rfl, rfl⟩
set_option maxHeartbeats 4000000 in
theorem same_any {w : World} {a b : Option Addr} {cap cap2 n : Nat} {l : List Ch} (ha : RowOf 7 Ch.cells w ⟨a, cap⟩ l) (hb : RowOf 7 Ch.cells w ⟨b, cap2⟩ l) (hn : l.length = n) :
    Calls Try.prog 11 #[.slice a n cap, .slice b n cap2] w fun e w' => e = .returned (.bool true) ∧ Below w.heap.size w w' := by
  have h1 := ha.len
  have h2 := hb.len
  unfold maxLen at h1 h2
  rw [hn] at h1 h2
  obtain ⟨h11, h12⟩ := h1
  obtain ⟨h21, h22⟩ := h2
  have HA := Lib.hid ha
  have HB := Lib.hid hb
  have HN := Lib.hid hn
  clear ha hb hn
  go_enter Try.func11, Try.ntmps11
  go_wp2_with fail
  go_loopw [5] (fun i wr => ∃ (q : Nat), q ≤ n ∧ i = .int .i64 q ∧ Below w.heap.size w wr) (fun i _ => n - (intOf i).toNat)
  case atStart => exact ⟨0, by omega, rfl, Below.refl _ _⟩
  case round =>
    obtain ⟨q, hq, rfl, hB⟩ := hrel
    have HW := Lib.hid hB
    clear hB
    by_cases hlt : q < n
    · obtain ⟨c, hc⟩ : ∃ c, l[q]? = some c := ⟨_, List.getElem?_eq_getElem (by rw [HN.out]; omega)⟩
      obtain ⟨y, hy, hly⟩ := HA.out.at hc
      obtain ⟨z, hz, hlz⟩ := HB.out.at hc
      obtain rfl : a = some y := hy
      obtain rfl : b = some z := hz
      have HY : Hid (∀ w', (∃ p : QB.By wr.heap.size wr, w' = p.world) → Lies w' (y.add (q * 7)) c.cells) := Lib.hid (fun w' ⟨p, e⟩ => by rw [e]; exact Lies.below hly (HW.out.trans (p.below.mono HW.out.size)))
      have HZ : Hid (∀ w', (∃ p : QB.By wr.heap.size wr, w' = p.world) → Lies w' (z.add (q * 7)) c.cells) := Lib.hid (fun w' ⟨p, e⟩ => by rw [e]; exact Lies.below hlz (HW.out.trans (p.below.mono HW.out.size)))
      have HE : Hid (∀ w, (Op.equalIn 10000 63 (.agg c.cells.toArray) (.agg c.cells.toArray)).run Try.prog w = .ok true w) := Lib.hid (by have := ch_eqs c c; rwa [decide_eq_true rfl] at this)
      clear hc hly hlz
      have IC : (Try.prog.info? 63).map (·.size) = some c.cells.length := infoC
      generalize c.cells = cs at HY HZ HE IC
      clear c
      have hcs : True := trivial
      go_upto_region 6 with fail
      refine QB.region_below wr.heap.size (by kernel_rfl) (by kernel_rfl) ?_
      quiet_step (fail)
      quiet_step (fail)
      quiet_step (fail)
      refine wpQuiet_load rfl 63 _ rfl (y.add (q * 7)) rfl cs _ HY.out Try.underlying63 rfl IC ?_
      dsimp only [Act.put]
      simp only [List.setIfInBounds_toArray, List.set_cons_zero, List.set_cons_succ]
      quiet_step (fail)
      quiet_step (fail)
      quiet_step (fail)
      refine wpQuiet_load rfl 63 _ rfl (z.add (q * 7)) rfl cs _ HZ.out Try.underlying63 rfl IC ?_
      dsimp only [Act.put]
      simp only [List.setIfInBounds_toArray, List.set_cons_zero, List.set_cons_succ]
      refine wpQuiet_neq rfl 63 _ _ _ rfl cs.toArray cs.toArray rfl rfl guardC true HE.out ?_
      dsimp only [Act.put]
      simp only [List.setIfInBounds_toArray, List.set_cons_zero, List.set_cons_succ]
      refine wpQuiet_nil ?_
      intro _ hw'
      obtain ⟨p, rfl⟩ := hw'
      have HW2 := Lib.hid (HW.out.trans (p.below.mono HW.out.size))
      clear HW
      generalize p.world = W2 at HW2 ⊢
      go_wp2
      go_roundw
      case rel => exact ⟨q + 1, by omega, by go_num, HW2.out⟩
      case measure => simp [intOf]; omega
    · obtain rfl : q = n := by omega
      go_wp2
      go_ret
      exact ⟨rfl, HW.out⟩
theorem light_any {T : Tab} {hd : Hd} {w : World} (ht : IsTab w hd T) : Calls Try.prog 7 #[.agg (T.cells hd).toArray] w fun e w' => e = .returned (.bool (decide (T.dets.length ≤ 20))) ∧ Below w.heap.size w w' := by
  have CK := Lib.hid (cells_ok ht)
  have hdd := ht.dets.len
  have q113 := CK.out.d
  generalize (T.cells hd).toArray = tc at *
  obtain ⟨sg, ⟨da, dcap⟩, sr, sb⟩ := hd
  generalize T.dets.length = n at *
  unfold maxLen at hdd
  obtain ⟨hd1, hd2⟩ := hdd
  clear CK ht
  have h0 := (Blk.Bks.nil w).alloc tc 31
  by_cases hn : n ≤ 20
  · have HE : Hid (decide (n ≤ 20) = true) := Lib.hid (decide_eq_true hn)
    go_enter Try.func7, Try.ntmps7
    go_upto_region 1 with fail
    generalize World.alloc w _ = u at h0 ⊢
    generalize w.heap.size = gt at h0 ⊢
    have H0 := Lib.hid h0
    clear h0
    have k113 : u.cell? ⟨gt, 113, none⟩ = some (.slice da n dcap) := H0.out.cell 0 113 rfl q113
    go_wp2
    go_ret
    exact ⟨by (try rw [HE.out]); show Ending.returned (.bool (decide ((n : Int) ≤ 20))) = _; first | rw [decide_eq_true (by omega)] | rw [decide_eq_false (by omega)], H0.out.bel⟩
  · have HE : Hid (decide (n ≤ 20) = false) := Lib.hid (decide_eq_false hn)
    go_enter Try.func7, Try.ntmps7
    go_upto_region 1 with fail
    generalize World.alloc w _ = u at h0 ⊢
    generalize w.heap.size = gt at h0 ⊢
    have H0 := Lib.hid h0
    clear h0
    have k113 : u.cell? ⟨gt, 113, none⟩ = some (.slice da n dcap) := H0.out.cell 0 113 rfl q113
    go_wp2
    go_ret
    exact ⟨by (try rw [HE.out]); show Ending.returned (.bool (decide ((n : Int) ≤ 20))) = _; first | rw [decide_eq_true (by omega)] | rw [decide_eq_false (by omega)], H0.out.bel⟩
theorem flC4 : flat Try.prog 4 63 = some chT := by kernel_rfl
theorem FltRow.of_flts {w : World} {a : Option Addr} {len cap : Nat} {Z : Nat → Nat} (h : Recs.IsFlts w a len cap Z) : ∃ xs : List Nat, xs.length = len ∧ FltRow w ⟨a, cap⟩ xs := by
  refine ⟨(List.range len).map Z, by simp, ?_, ?_⟩
  · rcases h with ⟨rfl, rfl, rfl⟩ | ⟨x, rfl, h1, h2, h3⟩
    · exact .inl ⟨rfl, rfl, rfl⟩
    · refine .inr ⟨x, rfl, by simpa using h1, h2, fun i v hv => ?_⟩
      have hi : i < len := by have := (List.getElem?_eq_some_iff.1 hv).1; simpa using this
      rw [List.getElem?_map, List.getElem?_range hi] at hv
      obtain rfl := Option.some.inj hv
      intro j u hj
      cases j with
      | zero => obtain rfl := Option.some.inj hj; rw [Tab.add_zero, Nat.mul_one]; exact (h3 i hi).1
      | succ j => simp at hj
  · intro x hx
    obtain ⟨i, hi, rfl⟩ := List.mem_map.1 hx
    rw [List.mem_range] at hi
    rcases h with ⟨rfl, rfl, rfl⟩ | ⟨y, rfl, h1, h2, h3⟩
    · omega
    · simpa [Lit.wf] using (h3 i hi).2
end Go.Proofs.Ytbmcendlpeaaeaa.Dtc
