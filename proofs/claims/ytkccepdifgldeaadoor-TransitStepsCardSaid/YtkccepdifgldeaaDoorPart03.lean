/- 18 texts in one file, in build order. -/
import Derived.Test.YtkccepdifgldeaaDoorPart02
import Derived.Test.YtkccepdifgldeaaDoorPart01
import Derived.Test.YtkccepdifgldeaaDoorRows
import Derived.WalkKit
import Derived.ProofKit
import Derived.IntWalk
import Derived.Lib.Hide
import Derived.LoopTactic
import Derived.Below
import Derived.RangeFuncCalls
import Derived.OrdersIn
import Derived.TacticsIn
import Derived.RangeFuncNested
import Derived.RangeFuncBound
import Derived.RangeFuncLeaves
import Derived.RangeFuncBox
import Derived.Shelf.Abstract
import Derived.Shelf.RegionOpen
import Derived.OwnWalkIn
import Derived.TacticsInMore
import Derived.LoopNIn
import Derived.LoopIn
import Derived.Maps.AppendAt
import Derived.BigQuiet
import Derived.Deep.Cut
import Derived.Great.BuildSlice
set_option linter.unusedVariables false
set_option linter.unusedSimpArgs false
set_option linter.unusedSectionVars false
set_option maxHeartbeats 8000000
set_option maxRecDepth 100000
namespace Go.Proofs.YtkccepdifgldeaaDoor
namespace Rg
open Go Go.ChangeShapes Go.WideShapes Go.ChangeAt Go.RowKit
open Tab Flat TabArg QL Ru PlanM
open ChkM (cfAt)
open Clear (phAt)
open PlaceM (where_ spots Spt)
open May (infoP)
theorem cellsR : Tryd.prog.cellsOf 40 = 12 := by kernel_rfl
theorem rowR : Flat.rowT Tryd.prog 40 = true := by kernel_rfl
theorem infoRz : ∃ i, Tryd.prog.info? 40 = some i ∧ i.size = 12 := by
  have h : (Tryd.prog.info? 40).map (·.size) = some 12 := infoRu
  cases e : Tryd.prog.info? 40 with
  | none => rw [e] at h; cases h
  | some i => rw [e] at h; exact ⟨i, rfl, Option.some.inj h⟩
theorem ret_int {k : IntKind} {a b : Int} (h : a = b) : Ending.returned (.int k a) = .returned (.int k b) := by rw [h]
theorem idx_run {l : List Ru} {q : Nat} {u : Ru} (hl : l.length = 8) (hu : l[q]? = some u) (w : World) :
    Sem.run Tryd.prog (Instr.index 41 (.agg (runsC l).toArray) (.int .i64 q)) w = .ok (.agg u.cells.toArray) w := by
  have hq : q < l.length := (List.getElem?_eq_some_iff.1 hu).1
  obtain ⟨i, hi, hs⟩ := infoRz
  have hp := Flat.run_part (P := Tryd.prog) w (t := 40) (d := _) Tryd.underlying40 (by rw [rowR]; simp) (runsC l) (q * 12) (by rw [cellsR, runs_len]; omega)
  rw [cellsR, Flat.vOf, if_pos rowR, runs_take hu] at hp
  unfold Instr.index
  have hc : 0 ≤ (q : Int) ∧ (q : Int) < 8 := by omega
  simp [run_underlying Tryd.underlying41, asIntOf]
  rw [if_pos (by omega)]
  first | exact hp | (rw [cellsR]; exact hp)
end Rg
namespace Rg
open Go Go.ChangeShapes Go.WideShapes Go.ChangeAt Go.RowKit
open Tab Flat TabArg QL Ru PlanM
open ChkM (cfAt)
open Clear (phAt)
open PlaceM (where_ spots Spt)
open May (infoP)
theorem okWide_arr {P : Program} {w : World} {r : Reach} {base : Nat} {t : TypeId} {v : Value} {n : Nat} {e : TypeId} (ht : P.underlying t = some (.array n e)) (h : Value.okWide P w r base t v) : ∃ cs, v = .agg cs ∧ cs.size = P.cellsOf t := by
  simp only [Value.okWide, ht] at h
  obtain ⟨cs, h1, h2, _⟩ := h
  exact ⟨cs, h1, h2⟩
section
variable {H : Type} {enc : TypeId × Value → H} {P : Program} {w : World} {base : Nat} {spare : Nat → Bool} {held : Bool}
theorem all2_split {α β : Type} {R : α → β → Prop} : ∀ {l m : List α} {cs : List β}, All2 R (l ++ m) cs → ∃ a b, cs = a ++ b ∧ All2 R l a ∧ All2 R m b
  | [], m, cs, h => ⟨[], cs, rfl, trivial, h⟩
  | x :: l, m, [], h => h.elim
  | x :: l, m, c :: cs, h => by
    obtain ⟨a, b, rfl, h1, h2⟩ := all2_split (l := l) h.2
    exact ⟨c :: a, b, rfl, ⟨h.1, h1⟩, h2⟩
def ruT : List TypeId := [3, 3, 3, 3, 3, 3, 3, 4, 4, 3, 3, 3]
def rusT : Nat → List TypeId
  | 0 => []
  | n + 1 => ruT ++ rusT n
theorem flRs : flat Tryd.prog 5 41 = some (rusT 8) := by kernel_rfl
theorem rus_el : ∀ (n : Nat) {cs : List Value}, All2 (Tr enc Tryd.prog w base spare held) (rusT n) cs → ∃ rs : List Ru, rs.length = n ∧ cs = runsC rs
  | 0, [], _ => ⟨[], rfl, rfl⟩
  | n + 1, cs, h => by
    obtain ⟨a, b, rfl, h1, h2⟩ := all2_split h
    obtain ⟨r, rfl⟩ := ru_el h1
    obtain ⟨rs, hl, rfl⟩ := rus_el n h2
    exact ⟨r :: rs, by simp [hl], rfl⟩
end
end Rg
namespace Tr
attribute [local go_sem] Oper.semAt_some
open Go Go.ChangeShapes Go.WideShapes Go.ChangeAt Go.RowKit
open Tab Flat TabArg QL Ru Rg PlanM
theorem flRid : flat Tryd.prog 4 34 = some [3, 3, 3, 3, 3, 3] := by kernel_rfl
theorem flRid5 : flat Tryd.prog 5 34 = some [3, 3, 3, 3, 3, 3] := by kernel_rfl
section
variable {H : Type} {enc : TypeId × Value → H} {P : Program} {w : World} {base : Nat} {spare : Nat → Bool} {held : Bool}
theorem rid_el : ∀ {cs : List Value}, All2 (Tr enc Tryd.prog w base spare held) [3, 3, 3, 3, 3, 3] cs → ∃ d : Rid, cs = d.cells
  | [_, _, _, _, _, _], ⟨h0, h1, h2, h3, h4, h5, _⟩ => by
    obtain ⟨v0, rfl⟩ := tr_int Tryd.underlying3 h0
    obtain ⟨v1, rfl⟩ := tr_int Tryd.underlying3 h1
    obtain ⟨v2, rfl⟩ := tr_int Tryd.underlying3 h2
    obtain ⟨v3, rfl⟩ := tr_int Tryd.underlying3 h3
    obtain ⟨v4, rfl⟩ := tr_int Tryd.underlying3 h4
    obtain ⟨v5, rfl⟩ := tr_int Tryd.underlying3 h5
    exact ⟨⟨v0, v1, v2, v3, v4, v5⟩, rfl⟩
end
theorem rid_eqs (r q : Rid) : Same.Eqs 34 r.cells q.cells (decide (r = q)) := by
  obtain ⟨a0, a1, a2, a3, a4, a5⟩ := r
  obtain ⟨b0, b1, b2, b3, b4, b5⟩ := q
  refine Same.eqs_of flRid5 (by decide) (by kernel_rfl) [(I a0, I b0), (I a1, I b1), (I a2, I b2), (I a3, I b3), (I a4, I b4), (I a5, I b5)]
    ⟨Same.lint _ _, Same.lint _ _, Same.lint _ _, Same.lint _ _, Same.lint _ _, Same.lint _ _, trivial⟩ rfl rfl ?_
  simp [Rid.cells]
theorem rid_same (r : Rid) : Same.Eqs 34 r.cells r.cells true := by simpa using rid_eqs r r
theorem guardRid : Tryd.prog.eqGuardType Tryd.prog.depth 34 = false := by kernel_rfl
end Tr
namespace SetP
open Go.ChangeShapes Go.WideShapes Go.ChangeAt Go.RowKit
open Go.Proofs.YtkccepdifgldeaaDoor
theorem ret_int {k : IntKind} {a b : Int} (h : a = b) : Ending.returned (.int k a) = .returned (.int k b) := by rw [h]
theorem ret_bool {a b : Bool} (h : a = b) : Ending.returned (.bool a) = .returned (.bool b) := by rw [h]
theorem eight {p : Int} (h : 0 ≤ p) (h' : p < 8) : p = 0 ∨ p = 1 ∨ p = 2 ∨ p = 3 ∨ p = 4 ∨ p = 5 ∨ p = 6 ∨ p = 7 := by omega
theorem bit_any (p : Int) (w : World) : Calls Tryd.prog 41 #[.int .i64 p] w fun e w' => e = .returned (.int .i64 (SetM.bit p)) ∧ w = w' := by
  by_cases h1 : p < 0
  · have HB := Lib.hid (SetM.bit_out (p := p) (by omega))
    go_enter Tryd.func41, Tryd.ntmps41
    go_wp2
    go_ret
    exact ⟨ret_int (by rw [HB.out]; rfl), rfl⟩
  by_cases h2 : 8 ≤ p
  · have HB := Lib.hid (SetM.bit_out (p := p) (by omega))
    go_enter Tryd.func41, Tryd.ntmps41
    go_wp2
    go_ret
    exact ⟨ret_int (by rw [HB.out]; rfl), rfl⟩
  rcases eight (p := p) (by omega) (by omega) with rfl | rfl | rfl | rfl | rfl | rfl | rfl | rfl
  all_goals
    clear h1 h2
    go_enter Tryd.func41, Tryd.ntmps41
    go_wp2
    go_ret
    exact ⟨ret_int (by decide), rfl⟩
theorem ne_has (s p : Int) : (bits .and .i64 s (SetM.bit p) != 0) = SetM.has s p := by
  have h := SetM.has_and s p
  cases hb : SetM.has s p
  · rw [h.2 hb]; rfl
  · rw [bne_iff_ne]; intro e; rw [h.1 e] at hb; cases hb
theorem has_any (s p : Int) (w : World) : Calls Tryd.prog 40 #[.int .i64 s, .int .i64 p] w fun e w' => e = .returned (.bool (SetM.has s p)) ∧ w = w' := by
  have HB := Lib.hid (ne_has s p)
  go_enter Tryd.func40, Tryd.ntmps40
  go_wp2_with (go_at_call 41; refine (bit_any _ _).mono ?_; rintro e w' ⟨rfl, rfl⟩)
  go_ret
  exact ⟨ret_bool HB.out, rfl⟩
end SetP
namespace Pw
open Go Go.RowKit
open Tab
structure W (P : Program) (ops : Array Oper) (D : Nat → World → Prop) (cs : List Nat) (Q : Act → Prop) (k : Nat) (l : List Oper) (a : Act) : Prop where
  out : Ph.wpPh P ops D cs Q k l a
section
variable {P : Program} {D : Nat → World → Prop} {ns : List Nat} {ops : Array Oper} {Q : Act → Prop} {k : Nat} {a : Act} {o : Oper} {rest : List Oper}
theorem region {id : Nat} {Q : Exit → Act → World → Prop} {a : Act} {w : World} {l : List Oper} (D : Nat → World → Prop) (cs : List Nat) (hm : P.follows .mixedOrders = true) (hB : Ph.okB .any l.toArray cs = true) (hD : D 0 w.drew)
    (h : W P l.toArray D cs (fun a' => ∀ w', D cs.length w' → Q .normal a' w') 0 l a) : (Code.region id l.toArray true).wp P Q a w := Ph.wp_region_ph D cs hm hB hD h.out
end
end Pw
namespace Up
open Go Go.RowKit
def noDefer (l : List Oper) : Bool := l.all fun o => match o.op with | .defer _ => false | _ => true
theorem not_defer {l : List Oper} (h : noDefer l = true) {o : Oper} (ho : o ∈ l) : ∀ c, o.op ≠ .defer c := by
  intro c e
  have := List.all_eq_true.1 h o ho
  rw [e] at this
  cases this
section
variable {P : Program} {l n : Nat} {Q : Exit → Act → World → Prop}
theorem op_up {o : Oper} {a : Act} {w : World} {K K' : Act → World → Prop} (hn : ∀ a w, K a w → K' a w) (hd : ∀ c, o.op ≠ .defer c) (h : o.wp P a w K Q) : o.wpIn (Fence.wide.inRound l) n P a w K' Q := by
  refine ⟨fun _ _ => trivial, ?_⟩
  rw [show (Fence.wide.inRound l).round = some l from rfl, Oper.semAt_some l _ _ hd]
  unfold Oper.wp at h
  generalize (execOp a.eval o).run P w = r at h
  cases r with
  | ok nx w' =>
    cases nx with
    | value v => exact hn _ _ h
    | skip => exact hn _ _ h
    | defer d => exact hn _ _ h
    | enter f args =>
      refine ⟨fun h => (by cases h), CallsIn.inRound l (callsIn_wide.2 (Calls.mono h ?_))⟩
      intro e w'' he
      cases e with
      | returned v => exact hn _ _ he
      | panicked c => exact he
      | outgrown => exact he
    | row row args => exact ⟨fun h => (by cases h), fun c cs _ => let ⟨v, w', r, s⟩ := h c cs; ⟨v, w', hn _ _ r, stepsIn_wide.2 s⟩⟩
    | _ => exact h.elim
  | halt e w' =>
    cases e with
    | panic v => exact h
    | _ => exact h.elim
theorem list_up (hQ : ¬ LetsOut Q) {ops : Array Oper} : ∀ (m : List Oper) (a : Act) (w : World), noDefer m = true → wpList P ops Q m a w → wpListIn (Fence.wide.inRound l) n P ops Q m a w
  | [], a, w, _, h => h
  | o :: rest, a, w, hd, h => by
    have hr : noDefer rest = true := by unfold noDefer at hd ⊢; rw [List.all_cons, Bool.and_eq_true] at hd; exact hd.2
    unfold wpList at h
    unfold wpListIn
    split at h
    · rename_i hw
      rw [if_pos hw]
      rcases h with h | h
      · exact op_up (fun a w h => list_up hQ rest a w hr h) (not_defer hd (List.mem_cons_self ..)) h
      · exact absurd h.2 hQ
    · rename_i hw
      rw [if_neg hw]
      exact ⟨fun _ _ => trivial, list_up hQ rest _ _ hr h⟩
theorem any_up (hQ : ¬ LetsOut Q) {md : Region.Mode} {ops : Array Oper} (hd : noDefer ops.toList = true) : ∀ (fuel : Nat) (listed : Array Bool) (a : Act) (w : World), wpAny P md ops Q fuel listed a w → wpAnyIn (Fence.wide.inRound l) n P md ops Q fuel listed a w
  | 0, _, _, _, h => h
  | fuel + 1, listed, a, w, h => by
    refine ⟨h.1, fun i hi => ?_⟩
    have h1 := h.2 i hi
    unfold wpOp at h1
    unfold wpOpIn
    cases ho : ops[i]? with
    | none => rw [ho] at h1; exact any_up hQ hd fuel _ _ _ h1
    | some o =>
      rw [ho] at h1
      have hm : o ∈ ops.toList := List.mem_of_getElem? (by rw [Array.getElem?_toList]; exact ho)
      dsimp only at h1 ⊢
      split at h1
      · rename_i hw
        rw [if_pos hw]
        rcases h1 with h1 | h1
        · exact op_up (fun a w h => any_up hQ hd fuel _ a w h) (not_defer hd hm) h1
        · exact absurd h1.2 hQ
      · rename_i hw
        rw [if_neg hw]
        exact ⟨fun _ _ => trivial, any_up hQ hd fuel _ _ _ h1⟩
/-- A region that does not draw, in a round, by the plain walk. -/
theorem region_list {id : Nat} {m : List Oper} {a : Act} {w : World} (hQ : ¬ LetsOut Q) (hd : noDefer m = true) (h : wpList P m.toArray Q m a w) : (Code.region id m.toArray false).wpIn (Fence.wide.inRound l) n P Q a w :=
  wpIn_region_lit (list_up hQ m a w hd h)
end
end Up
namespace Each
open Go.RowKit Go.Shelf
open Go.Proofs.YtkccepdifgldeaaDoor
attribute [local go_sem] Oper.semAt_some
/-- The block B lies as it lay. -/
def Kept (B : Nat) (W W' : World) : Prop := W'.heap[B]? = W.heap[B]?
theorem Kept.refl (B : Nat) (W : World) : Kept B W W := rfl
theorem Kept.trans {B : Nat} {A C D : World} (h : Kept B A C) (k : Kept B C D) : Kept B A D := Eq.trans k h
theorem Kept.cell {B o : Nat} {A C : World} (h : Kept B A C) : C.cell? ⟨B, o, none⟩ = A.cell? ⟨B, o, none⟩ := by
  simp only [World.cell?, show C.heap[B]? = A.heap[B]? from h]
theorem Kept.below {n₀ B : Nat} {A C : World} (h : Below n₀ A C) (hB : B < n₀) : Kept B A C := h.block B hB
theorem Kept.setCell {B b o : Nat} (W : World) (v : Value) (h : B ≠ b) : Kept B W (W.setCell ⟨b, o, none⟩ v) := Below.heap_setCell _ _ _ B h
theorem kept_b {B : Nat} {w : World} (hB : B < w.heap.size) (W : World) (l : Nat) (o o' : Obj) (hl : w.heap.size ≤ l) (_ : W.heap[l]? = some o) (_ : o.isCells = false) (_ : o.isWalk = false) : Kept B W (W.putObj l o') :=
  World.putObj_heap_other (by omega)
/-- The iterator itself: for every loop body. -/
theorem each1_in (n : Nat) (hn : 1 ≤ n) (l Bs : Nat) (s : Int) (J Jx : List Int → World → Prop)
    (hY : ∀ pre (x : Int) W, J pre W → pre ++ [x] <+: SetM.list s → YieldAt Fence.wide (n - 1) Tryd.prog l #[.int .i64 x] W fun e W' =>
      (e = .returned (.bool true) ∧ J (pre ++ [x]) W' ∧ Kept Bs W W') ∨ (e = .returned (.bool false) ∧ Jx (pre ++ [x]) W'))
    (W : World) (hc : W.cell? ⟨Bs, 0, none⟩ = some (.int .i64 s)) (h0 : J [] W) :
    CallsIn Fence.wide n Tryd.prog 39 #[.func (.yield l) #[] #[], .pointer (some ⟨Bs, 0, none⟩)] W fun e W' => (∃ v, e = .returned v) ∧
      ((∃ ys, ys = SetM.list s ∧ J ys W') ∨ (∃ pre, pre <+: SetM.list s ∧ Jx pre W')) := by
  refine callsIn_of_wp Tryd.func39 rfl trivial ?_ rfl
  simp only [Tryd.ntmps39, List.size_toArray, List.length_cons, List.length_nil, Nat.reduceAdd, Nat.reduceSub, Array.replicate_succ, Array.replicate_zero, List.push_toArray, List.append_toArray, List.nil_append, List.cons_append]
  gi_wp2
  gi_loopw [4] (fun i wr => ∃ k : Nat, k ≤ 8 ∧ i = .int .i64 k ∧ J (SetM.upto s k) wr ∧ Kept Bs W wr)
    (fun i _ => 8 - (intOf i).toNat)
  case atStart => exact ⟨0, Nat.zero_le _, rfl, h0, Kept.refl _ _⟩
  case round =>
    obtain ⟨k, hk, rfl, hJs, hnx⟩ := hrel
    have hcx := (hnx.cell (o := 0)).trans hc
    by_cases hlt : k < 8
    · by_cases hh : SetM.has s k = true
      · obtain ⟨fn, tmps, assign, body, hy, hR⟩ := hY _ (k : Int) wr hJs (by rw [← SetM.upto_hit s k hh]; exact SetM.upto_list s (k + 1) (by omega))
        have Hs := Lib.hid (SetM.upto_hit s k hh)
        have Hp := Lib.hid (SetM.upto_list s (k + 1) (by omega))
        gi_wp2_with (refine ⟨trivial, ?_⟩; gi_at_call 40; refine (callsIn_wide.2 (SetP.has_any _ _ _)).mono ?_; rintro e w' ⟨rfl, rfl⟩; rw [hh])
        refine hR.mono ?_
        rintro e W3 (⟨rfl, hJ3, hk3⟩ | ⟨rfl, hJx3⟩)
        · gi_wp2
          go_roundw
          case rel => exact ⟨k + 1, by omega, by go_num, by rw [Hs.out]; exact hJ3, hnx.trans hk3⟩
          case measure => simp [intOf]; omega
        · gi_wp2
          refine bodyPost_ret (results_none rfl _ _ _) rfl ?_
          exact ⟨⟨_, rfl⟩, .inr ⟨_, by rw [← Hs.out]; exact Hp.out, hJx3⟩⟩
      · have hh' : SetM.has s k = false := by simpa using hh
        have Hs := Lib.hid (SetM.upto_miss s k hh')
        clear hh
        gi_wp2_with (refine ⟨trivial, ?_⟩; gi_at_call 40; refine (callsIn_wide.2 (SetP.has_any _ _ _)).mono ?_; rintro e w' ⟨rfl, rfl⟩; rw [hh'])
        refine ⟨fun _ h => (by cases h), ?_⟩
        gi_wp2
        go_roundw
        case rel => exact ⟨k + 1, by omega, by go_num, by rw [Hs.out]; exact hJs, hnx⟩
        case measure => simp [intOf]; omega
    · obtain rfl : k = 8 := by omega
      gi_wp2
      go_end0
      exact ⟨⟨_, rfl⟩, .inl ⟨_, rfl, hJs⟩⟩
/-- set.Each(s): the set is boxed; the function value captures the box. -/
theorem each_in (n : Nat) (s : Int) (w : World) :
    CallsIn Fence.wide n Tryd.prog 23 #[.int .i64 s] w fun e w' => e = .returned (.func (.func 39) #[] #[.pointer (some ⟨w.heap.size, 0, none⟩)]) ∧ w' = w.alloc (.cells #[.int .i64 s] 3) := by
  refine callsIn_of_wp Tryd.func23 rfl trivial ?_ rfl
  simp only [Tryd.ntmps23, List.size_toArray, List.length_cons, List.length_nil, Nat.reduceAdd, Nat.reduceSub, Array.replicate_succ, Array.replicate_zero, List.push_toArray, List.append_toArray, List.nil_append, List.cons_append]
  gi_wp2
  go_ret
  exact ⟨rfl, rfl⟩
/-- What the body is handed: a member of the set. -/
abbrev Mem (s : Int) := { x : Int // x ∈ SetM.list s }
/-- The value that set.Each hands back: the phases of s, in order; or the first of them, where a round has said 'no more'. -/
theorem each_mem (n : Nat) (hn : 1 ≤ n) (Bs : Nat) (s : Int) (w : World) (hBs : Bs < w.heap.size) (hc : w.cell? ⟨Bs, 0, none⟩ = some (.int .i64 s)) :
    SeqStopsK Fence.wide n Tryd.prog 39 #[.pointer (some ⟨Bs, 0, none⟩)] (fun x : Mem s => #[Value.int .i64 x.1]) (Kept Bs) (fun ys => ys.map Subtype.val = SetM.list s) (fun pre => pre.map Subtype.val <+: SetM.list s) (SetM.list s).length w := fun l J Jx W hW _ _ hY h0 => by
  refine (each1_in n hn l Bs s (fun pre W => ∃ m : List (Mem s), m.map Subtype.val = pre ∧ J m W) (fun pre W => ∃ m : List (Mem s), m.map Subtype.val = pre ∧ Jx m W) ?_ W ((hW.cell (p := ⟨Bs, 0, none⟩) hBs).trans hc) ⟨[], rfl, h0⟩).mono ?_
  · rintro pre x W1 ⟨m, rfl, hJ⟩ hp
    have hx : x ∈ SetM.list s := hp.subset (by simp)
    have hl : m.length < (SetM.list s).length := by have := hp.length_le; simp at this; omega
    obtain ⟨fn, tmps, assign, body, hy, hR⟩ := hY m ⟨x, hx⟩ W1 hJ hl
    refine ⟨fn, tmps, assign, body, hy, hR.mono ?_⟩
    rintro e W' (⟨h1, h2, h3⟩ | ⟨h1, h2⟩)
    · exact .inl ⟨h1, ⟨_, by simp, h2⟩, h3⟩
    · exact .inr ⟨h1, ⟨_, by simp, h2⟩⟩
  · rintro e W' ⟨hv, h⟩
    refine ⟨hv, ?_⟩
    rcases h with ⟨ys, rfl, m, hm, hJ⟩ | ⟨pre, hp, m, rfl, hJ⟩
    · exact .inl ⟨m, hm, hJ⟩
    · exact .inr ⟨m, hp, hJ⟩
end Each
namespace Search
open Go.RowKit Go.Shelf
open Each
/-- How a round of a search is left: it goes on, nothing that lay has turned; or it returns, and has written the block R. -/
def post (R : Nat) (o : Int → Obj) (bad : Int → Bool) (x : Int) (W : World) : Exit → Act → World → Prop
  | .normal, _, W' => bad x = false ∧ Below W.heap.size W W'
  | .ret, _, W' => bad x = true ∧ W.grownBy W' (some R) ∧ W'.heap[R]? = some (o x)
  | _, _, _ => False
theorem keeps_below {B : Nat} {W W' : World} (h : Below W.heap.size W W') : KeepsFrom B W W' := ⟨h.size, fun k o _ hk _ => (h.block k (Array.getElem?_eq_some_iff.1 hk).1).trans hk⟩
theorem grown_of_below {W W' : World} {row : Option Nat} (h : Below W.heap.size W W') : W.grownBy W' row := ⟨h.os, h.tape, h.output, h.size, fun j hj _ => h.block j hj⟩
theorem grown_trans {A B C : World} {R : Nat} (h : A.grownBy B (some R)) (k : B.grownBy C (some R)) : A.grownBy C (some R) :=
  ⟨k.os.trans h.os, k.tape.trans h.tape, k.output.trans h.output, Nat.le_trans h.size k.size, fun j hj hne => (k.block j (Nat.lt_of_lt_of_le hj h.size) hne).trans (h.block j hj hne)⟩
theorem grown_from {A B C : World} {R : Nat} {row : Option Nat} (h : A.grownBy B (some R)) (k : B.grownBy C row) (hr : ∀ r, row = some r → A.heap.size ≤ r) : A.grownBy C (some R) :=
  ⟨k.os.trans h.os, k.tape.trans h.tape, k.output.trans h.output, Nat.le_trans h.size k.size, fun j hj hne => (k.block j (Nat.lt_of_lt_of_le hj h.size) (fun e => by have := hr j e.symm; omega)).trans (h.block j hj hne)⟩
theorem find_pre {f : Int → Bool} {l p : List Int} {x : Int} (hp : p ++ [x] <+: l) (hn : ∀ y ∈ p, f y = false) (hx : f x = true) : l.find? f = some x := by
  obtain ⟨t, rfl⟩ := hp
  rw [List.append_assoc, List.find?_append, List.find?_eq_none.2 (fun y hy => by simp [hn y hy])]
  simp [hx]
theorem search {n : Nat} {g : Operand} {ps : Array Tmp} {assign body : Code} {Q : Exit → Act → World → Prop} {a : Act} {W0 : World} (bad : Int → Bool) (o : Int → Obj) (Bs R : Nat) (s : Int)
    (hn : 3 ≤ n) (hg : a.eval g = .func (.func 39) #[] #[.pointer (some ⟨Bs, 0, none⟩)]) (hps : ps.size = 1) (hBs : Bs < W0.heap.size) (hR : R < W0.heap.size) (hc : W0.cell? ⟨Bs, 0, none⟩ = some (.int .i64 s)) (a₁ : Int → Act)
    (hassign : ∀ (l : Nat) (x : Int) (W : World) (K : Act → World → Prop), K (a₁ x) W → assign.wpIn (Fence.wide.inRound l) (n - 1 - 1) Tryd.prog (Exit.then K (fun _ _ _ => False)) { tmps := (ps.zip #[Value.int .i64 x]).foldl (fun t (p, v) => t.setIfInBounds p v) a.tmps, defers := [] } W)
    (hbody : ∀ (l : Nat) (x : Int) (W : World), x ∈ SetM.list s → Below W0.heap.size W0 W → body.wpIn (Fence.wide.inRound l) (n - 1 - 1) Tryd.prog (post R o bad x W) (a₁ x) W)
    (hdone : ∀ (D : Nat) (W : World), W0.heap.size ≤ D → (∀ x ∈ SetM.list s, bad x = false) → Below W0.heap.size W0 W → W.heap[D]? = some (.deferred (some [])) → Q .normal { a with defers := { target := .collected D, args := #[] } :: a.defers } W)
    (hstop : ∀ (D : Nat) (x : Int) (W : World), W0.heap.size ≤ D → (SetM.list s).find? bad = some x → bad x = true → W0.grownBy W (some R) → W.heap[R]? = some (o x) → W.heap[D]? = some (.deferred (some [])) → Code.ret.wpIn Fence.wide n Tryd.prog Q { a with defers := { target := .collected D, args := #[] } :: a.defers } W) :
    (Code.rangeFunc g ps assign body).wpIn Fence.wide n Tryd.prog Q a W0 := by
  refine wpIn_rangeFunc_ownG rfl (by omega) (gf := 39) (lb := #[.pointer (some ⟨Bs, 0, none⟩)]) hg trivial (enters_of Tryd.func39 (by kernel_rfl) rfl)
    (each_mem _ (by omega) Bs s W0 hBs hc) Kept.trans (kept_b hBs) (Below.refl _ _) (fun _ => hps.symm)
    (fun pre W => (∀ y ∈ pre, bad y.1 = false) ∧ Below W0.heap.size W0 W)
    (fun c pre W => (c = .ret ∧ ∃ p0 x, pre = p0 ++ [x] ∧ (∀ y ∈ p0, bad y.1 = false) ∧ bad x.1 = true ∧ W.heap[R]? = some (o x.1)) ∧ W0.grownBy W (some R))
    (OwnFrom.and (ownFrom_pure _ _) (ownFrom_below (Nat.le_refl _) (Nat.le_refl _)))
    ?own ⟨by simp, Below.refl _ _⟩ (fun x => a₁ x.1) (fun l x W K h => hassign l x.1 W K h) ?body ?done ?stop
  case own =>
    rintro c pre W W' row ⟨⟨h1, p0, x, h2, h3, h4, h5⟩, hg⟩ hgr hr
    have hlt : R < W.heap.size := (Array.getElem?_eq_some_iff.1 h5).1
    exact ⟨⟨h1, p0, x, h2, h3, h4, (hgr.block R hlt (fun e => by have := (hr R e.symm).1; omega)).trans h5⟩, grown_from hg hgr (fun r e => (hr r e).1)⟩
  case body =>
    rintro l pre x W ⟨hp, hB⟩ _
    refine wpIn_mono (hbody l x.1 W x.2 hB) ?_
    intro e a' W' h
    cases e with
    | normal =>
      obtain ⟨h1, h2⟩ := h
      refine ⟨keeps_below h2, Kept.below h2 (by have := hB.size; omega), ?_, hB.trans (h2.mono hB.size)⟩
      intro y hy
      rcases List.mem_append.1 hy with hy | hy
      · exact hp y hy
      · obtain rfl : y = x := by simpa using hy
        exact h1
    | ret =>
      obtain ⟨h1, h2, h3⟩ := h
      exact ⟨KeepsFrom.of_grownBy h2 (fun j e => by cases e; exact hR), ⟨rfl, pre, x, rfl, hp, h1, h3⟩, grown_trans (grown_of_below (hB.mono (Nat.le_refl _))) h2⟩
    | _ => exact h.elim
  case done =>
    rintro D xs W hD hS ⟨hp, hB⟩ hK
    refine hdone D W hD ?_ hB hK
    rw [← hS]
    intro x hx
    obtain ⟨y, hy, rfl⟩ := List.mem_map.1 hx
    exact hp y hy
  case stop =>
    rintro D c pre W hD hS ⟨⟨rfl, p0, x, rfl, h3, h4, h5⟩, hg⟩ hK
    refine hstop D x.1 W hD (find_pre (p := p0.map Subtype.val) (by simpa using hS) ?_ h4) h4 hg h5 hK
    intro y hy
    obtain ⟨z, hz, rfl⟩ := List.mem_map.1 hy
    exact h3 z hz
end Search
namespace Up
open Go Go.RowKit
section
variable {P : Program} {l n : Nat} {Q : Exit → Act → World → Prop}
/-- A region that draws and whose calls may make memory, in a round. -/
theorem region_below {id : Nat} {a : Act} {w : World} {m : List Oper} (B : Nat) (hQ : ¬ LetsOut Q) (hd : noDefer m = true) (hm : P.follows .mixedOrders = true) (hB : Region.lexB .any m.toArray = true)
    (h : wpQuiet P m.toArray (fun w' => ∃ p : QB.By B w, w' = p.world) (fun a' => ∀ w', (∃ p : QB.By B w, w' = p.world) → Q .normal a' w') m a) : (Code.region id m.toArray true).wpIn (Fence.wide.inRound l) n P Q a w := by
  simp only [Region.lexB, Bool.and_eq_true] at hB
  refine wpIn_region_any hm (any_up hQ (by simpa using hd) _ _ _ _ ?_)
  refine wpAny_of_quiet (C := fun w' => ∃ p : QB.By B w, w' = p.world) (Q := fun a' => ∀ w', (∃ p : QB.By B w, w' = p.world) → Q .normal a' w') (fun _ w' hw' h => h w' hw') _ _ _ _ ⟨⟨w.drew, (Below.refl _ _).drew⟩, rfl⟩ ?_
  have := wpAnyQ_lex (C := fun w' => ∃ p : QB.By B w, w' = p.world) (md := .any) hB.1 m 0 (Array.replicate m.toArray.size false) a (by simp) (by simpa using hB.2) h
  simpa using this
/-- A still head, and a chain behind it, in a round. -/
theorem region_tail {id : Nat} {a : Act} {w : World} {m : List Oper} (k : Nat) (hQ : ¬ LetsOut Q) (hd : noDefer m = true) (hm : P.follows .mixedOrders = true) (hB : Region.lexTailB .any m.toArray k = true)
    (h : wpStill P m.toArray { w with drawn := w.drawn + 1 } (fun a' => wpList P m.toArray Q (m.drop k) a' { w with drawn := w.drawn + 1 }) (m.take k) a) : (Code.region id m.toArray true).wpIn (Fence.wide.inRound l) n P Q a w := by
  simp only [Region.lexTailB, Bool.and_eq_true, decide_eq_true_eq] at hB
  obtain ⟨⟨⟨⟨hsel, hn⟩, hs⟩, hc⟩, hlex⟩ := hB
  have hn' : k < m.length := by simpa using hn
  have htl : (m.take k).length = k := by simp; omega
  have hdl : (m.drop k).length = m.toArray.size - k := by simp
  have inv0 : HeadInv .any m.toArray k (Array.replicate m.toArray.size false) :=
    ⟨by simp, fun j oj _ hl => (by rw [getD_replicate_false] at hl; cases hl), fun t _ ht => getD_in (by simpa using ht) (getD_replicate_false _ _)⟩
  have H := wpAnyL_lex (md := .any) (g := m.toArray.size - k) hsel hs hc hn (m.take k) 0 _ a (fun j hj => by
    have hj' : j < k := by rw [htl] at hj; exact hj
    simp [hj']) (by simpa using htl) inv0 (by rw [htl]; exact hlex) h
  refine wpIn_region_any hm (any_up hQ (by simpa using hd) _ _ _ _ ?_)
  have := wpAny_of_head (Q' := Q) (g := m.toArray.size - k) (fun listed a' hL => by
    have := wpAny_of_seq (md := .any) (Q' := Q) (m.drop k) k listed a' { w with drawn := w.drawn + 1 } (fun j => by simp [List.getElem?_drop]) (by rw [hdl]; exact hL.1) hL.2
    rwa [hdl] at this) _ _ _ H
  rw [htl, show k + (m.toArray.size - k) = m.toArray.size by omega] at this
  exact this
end
end Up
namespace Tr
attribute [local go_sem] Oper.semAt_some
open Go Go.ChangeShapes Go.WideShapes Go.ChangeAt Go.RowKit
open Go.Shelf
open Tab Flat TabArg QL Ru Rg PlanM
/-- These blocks lie as they lay. -/
def KeptL (L : List Nat) (A C : World) : Prop := ∀ b ∈ L, C.heap[b]? = A.heap[b]?
theorem KeptL.refl (L : List Nat) (A : World) : KeptL L A A := fun _ _ => rfl
theorem KeptL.trans {L : List Nat} {A B C : World} (h : KeptL L A B) (k : KeptL L B C) : KeptL L A C := fun b hb => (k b hb).trans (h b hb)
theorem KeptL.cell {L : List Nat} {A C : World} (h : KeptL L A C) {x : Addr} (hx : x.block ∈ L) : C.cell? x = A.cell? x := by
  simp only [World.cell?, show C.heap[x.block]? = A.heap[x.block]? from h _ hx]
theorem KeptL.grown {L : List Nat} {A C : World} {R : Nat} (h : A.grownBy C (some R)) (hl : ∀ b ∈ L, b < A.heap.size ∧ b ≠ R) : KeptL L A C := fun b hb => h.block b (hl b hb).1 (fun e => (hl b hb).2 (Option.some.inj e))
theorem KeptL.below {L : List Nat} {A C : World} {n : Nat} (h : Below n A C) (hl : ∀ b ∈ L, b < n) : KeptL L A C := fun b hb => h.block b (hl b hb)
theorem keptL_b {L : List Nat} {w : World} (hB : ∀ b ∈ L, b < w.heap.size) (W : World) (l : Nat) (o o' : Obj) (hl : w.heap.size ≤ l) (_ : W.heap[l]? = some o) (_ : o.isCells = false) (_ : o.isWalk = false) : KeptL L W (W.putObj l o') :=
  fun b hb => World.putObj_heap_other (by have := hB b hb; omega)
/-- The blocks that the iterator reads: the library's table, its two boxes, the buses. -/
def xOf (bu : List Bs) (sl : Sl) : Option Addr := match bu with
  | [] => none
  | _ :: _ => sl.a
def blks (bs bo : Nat) (bu : List Bs) (sl : Sl) : List Nat := match xOf bu sl with
  | some x => [1, bs, bo, x.block]
  | none => [1, bs, bo]
theorem add_block (x : Addr) (i : Nat) : (x.add i).block = x.block := by unfold Addr.add; split <;> rfl
/-- What the iterator finds. -/
structure EA (bs bo : Nat) (s : Int) (bu : List Bs) (sl : Sl) (W : World) : Prop where
  cs : W.cell? ⟨bs, 0, none⟩ = some (I s)
  co : W.cell? ⟨bo, 0, none⟩ = some (.slice sl.a (min bu.length 4) sl.cap)
  row : RowOf 2 Bs.cells W sl bu
  db : DB W
theorem EA.kept {bs bo : Nat} {s : Int} {bu : List Bs} {sl : Sl} {A C : World} (h : EA bs bo s bu sl A) (k : KeptL (blks bs bo bu sl) A C) : EA bs bo s bu sl C := by
  have h0 : 1 ∈ blks bs bo bu sl := by unfold blks; split <;> simp
  have h1 : bs ∈ blks bs bo bu sl := by unfold blks; split <;> simp
  have h2 : bo ∈ blks bs bo bu sl := by unfold blks; split <;> simp
  refine ⟨(k.cell (x := ⟨bs, 0, none⟩) h1).trans h.cs, (k.cell (x := ⟨bo, 0, none⟩) h2).trans h.co, ?_, h.db.kept (k _ h0)⟩
  rcases h.row with e | ⟨x, e1, e2, e3, e4⟩
  · exact .inl e
  · refine .inr ⟨x, e1, e2, e3, fun i v hv j u hu => ?_⟩
    have hx : x.block ∈ blks bs bo bu sl := by
      match bu, hv with
      | [], hv => simp at hv
      | _ :: _, hv => unfold blks xOf; simp only [e1]; simp
    exact (k.cell (by rw [add_block, add_block]; exact hx)).trans (e4 i v hv j u hu)
theorem xOf_lt {W : World} {bu : List Bs} {sl : Sl} (h : RowOf 2 Bs.cells W sl bu) {x : Addr} (hx : xOf bu sl = some x) : x.block < W.heap.size := by
  match bu, h, hx with
  | b :: l, h, hx =>
    obtain ⟨y, h1, h2⟩ := h.at (i := 0) rfl
    obtain rfl : y = x := Option.some.inj (h1.symm.trans hx)
    have := World.block_lt_of_cell? W _ (h2 0 _ rfl)
    rwa [add_block, add_block] at this
theorem blks_cases {bs bo : Nat} {bu : List Bs} {sl : Sl} {b : Nat} (hb : b ∈ blks bs bo bu sl) : b = 1 ∨ b = bs ∨ b = bo ∨ ∃ x, xOf bu sl = some x ∧ b = x.block := by
  unfold blks at hb
  split at hb
  · rename_i x e
    simp at hb
    rcases hb with h | h | h | h
    · exact .inl h
    · exact .inr (.inl h)
    · exact .inr (.inr (.inl h))
    · exact .inr (.inr (.inr ⟨x, e, h⟩))
  · simp at hb
    rcases hb with h | h | h
    · exact .inl h
    · exact .inr (.inl h)
    · exact .inr (.inr (.inl h))
theorem EA.lt {bs bo : Nat} {s : Int} {bu : List Bs} {sl : Sl} {A : World} (h : EA bs bo s bu sl A) : ∀ b ∈ blks bs bo bu sl, b < A.heap.size := by
  intro b hb
  rcases blks_cases hb with rfl | rfl | rfl | ⟨x, e1, rfl⟩
  · exact h.db.lt
  · exact World.block_lt_of_cell? A _ h.cs
  · exact World.block_lt_of_cell? A _ h.co
  · exact xOf_lt h.row e1
def busAt (bu : List Bs) (k : Nat) : Bs := bu.getD k ⟨0, 0⟩
theorem bus_at {bu : List Bs} {k : Nat} (h : k < bu.length) : bu[k]? = some (busAt bu k) := by unfold busAt; rw [List.getD_eq_getElem?_getD, List.getElem?_eq_getElem h]; rfl
/-- The buses of the table that are in s. -/
def setOf (s : Int) (m : Nat) : Nat := SetM.low s &&& (2 ^ m - 1)
def eL (s : Int) (bu : List Bs) : List Nat := bitsOf (setOf s (min bu.length 4))
theorem setOf_lt {s : Int} {m : Nat} (h : m ≤ 4) : setOf s m < 16 := by
  unfold setOf
  have h1 : SetM.low s &&& (2 ^ m - 1) ≤ 2 ^ m - 1 := Nat.and_le_right
  have h2 : 2 ^ m ≤ 2 ^ 4 := Nat.pow_le_pow_right (by decide) h
  have h3 : 0 < 2 ^ m := Nat.pow_pos (by decide)
  omega
theorem mem_eL {s : Int} {bu : List Bs} {k : Nat} : k ∈ eL s bu ↔ k < bu.length ∧ k < 4 ∧ SetM.has s k = true := by
  unfold eL
  rw [mem_bitsOf]
  unfold setOf
  rw [Nat.testBit_and, Nat.testBit_two_pow_sub_one, SetM.has_nat, Bool.and_eq_true, decide_eq_true_eq]
  exact ⟨fun ⟨h1, h2, h3⟩ => ⟨by omega, h1, h2⟩, fun ⟨h1, h2, h3⟩ => ⟨h2, h3, by omega⟩⟩
theorem and_u64 (s : Int) (b : Nat) (h : b < 256) : bits .and .u64 (IntKind.u64.wrap s) (b : Int) = ((SetM.low s &&& b : Nat) : Int) := by
  show IntKind.u64.wrap ((BitVec.ofInt 64 (IntKind.u64.wrap s) &&& BitVec.ofInt 64 (b : Int)).toNat : Nat) = _
  rw [BitVec.toNat_and, SetM.toNat_ofNat b h]
  have e1 : (BitVec.ofInt 64 (IntKind.u64.wrap s)).toNat % 256 = SetM.low s := by
    rw [BitVec.toNat_ofInt, IntKind.wrap_u64]
    unfold SetM.low
    omega
  generalize (BitVec.ofInt 64 (IntKind.u64.wrap s)).toNat = x at e1
  have e2 : x &&& b = SetM.low s &&& b := by
    rw [← e1]
    apply Nat.eq_of_testBit_eq
    intro i
    rw [Nat.testBit_and, Nat.testBit_and, show (256 : Nat) = 2 ^ 8 from rfl, Nat.testBit_mod_two_pow]
    by_cases hi : i < 8
    · simp [hi]
    · have hb : b.testBit i = false := SetM.test_high b i h (by omega)
      simp [hb]
  rw [e2, IntKind.wrap_u64]
  have : SetM.low s &&& b ≤ b := Nat.and_le_right
  omega
theorem mask_u64 (s : Int) {m : Nat} (h : m ≤ 4) : bits .and .u64 (IntKind.u64.wrap s) (IntKind.u64.wrap (IntKind.u64.wrap (2 ^ m) - 1)) = ((setOf s m : Nat) : Int) := by
  have e : IntKind.u64.wrap (IntKind.u64.wrap (2 ^ m) - 1) = ((2 ^ m - 1 : Nat) : Int) := by
    match m, h with
    | 0, _ => decide
    | 1, _ => decide
    | 2, _ => decide
    | 3, _ => decide
    | 4, _ => decide
  rw [e, and_u64 s _ (by
    have h2 : 2 ^ m ≤ 2 ^ 4 := Nat.pow_le_pow_right (by decide) h
    omega)]
  rfl
theorem step_u64 : ∀ r : Fin 16, r.val ≠ 0 → bits .and .u64 (r.val : Int) ((r.val : Int) - 1) = ((r.val &&& (r.val - 1) : Nat) : Int) := by decide +kernel
/-- The iterator itself: for every loop body. -/
theorem each1_in (n : Nat) (hn : 1 ≤ n) (l bs bo : Nat) (s : Int) (bu : List Bs) (sl : Sl) (J Jx : List Nat → World → Prop)
    (hY : ∀ pre (k : Nat) W, J pre W → pre ++ [k] <+: eL s bu → YieldAt Fence.wide (n - 1) Tryd.prog l #[.int .i64 k, .agg (busAt bu k).cells.toArray] W fun e W' =>
      (e = .returned (.bool true) ∧ J (pre ++ [k]) W' ∧ KeptL (blks bs bo bu sl) W W') ∨ (e = .returned (.bool false) ∧ Jx (pre ++ [k]) W'))
    (W : World) (hE : EA bs bo s bu sl W) (hJ : ∀ W', Below W.heap.size W W' → J [] W') :
    CallsIn Fence.wide n Tryd.prog 37 #[.func (.yield l) #[] #[], .pointer (some ⟨bs, 0, none⟩), .pointer (some ⟨bo, 0, none⟩)] W fun e W' => (∃ v, e = .returned v) ∧
      ((∃ ys, ys = eL s bu ∧ J ys W') ∨ (∃ pre, pre <+: eL s bu ∧ Jx pre W')) := by
  have hm4 : min bu.length 4 ≤ 4 := Nat.min_le_right _ _
  have hml : min bu.length 4 ≤ bu.length := Nat.min_le_left _ _
  have HL := Lib.hid (show eL s bu = bitsOf (setOf s (min bu.length 4)) from rfl)
  have HR0 := Lib.hid (setOf_lt (s := s) hm4)
  have HK := Lib.hid hE.lt
  have HE := Lib.hid hE
  have HM : Hid (∀ r k : Nat, k ∈ eL s bu → k < min bu.length 4) := Lib.hid (fun _ k hk => by have := mem_eL.1 hk; omega)
  have cs := hE.cs
  have co := hE.co
  have HA : Hid (bits .and .u64 (IntKind.u64.wrap s) (IntKind.u64.wrap (IntKind.u64.wrap (2 ^ min bu.length 4) - 1)) = ((setOf s (min bu.length 4) : Nat) : Int)) := Lib.hid (mask_u64 s hm4)
  refine callsIn_of_wp Tryd.func37 rfl trivial ?_ rfl
  simp only [Tryd.ntmps37, List.size_toArray, List.length_cons, List.length_nil, Nat.reduceAdd, Nat.reduceSub, Array.replicate_succ, Array.replicate_zero, List.push_toArray, List.append_toArray, List.nil_append, List.cons_append]
  refine wpIn_wide.2 ?_
  have q1 : ∀ q : QB.By W.heap.size W, q.world.cell? ⟨bs, 0, none⟩ = some (I s) := fun q => (q.below.cell (World.block_lt_of_cell? W _ hE.cs)).trans hE.cs
  have q2 : ∀ q : QB.By W.heap.size W, q.world.cell? ⟨bo, 0, none⟩ = some (.slice sl.a (min bu.length 4) sl.cap) := fun q => (q.below.cell (World.block_lt_of_cell? W _ hE.co)).trans hE.co
  generalize hmm : min bu.length 4 = m at *
  have HB : Hid (m ≤ bu.length ∧ min bu.length 4 = m) := Lib.hid ⟨hml, hmm⟩
  clear hmm
  clear cs co hml
  go_wp2_with fail
  refine QB.region_below W.heap.size (by kernel_rfl) (by kernel_rfl) ?_
  repeat (quiet_step (fail))
  refine wpQuiet_nil ?_
  intro _ hw'
  obtain ⟨pq, rfl⟩ := hw'
  rw [HA.out]
  clear HA
  have BP := Lib.hid pq.below
  generalize pq.world = W1 at BP ⊢
  clear q1 q2
  have hr16 := HR0.out
  have hl0 := HL.out
  clear HL HR0
  generalize setOf s m = r0 at *
  go_wp2_with fail
  refine (wpIn_wide (n := n)).1 ?_
  gi_loopw [4] (fun i wr => ∃ (pre : List Nat) (r : Nat), r < 16 ∧ i = .int .u64 r ∧ pre ++ bitsOf r = eL s bu ∧ J pre wr ∧ KeptL (blks bs bo bu sl) W wr) (fun i _ => (intOf i).toNat)
  case atStart => exact ⟨[], r0, hr16, rfl, by rw [List.nil_append]; exact hl0.symm, hJ _ BP.out, KeptL.below BP.out HK.out⟩
  case round =>
    obtain ⟨pre, r, hr, rfl, hp, hJs, hkp⟩ := hrel
    by_cases h0 : r = 0
    · subst h0
      rw [bitsOf_zero, List.append_nil] at hp
      subst hp
      have HJ := Lib.hid hJs
      clear hJs
      gi_wp2
      go_end0
      exact ⟨⟨_, rfl⟩, .inl ⟨_, rfl, HJ.out⟩⟩
    · have hne : ((r : Int) != 0) = true := bne_iff_ne.2 (by omega)
      obtain ⟨hb1, hb2, hb3⟩ := bitsOf_step h0 hr
      have hEr := HE.out.kept hkp
      have TZ := Lib.hid (tz_any wr hEr.db r h0 hr)
      have hst := step_u64 ⟨r, hr⟩ h0
      dsimp only at hst
      rw [hb1] at hp
      generalize hk : ctz r = k at *
      generalize r &&& (r - 1) = r2 at *
      have hkm : k ∈ eL s bu := by rw [← hp]; simp
      have hkl := HM.out 0 k hkm
      obtain ⟨x, hxa, hrow⟩ := hEr.row.at (bus_at (show k < bu.length by have := HB.out.1; omega))
      have co := hEr.co
      rw [hxa, HB.out.2] at co
      obtain ⟨fn, tmps, assign, body, hy, hR⟩ := hY pre k wr hJs ⟨bitsOf r2, by rw [List.append_assoc]; exact hp⟩
      generalize busAt bu k = b at *
      have c0 := hrow 0 _ rfl
      have c1 := hrow 1 _ rfl
      rw [Tab.add_zero] at c0
      rw [Tab.add_one] at c1
      simp only [Bs.cells] at hy
      have HST := Lib.hid hst
      have HP := Lib.hid hp
      have HK2 := Lib.hid hkp
      have HE2 := Lib.hid hEr
      clear hE hEr hst hp hkp hb1 hrow hkm hxa hJs hY
      gi_wp2_with (refine ⟨trivial, ?_⟩; gi_at_call 38; refine (callsIn_wide.2 TZ.out).mono ?_; rintro e w' ⟨rfl, rfl⟩)
      refine hR.mono ?_
      rintro e W3 (⟨rfl, hJ3, hk3⟩ | ⟨rfl, hJx3⟩)
      · have hst := HST.out
        gi_wp2
        go_roundw
        case rel => exact ⟨pre ++ [k], r2, by omega, rfl, by rw [List.append_assoc]; exact HP.out, hJ3, HK2.out.trans hk3⟩
        case measure => simp [intOf, hst]; omega
      · gi_wp2
        refine bodyPost_ret (results_none rfl _ _ _) rfl ?_
        exact ⟨⟨_, rfl⟩, .inr ⟨_, ⟨bitsOf r2, by rw [List.append_assoc]; exact HP.out⟩, hJx3⟩⟩
/-- transit.each(t, s): table, set and buses boxed; the function value captures the last two boxes. -/
theorem each_in (n : Nat) (T : Tab) (hd : Hd) (s : Int) (w : World) (ht : IsTab w hd T) :
    CallsIn Fence.wide n Tryd.prog 21 #[.agg (T.cells hd).toArray, .int .i64 s] w fun e w' => e = .returned (.func (.func 37) #[] #[.pointer (some ⟨w.heap.size + 1, 0, none⟩), .pointer (some ⟨w.heap.size + 2, 0, none⟩)]) ∧ w' = ((w.alloc (.cells (T.cells hd).toArray 31)).alloc (.cells #[I s] 3)).alloc (.cells #[.slice hd.b.a (min T.buses.length 4) hd.b.cap] 29) := by
  have h1 : (T.cells hd).length = 131 := by have := (cells_ok ht).size; rwa [List.size_toArray] at this
  have hb := ht.buses.len
  have hcb := tab_bu ht
  generalize T.cells hd = tc at *
  generalize T.buses.length = bl at *
  generalize hd.b = sl at *
  obtain ⟨sa, sc⟩ := sl
  dsimp only at *
  obtain ⟨m, hm⟩ : ∃ m, min bl 4 = m := ⟨_, rfl⟩
  rw [hm]
  have WHY : (bl ≤ 4 ∧ m = bl) ∨ (4 < bl ∧ m = 4) := by omega
  clear hm ht
  rcases WHY with ⟨h4, e⟩ | ⟨h4, e⟩ <;> subst e
  · refine callsIn_of_wp Tryd.func21 rfl trivial ?_ rfl
    simp only [Tryd.ntmps21, List.size_toArray, List.length_cons, List.length_nil, Nat.reduceAdd, Nat.reduceSub, Array.replicate_succ, Array.replicate_zero, List.push_toArray, List.append_toArray, List.nil_append, List.cons_append]
    refine wpIn_wide.2 ?_
    go_upto_region 1 with fail
    have hA := (((Blk.Bks.nil w).alloc tc.toArray 31).alloc #[I s] 3)
    rw [show (w.alloc (.cells tc.toArray 31)).heap.size = w.heap.size + 1 by simp] at hA
    have k5 : ((w.alloc (.cells tc.toArray 31)).alloc (.cells #[I s] 3)).cell? ⟨w.heap.size, 115, none⟩ = some (.slice sa m sc) := hA.cell 1 115 rfl (by rw [List.getElem?_toArray]; exact hcb)
    clear hA
    have e3 : ((m : Int) ≤ 4) := by omega
    have e5 : m ≤ sc := hb.1
    go_wp2
    go_ret
    exact ⟨rfl, rfl⟩
  · refine callsIn_of_wp Tryd.func21 rfl trivial ?_ rfl
    simp only [Tryd.ntmps21, List.size_toArray, List.length_cons, List.length_nil, Nat.reduceAdd, Nat.reduceSub, Array.replicate_succ, Array.replicate_zero, List.push_toArray, List.append_toArray, List.nil_append, List.cons_append]
    refine wpIn_wide.2 ?_
    go_upto_region 1 with fail
    have hA := (((Blk.Bks.nil w).alloc tc.toArray 31).alloc #[I s] 3)
    rw [show (w.alloc (.cells tc.toArray 31)).heap.size = w.heap.size + 1 by simp] at hA
    have k5 : ((w.alloc (.cells tc.toArray 31)).alloc (.cells #[I s] 3)).cell? ⟨w.heap.size, 115, none⟩ = some (.slice sa bl sc) := hA.cell 1 115 rfl (by rw [List.getElem?_toArray]; exact hcb)
    clear hA
    have e3 : ¬ ((bl : Int) ≤ 4) := by omega
    have e5 : 4 ≤ sc := by omega
    go_wp2
    go_ret
    exact ⟨rfl, rfl⟩
/-- What the body is handed: a bus of the set. -/
abbrev Mem (s : Int) (bu : List Bs) := { k : Nat // k ∈ eL s bu }
theorem each_mem (n : Nat) (hn : 1 ≤ n) (bs bo : Nat) (s : Int) (bu : List Bs) (sl : Sl) (w : World) (hE : EA bs bo s bu sl w) :
    SeqStopsK Fence.wide n Tryd.prog 37 #[.pointer (some ⟨bs, 0, none⟩), .pointer (some ⟨bo, 0, none⟩)] (fun x : Mem s bu => #[Value.int .i64 x.1, .agg (busAt bu x.1).cells.toArray]) (KeptL (blks bs bo bu sl)) (fun ys => ys.map Subtype.val = eL s bu) (fun pre => pre.map Subtype.val <+: eL s bu) (eL s bu).length w := fun l J Jx W hW hA _ hY h0 => by
  have hl := hE.lt
  refine (each1_in n hn l bs bo s bu sl (fun pre W => ∃ m : List (Mem s bu), m.map Subtype.val = pre ∧ J m W) (fun pre W => ∃ m : List (Mem s bu), m.map Subtype.val = pre ∧ Jx m W) ?_ W (hE.kept (KeptL.below hW hl)) (fun W' hb => ⟨[], rfl, hA [] W W' none h0 ⟨hb.os, hb.tape, hb.output, hb.size, fun j hj _ => hb.block j hj⟩ (fun r e => by cases e)⟩)).mono ?_
  · rintro pre x W1 ⟨m, rfl, hJ⟩ hp
    have hx : x ∈ eL s bu := hp.subset (by simp)
    have hl : m.length < (eL s bu).length := by have := hp.length_le; simp at this; omega
    obtain ⟨fn, tmps, assign, body, hy, hR⟩ := hY m ⟨x, hx⟩ W1 hJ hl
    refine ⟨fn, tmps, assign, body, hy, hR.mono ?_⟩
    rintro e W' (⟨h1, h2, h3⟩ | ⟨h1, h2⟩)
    · exact .inl ⟨h1, ⟨_, by simp, h2⟩, h3⟩
    · exact .inr ⟨h1, ⟨_, by simp, h2⟩⟩
  · rintro e W' ⟨hv, h⟩
    refine ⟨hv, ?_⟩
    rcases h with ⟨ys, rfl, m, hm, hJ⟩ | ⟨pre, hp, m, rfl, hJ⟩
    · exact .inl ⟨m, hm, hJ⟩
    · exact .inr ⟨m, hp, hJ⟩
/-- How a round of a loop that writes one block is left. -/
def rpost (R : Nat) (o : List Nat → Obj) (pre : List Nat) (k : Nat) (W : World) : Exit → Act → World → Prop
  | .normal, _, W' => W'.heap[R]? = some (o (pre ++ [k])) ∧ W.grownBy W' (some R)
  | _, _, _ => False
/-- for k, b := range each(t, s) { .. }: each round writes the block R (and makes memory); b lies in a block Bx that the round makes. -/
theorem each_loop {g : Operand} {ps : Array Tmp} {assign body : Code} {Q : Exit → Act → World → Prop} {a : Act} {W0 : World} (o : List Nat → Obj) (bs bo R : Nat) (s : Int) (bu : List Bs) (sl : Sl)
    (hg : a.eval g = .func (.func 37) #[] #[.pointer (some ⟨bs, 0, none⟩), .pointer (some ⟨bo, 0, none⟩)]) (hps : ps.size = 2) (hE : EA bs bo s bu sl W0) (hR : R < W0.heap.size) (hl : ∀ b ∈ blks bs bo bu sl, b < W0.heap.size ∧ b ≠ R) (ho : ∀ pre, (o pre).isCells = true) (A : Nat → Nat → Act) (ty : TypeId) (cs : Nat → Array Value) (h0 : W0.heap[R]? = some (o []))
    (hassign : ∀ (l k : Nat) (W : World) (K : Act → World → Prop), W0.grownBy W (some R) → (∀ W', Below W.heap.size W W' → W'.heap[W.heap.size]? = some (.cells (cs k) ty (0, 0)) → K (A k W.heap.size) W') → assign.wpIn (Fence.wide.inRound l) 4 Tryd.prog (Exit.then K (fun _ _ _ => False)) { tmps := (ps.zip #[Value.int .i64 k, .agg (busAt bu k).cells.toArray]).foldl (fun t (p, v) => t.setIfInBounds p v) a.tmps, defers := [] } W)
    (hbody : ∀ (l : Nat) (pre : List Nat) (k Bx : Nat) (W : World), k ∈ eL s bu → W.heap[R]? = some (o pre) → W0.grownBy W (some R) → W0.heap.size ≤ Bx → W.heap[Bx]? = some (.cells (cs k) ty (0, 0)) → body.wpIn (Fence.wide.inRound l) 4 Tryd.prog (rpost R o pre k W) (A k Bx) W)
    (hdone : ∀ (D : Nat) (W : World), W0.heap.size ≤ D → W.heap[R]? = some (o (eL s bu)) → W0.grownBy W (some R) → W.heap[D]? = some (.deferred (some [])) → Q .normal { a with defers := { target := .collected D, args := #[] } :: a.defers } W) :
    (Code.rangeFunc g ps assign body).wpIn Fence.wide 6 Tryd.prog Q a W0 := by
  refine wpIn_rangeFunc_ownH rfl (by omega) (gf := 37) (lb := #[.pointer (some ⟨bs, 0, none⟩), .pointer (some ⟨bo, 0, none⟩)]) hg trivial (enters_of Tryd.func37 (by kernel_rfl) rfl)
    (each_mem _ (by omega) bs bo s bu sl W0 hE) KeptL.trans (keptL_b (fun b hb => (hl b hb).1)) (Below.refl _ _) (fun _ => hps.symm)
    (fun pre W => W.heap[R]? = some (o (pre.map Subtype.val)) ∧ W0.grownBy W (some R)) (fun _ _ _ => False)
    ?own (fun _ _ _ _ _ hs _ _ => hs) ⟨h0, Search.grown_of_below (Below.refl _ _)⟩
    (fun x a' W => ∃ Bx, W0.heap.size ≤ Bx ∧ W.heap[Bx]? = some (.cells (cs x.1) ty (0, 0)) ∧ a' = A x.1 Bx)
    ?ax ?assign ?body ?done ?stop
  case own =>
    rintro pre W W' row ⟨h1, h2⟩ hgr hr
    exact ⟨(hgr.block R (Array.getElem?_eq_some_iff.1 h1).1 (fun e => by have := (hr R e.symm).1; omega)).trans h1, Search.grown_from h2 hgr (fun r e => (hr r e).1)⟩
  case ax =>
    rintro x a' _ X Y row ⟨Bx, e1, e2, e3⟩ hgr hr
    refine ⟨Bx, e1, (hgr.block Bx (Array.getElem?_eq_some_iff.1 e2).1 (fun e => ?_)).trans e2, e3⟩
    obtain ⟨_, ob, h3, h4⟩ := hr Bx e.symm
    rw [e2] at h3
    obtain rfl := Option.some.inj h3
    cases h4
  case assign =>
    rintro l pre ⟨x, hx⟩ W K ⟨h1, h2⟩ hK
    refine hassign l x W K h2 fun W' hb hB => ?_
    refine hK _ _ ((Search.keeps_below hb)) (KeptL.below hb (fun b hb => Nat.lt_of_lt_of_le (hl b hb).1 h2.size)) ⟨(hb.block R (Array.getElem?_eq_some_iff.1 h1).1).trans h1, Search.grown_trans h2 (Search.grown_of_below hb)⟩ ⟨W.heap.size, h2.size, hB, rfl⟩
  case body =>
    rintro l pre ⟨x, hx⟩ a' W hlw hlr ⟨h1, h2⟩ ⟨Bx, e1, e2, rfl⟩ hlt
    refine wpIn_mono (hbody l (pre.map Subtype.val) x Bx W hx h1 h2 e1 e2) ?_
    intro e a' W' h
    cases e with
    | normal =>
      obtain ⟨h3, h4⟩ := h
      exact ⟨KeepsFrom.of_grownBy h4 (fun j e => by cases e; exact hR), KeptL.grown h4 (fun b hb => ⟨Nat.lt_of_lt_of_le (hl b hb).1 h2.size, (hl b hb).2⟩), by rw [List.map_append]; exact h3, Search.grown_trans h2 h4⟩
    | _ => exact h.elim
  case done =>
    rintro D ys W hD hS ⟨h1, h2⟩ hK
    rw [hS] at h1
    exact hdone D W hD h1 h2 hK
  case stop =>
    rintro D c pre W hD _ h _
    exact h.elim
end Tr
namespace Tr
attribute [local go_sem] Oper.semAt_some
open Go Go.ChangeShapes Go.WideShapes Go.ChangeAt Go.RowKit
open Tab Flat TabArg QL Ru Rg PlanM
/-- for k := range each(t, s) { .. }: each round writes the block R (and makes memory). -/
theorem each_loop0 {g : Operand} {ps : Array Tmp} {assign body : Code} {Q : Exit → Act → World → Prop} {a : Act} {W0 : World} (o : List Nat → Obj) (bs bo R : Nat) (s : Int) (bu : List Bs) (sl : Sl)
    (hg : a.eval g = .func (.func 37) #[] #[.pointer (some ⟨bs, 0, none⟩), .pointer (some ⟨bo, 0, none⟩)]) (hps : ps.size = 2) (hE : EA bs bo s bu sl W0) (hR : R < W0.heap.size) (hl : ∀ b ∈ blks bs bo bu sl, b < W0.heap.size ∧ b ≠ R) (ho : ∀ pre, (o pre).isCells = true) (A : Nat → Act) (h0 : W0.heap[R]? = some (o []))
    (hassign : ∀ (l k : Nat) (W : World) (K : Act → World → Prop), W0.grownBy W (some R) → K (A k) W → assign.wpIn (Fence.wide.inRound l) 4 Tryd.prog (Exit.then K (fun _ _ _ => False)) { tmps := (ps.zip #[Value.int .i64 k, .agg (busAt bu k).cells.toArray]).foldl (fun t (p, v) => t.setIfInBounds p v) a.tmps, defers := [] } W)
    (hbody : ∀ (l : Nat) (pre : List Nat) (k : Nat) (W : World), k ∈ eL s bu → W.heap[R]? = some (o pre) → W0.grownBy W (some R) → body.wpIn (Fence.wide.inRound l) 4 Tryd.prog (rpost R o pre k W) (A k) W)
    (hdone : ∀ (D : Nat) (W : World), W0.heap.size ≤ D → W.heap[R]? = some (o (eL s bu)) → W0.grownBy W (some R) → W.heap[D]? = some (.deferred (some [])) → Q .normal { a with defers := { target := .collected D, args := #[] } :: a.defers } W) :
    (Code.rangeFunc g ps assign body).wpIn Fence.wide 6 Tryd.prog Q a W0 := by
  refine wpIn_rangeFunc_ownH rfl (by omega) (gf := 37) (lb := #[.pointer (some ⟨bs, 0, none⟩), .pointer (some ⟨bo, 0, none⟩)]) hg trivial (enters_of Tryd.func37 (by kernel_rfl) rfl)
    (each_mem _ (by omega) bs bo s bu sl W0 hE) KeptL.trans (keptL_b (fun b hb => (hl b hb).1)) (Below.refl _ _) (fun _ => hps.symm)
    (fun pre W => W.heap[R]? = some (o (pre.map Subtype.val)) ∧ W0.grownBy W (some R)) (fun _ _ _ => False)
    ?own (fun _ _ _ _ _ hs _ _ => hs) ⟨h0, Search.grown_of_below (Below.refl _ _)⟩
    (fun x a' _ => a' = A x.1) (fun _ _ _ _ _ _ hs _ _ => hs)
    ?assign ?body ?done ?stop
  case own =>
    rintro pre W W' row ⟨h1, h2⟩ hgr hr
    exact ⟨(hgr.block R (Array.getElem?_eq_some_iff.1 h1).1 (fun e => by have := (hr R e.symm).1; omega)).trans h1, Search.grown_from h2 hgr (fun r e => (hr r e).1)⟩
  case assign =>
    rintro l pre ⟨x, hx⟩ W K ⟨h1, h2⟩ hK
    exact hassign l x W K h2 (hK _ _ (KeepsFrom.refl _ _) (KeptL.refl _ _) ⟨h1, h2⟩ rfl)
  case body =>
    rintro l pre ⟨x, hx⟩ a' W hlw hlr ⟨h1, h2⟩ rfl hlt
    refine wpIn_mono (hbody l (pre.map Subtype.val) x W hx h1 h2) ?_
    intro e a' W' h
    cases e with
    | normal =>
      obtain ⟨h3, h4⟩ := h
      exact ⟨KeepsFrom.of_grownBy h4 (fun j e => by cases e; exact hR), KeptL.grown h4 (fun b hb => ⟨Nat.lt_of_lt_of_le (hl b hb).1 h2.size, (hl b hb).2⟩), by rw [List.map_append]; exact h3, Search.grown_trans h2 h4⟩
    | _ => exact h.elim
  case done =>
    rintro D ys W hD hS ⟨h1, h2⟩ hK
    rw [hS] at h1
    exact hdone D W hD h1 h2 hK
  case stop =>
    rintro D c pre W hD _ h _
    exact h.elim
/-- The numbers of l for which f holds, as a set. -/
def fN (f : Nat → Bool) (l : List Nat) : Nat := SetM.of ((l.filter f).map Int.ofNat)
theorem fN_lt (f : Nat → Bool) (l : List Nat) : fN f l < 256 := SetM.of_lt _
theorem fN_miss {f : Nat → Bool} {l : List Nat} {k : Nat} (h : f k = false) : fN f (l ++ [k]) = fN f l := by
  unfold fN; rw [List.filter_append]; simp [h]
theorem fN_hit {f : Nat → Bool} {l : List Nat} {k : Nat} (h : f k = true) (hk : k < 8) : fN f (l ++ [k]) = fN f l ||| 2 ^ k := by
  unfold fN; rw [List.filter_append]; simp only [List.filter_cons, h, if_true, List.filter_nil, List.map_append, List.map_cons, List.map_nil]
  rw [SetM.of_snoc]
  exact congrArg _ (SetM.bit_in k hk)
theorem or_nat (m b : Nat) (hm : m < 256) (hb : b < 256) : bits .or .i64 (m : Int) (b : Int) = ((m ||| b : Nat) : Int) := by
  show IntKind.i64.wrap ((BitVec.ofInt 64 (m : Int) ||| BitVec.ofInt 64 (b : Int)).toNat : Nat) = _
  rw [BitVec.toNat_or, SetM.toNat_ofNat m hm, SetM.toNat_ofNat b hb]
  exact SetM.wrap_small _ (Nat.or_lt_two_pow (n := 8) hm hb)
theorem pow_wrap {k : Nat} (hk : k < 8) : wrap64 ((2 : Int) ^ k) = ((2 ^ k : Nat) : Int) := by
  rw [IntWalk.wrap64_in _ (by
    have h2 : (2 : Int) ^ k ≤ 2 ^ 8 := by exact_mod_cast Nat.pow_le_pow_right (by decide) (show k ≤ 8 by omega)
    have h3 : (0 : Int) ≤ 2 ^ k := by exact_mod_cast Nat.zero_le _
    omega)]
  simp
theorem pow_lt8 {k : Nat} (hk : k < 8) : 2 ^ k < 256 := by
  have : 2 ^ k ≤ 2 ^ 7 := Nat.pow_le_pow_right (by decide) (by omega)
  omega
theorem fN_or {f : Nat → Bool} {l : List Nat} {k : Nat} (h : f k = true) (hk : k < 8) : bits .or .i64 (fN f l : Nat) (wrap64 ((2 : Int) ^ k)) = (fN f (l ++ [k]) : Nat) := by
  rw [pow_wrap hk, or_nat _ _ (fN_lt _ _) (pow_lt8 hk), fN_hit h hk]
theorem fN_test {f : Nat → Bool} {l : List Nat} {k : Nat} : (fN f l).testBit k = decide (k ∈ l ∧ f k = true ∧ k < 8) := by
  unfold fN
  rw [SetM.of_test]
  by_cases h : k ∈ l ∧ f k = true ∧ k < 8
  · rw [decide_eq_true h]
    exact decide_eq_true ⟨List.mem_map.2 ⟨k, List.mem_filter.2 ⟨h.1, h.2.1⟩, rfl⟩, h.2.2⟩
  · rw [decide_eq_false h]
    refine decide_eq_false fun ⟨h1, h2⟩ => h ?_
    obtain ⟨j, hj, e⟩ := List.mem_map.1 h1
    obtain rfl : j = k := by have := e; simp at this; omega
    exact ⟨(List.mem_filter.1 hj).1, (List.mem_filter.1 hj).2, h2⟩
/-- P20.1: the live buses. -/
def liveS (T : Tab) (s : Rid) (ask : Int) : Nat := fN (fun k => decide (s.lk k ≤ 0)) (eL ask T.buses)
theorem live_has {T : Tab} {s : Rid} {ask : Int} {k : Nat} : SetM.has (liveS T s ask : Nat) k = decide (k < T.buses.length ∧ k < 4 ∧ SetM.has ask k = true ∧ s.lk k ≤ 0) := by
  unfold liveS
  rw [SetM.has_nat, SetM.low_nat _ (fN_lt _ _)]
  rw [fN_test]
  apply decide_eq_decide.2
  rw [mem_eL, decide_eq_true_eq]
  exact ⟨fun ⟨⟨h1, h2, h3⟩, h4, _⟩ => ⟨h1, h2, h3, h4⟩, fun ⟨h1, h2, h3, h4⟩ => ⟨⟨h1, h2, h3⟩, h4, by omega⟩⟩
end Tr
namespace Tr
attribute [local go_sem] Oper.semAt_some
open Go Go.ChangeShapes Go.WideShapes Go.ChangeAt Go.RowKit
open Go.Shelf
open Tab Flat TabArg QL Ru Rg PlanM
/-- How a round of a loop over a set that writes one block is left. -/
def spost (R : Nat) (ob : Obj) (W : World) : Exit → Act → World → Prop
  | .normal, _, W' => W'.heap[R]? = some ob ∧ W.grownBy W' (some R)
  | _, _, _ => False
theorem set_loop {g : Operand} {ps : Array Tmp} {assign body : Code} {Q : Exit → Act → World → Prop} {a : Act} {W0 : World} (o : List Int → Obj) (be R : Nat) (s : Int)
    (hg : a.eval g = .func (.func 39) #[] #[.pointer (some ⟨be, 0, none⟩)]) (hps : ps.size = 1) (hbe : be < W0.heap.size) (hc : W0.cell? ⟨be, 0, none⟩ = some (.int .i64 s)) (hR : R < W0.heap.size) (hne : be ≠ R) (A : Int → Act) (h0 : W0.heap[R]? = some (o []))
    (hassign : ∀ (l : Nat) (k : Int) (W : World) (K : Act → World → Prop), K (A k) W → assign.wpIn (Fence.wide.inRound l) 4 Tryd.prog (Exit.then K (fun _ _ _ => False)) { tmps := (ps.zip #[Value.int .i64 k]).foldl (fun t (p, v) => t.setIfInBounds p v) a.tmps, defers := [] } W)
    (hbody : ∀ (l : Nat) (pre : List Int) (k : Int) (W : World), k ∈ SetM.list s → W.heap[R]? = some (o pre) → W0.grownBy W (some R) → body.wpIn (Fence.wide.inRound l) 4 Tryd.prog (spost R (o (pre ++ [k])) W) (A k) W)
    (hdone : ∀ (D : Nat) (W : World), W0.heap.size ≤ D → W.heap[R]? = some (o (SetM.list s)) → W0.grownBy W (some R) → W.heap[D]? = some (.deferred (some [])) → Q .normal { a with defers := { target := .collected D, args := #[] } :: a.defers } W) :
    (Code.rangeFunc g ps assign body).wpIn Fence.wide 6 Tryd.prog Q a W0 := by
  refine wpIn_rangeFunc_ownH rfl (by omega) (gf := 39) (lb := #[.pointer (some ⟨be, 0, none⟩)]) hg trivial (enters_of Tryd.func39 (by kernel_rfl) rfl)
    (Each.each_mem _ (by omega) be s W0 hbe hc) Each.Kept.trans (Each.kept_b hbe) (Below.refl _ _) (fun _ => hps.symm)
    (fun pre W => W.heap[R]? = some (o (pre.map Subtype.val)) ∧ W0.grownBy W (some R)) (fun _ _ _ => False)
    ?own (fun _ _ _ _ _ hs _ _ => hs) ⟨h0, Search.grown_of_below (Below.refl _ _)⟩
    (fun x a' _ => a' = A x.1) (fun _ _ _ _ _ _ hs _ _ => hs)
    ?assign ?body ?done ?stop
  case own =>
    rintro pre W W' row ⟨h1, h2⟩ hgr hr
    exact ⟨(hgr.block R (Array.getElem?_eq_some_iff.1 h1).1 (fun e => by have := (hr R e.symm).1; omega)).trans h1, Search.grown_from h2 hgr (fun r e => (hr r e).1)⟩
  case assign =>
    rintro l pre ⟨x, hx⟩ W K h hK
    exact hassign l x W K (hK _ _ (KeepsFrom.refl _ _) (Each.Kept.refl _ _) h rfl)
  case body =>
    rintro l pre ⟨x, hx⟩ a' W hlw hlr ⟨h1, h2⟩ rfl hlt
    refine wpIn_mono (hbody l (pre.map Subtype.val) x W hx h1 h2) ?_
    intro e a' W' h
    cases e with
    | normal =>
      obtain ⟨h3, h4⟩ := h
      exact ⟨KeepsFrom.of_grownBy h4 (fun j e => by cases e; exact hR), h4.block be (Nat.lt_of_lt_of_le hbe h2.size) (fun e => hne (Option.some.inj e)), by rw [List.map_append]; exact h3, Search.grown_trans h2 h4⟩
    | _ => exact h.elim
  case done =>
    rintro D ys W hD hS ⟨h1, h2⟩ hK
    rw [hS] at h1
    exact hdone D W hD h1 h2 hK
  case stop =>
    rintro D c pre W hD _ h _
    exact h.elim
theorem bks_loop {w W0 W : World} {L : List Blk.Bl} (h : Blk.Bks w L W0) (i : Nat) {R : Nat} {cs cs' : Array Value} {t : TypeId} (hi : L[i]? = some (R, cs, t)) (hR : W.heap[R]? = some (.cells cs' t (0, 0))) (hg : W0.grownBy W (some R)) : Blk.Bks w (L.set i (R, cs', t)) W := by
  have hlt : i < L.length := (List.getElem?_eq_some_iff.1 hi).1
  have h1 := h.put i hi cs'
  refine ⟨h.bel.grown hg h.bel.size (fun k e => by cases e; exact h.ge i hi), h1.low, ?_, h1.apart⟩
  intro x hx
  by_cases hxR : x.1 = R
  · have h2 := h1.blk x hx
    have h3 := h1.at i (by rw [List.getElem?_set]; simp [hlt] : (L.set i (R, cs', t))[i]? = some (R, cs', t))
    rw [hxR] at h2 ⊢
    rw [h3] at h2
    rw [hR]
    exact h2
  · obtain ⟨k, hk⟩ := List.mem_iff_getElem?.1 hx
    rw [List.getElem?_set] at hk
    split at hk
    · rename_i e; subst e
      (try rw [if_pos hlt] at hk)
      obtain rfl := Option.some.inj hk
      exact absurd rfl hxR
    · have hm := List.mem_of_getElem? hk
      exact (hg.block x.1 (h.lt hm) (fun e => hxR (Option.some.inj e))).trans (h.blk x hm)
theorem mark_kept {W W' : World} {R D : Nat} {o : Obj} (hg : W.grownBy W' (some R)) (hD : W.heap[D]? = some o) (ho : o.isCells = false) {c : Obj} (hc : W.heap[R]? = some c) (hcc : c.isCells = true) : W'.heap[D]? = some o := by
  refine (hg.block D (Array.getElem?_eq_some_iff.1 hD).1 (fun e => ?_)).trans hD
  obtain rfl := Option.some.inj e
  rw [hD] at hc
  obtain rfl := Option.some.inj hc
  rw [ho] at hcc
  cases hcc
theorem mark_below {W W' : World} {D : Nat} {o : Obj} (hb : Below W.heap.size W W') (hD : W.heap[D]? = some o) : W'.heap[D]? = some o := (hb.block D (Array.getElem?_eq_some_iff.1 hD).1).trans hD
/-- What the iterator finds, and that the block R is none of its own. -/
theorem ea_of {w W0 : World} {L : List Blk.Bl} (h : Blk.Bks w L W0) {T : Tab} {hd : Hd} (ht : IsTab w hd T) (db : DB w) {s : Int} {bo bs R : Nat} {t0 t1 t2 : TypeId} {c2 : Array Value} (k : Nat) (hk : 2 ≤ k)
    (i0 : L[0]? = some (bo, #[.slice hd.b.a (min T.buses.length 4) hd.b.cap], t0)) (i1 : L[1]? = some (bs, #[I s], t1)) (i2 : L[k]? = some (R, c2, t2)) :
    EA bs bo s T.buses hd.b W0 ∧ ∀ b ∈ blks bs bo T.buses hd.b, b < W0.heap.size ∧ b ≠ R := by
  have hE : EA bs bo s T.buses hd.b W0 := ⟨h.cell 1 0 i1 rfl, h.cell 0 0 i0 rfl, (ht.below h.bel).buses, db.below h.bel⟩
  have l3 := h.ge k i2
  have lz := h.bel.size
  have ne0 := Blk.nd_ne h.apart (i := 0) (j := k) (by rw [List.getElem?_map, i0]; rfl) (by rw [List.getElem?_map, i2]; rfl) (by omega)
  have ne1 := Blk.nd_ne h.apart (i := 1) (j := k) (by rw [List.getElem?_map, i1]; rfl) (by rw [List.getElem?_map, i2]; rfl) (by omega)
  refine ⟨hE, fun b hb => ⟨hE.lt b hb, fun e => ?_⟩⟩
  subst e
  rcases blks_cases hb with e | e | e | ⟨x, e1, e2⟩
  · have := db.lt; omega
  · exact ne1 e.symm
  · exact ne0 e.symm
  · have := xOf_lt ht.buses e1; omega
/-- The union of the sets of these buses. -/
def aS (bu : List Bs) (l : List Nat) : Int := l.foldl (fun m k => bits .or .i64 m (busAt bu k).set) 0
theorem aS_snoc (bu : List Bs) (l : List Nat) (k : Nat) : aS bu (l ++ [k]) = bits .or .i64 (aS bu l) (busAt bu k).set := by unfold aS; rw [List.foldl_append]; rfl
/-- The phases of l for which f holds, as a set. -/
def fZ (f : Int → Bool) (l : List Int) : Nat := SetM.of (l.filter f)
theorem fZ_hit {f : Int → Bool} {l : List Int} {x : Int} (h : f x = true) : SetM.withN (fZ f l : Nat) x = fZ f (l ++ [x]) := by
  unfold fZ; rw [SetM.with_of, List.filter_append]; simp [h]
theorem fZ_miss {f : Int → Bool} {l : List Int} {x : Int} (h : f x = false) : fZ f (l ++ [x]) = fZ f l := by
  unfold fZ; rw [List.filter_append]; simp [h]
/-- P20.1: what is held. -/
def holdS (T : Tab) (s : Rid) (rs : List Ru) (ask : Int) : Nat := if T.budget ≤ s.sp then 0 else fZ (fun p => decide ((ruAt rs p).ex < T.extend)) (SetM.list (bits .and .i64 (aS T.buses (eL (liveS T s ask : Nat) T.buses)) (thS grB rs : Nat)))
/-- P20.1: what is to end early. -/
def eS (bu : List Bs) (gr : Int) (l : List Nat) : Int := l.foldl (fun m k => if bits .and .i64 (busAt bu k).set gr = 0 then bits .or .i64 m (bits .andNot .i64 255 (busAt bu k).set) else m) 0
theorem eS_hit {bu : List Bs} {gr : Int} {l : List Nat} {k : Nat} (h : bits .and .i64 (busAt bu k).set gr = 0) : eS bu gr (l ++ [k]) = bits .or .i64 (eS bu gr l) (bits .andNot .i64 255 (busAt bu k).set) := by unfold eS; rw [List.foldl_append]; simp [h]
theorem eS_miss {bu : List Bs} {gr : Int} {l : List Nat} {k : Nat} (h : ¬ bits .and .i64 (busAt bu k).set gr = 0) : eS bu gr (l ++ [k]) = eS bu gr l := by unfold eS; rw [List.foldl_append]; simp [h]
def earlyS (T : Tab) (s : Rid) (rs : List Ru) (ask : Int) : Int := eS T.buses (thS grB rs : Nat) (eL (liveS T s ask : Nat) T.buses)
end Tr
namespace Tr
attribute [local go_sem] Oper.semAt_some
open Go Go.ChangeShapes Go.WideShapes Go.ChangeAt Go.RowKit
open Go.Shelf
open Tab Flat TabArg QL Ru Rg PlanM
theorem live_any (T : Tab) (hd : Hd) (s : Rid) (ask : Int) (w : World) (ht : IsTab w hd T) (db : DB w) : Calls Tryd.prog 10 #[.agg (T.cells hd).toArray, .agg s.cells.toArray, .int .i64 ask] w fun e w' => e = .returned (.int .i64 (liveS T s ask : Nat)) ∧ Below w.heap.size w w' := by
  have h1 : (T.cells hd).length = 131 := by have := (cells_ok ht).size; rwa [List.size_toArray] at this
  have IA : (Tryd.prog.info? 31).map (·.size) = some (T.cells hd).length := by rw [h1]; exact May.infoT
  have HL : Hid (liveS T s ask = fN (fun k => decide (s.lk k ≤ 0)) (eL ask T.buses)) := Lib.hid rfl
  generalize liveS T s ask = res at HL ⊢
  have HT0 := Lib.hid ht
  have DB0 := Lib.hid db
  have hn0 := Blk.Bks.nil w
  have hn1 := hn0.alloc (T.cells hd).toArray 31
  have hn2 := hn1.alloc s.cells.toArray 34
  rw [show (w.alloc (.cells (T.cells hd).toArray 31)).heap.size = w.heap.size + 1 by simp] at hn2
  clear hn0
  clear hn1
  refine (callsIn_wide (n := 6)).1 ?_
  refine callsIn_of_wp_marks Tryd.func10 rfl trivial ?_ rfl
  simp only [Tryd.ntmps10, List.size_toArray, List.length_cons, List.length_nil, Nat.reduceAdd, Nat.reduceSub, Array.replicate_succ, Array.replicate_zero, List.push_toArray, List.append_toArray, List.nil_append, List.cons_append]
  refine wpIn_wide.2 ?_
  go_upto_region 2 with fail
  have hn3 := hn2.alloc #[I 0] 3
  rw [show ((w.alloc (.cells (T.cells hd).toArray 31)).alloc (.cells s.cells.toArray 34)).heap.size = w.heap.size + 1 + 1 by simp] at hn3
  clear hn2
  generalize World.alloc (World.alloc (World.alloc w _) _) _ = v at hn3 ⊢
  generalize hg2 : w.heap.size + 1 + 1 = gl at hn3 ⊢
  clear hg2
  generalize hg1 : w.heap.size + 1 = gs at hn3 ⊢
  generalize hg0 : w.heap.size = gt at hn3 ⊢
  clear hg0 hg1
  have H0 := Lib.hid hn3
  clear hn3
  go_wp2_with (refine Row.wpList_load_g 31 _ rfl (by first | rfl | (go_simp; done) | fail) ⟨gt, 0, none⟩ rfl (T.cells hd) _ (by have := H0.out.lies 2 rfl; simpa using this) Tryd.underlying31 rfl IA ?_)
  refine (callsIn_wide.1 (each_in 6 T hd ask _ (ht.below H0.out.bel))).mono ?_
  rintro e vn ⟨rfl, rfl⟩
  go_wp2_with fail
  have hn := ((H0.out.alloc (T.cells hd).toArray 31).alloc #[I ask] 3).alloc #[.slice hd.b.a (min T.buses.length 4) hd.b.cap] 29
  rw [show (v.alloc (.cells (T.cells hd).toArray 31)).heap.size = v.heap.size + 1 by simp, show ((v.alloc (.cells (T.cells hd).toArray 31)).alloc (.cells #[I ask] 3)).heap.size = v.heap.size + 2 by simp] at hn
  generalize World.alloc (World.alloc (World.alloc v _) _) _ = W0 at hn ⊢
  generalize hb2 : v.heap.size + 2 = bo at hn ⊢
  generalize hb1 : v.heap.size + 1 = bs at hn ⊢
  generalize v.heap.size = bt at hn
  clear hb1 hb2 H0
  have H1 := Lib.hid hn
  clear hn
  have hE : EA bs bo ask T.buses hd.b W0 := ⟨H1.out.cell 1 0 rfl rfl, H1.out.cell 0 0 rfl rfl, (ht.below H1.out.bel).buses, db.below H1.out.bel⟩
  have hlb : ∀ b ∈ blks bs bo T.buses hd.b, b < W0.heap.size ∧ b ≠ gl := by
    have l3 := H1.out.ge 3 rfl
    have lz := H1.out.bel.size
    have ne0 := Blk.nd_ne H1.out.apart (i := 0) (j := 3) rfl rfl (by decide)
    have ne1 := Blk.nd_ne H1.out.apart (i := 1) (j := 3) rfl rfl (by decide)
    refine fun b hb => ⟨hE.lt b hb, fun e => ?_⟩
    subst e
    rcases blks_cases hb with e | e | e | ⟨x, e1, e2⟩
    · have := db.lt; omega
    · exact ne1 e.symm
    · exact ne0 e.symm
    · have := xOf_lt ht.buses e1; omega
  refine (wpIn_wide (n := 6)).1 ?_
  refine each_loop0 (fun pre => .cells #[I (fN (fun k => decide (s.lk k ≤ 0)) pre : Nat)] 3) bs bo gl ask T.buses hd.b rfl rfl hE (Blk.lt_of (H1.out.at 3 rfl)) hlb (fun _ => rfl) (fun k => { tmps := #[.agg (T.cells hd).toArray, .agg s.cells.toArray, .int .i64 ask, .pointer (some ⟨gt, 0, none⟩), .pointer (some ⟨gs, 0, none⟩), undef, .int .i64 0, .pointer (some ⟨gl, 0, none⟩), .int .i64 k, .agg (T.cells hd).toArray, .int .i64 ask, .func (.func 37) #[] #[.pointer (some ⟨bs, 0, none⟩), .pointer (some ⟨bo, 0, none⟩)], .int .i64 k, .agg (busAt T.buses k).cells.toArray, undef, undef, undef, undef, undef, undef, undef, undef, undef, undef], defers := [] }) (H1.out.at 3 rfl) ?assign ?body ?done
  case assign =>
    intro l k W K hg hK
    gi_wp2
    exact hK
  case body =>
    intro l pre k W hk hR hg
    obtain ⟨hk0, hk4, hk2⟩ := mem_eL.1 hk
    have hgs : W.heap[gs]? = some (.cells s.cells.toArray 34 (0, 0)) := (hg.block gs (Blk.lt_of (H1.out.at 4 rfl)) (fun e => Blk.nd_ne H1.out.apart (i := 4) (j := 3) rfl rfl (by decide) (Option.some.inj e))).trans (H1.out.at 4 rfl)
    have c0 : W.cell? ⟨gs, k, none⟩ = some (I (s.lk k)) := by
      rw [cell_of_row _ _ _ _ _ _ hgs, List.getElem?_toArray]
      exact lk_at s hk4
    have c1 : W.cell? ⟨gl, 0, none⟩ = some (I (fN (fun k => decide (s.lk k ≤ 0)) pre : Nat)) := by rw [cell_of_row _ _ _ _ _ _ hR]; rfl
    have f1 : W.frozen? ⟨gl, 0, none⟩ = false := frozen_of_row _ _ _ _ _ hR
    have hk5 : (k : Int) < 4 := by omega
    have HR := Lib.hid hR
    clear hR hgs hk0 hk2 hE hlb hg
    by_cases hlk : s.lk k ≤ 0
    · have HO : Hid (bits .or .i64 (fN (fun k => decide (s.lk k ≤ 0)) pre : Nat) (wrap64 ((2 : Int) ^ k)) = (fN (fun k => decide (s.lk k ≤ 0)) (pre ++ [k]) : Nat)) := Lib.hid (fN_or (decide_eq_true hlk) (by omega))
      generalize ((fN (fun k => decide (s.lk k ≤ 0)) pre : Nat) : Int) = m at *
      refine wpIn_block (wpIn_seq ?_)
      refine Up.region_list (fun ⟨_, _, h⟩ => h) (by kernel_rfl) ?_
      go_wp2_with fail
      gi_wp2
      refine Up.region_tail 4 (fun ⟨_, _, h⟩ => h) (by kernel_rfl) (by kernel_rfl) (by kernel_rfl) ?_
      have d1 : ({ W with drawn := W.drawn + 1 } : World).cell? ⟨gl, 0, none⟩ = some (I m) := c1
      have e1 : ({ W with drawn := W.drawn + 1 } : World).frozen? ⟨gl, 0, none⟩ = false := f1
      have HR1 : Hid (({ W with drawn := W.drawn + 1 } : World).heap[gl]? = some (.cells #[I m] 3)) := HR
      have HB := Lib.hid (show Below W.heap.size W { W with drawn := W.drawn + 1 } from (Below.refl _ _).drew)
      clear c1 f1 HR
      generalize ({ W with drawn := W.drawn + 1 } : World) = W2 at d1 e1 HR1 HB ⊢
      simp only [List.take_succ_cons, List.take_zero, List.drop_succ_cons, List.drop_zero]
      repeat still_step
      refine wpStill_nil ?_
      go_wp2_with fail
      rw [HO.out]
      exact ⟨Boxed.set _ (show Boxed W2 gl 3 (I m) from HR1.out), Search.grown_trans (Search.grown_of_below HB.out) (grownBy_setCell' _ _ _)⟩
    · have HO : Hid (fN (fun k => decide (s.lk k ≤ 0)) (pre ++ [k]) = fN (fun k => decide (s.lk k ≤ 0)) pre) := Lib.hid (fN_miss (decide_eq_false hlk))
      generalize fN (fun k => decide (s.lk k ≤ 0)) pre = m at *
      refine wpIn_block (wpIn_seq ?_)
      refine Up.region_list (fun ⟨_, _, h⟩ => h) (by kernel_rfl) ?_
      go_wp2_with fail
      gi_wp2
      refine ⟨?_, Search.grown_of_below (Below.refl _ _)⟩
      dsimp only
      rw [HO.out]
      exact HR.out
  case done =>
    intro D W hD hR hg hK
    rw [← HL.out] at hR
    have hc := Boxed.cell hR
    have HB : Hid (Below w.heap.size w W) := Lib.hid (H1.out.bel.grown hg H1.out.bel.size (fun k e => by cases e; exact H1.out.ge 3 rfl))
    have HD : Hid (w.heap.size ≤ D) := Lib.hid (by have := H1.out.bel.size; omega)
    clear hg hR hE hlb
    go_wp2
    refine ⟨by simp, .inl ⟨_, _, rfl, run_takeDeferred hK, ?_⟩⟩
    exact ⟨_, results_tmp rfl _ _ _, rfl, HB.out.trans (belowK_b (w := w) (Nat.le_refl _) _ D _ _ HD.out hK rfl rfl)⟩
end Tr
namespace Tr
attribute [local go_sem] Oper.semAt_some
open Go Go.ChangeShapes Go.WideShapes Go.ChangeAt Go.RowKit
open Tab Flat TabArg QL Ru Rg PlanM
theorem oneMore_any (n : Int) (w : World) : Calls Tryd.prog 28 #[.int .i64 n] w fun e w' => e = .returned (.int .i64 (Cnt.more n)) ∧ w = w' := by
  by_cases h1 : n < 0
  · have HE : Hid (Cnt.more n = 1) := Lib.hid (by unfold Cnt.more Cnt.ct; rw [if_pos h1]; rfl)
    have em : max n 0 = 0 := by omega
    go_enter Tryd.func28, Tryd.ntmps28
    go_wp2
    go_ret
    exact ⟨Cnt.ret_int HE.out.symm, rfl⟩
  by_cases h2 : 9999 < n
  · have HE : Hid (Cnt.more n = 10000) := Lib.hid (by unfold Cnt.more Cnt.ct; rw [if_neg h1, if_pos h2]; rfl)
    go_enter Tryd.func28, Tryd.ntmps28
    go_wp2
    go_ret
    exact ⟨Cnt.ret_int HE.out.symm, rfl⟩
  · have HE : Hid (Cnt.more n = n + 1) := Lib.hid (by unfold Cnt.more Cnt.ct; rw [if_neg h1, if_neg h2])
    have e1 : IntKind.i64.wrap (n + 1) = n + 1 := by rw [IntKind.wrap_i64]; omega
    go_enter Tryd.func28, Tryd.ntmps28
    go_wp2
    go_ret
    exact ⟨Cnt.ret_int HE.out.symm, rfl⟩
theorem green_any (rs : List Ru) (h8 : rs.length = 8) (w : World) : Calls Tryd.prog 24 #[.agg (runsC rs).toArray] w fun e w' => e = .returned (.int .i64 (thS grB rs : Nat)) ∧ Below w.heap.size w w' := by
  have RS : Hid (((thS grB rs : Nat) : Int) = (SetM.of (thTo grB 0 (rs.take 8)) : Nat)) := Lib.hid (by rw [List.take_of_length_le (by omega)]; rfl)
  have IX : Hid (∀ (q : Nat) u, rs[q]? = some u → ∀ W, Sem.run Tryd.prog (Instr.index 41 (.agg (runsC rs).toArray) (.int .i64 q)) W = .ok (.agg u.cells.toArray) W) := Lib.hid (fun q u hu W => idx_run h8 hu W)
  have LI : Hid ((Tryd.prog.info? 41).map (·.size) = some (runsC rs).length) := Lib.hid (by rw [runs_len, h8]; exact infoRs)
  have hs0 : (runsC rs).length = 96 := by rw [runs_len, h8]
  have L8 := Lib.hid h8
  generalize hrs : ((thS grB rs : Nat) : Int) = res at RS ⊢
  clear hrs
  generalize hrc : runsC rs = fl at *
  clear hrc h8
  have hn0 := Blk.Bks.nil w
  have hn1 := hn0.alloc fl.toArray 41
  clear hn0
  go_enter Tryd.func24, Tryd.ntmps24
  go_upto_region 2 with fail
  generalize World.alloc w _ = v at hn1 ⊢
  generalize hg0 : w.heap.size = gq at hn1 ⊢
  clear hg0
  have H0 := Lib.hid hn1
  clear hn1
  clear hs0
  go_wp2_with (refine Row.wpList_load_g 41 _ rfl (by first | rfl | (go_simp; done) | fail) ⟨gq, 0, none⟩ rfl fl _ (seg H0.out 0 0 rfl _ (by simp)) Tryd.underlying41 rfl LI.out ?_)
  go_loopw [3, 7] (fun v g wr => ∃ q : Nat, q ≤ 8 ∧ g = .int .i64 q ∧ v = .int .i64 (SetM.of (thTo grB 0 (rs.take q)) : Nat) ∧ Below w.heap.size w wr) (fun _ g _ => 8 - (intOf g).toNat)
  case atStart => exact ⟨0, by omega, rfl, rfl, H0.out.bel⟩
  case round =>
    obtain ⟨q, hq, rfl, rfl, hbel⟩ := hrel
    have HB := Lib.hid hbel
    clear hbel
    by_cases hlt : q < 8
    · have hv : rs[q]? = some (ruAt rs q) := ru_at L8.out hlt
      generalize ruAt rs q = u at hv
      have HV := Lib.hid hv
      have hidx := IX.out q u hv
      clear hv
      have hsz := HB.out.size
      go_upto_region 5 with (refine Row.wpList_store_new rfl 40 _ _ rfl wr _ u.cells.toArray rfl rfl rfl infoRu rfl (one_ru _) ?_)
      clear hidx
      have hbn : Below w.heap.size w (wr.alloc (.cells u.cells.toArray 40)) := HB.out.alloc hsz _
      have hg := Row.lies_of_block (heap_alloc_new wr (.cells u.cells.toArray 40))
      have HN := Lib.hid hbn
      have c0 := hg 0 (I u.co) rfl
      rw [Tab.add_zero] at c0
      clear hg hbn HB hsz
      generalize wr.alloc (.cells u.cells.toArray 40) = w4 at c0 HN ⊢
      generalize wr.heap.size = b4 at c0 ⊢
      cases hon : grB u with
      | true =>
        have HS := Lib.hid (th_with HV.out hon)
        have e1 : u.co = 1 := by unfold grB at hon; exact beq_iff_eq.1 hon
        rw [e1] at c0
        clear hon e1
        generalize SetM.of (thTo grB 0 (rs.take q)) = s0 at HS ⊢
        go_wp2_with (go_at_call 25; refine (Set.with_any _ _ _).mono ?_; rintro e w' ⟨rfl, rfl⟩)
        go_roundw
        case rel => exact ⟨q + 1, by omega, by go_num, by rw [← HS.out], HN.out⟩
        case measure => simp [intOf]; omega
      | false =>
        have HS := Lib.hid (th_skip HV.out hon)
        have e1 : ¬ u.co = 1 := by unfold grB at hon; exact beq_eq_false_iff_ne.1 hon
        have e2 : (u.co == 1) = false := beq_eq_false_iff_ne.2 e1
        clear hon
        generalize SetM.of (thTo grB 0 (rs.take q)) = s0 at HS ⊢
        go_wp2
        go_roundw
        case rel => exact ⟨q + 1, by omega, by go_num, by rw [← HS.out], HN.out⟩
        case measure => simp [intOf]; omega
    · obtain rfl : q = 8 := by omega
      have HE : Hid (((SetM.of (thTo grB 0 (rs.take 8)) : Nat) : Int) = res) := Lib.hid RS.out.symm
      generalize SetM.of (thTo grB 0 (rs.take 8)) = s0 at HE ⊢
      go_wp2
      go_ret
      exact ⟨ret_int HE.out, HB.out⟩
end Tr
namespace SetE
open Go.RowKit Go.Shelf
open Go.Proofs.YtkccepdifgldeaaDoor
attribute [local go_sem] Oper.semAt_some
/-- The block B lies as it lay. -/
def Kept (B : Nat) (W W' : World) : Prop := W'.heap[B]? = W.heap[B]?
theorem Kept.refl (B : Nat) (W : World) : Kept B W W := rfl
theorem Kept.trans {B : Nat} {A C D : World} (h : Kept B A C) (k : Kept B C D) : Kept B A D := Eq.trans k h
theorem Kept.cell {B o : Nat} {A C : World} (h : Kept B A C) : C.cell? ⟨B, o, none⟩ = A.cell? ⟨B, o, none⟩ := by
  simp only [World.cell?, show C.heap[B]? = A.heap[B]? from h]
theorem Kept.below {n₀ B : Nat} {A C : World} (h : Below n₀ A C) (hB : B < n₀) : Kept B A C := h.block B hB
theorem Kept.setCell {B b o : Nat} (W : World) (v : Value) (h : B ≠ b) : Kept B W (W.setCell ⟨b, o, none⟩ v) := Below.heap_setCell _ _ _ B h
end SetE
namespace Tr
attribute [local go_sem] Oper.semAt_some
open Go Go.ChangeShapes Go.WideShapes Go.ChangeAt Go.RowKit
open Go.Shelf
open Tab Flat TabArg QL Ru Rg PlanM
theorem hold_any (T : Tab) (hd : Hd) (s : Rid) (rs : List Ru) (ask : Int) (w : World) (ht : IsTab w hd T) (db : DB w) (h8 : rs.length = 8) : Calls Tryd.prog 12 #[.agg (T.cells hd).toArray, .agg s.cells.toArray, .agg (runsC rs).toArray, .int .i64 ask] w fun e w' => e = .returned (.int .i64 (holdS T s rs ask : Nat)) ∧ Below w.heap.size w w' := by
  have h1 : (T.cells hd).length = 131 := by have := (cells_ok ht).size; rwa [List.size_toArray] at this
  have IA : (Tryd.prog.info? 31).map (·.size) = some (T.cells hd).length := by rw [h1]; exact May.infoT
  have IR : (Tryd.prog.info? 41).map (·.size) = some (runsC rs).length := by rw [runs_len, h8]; exact infoRs
  have HT0 := Lib.hid ht
  have DB0 := Lib.hid db
  obtain ⟨res, hres⟩ : ∃ r, holdS T s rs ask = r := ⟨_, rfl⟩
  rw [hres]
  unfold holdS at hres
  by_cases hb : T.budget ≤ s.sp
  · rw [if_pos hb] at hres
    subst hres
    have hn0 := Blk.Bks.nil w
    have hn1 := hn0.alloc (T.cells hd).toArray 31
    have hn2 := hn1.alloc s.cells.toArray 34
    rw [show (w.alloc (.cells (T.cells hd).toArray 31)).heap.size = w.heap.size + 1 by simp] at hn2
    have hn3 := hn2.alloc (runsC rs).toArray 41
    rw [show ((w.alloc (.cells (T.cells hd).toArray 31)).alloc (.cells s.cells.toArray 34)).heap.size = w.heap.size + 1 + 1 by simp] at hn3
    clear hn0
    clear hn1
    clear hn2
    refine (callsIn_wide (n := 6)).1 ?_
    refine callsIn_of_wp_marks Tryd.func12 rfl trivial ?_ rfl
    simp only [Tryd.ntmps12, List.size_toArray, List.length_cons, List.length_nil, Nat.reduceAdd, Nat.reduceSub, Array.replicate_succ, Array.replicate_zero, List.push_toArray, List.append_toArray, List.nil_append, List.cons_append]
    refine wpIn_wide.2 ?_
    go_upto_region 1 with fail
    generalize World.alloc (World.alloc (World.alloc w _) _) _ = v at hn3 ⊢
    generalize hg2 : w.heap.size + 1 + 1 = gr at hn3 ⊢
    generalize hg1 : w.heap.size + 1 = gs at hn3 ⊢
    generalize hg0 : w.heap.size = gt at hn3 ⊢
    clear hg0 hg1 hg2
    have H0 := Lib.hid hn3
    clear hn3
    have k5 : v.cell? ⟨gs, 5, none⟩ = some (I s.sp) := H0.out.cell 1 5 rfl rfl
    have k7 : v.cell? ⟨gt, 117, none⟩ = some (I T.budget) := H0.out.cell 2 117 rfl (by rw [List.getElem?_toArray]; exact tab_bd ht)
    go_wp2
    exact ⟨_, results_tmp rfl _ _ _, rfl, H0.out.bel⟩
  · rw [if_neg hb] at hres
    have hn0 := Blk.Bks.nil w
    have hn1 := hn0.alloc (T.cells hd).toArray 31
    have hn2 := hn1.alloc s.cells.toArray 34
    rw [show (w.alloc (.cells (T.cells hd).toArray 31)).heap.size = w.heap.size + 1 by simp] at hn2
    have hn3 := hn2.alloc (runsC rs).toArray 41
    rw [show ((w.alloc (.cells (T.cells hd).toArray 31)).alloc (.cells s.cells.toArray 34)).heap.size = w.heap.size + 1 + 1 by simp] at hn3
    clear hn0
    clear hn1
    clear hn2
    refine (callsIn_wide (n := 6)).1 ?_
    refine callsIn_of_wp_marks Tryd.func12 rfl trivial ?_ rfl
    simp only [Tryd.ntmps12, List.size_toArray, List.length_cons, List.length_nil, Nat.reduceAdd, Nat.reduceSub, Array.replicate_succ, Array.replicate_zero, List.push_toArray, List.append_toArray, List.nil_append, List.cons_append]
    refine wpIn_wide.2 ?_
    go_upto_region 1 with fail
    generalize World.alloc (World.alloc (World.alloc w _) _) _ = v at hn3 ⊢
    generalize hg2 : w.heap.size + 1 + 1 = gr at hn3 ⊢
    generalize hg1 : w.heap.size + 1 = gs at hn3 ⊢
    generalize hg0 : w.heap.size = gt at hn3 ⊢
    clear hg0 hg1 hg2
    have H0 := Lib.hid hn3
    clear hn3
    have k5 : v.cell? ⟨gs, 5, none⟩ = some (I s.sp) := H0.out.cell 1 5 rfl rfl
    have k7 : v.cell? ⟨gt, 117, none⟩ = some (I T.budget) := H0.out.cell 2 117 rfl (by rw [List.getElem?_toArray]; exact tab_bd ht)
    go_upto_region 4 with fail
    clear k5 k7
    have hn := H0.out.alloc #[I 0] 3
    generalize World.alloc v _ = v2 at hn ⊢
    generalize v.heap.size = ga at hn ⊢
    have H1 := Lib.hid hn
    clear hn H0
    obtain ⟨live, hlive⟩ : ∃ l : Int, (liveS T s ask : Nat) = l := ⟨_, rfl⟩
    rw [hlive] at hres
    have LV : Hid (∀ W, Below v2.heap.size v2 W → Calls Tryd.prog 10 #[.agg (T.cells hd).toArray, .agg s.cells.toArray, .int .i64 ask] W fun e w' => e = .returned (.int .i64 live) ∧ Below W.heap.size W w') := Lib.hid (fun W hb => by rw [← hlive]; exact live_any T hd s ask W (ht.below (H1.out.step hb).bel) (db.below (H1.out.step hb).bel))
    clear hlive
    refine QT.region v2.heap.size 5 (by kernel_rfl) (by kernel_rfl) ?_
    simp only [List.take_succ_cons, List.take_zero]
    repeat first
      | (refine wpQuiet_load rfl 31 _ rfl ⟨gt, 0, none⟩ rfl (T.cells hd) _ (fun w' ⟨pw, e⟩ => by rw [e]; exact seg (H1.out.by pw) 3 0 rfl _ (by simp)) Tryd.underlying31 rfl IA ?_
         dsimp only [Act.put]
         simp only [List.setIfInBounds_toArray, List.set_cons_zero, List.set_cons_succ])
      | (refine wpQuiet_load rfl 34 _ rfl ⟨gs, 0, none⟩ rfl s.cells _ (fun w' ⟨pw, e⟩ => by rw [e]; exact seg (H1.out.by pw) 2 0 rfl _ rfl) Tryd.underlying34 rfl infoRd ?_
         dsimp only [Act.put]
         simp only [List.setIfInBounds_toArray, List.set_cons_zero, List.set_cons_succ])
      | (quiet_step (first | (go_at_call 10; with_reducible exact QB.call_of (Nat.le_refl _) (fun b => LV.out _ b))))
    refine wpQuiet_nil ?_
    intro _ hw'
    obtain ⟨pq, rfl⟩ := hw'
    have HP := Lib.hid (H1.out.by pq)
    generalize pq.world = vp at HP ⊢
    simp only [List.drop_succ_cons, List.drop_zero]
    clear LV H1
    go_wp2_with fail
    refine (callsIn_wide.1 (each_in 6 T hd live _ (ht.below HP.out.bel))).mono ?_
    rintro e vn ⟨rfl, rfl⟩
    go_wp2_with fail
    have hn := ((HP.out.alloc (T.cells hd).toArray 31).alloc #[I live] 3).alloc #[.slice hd.b.a (min T.buses.length 4) hd.b.cap] 29
    rw [show (vp.alloc (.cells (T.cells hd).toArray 31)).heap.size = vp.heap.size + 1 by simp, show ((vp.alloc (.cells (T.cells hd).toArray 31)).alloc (.cells #[I live] 3)).heap.size = vp.heap.size + 2 by simp] at hn
    generalize World.alloc (World.alloc (World.alloc vp _) _) _ = W0 at hn ⊢
    generalize hb2 : vp.heap.size + 2 = bo at hn ⊢
    generalize hb1 : vp.heap.size + 1 = bs at hn ⊢
    generalize vp.heap.size = bt at hn
    clear hb1 hb2 HP
    have H2 := Lib.hid hn
    clear hn
    obtain ⟨hE, hlb⟩ := ea_of H2.out ht db 3 (by decide) rfl rfl rfl
    refine (wpIn_wide (n := 6)).1 ?_
    refine each_loop (fun pre => .cells #[I (aS T.buses pre)] 3) bs bo ga live T.buses hd.b rfl rfl hE (Blk.lt_of (H2.out.at 3 rfl)) hlb (fun _ => rfl) (fun k Bx => { tmps := #[.agg (T.cells hd).toArray, .agg s.cells.toArray, .agg (runsC rs).toArray, I ask, .pointer (some ⟨gt, 0, none⟩), .pointer (some ⟨gs, 0, none⟩), .pointer (some ⟨gr, 0, none⟩), undef, I 0, .pointer (some ⟨ga, 0, none⟩), undef, .pointer (some ⟨Bx, 0, none⟩), undef, undef, .pointer (some ⟨gs, 5, none⟩), I s.sp, .pointer (some ⟨gt, 117, none⟩), I T.budget, .bool false, .agg (T.cells hd).toArray, .agg (T.cells hd).toArray, .agg s.cells.toArray, I ask, I live, .func (.func 37) #[] #[.pointer (some ⟨bs, 0, none⟩), .pointer (some ⟨bo, 0, none⟩)], I k, .agg (busAt T.buses k).cells.toArray, undef, undef, undef, undef, undef, undef, undef, undef, undef, undef, undef, undef, undef, undef, undef, undef, undef, undef, undef, undef, undef], defers := [] }) 53 (fun k => (busAt T.buses k).cells.toArray) (H2.out.at 3 rfl) ?assign ?body ?done
    case assign =>
      intro l k W K hg hK
      have HK := Lib.hid hK
      clear hK
      generalize busAt T.buses k = b at HK ⊢
      refine Up.region_list (fun ⟨_, _, h⟩ => h) (by kernel_rfl) ?_
      go_wp2_with (refine Row.wpList_store_new rfl 53 _ _ rfl W _ b.cells.toArray rfl rfl rfl infoBs rfl (Bs.one _) ?_)
      exact HK.out _ ((Below.refl _ _).alloc (Nat.le_refl _) _) (heap_alloc_new W _)
    case body =>
      intro l pre k Bx W hk hR hg hBx hB
      have HO := Lib.hid (aS_snoc T.buses pre k)
      generalize aS T.buses pre = m at *
      generalize busAt T.buses k = b at *
      have c1 : W.cell? ⟨ga, 0, none⟩ = some (I m) := by rw [cell_of_row _ _ _ _ _ _ hR]; rfl
      have f1 : W.frozen? ⟨ga, 0, none⟩ = false := frozen_of_row _ _ _ _ _ hR
      have c2 : W.cell? ⟨Bx, 0, none⟩ = some (I b.set) := by rw [cell_of_row _ _ _ _ _ _ hB]; rfl
      have HR := Lib.hid hR
      clear hR hB hE hlb hg
      refine wpIn_block ?_
      refine Up.region_list (fun ⟨_, _, h⟩ => h) (by kernel_rfl) ?_
      go_wp2_with fail
      dsimp only [rpost, Exit.inBlock]
      rw [HO.out]
      exact ⟨Boxed.set _ (show Boxed W ga 3 (I m) from HR.out), grownBy_setCell' _ _ _⟩
    case done =>
      intro D W hD hR hg hK
      have H3 := Lib.hid (bks_loop H2.out 3 rfl hR hg)
      simp only [List.set_cons_succ, List.set_cons_zero] at H3
      generalize aS T.buses (eL live T.buses) = asked at H3 hres
      have KD := Lib.hid hK
      have GD : Hid (w.heap.size ≤ D) := Lib.hid (by have := H2.out.bel.size; omega)
      clear hR hg hK hE hlb H2
      go_wp2_with fail
      have hn := H3.out.alloc #[I 0] 3
      have kd := mark_below ((Below.refl W.heap.size W).alloc (Nat.le_refl _) (.cells #[I 0] 3)) KD.out
      generalize World.alloc W _ = v5 at hn kd ⊢
      generalize W.heap.size = gh at hn ⊢
      have H4 := Lib.hid hn
      have KD4 := Lib.hid kd
      clear hn kd H3 KD
      obtain ⟨gn, hgn⟩ : ∃ g : Int, (thS grB rs : Nat) = g := ⟨_, rfl⟩
      rw [hgn] at hres
      have GR : Hid (∀ W, Calls Tryd.prog 24 #[.agg (runsC rs).toArray] W fun e w' => e = .returned (.int .i64 gn) ∧ Below W.heap.size W w') := Lib.hid (fun W => by rw [← hgn]; exact green_any rs h8 W)
      have q1 : ∀ q : QB.By v5.heap.size v5, q.world.cell? ⟨ga, 0, none⟩ = some (I asked) := fun q => (H4.out.by q).cell 4 0 rfl rfl
      refine QT.region v5.heap.size 4 (by kernel_rfl) (by kernel_rfl) ?_
      simp only [List.take_succ_cons, List.take_zero]
      repeat first
        | (refine wpQuiet_load rfl 41 _ rfl ⟨gr, 0, none⟩ rfl (runsC rs) _ (fun w' ⟨pw, e⟩ => by rw [e]; exact seg (H4.out.by pw) 5 0 rfl _ (by simp)) Tryd.underlying41 rfl IR ?_
           dsimp only [Act.put]
           simp only [List.setIfInBounds_toArray, List.set_cons_zero, List.set_cons_succ])
        | (quiet_step (first | (go_at_call 24; with_reducible exact QB.call_of (Nat.le_refl _) (fun b => GR.out _))))
      refine wpQuiet_nil ?_
      intro _ hw'
      obtain ⟨pq, rfl⟩ := hw'
      have HP := Lib.hid (H4.out.by pq)
      have KD5 := Lib.hid (mark_below pq.below KD4.out)
      generalize pq.world = vp at HP KD5 ⊢
      simp only [List.drop_succ_cons, List.drop_zero]
      clear q1 H4 KD4
      clear GR
      generalize hs2 : bits .and .i64 asked gn = s2 at *
      clear hs2
      go_wp2_with fail
      refine (callsIn_wide.1 (Each.each_in 6 _ _)).mono ?_
      rintro e vn ⟨rfl, rfl⟩
      go_wp2_with fail
      have hn := HP.out.alloc #[I s2] 3
      have kd := mark_below ((Below.refl vp.heap.size vp).alloc (Nat.le_refl _) (.cells #[I s2] 3)) KD5.out
      generalize World.alloc vp _ = W6 at hn kd ⊢
      generalize vp.heap.size = be at hn ⊢
      have H6 := Lib.hid hn
      have KD6 := Lib.hid kd
      clear hn kd HP KD5
      refine (wpIn_wide (n := 6)).1 ?_
      refine set_loop (fun pre => .cells #[I (fZ (fun p => decide ((ruAt rs p).ex < T.extend)) pre : Nat)] 3) be gh s2 rfl rfl (Blk.lt_of (H6.out.at 0 rfl)) (H6.out.cell 0 0 rfl rfl) (Blk.lt_of (H6.out.at 1 rfl)) (Blk.nd_ne H6.out.apart (i := 0) (j := 1) rfl rfl (by decide)) (fun k => { tmps := #[.agg (T.cells hd).toArray, .agg s.cells.toArray, .agg (runsC rs).toArray, I ask, .pointer (some ⟨gt, 0, none⟩), .pointer (some ⟨gs, 0, none⟩), .pointer (some ⟨gr, 0, none⟩), undef, I 0, .pointer (some ⟨ga, 0, none⟩), undef, undef, .pointer (some ⟨gh, 0, none⟩), I k, .pointer (some ⟨gs, 5, none⟩), I s.sp, .pointer (some ⟨gt, 117, none⟩), I T.budget, .bool false, .agg (T.cells hd).toArray, .agg (T.cells hd).toArray, .agg s.cells.toArray, I ask, I live, .func (.func 37) #[] #[.pointer (some ⟨bs, 0, none⟩), .pointer (some ⟨bo, 0, none⟩)], undef, undef, undef, undef, undef, undef, I asked, .agg (runsC rs).toArray, I gn, I s2, .func (.func 39) #[] #[.pointer (some ⟨be, 0, none⟩)], I k, undef, undef, undef, undef, undef, undef, undef, undef, undef, undef, undef], defers := [] }) (H6.out.at 1 rfl) ?assign2 ?body2 ?done2
      case assign2 =>
        intro l k W K hK
        gi_wp2
        exact hK
      case body2 =>
        intro l pre k W hk hR hg
        obtain ⟨hk0, hk8⟩ := SetM.list_bd s2 k hk
        obtain ⟨p, rfl⟩ := Int.eq_ofNat_of_zero_le hk0
        have hp : p < 8 := by omega
        have hgr : W.heap[gr]? = some (.cells (runsC rs).toArray 41 (0, 0)) := (hg.block gr (Blk.lt_of (H6.out.at 6 rfl)) (fun e => Blk.nd_ne H6.out.apart (i := 6) (j := 1) rfl rfl (by decide) (Option.some.inj e))).trans (H6.out.at 6 rfl)
        have hgt : W.heap[gt]? = some (.cells (T.cells hd).toArray 31 (0, 0)) := (hg.block gt (Blk.lt_of (H6.out.at 8 rfl)) (fun e => Blk.nd_ne H6.out.apart (i := 8) (j := 1) rfl rfl (by decide) (Option.some.inj e))).trans (H6.out.at 8 rfl)
        have c0 : W.cell? ⟨gr, p * 12 + 6, none⟩ = some (I (ruAt rs p).ex) := by
          rw [cell_of_row _ _ _ _ _ _ hgr, List.getElem?_toArray]
          exact runs_at h8 hp rfl
        have c1 : W.cell? ⟨gt, 116, none⟩ = some (I T.extend) := by
          rw [cell_of_row _ _ _ _ _ _ hgt, List.getElem?_toArray]
          exact tab_ex ht
        have q0 : ∀ q : QB.By W.heap.size W, q.world.cell? ⟨gr, p * 12 + 6, none⟩ = some (I (ruAt rs p).ex) := fun q => (q.below.cell (World.block_lt_of_cell? W _ c0)).trans c0
        have q1 : ∀ q : QB.By W.heap.size W, q.world.cell? ⟨gt, 116, none⟩ = some (I T.extend) := fun q => (q.below.cell (World.block_lt_of_cell? W _ c1)).trans c1
        have HR := Lib.hid hR
        clear c0 c1 hgr hgt hR hk hg
        by_cases hx : (ruAt rs p).ex < T.extend
        · have HO := Lib.hid (fZ_hit (f := fun p => decide ((ruAt rs p).ex < T.extend)) (l := pre) (x := (p : Int)) (decide_eq_true hx))
          have dx : decide ((ruAt rs p).ex < T.extend) = true := decide_eq_true hx
          generalize fZ (fun p => decide ((ruAt rs p).ex < T.extend)) pre = m at *
          generalize (ruAt rs p).ex = xe at *
          generalize T.extend = xt at *
          refine wpIn_block (wpIn_seq ?_)
          refine Up.region_below W.heap.size (fun ⟨_, _, h⟩ => h) (by kernel_rfl) (by kernel_rfl) (by kernel_rfl) ?_
          repeat (quiet_step (fail))
          refine wpQuiet_nil ?_
          intro _ hw'
          obtain ⟨pq, rfl⟩ := hw'
          have HB := Lib.hid pq.below
          have hR2 := mark_below pq.below HR.out
          generalize pq.world = W2 at HB hR2 ⊢
          have c2 : W2.cell? ⟨gh, 0, none⟩ = some (I m) := by rw [cell_of_row _ _ _ _ _ _ hR2]; rfl
          have f2 : W2.frozen? ⟨gh, 0, none⟩ = false := frozen_of_row _ _ _ _ _ hR2
          have HR2 := Lib.hid hR2
          clear q0 q1 hx dx hR2 HR
          gi_wp2_with (refine ⟨trivial, ?_⟩; gi_at_call 25; refine (CallsIn.inRound l (callsIn_wide.2 (Set.with_any _ _ _))).mono ?_; rintro e w' ⟨rfl, rfl⟩)
          rw [← HO.out]
          exact ⟨Boxed.set _ (show Boxed W2 gh 3 (I m) from HR2.out), Search.grown_trans (Search.grown_of_below HB.out) (grownBy_setCell' _ _ _)⟩
        · have HO := Lib.hid (fZ_miss (f := fun p => decide ((ruAt rs p).ex < T.extend)) (l := pre) (x := (p : Int)) (decide_eq_false hx))
          have dx : decide ((ruAt rs p).ex < T.extend) = false := decide_eq_false hx
          generalize fZ (fun p => decide ((ruAt rs p).ex < T.extend)) pre = m at *
          generalize (ruAt rs p).ex = xe at *
          generalize T.extend = xt at *
          refine wpIn_block (wpIn_seq ?_)
          refine Up.region_below W.heap.size (fun ⟨_, _, h⟩ => h) (by kernel_rfl) (by kernel_rfl) (by kernel_rfl) ?_
          repeat (quiet_step (fail))
          refine wpQuiet_nil ?_
          intro _ hw'
          obtain ⟨pq, rfl⟩ := hw'
          have HB := Lib.hid pq.below
          have HR2 := Lib.hid (mark_below pq.below HR.out)
          generalize pq.world = W2 at HB HR2 ⊢
          clear q0 q1 hx dx HR
          gi_wp2
          refine ⟨?_, Search.grown_of_below HB.out⟩
          rw [HO.out]
          exact HR2.out
      case done2 =>
        intro D2 W hD2 hR hg hK
        have kd := mark_kept hg KD6.out rfl (H6.out.at 1 rfl) rfl
        have hR' : W.heap[gh]? = some (.cells #[I (res : Nat)] 3) := by rw [← hres]; exact hR
        have hc := Boxed.cell hR'
        have HB : Hid (Below w.heap.size w W) := Lib.hid (H6.out.bel.grown hg H6.out.bel.size (fun k e => by cases e; exact H6.out.ge 1 rfl))
        have LD := (Array.getElem?_eq_some_iff.1 KD6.out).1
        have HD : Hid (w.heap.size ≤ D2 ∧ D ≠ D2) := Lib.hid ⟨by have := H6.out.bel.size; omega, by omega⟩
        have KDW := Lib.hid kd
        clear hg hR hR' kd LD
        go_wp2
        refine ⟨by simp, .inl ⟨_, _, rfl, run_takeDeferred hK, ?_⟩⟩
        have kD := (World.putObj_heap_other (w := W) (k := D) (o := .deferred none) HD.out.2).trans KDW.out
        refine ⟨by simp, .inl ⟨_, _, rfl, run_takeDeferred kD, ?_⟩⟩
        exact ⟨_, results_tmp rfl _ _ _, rfl, (HB.out.trans (belowK_b (w := w) (Nat.le_refl _) _ D2 _ _ HD.out.1 hK rfl rfl)).trans (belowK_b (w := w) (Nat.le_refl _) _ D _ _ GD.out kD rfl rfl)⟩
end Tr
namespace Tr
attribute [local go_sem] Oper.semAt_some
open Go Go.ChangeShapes Go.WideShapes Go.ChangeAt Go.RowKit
open Go.Shelf
open Tab Flat TabArg QL Ru Rg PlanM
theorem early_any (T : Tab) (hd : Hd) (s : Rid) (rs : List Ru) (ask : Int) (w : World) (ht : IsTab w hd T) (db : DB w) (h8 : rs.length = 8) : Calls Tryd.prog 14 #[.agg (T.cells hd).toArray, .agg s.cells.toArray, .agg (runsC rs).toArray, .int .i64 ask] w fun e w' => e = .returned (.int .i64 (earlyS T s rs ask)) ∧ Below w.heap.size w w' := by
  have h1 : (T.cells hd).length = 131 := by have := (cells_ok ht).size; rwa [List.size_toArray] at this
  have IA : (Tryd.prog.info? 31).map (·.size) = some (T.cells hd).length := by rw [h1]; exact May.infoT
  have IR : (Tryd.prog.info? 41).map (·.size) = some (runsC rs).length := by rw [runs_len, h8]; exact infoRs
  obtain ⟨res, hres⟩ : ∃ r, earlyS T s rs ask = r := ⟨_, rfl⟩
  rw [hres]
  unfold earlyS at hres
  obtain ⟨gn, hgn⟩ : ∃ g : Int, (thS grB rs : Nat) = g := ⟨_, rfl⟩
  rw [hgn] at hres
  have GR : Hid (∀ W, Calls Tryd.prog 24 #[.agg (runsC rs).toArray] W fun e w' => e = .returned (.int .i64 gn) ∧ Below W.heap.size W w') := Lib.hid (fun W => by rw [← hgn]; exact green_any rs h8 W)
  obtain ⟨live, hlive⟩ : ∃ l : Int, (liveS T s ask : Nat) = l := ⟨_, rfl⟩
  rw [hlive] at hres
  have hn0 := Blk.Bks.nil w
  have hn1 := hn0.alloc (T.cells hd).toArray 31
  have hn2 := hn1.alloc s.cells.toArray 34
  rw [show (w.alloc (.cells (T.cells hd).toArray 31)).heap.size = w.heap.size + 1 by simp] at hn2
  have hn3 := hn2.alloc (runsC rs).toArray 41
  rw [show ((w.alloc (.cells (T.cells hd).toArray 31)).alloc (.cells s.cells.toArray 34)).heap.size = w.heap.size + 1 + 1 by simp] at hn3
  clear hn0
  clear hn1
  clear hn2
  refine (callsIn_wide (n := 6)).1 ?_
  refine callsIn_of_wp_marks Tryd.func14 rfl trivial ?_ rfl
  simp only [Tryd.ntmps14, List.size_toArray, List.length_cons, List.length_nil, Nat.reduceAdd, Nat.reduceSub, Array.replicate_succ, Array.replicate_zero, List.push_toArray, List.append_toArray, List.nil_append, List.cons_append]
  refine wpIn_wide.2 ?_
  go_upto_region 1 with fail
  generalize World.alloc (World.alloc (World.alloc w _) _) _ = v at hn3 ⊢
  generalize hg2 : w.heap.size + 1 + 1 = gr at hn3 ⊢
  generalize hg1 : w.heap.size + 1 = gs at hn3 ⊢
  generalize hg0 : w.heap.size = gt at hn3 ⊢
  clear hg0 hg1 hg2
  have H0 := Lib.hid hn3
  clear hn3
  go_wp2_with (refine Row.wpList_load_g 41 _ rfl (by first | rfl | (go_simp; done) | fail) ⟨gr, 0, none⟩ rfl (runsC rs) _ (by have := H0.out.lies 0 rfl; simpa using this) Tryd.underlying41 rfl IR ?_)
  refine (GR.out _).mono ?_
  rintro e v1 ⟨rfl, b1⟩
  have H1 := Lib.hid (H0.out.step b1)
  clear b1 H0 GR
  go_upto_region 2 with fail
  have hn := (H1.out.alloc #[I 0] 3).alloc #[I gn] 3
  rw [show (v1.alloc (.cells #[I 0] 3)).heap.size = v1.heap.size + 1 by simp] at hn
  generalize World.alloc (World.alloc v1 _) _ = v2 at hn ⊢
  generalize hgl : v1.heap.size + 1 = gl at hn ⊢
  generalize v1.heap.size = ga at hn ⊢
  clear hgl
  have H2 := Lib.hid hn
  clear hn H1
  have LV : Hid (∀ W, Below v2.heap.size v2 W → Calls Tryd.prog 10 #[.agg (T.cells hd).toArray, .agg s.cells.toArray, .int .i64 ask] W fun e w' => e = .returned (.int .i64 live) ∧ Below W.heap.size W w') := Lib.hid (fun W hb => by rw [← hlive]; exact live_any T hd s ask W (ht.below (H2.out.step hb).bel) (db.below (H2.out.step hb).bel))
  clear hlive
  refine QT.region v2.heap.size 5 (by kernel_rfl) (by kernel_rfl) ?_
  simp only [List.take_succ_cons, List.take_zero]
  repeat first
    | (refine wpQuiet_load rfl 31 _ rfl ⟨gt, 0, none⟩ rfl (T.cells hd) _ (fun w' ⟨pw, e⟩ => by rw [e]; exact seg (H2.out.by pw) 4 0 rfl _ (by simp)) Tryd.underlying31 rfl IA ?_
       dsimp only [Act.put]
       simp only [List.setIfInBounds_toArray, List.set_cons_zero, List.set_cons_succ])
    | (refine wpQuiet_load rfl 34 _ rfl ⟨gs, 0, none⟩ rfl s.cells _ (fun w' ⟨pw, e⟩ => by rw [e]; exact seg (H2.out.by pw) 3 0 rfl _ rfl) Tryd.underlying34 rfl infoRd ?_
       dsimp only [Act.put]
       simp only [List.setIfInBounds_toArray, List.set_cons_zero, List.set_cons_succ])
    | (quiet_step (first | (go_at_call 10; with_reducible exact QB.call_of (Nat.le_refl _) (fun b => LV.out _ b))))
  refine wpQuiet_nil ?_
  intro _ hw'
  obtain ⟨pq, rfl⟩ := hw'
  have HP := Lib.hid (H2.out.by pq)
  generalize pq.world = vp at HP ⊢
  simp only [List.drop_succ_cons, List.drop_zero]
  clear LV H2
  go_wp2_with fail
  refine (callsIn_wide.1 (each_in 6 T hd live _ (ht.below HP.out.bel))).mono ?_
  rintro e vn ⟨rfl, rfl⟩
  go_wp2_with fail
  have hn := ((HP.out.alloc (T.cells hd).toArray 31).alloc #[I live] 3).alloc #[.slice hd.b.a (min T.buses.length 4) hd.b.cap] 29
  rw [show (vp.alloc (.cells (T.cells hd).toArray 31)).heap.size = vp.heap.size + 1 by simp, show ((vp.alloc (.cells (T.cells hd).toArray 31)).alloc (.cells #[I live] 3)).heap.size = vp.heap.size + 2 by simp] at hn
  generalize World.alloc (World.alloc (World.alloc vp _) _) _ = W0 at hn ⊢
  generalize hb2 : vp.heap.size + 2 = bo at hn ⊢
  generalize hb1 : vp.heap.size + 1 = bs at hn ⊢
  generalize vp.heap.size = bt at hn
  clear hb1 hb2 HP
  have H3 := Lib.hid hn
  clear hn
  obtain ⟨hE, hlb⟩ := ea_of H3.out ht db 4 (by decide) rfl rfl rfl
  refine (wpIn_wide (n := 6)).1 ?_
  refine each_loop (fun pre => .cells #[I (eS T.buses gn pre)] 3) bs bo ga live T.buses hd.b rfl rfl hE (Blk.lt_of (H3.out.at 4 rfl)) hlb (fun _ => rfl) (fun k Bx => { tmps := #[.agg (T.cells hd).toArray, .agg s.cells.toArray, .agg (runsC rs).toArray, I ask, .pointer (some ⟨gt, 0, none⟩), .pointer (some ⟨gs, 0, none⟩), .pointer (some ⟨gr, 0, none⟩), undef, I 0, .pointer (some ⟨ga, 0, none⟩), .pointer (some ⟨gl, 0, none⟩), undef, .pointer (some ⟨Bx, 0, none⟩), .agg (runsC rs).toArray, I gn, .agg (T.cells hd).toArray, .agg (T.cells hd).toArray, .agg s.cells.toArray, I ask, I live, .func (.func 37) #[] #[.pointer (some ⟨bs, 0, none⟩), .pointer (some ⟨bo, 0, none⟩)], I k, .agg (busAt T.buses k).cells.toArray, undef, undef, undef, undef, undef, undef, undef, undef, undef, undef, undef], defers := [] }) 53 (fun k => (busAt T.buses k).cells.toArray) (H3.out.at 4 rfl) ?assign ?body ?done
  case assign =>
    intro l k W K hg hK
    have HK := Lib.hid hK
    clear hK
    generalize busAt T.buses k = b at HK ⊢
    refine Up.region_list (fun ⟨_, _, h⟩ => h) (by kernel_rfl) ?_
    go_wp2_with (refine Row.wpList_store_new rfl 53 _ _ rfl W _ b.cells.toArray rfl rfl rfl infoBs rfl (Bs.one _) ?_)
    exact HK.out _ ((Below.refl _ _).alloc (Nat.le_refl _) _) (heap_alloc_new W _)
  case body =>
    intro l pre k Bx W hk hR hg hBx hB
    have hgl : W.heap[gl]? = some (.cells #[I gn] 3 (0, 0)) := (hg.block gl (Blk.lt_of (H3.out.at 3 rfl)) (fun e => Blk.nd_ne H3.out.apart (i := 3) (j := 4) rfl rfl (by decide) (Option.some.inj e))).trans (H3.out.at 3 rfl)
    have c3 : W.cell? ⟨gl, 0, none⟩ = some (I gn) := by rw [cell_of_row _ _ _ _ _ _ hgl]; rfl
    have c1 : W.cell? ⟨ga, 0, none⟩ = some (I (eS T.buses gn pre)) := by rw [cell_of_row _ _ _ _ _ _ hR]; rfl
    have f1 : W.frozen? ⟨ga, 0, none⟩ = false := frozen_of_row _ _ _ _ _ hR
    have c2 : W.cell? ⟨Bx, 0, none⟩ = some (I (busAt T.buses k).set) := by rw [cell_of_row _ _ _ _ _ _ hB]; rfl
    have HR := Lib.hid hR
    clear hR hB hE hlb hg hgl
    by_cases hz : bits .and .i64 (busAt T.buses k).set gn = 0
    · have HO := Lib.hid (eS_hit (bu := T.buses) (gr := gn) (l := pre) (k := k) hz)
      have hz2 : (bits .and .i64 (busAt T.buses k).set gn == 0) = true := beq_iff_eq.2 hz
      generalize eS T.buses gn pre = m at *
      generalize busAt T.buses k = b at *
      clear hz
      refine wpIn_block (wpIn_seq ?_)
      refine Up.region_list (fun ⟨_, _, h⟩ => h) (by kernel_rfl) ?_
      go_wp2_with fail
      gi_wp2
      dsimp only [rpost]
      rw [HO.out]
      exact ⟨Boxed.set _ (show Boxed W ga 3 (I m) from HR.out), grownBy_setCell' _ _ _⟩
    · have HO := Lib.hid (eS_miss (bu := T.buses) (gr := gn) (l := pre) (k := k) hz)
      have hz2 : (bits .and .i64 (busAt T.buses k).set gn == 0) = false := beq_eq_false_iff_ne.2 hz
      generalize eS T.buses gn pre = m at *
      generalize busAt T.buses k = b at *
      clear hz
      refine wpIn_block (wpIn_seq ?_)
      refine Up.region_list (fun ⟨_, _, h⟩ => h) (by kernel_rfl) ?_
      go_wp2_with fail
      gi_wp2
      refine ⟨?_, Search.grown_of_below (Below.refl _ _)⟩
      dsimp only
      rw [HO.out]
      exact HR.out
  case done =>
    intro D W hD hR hg hK
    rw [hres] at hR
    have hc := Boxed.cell hR
    have HB : Hid (Below w.heap.size w W) := Lib.hid (H3.out.bel.grown hg H3.out.bel.size (fun k e => by cases e; exact H3.out.ge 4 rfl))
    have HD : Hid (w.heap.size ≤ D) := Lib.hid (by have := H3.out.bel.size; omega)
    clear hg hR hE hlb
    go_wp2
    refine ⟨by simp, .inl ⟨_, _, rfl, run_takeDeferred hK, ?_⟩⟩
    exact ⟨_, results_tmp rfl _ _ _, rfl, HB.out.trans (belowK_b (w := w) (Nat.le_refl _) _ D _ _ HD.out hK rfl rfl)⟩
end Tr
namespace Tr
attribute [local go_sem] Oper.semAt_some
open Go Go.ChangeShapes Go.WideShapes Go.ChangeAt Go.RowKit
open Clone (zTab zHd)
open Tab Flat TabArg QL Ru Rg PlanM
def awT : Tab := { zTab with buses := [⟨2, 5⟩], extend := 3, budget := 9 }
def awH (g : Nat) : Hd := ⟨⟨none, 0⟩, ⟨none, 0⟩, ⟨none, 0⟩, ⟨some ⟨g, 0, none⟩, 1⟩⟩
theorem builtA (g : Nat) : Tryd.prog.built 31 [(5, .slice (some ⟨g, 0, none⟩) 1 1), (6, I 3), (7, I 9)] = some (awT.cells (awH g)).toArray := by kernel_rfl
theorem aw_is {w : World} {g : Nat} (hg : w.heap[g]? = some (.cells #[I 2, I 5] 53 (0, 0))) : IsTab w (awH g) awT :=
  ⟨rfl, rfl, rfl, ⟨[], rfl, RowOf.nil w, fun g hg => by simp at hg⟩, RowOf.nil w, RowOf.nil w, by
    have := Copy.row_of_block (enc := Bs.cells) (n := 2) (fun _ => rfl) [⟨2, 5⟩] (w := w) (g := g) (t := 53) (fr := (0, 0)) hg (by decide)
    exact this⟩
def rz : List Ru := List.replicate 8 zRu
def r1 : List Ru := rz.set 0 ⟨1, 0, 0, 0, 0, 0, 0, false, false, 0, 0, 0⟩
def r2 : List Ru := r1.set 1 ⟨1, 0, 0, 0, 0, 0, 0, false, false, 0, 0, 0⟩
theorem e1 : earlyS awT ⟨0, 0, 0, 0, 0, 0⟩ r1 1 = 253 := by decide +kernel
theorem e2 : holdS awT ⟨0, 0, 0, 0, 0, 0⟩ r2 1 = 2 := by decide +kernel
theorem e3 : liveS awT ⟨0, 0, 0, 0, 0, 0⟩ 3 = 1 := by decide +kernel
theorem s1 : (runsC rz).toArray.setIfInBounds 0 (I 1) = (runsC r1).toArray := rfl
theorem s2 : (runsC r1).toArray.setIfInBounds 12 (I 1) = (runsC r2).toArray := rfl
theorem awake_any (w : World) (db : DB w) : Calls Tryd.prog 9 #[] w fun e w' => e = .returned (.bool true) ∧ Below w.heap.size w w' := by
  have hz := (zero_of_info Clone.info31).1
  have hzr := (zero_of_info (show (Tryd.prog.info? 41).map (fun i => (i.zero, i.size)) = some (some (.agg (runsC rz).toArray), 96) by kernel_rfl)).1
  have ZS : (zTab.cells zHd).toArray.size = 131 := (cells_ok (Clone.z_is w)).size
  generalize hZ : (zTab.cells zHd).toArray = Z at hz ZS
  have BA := Lib.hid builtA
  have AL : (awT.cells (awH w.heap.size)).toArray.size = 131 := rfl
  have AO : (awT.cells (awH w.heap.size)).toArray.all (·.oneCell') = true := (cells_ok (aw_is (heap_alloc_new w _))).one
  have hz0 := ((Blk.Bks.nil w).alloc #[I 2, I 5] 53).alloc Z 31
  rw [show (w.alloc (.cells #[I 2, I 5] 53)).heap.size = w.heap.size + 1 by simp] at hz0
  have HZ0 := Lib.hid hz0
  clear hz0
  have C1 := Lib.hid s1
  have C2 := Lib.hid s2
  have EA1 : Hid (∀ W g, IsTab W (awH g) awT → DB W → Calls Tryd.prog 14 #[.agg (awT.cells (awH g)).toArray, .agg #[I 0, I 0, I 0, I 0, I 0, I 0], .agg (runsC r1).toArray, .int .i64 1] W fun e w' => e = .returned (.int .i64 253) ∧ Below W.heap.size W w') := Lib.hid (fun W g ht db => by have h := early_any awT (awH g) ⟨0, 0, 0, 0, 0, 0⟩ r1 1 W ht db rfl; rwa [e1] at h)
  have EA2 : Hid (∀ W g, IsTab W (awH g) awT → DB W → Calls Tryd.prog 12 #[.agg (awT.cells (awH g)).toArray, .agg #[I 0, I 0, I 0, I 0, I 0, I 0], .agg (runsC r2).toArray, .int .i64 1] W fun e w' => e = .returned (.int .i64 2) ∧ Below W.heap.size W w') := Lib.hid (fun W g ht db => by have h := hold_any awT (awH g) ⟨0, 0, 0, 0, 0, 0⟩ r2 1 W ht db rfl; rwa [e2] at h)
  have EA3 : Hid (∀ W g, IsTab W (awH g) awT → DB W → Calls Tryd.prog 10 #[.agg (awT.cells (awH g)).toArray, .agg #[I 0, I 0, I 0, I 0, I 0, I 0], .int .i64 3] W fun e w' => e = .returned (.int .i64 1) ∧ Below W.heap.size W w') := Lib.hid (fun W g ht db => by have h := live_any awT (awH g) ⟨0, 0, 0, 0, 0, 0⟩ 3 W ht db; rwa [e3] at h)
  have IR1 : (Tryd.prog.info? 41).map (·.size) = some (runsC r1).length := by rw [runs_len]; exact infoRs
  have IR2 : (Tryd.prog.info? 41).map (·.size) = some (runsC r2).length := by rw [runs_len]; exact infoRs
  have R0 : (runsC rz).toArray[0]? = some (I 0) := rfl
  have R1 : (runsC r1).toArray[12]? = some (I 0) := rfl
  generalize hcz : (runsC rz).toArray = rcz at *
  generalize runsC r1 = rc1 at *
  generalize runsC r2 = rc2 at *
  clear hcz
  go_enter Tryd.func9, Tryd.ntmps9
  go_upto_region 2 with (first | (refine Ru.wpList_build rfl 31 [(5, .tmp 5), (6, .const (I 3)), (7, .const (I 9))] rfl (awT.cells (awH w.heap.size)).toArray _ (by rfl) (BA.out _) ?_) | (refine wpList_store_row rfl 31 _ _ rfl (w.heap.size + 1) (awT.cells (awH w.heap.size)).toArray rfl rfl 31 Z (HZ0.out.at 0 rfl) May.infoT (by rw [ZS, AL]) AO ?_))
  have h0 := HZ0.out.put 0 rfl (awT.cells (awH w.heap.size)).toArray
  simp only [List.set_cons_zero] at h0
  generalize World.setRow _ _ _ = u at h0 ⊢
  clear HZ0 hz ZS hZ BA AL AO
  generalize hgt : w.heap.size + 1 = gt at h0 ⊢
  generalize w.heap.size = gd at h0 ⊢
  clear hgt
  have H0 := Lib.hid h0
  have IA : (Tryd.prog.info? 31).map (·.size) = some (awT.cells (awH gd)).length := May.infoT
  have HT : Hid (∀ W, Below u.heap.size u W → IsTab W (awH gd) awT) := Lib.hid (fun W hb => aw_is ((H0.out.step hb).at 1 rfl))
  have HDB : Hid (∀ W, Below u.heap.size u W → DB W) := Lib.hid (fun W hb => (db.below H0.out.bel).below hb)
  clear h0
  go_upto_region 3 with fail
  have hn := H0.out.alloc rcz 41
  generalize World.alloc u _ = u1 at hn ⊢
  generalize u.heap.size = gr at hn ⊢
  have H1 := Lib.hid hn
  clear hn H0 HT HDB hzr
  have k0 : u1.cell? ⟨gr, 0, none⟩ = some (I 0) := H1.out.cell 0 0 rfl R0
  have f0 : u1.frozen? ⟨gr, 0, none⟩ = false := H1.out.frozen 0 0 rfl
  go_upto_region 4 with fail
  have hput := H1.out.set 0 0 rfl (I 1)
  rw [C1.out] at hput
  simp only [List.set_cons_succ, List.set_cons_zero] at hput
  generalize World.setCell u1 _ _ = u2 at hput ⊢
  have H2 := Lib.hid hput
  clear hput H1 k0 f0
  go_wp2_with (first | (refine Row.wpList_load_g 31 _ rfl (by first | rfl | (go_simp; done) | fail) ⟨gt, 0, none⟩ rfl (awT.cells (awH gd)) _ (by have := H2.out.lies 1 rfl; simpa using this) Tryd.underlying31 rfl IA ?_) | (refine Row.wpList_load_g 41 _ rfl (by first | rfl | (go_simp; done) | fail) ⟨gr, 0, none⟩ rfl rc1 _ (by have := H2.out.lies 0 rfl; simpa using this) Tryd.underlying41 rfl IR1 ?_))
  refine (EA1.out _ gd (aw_is (H2.out.at 2 rfl)) (db.below H2.out.bel)).mono ?_
  rintro e u3 ⟨rfl, b3⟩
  have H3 := Lib.hid (H2.out.step b3)
  clear b3 H2 EA1
  have k1 : u3.cell? ⟨gr, 12, none⟩ = some (I 0) := H3.out.cell 0 12 rfl R1
  have f1 : u3.frozen? ⟨gr, 12, none⟩ = false := H3.out.frozen 0 12 rfl
  go_upto_region 6 with fail
  have hput := H3.out.set 0 12 rfl (I 1)
  rw [C2.out] at hput
  simp only [List.set_cons_succ, List.set_cons_zero] at hput
  generalize World.setCell u3 _ _ = u4 at hput ⊢
  have H4 := Lib.hid hput
  clear hput H3 k1 f1
  go_wp2_with (first | (refine Row.wpList_load_g 31 _ rfl (by first | rfl | (go_simp; done) | fail) ⟨gt, 0, none⟩ rfl (awT.cells (awH gd)) _ (by have := H4.out.lies 1 rfl; simpa using this) Tryd.underlying31 rfl IA ?_) | (refine Row.wpList_load_g 41 _ rfl (by first | rfl | (go_simp; done) | fail) ⟨gr, 0, none⟩ rfl rc2 _ (by have := H4.out.lies 0 rfl; simpa using this) Tryd.underlying41 rfl IR2 ?_))
  refine (EA2.out _ gd (aw_is (H4.out.at 2 rfl)) (db.below H4.out.bel)).mono ?_
  rintro e u5 ⟨rfl, b5⟩
  have H5 := Lib.hid (H4.out.step b5)
  clear b5 H4 EA2
  go_wp2_with (refine Row.wpList_load_g 31 _ rfl (by first | rfl | (go_simp; done) | fail) ⟨gt, 0, none⟩ rfl (awT.cells (awH gd)) _ (by have := H5.out.lies 1 rfl; simpa using this) Tryd.underlying31 rfl IA ?_)
  refine (EA3.out _ gd (aw_is (H5.out.at 2 rfl)) (db.below H5.out.bel)).mono ?_
  rintro e u6 ⟨rfl, b6⟩
  have H6 := Lib.hid (H5.out.step b6)
  clear b6 H5 EA3
  go_wp2
  go_ret
  exact ⟨rfl, H6.out.bel⟩
theorem light_any (T : Tab) (hd : Hd) (w : World) (ht : IsTab w hd T) : Calls Tryd.prog 8 #[.agg (T.cells hd).toArray] w fun e w' => e = .returned (.bool (decide (T.buses.length ≤ 8))) ∧ Below w.heap.size w w' := by
  have hb := ht.buses.len
  unfold maxLen at hb
  have h1 : (T.cells hd).length = 131 := by have := (cells_ok ht).size; rwa [List.size_toArray] at this
  have hcb := tab_bu ht
  generalize T.cells hd = tc at *
  generalize T.buses.length = bl at *
  clear ht
  have hn0 := Blk.Bks.nil w
  have hn1 := hn0.alloc tc.toArray 31
  clear hn0
  go_enter Tryd.func8, Tryd.ntmps8
  go_upto_region 1 with fail
  generalize World.alloc w _ = v at hn1 ⊢
  generalize hg0 : w.heap.size = gt at hn1 ⊢
  clear hg0
  have H0 := Lib.hid hn1
  clear hn1
  have k5 : v.cell? ⟨gt, 115, none⟩ = some (.slice hd.b.a bl hd.b.cap) := H0.out.cell 0 115 rfl (by rw [List.getElem?_toArray]; exact hcb)
  by_cases h8 : bl ≤ 8
  · have e1 : ((bl : Int) ≤ 8) := by omega
    go_wp2
    go_ret
    exact ⟨by first | rfl | (rw [decide_eq_true h8]; rfl) | (rw [decide_eq_false h8]; rfl), H0.out.bel⟩
  · have e1 : ¬ ((bl : Int) ≤ 8) := by omega
    go_wp2
    go_ret
    exact ⟨by first | rfl | (rw [decide_eq_true h8]; rfl) | (rw [decide_eq_false h8]; rfl), H0.out.bel⟩
end Tr
end Go.Proofs.YtkccepdifgldeaaDoor
