/- 10 texts in one file, in build order. -/
import Derived.Test.YtkccepdifgldeaaDoorPart04
import Derived.Test.YtkccepdifgldeaaDoorPart03
import Derived.Test.YtkccepdifgldeaaDoorPart07
import Derived.Test.YtkccepdifgldeaaDoorPart01
import Derived.BigQuiet
import Derived.Test.YtkccepdifgldeaaDoorRows
import Derived.Test.YtkccepdifgldeaaDoorPart02
import Derived.Deep.Cut
import Derived.WalkMore
import Derived.Great.BuildSlice
import Derived.Laws.ResultCell
import Derived.Laws.Rows
set_option linter.unusedVariables false
set_option linter.unusedSimpArgs false
set_option linter.unusedSectionVars false
set_option maxHeartbeats 8000000
set_option maxRecDepth 100000
namespace Go.Proofs.YtkccepdifgldeaaDoor
namespace Tr
attribute [local go_sem] Oper.semAt_some
open Go Go.ChangeShapes Go.WideShapes Go.ChangeAt Go.RowKit
open Tab Flat TabArg QL Ru Rg PlanM
theorem dual (a b : Int) : bits .or .i64 (bits .andNot .i64 255 a) (bits .andNot .i64 255 b) = bits .andNot .i64 255 (bits .and .i64 a b) := by
  have key : ∀ c : Int, ∃ x : Nat, bits .andNot .i64 255 c = x ∧ x < 256 := fun c => by
    have := GenT.andNot_in 255 c (by decide)
    exact ⟨(bits .andNot .i64 255 c).toNat, by omega, by omega⟩
  obtain ⟨x, hx, hx8⟩ := key a
  obtain ⟨y, hy, hy8⟩ := key b
  obtain ⟨z, hz, hz8⟩ := key (bits .and .i64 a b)
  have ho := or_nat x y hx8 hy8
  have hh : x ||| y = z := by
    refine SetM.has_ext (Nat.or_lt_two_pow (n := 8) hx8 hy8) hz8 fun q => ?_
    rw [← ho, has_or, ← hx, ← hy, ← hz]
    by_cases hq : 0 ≤ q ∧ q < 8
    · obtain ⟨k, rfl⟩ := Int.eq_ofNat_of_zero_le hq.1
      rw [low_andNot _ _ k (by omega), low_andNot _ _ k (by omega), low_andNot _ _ k (by omega), has_and]
      cases SetM.has 255 (k : Int) <;> cases SetM.has a (k : Int) <;> cases SetM.has b (k : Int) <;> rfl
    · have hf : ∀ s, SetM.has s q = false := fun s => by
        cases h : SetM.has s q with
        | false => rfl
        | true => exact absurd (has_lt h) hq
      rw [hf, hf, hf]; rfl
  rw [hx, hy, hz, ho, hh]
/-- What is asked for by the first m buses. -/
def suS (bu : List Bs) (live : Int) (m : Nat) : Int := (List.range m).foldl (fun (a : Int) (k : Nat) => if SetM.has live k then bits .or .i64 a (busAt bu k).set else a) 0
/-- What those of the first m buses that find no Green all ask for. -/
def slS (bu : List Bs) (live gn : Int) (m : Nat) : Int := (List.range m).foldl (fun (a : Int) (k : Nat) => if SetM.has live k then (if bits .and .i64 (busAt bu k).set gn = 0 then bits .and .i64 a (busAt bu k).set else a) else a) 255
variable {bu : List Bs} {live gn : Int} {m : Nat}
theorem su_miss (h : SetM.has live m = false) : suS bu live (m + 1) = suS bu live m := by
  unfold suS; rw [List.range_succ, List.foldl_append]; simp [h]
theorem su_hit (h : SetM.has live m = true) : suS bu live (m + 1) = bits .or .i64 (suS bu live m) (busAt bu m).set := by
  unfold suS; rw [List.range_succ, List.foldl_append]; simp [h]
theorem sl_miss (h : SetM.has live m = false) : slS bu live gn (m + 1) = slS bu live gn m := by
  unfold slS; rw [List.range_succ, List.foldl_append]; simp [h]
theorem sl_hit (h : SetM.has live m = true) (h2 : bits .and .i64 (busAt bu m).set gn = 0) : slS bu live gn (m + 1) = bits .and .i64 (slS bu live gn m) (busAt bu m).set := by
  unfold slS; rw [List.range_succ, List.foldl_append]; simp [h, h2]
theorem sl_out (h : SetM.has live m = true) (h2 : ¬ bits .and .i64 (busAt bu m).set gn = 0) : slS bu live gn (m + 1) = slS bu live gn m := by
  unfold slS; rw [List.range_succ, List.foldl_append]; simp [h, h2]
theorem early_dual (T : Tab) (s : Rid) (rs : List Ru) (ask : Int) : earlyS T s rs ask = bits .andNot .i64 255 (slS T.buses (liveS T s ask : Nat) (thS grB rs : Nat) (nB T.buses)) := by
  have key : ∀ (l : List Nat) (a : Int), l.foldl (fun (m : Int) k => if bits .and .i64 (busAt T.buses k).set (thS grB rs : Nat) = 0 then bits .or .i64 m (bits .andNot .i64 255 (busAt T.buses k).set) else m) (bits .andNot .i64 255 a) = bits .andNot .i64 255 (l.foldl (fun (m : Int) k => if bits .and .i64 (busAt T.buses k).set (thS grB rs : Nat) = 0 then bits .and .i64 m (busAt T.buses k).set else m) a) := by
    intro l
    induction l with
    | nil => intro a; rfl
    | cons k l ih =>
      intro a
      rw [List.foldl_cons, List.foldl_cons]
      split
      · rw [dual, ih]
      · rw [ih]
  have h := key (eL (liveS T s ask : Nat) T.buses) 255
  rw [show bits .andNot .i64 255 255 = (0 : Int) by decide +kernel] at h
  unfold earlyS eS slS
  rw [h, fold_eL]
theorem asked_su (bu : List Bs) (live : Int) : aS bu (eL live bu) = suS bu live (nB bu) := by
  unfold aS suS
  rw [fold_eL]
theorem hold_fair {T : Tab} {s : Rid} {rs : List Ru} {ask : Int} {p : Int} (h : SetM.has (holdS T s rs ask : Nat) p = true) : SetM.has (bits .and .i64 (suS T.buses (liveS T s ask : Nat) (nB T.buses)) (thS grB rs : Nat)) p = true ∧ (ruAt rs p).ex < T.extend := by
  unfold holdS at h
  split at h
  · rw [show ((0 : Nat) : Int) = 0 from rfl, has_zero] at h; cases h
  · rw [has_fZ, asked_su, Bool.and_eq_true, decide_eq_true_iff] at h
    exact h
theorem eL_zero (bu : List Bs) : eL 0 bu = [] := by
  rw [eL_range, List.filter_eq_nil_iff]
  intro k _
  rw [has_zero]
  simp
theorem fair_zero {T : Tab} {s : Rid} {rs : List Ru} {ask : Int} (h : ((liveS T s ask : Nat) : Int) = 0) : ((holdS T s rs ask : Nat) : Int) = 0 ∧ earlyS T s rs ask = 0 := by
  refine ⟨?_, ?_⟩
  · unfold holdS
    split
    · rfl
    · rw [h, eL_zero]
      have e : fZ (fun p => decide ((ruAt rs p).ex < T.extend)) (SetM.list (bits .and .i64 (aS T.buses []) (thS grB rs : Nat))) = 0 := by
        refine SetM.has_ext (SetM.of_lt _) (by decide) fun q => ?_
        rw [has_fZ, has_and, has_aS, show ((0 : Nat) : Int) = 0 from rfl, has_zero]
        rfl
      rw [e]; rfl
  · unfold earlyS eS
    rw [h, eL_zero]; rfl
theorem hold_spent {T : Tab} {s : Rid} {rs : List Ru} {ask : Int} (h : T.budget ≤ s.sp) : ((holdS T s rs ask : Nat) : Int) = 0 := by
  unfold holdS
  rw [if_pos h]; rfl
end Tr
namespace Wqs
open Go Go.RowKit
open Tab
structure W (P : Program) (ops : Array Oper) (C : World → Prop) (Q : Act → Prop) (l : List Oper) (a : Act) : Prop where
  out : wpQuiet P ops C Q l a
section
variable {P : Program} {ops : Array Oper} {C : World → Prop} {Q : Act → Prop} {rest : List Oper} {o : Oper} {a : Act}
theorem nil (h : Q a) : W P ops C Q [] a := ⟨wpQuiet_nil h⟩
theorem skip (hw : Region.wanted o (yielded ops a.tmps) = false) (h : W P ops C Q rest (a.put o.dst undef)) : W P ops C Q (o :: rest) a := ⟨BigFrame.wpQuiet_skip hw h.out⟩
theorem want (hw : Region.wanted o (yielded ops a.tmps) = true) (h : ∀ K : Act → Prop, (∀ a, W P ops C Q rest a → K a) → o.quiet P a C K) : W P ops C Q (o :: rest) a :=
  ⟨BigFrame.wpQuiet_want hw fun K hK => h K fun a h => hK a h.out⟩
end
end Wqs
namespace PlanW
open Go.ChangeShapes Go.WideShapes Go.ChangeAt Go.RowKit
open Tab PlaceM PlanM
open May (ret_bool chain infoP infoG St)
open SetP (has_any)
end PlanW
namespace PlanC
open Go.ChangeShapes Go.WideShapes Go.ChangeAt Go.RowKit
open Tab PlaceM PlanM
open May (ret_bool chain infoP infoG St phases_in)
open SetP (has_any)
open Same (below_setRow)
end PlanC
namespace PlanN
open Go.ChangeShapes Go.WideShapes Go.ChangeAt Go.RowKit
open Tab PlaceM PlanM PlanC
open May (infoP St)
open SetP (has_any)
end PlanN
namespace Rg
open Go Go.ChangeShapes Go.WideShapes Go.ChangeAt Go.RowKit
open Tab Flat TabArg QL Ru PlanM
open ChkM (cfAt)
open Clear (phAt)
open PlaceM (where_ spots Spt)
open May (infoP)
end Rg
namespace GenQ
open Go.ChangeShapes Go.WideShapes Go.ChangeAt Go.RowKit
open Tab
open Clear (phAt)
end GenQ
namespace Rg
open Go Go.ChangeShapes Go.WideShapes Go.ChangeAt Go.RowKit
open Tab Flat TabArg QL Ru PlanM
open ChkM (cfAt)
open Clear (phAt)
open PlaceM (where_ spots Spt)
open May (infoP)
end Rg
namespace Rg
open Go Go.ChangeShapes Go.WideShapes Go.ChangeAt Go.RowKit
open Tab Flat TabArg QL Ru PlanM
open ChkM (cfAt)
open Clear (phAt)
open PlaceM (where_ spots Spt)
open May (infoP)
/-- a phase's run in a tick -/
theorem KB.run {u : World} {g : Nat} {tc : List Value} {r : Rg} {rs : List Ru} {want gr bu : Int} (h : KB u g tc r (runsC rs) want gr bu) (h8 : rs.length = 8) {p : Nat} (hp : p < 8) {j : Nat} {v : Value} (hj : (ruAt rs p).cells[j]? = some v) : u.cell? ⟨g, 135 + p * 12 + j, none⟩ = some v := by
  rw [Nat.add_assoc]; exact h.cell (runs_at h8 hp hj)
end Rg
namespace Rg
open Go Go.ChangeShapes Go.WideShapes Go.ChangeAt Go.RowKit
open Tab Flat TabArg QL Ru PlanM
open ChkM (cfAt)
open Clear (phAt)
open PlaceM (where_ spots Spt)
open May (infoP)
theorem rgreen_any (rs : List Ru) (h8 : rs.length = 8) (w : World) : Calls Tryd.prog 20 #[.agg (runsC rs).toArray] w fun e w' => e = .returned (.int .i64 (thS grB rs : Nat)) ∧ Below w.heap.size w w' := by
  have RS : Hid (((thS grB rs : Nat) : Int) = (SetM.of (thTo grB 0 (rs.take 8)) : Nat)) := Lib.hid (by rw [List.take_of_length_le (by omega)]; rfl)
  have L8 := Lib.hid h8
  have RL : Hid (∀ q, q < 8 → ∀ u gq, Lies u ⟨gq, 0, none⟩ (runsC rs) → Lies u ⟨gq, q * 12, none⟩ (ruAt rs q).cells) := Lib.hid (fun q hq u gq hl j v hj => by
    have := hl (q * 12 + j) v (runs_at h8 hq hj)
    rw [Addr.add_mid, Nat.zero_add] at this
    rwa [Addr.add_mid])
  generalize hrs : ((thS grB rs : Nat) : Int) = res at RS ⊢
  clear hrs
  generalize runsC rs = fl at *
  clear h8
  have hn0 := Blk.Bks.nil w
  have hn1 := hn0.alloc fl.toArray 41
  clear hn0
  go_enter Tryd.func20, Tryd.ntmps20
  go_upto_region 1 with fail
  generalize World.alloc w _ = v at hn1 ⊢
  generalize hg0 : w.heap.size = gq at hn1 ⊢
  clear hg0
  have H0 := Lib.hid hn1
  clear hn1
  have LF : Hid (∀ W, Below v.heap.size v W → Lies W ⟨gq, 0, none⟩ fl) := Lib.hid (fun W hb => by have := (H0.out.step hb).lies 0 rfl; simpa using this)
  go_wp2
  go_loopw [3, 4] (fun s i wr => ∃ q : Nat, q ≤ 8 ∧ i = .int .i64 q ∧ s = .int .i64 (SetM.of (thTo grB 0 (rs.take q)) : Nat) ∧ Below v.heap.size v wr) (fun _ i _ => 8 - (intOf i).toNat)
  case atStart => exact ⟨0, by omega, rfl, rfl, Below.refl _ _⟩
  case round =>
    obtain ⟨q, hq, rfl, rfl, hbel⟩ := hrel
    have HB := Lib.hid hbel
    clear hbel
    by_cases hlt : q < 8
    · have hv : rs[q]? = some (ruAt rs q) := ru_at L8.out hlt
      have LU := Lib.hid (RL.out q hlt wr gq (LF.out wr HB.out))
      generalize ruAt rs q = u at hv LU
      have HV := Lib.hid hv
      have hq8 : (q : Int) < 8 := by omega
      clear hv
      have c0 : wr.cell? ⟨gq, q * 12, none⟩ = some (I u.co) := by have := LU.out 0 _ rfl; rwa [Tab.add_zero] at this
      have HN := HB
      clear LU
      cases hon : grB u with
      | true =>
        have HS := Lib.hid (th_with HV.out hon)
        have e1 : u.co = 1 := by unfold grB at hon; exact beq_iff_eq.1 hon
        rw [e1] at c0
        clear hon e1
        generalize SetM.of (thTo grB 0 (rs.take q)) = s0 at HS ⊢
        go_wp2_with fail
        refine (RefS.rwith_any _ _ _).mono ?_
        rintro e w6 ⟨rfl, b6⟩
        have HN6 := Lib.hid (HN.out.trans (b6.mono HN.out.size))
        clear b6 HN
        go_wp2
        go_roundw
        case rel => exact ⟨q + 1, by omega, by go_num, by rw [← HS.out], HN6.out⟩
        case measure => simp [intOf]; omega
      | false =>
        have HS := Lib.hid (th_skip HV.out hon)
        have e1 : ¬ u.co = 1 := by unfold grB at hon; exact beq_eq_false_iff_ne.1 hon
        have e2 : (u.co == 1) = false := beq_eq_false_iff_ne.2 e1
        clear hon
        generalize SetM.of (thTo grB 0 (rs.take q)) = s0 at HS ⊢
        go_wp2
        go_roundw
        case rel => exact ⟨q + 1, by omega, by go_num, by rw [← HS.out], HN.out⟩
        case measure => simp [intOf]; omega
    · obtain rfl : q = 8 := by omega
      have HE : Hid (((SetM.of (thTo grB 0 (rs.take 8)) : Nat) : Int) = res) := Lib.hid RS.out.symm
      generalize SetM.of (thTo grB 0 (rs.take 8)) = s0 at HE ⊢
      go_wp2
      go_ret
      exact ⟨ret_int HE.out, H0.out.bel.trans (HB.out.mono H0.out.bel.size)⟩
end Rg
end Go.Proofs.YtkccepdifgldeaaDoor
