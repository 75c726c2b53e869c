/- The contract of the document's On: the set of the phases that are On. -/
import Derived.Test.YtneaomdgjlmleaaRows
import Derived.Test.YtneaomdgjlmleaaRefS
import Derived.Test.YtneaomdgjlmleaaGath
import Derived.Test.YtneaomdgjlmleaaPlaceM
import Derived.Test.YtneaomdgjlmleaaCloneB
import Derived.Test.YtneaomdgjlmleaaMayE
namespace Go.Proofs.Ytneaomdgjlmleaa.OnS
open Go.ChangeShapes Go.WideShapes Go.ChangeAt Go.RowKit
open Tab Gath RefS
open May (St phases_in infoP)
set_option linter.unusedVariables false
set_option linter.unusedSimpArgs false
/-- A row, as set.Of's contract wants it. -/
theorem row_of_int {w : World} {a : Option Addr} {cap : Nat} {L : List Int} (h : IntRow w ⟨a, cap⟩ L) : RefS.Row w a L := by
  have hl := h.len
  refine ⟨by omega, ?_⟩
  by_cases h0 : L = []
  · exact .inl h0
  · have hp : 0 < L.length := List.length_pos_iff.2 h0
    obtain ⟨x, hx, _⟩ := IntRow.at h (List.getElem?_eq_getElem hp)
    refine .inr ⟨x, hx, fun i hi => ?_⟩
    obtain ⟨y, hy, hc⟩ := IntRow.at h (List.getElem?_eq_getElem hi)
    obtain rfl : x = y := Option.some.inj (hx.symm.trans hy)
    rw [hc, List.getD_eq_getElem?_getD, List.getElem?_eq_getElem hi]
    rfl
def onTo : Nat → List Ph → List Int
  | _, [] => []
  | i, p :: l => (if p.on then [(i : Int)] else []) ++ onTo (i + 1) l
theorem onTo_append : ∀ (i : Nat) (l m : List Ph), onTo i (l ++ m) = onTo i l ++ onTo (i + l.length) m
  | i, [], m => rfl
  | i, p :: l, m => by
    rw [List.cons_append, onTo, onTo, onTo_append (i + 1) l m, List.append_assoc, List.length_cons, show i + 1 + l.length = i + (l.length + 1) by omega]
theorem on_step {l : List Ph} {q : Nat} {p : Ph} (h : l[q]? = some p) : onTo 0 (l.take (q + 1)) = onTo 0 (l.take q) ++ (if p.on then [(q : Int)] else []) := by
  have hi : q < l.length := (List.getElem?_eq_some_iff.1 h).1
  rw [PlaceM.take_succ h, onTo_append, List.length_take, Nat.min_eq_left (by omega), Nat.zero_add]
  simp [onTo]
theorem on_len : ∀ (i : Nat) (l : List Ph), (onTo i l).length ≤ l.length
  | i, [] => Nat.le_refl _
  | i, p :: l => by
    rw [onTo, List.length_append, List.length_cons]
    have := on_len (i + 1) l
    split <;> simp <;> omega
/-- The phases that are On, and their set. -/
def onL (T : Tab) : List Int := onTo 0 T.phases
def onS (T : Tab) : Nat := SetM.of (onL T)
abbrev OwnsI (B : Nat) (w : World) (v : Value) (l : List Int) : Prop := Owns (fun n => [I n]) 1 B w 3 v l
set_option maxRecDepth 100000 in
set_option maxHeartbeats 4000000 in
theorem on_any (T : Tab) (h : Hd) (w : World) (ht : IsTab w h T) :
    Calls Try.prog 19 #[.agg (T.cells h).toArray] w fun e w' => e = .returned (.int .i64 (onS T : Nat)) ∧ Below w.heap.size w w' := by
  have C := Lib.hid (cells_ok ht)
  generalize (T.cells h).toArray = cs at C ⊢
  have hsz := C.out.size
  have L8 := Lib.hid ht.ph
  have S0 := Lib.hid (St.box (cs := cs) ht)
  obtain ⟨i0, hi, hz0, hz1, hz2⟩ := info_parts info3
  have RS : Hid ((onS T : Nat) = SetM.of (onTo 0 T.phases)) := Lib.hid rfl
  generalize onS T = r at RS ⊢
  clear ht
  go_enter Try.func19, Try.ntmps19
  go_upto_region 1 with fail
  generalize w.alloc (.cells cs 31) = w1 at S0 ⊢
  clear hsz
  go_wp2_with fail
  go_loopw [3, 4] (fun v g wr => ∃ q : Nat, q ≤ 8 ∧ g = .int .i64 q ∧ OwnsI w1.heap.size wr v (onTo 0 (T.phases.take q)) ∧ Below w1.heap.size w1 wr) (fun _ g _ => 8 - (intOf g).toNat)
  case atStart => exact ⟨0, by omega, rfl, Owns.nil, Below.refl _ _⟩
  case round =>
    obtain ⟨q, hq, rfl, hown, hbel⟩ := hrel
    have HO := Lib.hid hown
    have HB := Lib.hid hbel
    clear hown hbel
    have S1 := Lib.hid (S0.out.step HB.out)
    by_cases hlt : q < 8
    · have hv : T.phases[q]? = some (T.phases[q]'(by rw [L8.out]; exact hlt)) := List.getElem?_eq_getElem _
      generalize T.phases[q]'(by rw [L8.out]; exact hlt) = u at hv
      obtain ⟨x, hx, hc⟩ := (phases_in S1.out.blk C.out L8.out).at hv
      obtain rfl := Option.some.inj hx
      have c0 : wr.cell? ⟨w.heap.size, q * 13, none⟩ = some (.bool u.on) := by
        have := hc 0 _ rfl
        rwa [Addr.add_mid, Nat.zero_add, Tab.add_zero] at this
      have HS := Lib.hid (on_step hv)
      have hlen : (onTo 0 (T.phases.take q)).length ≤ 8 := by have := on_len 0 (T.phases.take q); rw [List.length_take] at this; omega
      have hsz := HB.out.size
      clear hv hc hx
      generalize onTo 0 (T.phases.take q) = P1 at HO HS hlen
      cases hon : u.on
      · rw [hon] at c0 HS
        have HS2 : Hid (onTo 0 (T.phases.take (q + 1)) = P1) := Lib.hid (by rw [HS.out]; simp)
        go_wp2
        go_roundw
        case rel => exact ⟨q + 1, by omega, by go_num, by rw [HS2.out]; exact HO.out, HB.out⟩
        case measure => simp [intOf]; omega
      · rw [hon] at c0 HS
        have HS2 : Hid (onTo 0 (T.phases.take (q + 1)) = P1 ++ [(q : Int)]) := Lib.hid (by rw [HS.out]; simp)
        have hown2 : wr.ownsRow w1.heap.size 3 1 u3 P1.length (P1.flatMap (fun n => [I n])) := HO.out
        clear HO
        go_wp2_with (at_builtin; refine wpList_append_own _ rfl _ _ 39 rfl w1.heap.size 3 i0 (.int .i64 0) 1 8 Try.underlying39 hi hz0 hz1 hz2 rfl (by decide) _ _ _ rfl (hown2.alloc _) ⟨wr.heap.size, 0, none⟩ 1 1 [.int .i64 (q : Int)] rfl rfl ?c1 ?c2 ?c3 ?c4 ?c5 ?_)
        case c2 => rfl
        case c3 => unfold maxLen; omega
        case c4 => omega
        case c5 => omega
        intro v' w2 hown' hgrow hnil'
        have HB2 : Hid (Below w1.heap.size w1 w2) := Lib.hid ((HB.out.alloc hsz _).grown hgrow (by simp; omega) fun m hm => (show OwnsI w1.heap.size wr u3 P1 from hown2).blk m hm)
        have HO2 : Hid (OwnsI w1.heap.size w2 v' (P1 ++ [(q : Int)])) := Lib.hid (Owns.snoc hown')
        clear hown' hgrow hown2 hnil'
        go_wp2
        go_roundw
        case rel => exact ⟨q + 1, by omega, by go_num, by rw [HS2.out]; exact HO2.out, HB2.out⟩
        case measure => simp [intOf]; omega
    · have HE : Hid (onTo 0 (T.phases.take q) = onTo 0 T.phases) := Lib.hid (by rw [List.take_of_length_le (by rw [L8.out]; omega)])
      obtain ⟨⟨sa, sc⟩, hs, hrow⟩ := HO.out.row (enc := fun n => [I n]) (fun _ => rfl)
      rw [HE.out] at hs hrow
      have HR := Lib.hid (row_of_int hrow)
      have HF : Hid (Below w.heap.size w wr) := Lib.hid (S1.out.bel)
      clear hrow HE
      subst hs
      generalize onTo 0 T.phases = P2 at RS HR ⊢
      show Code.wp _ _ _ _ _
      rw [show (Sl.val ⟨sa, sc⟩ P2.length) = .slice sa P2.length sc from rfl]
      go_wp2_with fail
      refine (rof_any sa sc P2 _ HR.out).mono ?_
      rintro e w' ⟨rfl, rfl⟩
      rw [← RS.out]
      go_wp2
      go_ret
      exact ⟨rfl, HF.out⟩
end Go.Proofs.Ytneaomdgjlmleaa.OnS
