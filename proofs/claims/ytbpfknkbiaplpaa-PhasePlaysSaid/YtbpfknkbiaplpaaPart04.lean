/- 7 texts in one file, in build order. -/
import Derived.Test.YtbpfknkbiaplpaaRows
import Derived.Test.YtbpfknkbiaplpaaPart03
import Derived.Test.YtbpfknkbiaplpaaPart01
import Derived.LoopTactic
import Derived.StillTailTactics
import Derived.Deep.Cut
import Derived.Laws.ResultCell
import Derived.Laws.Rows
import Derived.Test.YtbpfknkbiaplpaaPart02
set_option linter.unusedVariables false
set_option linter.unusedSimpArgs false
set_option linter.unusedSectionVars false
set_option maxHeartbeats 8000000
set_option maxRecDepth 100000
namespace Go.Proofs.Ytbpfknkbiaplpaa
namespace Spots
open Go.ChangeShapes Go.WideShapes Go.ChangeAt Go.RowKit
open Tab Clone PlaceM Gath
open May (ret_bool chain infoP infoG infoD infoR infoB infoT St)
theorem info4 : (Try.prog.info? 93).map (fun i => (i.zero, i.size, i.bytes)) = some (some (.agg #[I 0, I 0, I 0, I 0]), 4, 32) := by kernel_rfl
abbrev OwnsS (B : Nat) (w : World) (v : Value) (l : List Spt) : Prop := Owns Spt.cells 4 B w 93 v l
/-- The block under a slice is one of places. -/
def Typed (w : World) (s : Sl) : Prop := ∀ x, s.a = some x → ∃ cs : Array Value, w.heap[x.block]? = some (.cells cs 93 (0, 0))
theorem Typed.below {w w' : World} {s : Sl} (h : Typed w s) (hb : Below w.heap.size w w') : Typed w' s := fun x hx => by
  obtain ⟨cs, hc⟩ := h x hx
  exact ⟨cs, (hb.block _ (Array.getElem?_eq_some_iff.1 hc).1).trans hc⟩
theorem own_row_t {B : Nat} {w : World} {v : Value} {l : List Spt} (h : OwnsS B w v l) : ∃ s : Sl, v = s.val l.length ∧ RowOf 4 Spt.cells w s l ∧ Typed w s := by
  obtain ⟨s, hs, hr⟩ := Owns.row h (enc := Spt.cells) (fun _ => rfl)
  refine ⟨s, hs, hr, fun x hx => ?_⟩
  rcases h.2 with ⟨e, _⟩ | ⟨g, cap, cur, e, h1, h2, _⟩
  · rw [hs] at e
    simp [Sl.val, hx] at e
  · rw [hs] at e
    simp [Sl.val, hx] at e
    obtain ⟨rfl, _⟩ := e
    exact ⟨cur, h2⟩
theorem spots_typed (T : Tab) (h : Hd) (w : World) (ht : IsTab w h T) (sm : Few T) :
    Calls Try.prog 76 #[.agg (T.cells h).toArray] w fun e w' => ∃ s : Sl, e = .returned (s.val (spots T).length) ∧ RowOf 4 Spt.cells w' s (spots T) ∧ Typed w' s ∧ Below w.heap.size w w' := by
  have C := Lib.hid (cells_ok ht)
  generalize (T.cells h).toArray = cs at C ⊢
  obtain ⟨gs, hgd, hgr⟩ := ht.groups
  have Hgr := Lib.hid hgr
  have Hgd := Lib.hid hgd
  have SM := Lib.hid sm
  have hsz := C.out.size
  have S0 := Lib.hid (St.box (cs := cs) ht)
  have HZ : Hid ((w.alloc (.cells cs 45)).heap.size = w.heap.size + 1) := Lib.hid (by simp)
  have Hgl := Lib.hid (show T.groups.length = gs.length by rw [← hgd, List.length_map])
  have Kg := hgr.1.len
  unfold maxLen at Kg
  obtain ⟨i0, hi, hz0, hz1, hz2⟩ := info_parts info4
  have LEN : Hid (∀ n, (allS 0 (T.groups.take n)).length ≤ 2000000) := Lib.hid (fun n => small_len (by have := sm.groups; rw [List.length_take]; omega) (fun x hx => sm.rows x (List.mem_of_mem_take hx)))
  clear ht hgr hgd sm
  go_enter Try.func76, Try.ntmps76
  go_upto_region 1 with fail
  generalize w.alloc (.cells cs 45) = w1 at S0 HZ ⊢
  clear hsz
  have q104 := S0.out.cell C.out.g
  rw [Hgl.out] at q104
  have Q104 := Lib.hid q104
  clear q104
  have LIFT : Hid (∀ W, Below w1.heap.size w1 W → ∀ (z : Addr) (c : Value), w1.cell? z = some c → W.cell? z = some c) := Lib.hid (fun W hb z c hc => (hb.cell (World.block_lt_of_cell? w1 _ hc)).trans hc)
  go_wp2_with fail
  go_loopw [3, 4] (fun v g wr => ∃ q : Nat, q ≤ gs.length ∧ g = .int .i64 q ∧ OwnsS w1.heap.size wr v (allS 0 (T.groups.take q)) ∧ Below w1.heap.size w1 wr) (fun _ g _ => gs.length - (intOf g).toNat)
  case atStart => exact ⟨0, by omega, rfl, Owns.nil, Below.refl _ _⟩
  case round =>
    obtain ⟨q, hq, rfl, hown, hbel⟩ := hrel
    have HO := Lib.hid hown
    have HB := Lib.hid hbel
    clear hown hbel
    have p104 := LIFT.out _ HB.out _ _ Q104.out
    by_cases hlt : q < gs.length
    · have hv := List.getElem?_eq_getElem hlt
      generalize gs[q] = u at hv
      obtain ⟨x, hx, hc⟩ := (Hgr.out.1.below S0.out.bel).at hv
      have hok := (Hgr.out.2 u (List.mem_of_getElem? hv)).below S0.out.bel
      have HD : Hid (T.groups[q]? = some u.data) := Lib.hid (by rw [← Hgd.out, List.getElem?_map, hv]; rfl)
      have hsm := SM.out.rows u.data (by rw [← Hgd.out]; exact List.mem_map.2 ⟨u, List.mem_of_getElem? hv, rfl⟩)
      obtain ⟨l0, l1, ⟨a0, cap0⟩, ⟨a1, cap1⟩⟩ := u
      have hl0 : l0.length ≤ 1000 := hsm.1
      have hl1 : l1.length ≤ 1000 := hsm.2
      have K0 := hok.1.len
      have K1 := hok.2.len
      unfold maxLen at K0 K1
      have H0 := Lib.hid hok.1
      have H1 := Lib.hid hok.2
      have QQ : Hid (w1.cell? ⟨w.heap.size, 104, none⟩ = some (.slice (some x) gs.length h.g.cap)) := by have := Q104.out; simp only [Sl.val, hx] at this; exact this
      have c0 := hc 0 _ rfl
      have c1 := hc 1 _ rfl
      rw [add_zero] at c0
      rw [add_one] at c1
      have HC0 := Lib.hid c0
      have HC1 := Lib.hid c1
      clear hv hc hok hx c0 c1 hsm
      go_wp2_with fail
      clear p104
      go_loopw [3, 5] (fun v k wk => ∃ r : Nat, r ≤ 2 ∧ k = .int .i64 r ∧ OwnsS w1.heap.size wk v (allS 0 (T.groups.take q) ++ ((if 0 < r then rowS q 0 0 l0 else []) ++ (if 1 < r then rowS q 1 0 l1 else []))) ∧ Below w1.heap.size w1 wk) (fun _ k _ => 2 - (intOf k).toNat)
      case atStart => exact ⟨0, by omega, rfl, by simpa using HO.out, HB.out⟩
      case round =>
        obtain ⟨r, hr, rfl, hown, hbel⟩ := hrel
        have HOr := Lib.hid hown
        have HBr := Lib.hid hbel
        clear hown hbel
        have hr2 : r = 0 ∨ r = 1 ∨ r = 2 := by omega
        rcases hr2 with rfl | rfl | rfl
        · rw [show ((0 : Nat) : Int) = (0 : Int) from rfl]
          have HO1 : Hid (OwnsS w1.heap.size wr u3 (allS 0 (T.groups.take q))) := Lib.hid (by simpa using HOr.out)
          clear HOr
          have LN : Hid ((allS 0 (T.groups.take q)).length ≤ 2002000) := Lib.hid (by have := LEN.out q; have h2 := rowS_len q 0 0 l0; (try rw [List.length_append]); omega)
          go_wp2_with fail
          go_loopw [3, 6] (fun v i wj => ∃ j : Nat, j ≤ l0.length ∧ i = .int .i64 j ∧ OwnsS w1.heap.size wj v (allS 0 (T.groups.take q) ++ rowS q 0 0 (l0.take j)) ∧ Below w1.heap.size w1 wj) (fun _ i _ => l0.length - (intOf i).toNat)
          case atStart => exact ⟨0, by omega, rfl, by simpa [rowS] using HO1.out, HBr.out⟩
          case round =>
            obtain ⟨j, hj, rfl, hown, hbel⟩ := hrel
            have HOj := Lib.hid hown
            have HBj := Lib.hid hbel
            clear hown hbel
            have p104 := LIFT.out _ HBj.out _ _ QQ.out
            by_cases hjl : j < l0.length
            · have hv := List.getElem?_eq_getElem hjl
              generalize l0[j] = p at hv
              obtain ⟨y, hy, hp⟩ := IntRow.at (H0.out.below HBj.out) hv
              obtain rfl : a0 = some y := hy
              have p0 : wr.cell? _ = some (.slice (some y) l0.length cap0) := LIFT.out _ HBj.out _ _ HC0.out
              have HV := Lib.hid hv
              clear hv
              have hsz := HBj.out.size
              by_cases hp8 : 0 ≤ p ∧ p < 8
              · obtain ⟨hp0, hp1⟩ := hp8
                have HS : Hid (allS 0 (T.groups.take q) ++ rowS q 0 0 (l0.take (j + 1)) = (allS 0 (T.groups.take q) ++ rowS q 0 0 (l0.take j)) ++ [⟨q, 0, j, p⟩]) := Lib.hid (by rw [row_hit HV.out hp0 hp1, ← List.append_assoc])
                have hlen : (allS 0 (T.groups.take q) ++ rowS q 0 0 (l0.take j)).length ≤ 2003000 := by have := LN.out; have h2 := rowS_len q 0 0 (l0.take j); rw [List.length_append]; rw [List.length_take] at h2; omega
                have hown := HOj.out
                generalize allS 0 (T.groups.take q) ++ rowS q 0 0 (l0.take j) = P1 at hown hlen HS
                have hown2 : wr.ownsRow w1.heap.size 93 4 u3 P1.length (P1.flatMap Spt.cells) := hown
                clear hown HOj
                go_wp2_with (at_builtin; refine wpList_append_own _ rfl _ _ 107 rfl w1.heap.size 93 i0 (.agg #[I 0, I 0, I 0, I 0]) 4 32 Try.underlying107 hi hz0 hz1 hz2 rfl (by decide) _ _ _ rfl (hown2.alloc _) ⟨wr.heap.size, 0, none⟩ 1 1 (Spt.cells ⟨q, 0, j, p⟩) rfl rfl ?c1 ?c2 ?c3 ?c4 ?c5 ?_)
                case c1 =>
                  intro m u hm
                  match m, hm with
                  | 0, hm | 1, hm | 2, hm | 3, hm => simp [Spt.cells] at hm; subst hm; simp [Addr.add]
                case c2 => intro u hu; simp [Spt.cells] at hu; rcases hu with rfl | rfl | rfl | rfl <;> rfl
                case c3 => unfold maxLen; omega
                case c4 => omega
                case c5 => simp; omega
                intro v' w2 hown' hgrow hnil'
                have HB2 : Hid (Below w1.heap.size w1 w2) := Lib.hid ((HBj.out.alloc hsz _).grown hgrow (by simp; omega) fun m hm => (show OwnsS w1.heap.size wr u3 P1 from hown2).blk m hm)
                have HO2 : Hid (OwnsS w1.heap.size w2 v' (P1 ++ [⟨q, 0, j, p⟩])) := Lib.hid (Owns.snoc hown')
                clear hown' hgrow hown2 hnil'
                go_wp2
                go_roundw
                case rel => exact ⟨j + 1, by omega, by go_num, by rw [HS.out]; exact HO2.out, HB2.out⟩
                case measure => simp [intOf]; omega
              · have HS : Hid (allS 0 (T.groups.take q) ++ rowS q 0 0 (l0.take (j + 1)) = allS 0 (T.groups.take q) ++ rowS q 0 0 (l0.take j)) := Lib.hid (by rw [row_miss HV.out hp8])
                by_cases hp0 : 0 ≤ p
                · have hp1 : ¬ p < 8 := fun h => hp8 ⟨hp0, h⟩
                  clear hp8
                  go_wp2
                  go_roundw
                  case rel => exact ⟨j + 1, by omega, by go_num, by rw [HS.out]; exact HOj.out, HBj.out⟩
                  case measure => simp [intOf]; omega
                · clear hp8
                  go_wp2
                  go_roundw
                  case rel => exact ⟨j + 1, by omega, by go_num, by rw [HS.out]; exact HOj.out, HBj.out⟩
                  case measure => simp [intOf]; omega
            · have p0 : wr.cell? _ = some (.slice a0 l0.length cap0) := LIFT.out _ HBj.out _ _ HC0.out
              have HE : Hid (rowS q 0 0 (l0.take j) = rowS q 0 0 l0) := Lib.hid (by rw [List.take_of_length_le (by omega)])
              go_wp2
              go_roundw
              case rel => exact ⟨0 + 1, by omega, by go_num, by have := HOj.out; rw [HE.out] at this; simpa using this, HBj.out⟩
              case measure => simp [intOf]
        · rw [show ((1 : Nat) : Int) = (1 : Int) from rfl]
          have HO1 : Hid (OwnsS w1.heap.size wr u3 (allS 0 (T.groups.take q) ++ rowS q 0 0 l0)) := Lib.hid (by simpa using HOr.out)
          clear HOr
          have LN : Hid ((allS 0 (T.groups.take q) ++ rowS q 0 0 l0).length ≤ 2002000) := Lib.hid (by have := LEN.out q; have h2 := rowS_len q 0 0 l0; (try rw [List.length_append]); omega)
          go_wp2_with fail
          go_loopw [3, 6] (fun v i wj => ∃ j : Nat, j ≤ l1.length ∧ i = .int .i64 j ∧ OwnsS w1.heap.size wj v (allS 0 (T.groups.take q) ++ rowS q 0 0 l0 ++ rowS q 1 0 (l1.take j)) ∧ Below w1.heap.size w1 wj) (fun _ i _ => l1.length - (intOf i).toNat)
          case atStart => exact ⟨0, by omega, rfl, by simpa [rowS] using HO1.out, HBr.out⟩
          case round =>
            obtain ⟨j, hj, rfl, hown, hbel⟩ := hrel
            have HOj := Lib.hid hown
            have HBj := Lib.hid hbel
            clear hown hbel
            have p104 := LIFT.out _ HBj.out _ _ QQ.out
            by_cases hjl : j < l1.length
            · have hv := List.getElem?_eq_getElem hjl
              generalize l1[j] = p at hv
              obtain ⟨y, hy, hp⟩ := IntRow.at (H1.out.below HBj.out) hv
              obtain rfl : a1 = some y := hy
              have p0 : wr.cell? _ = some (.slice (some y) l1.length cap1) := LIFT.out _ HBj.out _ _ HC1.out
              have HV := Lib.hid hv
              clear hv
              have hsz := HBj.out.size
              by_cases hp8 : 0 ≤ p ∧ p < 8
              · obtain ⟨hp0, hp1⟩ := hp8
                have HS : Hid (allS 0 (T.groups.take q) ++ rowS q 0 0 l0 ++ rowS q 1 0 (l1.take (j + 1)) = (allS 0 (T.groups.take q) ++ rowS q 0 0 l0 ++ rowS q 1 0 (l1.take j)) ++ [⟨q, 1, j, p⟩]) := Lib.hid (by rw [row_hit HV.out hp0 hp1, ← List.append_assoc])
                have hlen : (allS 0 (T.groups.take q) ++ rowS q 0 0 l0 ++ rowS q 1 0 (l1.take j)).length ≤ 2003000 := by have := LN.out; have h2 := rowS_len q 1 0 (l1.take j); rw [List.length_append]; rw [List.length_take] at h2; omega
                have hown := HOj.out
                generalize allS 0 (T.groups.take q) ++ rowS q 0 0 l0 ++ rowS q 1 0 (l1.take j) = P1 at hown hlen HS
                have hown2 : wr.ownsRow w1.heap.size 93 4 u3 P1.length (P1.flatMap Spt.cells) := hown
                clear hown HOj
                go_wp2_with (at_builtin; refine wpList_append_own _ rfl _ _ 107 rfl w1.heap.size 93 i0 (.agg #[I 0, I 0, I 0, I 0]) 4 32 Try.underlying107 hi hz0 hz1 hz2 rfl (by decide) _ _ _ rfl (hown2.alloc _) ⟨wr.heap.size, 0, none⟩ 1 1 (Spt.cells ⟨q, 1, j, p⟩) rfl rfl ?c1 ?c2 ?c3 ?c4 ?c5 ?_)
                case c1 =>
                  intro m u hm
                  match m, hm with
                  | 0, hm | 1, hm | 2, hm | 3, hm => simp [Spt.cells] at hm; subst hm; simp [Addr.add]
                case c2 => intro u hu; simp [Spt.cells] at hu; rcases hu with rfl | rfl | rfl | rfl <;> rfl
                case c3 => unfold maxLen; omega
                case c4 => omega
                case c5 => simp; omega
                intro v' w2 hown' hgrow hnil'
                have HB2 : Hid (Below w1.heap.size w1 w2) := Lib.hid ((HBj.out.alloc hsz _).grown hgrow (by simp; omega) fun m hm => (show OwnsS w1.heap.size wr u3 P1 from hown2).blk m hm)
                have HO2 : Hid (OwnsS w1.heap.size w2 v' (P1 ++ [⟨q, 1, j, p⟩])) := Lib.hid (Owns.snoc hown')
                clear hown' hgrow hown2 hnil'
                go_wp2
                go_roundw
                case rel => exact ⟨j + 1, by omega, by go_num, by rw [HS.out]; exact HO2.out, HB2.out⟩
                case measure => simp [intOf]; omega
              · have HS : Hid (allS 0 (T.groups.take q) ++ rowS q 0 0 l0 ++ rowS q 1 0 (l1.take (j + 1)) = allS 0 (T.groups.take q) ++ rowS q 0 0 l0 ++ rowS q 1 0 (l1.take j)) := Lib.hid (by rw [row_miss HV.out hp8])
                by_cases hp0 : 0 ≤ p
                · have hp1 : ¬ p < 8 := fun h => hp8 ⟨hp0, h⟩
                  clear hp8
                  go_wp2
                  go_roundw
                  case rel => exact ⟨j + 1, by omega, by go_num, by rw [HS.out]; exact HOj.out, HBj.out⟩
                  case measure => simp [intOf]; omega
                · clear hp8
                  go_wp2
                  go_roundw
                  case rel => exact ⟨j + 1, by omega, by go_num, by rw [HS.out]; exact HOj.out, HBj.out⟩
                  case measure => simp [intOf]; omega
            · have p0 : wr.cell? _ = some (.slice a1 l1.length cap1) := LIFT.out _ HBj.out _ _ HC1.out
              have HE : Hid (rowS q 1 0 (l1.take j) = rowS q 1 0 l1) := Lib.hid (by rw [List.take_of_length_le (by omega)])
              go_wp2
              go_roundw
              case rel => exact ⟨1 + 1, by omega, by go_num, by have := HOj.out; rw [HE.out] at this; simpa using this, HBj.out⟩
              case measure => simp [intOf]
        · have HN : Hid (allS 0 (T.groups.take (q + 1)) = allS 0 (T.groups.take q) ++ (rowS q 0 0 l0 ++ rowS q 1 0 l1)) := Lib.hid (all_step HD.out)
          go_wp2
          go_roundw
          case rel => exact ⟨q + 1, by omega, by go_num, by rw [HN.out]; simpa using HOr.out, HBr.out⟩
          case measure => simp [intOf]; omega
    · have HE : Hid (allS 0 (T.groups.take q) = spots T) := Lib.hid (by rw [List.take_of_length_le (by rw [Hgl.out]; omega)]; rfl)
      obtain ⟨s, hs, hrow, hty⟩ := own_row_t HO.out
      rw [HE.out] at hs hrow
      have HR := Lib.hid hrow
      have HT := Lib.hid hty
      have HF : Hid (Below w.heap.size w wr) := Lib.hid (S0.out.bel.trans (HB.out.mono S0.out.bel.size))
      clear hrow hty HE
      subst hs
      go_wp2
      go_ret
      exact ⟨s, rfl, HR.out, HT.out, HF.out⟩
theorem spots_any (T : Tab) (h : Hd) (w : World) (ht : IsTab w h T) (sm : Few T) :
    Calls Try.prog 76 #[.agg (T.cells h).toArray] w fun e w' => ∃ s : Sl, e = .returned (s.val (spots T).length) ∧ RowOf 4 Spt.cells w' s (spots T) ∧ Below w.heap.size w w' := by
  refine (spots_typed T h w ht sm).mono ?_
  rintro e w' ⟨s, h1, h2, _, h3⟩
  exact ⟨s, h1, h2, h3⟩
end Spots
namespace Same
open Go.ChangeShapes Go.WideShapes Go.ChangeAt Go.RowKit
open Tab
open May (ret_bool chain take_succ' infoP infoG infoD infoR infoB row_new)
end Same
namespace Same
open Go.ChangeShapes Go.WideShapes Go.ChangeAt Go.RowKit
open Tab
open May (ret_bool chain take_succ' infoP infoG infoD infoR infoB row_new)
end Same
namespace Same
open Go.ChangeShapes Go.WideShapes Go.ChangeAt Go.RowKit
open Tab
open May (ret_bool chain take_succ' infoP infoG infoD infoR infoB row_new St)
theorem below_setRow {B : Nat} {a w : World} (h : Below B a w) {g : Nat} (hg : B ≤ g) (cs : Array Value) : Below B a (w.setRow g cs) :=
  h.trans ⟨rfl, rfl, rfl, by simp [World.setRow], fun j hj => setRow_other _ _ _ _ (by omega)⟩
end Same
namespace Where
open Go.ChangeShapes Go.WideShapes Go.ChangeAt Go.RowKit
open Tab Clone PlaceM
open May (ret_bool chain infoP infoG infoD infoR infoB infoT St)
open Same (below_setRow)
theorem infoS : (Try.prog.info? 93).map (·.size) = some 4 := by kernel_rfl
theorem infoZ : (Try.prog.info? 93).map (fun i => (i.zero, i.size)) = some (some (.agg #[I 0, I 0, I 0, I 0]), 4) := by kernel_rfl
theorem results_row_tmp {P : Program} {fn : Func} {p u : Tmp} {ty : TypeId} (h : fn.results = #[.cell p ty, .tmp u]) (tmps : Array Value) (w : World) (g : Nat) (t : TypeId) (cs : Array Value) (fr : Nat × Nat) (d : TypeDesc)
    (hp : tmps.getD p undef = .pointer (some ⟨g, 0, none⟩)) (hg : w.heap[g]? = some (.cells cs t fr))
    (hu : P.underlying ty = some d) (hd : (match d with | .struct _ | .array _ _ => true | _ => false) = true) (hi : (P.info? ty).map (·.size) = some cs.size) :
    (results fn tmps).run P w = .ok (.tuple #[.agg cs, tmps.getD u undef]) w := by
  rw [results_cell_tmp h, hp]
  simp [asAddr, run_loadVar_row w g t ty cs fr d hg hu hd hi]
def oCells : Option Spt → List Value
  | some x => x.cells
  | none => [I 0, I 0, I 0, I 0]
theorem find_some {p : Int} {l : List Spt} {j : Nat} {x : Spt} (h : ∀ y ∈ l.take j, y.p ≠ p) (hx : l[j]? = some x) (hp : x.p = p) : find p l = some x := by
  have hj : j < l.length := (List.getElem?_eq_some_iff.1 hx).1
  have e : l = l.take j ++ x :: l.drop (j + 1) := by
    have h2 : l.drop j = x :: l.drop (j + 1) := by
      rw [List.drop_eq_getElem_cons hj]; congr 1; exact (List.getElem?_eq_some_iff.1 hx).2
    rw [← h2, List.take_append_drop]
  have h1 := find_none h
  unfold find at h1 ⊢
  rw [e, List.find?_append, h1]
  simp [hp]
theorem where_any (T : Tab) (h : Hd) (p : Int) (w : World) (ht : IsTab w h T) (sm : Few T) :
    Calls Try.prog 58 #[.agg (T.cells h).toArray, .int .i64 p] w fun e w' => e = .returned (.tuple #[.agg (oCells (where_ T p)).toArray, .bool (where_ T p).isSome]) ∧ Below w.heap.size w w' := by
  have hsz := (cells_ok ht).size
  have IA : Hid ((Try.prog.info? 45).map (·.size) = some (T.cells h).length) := Lib.hid (by rw [List.size_toArray] at hsz; rw [hsz]; exact infoT)
  have SPC : Hid (∀ W, Below w.heap.size w W → Calls Try.prog 76 #[.agg (T.cells h).toArray] W fun e w' => ∃ s : Sl, e = .returned (s.val (spots T).length) ∧ RowOf 4 Spt.cells w' s (spots T) ∧ Below W.heap.size W w') := Lib.hid (fun W hb => Spots.spots_any T h W (ht.below hb) sm)
  have A0 : Hid (Below w.heap.size w ((w.alloc (.cells (T.cells h).toArray 45)).alloc (.cells #[I 0, I 0, I 0, I 0] 93))) := Lib.hid (((Below.refl _ _).alloc (Nat.le_refl _) _).alloc (by simp) _)
  have A1 : Hid (Lies ((w.alloc (.cells (T.cells h).toArray 45)).alloc (.cells #[I 0, I 0, I 0, I 0] 93)) ⟨w.heap.size, 0, none⟩ (T.cells h)) := Lib.hid (Row.lies_of_block (heap_alloc2_old w _ _))
  have A2 : Hid (((w.alloc (.cells (T.cells h).toArray 45)).alloc (.cells #[I 0, I 0, I 0, I 0] 93)).heap[w.heap.size + 1]? = some (.cells #[I 0, I 0, I 0, I 0] 93 (0, 0))) := Lib.hid (heap_alloc2_new w _ _)
  have hz := (zero_of_info infoZ).1
  have W0 : Hid (where_ T p = find p (spots T)) := Lib.hid rfl
  generalize where_ T p = o at W0 ⊢
  clear ht sm
  generalize T.cells h = c at *
  go_enter Try.func58, Try.ntmps58
  go_upto_region 1 with fail
  generalize ((w.alloc (.cells c.toArray 45)).alloc (.cells #[I 0, I 0, I 0, I 0] 93)) = u at A0 A1 A2 ⊢
  clear hsz hz
  go_wp2_with (refine Row.wpList_load_g 45 _ rfl (by first | rfl | go_simp) ⟨w.heap.size, 0, none⟩ rfl c _ A1.out Try.underlying45 rfl IA.out ?_)
  refine (SPC.out _ A0.out).mono ?_
  rintro e u1 ⟨⟨sa, scap⟩, rfl, hrow, hb⟩
  rw [show (Sl.val ⟨sa, scap⟩ (spots T).length) = .slice sa (spots T).length scap from rfl]
  have B0 : Hid (Below w.heap.size w u1) := Lib.hid (A0.out.trans (hb.mono A0.out.size))
  have B2 : Hid (u1.heap[w.heap.size + 1]? = some (.cells #[I 0, I 0, I 0, I 0] 93 (0, 0))) := Lib.hid ((hb.block _ (Array.getElem?_eq_some_iff.1 A2.out).1).trans A2.out)
  have HR := Lib.hid hrow
  have K := hrow.len
  unfold maxLen at K
  clear hrow hb A0 A1 A2 SPC IA
  generalize spots T = S at HR K W0 ⊢
  go_wp2_with fail
  go_loopw [7] (fun i wr => ∃ j : Nat, j ≤ S.length ∧ i = .int .i64 j ∧ (∀ x ∈ S.take j, x.p ≠ p) ∧ wr = u1) (fun i _ => S.length - (intOf i).toNat)
  case atStart => exact ⟨0, by omega, rfl, (fun x hx => by simp at hx), rfl⟩
  case round =>
    obtain ⟨j, hj, rfl, hall, rfl⟩ := hrel
    have Hall := Lib.hid hall
    clear hall
    by_cases hlt : j < S.length
    · have hv := List.getElem?_eq_getElem hlt
      generalize S[j] = x at hv
      obtain ⟨y, hy, hc⟩ := HR.out.at hv
      obtain rfl : sa = some y := hy
      have HV := Lib.hid hv
      have HC := Lib.hid hc
      have c3 := hc 3 _ rfl
      have c3' : wr.cell? ⟨(y.add (j * 4)).block, (y.add (j * 4)).off + 3, none⟩ = some (I x.p) := by simpa [Addr.add] using c3
      clear hv hc c3
      by_cases hp : x.p = p
      · have HF : Hid (o = some x) := Lib.hid (by rw [W0.out]; exact find_some Hall.out HV.out hp)
        have hb : (x.p == p) = true := by simpa using hp
        have HG := Lib.hid (below_setRow B0.out (g := w.heap.size + 1) (by omega) x.cells.toArray)
        have HK := Lib.hid (setRow_heap wr (w.heap.size + 1) _ x.cells.toArray _ _ B2.out)
        clear hp
        go_wp2_with (first | (refine Row.wpList_load_g 93 _ rfl (by first | rfl | go_simp) (y.add (j * 4)) rfl x.cells _ HC.out Try.underlying93 rfl infoS ?_) | (refine wpList_store_row rfl 93 _ _ rfl (w.heap.size + 1) x.cells.toArray rfl rfl 93 _ B2.out infoS rfl (Spt.one _) ?_))
        generalize wr.setRow (w.heap.size + 1) x.cells.toArray = w5 at HG HK ⊢
        go_wp2_with fail
        (try simp only [Exit.inBlock, Exit.then])
        refine bodyPost_ret (v := .tuple #[.agg x.cells.toArray, .bool true]) ?_ rfl ⟨?_, HG.out⟩
        · exact results_row_tmp (fn := Try.f58) (p := 4) (u := 5) (ty := 93) rfl _ _ (w.heap.size + 1) 93 _ (0, 0) _ rfl HK.out Try.underlying93 rfl infoS
        · rw [HF.out]; rfl
      · have HN : Hid (∀ y ∈ S.take (j + 1), y.p ≠ p) := Lib.hid (by
          intro y hy
          rw [take_succ HV.out] at hy
          rcases List.mem_append.1 hy with hy | hy
          · exact Hall.out y hy
          · obtain rfl : y = x := by simpa using hy
            exact hp)
        have hb : (x.p == p) = false := by simpa using hp
        clear hp
        go_wp2
        go_roundw
        case rel => exact ⟨j + 1, by omega, by go_num, HN.out, trivial⟩
        case measure => simp [intOf]; omega
    · have HF : Hid (o = none) := Lib.hid (by
        rw [W0.out]; refine find_none ?_
        have := Hall.out
        rwa [List.take_of_length_le (by omega)] at this)
      have HG := Lib.hid (below_setRow B0.out (g := w.heap.size + 1) (by omega) #[I 0, I 0, I 0, I 0])
      have HK := Lib.hid (setRow_heap wr (w.heap.size + 1) _ #[I 0, I 0, I 0, I 0] _ _ B2.out)
      go_wp2_with (first | (refine wpList_store_row rfl 93 _ _ rfl (w.heap.size + 1) #[I 0, I 0, I 0, I 0] rfl rfl 93 _ B2.out infoS rfl (by simp [Value.oneCell']) ?_))
      generalize wr.setRow (w.heap.size + 1) #[I 0, I 0, I 0, I 0] = w5 at HG HK ⊢
      go_wp2_with fail
      (try simp only [Exit.inBlock, Exit.then])
      refine bodyPost_ret (v := .tuple #[.agg #[I 0, I 0, I 0, I 0], .bool false]) ?_ rfl ⟨?_, HG.out⟩
      · exact results_row_tmp (fn := Try.f58) (p := 4) (u := 5) (ty := 93) rfl _ _ (w.heap.size + 1) 93 _ (0, 0) _ rfl HK.out Try.underlying93 rfl infoS
      · rw [HF.out]; rfl
theorem lies4 {w : World} {b : Nat} {g k i p : Int} {t : TypeId} (h : w.heap[b]? = some (.cells #[I g, I k, I i, I p] t (0, 0))) : w.cell? ⟨b, 0, none⟩ = some (I g) ∧ w.cell? ⟨b, 1, none⟩ = some (I k) := ⟨by rw [cell_of_row _ _ _ _ _ _ h]; rfl, by rw [cell_of_row _ _ _ _ _ _ h]; rfl⟩
theorem beside_raw (c : List Value) (p q g1 k1 i1 p1 g2 k2 i2 p2 : Int) (ok1 ok2 : Bool) (w : World) (hc : c.length = 131) (hone : c.toArray.all (·.oneCell') = true)
    (V1 : Hid (∀ W, Below w.heap.size w W → Calls Try.prog 58 #[.agg c.toArray, .int .i64 p] W fun e w' => e = .returned (.tuple #[.agg #[I g1, I k1, I i1, I p1], .bool ok1]) ∧ Below W.heap.size W w'))
    (V2 : Hid (∀ W, Below w.heap.size w W → Calls Try.prog 58 #[.agg c.toArray, .int .i64 q] W fun e w' => e = .returned (.tuple #[.agg #[I g2, I k2, I i2, I p2], .bool ok2]) ∧ Below W.heap.size W w')) :
    Calls Try.prog 32 #[.agg c.toArray, .int .i64 p, .int .i64 q] w fun e w' => e = .returned (.bool (ok1 && ok2 && g1 == g2 && k1 != k2)) ∧ Below w.heap.size w w' := by
  have hsz : c.toArray.size = 131 := by simpa using hc
  have IA : Hid ((Try.prog.info? 45).map (·.size) = some c.length) := Lib.hid (by rw [hc]; exact infoT)
  have A0 : Hid (Below w.heap.size w (w.alloc (.cells c.toArray 45))) := Lib.hid ((Below.refl _ _).alloc (Nat.le_refl _) _)
  have A1 : Hid (Lies (w.alloc (.cells c.toArray 45)) ⟨w.heap.size, 0, none⟩ c) := Lib.hid (Row.lies_new w _ _)
  generalize hr : (ok1 && ok2 && g1 == g2 && k1 != k2) = r
  have HR := Lib.hid hr
  clear hr hc hone
  go_enter Try.func32, Try.ntmps32
  go_upto_region 1 with fail
  generalize w.alloc (.cells c.toArray 45) = u at A0 A1 ⊢
  clear hsz
  go_wp2_with (refine Row.wpList_load_g 45 _ rfl (by first | rfl | go_simp) ⟨w.heap.size, 0, none⟩ rfl c _ A1.out Try.underlying45 rfl IA.out ?_)
  refine (V1.out _ A0.out).mono ?_
  rintro e u1 ⟨rfl, hb⟩
  have B0 : Hid (Below w.heap.size w u1) := Lib.hid (A0.out.trans (hb.mono A0.out.size))
  have B1 := Lib.hid (A1.out.below hb)
  clear hb A0 A1 V1
  go_upto_region 2 with (refine Row.wpList_store_new rfl 93 _ _ rfl u1 #[I 0, I 0, I 0, I 0] #[I g1, I k1, I i1, I p1] rfl rfl rfl infoS rfl (by simp [Value.oneCell']) ?_)
  have hb2 : Below u1.heap.size u1 (u1.alloc (.cells #[I g1, I k1, I i1, I p1] 93)) := (Below.refl _ _).alloc (Nat.le_refl _) _
  have hg1 := heap_alloc_new u1 (.cells #[I g1, I k1, I i1, I p1] 93)
  generalize u1.alloc (.cells #[I g1, I k1, I i1, I p1] 93) = u2 at hb2 hg1 ⊢
  generalize u1.heap.size = b1 at hg1 ⊢
  have A0 : Hid (Below w.heap.size w u2) := Lib.hid (B0.out.trans (hb2.mono B0.out.size))
  have A1 := Lib.hid (B1.out.below hb2)
  have G1 := Lib.hid hg1
  clear hb2 hg1 B0 B1
  go_wp2_with (refine Row.wpList_load_g 45 _ rfl (by first | rfl | go_simp) ⟨w.heap.size, 0, none⟩ rfl c _ A1.out Try.underlying45 rfl IA.out ?_)
  refine (V2.out _ A0.out).mono ?_
  rintro e u3 ⟨rfl, hb⟩
  have B0 : Hid (Below w.heap.size w u3) := Lib.hid (A0.out.trans (hb.mono A0.out.size))
  have G2 := Lib.hid ((hb.block _ (Array.getElem?_eq_some_iff.1 G1.out).1).trans G1.out)
  clear hb A0 A1 V2 G1
  go_upto_region 3 with (refine Row.wpList_store_new rfl 93 _ _ rfl u3 #[I 0, I 0, I 0, I 0] #[I g2, I k2, I i2, I p2] rfl rfl rfl infoS rfl (by simp [Value.oneCell']) ?_)
  have hb2 : Below u3.heap.size u3 (u3.alloc (.cells #[I g2, I k2, I i2, I p2] 93)) := (Below.refl _ _).alloc (Nat.le_refl _) _
  have hg2 := heap_alloc_new u3 (.cells #[I g2, I k2, I i2, I p2] 93)
  have hg1 := (hb2.block _ (Array.getElem?_eq_some_iff.1 G2.out).1).trans G2.out
  generalize u3.alloc (.cells #[I g2, I k2, I i2, I p2] 93) = u4 at hb2 hg1 hg2 ⊢
  generalize u3.heap.size = b2 at hg2 ⊢
  have HF : Hid (Below w.heap.size w u4) := Lib.hid (B0.out.trans (hb2.mono B0.out.size))
  obtain ⟨q0, q1⟩ := lies4 hg1
  obtain ⟨r0, r1⟩ := lies4 hg2
  clear hb2 hg1 hg2 B0 G2 IA
  cases ok1
  · go_wp2
    go_ret
    exact ⟨ret_bool (by rw [← HR.out]; simp), HF.out⟩
  cases ok2
  · go_wp2
    go_ret
    exact ⟨ret_bool (by rw [← HR.out]; simp), HF.out⟩
  by_cases hg : g1 = g2
  · have e1 : (g1 == g2) = true := by simpa using hg
    have E1 := Lib.hid e1
    clear hg
    go_wp2
    go_ret
    exact ⟨ret_bool (by rw [← HR.out, E1.out]; simp), HF.out⟩
  · have e1 : (g1 == g2) = false := by simpa using hg
    have E1 := Lib.hid e1
    clear hg
    go_wp2
    go_ret
    exact ⟨ret_bool (by rw [← HR.out, E1.out]; simp), HF.out⟩
theorem beside_any (T : Tab) (h : Hd) (p q : Int) (w : World) (ht : IsTab w h T) (sm : Few T) :
    Calls Try.prog 32 #[.agg (T.cells h).toArray, .int .i64 p, .int .i64 q] w fun e w' => e = .returned (.bool (beside T p q)) ∧ Below w.heap.size w w' := by
  have hsz := (cells_ok ht).size
  rw [List.size_toArray] at hsz
  have hone := (cells_ok ht).one
  have V : ∀ r W, Below w.heap.size w W → Calls Try.prog 58 #[.agg (T.cells h).toArray, .int .i64 r] W fun e w' => e = .returned (.tuple #[.agg (oCells (where_ T r)).toArray, .bool (where_ T r).isSome]) ∧ Below W.heap.size W w' := fun r W hb => where_any T h r W (ht.below hb) sm
  have V1 := V p
  have V2 := V q
  have hB : beside T p q = match where_ T p, where_ T q with
    | some a, some b => a.g == b.g && a.k != b.k
    | _, _ => false := rfl
  rw [hB]
  generalize where_ T p = o1 at V1 ⊢
  generalize where_ T q = o2 at V2 ⊢
  have e0 : ∀ a b : Nat, ((a : Int) == (b : Int)) = (a == b) := fun a b => by
    by_cases h : a = b
    · subst h; simp
    · rw [beq_eq_false_iff_ne.2 h, beq_eq_false_iff_ne.2 (by omega)]
  have e1 : ∀ a b : Nat, ((a : Int) != (b : Int)) = (a != b) := fun a b => by unfold bne; rw [e0]
  cases o1 with
  | none =>
    cases o2 with
    | none => exact beside_raw _ p q 0 0 0 0 0 0 0 0 false false w hsz hone (Lib.hid V1) (Lib.hid V2)
    | some b => exact beside_raw _ p q 0 0 0 0 b.g b.k b.i b.p false true w hsz hone (Lib.hid V1) (Lib.hid V2)
  | some a =>
    cases o2 with
    | none => exact beside_raw _ p q a.g a.k a.i a.p 0 0 0 0 true false w hsz hone (Lib.hid V1) (Lib.hid V2)
    | some b =>
      have := beside_raw _ p q a.g a.k a.i a.p b.g b.k b.i b.p true true w hsz hone (Lib.hid V1) (Lib.hid V2)
      rw [e0, e1] at this
      simpa using this
end Where
namespace Ru
open Go Go.ChangeShapes Go.WideShapes Go.ChangeAt Go.RowKit
open Tab Flat TabArg QL
open May (infoP)
open Ped (ft cu idl Ft infoFt)
open Gap (lm lf gr Tn infoTn)
theorem green_any (p : Ph) (r : Ru) (c : Cu) (w : World) : Calls Try.prog 24 #[.agg p.cells.toArray, .agg r.cells.toArray, .agg c.cells.toArray] w fun e w' => e = .returned (.tuple #[.agg (Ru.cells (sty p c (lon p r c))).toArray, .bool (duB p c (lon p r c))]) ∧ Below w.heap.size w w' := by
  obtain ⟨n1, hn1⟩ : ∃ x, Cnt.more r.tm = x := ⟨_, rfl⟩
  obtain ⟨⟨a, b⟩, hf⟩ : ∃ x, fooA p r c = x := ⟨_, rfl⟩
  obtain ⟨l1, hl1⟩ : ∃ x, lf p.gap r.lf c.he = x := ⟨_, rfl⟩
  obtain ⟨n2, hn2⟩ : ∃ x, Cnt.more r.pr = x := ⟨_, rfl⟩
  obtain ⟨e1, he1⟩ : ∃ x, Cnt.more r.ex = x := ⟨_, rfl⟩
  obtain ⟨i1, hi1⟩ : ∃ x, idl r.fs = x := ⟨_, rfl⟩
  obtain ⟨i2, hi2⟩ : ∃ x, idl a = x := ⟨_, rfl⟩
  obtain ⟨lm1, hlm⟩ : ∃ x, lm p r.tl = x := ⟨_, rfl⟩
  obtain ⟨pr1, hpr⟩ : ∃ x, (if c.ps then n2 else r.pr) = x := ⟨_, rfl⟩
  obtain ⟨dn1, hdn⟩ : ∃ x, (r.dn && !(i1 && decide (a = 1))) = x := ⟨_, rfl⟩
  obtain ⟨mx1, hmx⟩ : ∃ x, (r.mx && !(i1 && decide (a = 1))) = x := ⟨_, rfl⟩
  obtain ⟨lng, hlng⟩ : ∃ x, decide (lm1 ≤ pr1) = x := ⟨_, rfl⟩
  obtain ⟨du, hdu⟩ : ∃ x, (c.ps && (!dn1 && (decide (p.min ≤ n1) && (i2 && (decide (l1 = 0) || (lng || c.ea)))))) = x := ⟨_, rfl⟩
  obtain ⟨ex1, hex⟩ : ∃ x, (if (du && c.ho) = true then e1 else r.ex) = x := ⟨_, rfl⟩
  obtain ⟨dn2, hdn2⟩ : ∃ x, (if (du && !c.ho) = true then true else dn1) = x := ⟨_, rfl⟩
  obtain ⟨mx2, hmx2⟩ : ∃ x, (if (du && !c.ho) = true then decide (0 < l1) && lng else mx1) = x := ⟨_, rfl⟩
  have EL : lon p r c = ⟨r.co, n1, a, b, l1, pr1, r.ex, dn1, mx1, r.tl, r.tu, r.td⟩ := by unfold lon beg; rw [hn1, hf, hl1, hn2, hi1, hdn, hmx, hpr]
  have EF : fuB p (lon p r c) = lng := by rw [EL]; unfold fuB; rw [hlm, hlng]
  have ED : duB p c (lon p r c) = du := by unfold duB; rw [EF, EL]; simp only []; rw [hi2, hdu]
  have ES : sty p c (lon p r c) = ⟨r.co, n1, a, b, l1, pr1, ex1, dn2, mx2, r.tl, r.tu, r.td⟩ := by
    unfold sty
    rw [ED, EF, EL, ← hex, ← hdn2, ← hmx2]
    generalize c.ho = ho
    cases du <;> cases ho <;> simp [he1]
  rw [ED, ES]
  clear ED ES EF EL
  have HN := Lib.hid hdn
  have HM := Lib.hid hmx
  have HP1 := Lib.hid hpr
  have HL := Lib.hid hlng
  have HDU := Lib.hid hdu
  have HEX := Lib.hid hex
  have HN2 := Lib.hid hdn2
  have HM2 := Lib.hid hmx2
  clear hdn hmx hpr hlng hdu hex hdn2 hmx2
  have O1 : Hid (∀ W, Calls Try.prog 25 #[.int .i64 r.tm] W fun e w' => e = .returned (.int .i64 n1) ∧ W = w') := Lib.hid (fun W => by rw [← hn1]; exact Cnt.rmore_any _ W)
  have O2 : Hid (∀ W, Calls Try.prog 25 #[.int .i64 r.pr] W fun e w' => e = .returned (.int .i64 n2) ∧ W = w') := Lib.hid (fun W => by rw [← hn2]; exact Cnt.rmore_any _ W)
  have O3 : Hid (∀ W, Calls Try.prog 25 #[.int .i64 r.ex] W fun e w' => e = .returned (.int .i64 e1) ∧ W = w') := Lib.hid (fun W => by rw [← he1]; exact Cnt.rmore_any _ W)
  have LE : Hid (∀ W, Calls Try.prog 51 #[.agg p.cells.toArray, .int .i64 r.lf, .bool c.he] W fun e w' => e = .returned (.int .i64 l1) ∧ Below W.heap.size W w') := Lib.hid (fun W => by rw [← hl1]; exact Gap.rleft_any p _ _ W)
  have ID : Hid (∀ W, Calls Try.prog 50 #[.agg #[I r.fs, I r.ft]] W fun e w' => e = .returned (.bool i1) ∧ Below W.heap.size W w') := Lib.hid (fun W => by rw [← hi1]; exact Ped.idle_any _ _ W)
  have ID2 : Hid (∀ W, Calls Try.prog 50 #[.agg #[I a, I b]] W fun e w' => e = .returned (.bool i2) ∧ Below W.heap.size W w') := Lib.hid (fun W => by rw [← hi2]; exact Ped.idle_any _ _ W)
  have LM : Hid (∀ W, Calls Try.prog 21 #[.agg p.cells.toArray, .agg #[I r.tl, I r.tu, I r.td]] W fun e w' => e = .returned (.int .i64 lm1) ∧ Below W.heap.size W w') := Lib.hid (fun W => by rw [← hlm]; exact Gap.rlim_any p _ _ _ W)
  have HF := Lib.hid hf
  clear hf hn1 hn2 he1 hl1 hi1 hi2 hlm
  have hn0 := Blk.Bks.nil w
  have hn1 := hn0.alloc p.cells.toArray 23
  have hn2 := hn1.alloc (Ru.cells r).toArray 29
  rw [show (w.alloc (.cells p.cells.toArray 23)).heap.size = w.heap.size + 1 by simp] at hn2
  have hn3 := hn2.alloc c.cells.toArray 31
  rw [show ((w.alloc (.cells p.cells.toArray 23)).alloc (.cells (Ru.cells r).toArray 29)).heap.size = w.heap.size + 1 + 1 by simp] at hn3
  have hn4 := hn3.alloc #[I 0, I 0, I 0, I 0, I 0, I 0, I 0, .bool false, .bool false, I 0, I 0, I 0] 29
  rw [show (((w.alloc (.cells p.cells.toArray 23)).alloc (.cells (Ru.cells r).toArray 29)).alloc (.cells c.cells.toArray 31)).heap.size = w.heap.size + 1 + 1 + 1 by simp] at hn4
  clear hn0
  clear hn1
  clear hn2
  clear hn3
  go_enter Try.func24, Try.ntmps24
  go_upto_region 1 with fail
  generalize World.alloc (World.alloc (World.alloc (World.alloc w _) _) _) _ = v at hn4 ⊢
  generalize hg3 : w.heap.size + 1 + 1 + 1 = gz at hn4 ⊢
  generalize hg2 : w.heap.size + 1 + 1 = gc at hn4 ⊢
  generalize hg1 : w.heap.size + 1 = gr at hn4 ⊢
  generalize hg0 : w.heap.size = gp at hn4 ⊢
  clear hg0 hg1 hg2 hg3
  have H0 := Lib.hid hn4
  clear hn4
  go_upto_region 2 with (first | (refine Row.wpList_load_g 29 _ rfl (by first | rfl | (go_simp; done) | fail) ⟨gr, 0, none⟩ rfl r.cells _ (seg H0.out 2 0 rfl _ rfl) Try.underlying29 rfl infoRu ?_) | (refine Row.wpList_store_new rfl 29 _ _ rfl _ _ (Ru.cells r).toArray rfl rfl rfl infoRu rfl (one_ru _) ?_))
  have hn := H0.out.alloc (Ru.cells r).toArray 29
  generalize World.alloc v _ = v1 at hn ⊢
  generalize v.heap.size = gn at hn ⊢
  have H1 := Lib.hid hn
  clear hn
  clear H0
  rename_i K hK
  have HK := Lib.hid hK
  clear hK
  have t_rtm : v1.cell? ⟨gr, 1, none⟩ = some (I r.tm) := H1.out.cell 3 1 rfl rfl
  have n_tm : v1.cell? ⟨gn, 1, none⟩ = some (I r.tm) := H1.out.cell 0 1 rfl rfl
  have f_tm : v1.frozen? ⟨gn, 1, none⟩ = false := H1.out.frozen 0 1 rfl
  go_wp2_with (go_at_call 25; with_reducible refine (O1.out _).mono ?_; rintro e w' ⟨rfl, rfl⟩)
  have hput := H1.out.set 0 1 rfl (I n1)
  rw [show Array.setIfInBounds _ 1 (I n1) = (Ru.cells ⟨r.co, n1, r.fs, r.ft, r.lf, r.pr, r.ex, r.dn, r.mx, r.tl, r.tu, r.td⟩).toArray from rfl] at hput
  simp only [List.set_cons_succ, List.set_cons_zero] at hput
  generalize World.setCell v1 _ _ = v2 at hput ⊢
  have H2 := Lib.hid hput
  clear hput
  clear H1 t_rtm n_tm f_tm O1
  refine HK.out _ _ ?_
  clear HK K
  apply wp_seq_k
  intro K hK
  have HK := Lib.hid hK
  clear hK
  go_cut [] from 11 (fun wx => Blk.Bks w [(gn, (Ru.cells ⟨r.co, n1, a, b, r.lf, r.pr, r.ex, r.dn, r.mx, r.tl, r.tu, r.td⟩).toArray, 29), (gz, #[I 0, I 0, I 0, I 0, I 0, I 0, I 0, .bool false, .bool false, I 0, I 0, I 0], 29), (gc, c.cells.toArray, 31), (gr, r.cells.toArray, 29), (gp, p.cells.toArray, 23)] wx)
  case first =>
    have t_ckt : v2.cell? ⟨gc, 7, none⟩ = some (.bool c.kt) := H2.out.cell 2 7 rfl rfl
    have t_rfs : v2.cell? ⟨gr, 2, none⟩ = some (I r.fs) := H2.out.cell 3 2 rfl rfl
    have t_cpu : v2.cell? ⟨gc, 3, none⟩ = some (.bool c.pu) := H2.out.cell 2 3 rfl rfl
    have t_cps : v2.cell? ⟨gc, 4, none⟩ = some (.bool c.ps) := H2.out.cell 2 4 rfl rfl
    have hf := HF.out
    unfold fooA at hf
    obtain ⟨pu, hpu⟩ : ∃ x, c.pu = x := ⟨_, rfl⟩
    obtain ⟨ps, hps⟩ : ∃ x, c.ps = x := ⟨_, rfl⟩
    obtain ⟨kt, hkt⟩ : ∃ x, c.kt = x := ⟨_, rfl⟩
    obtain ⟨fs, hfs⟩ : ∃ x, r.fs = x := ⟨_, rfl⟩
    rw [hpu, hps, hkt, hfs] at hf
    rw [hpu] at t_cpu
    rw [hps] at t_cps
    rw [hkt] at t_ckt
    rw [hfs] at t_rfs
    cases kt
    · rw [if_neg (by simp)] at hf
      cases pu
      · replace hf : ft p.walk p.blinks fs r.ft false = ⟨a, b⟩ := hf
        have CU : Hid (∀ W, Calls Try.prog 26 #[.agg p.cells.toArray, .agg #[I fs, I r.ft], .bool false] W fun e w' => e = .returned (.agg #[I a, I b]) ∧ Below W.heap.size W w') := Lib.hid (fun W => Ped.foot_is hf W)
        clear hf
        go_wp2_with (first | (refine Row.wpList_load_g 23 _ rfl (by first | rfl | (go_simp; done) | fail) ⟨gp, 0, none⟩ rfl p.cells _ (seg H2.out 4 0 rfl _ rfl) Try.underlying23 rfl infoP ?_) | (refine Row.wpList_load_g 25 _ rfl (by first | rfl | (go_simp; done) | fail) ⟨gr, 2, none⟩ rfl [I fs, I r.ft] _ (seg H2.out 3 2 rfl _ (by first | rfl | (rw [← hfs]; rfl))) Try.underlying25 rfl infoFt ?_))
        refine (CU.out _).mono ?_
        rintro e v3 ⟨rfl, bc⟩
        have H3 := Lib.hid (H2.out.step bc)
        clear bc
        go_wp2_with (refine store_mid rfl 25 _ _ rfl gn 2 #[I a, I b] rfl rfl 29 _ (Ru.cells ⟨r.co, n1, a, b, r.lf, r.pr, r.ex, r.dn, r.mx, r.tl, r.tu, r.td⟩).toArray H3.out 0 rfl infoFt (by first | decide | (simp [Ru.cells]; done) | fail) (by simp [Value.oneCell']) rfl ?_)
        have hput := H3.out.put 0 rfl (Ru.cells ⟨r.co, n1, a, b, r.lf, r.pr, r.ex, r.dn, r.mx, r.tl, r.tu, r.td⟩).toArray
        simp only [List.set_cons_succ, List.set_cons_zero] at hput
        generalize World.setRow _ gn _ = v4 at hput ⊢
        have H4 := Lib.hid hput
        clear hput
        go_meet
        case rel => exact H4.out
      · cases ps
        · replace hf : ft p.walk p.blinks fs r.ft true = ⟨a, b⟩ := hf
          have CU : Hid (∀ W, Calls Try.prog 26 #[.agg p.cells.toArray, .agg #[I fs, I r.ft], .bool true] W fun e w' => e = .returned (.agg #[I a, I b]) ∧ Below W.heap.size W w') := Lib.hid (fun W => Ped.foot_is hf W)
          clear hf
          go_wp2_with (first | (refine Row.wpList_load_g 23 _ rfl (by first | rfl | (go_simp; done) | fail) ⟨gp, 0, none⟩ rfl p.cells _ (seg H2.out 4 0 rfl _ rfl) Try.underlying23 rfl infoP ?_) | (refine Row.wpList_load_g 25 _ rfl (by first | rfl | (go_simp; done) | fail) ⟨gr, 2, none⟩ rfl [I fs, I r.ft] _ (seg H2.out 3 2 rfl _ (by first | rfl | (rw [← hfs]; rfl))) Try.underlying25 rfl infoFt ?_))
          refine (CU.out _).mono ?_
          rintro e v3 ⟨rfl, bc⟩
          have H3 := Lib.hid (H2.out.step bc)
          clear bc
          go_wp2_with (refine store_mid rfl 25 _ _ rfl gn 2 #[I a, I b] rfl rfl 29 _ (Ru.cells ⟨r.co, n1, a, b, r.lf, r.pr, r.ex, r.dn, r.mx, r.tl, r.tu, r.td⟩).toArray H3.out 0 rfl infoFt (by first | decide | (simp [Ru.cells]; done) | fail) (by simp [Value.oneCell']) rfl ?_)
          have hput := H3.out.put 0 rfl (Ru.cells ⟨r.co, n1, a, b, r.lf, r.pr, r.ex, r.dn, r.mx, r.tl, r.tu, r.td⟩).toArray
          simp only [List.set_cons_succ, List.set_cons_zero] at hput
          generalize World.setRow _ gn _ = v4 at hput ⊢
          have H4 := Lib.hid hput
          clear hput
          go_meet
          case rel => exact H4.out
        · replace hf : ft p.walk p.blinks fs r.ft false = ⟨a, b⟩ := hf
          have CU : Hid (∀ W, Calls Try.prog 26 #[.agg p.cells.toArray, .agg #[I fs, I r.ft], .bool false] W fun e w' => e = .returned (.agg #[I a, I b]) ∧ Below W.heap.size W w') := Lib.hid (fun W => Ped.foot_is hf W)
          clear hf
          go_wp2_with (first | (refine Row.wpList_load_g 23 _ rfl (by first | rfl | (go_simp; done) | fail) ⟨gp, 0, none⟩ rfl p.cells _ (seg H2.out 4 0 rfl _ rfl) Try.underlying23 rfl infoP ?_) | (refine Row.wpList_load_g 25 _ rfl (by first | rfl | (go_simp; done) | fail) ⟨gr, 2, none⟩ rfl [I fs, I r.ft] _ (seg H2.out 3 2 rfl _ (by first | rfl | (rw [← hfs]; rfl))) Try.underlying25 rfl infoFt ?_))
          refine (CU.out _).mono ?_
          rintro e v3 ⟨rfl, bc⟩
          have H3 := Lib.hid (H2.out.step bc)
          clear bc
          go_wp2_with (refine store_mid rfl 25 _ _ rfl gn 2 #[I a, I b] rfl rfl 29 _ (Ru.cells ⟨r.co, n1, a, b, r.lf, r.pr, r.ex, r.dn, r.mx, r.tl, r.tu, r.td⟩).toArray H3.out 0 rfl infoFt (by first | decide | (simp [Ru.cells]; done) | fail) (by simp [Value.oneCell']) rfl ?_)
          have hput := H3.out.put 0 rfl (Ru.cells ⟨r.co, n1, a, b, r.lf, r.pr, r.ex, r.dn, r.mx, r.tl, r.tu, r.td⟩).toArray
          simp only [List.set_cons_succ, List.set_cons_zero] at hput
          generalize World.setRow _ gn _ = v4 at hput ⊢
          have H4 := Lib.hid hput
          clear hput
          go_meet
          case rel => exact H4.out
    by_cases h1 : fs = 1
    · subst h1
      rw [if_pos ⟨rfl, rfl⟩] at hf
      have CU : Hid (∀ W, Calls Try.prog 49 #[.agg #[I 1, I r.ft]] W fun e w' => e = .returned (.agg #[I a, I b]) ∧ Below W.heap.size W w') := Lib.hid (fun W => Ped.rcut_is hf W)
      clear hf
      go_wp2_with (first | (refine Row.wpList_load_g 25 _ rfl (by first | rfl | (go_simp; done) | fail) ⟨gr, 2, none⟩ rfl [I 1, I r.ft] _ (seg H2.out 3 2 rfl _ (by first | rfl | (rw [← hfs]; rfl))) Try.underlying25 rfl infoFt ?_))
      refine (CU.out _).mono ?_
      rintro e v3 ⟨rfl, bc⟩
      have H3 := Lib.hid (H2.out.step bc)
      clear bc
      go_wp2_with (refine store_mid rfl 25 _ _ rfl gn 2 #[I a, I b] rfl rfl 29 _ (Ru.cells ⟨r.co, n1, a, b, r.lf, r.pr, r.ex, r.dn, r.mx, r.tl, r.tu, r.td⟩).toArray H3.out 0 rfl infoFt (by first | decide | (simp [Ru.cells]; done) | fail) (by simp [Value.oneCell']) rfl ?_)
      have hput := H3.out.put 0 rfl (Ru.cells ⟨r.co, n1, a, b, r.lf, r.pr, r.ex, r.dn, r.mx, r.tl, r.tu, r.td⟩).toArray
      simp only [List.set_cons_succ, List.set_cons_zero] at hput
      generalize World.setRow _ gn _ = v4 at hput ⊢
      have H4 := Lib.hid hput
      clear hput
      go_meet
      case rel => exact H4.out
    have z1 : (fs == 1) = false := by rw [beq_eq_false_iff_ne]; exact h1
    rw [if_neg (fun h => h1 h.2)] at hf
    cases pu
    · replace hf : ft p.walk p.blinks fs r.ft false = ⟨a, b⟩ := hf
      have CU : Hid (∀ W, Calls Try.prog 26 #[.agg p.cells.toArray, .agg #[I fs, I r.ft], .bool false] W fun e w' => e = .returned (.agg #[I a, I b]) ∧ Below W.heap.size W w') := Lib.hid (fun W => Ped.foot_is hf W)
      clear hf
      go_wp2_with (first | (refine Row.wpList_load_g 23 _ rfl (by first | rfl | (go_simp; done) | fail) ⟨gp, 0, none⟩ rfl p.cells _ (seg H2.out 4 0 rfl _ rfl) Try.underlying23 rfl infoP ?_) | (refine Row.wpList_load_g 25 _ rfl (by first | rfl | (go_simp; done) | fail) ⟨gr, 2, none⟩ rfl [I fs, I r.ft] _ (seg H2.out 3 2 rfl _ (by first | rfl | (rw [← hfs]; rfl))) Try.underlying25 rfl infoFt ?_))
      refine (CU.out _).mono ?_
      rintro e v3 ⟨rfl, bc⟩
      have H3 := Lib.hid (H2.out.step bc)
      clear bc
      go_wp2_with (refine store_mid rfl 25 _ _ rfl gn 2 #[I a, I b] rfl rfl 29 _ (Ru.cells ⟨r.co, n1, a, b, r.lf, r.pr, r.ex, r.dn, r.mx, r.tl, r.tu, r.td⟩).toArray H3.out 0 rfl infoFt (by first | decide | (simp [Ru.cells]; done) | fail) (by simp [Value.oneCell']) rfl ?_)
      have hput := H3.out.put 0 rfl (Ru.cells ⟨r.co, n1, a, b, r.lf, r.pr, r.ex, r.dn, r.mx, r.tl, r.tu, r.td⟩).toArray
      simp only [List.set_cons_succ, List.set_cons_zero] at hput
      generalize World.setRow _ gn _ = v4 at hput ⊢
      have H4 := Lib.hid hput
      clear hput
      go_meet
      case rel => exact H4.out
    · cases ps
      · replace hf : ft p.walk p.blinks fs r.ft true = ⟨a, b⟩ := hf
        have CU : Hid (∀ W, Calls Try.prog 26 #[.agg p.cells.toArray, .agg #[I fs, I r.ft], .bool true] W fun e w' => e = .returned (.agg #[I a, I b]) ∧ Below W.heap.size W w') := Lib.hid (fun W => Ped.foot_is hf W)
        clear hf
        go_wp2_with (first | (refine Row.wpList_load_g 23 _ rfl (by first | rfl | (go_simp; done) | fail) ⟨gp, 0, none⟩ rfl p.cells _ (seg H2.out 4 0 rfl _ rfl) Try.underlying23 rfl infoP ?_) | (refine Row.wpList_load_g 25 _ rfl (by first | rfl | (go_simp; done) | fail) ⟨gr, 2, none⟩ rfl [I fs, I r.ft] _ (seg H2.out 3 2 rfl _ (by first | rfl | (rw [← hfs]; rfl))) Try.underlying25 rfl infoFt ?_))
        refine (CU.out _).mono ?_
        rintro e v3 ⟨rfl, bc⟩
        have H3 := Lib.hid (H2.out.step bc)
        clear bc
        go_wp2_with (refine store_mid rfl 25 _ _ rfl gn 2 #[I a, I b] rfl rfl 29 _ (Ru.cells ⟨r.co, n1, a, b, r.lf, r.pr, r.ex, r.dn, r.mx, r.tl, r.tu, r.td⟩).toArray H3.out 0 rfl infoFt (by first | decide | (simp [Ru.cells]; done) | fail) (by simp [Value.oneCell']) rfl ?_)
        have hput := H3.out.put 0 rfl (Ru.cells ⟨r.co, n1, a, b, r.lf, r.pr, r.ex, r.dn, r.mx, r.tl, r.tu, r.td⟩).toArray
        simp only [List.set_cons_succ, List.set_cons_zero] at hput
        generalize World.setRow _ gn _ = v4 at hput ⊢
        have H4 := Lib.hid hput
        clear hput
        go_meet
        case rel => exact H4.out
      · replace hf : ft p.walk p.blinks fs r.ft false = ⟨a, b⟩ := hf
        have CU : Hid (∀ W, Calls Try.prog 26 #[.agg p.cells.toArray, .agg #[I fs, I r.ft], .bool false] W fun e w' => e = .returned (.agg #[I a, I b]) ∧ Below W.heap.size W w') := Lib.hid (fun W => Ped.foot_is hf W)
        clear hf
        go_wp2_with (first | (refine Row.wpList_load_g 23 _ rfl (by first | rfl | (go_simp; done) | fail) ⟨gp, 0, none⟩ rfl p.cells _ (seg H2.out 4 0 rfl _ rfl) Try.underlying23 rfl infoP ?_) | (refine Row.wpList_load_g 25 _ rfl (by first | rfl | (go_simp; done) | fail) ⟨gr, 2, none⟩ rfl [I fs, I r.ft] _ (seg H2.out 3 2 rfl _ (by first | rfl | (rw [← hfs]; rfl))) Try.underlying25 rfl infoFt ?_))
        refine (CU.out _).mono ?_
        rintro e v3 ⟨rfl, bc⟩
        have H3 := Lib.hid (H2.out.step bc)
        clear bc
        go_wp2_with (refine store_mid rfl 25 _ _ rfl gn 2 #[I a, I b] rfl rfl 29 _ (Ru.cells ⟨r.co, n1, a, b, r.lf, r.pr, r.ex, r.dn, r.mx, r.tl, r.tu, r.td⟩).toArray H3.out 0 rfl infoFt (by first | decide | (simp [Ru.cells]; done) | fail) (by simp [Value.oneCell']) rfl ?_)
        have hput := H3.out.put 0 rfl (Ru.cells ⟨r.co, n1, a, b, r.lf, r.pr, r.ex, r.dn, r.mx, r.tl, r.tu, r.td⟩).toArray
        simp only [List.set_cons_succ, List.set_cons_zero] at hput
        generalize World.setRow _ gn _ = v4 at hput ⊢
        have H4 := Lib.hid hput
        clear hput
        go_meet
        case rel => exact H4.out
  case rest =>
  have H5 := Lib.hid hcut
  clear hcut
  rename World => v5
  clear H2 HF
  refine HK.out _ _ ?_
  clear HK K
  apply wp_seq_k
  intro K hK
  have HK := Lib.hid hK
  clear hK
  go_cut [] from 11 (fun wx => Blk.Bks w [(gn, (Ru.cells ⟨r.co, n1, a, b, r.lf, r.pr, r.ex, dn1, mx1, r.tl, r.tu, r.td⟩).toArray, 29), (gz, #[I 0, I 0, I 0, I 0, I 0, I 0, I 0, .bool false, .bool false, I 0, I 0, I 0], 29), (gc, c.cells.toArray, 31), (gr, r.cells.toArray, 29), (gp, p.cells.toArray, 23)] wx)
  case first =>
    go_wp2_with (refine Row.wpList_load_g 25 _ rfl (by first | rfl | (go_simp; done) | fail) ⟨gr, 2, none⟩ rfl [I r.fs, I r.ft] _ (seg H5.out 3 2 rfl _ rfl) Try.underlying25 rfl infoFt ?_)
    refine (ID.out _).mono ?_
    rintro e v6 ⟨rfl, bc⟩
    have H6 := Lib.hid (H5.out.step bc)
    clear bc
    cases i1
    · have e1 : dn1 = r.dn := by rw [← HN.out]; simp
      have e2 : mx1 = r.mx := by rw [← HM.out]; simp
      go_wp2_with fail
      go_meet
      case rel => rw [e1, e2]; exact H6.out
    have n_fs : v6.cell? ⟨gn, 2, none⟩ = some (I a) := H6.out.cell 0 2 rfl rfl
    by_cases h1 : a = 1
    rotate_left
    · have z1 : (a == 1) = false := by rw [beq_eq_false_iff_ne]; exact h1
      have e1 : dn1 = r.dn := by rw [← HN.out]; simp [h1]
      have e2 : mx1 = r.mx := by rw [← HM.out]; simp [h1]
      go_wp2_with fail
      go_meet
      case rel => rw [e1, e2]; exact H6.out
    have z1 : (a == 1) = true := by rw [beq_iff_eq]; exact h1
    have e1 : dn1 = false := by rw [← HN.out]; simp [h1]
    have e2 : mx1 = false := by rw [← HM.out]; simp [h1]
    clear h1
    have n_dn : v6.cell? ⟨gn, 7, none⟩ = some (.bool r.dn) := H6.out.cell 0 7 rfl rfl
    have f_dn : v6.frozen? ⟨gn, 7, none⟩ = false := H6.out.frozen 0 7 rfl
    have n_mx : v6.cell? ⟨gn, 8, none⟩ = some (.bool r.mx) := H6.out.cell 0 8 rfl rfl
    have f_mx : v6.frozen? ⟨gn, 8, none⟩ = false := H6.out.frozen 0 8 rfl
    go_wp2_with fail
    have hput := (H6.out.set 0 7 rfl (.bool false)).set 0 8 rfl (.bool false)
    rw [show Array.setIfInBounds (Array.setIfInBounds _ 7 (.bool false)) 8 (.bool false) = (Ru.cells ⟨r.co, n1, a, b, r.lf, r.pr, r.ex, false, false, r.tl, r.tu, r.td⟩).toArray from rfl] at hput
    simp only [List.set_cons_succ, List.set_cons_zero] at hput
    generalize World.setCell (World.setCell v6 _ _) _ _ = v9 at hput ⊢
    go_meet
    case rel => rw [e1, e2]; exact hput
  case rest =>
  have H7 := Lib.hid hcut
  clear hcut
  rename World => v7
  clear H5 ID
  refine HK.out _ _ ?_
  clear HK K
  go_upto_region 9 with fail
  rename_i K hK
  have HK := Lib.hid hK
  clear hK
  have t_rlf : v7.cell? ⟨gr, 4, none⟩ = some (I r.lf) := H7.out.cell 3 4 rfl rfl
  have t_che : v7.cell? ⟨gc, 2, none⟩ = some (.bool c.he) := H7.out.cell 2 2 rfl rfl
  go_wp2_with (refine Row.wpList_load_g 23 _ rfl (by first | rfl | (go_simp; done) | fail) ⟨gp, 0, none⟩ rfl p.cells _ (seg H7.out 4 0 rfl _ rfl) Try.underlying23 rfl infoP ?_)
  refine (LE.out _).mono ?_
  rintro e v8 ⟨rfl, bc⟩
  have H8 := Lib.hid (H7.out.step bc)
  clear bc
  clear H7 LE t_rlf t_che
  have n_lf : v8.cell? ⟨gn, 4, none⟩ = some (I r.lf) := H8.out.cell 0 4 rfl rfl
  have f_lf : v8.frozen? ⟨gn, 4, none⟩ = false := H8.out.frozen 0 4 rfl
  go_wp2_with fail
  have hput := H8.out.set 0 4 rfl (I l1)
  rw [show Array.setIfInBounds _ 4 (I l1) = (Ru.cells ⟨r.co, n1, a, b, l1, r.pr, r.ex, dn1, mx1, r.tl, r.tu, r.td⟩).toArray from rfl] at hput
  simp only [List.set_cons_succ, List.set_cons_zero] at hput
  generalize World.setCell v8 _ _ = v9 at hput ⊢
  have H9 := Lib.hid hput
  clear hput
  clear H8 n_lf f_lf
  refine HK.out _ _ ?_
  clear HK K
  apply wp_seq_k
  intro K hK
  have HK := Lib.hid hK
  clear hK
  go_cut [] from 11 (fun wx => Blk.Bks w [(gn, (Ru.cells ⟨r.co, n1, a, b, l1, pr1, r.ex, dn1, mx1, r.tl, r.tu, r.td⟩).toArray, 29), (gz, #[I 0, I 0, I 0, I 0, I 0, I 0, I 0, .bool false, .bool false, I 0, I 0, I 0], 29), (gc, c.cells.toArray, 31), (gr, r.cells.toArray, 29), (gp, p.cells.toArray, 23)] wx)
  case first =>
    have t_cps : v9.cell? ⟨gc, 4, none⟩ = some (.bool c.ps) := H9.out.cell 2 4 rfl rfl
    have t_rpr : v9.cell? ⟨gr, 5, none⟩ = some (I r.pr) := H9.out.cell 3 5 rfl rfl
    obtain ⟨ps, hps⟩ : ∃ x, c.ps = x := ⟨_, rfl⟩
    rw [hps] at t_cps
    cases ps
    · have e1 : pr1 = r.pr := by rw [← HP1.out, hps]; rfl
      clear hps
      go_wp2_with fail
      go_meet
      case rel => rw [e1]; exact H9.out
    have e1 : pr1 = n2 := by rw [← HP1.out, hps]; rfl
    clear hps
    have n_pr : v9.cell? ⟨gn, 5, none⟩ = some (I r.pr) := H9.out.cell 0 5 rfl rfl
    have f_pr : v9.frozen? ⟨gn, 5, none⟩ = false := H9.out.frozen 0 5 rfl
    go_wp2_with (go_at_call 25; with_reducible refine (O2.out _).mono ?_; rintro e w' ⟨rfl, rfl⟩)
    have hput := H9.out.set 0 5 rfl (I n2)
    rw [show Array.setIfInBounds _ 5 (I n2) = (Ru.cells ⟨r.co, n1, a, b, l1, n2, r.ex, dn1, mx1, r.tl, r.tu, r.td⟩).toArray from rfl] at hput
    simp only [List.set_cons_succ, List.set_cons_zero] at hput
    generalize World.setCell v9 _ _ = va at hput ⊢
    have HA := Lib.hid hput
    clear hput
    go_meet
    case rel => rw [e1]; exact HA.out
  case rest =>
  have HB := Lib.hid hcut
  clear hcut
  rename World => vb
  clear H9 O2
  refine HK.out _ _ ?_
  clear HK K
  go_upto_region 12 with fail
  (try dsimp only [Act.put])
  have q1 : ∀ q : QB.By vb.heap.size vb, q.world.cell? ⟨gn, 5, none⟩ = some (I pr1) := fun q => (HB.out.by q).cell 0 5 rfl rfl
  refine QB.region_below vb.heap.size (by kernel_rfl) (by kernel_rfl) ?_
  repeat first
    | (refine wpQuiet_load rfl 23 _ rfl ⟨gp, 0, none⟩ rfl p.cells _ (fun w' ⟨pw, e⟩ => by rw [e]; exact seg (HB.out.by pw) 4 0 rfl _ rfl) Try.underlying23 rfl infoP ?_
       dsimp only [Act.put]
       simp only [List.setIfInBounds_toArray, List.set_cons_zero, List.set_cons_succ])
    | (refine wpQuiet_load rfl 27 _ rfl ⟨gr, 9, none⟩ rfl [I r.tl, I r.tu, I r.td] _ (fun w' ⟨pw, e⟩ => by rw [e]; exact seg (HB.out.by pw) 3 9 rfl _ rfl) Try.underlying27 rfl infoTn ?_
       dsimp only [Act.put]
       simp only [List.setIfInBounds_toArray, List.set_cons_zero, List.set_cons_succ])
    | ((quiet_step (first | (go_at_call 21; with_reducible exact QB.call_of (Nat.le_refl _) (fun b => LM.out _)))))
  refine wpQuiet_nil ?_
  intro _ hw'
  obtain ⟨pq, rfl⟩ := hw'
  have HP := Lib.hid (HB.out.by pq)
  clear q1 HB LM
  generalize pq.world = vc at HP ⊢
  have eL : decide (lm1 ≤ pr1) = lng := HL.out
  go_upto_region 13 with fail
  (try simp only [ge_iff_le])
  rw [eL]
  clear eL
  rename_i K hK
  have HK := Lib.hid hK
  clear hK
  go_cut [10] from 11 (fun t10 wx => t10 = .bool du ∧ Blk.Bks w [(gn, (Ru.cells ⟨r.co, n1, a, b, l1, pr1, r.ex, dn1, mx1, r.tl, r.tu, r.td⟩).toArray, 29), (gz, #[I 0, I 0, I 0, I 0, I 0, I 0, I 0, .bool false, .bool false, I 0, I 0, I 0], 29), (gc, c.cells.toArray, 31), (gr, r.cells.toArray, 29), (gp, p.cells.toArray, 23)] wx)
  case first =>
    have t_cps : vc.cell? ⟨gc, 4, none⟩ = some (.bool c.ps) := HP.out.cell 2 4 rfl rfl
    have t_pmin : vc.cell? ⟨gp, 1, none⟩ = some (I p.min) := HP.out.cell 4 1 rfl rfl
    have t_cea : vc.cell? ⟨gc, 6, none⟩ = some (.bool c.ea) := HP.out.cell 2 6 rfl rfl
    have n_tm : vc.cell? ⟨gn, 1, none⟩ = some (I n1) := HP.out.cell 0 1 rfl rfl
    have n_dn : vc.cell? ⟨gn, 7, none⟩ = some (.bool dn1) := HP.out.cell 0 7 rfl rfl
    have n_lf : vc.cell? ⟨gn, 4, none⟩ = some (I l1) := HP.out.cell 0 4 rfl rfl
    have hd := HDU.out
    obtain ⟨ps, hps⟩ : ∃ x, c.ps = x := ⟨_, rfl⟩
    obtain ⟨ea, hea⟩ : ∃ x, c.ea = x := ⟨_, rfl⟩
    obtain ⟨mi, hmi⟩ : ∃ x, p.min = x := ⟨_, rfl⟩
    rw [hps, hea, hmi] at hd
    rw [hps] at t_cps
    rw [hmi] at t_pmin
    rw [hea] at t_cea
    cases ps
    · have e1 : du = false := by rw [← hd]; clear hd; simp [*]
      clear hd
      go_wp2_with fail
      go_meet
      case rel => exact ⟨by rw [e1], HP.out⟩
    cases dn1
    rotate_left
    · have e1 : du = false := by rw [← hd]; clear hd; simp [*]
      clear hd
      go_wp2_with fail
      go_meet
      case rel => exact ⟨by rw [e1], HP.out⟩
    by_cases h1 : mi ≤ n1
    rotate_left
    · have e1 : du = false := by rw [← hd]; clear hd; simp [*]
      clear hd
      go_wp2_with fail
      go_meet
      case rel => exact ⟨by rw [e1], HP.out⟩
    go_wp2_with (refine Row.wpList_load_g 25 _ rfl (by first | rfl | (go_simp; done) | fail) ⟨gn, 2, none⟩ rfl [I a, I b] _ (seg HP.out 0 2 rfl _ rfl) Try.underlying25 rfl infoFt ?_)
    refine (ID2.out _).mono ?_
    rintro e vd ⟨rfl, bc⟩
    have HQ := Lib.hid (HP.out.step bc)
    clear bc
    clear t_cps t_pmin t_cea n_tm n_dn n_lf
    have t_cea : vd.cell? ⟨gc, 6, none⟩ = some (.bool c.ea) := HQ.out.cell 2 6 rfl rfl
    have n_lf : vd.cell? ⟨gn, 4, none⟩ = some (I l1) := HQ.out.cell 0 4 rfl rfl
    rw [hea] at t_cea
    cases i2
    · have e1 : du = false := by rw [← hd]; clear hd; simp [*]
      clear hd
      go_wp2_with fail
      go_meet
      case rel => exact ⟨by rw [e1], HQ.out⟩
    by_cases h2 : l1 = 0
    · have z2 : (l1 == 0) = true := by rw [beq_iff_eq]; exact h2
      have e1 : du = true := by rw [← hd]; clear hd; simp [*]
      clear hd
      go_wp2_with fail
      go_meet
      case rel => exact ⟨by rw [e1], HQ.out⟩
    have z2 : (l1 == 0) = false := by rw [beq_eq_false_iff_ne]; exact h2
    cases lng
    · cases ea
      · have e1 : du = false := by rw [← hd]; clear hd; simp [*]
        clear hd
        go_wp2_with fail
        go_meet
        case rel => exact ⟨by rw [e1], HQ.out⟩
      · have e1 : du = true := by rw [← hd]; clear hd; simp [*]
        clear hd
        go_wp2_with fail
        go_meet
        case rel => exact ⟨by rw [e1], HQ.out⟩
    · have e1 : du = true := by rw [← hd]; clear hd; simp [*]
      clear hd
      go_wp2_with fail
      go_meet
      case rel => exact ⟨by rw [e1], HQ.out⟩
  case rest =>
  obtain ⟨rfl, hcut⟩ := hcut
  have HE := Lib.hid hcut
  clear hcut
  rename World => ve
  clear HP ID2
  refine HK.out _ _ ?_
  clear HK K
  apply wp_seq_k
  intro K hK
  have HK := Lib.hid hK
  clear hK
  go_cut [] from 11 (fun wx => Blk.Bks w [(gn, (Ru.cells ⟨r.co, n1, a, b, l1, pr1, ex1, dn1, mx1, r.tl, r.tu, r.td⟩).toArray, 29), (gz, #[I 0, I 0, I 0, I 0, I 0, I 0, I 0, .bool false, .bool false, I 0, I 0, I 0], 29), (gc, c.cells.toArray, 31), (gr, r.cells.toArray, 29), (gp, p.cells.toArray, 23)] wx)
  case first =>
    have t_cho : ve.cell? ⟨gc, 5, none⟩ = some (.bool c.ho) := HE.out.cell 2 5 rfl rfl
    have t_rex : ve.cell? ⟨gr, 6, none⟩ = some (I r.ex) := HE.out.cell 3 6 rfl rfl
    have hx := HEX.out
    obtain ⟨ho, hho⟩ : ∃ x, c.ho = x := ⟨_, rfl⟩
    rw [hho] at hx t_cho
    cases du
    · have e1 : ex1 = r.ex := by rw [← hx]; simp
      clear hx
      go_wp2_with fail
      go_meet
      case rel => rw [e1]; exact HE.out
    cases ho
    · have e1 : ex1 = r.ex := by rw [← hx]; simp
      clear hx
      go_wp2_with fail
      go_meet
      case rel => rw [e1]; exact HE.out
    have e2 : ex1 = e1 := by rw [← hx]; simp
    clear hx
    have n_ex : ve.cell? ⟨gn, 6, none⟩ = some (I r.ex) := HE.out.cell 0 6 rfl rfl
    have f_ex : ve.frozen? ⟨gn, 6, none⟩ = false := HE.out.frozen 0 6 rfl
    go_wp2_with (go_at_call 25; with_reducible refine (O3.out _).mono ?_; rintro e w' ⟨rfl, rfl⟩)
    have hput := HE.out.set 0 6 rfl (I e1)
    rw [show Array.setIfInBounds _ 6 (I e1) = (Ru.cells ⟨r.co, n1, a, b, l1, pr1, e1, dn1, mx1, r.tl, r.tu, r.td⟩).toArray from rfl] at hput
    simp only [List.set_cons_succ, List.set_cons_zero] at hput
    generalize World.setCell ve _ _ = vf at hput ⊢
    have HG := Lib.hid hput
    clear hput
    go_meet
    case rel => rw [e2]; exact HG.out
  case rest =>
  have HG := Lib.hid hcut
  clear hcut
  rename World => vg
  clear HE O3
  refine HK.out _ _ ?_
  clear HK K
  apply wp_seq_k
  intro K hK
  have HK := Lib.hid hK
  clear hK
  go_cut [] from 11 (fun wx => Blk.Bks w [(gn, (Ru.cells ⟨r.co, n1, a, b, l1, pr1, ex1, dn2, mx2, r.tl, r.tu, r.td⟩).toArray, 29), (gz, #[I 0, I 0, I 0, I 0, I 0, I 0, I 0, .bool false, .bool false, I 0, I 0, I 0], 29), (gc, c.cells.toArray, 31), (gr, r.cells.toArray, 29), (gp, p.cells.toArray, 23)] wx)
  case first =>
    have t_cho : vg.cell? ⟨gc, 5, none⟩ = some (.bool c.ho) := HG.out.cell 2 5 rfl rfl
    have hx := HN2.out
    have hy := HM2.out
    obtain ⟨ho, hho⟩ : ∃ x, c.ho = x := ⟨_, rfl⟩
    rw [hho] at hx hy t_cho
    cases du
    · have e1 : dn2 = dn1 := by rw [← hx]; simp
      have e2 : mx2 = mx1 := by rw [← hy]; simp
      clear hx hy
      go_wp2_with fail
      go_meet
      case rel => rw [e1, e2]; exact HG.out
    cases ho
    rotate_left
    · have e1 : dn2 = dn1 := by rw [← hx]; simp
      have e2 : mx2 = mx1 := by rw [← hy]; simp
      clear hx hy
      go_wp2_with fail
      go_meet
      case rel => rw [e1, e2]; exact HG.out
    have n_dn : vg.cell? ⟨gn, 7, none⟩ = some (.bool dn1) := HG.out.cell 0 7 rfl rfl
    have f_dn : vg.frozen? ⟨gn, 7, none⟩ = false := HG.out.frozen 0 7 rfl
    have n_mx : vg.cell? ⟨gn, 8, none⟩ = some (.bool mx1) := HG.out.cell 0 8 rfl rfl
    have f_mx : vg.frozen? ⟨gn, 8, none⟩ = false := HG.out.frozen 0 8 rfl
    have n_lf : vg.cell? ⟨gn, 4, none⟩ = some (I l1) := HG.out.cell 0 4 rfl rfl
    by_cases h1 : 0 < l1
    · have e1 : dn2 = true := by rw [← hx]; simp
      have e2 : mx2 = lng := by rw [← hy]; simp [h1]
      clear hx hy
      go_wp2_with fail
      have hput := (HG.out.set 0 7 rfl (.bool true)).set 0 8 rfl (.bool lng)
      rw [show Array.setIfInBounds (Array.setIfInBounds _ 7 (.bool true)) 8 (.bool lng) = (Ru.cells ⟨r.co, n1, a, b, l1, pr1, ex1, true, lng, r.tl, r.tu, r.td⟩).toArray from rfl] at hput
      simp only [List.set_cons_succ, List.set_cons_zero] at hput
      generalize World.setCell (World.setCell vg _ _) _ _ = vh at hput ⊢
      go_meet
      case rel => rw [e1, e2]; exact hput
    · have e1 : dn2 = true := by rw [← hx]; simp
      have e2 : mx2 = false := by rw [← hy]; simp [h1]
      clear hx hy
      go_wp2_with fail
      have hput := (HG.out.set 0 7 rfl (.bool true)).set 0 8 rfl (.bool false)
      rw [show Array.setIfInBounds (Array.setIfInBounds _ 7 (.bool true)) 8 (.bool false) = (Ru.cells ⟨r.co, n1, a, b, l1, pr1, ex1, true, false, r.tl, r.tu, r.td⟩).toArray from rfl] at hput
      simp only [List.set_cons_succ, List.set_cons_zero] at hput
      generalize World.setCell (World.setCell vg _ _) _ _ = vh at hput ⊢
      go_meet
      case rel => rw [e1, e2]; exact hput
  case rest =>
  have HI := Lib.hid hcut
  clear hcut
  rename World => vi
  clear HG
  refine HK.out _ _ ?_
  clear HK K
  go_wp2_with (first | (refine Row.wpList_load_g 29 _ rfl (by first | rfl | (go_simp; done) | fail) ⟨gn, 0, none⟩ rfl (Ru.cells ⟨r.co, n1, a, b, l1, pr1, ex1, dn2, mx2, r.tl, r.tu, r.td⟩) _ (seg HI.out 0 0 rfl _ rfl) Try.underlying29 rfl infoRu ?_) | (refine wpList_store_row rfl 29 _ _ rfl gz (Ru.cells ⟨r.co, n1, a, b, l1, pr1, ex1, dn2, mx2, r.tl, r.tu, r.td⟩).toArray rfl rfl 29 _ (HI.out.at 1 rfl) infoRu rfl (one_ru _) ?_))
  have hput := HI.out.put 1 rfl (Ru.cells ⟨r.co, n1, a, b, l1, pr1, ex1, dn2, mx2, r.tl, r.tu, r.td⟩).toArray
  simp only [List.set_cons_succ, List.set_cons_zero] at hput
  generalize World.setRow vi gz _ = vz at hput ⊢
  have HZ := Lib.hid hput
  clear hput
  (try go_wp2_with fail)
  (try simp only [Exit.inBlock, Exit.then])
  refine bodyPost_ret (v := .tuple #[.agg (Ru.cells ⟨r.co, n1, a, b, l1, pr1, ex1, dn2, mx2, r.tl, r.tu, r.td⟩).toArray, .bool du]) ?_ rfl ⟨rfl, HZ.out.bel⟩
  exact Where.results_row_tmp (fn := Try.f24) (p := 6) (u := 7) (ty := 29) rfl _ _ gz 29 _ (0, 0) _ rfl (HZ.out.at 1 rfl) Try.underlying29 rfl infoRu
end Ru
namespace Ru
open Go Go.ChangeShapes Go.WideShapes Go.ChangeAt Go.RowKit
open Tab Flat TabArg QL
open May (infoP)
open Ped (ft cu idl Ft infoFt)
open Gap (lm lf gr Tn infoTn)
theorem wpQuiet_build {P : Program} {C : World → Prop} {ops : Array Oper} {Q : Act → Prop} {a : Act} {o : Oper} {rest : List Oper} (hw : Region.wanted o (yielded ops a.tmps) = true) (t : TypeId) (parts : List (Nat × Operand)) (ho : o.op = .build t parts.toArray) (cells : Array Value) (vs : List (Nat × Value)) (hv : parts.map (fun (i, x) => (i, a.eval x)) = vs) (hb : P.built t vs = some cells)
    (h : wpQuiet P ops C Q rest (a.put o.dst (.agg cells))) : wpQuiet P ops C Q (o :: rest) a :=
  wpQuiet_step fun K hK => by
    subst hv
    rw [if_pos hw]
    refine ⟨_, fun w hw' => ?_, hK _ h⟩
    unfold Oper.quietAt execOp
    have hb' : P.built t (parts.toArray.map fun (i, x) => (i, a.eval x)).toList = some cells := by simpa using hb
    simp only [ho, Sem.run_bind, run_build w t _ _ hb', Result.andThen_ok, Sem.run_pure]
    exact ⟨rfl, rfl⟩
theorem rstep_end (p : Ph) (r : Ru) (c : Cu) (hco : r.co = 1) (hen : c.en = true) (w : World) : Calls Try.prog 12 #[.agg p.cells.toArray, .agg r.cells.toArray, .agg c.cells.toArray] w fun e w' => e = .returned (.agg (Ru.cells (stp p r c)).toArray) ∧ Below w.heap.size w w' := by
  obtain ⟨⟨x, y, z⟩, ht⟩ : ∃ t, tre p r = t := ⟨_, rfl⟩
  have HE : Hid (stp p r c = ⟨2, 1, 0, 0, 0, 0, 0, false, false, x, y, z⟩) := Lib.hid (by unfold stp fin; rw [if_pos hco, if_pos hen, ht])
  obtain ⟨dn, hdn⟩ : ∃ x, r.dn = x := ⟨_, rfl⟩
  unfold tre at ht
  rw [hdn] at ht
  have hn0 := Blk.Bks.nil w
  have hn1 := hn0.alloc p.cells.toArray 23
  have hn2 := hn1.alloc (Ru.cells r).toArray 29
  rw [show (w.alloc (.cells p.cells.toArray 23)).heap.size = w.heap.size + 1 by simp] at hn2
  have hn3 := hn2.alloc c.cells.toArray 31
  rw [show ((w.alloc (.cells p.cells.toArray 23)).alloc (.cells (Ru.cells r).toArray 29)).heap.size = w.heap.size + 1 + 1 by simp] at hn3
  have hn4 := hn3.alloc #[I 0, I 0, I 0, I 0, I 0, I 0, I 0, .bool false, .bool false, I 0, I 0, I 0] 29
  rw [show (((w.alloc (.cells p.cells.toArray 23)).alloc (.cells (Ru.cells r).toArray 29)).alloc (.cells c.cells.toArray 31)).heap.size = w.heap.size + 1 + 1 + 1 by simp] at hn4
  clear hn0
  clear hn1
  clear hn2
  clear hn3
  go_enter Try.func12, Try.ntmps12
  go_upto_region 1 with fail
  generalize World.alloc (World.alloc (World.alloc (World.alloc w _) _) _) _ = v at hn4 ⊢
  generalize hg3 : w.heap.size + 1 + 1 + 1 = gz at hn4 ⊢
  generalize hg2 : w.heap.size + 1 + 1 = gc at hn4 ⊢
  generalize hg1 : w.heap.size + 1 = gr at hn4 ⊢
  generalize hg0 : w.heap.size = gp at hn4 ⊢
  clear hg0 hg1 hg2 hg3
  have H0 := Lib.hid hn4
  clear hn4
  have t_rco : v.cell? ⟨gr, 0, none⟩ = some (I r.co) := H0.out.cell 2 0 rfl rfl
  have t_cen : v.cell? ⟨gc, 1, none⟩ = some (.bool c.en) := H0.out.cell 1 1 rfl rfl
  have t_rdn : v.cell? ⟨gr, 7, none⟩ = some (.bool r.dn) := H0.out.cell 2 7 rfl rfl
  rw [hco] at t_rco
  rw [hen] at t_cen
  go_upto_region 5 with (first | (refine Row.wpList_load_g 27 _ rfl (by first | rfl | (go_simp; done) | fail) ⟨gr, 9, none⟩ rfl [I r.tl, I r.tu, I r.td] _ (seg H0.out 2 9 rfl _ rfl) Try.underlying27 rfl infoTn ?_) | (refine wpList_build rfl 29 [(0, .const (I 2)), (1, .const (I 1)), (8, .tmp 17)] rfl (Ru.cells ⟨2, 1, 0, 0, 0, 0, 0, false, false, r.tl, r.tu, r.td⟩).toArray _ (by rfl) (built3 2 1 r.tl r.tu r.td) ?_) | (refine Row.wpList_store_new rfl 29 _ _ rfl _ _ (Ru.cells ⟨2, 1, 0, 0, 0, 0, 0, false, false, r.tl, r.tu, r.td⟩).toArray rfl rfl rfl infoRu rfl (one_ru _) ?_))
  have hn := H0.out.alloc (Ru.cells ⟨2, 1, 0, 0, 0, 0, 0, false, false, r.tl, r.tu, r.td⟩).toArray 29
  generalize World.alloc v _ = v1 at hn ⊢
  generalize v.heap.size = gn at hn ⊢
  have H1 := Lib.hid hn
  clear hn
  clear H0 t_rco t_cen t_rdn
  have t_rdn : v1.cell? ⟨gr, 7, none⟩ = some (.bool r.dn) := H1.out.cell 3 7 rfl rfl
  rw [hdn] at t_rdn
  cases dn
  · rw [if_neg (by simp)] at ht
    injection ht with e1 e2 e3
    subst e1 e2 e3
    go_upto_region 7 with fail
    go_wp2_with (first | (refine Row.wpList_load_g 29 _ rfl (by first | rfl | (go_simp; done) | fail) ⟨gn, 0, none⟩ rfl (Ru.cells ⟨2, 1, 0, 0, 0, 0, 0, false, false, r.tl, r.tu, r.td⟩) _ (seg H1.out 0 0 rfl _ rfl) Try.underlying29 rfl infoRu ?_) | (refine wpList_store_row rfl 29 _ _ rfl gz (Ru.cells ⟨2, 1, 0, 0, 0, 0, 0, false, false, r.tl, r.tu, r.td⟩).toArray rfl rfl 29 _ (H1.out.at 1 rfl) infoRu rfl (one_ru _) ?_))
    have hput := H1.out.put 1 rfl (Ru.cells ⟨2, 1, 0, 0, 0, 0, 0, false, false, r.tl, r.tu, r.td⟩).toArray
    simp only [List.set_cons_succ, List.set_cons_zero] at hput
    generalize World.setRow v1 gz _ = vz at hput ⊢
    have HG := Lib.hid hput
    clear hput
    go_wp2_with fail
    (try simp only [Exit.inBlock, Exit.then])
    refine bodyPost_ret (v := .agg (Ru.cells ⟨2, 1, 0, 0, 0, 0, 0, false, false, r.tl, r.tu, r.td⟩).toArray) ?_ rfl ⟨ret_ru HE.out.symm, HG.out.bel⟩
    exact results_cell_row rfl _ _ gz 29 _ (0, 0) _ rfl (HG.out.at 1 rfl) Try.underlying29 rfl infoRu
  · rw [if_pos rfl] at ht
    have GR : Hid (∀ W, Calls Try.prog 20 #[.agg p.cells.toArray, .agg #[I r.tl, I r.tu, I r.td], .bool r.mx] W fun e w' => e = .returned (.agg #[I x, I y, I z]) ∧ Below W.heap.size W w') := Lib.hid (fun W => Gap.rgrow_is ht W)
    clear ht
    go_upto_region 6 with fail
    clear t_rdn
    have t_rmx : v1.cell? ⟨gr, 8, none⟩ = some (.bool r.mx) := H1.out.cell 3 8 rfl rfl
    go_wp2_with (first | (refine Row.wpList_load_g 23 _ rfl (by first | rfl | (go_simp; done) | fail) ⟨gp, 0, none⟩ rfl p.cells _ (seg H1.out 4 0 rfl _ rfl) Try.underlying23 rfl infoP ?_) | (refine Row.wpList_load_g 27 _ rfl (by first | rfl | (go_simp; done) | fail) ⟨gr, 9, none⟩ rfl [I r.tl, I r.tu, I r.td] _ (seg H1.out 3 9 rfl _ rfl) Try.underlying27 rfl infoTn ?_))
    refine (GR.out _).mono ?_
    rintro e v3 ⟨rfl, bc⟩
    have H3 := Lib.hid (H1.out.step bc)
    clear bc
    go_upto_region 7 with (refine store_mid rfl 27 _ _ rfl gn 9 #[I x, I y, I z] rfl rfl 29 _ (Ru.cells ⟨2, 1, 0, 0, 0, 0, 0, false, false, x, y, z⟩).toArray H3.out 0 rfl infoTn (by first | decide | (simp [Ru.cells]; done) | fail) (by simp [Value.oneCell']) rfl ?_)
    have hput := H3.out.put 0 rfl (Ru.cells ⟨2, 1, 0, 0, 0, 0, 0, false, false, x, y, z⟩).toArray
    simp only [List.set_cons_succ, List.set_cons_zero] at hput
    generalize World.setRow _ gn _ = v4 at hput ⊢
    have H4 := Lib.hid hput
    clear hput
    clear H1 H3 GR t_rmx
    go_wp2_with (first | (refine Row.wpList_load_g 29 _ rfl (by first | rfl | (go_simp; done) | fail) ⟨gn, 0, none⟩ rfl (Ru.cells ⟨2, 1, 0, 0, 0, 0, 0, false, false, x, y, z⟩) _ (seg H4.out 0 0 rfl _ rfl) Try.underlying29 rfl infoRu ?_) | (refine wpList_store_row rfl 29 _ _ rfl gz (Ru.cells ⟨2, 1, 0, 0, 0, 0, 0, false, false, x, y, z⟩).toArray rfl rfl 29 _ (H4.out.at 1 rfl) infoRu rfl (one_ru _) ?_))
    have hput := H4.out.put 1 rfl (Ru.cells ⟨2, 1, 0, 0, 0, 0, 0, false, false, x, y, z⟩).toArray
    simp only [List.set_cons_succ, List.set_cons_zero] at hput
    generalize World.setRow v4 gz _ = vz at hput ⊢
    have HG := Lib.hid hput
    clear hput
    go_wp2_with fail
    (try simp only [Exit.inBlock, Exit.then])
    refine bodyPost_ret (v := .agg (Ru.cells ⟨2, 1, 0, 0, 0, 0, 0, false, false, x, y, z⟩).toArray) ?_ rfl ⟨ret_ru HE.out.symm, HG.out.bel⟩
    exact results_cell_row rfl _ _ gz 29 _ (0, 0) _ rfl (HG.out.at 1 rfl) Try.underlying29 rfl infoRu
theorem rstep_stay (p : Ph) (r : Ru) (c : Cu) (hco : r.co = 1) (hen : c.en = false) (w : World) : Calls Try.prog 12 #[.agg p.cells.toArray, .agg r.cells.toArray, .agg c.cells.toArray] w fun e w' => e = .returned (.agg (Ru.cells (stp p r c)).toArray) ∧ Below w.heap.size w w' := by
  have HE : Hid (stp p r c = sty p c (lon p r c)) := Lib.hid (by unfold stp; rw [if_pos hco, hen, if_neg (by simp)])
  obtain ⟨D, hD⟩ : ∃ D, sty p c (lon p r c) = D := ⟨_, rfl⟩
  rw [hD] at HE
  obtain ⟨du, hdu⟩ : ∃ x, duB p c (lon p r c) = x := ⟨_, rfl⟩
  have GN : Hid (∀ W, Calls Try.prog 24 #[.agg p.cells.toArray, .agg r.cells.toArray, .agg c.cells.toArray] W fun e w' => e = .returned (.tuple #[.agg D.cells.toArray, .bool du]) ∧ Below W.heap.size W w') := Lib.hid (fun W => by rw [← hD, ← hdu]; exact green_any p r c W)
  clear hdu
  have hn0 := Blk.Bks.nil w
  have hn1 := hn0.alloc p.cells.toArray 23
  have hn2 := hn1.alloc (Ru.cells r).toArray 29
  rw [show (w.alloc (.cells p.cells.toArray 23)).heap.size = w.heap.size + 1 by simp] at hn2
  have hn3 := hn2.alloc c.cells.toArray 31
  rw [show ((w.alloc (.cells p.cells.toArray 23)).alloc (.cells (Ru.cells r).toArray 29)).heap.size = w.heap.size + 1 + 1 by simp] at hn3
  have hn4 := hn3.alloc #[I 0, I 0, I 0, I 0, I 0, I 0, I 0, .bool false, .bool false, I 0, I 0, I 0] 29
  rw [show (((w.alloc (.cells p.cells.toArray 23)).alloc (.cells (Ru.cells r).toArray 29)).alloc (.cells c.cells.toArray 31)).heap.size = w.heap.size + 1 + 1 + 1 by simp] at hn4
  clear hn0
  clear hn1
  clear hn2
  clear hn3
  go_enter Try.func12, Try.ntmps12
  go_upto_region 1 with fail
  generalize World.alloc (World.alloc (World.alloc (World.alloc w _) _) _) _ = v at hn4 ⊢
  generalize hg3 : w.heap.size + 1 + 1 + 1 = gz at hn4 ⊢
  generalize hg2 : w.heap.size + 1 + 1 = gc at hn4 ⊢
  generalize hg1 : w.heap.size + 1 = gr at hn4 ⊢
  generalize hg0 : w.heap.size = gp at hn4 ⊢
  clear hg0 hg1 hg2 hg3
  have H0 := Lib.hid hn4
  clear hn4
  have t_rco : v.cell? ⟨gr, 0, none⟩ = some (I r.co) := H0.out.cell 2 0 rfl rfl
  have t_cen : v.cell? ⟨gc, 1, none⟩ = some (.bool c.en) := H0.out.cell 1 1 rfl rfl
  rw [hco] at t_rco
  rw [hen] at t_cen
  go_wp2_with (first | (refine Row.wpList_load_g 23 _ rfl (by first | rfl | (go_simp; done) | fail) ⟨gp, 0, none⟩ rfl p.cells _ (seg H0.out 3 0 rfl _ rfl) Try.underlying23 rfl infoP ?_) | (refine Row.wpList_load_g 29 _ rfl (by first | rfl | (go_simp; done) | fail) ⟨gr, 0, none⟩ rfl r.cells _ (seg H0.out 2 0 rfl _ rfl) Try.underlying29 rfl infoRu ?_) | (refine Row.wpList_load_g 31 _ rfl (by first | rfl | (go_simp; done) | fail) ⟨gc, 0, none⟩ rfl c.cells _ (seg H0.out 1 0 rfl _ rfl) Try.underlying31 rfl infoCu ?_))
  refine (GN.out _).mono ?_
  rintro e v1 ⟨rfl, bc⟩
  have H1 := Lib.hid (H0.out.step bc)
  clear bc
  clear t_rco t_cen
  go_upto_region 9 with (refine Row.wpList_store_new rfl 29 _ _ rfl _ _ D.cells.toArray rfl rfl rfl infoRu rfl (one_ru _) ?_)
  have hn := H1.out.alloc D.cells.toArray 29
  generalize World.alloc v1 _ = v2 at hn ⊢
  generalize v1.heap.size = gn at hn ⊢
  have H2 := Lib.hid hn
  clear hn
  clear H0 H1 GN
  go_wp2_with (first | (refine Row.wpList_load_g 29 _ rfl (by first | rfl | (go_simp; done) | fail) ⟨gn, 0, none⟩ rfl D.cells _ (seg H2.out 0 0 rfl _ rfl) Try.underlying29 rfl infoRu ?_) | (refine wpList_store_row rfl 29 _ _ rfl gz D.cells.toArray rfl rfl 29 _ (H2.out.at 1 rfl) infoRu rfl (one_ru _) ?_))
  have hput := H2.out.put 1 rfl D.cells.toArray
  simp only [List.set_cons_succ, List.set_cons_zero] at hput
  generalize World.setRow v2 gz _ = vz at hput ⊢
  have HG := Lib.hid hput
  clear hput
  go_wp2_with fail
  (try simp only [Exit.inBlock, Exit.then])
  refine bodyPost_ret (v := .agg D.cells.toArray) ?_ rfl ⟨ret_ru HE.out.symm, HG.out.bel⟩
  exact results_cell_row rfl _ _ gz 29 _ (0, 0) _ rfl (HG.out.at 1 rfl) Try.underlying29 rfl infoRu
theorem moreB (n : Int) (w : World) : Calls Try.prog 25 #[.int .i64 n] w fun e w' => e = .returned (.int .i64 (Cnt.more n)) ∧ Below w.heap.size w w' := (Cnt.rmore_any n w).mono fun e w' h => ⟨h.1, h.2 ▸ Below.refl _ _⟩
theorem rstep_yellow (p : Ph) (r : Ru) (c : Cu) (hco : r.co = 2) (w : World) : Calls Try.prog 12 #[.agg p.cells.toArray, .agg r.cells.toArray, .agg c.cells.toArray] w fun e w' => e = .returned (.agg (Ru.cells (stp p r c)).toArray) ∧ Below w.heap.size w w' := by
  obtain ⟨tm, htm⟩ : ∃ x, r.tm = x := ⟨_, rfl⟩
  obtain ⟨ye, hye⟩ : ∃ x, p.yellow = x := ⟨_, rfl⟩
  obtain ⟨re, hre⟩ : ∃ x, p.red = x := ⟨_, rfl⟩
  by_cases h1 : tm < ye
  · obtain ⟨n1, hn1⟩ : ∃ x, Cnt.more r.tm = x := ⟨_, rfl⟩
    have OM : Hid (∀ W, Calls Try.prog 25 #[.int .i64 r.tm] W fun e w' => e = .returned (.int .i64 n1) ∧ Below W.heap.size W w') := Lib.hid (fun W => by rw [← hn1]; exact moreB _ W)
    have HE : Hid (stp p r c = ⟨2, n1, 0, 0, 0, 0, 0, false, false, r.tl, r.tu, r.td⟩) := Lib.hid (by unfold stp yel; rw [if_neg (by rw [hco]; decide), if_pos hco, htm, hye, if_pos h1]; unfold lst; rw [hn1])
    clear hn1
    rw [htm] at OM
    have hn0 := Blk.Bks.nil w
    have hn1 := hn0.alloc p.cells.toArray 23
    have hn2 := hn1.alloc (Ru.cells r).toArray 29
    rw [show (w.alloc (.cells p.cells.toArray 23)).heap.size = w.heap.size + 1 by simp] at hn2
    have hn3 := hn2.alloc c.cells.toArray 31
    rw [show ((w.alloc (.cells p.cells.toArray 23)).alloc (.cells (Ru.cells r).toArray 29)).heap.size = w.heap.size + 1 + 1 by simp] at hn3
    have hn4 := hn3.alloc #[I 0, I 0, I 0, I 0, I 0, I 0, I 0, .bool false, .bool false, I 0, I 0, I 0] 29
    rw [show (((w.alloc (.cells p.cells.toArray 23)).alloc (.cells (Ru.cells r).toArray 29)).alloc (.cells c.cells.toArray 31)).heap.size = w.heap.size + 1 + 1 + 1 by simp] at hn4
    clear hn0
    clear hn1
    clear hn2
    clear hn3
    go_enter Try.func12, Try.ntmps12
    go_upto_region 1 with fail
    generalize World.alloc (World.alloc (World.alloc (World.alloc w _) _) _) _ = v at hn4 ⊢
    generalize hg3 : w.heap.size + 1 + 1 + 1 = gz at hn4 ⊢
    generalize hg2 : w.heap.size + 1 + 1 = gc at hn4 ⊢
    generalize hg1 : w.heap.size + 1 = gr at hn4 ⊢
    generalize hg0 : w.heap.size = gp at hn4 ⊢
    clear hg0 hg1 hg2 hg3
    have H0 := Lib.hid hn4
    clear hn4
    have t_rco : v.cell? ⟨gr, 0, none⟩ = some (I r.co) := H0.out.cell 2 0 rfl rfl
    have t_rtm : v.cell? ⟨gr, 1, none⟩ = some (I r.tm) := H0.out.cell 2 1 rfl rfl
    have t_pyellow : v.cell? ⟨gp, 6, none⟩ = some (I p.yellow) := H0.out.cell 3 6 rfl rfl
    have t_pred : v.cell? ⟨gp, 7, none⟩ = some (I p.red) := H0.out.cell 3 7 rfl rfl
    rw [hco] at t_rco
    rw [htm] at t_rtm
    rw [hye] at t_pyellow
    rw [hre] at t_pred
    go_upto_region 12 with fail
    (try dsimp only [Act.put])
    have q1 : ∀ q : QB.By v.heap.size v, q.world.cell? ⟨gr, 1, none⟩ = some (I r.tm) := fun q => (H0.out.by q).cell 2 1 rfl rfl
    refine QT.region v.heap.size 5 (by kernel_rfl) (by kernel_rfl) ?_
    simp only [List.take_succ_cons, List.take_zero]
    repeat first
      | (refine wpQuiet_load rfl 27 _ rfl ⟨gr, 9, none⟩ rfl [I r.tl, I r.tu, I r.td] _ (fun w' ⟨pw, e⟩ => by rw [e]; exact seg (H0.out.by pw) 2 9 rfl _ rfl) Try.underlying27 rfl infoTn ?_
         dsimp only [Act.put]
         simp only [List.setIfInBounds_toArray, List.set_cons_zero, List.set_cons_succ])
      | (quiet_step (first | (go_at_call 25; with_reducible exact QB.call_of (Nat.le_refl _) (fun b => OM.out _))))
    refine wpQuiet_nil ?_
    intro _ hw'
    obtain ⟨pq, rfl⟩ := hw'
    have HP := Lib.hid (H0.out.by pq)
    generalize pq.world = vp at HP ⊢
    simp only [List.drop_succ_cons, List.drop_zero]
    clear q1
    go_wp2_with (first | (refine wpList_build rfl 29 [(0, .const (I 2)), (1, .tmp 46), (8, .tmp 48)] rfl (Ru.cells ⟨2, n1, 0, 0, 0, 0, 0, false, false, r.tl, r.tu, r.td⟩).toArray _ (by rfl) (built3 2 n1 r.tl r.tu r.td) ?_) | (refine wpList_store_row rfl 29 _ _ rfl gz (Ru.cells ⟨2, n1, 0, 0, 0, 0, 0, false, false, r.tl, r.tu, r.td⟩).toArray rfl rfl 29 _ (HP.out.at 0 rfl) infoRu rfl (one_ru _) ?_))
    have hput := HP.out.put 0 rfl (Ru.cells ⟨2, n1, 0, 0, 0, 0, 0, false, false, r.tl, r.tu, r.td⟩).toArray
    simp only [List.set_cons_succ, List.set_cons_zero] at hput
    generalize World.setRow vp gz _ = vz at hput ⊢
    have HG := Lib.hid hput
    clear hput
    go_wp2_with fail
    (try simp only [Exit.inBlock, Exit.then])
    refine bodyPost_ret (v := .agg (Ru.cells ⟨2, n1, 0, 0, 0, 0, 0, false, false, r.tl, r.tu, r.td⟩).toArray) ?_ rfl ⟨ret_ru HE.out.symm, HG.out.bel⟩
    exact results_cell_row rfl _ _ gz 29 _ (0, 0) _ rfl (HG.out.at 0 rfl) Try.underlying29 rfl infoRu
  by_cases h2 : 0 < re
  · have HE : Hid (stp p r c = ⟨3, 1, 0, 0, 0, 0, 0, false, false, r.tl, r.tu, r.td⟩) := Lib.hid (by unfold stp yel; rw [if_neg (by rw [hco]; decide), if_pos hco, htm, hye, hre, if_neg h1, if_pos h2]; rfl)
    have hn0 := Blk.Bks.nil w
    have hn1 := hn0.alloc p.cells.toArray 23
    have hn2 := hn1.alloc (Ru.cells r).toArray 29
    rw [show (w.alloc (.cells p.cells.toArray 23)).heap.size = w.heap.size + 1 by simp] at hn2
    have hn3 := hn2.alloc c.cells.toArray 31
    rw [show ((w.alloc (.cells p.cells.toArray 23)).alloc (.cells (Ru.cells r).toArray 29)).heap.size = w.heap.size + 1 + 1 by simp] at hn3
    have hn4 := hn3.alloc #[I 0, I 0, I 0, I 0, I 0, I 0, I 0, .bool false, .bool false, I 0, I 0, I 0] 29
    rw [show (((w.alloc (.cells p.cells.toArray 23)).alloc (.cells (Ru.cells r).toArray 29)).alloc (.cells c.cells.toArray 31)).heap.size = w.heap.size + 1 + 1 + 1 by simp] at hn4
    clear hn0
    clear hn1
    clear hn2
    clear hn3
    go_enter Try.func12, Try.ntmps12
    go_upto_region 1 with fail
    generalize World.alloc (World.alloc (World.alloc (World.alloc w _) _) _) _ = v at hn4 ⊢
    generalize hg3 : w.heap.size + 1 + 1 + 1 = gz at hn4 ⊢
    generalize hg2 : w.heap.size + 1 + 1 = gc at hn4 ⊢
    generalize hg1 : w.heap.size + 1 = gr at hn4 ⊢
    generalize hg0 : w.heap.size = gp at hn4 ⊢
    clear hg0 hg1 hg2 hg3
    have H0 := Lib.hid hn4
    clear hn4
    have t_rco : v.cell? ⟨gr, 0, none⟩ = some (I r.co) := H0.out.cell 2 0 rfl rfl
    have t_rtm : v.cell? ⟨gr, 1, none⟩ = some (I r.tm) := H0.out.cell 2 1 rfl rfl
    have t_pyellow : v.cell? ⟨gp, 6, none⟩ = some (I p.yellow) := H0.out.cell 3 6 rfl rfl
    have t_pred : v.cell? ⟨gp, 7, none⟩ = some (I p.red) := H0.out.cell 3 7 rfl rfl
    rw [hco] at t_rco
    rw [htm] at t_rtm
    rw [hye] at t_pyellow
    rw [hre] at t_pred
    go_wp2_with (first | (refine Row.wpList_load_g 27 _ rfl (by first | rfl | (go_simp; done) | fail) ⟨gr, 9, none⟩ rfl [I r.tl, I r.tu, I r.td] _ (seg H0.out 2 9 rfl _ rfl) Try.underlying27 rfl infoTn ?_) | (refine wpList_build rfl 29 [(0, .const (I 3)), (1, .const (I 1)), (8, .tmp 54)] rfl (Ru.cells ⟨3, 1, 0, 0, 0, 0, 0, false, false, r.tl, r.tu, r.td⟩).toArray _ (by rfl) (built3 3 1 r.tl r.tu r.td) ?_) | (refine wpList_store_row rfl 29 _ _ rfl gz (Ru.cells ⟨3, 1, 0, 0, 0, 0, 0, false, false, r.tl, r.tu, r.td⟩).toArray rfl rfl 29 _ (H0.out.at 0 rfl) infoRu rfl (one_ru _) ?_))
    have hput := H0.out.put 0 rfl (Ru.cells ⟨3, 1, 0, 0, 0, 0, 0, false, false, r.tl, r.tu, r.td⟩).toArray
    simp only [List.set_cons_succ, List.set_cons_zero] at hput
    generalize World.setRow v gz _ = vz at hput ⊢
    have HG := Lib.hid hput
    clear hput
    go_wp2_with fail
    (try simp only [Exit.inBlock, Exit.then])
    refine bodyPost_ret (v := .agg (Ru.cells ⟨3, 1, 0, 0, 0, 0, 0, false, false, r.tl, r.tu, r.td⟩).toArray) ?_ rfl ⟨ret_ru HE.out.symm, HG.out.bel⟩
    exact results_cell_row rfl _ _ gz 29 _ (0, 0) _ rfl (HG.out.at 0 rfl) Try.underlying29 rfl infoRu
  · have HE : Hid (stp p r c = ⟨0, 1, 0, 0, 0, 0, 0, false, false, r.tl, r.tu, r.td⟩) := Lib.hid (by unfold stp yel; rw [if_neg (by rw [hco]; decide), if_pos hco, htm, hye, hre, if_neg h1, if_neg h2]; rfl)
    have hn0 := Blk.Bks.nil w
    have hn1 := hn0.alloc p.cells.toArray 23
    have hn2 := hn1.alloc (Ru.cells r).toArray 29
    rw [show (w.alloc (.cells p.cells.toArray 23)).heap.size = w.heap.size + 1 by simp] at hn2
    have hn3 := hn2.alloc c.cells.toArray 31
    rw [show ((w.alloc (.cells p.cells.toArray 23)).alloc (.cells (Ru.cells r).toArray 29)).heap.size = w.heap.size + 1 + 1 by simp] at hn3
    have hn4 := hn3.alloc #[I 0, I 0, I 0, I 0, I 0, I 0, I 0, .bool false, .bool false, I 0, I 0, I 0] 29
    rw [show (((w.alloc (.cells p.cells.toArray 23)).alloc (.cells (Ru.cells r).toArray 29)).alloc (.cells c.cells.toArray 31)).heap.size = w.heap.size + 1 + 1 + 1 by simp] at hn4
    clear hn0
    clear hn1
    clear hn2
    clear hn3
    go_enter Try.func12, Try.ntmps12
    go_upto_region 1 with fail
    generalize World.alloc (World.alloc (World.alloc (World.alloc w _) _) _) _ = v at hn4 ⊢
    generalize hg3 : w.heap.size + 1 + 1 + 1 = gz at hn4 ⊢
    generalize hg2 : w.heap.size + 1 + 1 = gc at hn4 ⊢
    generalize hg1 : w.heap.size + 1 = gr at hn4 ⊢
    generalize hg0 : w.heap.size = gp at hn4 ⊢
    clear hg0 hg1 hg2 hg3
    have H0 := Lib.hid hn4
    clear hn4
    have t_rco : v.cell? ⟨gr, 0, none⟩ = some (I r.co) := H0.out.cell 2 0 rfl rfl
    have t_rtm : v.cell? ⟨gr, 1, none⟩ = some (I r.tm) := H0.out.cell 2 1 rfl rfl
    have t_pyellow : v.cell? ⟨gp, 6, none⟩ = some (I p.yellow) := H0.out.cell 3 6 rfl rfl
    have t_pred : v.cell? ⟨gp, 7, none⟩ = some (I p.red) := H0.out.cell 3 7 rfl rfl
    rw [hco] at t_rco
    rw [htm] at t_rtm
    rw [hye] at t_pyellow
    rw [hre] at t_pred
    go_wp2_with (first | (refine Row.wpList_load_g 27 _ rfl (by first | rfl | (go_simp; done) | fail) ⟨gr, 9, none⟩ rfl [I r.tl, I r.tu, I r.td] _ (seg H0.out 2 9 rfl _ rfl) Try.underlying27 rfl infoTn ?_) | (refine wpList_build rfl 29 [(0, .const (I 0)), (1, .const (I 1)), (8, .tmp 57)] rfl (Ru.cells ⟨0, 1, 0, 0, 0, 0, 0, false, false, r.tl, r.tu, r.td⟩).toArray _ (by rfl) (built3 0 1 r.tl r.tu r.td) ?_) | (refine wpList_store_row rfl 29 _ _ rfl gz (Ru.cells ⟨0, 1, 0, 0, 0, 0, 0, false, false, r.tl, r.tu, r.td⟩).toArray rfl rfl 29 _ (H0.out.at 0 rfl) infoRu rfl (one_ru _) ?_))
    have hput := H0.out.put 0 rfl (Ru.cells ⟨0, 1, 0, 0, 0, 0, 0, false, false, r.tl, r.tu, r.td⟩).toArray
    simp only [List.set_cons_succ, List.set_cons_zero] at hput
    generalize World.setRow v gz _ = vz at hput ⊢
    have HG := Lib.hid hput
    clear hput
    go_wp2_with fail
    (try simp only [Exit.inBlock, Exit.then])
    refine bodyPost_ret (v := .agg (Ru.cells ⟨0, 1, 0, 0, 0, 0, 0, false, false, r.tl, r.tu, r.td⟩).toArray) ?_ rfl ⟨ret_ru HE.out.symm, HG.out.bel⟩
    exact results_cell_row rfl _ _ gz 29 _ (0, 0) _ rfl (HG.out.at 0 rfl) Try.underlying29 rfl infoRu
theorem rstep_clear (p : Ph) (r : Ru) (c : Cu) (hco : r.co = 3) (w : World) : Calls Try.prog 12 #[.agg p.cells.toArray, .agg r.cells.toArray, .agg c.cells.toArray] w fun e w' => e = .returned (.agg (Ru.cells (stp p r c)).toArray) ∧ Below w.heap.size w w' := by
  obtain ⟨tm, htm⟩ : ∃ x, r.tm = x := ⟨_, rfl⟩
  obtain ⟨ye, hye⟩ : ∃ x, p.yellow = x := ⟨_, rfl⟩
  obtain ⟨re, hre⟩ : ∃ x, p.red = x := ⟨_, rfl⟩
  by_cases h1 : tm < re
  · obtain ⟨n1, hn1⟩ : ∃ x, Cnt.more r.tm = x := ⟨_, rfl⟩
    have OM : Hid (∀ W, Calls Try.prog 25 #[.int .i64 r.tm] W fun e w' => e = .returned (.int .i64 n1) ∧ Below W.heap.size W w') := Lib.hid (fun W => by rw [← hn1]; exact moreB _ W)
    have HE : Hid (stp p r c = ⟨3, n1, 0, 0, 0, 0, 0, false, false, r.tl, r.tu, r.td⟩) := Lib.hid (by unfold stp cle; rw [if_neg (by rw [hco]; decide), if_neg (by rw [hco]; decide), if_pos hco, htm, hre, if_pos h1]; unfold lst; rw [hn1])
    clear hn1
    rw [htm] at OM
    have hn0 := Blk.Bks.nil w
    have hn1 := hn0.alloc p.cells.toArray 23
    have hn2 := hn1.alloc (Ru.cells r).toArray 29
    rw [show (w.alloc (.cells p.cells.toArray 23)).heap.size = w.heap.size + 1 by simp] at hn2
    have hn3 := hn2.alloc c.cells.toArray 31
    rw [show ((w.alloc (.cells p.cells.toArray 23)).alloc (.cells (Ru.cells r).toArray 29)).heap.size = w.heap.size + 1 + 1 by simp] at hn3
    have hn4 := hn3.alloc #[I 0, I 0, I 0, I 0, I 0, I 0, I 0, .bool false, .bool false, I 0, I 0, I 0] 29
    rw [show (((w.alloc (.cells p.cells.toArray 23)).alloc (.cells (Ru.cells r).toArray 29)).alloc (.cells c.cells.toArray 31)).heap.size = w.heap.size + 1 + 1 + 1 by simp] at hn4
    clear hn0
    clear hn1
    clear hn2
    clear hn3
    go_enter Try.func12, Try.ntmps12
    go_upto_region 1 with fail
    generalize World.alloc (World.alloc (World.alloc (World.alloc w _) _) _) _ = v at hn4 ⊢
    generalize hg3 : w.heap.size + 1 + 1 + 1 = gz at hn4 ⊢
    generalize hg2 : w.heap.size + 1 + 1 = gc at hn4 ⊢
    generalize hg1 : w.heap.size + 1 = gr at hn4 ⊢
    generalize hg0 : w.heap.size = gp at hn4 ⊢
    clear hg0 hg1 hg2 hg3
    have H0 := Lib.hid hn4
    clear hn4
    have t_rco : v.cell? ⟨gr, 0, none⟩ = some (I r.co) := H0.out.cell 2 0 rfl rfl
    have t_rtm : v.cell? ⟨gr, 1, none⟩ = some (I r.tm) := H0.out.cell 2 1 rfl rfl
    have t_pred : v.cell? ⟨gp, 7, none⟩ = some (I p.red) := H0.out.cell 3 7 rfl rfl
    rw [hco] at t_rco
    rw [htm] at t_rtm
    rw [hre] at t_pred
    go_upto_region 18 with fail
    (try dsimp only [Act.put])
    have q1 : ∀ q : QB.By v.heap.size v, q.world.cell? ⟨gr, 1, none⟩ = some (I r.tm) := fun q => (H0.out.by q).cell 2 1 rfl rfl
    refine QT.region v.heap.size 5 (by kernel_rfl) (by kernel_rfl) ?_
    simp only [List.take_succ_cons, List.take_zero]
    repeat first
      | (refine wpQuiet_load rfl 27 _ rfl ⟨gr, 9, none⟩ rfl [I r.tl, I r.tu, I r.td] _ (fun w' ⟨pw, e⟩ => by rw [e]; exact seg (H0.out.by pw) 2 9 rfl _ rfl) Try.underlying27 rfl infoTn ?_
         dsimp only [Act.put]
         simp only [List.setIfInBounds_toArray, List.set_cons_zero, List.set_cons_succ])
      | (quiet_step (first | (go_at_call 25; with_reducible exact QB.call_of (Nat.le_refl _) (fun b => OM.out _))))
    refine wpQuiet_nil ?_
    intro _ hw'
    obtain ⟨pq, rfl⟩ := hw'
    have HP := Lib.hid (H0.out.by pq)
    generalize pq.world = vp at HP ⊢
    simp only [List.drop_succ_cons, List.drop_zero]
    clear q1
    go_wp2_with (first | (refine wpList_build rfl 29 [(0, .const (I 3)), (1, .tmp 68), (8, .tmp 70)] rfl (Ru.cells ⟨3, n1, 0, 0, 0, 0, 0, false, false, r.tl, r.tu, r.td⟩).toArray _ (by rfl) (built3 3 n1 r.tl r.tu r.td) ?_) | (refine wpList_store_row rfl 29 _ _ rfl gz (Ru.cells ⟨3, n1, 0, 0, 0, 0, 0, false, false, r.tl, r.tu, r.td⟩).toArray rfl rfl 29 _ (HP.out.at 0 rfl) infoRu rfl (one_ru _) ?_))
    have hput := HP.out.put 0 rfl (Ru.cells ⟨3, n1, 0, 0, 0, 0, 0, false, false, r.tl, r.tu, r.td⟩).toArray
    simp only [List.set_cons_succ, List.set_cons_zero] at hput
    generalize World.setRow vp gz _ = vz at hput ⊢
    have HG := Lib.hid hput
    clear hput
    go_wp2_with fail
    (try simp only [Exit.inBlock, Exit.then])
    refine bodyPost_ret (v := .agg (Ru.cells ⟨3, n1, 0, 0, 0, 0, 0, false, false, r.tl, r.tu, r.td⟩).toArray) ?_ rfl ⟨ret_ru HE.out.symm, HG.out.bel⟩
    exact results_cell_row rfl _ _ gz 29 _ (0, 0) _ rfl (HG.out.at 0 rfl) Try.underlying29 rfl infoRu
  · have HE : Hid (stp p r c = ⟨0, 1, 0, 0, 0, 0, 0, false, false, r.tl, r.tu, r.td⟩) := Lib.hid (by unfold stp cle; rw [if_neg (by rw [hco]; decide), if_neg (by rw [hco]; decide), if_pos hco, htm, hre, if_neg h1]; rfl)
    have hn0 := Blk.Bks.nil w
    have hn1 := hn0.alloc p.cells.toArray 23
    have hn2 := hn1.alloc (Ru.cells r).toArray 29
    rw [show (w.alloc (.cells p.cells.toArray 23)).heap.size = w.heap.size + 1 by simp] at hn2
    have hn3 := hn2.alloc c.cells.toArray 31
    rw [show ((w.alloc (.cells p.cells.toArray 23)).alloc (.cells (Ru.cells r).toArray 29)).heap.size = w.heap.size + 1 + 1 by simp] at hn3
    have hn4 := hn3.alloc #[I 0, I 0, I 0, I 0, I 0, I 0, I 0, .bool false, .bool false, I 0, I 0, I 0] 29
    rw [show (((w.alloc (.cells p.cells.toArray 23)).alloc (.cells (Ru.cells r).toArray 29)).alloc (.cells c.cells.toArray 31)).heap.size = w.heap.size + 1 + 1 + 1 by simp] at hn4
    clear hn0
    clear hn1
    clear hn2
    clear hn3
    go_enter Try.func12, Try.ntmps12
    go_upto_region 1 with fail
    generalize World.alloc (World.alloc (World.alloc (World.alloc w _) _) _) _ = v at hn4 ⊢
    generalize hg3 : w.heap.size + 1 + 1 + 1 = gz at hn4 ⊢
    generalize hg2 : w.heap.size + 1 + 1 = gc at hn4 ⊢
    generalize hg1 : w.heap.size + 1 = gr at hn4 ⊢
    generalize hg0 : w.heap.size = gp at hn4 ⊢
    clear hg0 hg1 hg2 hg3
    have H0 := Lib.hid hn4
    clear hn4
    have t_rco : v.cell? ⟨gr, 0, none⟩ = some (I r.co) := H0.out.cell 2 0 rfl rfl
    have t_rtm : v.cell? ⟨gr, 1, none⟩ = some (I r.tm) := H0.out.cell 2 1 rfl rfl
    have t_pred : v.cell? ⟨gp, 7, none⟩ = some (I p.red) := H0.out.cell 3 7 rfl rfl
    rw [hco] at t_rco
    rw [htm] at t_rtm
    rw [hre] at t_pred
    go_wp2_with (first | (refine Row.wpList_load_g 27 _ rfl (by first | rfl | (go_simp; done) | fail) ⟨gr, 9, none⟩ rfl [I r.tl, I r.tu, I r.td] _ (seg H0.out 2 9 rfl _ rfl) Try.underlying27 rfl infoTn ?_) | (refine wpList_build rfl 29 [(0, .const (I 0)), (1, .const (I 1)), (8, .tmp 73)] rfl (Ru.cells ⟨0, 1, 0, 0, 0, 0, 0, false, false, r.tl, r.tu, r.td⟩).toArray _ (by rfl) (built3 0 1 r.tl r.tu r.td) ?_) | (refine wpList_store_row rfl 29 _ _ rfl gz (Ru.cells ⟨0, 1, 0, 0, 0, 0, 0, false, false, r.tl, r.tu, r.td⟩).toArray rfl rfl 29 _ (H0.out.at 0 rfl) infoRu rfl (one_ru _) ?_))
    have hput := H0.out.put 0 rfl (Ru.cells ⟨0, 1, 0, 0, 0, 0, 0, false, false, r.tl, r.tu, r.td⟩).toArray
    simp only [List.set_cons_succ, List.set_cons_zero] at hput
    generalize World.setRow v gz _ = vz at hput ⊢
    have HG := Lib.hid hput
    clear hput
    go_wp2_with fail
    (try simp only [Exit.inBlock, Exit.then])
    refine bodyPost_ret (v := .agg (Ru.cells ⟨0, 1, 0, 0, 0, 0, 0, false, false, r.tl, r.tu, r.td⟩).toArray) ?_ rfl ⟨ret_ru HE.out.symm, HG.out.bel⟩
    exact results_cell_row rfl _ _ gz 29 _ (0, 0) _ rfl (HG.out.at 0 rfl) Try.underlying29 rfl infoRu
theorem rstep_red (p : Ph) (r : Ru) (c : Cu) (k : Int) (hco : r.co = k) (h1 : ¬ k = 1) (h2 : ¬ k = 2) (h3 : ¬ k = 3) (w : World) : Calls Try.prog 12 #[.agg p.cells.toArray, .agg r.cells.toArray, .agg c.cells.toArray] w fun e w' => e = .returned (.agg (Ru.cells (stp p r c)).toArray) ∧ Below w.heap.size w w' := by
  obtain ⟨st, hst⟩ : ∃ x, c.st = x := ⟨_, rfl⟩
  cases st
  · obtain ⟨n1, hn1⟩ : ∃ x, Cnt.more r.tm = x := ⟨_, rfl⟩
    have OM : Hid (∀ W, Calls Try.prog 25 #[.int .i64 r.tm] W fun e w' => e = .returned (.int .i64 n1) ∧ Below W.heap.size W w') := Lib.hid (fun W => by rw [← hn1]; exact moreB _ W)
    have HE : Hid (stp p r c = ⟨0, n1, 0, 0, 0, 0, 0, false, false, r.tl, r.tu, r.td⟩) := Lib.hid (by unfold stp rdR; rw [if_neg (by rw [hco]; exact h1), if_neg (by rw [hco]; exact h2), if_neg (by rw [hco]; exact h3), hst, if_neg (by simp)]; unfold lst; rw [hn1])
    clear hn1
    have hn0 := Blk.Bks.nil w
    have hn1 := hn0.alloc p.cells.toArray 23
    have hn2 := hn1.alloc (Ru.cells r).toArray 29
    rw [show (w.alloc (.cells p.cells.toArray 23)).heap.size = w.heap.size + 1 by simp] at hn2
    have hn3 := hn2.alloc c.cells.toArray 31
    rw [show ((w.alloc (.cells p.cells.toArray 23)).alloc (.cells (Ru.cells r).toArray 29)).heap.size = w.heap.size + 1 + 1 by simp] at hn3
    have hn4 := hn3.alloc #[I 0, I 0, I 0, I 0, I 0, I 0, I 0, .bool false, .bool false, I 0, I 0, I 0] 29
    rw [show (((w.alloc (.cells p.cells.toArray 23)).alloc (.cells (Ru.cells r).toArray 29)).alloc (.cells c.cells.toArray 31)).heap.size = w.heap.size + 1 + 1 + 1 by simp] at hn4
    clear hn0
    clear hn1
    clear hn2
    clear hn3
    go_enter Try.func12, Try.ntmps12
    go_upto_region 1 with fail
    generalize World.alloc (World.alloc (World.alloc (World.alloc w _) _) _) _ = v at hn4 ⊢
    generalize hg3 : w.heap.size + 1 + 1 + 1 = gz at hn4 ⊢
    generalize hg2 : w.heap.size + 1 + 1 = gc at hn4 ⊢
    generalize hg1 : w.heap.size + 1 = gr at hn4 ⊢
    generalize hg0 : w.heap.size = gp at hn4 ⊢
    clear hg0 hg1 hg2 hg3
    have H0 := Lib.hid hn4
    clear hn4
    have t_rco : v.cell? ⟨gr, 0, none⟩ = some (I r.co) := H0.out.cell 2 0 rfl rfl
    have t_cst : v.cell? ⟨gc, 0, none⟩ = some (.bool c.st) := H0.out.cell 1 0 rfl rfl
    rw [hco] at t_rco
    rw [hst] at t_cst
    have z1 : (k == 1) = false := by rw [beq_eq_false_iff_ne]; exact h1
    have z2 : (k == 2) = false := by rw [beq_eq_false_iff_ne]; exact h2
    have z3 : (k == 3) = false := by rw [beq_eq_false_iff_ne]; exact h3
    go_upto_region 22 with fail
    (try dsimp only [Act.put])
    have q1 : ∀ q : QB.By v.heap.size v, q.world.cell? ⟨gr, 1, none⟩ = some (I r.tm) := fun q => (H0.out.by q).cell 2 1 rfl rfl
    refine QT.region v.heap.size 5 (by kernel_rfl) (by kernel_rfl) ?_
    simp only [List.take_succ_cons, List.take_zero]
    repeat first
      | (refine wpQuiet_load rfl 27 _ rfl ⟨gr, 9, none⟩ rfl [I r.tl, I r.tu, I r.td] _ (fun w' ⟨pw, e⟩ => by rw [e]; exact seg (H0.out.by pw) 2 9 rfl _ rfl) Try.underlying27 rfl infoTn ?_
         dsimp only [Act.put]
         simp only [List.setIfInBounds_toArray, List.set_cons_zero, List.set_cons_succ])
      | (quiet_step (first | (go_at_call 25; with_reducible exact QB.call_of (Nat.le_refl _) (fun b => OM.out _))))
    refine wpQuiet_nil ?_
    intro _ hw'
    obtain ⟨pq, rfl⟩ := hw'
    have HP := Lib.hid (H0.out.by pq)
    generalize pq.world = vp at HP ⊢
    simp only [List.drop_succ_cons, List.drop_zero]
    clear q1
    go_wp2_with (first | (refine wpList_build rfl 29 [(0, .const (I 0)), (1, .tmp 89), (8, .tmp 91)] rfl (Ru.cells ⟨0, n1, 0, 0, 0, 0, 0, false, false, r.tl, r.tu, r.td⟩).toArray _ (by rfl) (built3 0 n1 r.tl r.tu r.td) ?_) | (refine wpList_store_row rfl 29 _ _ rfl gz (Ru.cells ⟨0, n1, 0, 0, 0, 0, 0, false, false, r.tl, r.tu, r.td⟩).toArray rfl rfl 29 _ (HP.out.at 0 rfl) infoRu rfl (one_ru _) ?_))
    have hput := HP.out.put 0 rfl (Ru.cells ⟨0, n1, 0, 0, 0, 0, 0, false, false, r.tl, r.tu, r.td⟩).toArray
    simp only [List.set_cons_succ, List.set_cons_zero] at hput
    generalize World.setRow vp gz _ = vz at hput ⊢
    have HG := Lib.hid hput
    clear hput
    go_wp2_with fail
    (try simp only [Exit.inBlock, Exit.then])
    refine bodyPost_ret (v := .agg (Ru.cells ⟨0, n1, 0, 0, 0, 0, 0, false, false, r.tl, r.tu, r.td⟩).toArray) ?_ rfl ⟨ret_ru HE.out.symm, HG.out.bel⟩
    exact results_cell_row rfl _ _ gz 29 _ (0, 0) _ rfl (HG.out.at 0 rfl) Try.underlying29 rfl infoRu
  · obtain ⟨⟨a, b⟩, hf⟩ : ∃ x, ft p.walk p.blinks 0 0 c.pu = x := ⟨_, rfl⟩
    have HE : Hid (stp p r c = ⟨1, 1, a, b, p.gap, 0, 0, false, false, r.tl, r.tu, r.td⟩) := Lib.hid (by unfold stp rdR; rw [if_neg (by rw [hco]; exact h1), if_neg (by rw [hco]; exact h2), if_neg (by rw [hco]; exact h3), hst, if_pos rfl, hf])
    have SE : Hid (∀ W, Calls Try.prog 26 #[.agg p.cells.toArray, .agg #[I 0, I 0], .bool c.pu] W fun e w' => e = .returned (.agg #[I a, I b]) ∧ Below W.heap.size W w') := Lib.hid (fun W => Ped.foot_is hf W)
    clear hf
    have hn0 := Blk.Bks.nil w
    have hn1 := hn0.alloc p.cells.toArray 23
    have hn2 := hn1.alloc (Ru.cells r).toArray 29
    rw [show (w.alloc (.cells p.cells.toArray 23)).heap.size = w.heap.size + 1 by simp] at hn2
    have hn3 := hn2.alloc c.cells.toArray 31
    rw [show ((w.alloc (.cells p.cells.toArray 23)).alloc (.cells (Ru.cells r).toArray 29)).heap.size = w.heap.size + 1 + 1 by simp] at hn3
    have hn4 := hn3.alloc #[I 0, I 0, I 0, I 0, I 0, I 0, I 0, .bool false, .bool false, I 0, I 0, I 0] 29
    rw [show (((w.alloc (.cells p.cells.toArray 23)).alloc (.cells (Ru.cells r).toArray 29)).alloc (.cells c.cells.toArray 31)).heap.size = w.heap.size + 1 + 1 + 1 by simp] at hn4
    clear hn0
    clear hn1
    clear hn2
    clear hn3
    go_enter Try.func12, Try.ntmps12
    go_upto_region 1 with fail
    generalize World.alloc (World.alloc (World.alloc (World.alloc w _) _) _) _ = v at hn4 ⊢
    generalize hg3 : w.heap.size + 1 + 1 + 1 = gz at hn4 ⊢
    generalize hg2 : w.heap.size + 1 + 1 = gc at hn4 ⊢
    generalize hg1 : w.heap.size + 1 = gr at hn4 ⊢
    generalize hg0 : w.heap.size = gp at hn4 ⊢
    clear hg0 hg1 hg2 hg3
    have H0 := Lib.hid hn4
    clear hn4
    have t_rco : v.cell? ⟨gr, 0, none⟩ = some (I r.co) := H0.out.cell 2 0 rfl rfl
    have t_cst : v.cell? ⟨gc, 0, none⟩ = some (.bool c.st) := H0.out.cell 1 0 rfl rfl
    rw [hco] at t_rco
    rw [hst] at t_cst
    have z1 : (k == 1) = false := by rw [beq_eq_false_iff_ne]; exact h1
    have z2 : (k == 2) = false := by rw [beq_eq_false_iff_ne]; exact h2
    have z3 : (k == 3) = false := by rw [beq_eq_false_iff_ne]; exact h3
    go_upto_region 21 with fail
    (try dsimp only [Act.put])
    have q3 : ∀ q : QB.By v.heap.size v, q.world.cell? ⟨gc, 3, none⟩ = some (.bool c.pu) := fun q => (H0.out.by q).cell 1 3 rfl rfl
    have q2 : ∀ q : QB.By v.heap.size v, q.world.cell? ⟨gp, 2, none⟩ = some (I p.gap) := fun q => (H0.out.by q).cell 3 2 rfl rfl
    refine QT.region v.heap.size 9 (by kernel_rfl) (by kernel_rfl) ?_
    simp only [List.take_succ_cons, List.take_zero]
    repeat first
      | (refine wpQuiet_load rfl 23 _ rfl ⟨gp, 0, none⟩ rfl p.cells _ (fun w' ⟨pw, e⟩ => by rw [e]; exact seg (H0.out.by pw) 3 0 rfl _ rfl) Try.underlying23 rfl infoP ?_
         dsimp only [Act.put]
         simp only [List.setIfInBounds_toArray, List.set_cons_zero, List.set_cons_succ])
      | (refine wpQuiet_load rfl 27 _ rfl ⟨gr, 9, none⟩ rfl [I r.tl, I r.tu, I r.td] _ (fun w' ⟨pw, e⟩ => by rw [e]; exact seg (H0.out.by pw) 2 9 rfl _ rfl) Try.underlying27 rfl infoTn ?_
         dsimp only [Act.put]
         simp only [List.setIfInBounds_toArray, List.set_cons_zero, List.set_cons_succ])
      | (refine wpQuiet_build rfl 25 [] rfl #[I 0, I 0] [] rfl built0 ?_
         dsimp only [Act.put]
         simp only [List.setIfInBounds_toArray, List.set_cons_zero, List.set_cons_succ])
      | (quiet_step (first | (go_at_call 26; with_reducible exact QB.call_of (Nat.le_refl _) (fun b => SE.out _))))
    refine wpQuiet_nil ?_
    intro _ hw'
    obtain ⟨pq, rfl⟩ := hw'
    have HP := Lib.hid (H0.out.by pq)
    generalize pq.world = vp at HP ⊢
    simp only [List.drop_succ_cons, List.drop_zero]
    clear q3 q2
    go_wp2_with (first | (refine wpList_build rfl 29 [(0, .const (I 1)), (1, .const (I 1)), (2, .tmp 81), (3, .tmp 83), (8, .tmp 85)] rfl (Ru.cells ⟨1, 1, a, b, p.gap, 0, 0, false, false, r.tl, r.tu, r.td⟩).toArray _ (by rfl) (built5 1 1 a b p.gap r.tl r.tu r.td) ?_) | (refine wpList_store_row rfl 29 _ _ rfl gz (Ru.cells ⟨1, 1, a, b, p.gap, 0, 0, false, false, r.tl, r.tu, r.td⟩).toArray rfl rfl 29 _ (HP.out.at 0 rfl) infoRu rfl (one_ru _) ?_))
    have hput := HP.out.put 0 rfl (Ru.cells ⟨1, 1, a, b, p.gap, 0, 0, false, false, r.tl, r.tu, r.td⟩).toArray
    simp only [List.set_cons_succ, List.set_cons_zero] at hput
    generalize World.setRow vp gz _ = vz at hput ⊢
    have HG := Lib.hid hput
    clear hput
    go_wp2_with fail
    (try simp only [Exit.inBlock, Exit.then])
    refine bodyPost_ret (v := .agg (Ru.cells ⟨1, 1, a, b, p.gap, 0, 0, false, false, r.tl, r.tu, r.td⟩).toArray) ?_ rfl ⟨ret_ru HE.out.symm, HG.out.bel⟩
    exact results_cell_row rfl _ _ gz 29 _ (0, 0) _ rfl (HG.out.at 0 rfl) Try.underlying29 rfl infoRu
theorem rstep_any (p : Ph) (r : Ru) (c : Cu) (w : World) : Calls Try.prog 12 #[.agg p.cells.toArray, .agg r.cells.toArray, .agg c.cells.toArray] w fun e w' => e = .returned (.agg (Ru.cells (stp p r c)).toArray) ∧ Below w.heap.size w w' := by
  by_cases h1 : r.co = 1
  · cases he : c.en with
    | true => exact rstep_end p r c h1 he w
    | false => exact rstep_stay p r c h1 he w
  by_cases h2 : r.co = 2
  · exact rstep_yellow p r c h2 w
  by_cases h3 : r.co = 3
  · exact rstep_clear p r c h3 w
  exact rstep_red p r c r.co rfl h1 h2 h3 w
theorem rbegin_any (p : Ph) (w : World) : Calls Try.prog 16 #[.agg p.cells.toArray] w fun e w' => e = .returned (.agg (Ru.cells (bgn p)).toArray) ∧ Below w.heap.size w w' := by
  have hn0 := Blk.Bks.nil w
  have hn1 := hn0.alloc p.cells.toArray 23
  have hn2 := hn1.alloc #[I 0, I 0, I 0, I 0, I 0, I 0, I 0, .bool false, .bool false, I 0, I 0, I 0] 29
  rw [show (w.alloc (.cells p.cells.toArray 23)).heap.size = w.heap.size + 1 by simp] at hn2
  clear hn0
  clear hn1
  go_enter Try.func16, Try.ntmps16
  go_upto_region 1 with fail
  generalize World.alloc (World.alloc w _) _ = v at hn2 ⊢
  generalize hg1 : w.heap.size + 1 = gz at hn2 ⊢
  generalize hg0 : w.heap.size = gp at hn2 ⊢
  clear hg0 hg1
  have H0 := Lib.hid hn2
  clear hn2
  have t_pmax : v.cell? ⟨gp, 3, none⟩ = some (I p.max) := H0.out.cell 1 3 rfl rfl
  go_wp2_with (first | (refine wpList_build rfl 27 [(0, .tmp 4)] rfl #[I p.max, I 0, I 0] _ (by rfl) (builtT p.max) ?_) | (refine wpList_build rfl 29 [(0, .const (I 0)), (1, .const (I 9999)), (8, .tmp 5)] rfl (Ru.cells (bgn p)).toArray _ (by rfl) (built3 0 9999 p.max 0 0) ?_) | (refine wpList_store_row rfl 29 _ _ rfl gz (Ru.cells (bgn p)).toArray rfl rfl 29 _ (H0.out.at 0 rfl) infoRu rfl (one_ru _) ?_))
  have hput := H0.out.put 0 rfl (Ru.cells (bgn p)).toArray
  simp only [List.set_cons_succ, List.set_cons_zero] at hput
  generalize World.setRow v gz _ = vz at hput ⊢
  have HG := Lib.hid hput
  clear hput
  go_wp2_with fail
  (try simp only [Exit.inBlock, Exit.then])
  refine bodyPost_ret (v := .agg (Ru.cells (bgn p)).toArray) ?_ rfl ⟨rfl, HG.out.bel⟩
  exact results_cell_row rfl _ _ gz 29 _ (0, 0) _ rfl (HG.out.at 0 rfl) Try.underlying29 rfl infoRu
theorem kept_any (p : Ph) (r : Ru) (c : Cu) (w : World) : Calls Try.prog 14 #[.agg p.cells.toArray, .agg r.cells.toArray, .agg c.cells.toArray] w fun e w' => e = .returned (.bool (hld p r c)) ∧ Below w.heap.size w w' := by
  obtain ⟨du, hdu⟩ : ∃ x, duB p c (lon p r c) = x := ⟨_, rfl⟩
  obtain ⟨D, hD⟩ : ∃ D, sty p c (lon p r c) = D := ⟨_, rfl⟩
  obtain ⟨k, hk⟩ : ∃ x, r.co = x := ⟨_, rfl⟩
  obtain ⟨en, hen⟩ : ∃ x, c.en = x := ⟨_, rfl⟩
  obtain ⟨ho, hho⟩ : ∃ x, c.ho = x := ⟨_, rfl⟩
  have HE : Hid (hld p r c = (decide (k = 1) && (!en && (ho && du)))) := Lib.hid (by unfold hld; rw [hdu, hk, hen, hho])
  have GN : Hid (∀ W, Calls Try.prog 24 #[.agg p.cells.toArray, .agg r.cells.toArray, .agg c.cells.toArray] W fun e w' => e = .returned (.tuple #[.agg D.cells.toArray, .bool du]) ∧ Below W.heap.size W w') := Lib.hid (fun W => by rw [← hD, ← hdu]; exact green_any p r c W)
  clear hD hdu
  have hn0 := Blk.Bks.nil w
  have hn1 := hn0.alloc p.cells.toArray 23
  have hn2 := hn1.alloc (Ru.cells r).toArray 29
  rw [show (w.alloc (.cells p.cells.toArray 23)).heap.size = w.heap.size + 1 by simp] at hn2
  have hn3 := hn2.alloc c.cells.toArray 31
  rw [show ((w.alloc (.cells p.cells.toArray 23)).alloc (.cells (Ru.cells r).toArray 29)).heap.size = w.heap.size + 1 + 1 by simp] at hn3
  clear hn0
  clear hn1
  clear hn2
  go_enter Try.func14, Try.ntmps14
  go_upto_region 1 with fail
  generalize World.alloc (World.alloc (World.alloc w _) _) _ = v at hn3 ⊢
  generalize hg2 : w.heap.size + 1 + 1 = gc at hn3 ⊢
  generalize hg1 : w.heap.size + 1 = gr at hn3 ⊢
  generalize hg0 : w.heap.size = gp at hn3 ⊢
  clear hg0 hg1 hg2
  have H0 := Lib.hid hn3
  clear hn3
  have t_rco : v.cell? ⟨gr, 0, none⟩ = some (I r.co) := H0.out.cell 1 0 rfl rfl
  have t_cen : v.cell? ⟨gc, 1, none⟩ = some (.bool c.en) := H0.out.cell 0 1 rfl rfl
  rw [hk] at t_rco
  rw [hen] at t_cen
  by_cases h1 : k = 1
  rotate_left
  · have z1 : (k == 1) = false := by rw [beq_eq_false_iff_ne]; exact h1
    replace HE : Hid (hld p r c = false) := Lib.hid (by rw [HE.out]; simp [*])
    go_wp2
    go_ret
    exact ⟨ret_bool HE.out.symm, H0.out.bel⟩
  subst h1
  cases en
  rotate_left
  · replace HE : Hid (hld p r c = false) := Lib.hid (by rw [HE.out]; simp [*])
    go_wp2
    go_ret
    exact ⟨ret_bool HE.out.symm, H0.out.bel⟩
  go_wp2_with (first | (refine Row.wpList_load_g 23 _ rfl (by first | rfl | (go_simp; done) | fail) ⟨gp, 0, none⟩ rfl p.cells _ (seg H0.out 2 0 rfl _ rfl) Try.underlying23 rfl infoP ?_) | (refine Row.wpList_load_g 29 _ rfl (by first | rfl | (go_simp; done) | fail) ⟨gr, 0, none⟩ rfl r.cells _ (seg H0.out 1 0 rfl _ rfl) Try.underlying29 rfl infoRu ?_) | (refine Row.wpList_load_g 31 _ rfl (by first | rfl | (go_simp; done) | fail) ⟨gc, 0, none⟩ rfl c.cells _ (seg H0.out 0 0 rfl _ rfl) Try.underlying31 rfl infoCu ?_))
  refine (GN.out _).mono ?_
  rintro e v1 ⟨rfl, bc⟩
  have H1 := Lib.hid (H0.out.step bc)
  clear bc
  clear t_rco t_cen
  go_upto_region 4 with (refine Row.wpList_store_new rfl 29 _ _ rfl _ _ D.cells.toArray rfl rfl rfl infoRu rfl (one_ru _) ?_)
  have hn := H1.out.alloc D.cells.toArray 29
  generalize World.alloc v1 _ = v2 at hn ⊢
  generalize v1.heap.size = gn at hn ⊢
  have H2 := Lib.hid hn
  clear hn
  clear H0 H1 GN
  have t_cho : v2.cell? ⟨gc, 5, none⟩ = some (.bool c.ho) := H2.out.cell 1 5 rfl rfl
  rw [hho] at t_cho
  clear hho
  cases du
  · replace HE : Hid (hld p r c = false) := Lib.hid (by rw [HE.out]; simp [*])
    go_wp2
    go_ret
    exact ⟨ret_bool HE.out.symm, H2.out.bel⟩
  cases ho
  · replace HE : Hid (hld p r c = false) := Lib.hid (by rw [HE.out]; simp [*])
    go_wp2
    go_ret
    exact ⟨ret_bool HE.out.symm, H2.out.bel⟩
  · replace HE : Hid (hld p r c = true) := Lib.hid (by rw [HE.out]; simp [*])
    go_wp2
    go_ret
    exact ⟨ret_bool HE.out.symm, H2.out.bel⟩
end Ru
end Go.Proofs.Ytbpfknkbiaplpaa
