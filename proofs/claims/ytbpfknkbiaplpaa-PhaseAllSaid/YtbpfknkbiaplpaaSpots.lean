/- The contract of the document's Spots. -/
import Derived.Test.YtbpfknkbiaplpaaRows
import Derived.Test.YtbpfknkbiaplpaaPlaceM
import Derived.Test.YtbpfknkbiaplpaaGath
import Derived.Test.YtbpfknkbiaplpaaCloneB
import Derived.Test.YtbpfknkbiaplpaaMayE
namespace Go.Proofs.Ytbpfknkbiaplpaa.Spots
open Go.ChangeShapes Go.WideShapes Go.ChangeAt Go.RowKit
open Tab Clone PlaceM Gath
open May (ret_bool chain infoP infoG infoD infoR infoB infoT St)
set_option linter.unusedVariables false
set_option linter.unusedSimpArgs false
theorem info4 : (Try.prog.info? 93).map (fun i => (i.zero, i.size, i.bytes)) = some (some (.agg #[I 0, I 0, I 0, I 0]), 4, 32) := by kernel_rfl
abbrev OwnsS (B : Nat) (w : World) (v : Value) (l : List Spt) : Prop := Owns Spt.cells 4 B w 93 v l
/-- The block under a slice is one of places. -/
def Typed (w : World) (s : Sl) : Prop := ∀ x, s.a = some x → ∃ cs : Array Value, w.heap[x.block]? = some (.cells cs 93 (0, 0))
theorem Typed.below {w w' : World} {s : Sl} (h : Typed w s) (hb : Below w.heap.size w w') : Typed w' s := fun x hx => by
  obtain ⟨cs, hc⟩ := h x hx
  exact ⟨cs, (hb.block _ (Array.getElem?_eq_some_iff.1 hc).1).trans hc⟩
theorem own_row_t {B : Nat} {w : World} {v : Value} {l : List Spt} (h : OwnsS B w v l) : ∃ s : Sl, v = s.val l.length ∧ RowOf 4 Spt.cells w s l ∧ Typed w s := by
  obtain ⟨s, hs, hr⟩ := Owns.row h (enc := Spt.cells) (fun _ => rfl)
  refine ⟨s, hs, hr, fun x hx => ?_⟩
  rcases h.2 with ⟨e, _⟩ | ⟨g, cap, cur, e, h1, h2, _⟩
  · rw [hs] at e
    simp [Sl.val, hx] at e
  · rw [hs] at e
    simp [Sl.val, hx] at e
    obtain ⟨rfl, _⟩ := e
    exact ⟨cur, h2⟩
set_option maxRecDepth 100000 in
set_option maxHeartbeats 8000000 in
theorem spots_typed (T : Tab) (h : Hd) (w : World) (ht : IsTab w h T) (sm : Few T) :
    Calls Try.prog 76 #[.agg (T.cells h).toArray] w fun e w' => ∃ s : Sl, e = .returned (s.val (spots T).length) ∧ RowOf 4 Spt.cells w' s (spots T) ∧ Typed w' s ∧ Below w.heap.size w w' := by
  have C := Lib.hid (cells_ok ht)
  generalize (T.cells h).toArray = cs at C ⊢
  obtain ⟨gs, hgd, hgr⟩ := ht.groups
  have Hgr := Lib.hid hgr
  have Hgd := Lib.hid hgd
  have SM := Lib.hid sm
  have hsz := C.out.size
  have S0 := Lib.hid (St.box (cs := cs) ht)
  have HZ : Hid ((w.alloc (.cells cs 45)).heap.size = w.heap.size + 1) := Lib.hid (by simp)
  have Hgl := Lib.hid (show T.groups.length = gs.length by rw [← hgd, List.length_map])
  have Kg := hgr.1.len
  unfold maxLen at Kg
  obtain ⟨i0, hi, hz0, hz1, hz2⟩ := info_parts info4
  have LEN : Hid (∀ n, (allS 0 (T.groups.take n)).length ≤ 2000000) := Lib.hid (fun n => small_len (by have := sm.groups; rw [List.length_take]; omega) (fun x hx => sm.rows x (List.mem_of_mem_take hx)))
  clear ht hgr hgd sm
  go_enter Try.func76, Try.ntmps76
  go_upto_region 1 with fail
  generalize w.alloc (.cells cs 45) = w1 at S0 HZ ⊢
  clear hsz
  have q104 := S0.out.cell C.out.g
  rw [Hgl.out] at q104
  have Q104 := Lib.hid q104
  clear q104
  have LIFT : Hid (∀ W, Below w1.heap.size w1 W → ∀ (z : Addr) (c : Value), w1.cell? z = some c → W.cell? z = some c) := Lib.hid (fun W hb z c hc => (hb.cell (World.block_lt_of_cell? w1 _ hc)).trans hc)
  go_wp2_with fail
  go_loopw [3, 4] (fun v g wr => ∃ q : Nat, q ≤ gs.length ∧ g = .int .i64 q ∧ OwnsS w1.heap.size wr v (allS 0 (T.groups.take q)) ∧ Below w1.heap.size w1 wr) (fun _ g _ => gs.length - (intOf g).toNat)
  case atStart => exact ⟨0, by omega, rfl, Owns.nil, Below.refl _ _⟩
  case round =>
    obtain ⟨q, hq, rfl, hown, hbel⟩ := hrel
    have HO := Lib.hid hown
    have HB := Lib.hid hbel
    clear hown hbel
    have p104 := LIFT.out _ HB.out _ _ Q104.out
    by_cases hlt : q < gs.length
    · have hv := List.getElem?_eq_getElem hlt
      generalize gs[q] = u at hv
      obtain ⟨x, hx, hc⟩ := (Hgr.out.1.below S0.out.bel).at hv
      have hok := (Hgr.out.2 u (List.mem_of_getElem? hv)).below S0.out.bel
      have HD : Hid (T.groups[q]? = some u.data) := Lib.hid (by rw [← Hgd.out, List.getElem?_map, hv]; rfl)
      have hsm := SM.out.rows u.data (by rw [← Hgd.out]; exact List.mem_map.2 ⟨u, List.mem_of_getElem? hv, rfl⟩)
      obtain ⟨l0, l1, ⟨a0, cap0⟩, ⟨a1, cap1⟩⟩ := u
      have hl0 : l0.length ≤ 1000 := hsm.1
      have hl1 : l1.length ≤ 1000 := hsm.2
      have K0 := hok.1.len
      have K1 := hok.2.len
      unfold maxLen at K0 K1
      have H0 := Lib.hid hok.1
      have H1 := Lib.hid hok.2
      have QQ : Hid (w1.cell? ⟨w.heap.size, 104, none⟩ = some (.slice (some x) gs.length h.g.cap)) := by have := Q104.out; simp only [Sl.val, hx] at this; exact this
      have c0 := hc 0 _ rfl
      have c1 := hc 1 _ rfl
      rw [add_zero] at c0
      rw [add_one] at c1
      have HC0 := Lib.hid c0
      have HC1 := Lib.hid c1
      clear hv hc hok hx c0 c1 hsm
      go_wp2_with fail
      clear p104
      go_loopw [3, 5] (fun v k wk => ∃ r : Nat, r ≤ 2 ∧ k = .int .i64 r ∧ OwnsS w1.heap.size wk v (allS 0 (T.groups.take q) ++ ((if 0 < r then rowS q 0 0 l0 else []) ++ (if 1 < r then rowS q 1 0 l1 else []))) ∧ Below w1.heap.size w1 wk) (fun _ k _ => 2 - (intOf k).toNat)
      case atStart => exact ⟨0, by omega, rfl, by simpa using HO.out, HB.out⟩
      case round =>
        obtain ⟨r, hr, rfl, hown, hbel⟩ := hrel
        have HOr := Lib.hid hown
        have HBr := Lib.hid hbel
        clear hown hbel
        have hr2 : r = 0 ∨ r = 1 ∨ r = 2 := by omega
        rcases hr2 with rfl | rfl | rfl
        · rw [show ((0 : Nat) : Int) = (0 : Int) from rfl]
          have HO1 : Hid (OwnsS w1.heap.size wr u3 (allS 0 (T.groups.take q))) := Lib.hid (by simpa using HOr.out)
          clear HOr
          have LN : Hid ((allS 0 (T.groups.take q)).length ≤ 2002000) := Lib.hid (by have := LEN.out q; have h2 := rowS_len q 0 0 l0; (try rw [List.length_append]); omega)
          go_wp2_with fail
          go_loopw [3, 6] (fun v i wj => ∃ j : Nat, j ≤ l0.length ∧ i = .int .i64 j ∧ OwnsS w1.heap.size wj v (allS 0 (T.groups.take q) ++ rowS q 0 0 (l0.take j)) ∧ Below w1.heap.size w1 wj) (fun _ i _ => l0.length - (intOf i).toNat)
          case atStart => exact ⟨0, by omega, rfl, by simpa [rowS] using HO1.out, HBr.out⟩
          case round =>
            obtain ⟨j, hj, rfl, hown, hbel⟩ := hrel
            have HOj := Lib.hid hown
            have HBj := Lib.hid hbel
            clear hown hbel
            have p104 := LIFT.out _ HBj.out _ _ QQ.out
            by_cases hjl : j < l0.length
            · have hv := List.getElem?_eq_getElem hjl
              generalize l0[j] = p at hv
              obtain ⟨y, hy, hp⟩ := IntRow.at (H0.out.below HBj.out) hv
              obtain rfl : a0 = some y := hy
              have p0 : wr.cell? _ = some (.slice (some y) l0.length cap0) := LIFT.out _ HBj.out _ _ HC0.out
              have HV := Lib.hid hv
              clear hv
              have hsz := HBj.out.size
              by_cases hp8 : 0 ≤ p ∧ p < 8
              · obtain ⟨hp0, hp1⟩ := hp8
                have HS : Hid (allS 0 (T.groups.take q) ++ rowS q 0 0 (l0.take (j + 1)) = (allS 0 (T.groups.take q) ++ rowS q 0 0 (l0.take j)) ++ [⟨q, 0, j, p⟩]) := Lib.hid (by rw [row_hit HV.out hp0 hp1, ← List.append_assoc])
                have hlen : (allS 0 (T.groups.take q) ++ rowS q 0 0 (l0.take j)).length ≤ 2003000 := by have := LN.out; have h2 := rowS_len q 0 0 (l0.take j); rw [List.length_append]; rw [List.length_take] at h2; omega
                have hown := HOj.out
                generalize allS 0 (T.groups.take q) ++ rowS q 0 0 (l0.take j) = P1 at hown hlen HS
                have hown2 : wr.ownsRow w1.heap.size 93 4 u3 P1.length (P1.flatMap Spt.cells) := hown
                clear hown HOj
                go_wp2_with (at_builtin; refine wpList_append_own _ rfl _ _ 107 rfl w1.heap.size 93 i0 (.agg #[I 0, I 0, I 0, I 0]) 4 32 Try.underlying107 hi hz0 hz1 hz2 rfl (by decide) _ _ _ rfl (hown2.alloc _) ⟨wr.heap.size, 0, none⟩ 1 1 (Spt.cells ⟨q, 0, j, p⟩) rfl rfl ?c1 ?c2 ?c3 ?c4 ?c5 ?_)
                case c1 =>
                  intro m u hm
                  match m, hm with
                  | 0, hm | 1, hm | 2, hm | 3, hm => simp [Spt.cells] at hm; subst hm; simp [Addr.add]
                case c2 => intro u hu; simp [Spt.cells] at hu; rcases hu with rfl | rfl | rfl | rfl <;> rfl
                case c3 => unfold maxLen; omega
                case c4 => omega
                case c5 => simp; omega
                intro v' w2 hown' hgrow hnil'
                have HB2 : Hid (Below w1.heap.size w1 w2) := Lib.hid ((HBj.out.alloc hsz _).grown hgrow (by simp; omega) fun m hm => (show OwnsS w1.heap.size wr u3 P1 from hown2).blk m hm)
                have HO2 : Hid (OwnsS w1.heap.size w2 v' (P1 ++ [⟨q, 0, j, p⟩])) := Lib.hid (Owns.snoc hown')
                clear hown' hgrow hown2 hnil'
                go_wp2
                go_roundw
                case rel => exact ⟨j + 1, by omega, by go_num, by rw [HS.out]; exact HO2.out, HB2.out⟩
                case measure => simp [intOf]; omega
              · have HS : Hid (allS 0 (T.groups.take q) ++ rowS q 0 0 (l0.take (j + 1)) = allS 0 (T.groups.take q) ++ rowS q 0 0 (l0.take j)) := Lib.hid (by rw [row_miss HV.out hp8])
                by_cases hp0 : 0 ≤ p
                · have hp1 : ¬ p < 8 := fun h => hp8 ⟨hp0, h⟩
                  clear hp8
                  go_wp2
                  go_roundw
                  case rel => exact ⟨j + 1, by omega, by go_num, by rw [HS.out]; exact HOj.out, HBj.out⟩
                  case measure => simp [intOf]; omega
                · clear hp8
                  go_wp2
                  go_roundw
                  case rel => exact ⟨j + 1, by omega, by go_num, by rw [HS.out]; exact HOj.out, HBj.out⟩
                  case measure => simp [intOf]; omega
            · have p0 : wr.cell? _ = some (.slice a0 l0.length cap0) := LIFT.out _ HBj.out _ _ HC0.out
              have HE : Hid (rowS q 0 0 (l0.take j) = rowS q 0 0 l0) := Lib.hid (by rw [List.take_of_length_le (by omega)])
              go_wp2
              go_roundw
              case rel => exact ⟨0 + 1, by omega, by go_num, by have := HOj.out; rw [HE.out] at this; simpa using this, HBj.out⟩
              case measure => simp [intOf]
        · rw [show ((1 : Nat) : Int) = (1 : Int) from rfl]
          have HO1 : Hid (OwnsS w1.heap.size wr u3 (allS 0 (T.groups.take q) ++ rowS q 0 0 l0)) := Lib.hid (by simpa using HOr.out)
          clear HOr
          have LN : Hid ((allS 0 (T.groups.take q) ++ rowS q 0 0 l0).length ≤ 2002000) := Lib.hid (by have := LEN.out q; have h2 := rowS_len q 0 0 l0; (try rw [List.length_append]); omega)
          go_wp2_with fail
          go_loopw [3, 6] (fun v i wj => ∃ j : Nat, j ≤ l1.length ∧ i = .int .i64 j ∧ OwnsS w1.heap.size wj v (allS 0 (T.groups.take q) ++ rowS q 0 0 l0 ++ rowS q 1 0 (l1.take j)) ∧ Below w1.heap.size w1 wj) (fun _ i _ => l1.length - (intOf i).toNat)
          case atStart => exact ⟨0, by omega, rfl, by simpa [rowS] using HO1.out, HBr.out⟩
          case round =>
            obtain ⟨j, hj, rfl, hown, hbel⟩ := hrel
            have HOj := Lib.hid hown
            have HBj := Lib.hid hbel
            clear hown hbel
            have p104 := LIFT.out _ HBj.out _ _ QQ.out
            by_cases hjl : j < l1.length
            · have hv := List.getElem?_eq_getElem hjl
              generalize l1[j] = p at hv
              obtain ⟨y, hy, hp⟩ := IntRow.at (H1.out.below HBj.out) hv
              obtain rfl : a1 = some y := hy
              have p0 : wr.cell? _ = some (.slice (some y) l1.length cap1) := LIFT.out _ HBj.out _ _ HC1.out
              have HV := Lib.hid hv
              clear hv
              have hsz := HBj.out.size
              by_cases hp8 : 0 ≤ p ∧ p < 8
              · obtain ⟨hp0, hp1⟩ := hp8
                have HS : Hid (allS 0 (T.groups.take q) ++ rowS q 0 0 l0 ++ rowS q 1 0 (l1.take (j + 1)) = (allS 0 (T.groups.take q) ++ rowS q 0 0 l0 ++ rowS q 1 0 (l1.take j)) ++ [⟨q, 1, j, p⟩]) := Lib.hid (by rw [row_hit HV.out hp0 hp1, ← List.append_assoc])
                have hlen : (allS 0 (T.groups.take q) ++ rowS q 0 0 l0 ++ rowS q 1 0 (l1.take j)).length ≤ 2003000 := by have := LN.out; have h2 := rowS_len q 1 0 (l1.take j); rw [List.length_append]; rw [List.length_take] at h2; omega
                have hown := HOj.out
                generalize allS 0 (T.groups.take q) ++ rowS q 0 0 l0 ++ rowS q 1 0 (l1.take j) = P1 at hown hlen HS
                have hown2 : wr.ownsRow w1.heap.size 93 4 u3 P1.length (P1.flatMap Spt.cells) := hown
                clear hown HOj
                go_wp2_with (at_builtin; refine wpList_append_own _ rfl _ _ 107 rfl w1.heap.size 93 i0 (.agg #[I 0, I 0, I 0, I 0]) 4 32 Try.underlying107 hi hz0 hz1 hz2 rfl (by decide) _ _ _ rfl (hown2.alloc _) ⟨wr.heap.size, 0, none⟩ 1 1 (Spt.cells ⟨q, 1, j, p⟩) rfl rfl ?c1 ?c2 ?c3 ?c4 ?c5 ?_)
                case c1 =>
                  intro m u hm
                  match m, hm with
                  | 0, hm | 1, hm | 2, hm | 3, hm => simp [Spt.cells] at hm; subst hm; simp [Addr.add]
                case c2 => intro u hu; simp [Spt.cells] at hu; rcases hu with rfl | rfl | rfl | rfl <;> rfl
                case c3 => unfold maxLen; omega
                case c4 => omega
                case c5 => simp; omega
                intro v' w2 hown' hgrow hnil'
                have HB2 : Hid (Below w1.heap.size w1 w2) := Lib.hid ((HBj.out.alloc hsz _).grown hgrow (by simp; omega) fun m hm => (show OwnsS w1.heap.size wr u3 P1 from hown2).blk m hm)
                have HO2 : Hid (OwnsS w1.heap.size w2 v' (P1 ++ [⟨q, 1, j, p⟩])) := Lib.hid (Owns.snoc hown')
                clear hown' hgrow hown2 hnil'
                go_wp2
                go_roundw
                case rel => exact ⟨j + 1, by omega, by go_num, by rw [HS.out]; exact HO2.out, HB2.out⟩
                case measure => simp [intOf]; omega
              · have HS : Hid (allS 0 (T.groups.take q) ++ rowS q 0 0 l0 ++ rowS q 1 0 (l1.take (j + 1)) = allS 0 (T.groups.take q) ++ rowS q 0 0 l0 ++ rowS q 1 0 (l1.take j)) := Lib.hid (by rw [row_miss HV.out hp8])
                by_cases hp0 : 0 ≤ p
                · have hp1 : ¬ p < 8 := fun h => hp8 ⟨hp0, h⟩
                  clear hp8
                  go_wp2
                  go_roundw
                  case rel => exact ⟨j + 1, by omega, by go_num, by rw [HS.out]; exact HOj.out, HBj.out⟩
                  case measure => simp [intOf]; omega
                · clear hp8
                  go_wp2
                  go_roundw
                  case rel => exact ⟨j + 1, by omega, by go_num, by rw [HS.out]; exact HOj.out, HBj.out⟩
                  case measure => simp [intOf]; omega
            · have p0 : wr.cell? _ = some (.slice a1 l1.length cap1) := LIFT.out _ HBj.out _ _ HC1.out
              have HE : Hid (rowS q 1 0 (l1.take j) = rowS q 1 0 l1) := Lib.hid (by rw [List.take_of_length_le (by omega)])
              go_wp2
              go_roundw
              case rel => exact ⟨1 + 1, by omega, by go_num, by have := HOj.out; rw [HE.out] at this; simpa using this, HBj.out⟩
              case measure => simp [intOf]
        · have HN : Hid (allS 0 (T.groups.take (q + 1)) = allS 0 (T.groups.take q) ++ (rowS q 0 0 l0 ++ rowS q 1 0 l1)) := Lib.hid (all_step HD.out)
          go_wp2
          go_roundw
          case rel => exact ⟨q + 1, by omega, by go_num, by rw [HN.out]; simpa using HOr.out, HBr.out⟩
          case measure => simp [intOf]; omega
    · have HE : Hid (allS 0 (T.groups.take q) = spots T) := Lib.hid (by rw [List.take_of_length_le (by rw [Hgl.out]; omega)]; rfl)
      obtain ⟨s, hs, hrow, hty⟩ := own_row_t HO.out
      rw [HE.out] at hs hrow
      have HR := Lib.hid hrow
      have HT := Lib.hid hty
      have HF : Hid (Below w.heap.size w wr) := Lib.hid (S0.out.bel.trans (HB.out.mono S0.out.bel.size))
      clear hrow hty HE
      subst hs
      go_wp2
      go_ret
      exact ⟨s, rfl, HR.out, HT.out, HF.out⟩
theorem spots_any (T : Tab) (h : Hd) (w : World) (ht : IsTab w h T) (sm : Few T) :
    Calls Try.prog 76 #[.agg (T.cells h).toArray] w fun e w' => ∃ s : Sl, e = .returned (s.val (spots T).length) ∧ RowOf 4 Spt.cells w' s (spots T) ∧ Below w.heap.size w w' := by
  refine (spots_typed T h w ht sm).mono ?_
  rintro e w' ⟨s, h1, h2, _, h3⟩
  exact ⟨s, h1, h2, h3⟩
end Go.Proofs.Ytbpfknkbiaplpaa.Spots
