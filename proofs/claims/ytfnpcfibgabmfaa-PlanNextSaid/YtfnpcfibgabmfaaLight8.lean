/- The contract of the statement's own light (stage 8): where it says yes, the groups are few and their rows short. -/
import Derived.Test.YtfnpcfibgabmfaaRows
import Derived.Test.YtfnpcfibgabmfaaCloneB
import Derived.Test.YtfnpcfibgabmfaaMayE
import Derived.Test.YtfnpcfibgabmfaaPlaceM
namespace Go.Proofs.Ytfnpcfibgabmfaa.Light8
open Go.ChangeShapes Go.WideShapes Go.ChangeAt Go.RowKit
open Tab Clone
open May (ret_bool chain take_succ' infoP infoG infoD infoR infoB infoT St)
set_option linter.unusedVariables false
set_option linter.unusedSimpArgs false
def Ok (gs : List Gr) (q : Nat) : Prop := ∀ g ∈ gs.take q, g.r0.length ≤ 12 ∧ g.r1.length ≤ 12
theorem Ok.step {gs : List Gr} {q : Nat} {v : Gr} (h : Ok gs q) (hv : gs[q]? = some v) (h0 : ¬ 12 < v.r0.length) (h1 : ¬ 12 < v.r1.length) : Ok gs (q + 1) := by
  intro g hg
  rw [take_succ' gs q v hv] at hg
  rcases List.mem_append.1 hg with hg | hg
  · exact h g hg
  · obtain rfl : g = v := by simpa using hg
    omega
def IsLight (T : Tab) : Prop := T.groups.length ≤ 8 ∧ ∀ g ∈ T.groups, g.1.length ≤ 12 ∧ g.2.length ≤ 12
instance (T : Tab) : Decidable (IsLight T) := by unfold IsLight; infer_instance
theorem IsLight.few {T : Tab} (h : IsLight T) : PlaceM.Few T := by
  obtain ⟨h1, h5⟩ := h
  exact ⟨by omega, fun g hg => by have := h5 g hg; omega⟩
set_option maxRecDepth 10000 in
set_option maxHeartbeats 4000000 in
theorem light_any (T : Tab) (h : Hd) (w : World) (ht : IsTab w h T) :
    Calls Try.prog 19 #[.agg (T.cells h).toArray] w fun e w' => e = .returned (.bool (decide (IsLight T))) ∧ Below w.heap.size w w' := by
  have C := Lib.hid (cells_ok ht)
  generalize (T.cells h).toArray = cs at C ⊢
  obtain ⟨gs, hgd, hgr⟩ := ht.groups
  have Hgr := Lib.hid hgr
  have Hgd := Lib.hid hgd
  have hsz := C.out.size
  have S0 := Lib.hid (St.box (cs := cs) ht)
  have Hgl := Lib.hid (show T.groups.length = gs.length by rw [← hgd, List.length_map])
  have Kg := hgr.1.len
  unfold maxLen at Kg
  clear ht hgr hgd
  go_enter Try.func19, Try.ntmps19
  go_upto_region 1 with fail
  generalize w.alloc (.cells cs 33) = w1 at S0 ⊢
  clear hsz
  have q104 := S0.out.cell C.out.g
  rw [Hgl.out] at q104
  by_cases h1 : 8 < gs.length
  · have NE : Hid (¬ IsLight T) := Lib.hid (fun e => by have := e.1; rw [Hgl.out] at this; omega)
    go_wp2
    go_ret
    exact ⟨ret_bool (decide_eq_false NE.out).symm, S0.out.bel⟩
  have SM : Hid ((∀ g ∈ gs, g.r0.length ≤ 12 ∧ g.r1.length ≤ 12) → IsLight T) := Lib.hid (fun hall => ⟨by rw [Hgl.out]; omega, fun g hg => by
    rw [← Hgd.out] at hg
    obtain ⟨v, hv, rfl⟩ := List.mem_map.1 hg
    exact hall v hv⟩)
  have SN : Hid (IsLight T → ∀ g ∈ gs, g.r0.length ≤ 12 ∧ g.r1.length ≤ 12) := Lib.hid (fun e g hg => e.2 g.data (by rw [← Hgd.out]; exact List.mem_map.2 ⟨g, hg, rfl⟩))
  go_wp2_with fail
  go_loopw [3] (fun i wr => ∃ q : Nat, q ≤ gs.length ∧ i = .int .i64 q ∧ Ok gs q ∧ wr = w1) (fun i _ => gs.length - (intOf i).toNat)
  case atStart => exact ⟨0, by omega, rfl, (fun g hg => by simp at hg), rfl⟩
  case round =>
    obtain ⟨q, hq, rfl, hall, rfl⟩ := hrel
    have Hall := Lib.hid hall
    clear hall
    by_cases hlt : q < gs.length
    · have hv := List.getElem?_eq_getElem hlt
      generalize gs[q] = v at hv
      obtain ⟨x, hx, hc⟩ := (Hgr.out.1.below S0.out.bel).at hv
      have hok := Hgr.out.2 v (List.mem_of_getElem? hv)
      have HV := Lib.hid hv
      have K0 := hok.1.len
      have K1 := hok.2.len
      obtain ⟨l0, l1, ⟨a0, cap0⟩, ⟨a1, cap1⟩⟩ := v
      unfold maxLen at K0 K1
      have c104 : wr.cell? ⟨w.heap.size, 104, none⟩ = some (.slice (some x) gs.length h.g.cap) := by have := q104; simp only [Sl.val, hx] at this; exact this
      have c0 := hc 0 _ rfl
      have c1 := hc 1 _ rfl
      rw [add_zero] at c0
      rw [add_one] at c1
      clear hv hc hok hx q104
      by_cases h5 : 12 < l0.length
      · have NE : Hid (¬ IsLight T) := Lib.hid (fun e => by have := (SN.out e _ (List.mem_of_getElem? HV.out)).1; simp only at this; omega)
        go_wp2
        go_ret
        exact ⟨ret_bool (decide_eq_false NE.out).symm, S0.out.bel⟩
      by_cases h6 : 12 < l1.length
      · have NE : Hid (¬ IsLight T) := Lib.hid (fun e => by have := (SN.out e _ (List.mem_of_getElem? HV.out)).2; simp only at this; omega)
        go_wp2
        go_ret
        exact ⟨ret_bool (decide_eq_false NE.out).symm, S0.out.bel⟩
      go_wp2
      go_roundw
      case rel => exact ⟨q + 1, by omega, by go_num, Hall.out.step HV.out h5 h6, trivial⟩
      case measure => simp [intOf]; omega
    · have SS := Lib.hid (SM.out (fun g hg => Hall.out g (by rw [List.take_of_length_le (by omega)]; exact hg)))
      clear Hall
      go_wp2
      go_ret
      exact ⟨ret_bool (decide_eq_true SS.out).symm, S0.out.bel⟩
end Go.Proofs.Ytfnpcfibgabmfaa.Light8
