/- 6 texts in one file, in build order. -/
import Derived.Test.YtfnpcfibgabmfaaRows
import Derived.Test.YtfnpcfibgabmfaaPart03
import Derived.Test.YtfnpcfibgabmfaaPart01
import Derived.LoopTactic
import Derived.Deep.QuietTactic
import Derived.Below
import Derived.StillTail
import Derived.Test.YtfnpcfibgabmfaaPart02
import Derived.StillTailTactics
import Derived.Deep.Cut
import Derived.Laws.Rows
import Derived.Laws.FloatArith
set_option linter.unusedVariables false
set_option linter.unusedSimpArgs false
set_option linter.unusedSectionVars false
/- The contracts of sameValue and sameList at rails, buses and groups, and of sameGroup. -/
namespace Go.Proofs.Ytfnpcfibgabmfaa.Same
open Go.ChangeShapes Go.WideShapes Go.ChangeAt Go.RowKit
open Tab
open May (ret_bool chain take_succ' infoP infoG infoD infoR infoB row_new)
set_option linter.unusedVariables false
set_option linter.unusedSimpArgs false

theorem group_any (g u : Gr) (w : World) (h : g.ok w) (h' : u.ok w) :
    Calls Try.prog 64 #[.agg g.cells.toArray, .agg u.cells.toArray] w fun e w' => e = .returned (.bool (decide (g.data = u.data))) ∧ Below w.heap.size w w' := by
  obtain ⟨l0, l1, ⟨a0, ca0⟩, ⟨a1, ca1⟩⟩ := g
  obtain ⟨m0, m1, ⟨b0, cb0⟩, ⟨b1, cb1⟩⟩ := u
  have H0 := Lib.hid h.1
  have H1 := Lib.hid h.2
  have U0 := Lib.hid h'.1
  have U1 := Lib.hid h'.2
  clear h h'
  show Calls Try.prog 64 #[.agg #[.slice a0 l0.length ca0, .slice a1 l1.length ca1], .agg #[.slice b0 m0.length cb0, .slice b1 m1.length cb1]] w _
  go_enter Try.func64, Try.ntmps64
  go_wp2_with fail
  have hb : Below w.heap.size w ((w.alloc (.cells #[.slice a0 l0.length ca0, .slice a1 l1.length ca1] 42)).alloc (.cells #[.slice b0 m0.length cb0, .slice b1 m1.length cb1] 42)) := ((Below.refl _ _).alloc (Nat.le_refl _) _).alloc (by simp) _
  have HB := Lib.hid hb
  clear hb
  refine (ints_any a0 b0 ca0 cb0 l0 m0 _ (H0.out.below HB.out) (U0.out.below HB.out)).mono ?_
  rintro e w' ⟨rfl, rfl⟩
  by_cases h0 : l0 = m0
  · have E0 := Lib.hid h0
    rw [decide_eq_true h0]
    clear h0
    go_wp2_with fail
    refine (ints_any a1 b1 ca1 cb1 l1 m1 _ (H1.out.below HB.out) (U1.out.below HB.out)).mono ?_
    rintro e w' ⟨rfl, rfl⟩
    generalize hv : decide (l1 = m1) = b
    have HV := Lib.hid hv
    clear hv
    go_wp2
    go_ret
    exact ⟨ret_bool (by rw [← HV.out]; simp [Gr.data, E0.out]), HB.out⟩
  · have E0 := Lib.hid h0
    rw [decide_eq_false h0]
    clear h0
    go_wp2
    go_ret
    exact ⟨ret_bool (by rw [decide_eq_false (fun e => E0.out (congrArg Prod.fst e))]), HB.out⟩
theorem railv_any (r s : Rl) (w : World) :
    Calls Try.prog 68 #[.agg r.cells.toArray, .agg s.cells.toArray] w fun e w' => e = .returned (.bool (decide (r = s))) ∧ Below w.heap.size w w' := by
  have HE := Lib.hid (rail_eqs r s)
  generalize hb : decide (r = s) = b at HE ⊢
  clear hb
  go_enter Try.func68, Try.ntmps68
  go_wp2_with (first | (refine wpList_load_row rfl 46 _ rfl _ rfl _ _ _ _ (heap_alloc2_old _ _ _) Try.underlying46 rfl infoR ?_) | (refine wpList_load_row rfl 46 _ rfl _ rfl _ _ _ _ (heap_alloc2_new _ _ _) Try.underlying46 rfl infoR ?_) | (refine Row.wpList_eql 46 _ _ _ rfl rfl r.cells.toArray s.cells.toArray rfl rfl guardR b HE.out ?_))
  go_ret
  exact ⟨rfl, ((Below.refl _ _).alloc (Nat.le_refl _) _).alloc (by simp) _⟩
theorem busv_any (r s : Bs) (w : World) :
    Calls Try.prog 70 #[.agg r.cells.toArray, .agg s.cells.toArray] w fun e w' => e = .returned (.bool (decide (r = s))) ∧ Below w.heap.size w w' := by
  have HE := Lib.hid (bus_eqs r s)
  generalize hb : decide (r = s) = b at HE ⊢
  clear hb
  go_enter Try.func70, Try.ntmps70
  go_wp2_with (first | (refine wpList_load_row rfl 48 _ rfl _ rfl _ _ _ _ (heap_alloc2_old _ _ _) Try.underlying48 rfl infoB ?_) | (refine wpList_load_row rfl 48 _ rfl _ rfl _ _ _ _ (heap_alloc2_new _ _ _) Try.underlying48 rfl infoB ?_) | (refine Row.wpList_eql 48 _ _ _ rfl rfl r.cells.toArray s.cells.toArray rfl rfl guardB b HE.out ?_))
  go_ret
  exact ⟨rfl, ((Below.refl _ _).alloc (Nat.le_refl _) _).alloc (by simp) _⟩
set_option maxHeartbeats 1000000 in
theorem rails_any (a b : Option Addr) (ca cb : Nat) (l m : List Rl) (w : World) (h : RowOf 11 Rl.cells w ⟨a, ca⟩ l) (h' : RowOf 11 Rl.cells w ⟨b, cb⟩ m) :
    Calls Try.prog 67 #[.slice a l.length ca, .slice b m.length cb, .func (.func 68) #[] #[]] w fun e w' => e = .returned (.bool (decide (l = m))) ∧ Below w.heap.size w w' := by
  have h1 := h.len
  have h2 := h'.len
  unfold maxLen at h1 h2
  have Hr := Lib.hid h
  have Hr' := Lib.hid h'
  clear h h'
  by_cases hlen : l.length = m.length
  · have HL := Lib.hid hlen
    have hd : ((l.length : Int) != (m.length : Int)) = false := by rw [bne_eq_false_iff_eq]; omega
    go_enter Try.func67, Try.ntmps67
    go_wp2
    go_loopw [16] (fun i wr => ∃ k : Nat, k ≤ l.length ∧ i = .int .i64 k ∧ l.take k = m.take k ∧ Below w.heap.size w wr) (fun i _ => l.length - (intOf i).toNat)
    case atStart => exact ⟨0, by omega, rfl, rfl, Below.refl _ _⟩
    case round =>
      obtain ⟨k, hk, rfl, hall, hbel⟩ := hrel
      have Hall := Lib.hid hall
      have Hb := Lib.hid hbel
      clear hall hbel
      by_cases hlt : k < l.length
      · have hv := List.getElem?_eq_getElem hlt
        have hu := List.getElem?_eq_getElem (show k < m.length by omega)
        generalize l[k] = v at hv
        generalize m[k]'(show k < m.length by omega) = u at hu
        obtain ⟨x, hx, hc⟩ := (Hr.out.below Hb.out).at hv
        obtain rfl : a = some x := hx
        obtain ⟨y, hy, hc'⟩ := (Hr'.out.below Hb.out).at hu
        obtain rfl : b = some y := hy
        have HV := Lib.hid hv
        have HU := Lib.hid hu
        have HC := Lib.hid hc
        have HC' := Lib.hid hc'
        clear hv hu hc hc'
        go_wp2_with (first | (refine Row.wpList_load_lies rfl 46 _ rfl (x.add (k * 11)) rfl v.cells _ HC.out Try.underlying46 rfl infoR ?_) | (refine Row.wpList_store_new rfl 46 _ _ rfl _ _ v.cells.toArray rfl rfl rfl infoR rfl v.one ?_))
        have B1 : Hid (Below wr.heap.size wr (wr.alloc (.cells v.cells.toArray 46))) := (Below.refl _ _).alloc (Nat.le_refl _) _
        have L1 : Hid (Lies (wr.alloc (.cells v.cells.toArray 46)) ⟨wr.heap.size, 0, none⟩ v.cells) := Row.lies_new _ _ _
        have L2 : Hid (Lies (wr.alloc (.cells v.cells.toArray 46)) (y.add (k * 11)) u.cells) := HC'.out.below B1.out
        generalize hw1 : wr.alloc (.cells v.cells.toArray 46) = w1 at B1 L1 L2 ⊢
        clear hw1
        have hkm : k < m.length := by omega
        have hne : Nonempty (Ph.S (Row.Old w1)) := ⟨⟨0, w1, Below.refl _ _⟩⟩
        refine Ph.wp_region_ph (Row.Old w1) [] (by kernel_rfl) (by kernel_rfl) (Row.Old.drew _) ?_
        repeat
          first
            | (refine Row.wpPh_load rfl rfl 46 _ rfl ⟨wr.heap.size, 0, none⟩ rfl v.cells _ (fun p => L1.out.below p.is) Try.underlying46 rfl infoR ?_)
            | (refine Row.wpPh_load rfl rfl 46 _ rfl (y.add (k * 11)) rfl u.cells _ (fun p => L2.out.below p.is) Try.underlying46 rfl infoR ?_)
            | (refine Ph.wpPh_calm rfl (fun K hK => ?_)
               go_simp
               first
                 | (refine hK _ ?_; clear hK K)
                 | (refine ⟨_, fun p => Row.Old.call (railv_any v u _), hK _ ?_⟩; clear hK K))
        refine Ph.wpPh_nil ?_
        intro w2 hb2
        clear hne
        have B2 := Lib.hid (Below.trans Hb.out ((Below.trans B1.out (Below.mono hb2 B1.out.size)).mono Hb.out.size))
        clear hb2
        by_cases hvu : v = u
        · have HE := Lib.hid hvu
          rw [decide_eq_true hvu]
          clear hvu
          go_wp2
          go_roundw
          case rel => exact ⟨k + 1, by omega, by go_num, eq_step HV.out HU.out Hall.out HE.out, B2.out⟩
          case measure => simp [intOf]; omega
        · have HE := Lib.hid (show ¬ l = m from eq_break HV.out HU.out hvu)
          rw [decide_eq_false hvu]
          clear hvu
          go_wp2
          go_ret
          exact ⟨ret_bool (decide_eq_false HE.out).symm, B2.out⟩
      · have HE := Lib.hid (show l = m from eq_end Hall.out HL.out hlt)
        go_wp2
        go_ret
        exact ⟨ret_bool (decide_eq_true HE.out).symm, Hb.out⟩
  · have HL := Lib.hid (show ¬ l = m from fun e => hlen (by rw [e]))
    have hd : ((l.length : Int) != (m.length : Int)) = true := by rw [bne_iff_ne]; omega
    go_enter Try.func67, Try.ntmps67
    go_wp2
    go_ret
    exact ⟨ret_bool (decide_eq_false HL.out).symm, Below.refl _ _⟩
set_option maxHeartbeats 1000000 in
theorem buses_any (a b : Option Addr) (ca cb : Nat) (l m : List Bs) (w : World) (h : RowOf 2 Bs.cells w ⟨a, ca⟩ l) (h' : RowOf 2 Bs.cells w ⟨b, cb⟩ m) :
    Calls Try.prog 69 #[.slice a l.length ca, .slice b m.length cb, .func (.func 70) #[] #[]] w fun e w' => e = .returned (.bool (decide (l = m))) ∧ Below w.heap.size w w' := by
  have h1 := h.len
  have h2 := h'.len
  unfold maxLen at h1 h2
  have Hr := Lib.hid h
  have Hr' := Lib.hid h'
  clear h h'
  by_cases hlen : l.length = m.length
  · have HL := Lib.hid hlen
    have hd : ((l.length : Int) != (m.length : Int)) = false := by rw [bne_eq_false_iff_eq]; omega
    go_enter Try.func69, Try.ntmps69
    go_wp2
    go_loopw [16] (fun i wr => ∃ k : Nat, k ≤ l.length ∧ i = .int .i64 k ∧ l.take k = m.take k ∧ Below w.heap.size w wr) (fun i _ => l.length - (intOf i).toNat)
    case atStart => exact ⟨0, by omega, rfl, rfl, Below.refl _ _⟩
    case round =>
      obtain ⟨k, hk, rfl, hall, hbel⟩ := hrel
      have Hall := Lib.hid hall
      have Hb := Lib.hid hbel
      clear hall hbel
      by_cases hlt : k < l.length
      · have hv := List.getElem?_eq_getElem hlt
        have hu := List.getElem?_eq_getElem (show k < m.length by omega)
        generalize l[k] = v at hv
        generalize m[k]'(show k < m.length by omega) = u at hu
        obtain ⟨x, hx, hc⟩ := (Hr.out.below Hb.out).at hv
        obtain rfl : a = some x := hx
        obtain ⟨y, hy, hc'⟩ := (Hr'.out.below Hb.out).at hu
        obtain rfl : b = some y := hy
        have HV := Lib.hid hv
        have HU := Lib.hid hu
        have HC := Lib.hid hc
        have HC' := Lib.hid hc'
        clear hv hu hc hc'
        go_wp2_with (first | (refine Row.wpList_load_lies rfl 48 _ rfl (x.add (k * 2)) rfl v.cells _ HC.out Try.underlying48 rfl infoB ?_) | (refine Row.wpList_store_new rfl 48 _ _ rfl _ _ v.cells.toArray rfl rfl rfl infoB rfl v.one ?_))
        have B1 : Hid (Below wr.heap.size wr (wr.alloc (.cells v.cells.toArray 48))) := (Below.refl _ _).alloc (Nat.le_refl _) _
        have L1 : Hid (Lies (wr.alloc (.cells v.cells.toArray 48)) ⟨wr.heap.size, 0, none⟩ v.cells) := Row.lies_new _ _ _
        have L2 : Hid (Lies (wr.alloc (.cells v.cells.toArray 48)) (y.add (k * 2)) u.cells) := HC'.out.below B1.out
        generalize hw1 : wr.alloc (.cells v.cells.toArray 48) = w1 at B1 L1 L2 ⊢
        clear hw1
        have hkm : k < m.length := by omega
        have hne : Nonempty (Ph.S (Row.Old w1)) := ⟨⟨0, w1, Below.refl _ _⟩⟩
        refine Ph.wp_region_ph (Row.Old w1) [] (by kernel_rfl) (by kernel_rfl) (Row.Old.drew _) ?_
        repeat
          first
            | (refine Row.wpPh_load rfl rfl 48 _ rfl ⟨wr.heap.size, 0, none⟩ rfl v.cells _ (fun p => L1.out.below p.is) Try.underlying48 rfl infoB ?_)
            | (refine Row.wpPh_load rfl rfl 48 _ rfl (y.add (k * 2)) rfl u.cells _ (fun p => L2.out.below p.is) Try.underlying48 rfl infoB ?_)
            | (refine Ph.wpPh_calm rfl (fun K hK => ?_)
               go_simp
               first
                 | (refine hK _ ?_; clear hK K)
                 | (refine ⟨_, fun p => Row.Old.call (busv_any v u _), hK _ ?_⟩; clear hK K))
        refine Ph.wpPh_nil ?_
        intro w2 hb2
        clear hne
        have B2 := Lib.hid (Below.trans Hb.out ((Below.trans B1.out (Below.mono hb2 B1.out.size)).mono Hb.out.size))
        clear hb2
        by_cases hvu : v = u
        · have HE := Lib.hid hvu
          rw [decide_eq_true hvu]
          clear hvu
          go_wp2
          go_roundw
          case rel => exact ⟨k + 1, by omega, by go_num, eq_step HV.out HU.out Hall.out HE.out, B2.out⟩
          case measure => simp [intOf]; omega
        · have HE := Lib.hid (show ¬ l = m from eq_break HV.out HU.out hvu)
          rw [decide_eq_false hvu]
          clear hvu
          go_wp2
          go_ret
          exact ⟨ret_bool (decide_eq_false HE.out).symm, B2.out⟩
      · have HE := Lib.hid (show l = m from eq_end Hall.out HL.out hlt)
        go_wp2
        go_ret
        exact ⟨ret_bool (decide_eq_true HE.out).symm, Hb.out⟩
  · have HL := Lib.hid (show ¬ l = m from fun e => hlen (by rw [e]))
    have hd : ((l.length : Int) != (m.length : Int)) = true := by rw [bne_iff_ne]; omega
    go_enter Try.func69, Try.ntmps69
    go_wp2
    go_ret
    exact ⟨ret_bool (decide_eq_false HL.out).symm, Below.refl _ _⟩
set_option maxHeartbeats 1000000 in
theorem groups_any (a b : Option Addr) (ca cb : Nat) (l m : List Gr) (w : World) (h : RowOf 2 Gr.cells w ⟨a, ca⟩ l) (h' : RowOf 2 Gr.cells w ⟨b, cb⟩ m) (k1 : ∀ v ∈ l, v.ok w) (k2 : ∀ v ∈ m, v.ok w) :
    Calls Try.prog 63 #[.slice a l.length ca, .slice b m.length cb, .func (.func 64) #[] #[]] w fun e w' => e = .returned (.bool (decide (l.map Gr.data = m.map Gr.data))) ∧ Below w.heap.size w w' := by
  have h1 := h.len
  have h2 := h'.len
  unfold maxLen at h1 h2
  have Hr := Lib.hid h
  have Hr' := Lib.hid h'
  clear h h'
  have K1 := Lib.hid k1
  have K2 := Lib.hid k2
  clear k1 k2
  by_cases hlen : l.length = m.length
  · have HL := Lib.hid hlen
    have hd : ((l.length : Int) != (m.length : Int)) = false := by rw [bne_eq_false_iff_eq]; omega
    go_enter Try.func63, Try.ntmps63
    go_wp2
    go_loopw [16] (fun i wr => ∃ k : Nat, k ≤ l.length ∧ i = .int .i64 k ∧ (l.take k).map Gr.data = (m.take k).map Gr.data ∧ Below w.heap.size w wr) (fun i _ => l.length - (intOf i).toNat)
    case atStart => exact ⟨0, by omega, rfl, rfl, Below.refl _ _⟩
    case round =>
      obtain ⟨k, hk, rfl, hall, hbel⟩ := hrel
      have Hall := Lib.hid hall
      have Hb := Lib.hid hbel
      clear hall hbel
      by_cases hlt : k < l.length
      · have hv := List.getElem?_eq_getElem hlt
        have hu := List.getElem?_eq_getElem (show k < m.length by omega)
        generalize l[k] = v at hv
        generalize m[k]'(show k < m.length by omega) = u at hu
        obtain ⟨x, hx, hc⟩ := (Hr.out.below Hb.out).at hv
        obtain rfl : a = some x := hx
        obtain ⟨y, hy, hc'⟩ := (Hr'.out.below Hb.out).at hu
        obtain rfl : b = some y := hy
        have HV := Lib.hid hv
        have HU := Lib.hid hu
        have HC := Lib.hid hc
        have HC' := Lib.hid hc'
        clear hv hu hc hc'
        go_wp2_with (first | (refine Row.wpList_load_lies rfl 42 _ rfl (x.add (k * 2)) rfl v.cells _ HC.out Try.underlying42 rfl infoG ?_) | (refine Row.wpList_store_new rfl 42 _ _ rfl _ _ v.cells.toArray rfl rfl rfl infoG rfl v.one ?_))
        have B1 : Hid (Below wr.heap.size wr (wr.alloc (.cells v.cells.toArray 42))) := (Below.refl _ _).alloc (Nat.le_refl _) _
        have L1 : Hid (Lies (wr.alloc (.cells v.cells.toArray 42)) ⟨wr.heap.size, 0, none⟩ v.cells) := Row.lies_new _ _ _
        have L2 : Hid (Lies (wr.alloc (.cells v.cells.toArray 42)) (y.add (k * 2)) u.cells) := HC'.out.below B1.out
        generalize hw1 : wr.alloc (.cells v.cells.toArray 42) = w1 at B1 L1 L2 ⊢
        clear hw1
        have hkm : k < m.length := by omega
        have hne : Nonempty (Ph.S (Row.Old w1)) := ⟨⟨0, w1, Below.refl _ _⟩⟩
        refine Ph.wp_region_ph (Row.Old w1) [] (by kernel_rfl) (by kernel_rfl) (Row.Old.drew _) ?_
        repeat
          first
            | (refine Row.wpPh_load rfl rfl 42 _ rfl ⟨wr.heap.size, 0, none⟩ rfl v.cells _ (fun p => L1.out.below p.is) Try.underlying42 rfl infoG ?_)
            | (refine Row.wpPh_load rfl rfl 42 _ rfl (y.add (k * 2)) rfl u.cells _ (fun p => L2.out.below p.is) Try.underlying42 rfl infoG ?_)
            | (refine Ph.wpPh_calm rfl (fun K hK => ?_)
               go_simp
               first
                 | (refine hK _ ?_; clear hK K)
                 | (refine ⟨_, fun p => Row.Old.call (group_any v u _ ((K1.out v (List.mem_of_getElem? HV.out)).below ((Hb.out.trans (B1.out.mono Hb.out.size)).trans (p.is.mono (Nat.le_trans Hb.out.size B1.out.size)))) ((K2.out u (List.mem_of_getElem? HU.out)).below ((Hb.out.trans (B1.out.mono Hb.out.size)).trans (p.is.mono (Nat.le_trans Hb.out.size B1.out.size))))), hK _ ?_⟩; clear hK K))
        refine Ph.wpPh_nil ?_
        intro w2 hb2
        clear hne
        have B2 := Lib.hid (Below.trans Hb.out ((Below.trans B1.out (Below.mono hb2 B1.out.size)).mono Hb.out.size))
        clear hb2
        by_cases hvu : v.data = u.data
        · have HE := Lib.hid hvu
          rw [decide_eq_true hvu]
          clear hvu
          go_wp2
          go_roundw
          case rel => exact ⟨k + 1, by omega, by go_num, by rw [take_succ' l k v HV.out, take_succ' m k u HU.out, List.map_append, List.map_append, Hall.out]; simp [HE.out], B2.out⟩
          case measure => simp [intOf]; omega
        · have HE := Lib.hid (show ¬ l.map Gr.data = m.map Gr.data from fun e => hvu (by have h3 := congrArg (·[k]?) e; simp only [List.getElem?_map, HV.out, HU.out, Option.map_some] at h3; exact Option.some.inj h3))
          rw [decide_eq_false hvu]
          clear hvu
          go_wp2
          go_ret
          exact ⟨ret_bool (decide_eq_false HE.out).symm, B2.out⟩
      · have HE := Lib.hid (show l.map Gr.data = m.map Gr.data from by have h3 := Hall.out; rwa [List.take_of_length_le (by omega), List.take_of_length_le (by have := HL.out; omega)] at h3)
        go_wp2
        go_ret
        exact ⟨ret_bool (decide_eq_true HE.out).symm, Hb.out⟩
  · have HL := Lib.hid (show ¬ l.map Gr.data = m.map Gr.data from fun e => hlen (by have := congrArg List.length e; simpa using this))
    have hd : ((l.length : Int) != (m.length : Int)) = true := by rw [bne_iff_ne]; omega
    go_enter Try.func63, Try.ntmps63
    go_wp2
    go_ret
    exact ⟨ret_bool (decide_eq_false HL.out).symm, Below.refl _ _⟩
end Go.Proofs.Ytfnpcfibgabmfaa.Same
/- A region that draws its order of evaluation and whose calls may make memory: walked once, in the order of the text, in the class 'below block B as it was'. No program in it. -/
namespace Go.Proofs.Ytfnpcfibgabmfaa.QB
open Go.RowKit
structure By (B : Nat) (w : World) where
  world : World
  below : Below B w world
instance {B : Nat} {w : World} : Inhabited (By B w) := ⟨⟨w, Below.refl _ _⟩⟩
theorem region_below {P : Program} {id : Nat} {Q : Exit → Act → World → Prop} {a : Act} {w : World} {l : List Oper} (B : Nat) (hm : P.follows .mixedOrders = true) (hB : Region.lexB .any l.toArray = true)
    (h : wpQuiet P l.toArray (fun w' => ∃ p : By B w, w' = p.world) (fun a' => ∀ w', (∃ p : By B w, w' = p.world) → Q .normal a' w') l a) : (Code.region id l.toArray true).wp P Q a w :=
  wp_region_quiet (C := fun w' => ∃ p : By B w, w' = p.world) hm hB ⟨⟨w.drew, (Below.refl _ _).drew⟩, rfl⟩ (by simpa using h)
/-- A callee's contract, met in a world of the class. -/
theorem call_of {P : Program} {f : FuncId} {args : Array Value} {B : Nat} {w : World} {p : By B w} {v : Value} (hB : B ≤ w.heap.size)
    (h : Below B w p.world → Calls P f args p.world fun e w' => e = .returned v ∧ Below p.world.heap.size p.world w') :
    Calls P f args p.world fun e w'' => e = .returned v ∧ ∃ q : By B w, w'' = q.world :=
  (h p.below).mono fun _ w'' ⟨he, hb⟩ => ⟨he, ⟨w'', p.below.trans (hb.mono (Nat.le_trans hB p.below.size))⟩, rfl⟩
/-- A still head, and a chain behind it. -/
theorem region_tail {P : Program} {w : World} {id : Nat} {Q : Exit → Act → World → Prop} {a : Act} {l : List Oper} (n : Nat) (hm : P.follows .mixedOrders = true) (hB : Region.lexTailB .any l.toArray n = true)
    (h : wpStill P l.toArray w.drew (fun a' => wpList P l.toArray Q (l.drop n) a' w.drew) (l.take n) a) : (Code.region id l.toArray true).wp P Q a w :=
  wp_region_still_tail n hm hB h
end Go.Proofs.Ytfnpcfibgabmfaa.QB
/- The contracts of table.bits, single, sameDetector and of sameList at detectors. -/
namespace Go.Proofs.Ytfnpcfibgabmfaa.Same
open Go.ChangeShapes Go.WideShapes Go.ChangeAt Go.RowKit
open Tab
open May (ret_bool chain take_succ' infoP infoG infoD infoR infoB row_new St)
set_option linter.unusedVariables false
set_option linter.unusedSimpArgs false
theorem info4 : (Try.prog.info? 119).map (·.size) = some 4 := by kernel_rfl
theorem info7 : (Try.prog.info? 101).map (·.size) = some 7 := by kernel_rfl
theorem below_setRow {B : Nat} {a w : World} (h : Below B a w) {g : Nat} (hg : B ≤ g) (cs : Array Value) : Below B a (w.setRow g cs) :=
  h.trans ⟨rfl, rfl, rfl, by simp [World.setRow], fun j hj => setRow_other _ _ _ _ (by omega)⟩
set_option maxRecDepth 10000 in
set_option maxHeartbeats 1000000 in
theorem bits_any (d : Det) (w : World) :
    Calls Try.prog 95 #[.agg d.cells.toArray] w fun e w' => e = .returned (.agg (bitsOf d).toArray) ∧ Below w.heap.size w w' := by
  obtain ⟨phase, on, off, delay, extend, maxOn, maxOff⟩ := d
  show Calls Try.prog 95 #[.agg #[I phase, F on, F off, F delay, F extend, I maxOn, I maxOff]] w _
  have hb := Secs.bits_call
  go_enter Try.func95, Try.ntmps95
  go_wp2_with fail
  refine QB.region_tail 13 (by kernel_rfl) (by kernel_rfl) ?_
  simp only [List.take_succ_cons, List.take_zero, List.drop_succ_cons, List.drop_zero]
  repeat still_step
  refine wpStill_nil ?_
  refine wpList_store_row rfl 119 _ _ rfl (w.heap.size + 1) (bitsOf ⟨phase, on, off, delay, extend, maxOn, maxOff⟩).toArray rfl rfl 119 #[.int .u64 0, .int .u64 0, .int .u64 0, .int .u64 0] (heap_alloc2_new w _ _) info4 rfl (by simp [bitsOf, Value.oneCell']) ?_
  have hbl : Below w.heap.size w (World.setRow (((w.alloc (.cells #[I phase, F on, F off, F delay, F extend, I maxOn, I maxOff] 44)).alloc (.cells #[.int .u64 0, .int .u64 0, .int .u64 0, .int .u64 0] 119)).drew) (w.heap.size + 1) (bitsOf ⟨phase, on, off, delay, extend, maxOn, maxOff⟩).toArray) :=
    below_setRow (((Below.refl _ _).alloc (Nat.le_refl _) _).alloc (by simp) _).drew (by omega) _
  have hbk : (World.setRow (((w.alloc (.cells #[I phase, F on, F off, F delay, F extend, I maxOn, I maxOff] 44)).alloc (.cells #[.int .u64 0, .int .u64 0, .int .u64 0, .int .u64 0] 119)).drew) (w.heap.size + 1) (bitsOf ⟨phase, on, off, delay, extend, maxOn, maxOff⟩).toArray).heap[w.heap.size + 1]? = some (.cells (bitsOf ⟨phase, on, off, delay, extend, maxOn, maxOff⟩).toArray 119 (0, 0)) :=
    setRow_heap _ _ _ _ _ _ (heap_alloc2_new w _ _)
  generalize World.setRow _ _ _ = w3 at hbl hbk ⊢
  have HB := Lib.hid hbl
  have HK := Lib.hid hbk
  clear hbl hbk hb
  go_wp2_with fail
  (try simp only [Exit.inBlock, Exit.then])
  refine bodyPost_ret (v := .agg (bitsOf ⟨phase, on, off, delay, extend, maxOn, maxOff⟩).toArray) ?_ rfl ⟨rfl, HB.out⟩
  exact results_cell_row rfl _ _ (w.heap.size + 1) 119 _ (0, 0) _ rfl HK.out Try.underlying119 rfl info4
set_option maxRecDepth 10000 in
set_option maxHeartbeats 1000000 in
theorem single_any (T : Tab) (h : Hd) (w : World) (k : IsTab w h T) :
    Calls Try.prog 71 #[.agg (T.cells h).toArray] w fun e w' => e = .returned (.agg ((single T).map I).toArray) ∧ Below w.heap.size w w' := by
  have C := Lib.hid (cells_ok k)
  generalize (T.cells h).toArray = cs at C ⊢
  have hsz := C.out.size
  have S0 := Lib.hid (St.box (cs := cs) k)
  clear k
  go_enter Try.func71, Try.ntmps71
  go_upto_region 1 with fail
  have hz : (w.alloc (.cells cs 33)).heap.size = w.heap.size + 1 := by simp
  have HZ := Lib.hid hz
  generalize hw1 : w.alloc (.cells cs 33) = w1 at S0 HZ ⊢
  clear hw1 hsz hz
  have hb1 : Below w1.heap.size w1 (w1.alloc (.cells #[.int .i64 0, .int .i64 0, .int .i64 0, .int .i64 0, .int .i64 0, .int .i64 0, .int .i64 0] 101)) := (Below.refl _ _).alloc (Nat.le_refl _) _
  have S1 := Lib.hid (S0.out.step hb1)
  have hg1 : (w1.alloc (.cells #[.int .i64 0, .int .i64 0, .int .i64 0, .int .i64 0, .int .i64 0, .int .i64 0, .int .i64 0] 101)).heap[w.heap.size + 1]? = some (.cells #[.int .i64 0, .int .i64 0, .int .i64 0, .int .i64 0, .int .i64 0, .int .i64 0, .int .i64 0] 101 (0, 0)) := by rw [← HZ.out]; exact heap_alloc_new w1 _
  have HG := Lib.hid hg1
  generalize w1.alloc (.cells #[.int .i64 0, .int .i64 0, .int .i64 0, .int .i64 0, .int .i64 0, .int .i64 0, .int .i64 0] 101) = w2 at S1 HG ⊢
  clear hb1 hg1 S0 HZ
  have c116 := S1.out.cell C.out.extend
  have c117 := S1.out.cell C.out.budget
  have c118 := S1.out.cell C.out.start
  have c119 := S1.out.cell C.out.revert
  have c120 := S1.out.cell C.out.least
  have c129 := S1.out.cell C.out.window
  have c130 := S1.out.cell C.out.share
  go_wp2_with (refine wpList_store_row rfl 101 _ _ rfl (w.heap.size + 1) ((single T).map I).toArray rfl rfl 101 _ HG.out info7 rfl (by simp [single, Value.oneCell']) ?_)
  have hbl : Below w.heap.size w (w2.setRow (w.heap.size + 1) ((single T).map I).toArray) := below_setRow S1.out.bel (by omega) _
  have hbk := setRow_heap w2 (w.heap.size + 1) _ ((single T).map I).toArray _ _ HG.out
  generalize w2.setRow (w.heap.size + 1) ((single T).map I).toArray = w3 at hbl hbk ⊢
  have HB := Lib.hid hbl
  have HK := Lib.hid hbk
  clear hbl hbk c116 c117 c118 c119 c120 c129 c130
  go_wp2_with fail
  (try simp only [Exit.inBlock, Exit.then])
  refine bodyPost_ret (v := .agg ((single T).map I).toArray) ?_ rfl ⟨rfl, HB.out⟩
  exact results_cell_row rfl _ _ (w.heap.size + 1) 101 _ (0, 0) _ rfl HK.out Try.underlying101 rfl info7
set_option maxRecDepth 10000 in
set_option maxHeartbeats 4000000 in
theorem detv_any (d e : Det) (w : World) :
    Calls Try.prog 66 #[.agg d.cells.toArray, .agg e.cells.toArray] w fun r w' => r = .returned (.bool (decide (d = e))) ∧ Below w.heap.size w w' := by
  have L1 : Hid (Lies ((w.alloc (.cells d.cells.toArray 44)).alloc (.cells e.cells.toArray 44)) ⟨w.heap.size, 0, none⟩ d.cells) := (Row.lies_new w d.cells.toArray 44).below ((Below.refl _ _).alloc (Nat.le_refl _) _)
  have L2 : Hid (Lies ((w.alloc (.cells d.cells.toArray 44)).alloc (.cells e.cells.toArray 44)) ⟨w.heap.size + 1, 0, none⟩ e.cells) := by
    have := Row.lies_new (w.alloc (.cells d.cells.toArray 44)) e.cells.toArray 44
    rwa [show (w.alloc (.cells d.cells.toArray 44)).heap.size = w.heap.size + 1 by simp] at this
  have HB : Hid (Below w.heap.size w ((w.alloc (.cells d.cells.toArray 44)).alloc (.cells e.cells.toArray 44))) := ((Below.refl _ _).alloc (Nat.le_refl _) _).alloc (by simp) _
  go_enter Try.func66, Try.ntmps66
  go_wp2_with fail
  generalize (w.alloc (.cells d.cells.toArray 44)).alloc (.cells e.cells.toArray 44) = w1 at L1 L2 HB ⊢
  have hne : Nonempty (Ph.S (Row.Old w1)) := ⟨⟨0, w1, Below.refl _ _⟩⟩
  have q00 : ∀ p : Ph.S (Row.Old w1), p.world.cell? ⟨w.heap.size, 0, none⟩ = some (I d.phase) := fun p => by have := (L1.out.below p.is) 0 _ rfl; rwa [Addr.add_mid, Nat.zero_add] at this
  have q05 : ∀ p : Ph.S (Row.Old w1), p.world.cell? ⟨w.heap.size, 5, none⟩ = some (I d.maxOn) := fun p => by have := (L1.out.below p.is) 5 _ rfl; rwa [Addr.add_mid, Nat.zero_add] at this
  have q06 : ∀ p : Ph.S (Row.Old w1), p.world.cell? ⟨w.heap.size, 6, none⟩ = some (I d.maxOff) := fun p => by have := (L1.out.below p.is) 6 _ rfl; rwa [Addr.add_mid, Nat.zero_add] at this
  have q10 : ∀ p : Ph.S (Row.Old w1), p.world.cell? ⟨w.heap.size + 1, 0, none⟩ = some (I e.phase) := fun p => by have := (L2.out.below p.is) 0 _ rfl; rwa [Addr.add_mid, Nat.zero_add] at this
  have q15 : ∀ p : Ph.S (Row.Old w1), p.world.cell? ⟨w.heap.size + 1, 5, none⟩ = some (I e.maxOn) := fun p => by have := (L2.out.below p.is) 5 _ rfl; rwa [Addr.add_mid, Nat.zero_add] at this
  have q16 : ∀ p : Ph.S (Row.Old w1), p.world.cell? ⟨w.heap.size + 1, 6, none⟩ = some (I e.maxOff) := fun p => by have := (L2.out.below p.is) 6 _ rfl; rwa [Addr.add_mid, Nat.zero_add] at this
  refine Ph.wp_region_ph (Row.Old w1) [] (by kernel_rfl) (by kernel_rfl) (Row.Old.drew _) ?_
  by_cases h0 : d.phase = e.phase
  rotate_left
  · have E0 := Lib.hid h0
    have hb0 : (d.phase == e.phase) = false := by simpa using h0
    clear h0
    repeat
      (refine Ph.wpPh_calm rfl (fun K hK => ?_)
       go_simp
       refine hK _ ?_
       clear hK K)

    refine Ph.wpPh_nil ?_
    intro w2 hb2
    have B2 : Hid (Below w.heap.size w w2) := Below.trans HB.out (Below.mono hb2 HB.out.size)
    clear hb2 hne q00 q05 q06 q10 q15 q16
    go_wp2
    go_ret
    exact ⟨ret_bool (decide_eq_false (fun q => E0.out (by rw [q]))).symm, B2.out⟩
  have E0 := Lib.hid h0
  have hb0 : (d.phase == e.phase) = true := by simpa using h0
  clear h0
  by_cases h1 : d.maxOn = e.maxOn
  rotate_left
  · have E1 := Lib.hid h1
    have hb1 : (d.maxOn == e.maxOn) = false := by simpa using h1
    clear h1
    repeat
      (refine Ph.wpPh_calm rfl (fun K hK => ?_)
       go_simp
       refine hK _ ?_
       clear hK K)

    refine Ph.wpPh_nil ?_
    intro w2 hb2
    have B2 : Hid (Below w.heap.size w w2) := Below.trans HB.out (Below.mono hb2 HB.out.size)
    clear hb2 hne q00 q05 q06 q10 q15 q16
    go_wp2
    go_ret
    exact ⟨ret_bool (decide_eq_false (fun q => E1.out (by rw [q]))).symm, B2.out⟩
  have E1 := Lib.hid h1
  have hb1 : (d.maxOn == e.maxOn) = true := by simpa using h1
  clear h1
  by_cases h2 : d.maxOff = e.maxOff
  rotate_left
  · have E2 := Lib.hid h2
    have hb2 : (d.maxOff == e.maxOff) = false := by simpa using h2
    clear h2
    repeat
      (refine Ph.wpPh_calm rfl (fun K hK => ?_)
       go_simp
       refine hK _ ?_
       clear hK K)

    refine Ph.wpPh_nil ?_
    intro w2 hb2
    have B2 : Hid (Below w.heap.size w w2) := Below.trans HB.out (Below.mono hb2 HB.out.size)
    clear hb2 hne q00 q05 q06 q10 q15 q16
    go_wp2
    go_ret
    exact ⟨ret_bool (decide_eq_false (fun q => E2.out (by rw [q]))).symm, B2.out⟩
  have E2 := Lib.hid h2
  have hb2 : (d.maxOff == e.maxOff) = true := by simpa using h2
  clear h2
  iterate 20
    (refine Ph.wpPh_calm rfl (fun K hK => ?_)
     go_simp
     refine hK _ ?_
     clear hK K)

  refine Row.wpPh_load rfl rfl 44 _ rfl ⟨w.heap.size, 0, none⟩ rfl d.cells _ (fun p => L1.out.below p.is) Try.underlying44 rfl infoD ?_
  (refine Ph.wpPh_calm rfl (fun K hK => ?_)
   go_simp
   refine ⟨_, fun p => Row.Old.call (bits_any d _), hK _ ?_⟩
   clear hK K)
  refine Row.wpPh_load rfl rfl 44 _ rfl ⟨w.heap.size + 1, 0, none⟩ rfl e.cells _ (fun p => L2.out.below p.is) Try.underlying44 rfl infoD ?_
  (refine Ph.wpPh_calm rfl (fun K hK => ?_)
   go_simp
   refine ⟨_, fun p => Row.Old.call (bits_any e _), hK _ ?_⟩
   clear hK K)
  refine Row.wpPh_eql 119 _ _ _ rfl rfl rfl (bitsOf d).toArray (bitsOf e).toArray rfl rfl guard4 _ (bits_eqs d e) ?_
  (refine Ph.wpPh_calm rfl (fun K hK => ?_)
   go_simp
   refine hK _ ?_
   clear hK K)
  (refine Ph.wpPh_calm rfl (fun K hK => ?_)
   go_simp
   refine hK _ ?_
   clear hK K)
  refine Ph.wpPh_nil ?_
  intro w2 hb2
  have B2 : Hid (Below w.heap.size w w2) := Below.trans HB.out (Below.mono hb2 HB.out.size)
  clear hb2 hne q00 q05 q06 q10 q15 q16
  go_wp2
  go_ret
  refine ⟨ret_bool ?_, B2.out⟩
  obtain ⟨a0, a1, a2, a3, a4, a5, a6⟩ := d
  obtain ⟨b0, b1, b2, b3, b4, b5, b6⟩ := e
  have e0 : a0 = b0 := E0.out
  have e1 : a5 = b5 := E1.out
  have e2 : a6 = b6 := E2.out
  subst e0 e1 e2
  simp
set_option maxHeartbeats 1000000 in
theorem dets_any (a b : Option Addr) (ca cb : Nat) (l m : List Det) (w : World) (h : RowOf 7 Det.cells w ⟨a, ca⟩ l) (h' : RowOf 7 Det.cells w ⟨b, cb⟩ m) :
    Calls Try.prog 65 #[.slice a l.length ca, .slice b m.length cb, .func (.func 66) #[] #[]] w fun e w' => e = .returned (.bool (decide (l = m))) ∧ Below w.heap.size w w' := by
  have h1 := h.len
  have h2 := h'.len
  unfold maxLen at h1 h2
  have Hr := Lib.hid h
  have Hr' := Lib.hid h'
  clear h h'
  by_cases hlen : l.length = m.length
  · have HL := Lib.hid hlen
    have hd : ((l.length : Int) != (m.length : Int)) = false := by rw [bne_eq_false_iff_eq]; omega
    go_enter Try.func65, Try.ntmps65
    go_wp2
    go_loopw [16] (fun i wr => ∃ k : Nat, k ≤ l.length ∧ i = .int .i64 k ∧ l.take k = m.take k ∧ Below w.heap.size w wr) (fun i _ => l.length - (intOf i).toNat)
    case atStart => exact ⟨0, by omega, rfl, rfl, Below.refl _ _⟩
    case round =>
      obtain ⟨k, hk, rfl, hall, hbel⟩ := hrel
      have Hall := Lib.hid hall
      have Hb := Lib.hid hbel
      clear hall hbel
      by_cases hlt : k < l.length
      · have hv := List.getElem?_eq_getElem hlt
        have hu := List.getElem?_eq_getElem (show k < m.length by omega)
        generalize l[k] = v at hv
        generalize m[k]'(show k < m.length by omega) = u at hu
        obtain ⟨x, hx, hc⟩ := (Hr.out.below Hb.out).at hv
        obtain rfl : a = some x := hx
        obtain ⟨y, hy, hc'⟩ := (Hr'.out.below Hb.out).at hu
        obtain rfl : b = some y := hy
        have HV := Lib.hid hv
        have HU := Lib.hid hu
        have HC := Lib.hid hc
        have HC' := Lib.hid hc'
        clear hv hu hc hc'
        go_wp2_with (first | (refine Row.wpList_load_lies rfl 44 _ rfl (x.add (k * 7)) rfl v.cells _ HC.out Try.underlying44 rfl infoD ?_) | (refine Row.wpList_store_new rfl 44 _ _ rfl _ _ v.cells.toArray rfl rfl rfl infoD rfl v.one ?_))
        have B1 : Hid (Below wr.heap.size wr (wr.alloc (.cells v.cells.toArray 44))) := (Below.refl _ _).alloc (Nat.le_refl _) _
        have L1 : Hid (Lies (wr.alloc (.cells v.cells.toArray 44)) ⟨wr.heap.size, 0, none⟩ v.cells) := Row.lies_new _ _ _
        have L2 : Hid (Lies (wr.alloc (.cells v.cells.toArray 44)) (y.add (k * 7)) u.cells) := HC'.out.below B1.out
        generalize hw1 : wr.alloc (.cells v.cells.toArray 44) = w1 at B1 L1 L2 ⊢
        clear hw1
        have hkm : k < m.length := by omega
        have hne : Nonempty (Ph.S (Row.Old w1)) := ⟨⟨0, w1, Below.refl _ _⟩⟩
        refine Ph.wp_region_ph (Row.Old w1) [] (by kernel_rfl) (by kernel_rfl) (Row.Old.drew _) ?_
        repeat
          first
            | (refine Row.wpPh_load rfl rfl 44 _ rfl ⟨wr.heap.size, 0, none⟩ rfl v.cells _ (fun p => L1.out.below p.is) Try.underlying44 rfl infoD ?_)
            | (refine Row.wpPh_load rfl rfl 44 _ rfl (y.add (k * 7)) rfl u.cells _ (fun p => L2.out.below p.is) Try.underlying44 rfl infoD ?_)
            | (refine Ph.wpPh_calm rfl (fun K hK => ?_)
               go_simp
               first
                 | (refine hK _ ?_; clear hK K)
                 | (refine ⟨_, fun p => Row.Old.call (detv_any v u _), hK _ ?_⟩; clear hK K))
        refine Ph.wpPh_nil ?_
        intro w2 hb2
        clear hne
        have B2 := Lib.hid (Below.trans Hb.out ((Below.trans B1.out (Below.mono hb2 B1.out.size)).mono Hb.out.size))
        clear hb2
        by_cases hvu : v = u
        · have HE := Lib.hid hvu
          rw [decide_eq_true hvu]
          clear hvu
          go_wp2
          go_roundw
          case rel => exact ⟨k + 1, by omega, by go_num, eq_step HV.out HU.out Hall.out HE.out, B2.out⟩
          case measure => simp [intOf]; omega
        · have HE := Lib.hid (show ¬ l = m from eq_break HV.out HU.out hvu)
          rw [decide_eq_false hvu]
          clear hvu
          go_wp2
          go_ret
          exact ⟨ret_bool (decide_eq_false HE.out).symm, B2.out⟩
      · have HE := Lib.hid (show l = m from eq_end Hall.out HL.out hlt)
        go_wp2
        go_ret
        exact ⟨ret_bool (decide_eq_true HE.out).symm, Hb.out⟩
  · have HL := Lib.hid (show ¬ l = m from fun e => hlen (by rw [e]))
    have hd : ((l.length : Int) != (m.length : Int)) = true := by rw [bne_iff_ne]; omega
    go_enter Try.func65, Try.ntmps65
    go_wp2
    go_ret
    exact ⟨ret_bool (decide_eq_false HL.out).symm, Below.refl _ _⟩
end Go.Proofs.Ytfnpcfibgabmfaa.Same
/- The contract of the generator's own phase. -/
namespace Go.Proofs.Ytfnpcfibgabmfaa.GenP
open Go.ChangeShapes Go.WideShapes Go.ChangeAt Go.RowKit
open Tab Clone RefS
open May (infoP)
open Same (below_setRow)
set_option linter.unusedVariables false
set_option linter.unusedSimpArgs false
theorem infoPz : (Try.prog.info? 25).map (fun i => (i.zero, i.size)) = some (some (.agg zPh.cells.toArray), 13) := by kernel_rfl
def recall (x walk : Int) : Int := if x > 3 ∨ x = 3 ∧ walk = 0 then 0 else x
/-- A phase by twelve numbers. -/
def genPh (L : List Int) (i : Int) : Ph :=
  let min := 1 + num L i 12
  let max := min + num L (i + 5) 25
  let walks := num L (i + 7) 2 = 1
  let walk := if walks then 1 + num L (i + 8) 10 else 0
  ⟨true, min, num L (i + 1) 9, max, max + num L (i + 6) 15, 1 + num L (i + 2) 6, 10 + num L (i + 3) 4, num L (i + 4) 5, walk, if walks then 1 + num L (i + 8) 97 / 10 else 0, recall (num L (i + 9) 7) walk, decide (num L (i + 10) 3 > 0), decide (num L (i + 11) 4 = 1)⟩
set_option maxRecDepth 100000 in
set_option maxHeartbeats 8000000 in
theorem phase_any (a : Option Addr) (cap : Nat) (L : List Int) (i : Int) (w : World) (h : IntRow w ⟨a, cap⟩ L) (h0 : 0 ≤ i) (h1 : i ≤ 100000) :
    Calls Try.prog 36 #[.slice a L.length cap, .int .i64 i] w fun e w' => e = .returned (.agg (genPh L i).cells.toArray) ∧ Below w.heap.size w w' := by
  obtain ⟨x0, hx0, ⟨r0, s0⟩, F0⟩ : ∃ x : Int, x = num L i 12 ∧ (0 ≤ x ∧ x < 12) ∧ Hid (∀ W, Below w.heap.size w W → Calls Try.prog 37 #[.slice a L.length cap, .int .i64 i, .int .i64 12] W fun e w' => e = .returned (.int .i64 x) ∧ w' = W) := ⟨_, rfl, num_range _ _ _ (by omega), Lib.hid (fun W hb => (from_any a cap L _ _ W (h.below hb) (by omega) (by omega) (by omega)).mono fun _ _ ⟨e, q⟩ => ⟨e, q.symm⟩)⟩
  obtain ⟨x1, hx1, ⟨r1, s1⟩, F1⟩ : ∃ x : Int, x = num L (i + 1) 9 ∧ (0 ≤ x ∧ x < 9) ∧ Hid (∀ W, Below w.heap.size w W → Calls Try.prog 37 #[.slice a L.length cap, .int .i64 (i + 1), .int .i64 9] W fun e w' => e = .returned (.int .i64 x) ∧ w' = W) := ⟨_, rfl, num_range _ _ _ (by omega), Lib.hid (fun W hb => (from_any a cap L _ _ W (h.below hb) (by omega) (by omega) (by omega)).mono fun _ _ ⟨e, q⟩ => ⟨e, q.symm⟩)⟩
  obtain ⟨x2, hx2, ⟨r2, s2⟩, F2⟩ : ∃ x : Int, x = num L (i + 2) 6 ∧ (0 ≤ x ∧ x < 6) ∧ Hid (∀ W, Below w.heap.size w W → Calls Try.prog 37 #[.slice a L.length cap, .int .i64 (i + 2), .int .i64 6] W fun e w' => e = .returned (.int .i64 x) ∧ w' = W) := ⟨_, rfl, num_range _ _ _ (by omega), Lib.hid (fun W hb => (from_any a cap L _ _ W (h.below hb) (by omega) (by omega) (by omega)).mono fun _ _ ⟨e, q⟩ => ⟨e, q.symm⟩)⟩
  obtain ⟨x3, hx3, ⟨r3, s3⟩, F3⟩ : ∃ x : Int, x = num L (i + 3) 4 ∧ (0 ≤ x ∧ x < 4) ∧ Hid (∀ W, Below w.heap.size w W → Calls Try.prog 37 #[.slice a L.length cap, .int .i64 (i + 3), .int .i64 4] W fun e w' => e = .returned (.int .i64 x) ∧ w' = W) := ⟨_, rfl, num_range _ _ _ (by omega), Lib.hid (fun W hb => (from_any a cap L _ _ W (h.below hb) (by omega) (by omega) (by omega)).mono fun _ _ ⟨e, q⟩ => ⟨e, q.symm⟩)⟩
  obtain ⟨x4, hx4, ⟨r4, s4⟩, F4⟩ : ∃ x : Int, x = num L (i + 4) 5 ∧ (0 ≤ x ∧ x < 5) ∧ Hid (∀ W, Below w.heap.size w W → Calls Try.prog 37 #[.slice a L.length cap, .int .i64 (i + 4), .int .i64 5] W fun e w' => e = .returned (.int .i64 x) ∧ w' = W) := ⟨_, rfl, num_range _ _ _ (by omega), Lib.hid (fun W hb => (from_any a cap L _ _ W (h.below hb) (by omega) (by omega) (by omega)).mono fun _ _ ⟨e, q⟩ => ⟨e, q.symm⟩)⟩
  obtain ⟨x5, hx5, ⟨r5, s5⟩, F5⟩ : ∃ x : Int, x = num L (i + 5) 25 ∧ (0 ≤ x ∧ x < 25) ∧ Hid (∀ W, Below w.heap.size w W → Calls Try.prog 37 #[.slice a L.length cap, .int .i64 (i + 5), .int .i64 25] W fun e w' => e = .returned (.int .i64 x) ∧ w' = W) := ⟨_, rfl, num_range _ _ _ (by omega), Lib.hid (fun W hb => (from_any a cap L _ _ W (h.below hb) (by omega) (by omega) (by omega)).mono fun _ _ ⟨e, q⟩ => ⟨e, q.symm⟩)⟩
  obtain ⟨x6, hx6, ⟨r6, s6⟩, F6⟩ : ∃ x : Int, x = num L (i + 6) 15 ∧ (0 ≤ x ∧ x < 15) ∧ Hid (∀ W, Below w.heap.size w W → Calls Try.prog 37 #[.slice a L.length cap, .int .i64 (i + 6), .int .i64 15] W fun e w' => e = .returned (.int .i64 x) ∧ w' = W) := ⟨_, rfl, num_range _ _ _ (by omega), Lib.hid (fun W hb => (from_any a cap L _ _ W (h.below hb) (by omega) (by omega) (by omega)).mono fun _ _ ⟨e, q⟩ => ⟨e, q.symm⟩)⟩
  obtain ⟨x7, hx7, ⟨r7, s7⟩, F7⟩ : ∃ x : Int, x = num L (i + 7) 2 ∧ (0 ≤ x ∧ x < 2) ∧ Hid (∀ W, Below w.heap.size w W → Calls Try.prog 37 #[.slice a L.length cap, .int .i64 (i + 7), .int .i64 2] W fun e w' => e = .returned (.int .i64 x) ∧ w' = W) := ⟨_, rfl, num_range _ _ _ (by omega), Lib.hid (fun W hb => (from_any a cap L _ _ W (h.below hb) (by omega) (by omega) (by omega)).mono fun _ _ ⟨e, q⟩ => ⟨e, q.symm⟩)⟩
  obtain ⟨x8, hx8, ⟨r8, s8⟩, F8⟩ : ∃ x : Int, x = num L (i + 8) 10 ∧ (0 ≤ x ∧ x < 10) ∧ Hid (∀ W, Below w.heap.size w W → Calls Try.prog 37 #[.slice a L.length cap, .int .i64 (i + 8), .int .i64 10] W fun e w' => e = .returned (.int .i64 x) ∧ w' = W) := ⟨_, rfl, num_range _ _ _ (by omega), Lib.hid (fun W hb => (from_any a cap L _ _ W (h.below hb) (by omega) (by omega) (by omega)).mono fun _ _ ⟨e, q⟩ => ⟨e, q.symm⟩)⟩
  obtain ⟨xb, hxb, ⟨rb, sb⟩, Fb⟩ : ∃ x : Int, x = num L (i + 8) 97 ∧ (0 ≤ x ∧ x < 97) ∧ Hid (∀ W, Below w.heap.size w W → Calls Try.prog 37 #[.slice a L.length cap, .int .i64 (i + 8), .int .i64 97] W fun e w' => e = .returned (.int .i64 x) ∧ w' = W) := ⟨_, rfl, num_range _ _ _ (by omega), Lib.hid (fun W hb => (from_any a cap L _ _ W (h.below hb) (by omega) (by omega) (by omega)).mono fun _ _ ⟨e, q⟩ => ⟨e, q.symm⟩)⟩
  obtain ⟨x9, hx9, ⟨r9, s9⟩, F9⟩ : ∃ x : Int, x = num L (i + 9) 7 ∧ (0 ≤ x ∧ x < 7) ∧ Hid (∀ W, Below w.heap.size w W → Calls Try.prog 37 #[.slice a L.length cap, .int .i64 (i + 9), .int .i64 7] W fun e w' => e = .returned (.int .i64 x) ∧ w' = W) := ⟨_, rfl, num_range _ _ _ (by omega), Lib.hid (fun W hb => (from_any a cap L _ _ W (h.below hb) (by omega) (by omega) (by omega)).mono fun _ _ ⟨e, q⟩ => ⟨e, q.symm⟩)⟩
  obtain ⟨xt, hxt, ⟨rt, st⟩, Ft⟩ : ∃ x : Int, x = num L (i + 10) 3 ∧ (0 ≤ x ∧ x < 3) ∧ Hid (∀ W, Below w.heap.size w W → Calls Try.prog 37 #[.slice a L.length cap, .int .i64 (i + 10), .int .i64 3] W fun e w' => e = .returned (.int .i64 x) ∧ w' = W) := ⟨_, rfl, num_range _ _ _ (by omega), Lib.hid (fun W hb => (from_any a cap L _ _ W (h.below hb) (by omega) (by omega) (by omega)).mono fun _ _ ⟨e, q⟩ => ⟨e, q.symm⟩)⟩
  obtain ⟨xe, hxe, ⟨re, se⟩, Fe⟩ : ∃ x : Int, x = num L (i + 11) 4 ∧ (0 ≤ x ∧ x < 4) ∧ Hid (∀ W, Below w.heap.size w W → Calls Try.prog 37 #[.slice a L.length cap, .int .i64 (i + 11), .int .i64 4] W fun e w' => e = .returned (.int .i64 x) ∧ w' = W) := ⟨_, rfl, num_range _ _ _ (by omega), Lib.hid (fun W hb => (from_any a cap L _ _ W (h.below hb) (by omega) (by omega) (by omega)).mono fun _ _ ⟨e, q⟩ => ⟨e, q.symm⟩)⟩
  have RES : Hid (genPh L i = ⟨true, 1 + x0, x1, 1 + x0 + x5, 1 + x0 + x5 + x6, 1 + x2, 10 + x3, x4, if x7 = 1 then 1 + x8 else 0, if x7 = 1 then 1 + xb / 10 else 0, recall x9 (if x7 = 1 then 1 + x8 else 0), decide (xt > 0), decide (xe = 1)⟩) := Lib.hid (by subst hx0 hx1 hx2 hx3 hx4 hx5 hx6 hx7 hx8 hxb hx9 hxt hxe; rfl)
  generalize genPh L i = R at RES ⊢
  clear hx0 hx1 hx2 hx3 hx4 hx5 hx6 hx7 hx8 hxb hx9 hxt hxe h
  have hz := (zero_of_info infoPz).1
  have HB : Hid (Below w.heap.size w (w.alloc (.cells zPh.cells.toArray 25))) := Lib.hid ((Below.refl _ _).alloc (Nat.le_refl _) _)
  have hg := heap_alloc_new w (.cells zPh.cells.toArray 25)
  have hs : (w.alloc (.cells zPh.cells.toArray 25)).heap.size = w.heap.size + 1 := by simp
  have HG := Lib.hid hg
  have HS := Lib.hid hs
  clear hg hs
  simp only [zPh, Ph.cells] at hz HB HG HS
  go_enter Try.func36, Try.ntmps36
  go_upto_region 1 with fail
  generalize (World.alloc w _) = u at HB HG HS ⊢
  go_wp2_with fail
  refine (F0.out _ HB.out).mono ?_
  rintro e w' ⟨rfl, hq⟩
  subst w'
  go_wp2_with fail
  refine (F1.out _ HB.out).mono ?_
  rintro e w' ⟨rfl, hq⟩
  subst w'
  go_wp2_with fail
  refine (F2.out _ HB.out).mono ?_
  rintro e w' ⟨rfl, hq⟩
  subst w'
  go_wp2_with fail
  refine (F3.out _ HB.out).mono ?_
  rintro e w' ⟨rfl, hq⟩
  subst w'
  go_wp2_with fail
  refine (F4.out _ HB.out).mono ?_
  rintro e w' ⟨rfl, hq⟩
  subst w'
  go_upto_region 2 with (refine Row.wpList_store_new rfl 25 _ _ rfl u _ #[.bool true, I (1 + x0), I x1, I 0, I 0, I (1 + x2), I (10 + x3), I x4, I 0, I 0, I 0, .bool false, .bool false] rfl rfl rfl infoP rfl (by simp [Value.oneCell']) ?_)
  (try dsimp only [Act.put])
  have hb := HB.out.alloc HB.out.size (.cells #[.bool true, I (1 + x0), I x1, I 0, I 0, I (1 + x2), I (10 + x3), I x4, I 0, I 0, I 0, .bool false, .bool false] 25)
  have g5 := heap_alloc_new u (.cells #[.bool true, I (1 + x0), I x1, I 0, I 0, I (1 + x2), I (10 + x3), I x4, I 0, I 0, I 0, .bool false, .bool false] 25)
  have g4 := (Below.heap_alloc u (.cells #[.bool true, I (1 + x0), I x1, I 0, I 0, I (1 + x2), I (10 + x3), I x4, I 0, I 0, I 0, .bool false, .bool false] 25) w.heap.size (by have := HS.out; omega)).trans HG.out
  have b5lt : w.heap.size < u.heap.size := by have := HS.out; omega
  clear HB HG HS
  generalize World.alloc u _ = u0 at g4 g5 hb ⊢
  generalize u.heap.size = b5 at g5 b5lt ⊢
  have G4 := Lib.hid g4
  have G5 := Lib.hid g5
  have HB := Lib.hid hb
  clear g4 g5 hb
  have e0 : IntKind.i64.wrap (i + 5) = i + 5 := by rw [IntKind.wrap_i64]; omega
  have e1 : IntKind.i64.wrap (1 + x0 + x5) = 1 + x0 + x5 := by rw [IntKind.wrap_i64]; omega
  have g4 : u0.drew.heap[w.heap.size]? = some (.cells #[.bool false, .int .i64 0, .int .i64 0, .int .i64 0, .int .i64 0, .int .i64 0, .int .i64 0, .int .i64 0, .int .i64 0, .int .i64 0, .int .i64 0, .bool false, .bool false] 25 (0, 0)) := G4.out
  have g5 : u0.drew.heap[b5]? = some (.cells #[.bool true, I (1 + x0), I x1, I 0, I 0, I (1 + x2), I (10 + x3), I x4, I 0, I 0, I 0, .bool false, .bool false] 25 (0, 0)) := G5.out
  have hb : Below w.heap.size w u0.drew := HB.out.drew
  clear G4 G5 HB
  refine QB.region_tail 8 (by kernel_rfl) (by kernel_rfl) ?_
  generalize World.drew u0 = u1 at g4 g5 hb ⊢
  have G4 := Lib.hid g4
  have G5 := Lib.hid g5
  have HB := Lib.hid hb
  clear g4 g5 hb
  have c1 : u1.cell? ⟨b5, 1, none⟩ = some (I (1 + x0)) := by rw [cell_of_row _ _ _ _ _ _ G5.out]; rfl
  have c3 : u1.cell? ⟨b5, 3, none⟩ = some (I 0) := by rw [cell_of_row _ _ _ _ _ _ G5.out]; rfl
  have f3 : u1.frozen? ⟨b5, 3, none⟩ = false := frozen_of_row _ _ _ _ _ G5.out
  simp only [List.take_succ_cons, List.take_zero, List.drop_succ_cons, List.drop_zero]
  repeat still_step
  still_call (F5.out _ HB.out)
  repeat still_step
  refine wpStill_nil ?_
  go_upto_region 3 with fail
  clear e0 e1
  have g5 := heap_setCell_same u1 b5 3 _ _ (I (1 + x0 + x5)) G5.out
  simp only [List.setIfInBounds_toArray, List.set_cons_succ, List.set_cons_zero] at g5
  have g4 := (Below.heap_setCell u1 ⟨b5, 3, none⟩ (I (1 + x0 + x5)) w.heap.size (by simp; omega)).trans G4.out
  have hb := Owned.below_write HB.out (g := b5) (i := 3) (by omega) (I (1 + x0 + x5))
  clear c1 c3 f3 G4 G5 HB
  generalize World.setCell u1 ⟨b5, 3, none⟩ (I (1 + x0 + x5)) = u2 at g4 g5 hb ⊢
  have G4 := Lib.hid g4
  have G5 := Lib.hid g5
  have HB := Lib.hid hb
  clear g4 g5 hb
  have e0 : IntKind.i64.wrap (i + 6) = i + 6 := by rw [IntKind.wrap_i64]; omega
  have e1 : IntKind.i64.wrap (1 + x0 + x5 + x6) = 1 + x0 + x5 + x6 := by rw [IntKind.wrap_i64]; omega
  have g4 : u2.drew.heap[w.heap.size]? = some (.cells #[.bool false, .int .i64 0, .int .i64 0, .int .i64 0, .int .i64 0, .int .i64 0, .int .i64 0, .int .i64 0, .int .i64 0, .int .i64 0, .int .i64 0, .bool false, .bool false] 25 (0, 0)) := G4.out
  have g5 : u2.drew.heap[b5]? = some (.cells #[.bool true, I (1 + x0), I x1, I (1 + x0 + x5), I 0, I (1 + x2), I (10 + x3), I x4, I 0, I 0, I 0, .bool false, .bool false] 25 (0, 0)) := G5.out
  have hb : Below w.heap.size w u2.drew := HB.out.drew
  clear G4 G5 HB
  refine QB.region_tail 8 (by kernel_rfl) (by kernel_rfl) ?_
  generalize World.drew u2 = u3 at g4 g5 hb ⊢
  have G4 := Lib.hid g4
  have G5 := Lib.hid g5
  have HB := Lib.hid hb
  clear g4 g5 hb
  have c3 : u3.cell? ⟨b5, 3, none⟩ = some (I (1 + x0 + x5)) := by rw [cell_of_row _ _ _ _ _ _ G5.out]; rfl
  have c4 : u3.cell? ⟨b5, 4, none⟩ = some (I 0) := by rw [cell_of_row _ _ _ _ _ _ G5.out]; rfl
  have f4 : u3.frozen? ⟨b5, 4, none⟩ = false := frozen_of_row _ _ _ _ _ G5.out
  simp only [List.take_succ_cons, List.take_zero, List.drop_succ_cons, List.drop_zero]
  repeat still_step
  still_call (F6.out _ HB.out)
  repeat still_step
  refine wpStill_nil ?_
  go_upto_region 4 with fail
  clear e0 e1
  have g5 := heap_setCell_same u3 b5 4 _ _ (I (1 + x0 + x5 + x6)) G5.out
  simp only [List.setIfInBounds_toArray, List.set_cons_succ, List.set_cons_zero] at g5
  have g4 := (Below.heap_setCell u3 ⟨b5, 4, none⟩ (I (1 + x0 + x5 + x6)) w.heap.size (by simp; omega)).trans G4.out
  have hb := Owned.below_write HB.out (g := b5) (i := 4) (by omega) (I (1 + x0 + x5 + x6))
  clear c3 c4 f4 G4 G5 HB
  generalize World.setCell u3 ⟨b5, 4, none⟩ (I (1 + x0 + x5 + x6)) = u4 at g4 g5 hb ⊢
  have G4 := Lib.hid g4
  have G5 := Lib.hid g5
  have HB := Lib.hid hb
  clear g4 g5 hb
  go_wp2_with fail
  refine (F7.out _ HB.out).mono ?_
  rintro e w' ⟨rfl, hq⟩
  subst w'
  by_cases h7 : x7 = 1
  · have H7 := Lib.hid h7
    have e7 : (x7 == 1) = true := by simpa using h7
    clear h7
    go_upto_region 5 with fail
    have c8 : u4.cell? ⟨b5, 8, none⟩ = some (I 0) := by rw [cell_of_row _ _ _ _ _ _ G5.out]; rfl
    have f8 : u4.frozen? ⟨b5, 8, none⟩ = false := frozen_of_row _ _ _ _ _ G5.out
    go_wp2_with fail
    refine (F8.out _ HB.out).mono ?_
    rintro e w' ⟨rfl, hq⟩
    subst w'
    go_upto_region 6 with fail
    have g5 := heap_setCell_same u4 b5 8 _ _ (I (1 + x8)) G5.out
    simp only [List.setIfInBounds_toArray, List.set_cons_succ, List.set_cons_zero] at g5
    have g4 := (Below.heap_setCell u4 ⟨b5, 8, none⟩ (I (1 + x8)) w.heap.size (by simp; omega)).trans G4.out
    have hb := Owned.below_write HB.out (g := b5) (i := 8) (by omega) (I (1 + x8))
    clear c8 f8 G4 G5 HB
    generalize World.setCell u4 ⟨b5, 8, none⟩ (I (1 + x8)) = u5 at g4 g5 hb ⊢
    have G4 := Lib.hid g4
    have G5 := Lib.hid g5
    have HB := Lib.hid hb
    clear g4 g5 hb
    have c9 : u5.cell? ⟨b5, 9, none⟩ = some (I 0) := by rw [cell_of_row _ _ _ _ _ _ G5.out]; rfl
    have f9 : u5.frozen? ⟨b5, 9, none⟩ = false := frozen_of_row _ _ _ _ _ G5.out
    go_wp2_with fail
    refine (Fb.out _ HB.out).mono ?_
    rintro e w' ⟨rfl, hq⟩
    subst w'
    go_upto_region 7 with fail
    have g5 := heap_setCell_same u5 b5 9 _ _ (I (1 + xb / 10)) G5.out
    simp only [List.setIfInBounds_toArray, List.set_cons_succ, List.set_cons_zero] at g5
    have g4 := (Below.heap_setCell u5 ⟨b5, 9, none⟩ (I (1 + xb / 10)) w.heap.size (by simp; omega)).trans G4.out
    have hb := Owned.below_write HB.out (g := b5) (i := 9) (by omega) (I (1 + xb / 10))
    clear c9 f9 G4 G5 HB
    generalize World.setCell u5 ⟨b5, 9, none⟩ (I (1 + xb / 10)) = u6 at g4 g5 hb ⊢
    have G4 := Lib.hid g4
    have G5 := Lib.hid g5
    have HB := Lib.hid hb
    clear g4 g5 hb
    have c10 : u6.cell? ⟨b5, 10, none⟩ = some (I 0) := by rw [cell_of_row _ _ _ _ _ _ G5.out]; rfl
    have f10 : u6.frozen? ⟨b5, 10, none⟩ = false := frozen_of_row _ _ _ _ _ G5.out
    go_wp2_with fail
    refine (F9.out _ HB.out).mono ?_
    rintro e w' ⟨rfl, hq⟩
    subst w'
    go_upto_region 8 with fail
    have g5 := heap_setCell_same u6 b5 10 _ _ (I x9) G5.out
    simp only [List.setIfInBounds_toArray, List.set_cons_succ, List.set_cons_zero] at g5
    have g4 := (Below.heap_setCell u6 ⟨b5, 10, none⟩ (I x9) w.heap.size (by simp; omega)).trans G4.out
    have hb := Owned.below_write HB.out (g := b5) (i := 10) (by omega) (I x9)
    clear c10 f10 G4 G5 HB
    generalize World.setCell u6 ⟨b5, 10, none⟩ (I x9) = u7 at g4 g5 hb ⊢
    have G4 := Lib.hid g4
    have G5 := Lib.hid g5
    have HB := Lib.hid hb
    clear g4 g5 hb
    have c8 : u7.cell? ⟨b5, 8, none⟩ = some (I (1 + x8)) := by rw [cell_of_row _ _ _ _ _ _ G5.out]; rfl
    have c10 : u7.cell? ⟨b5, 10, none⟩ = some (I x9) := by rw [cell_of_row _ _ _ _ _ _ G5.out]; rfl
    have f10 : u7.frozen? ⟨b5, 10, none⟩ = false := frozen_of_row _ _ _ _ _ G5.out
    by_cases h9 : x9 > 3
    · have RC : Hid (recall x9 (1 + x8) = 0) := Lib.hid (by unfold recall; rw [if_pos (by omega)])
      have H9 := Lib.hid h9
      have q9 : ¬ (x9 ≤ 3) := by omega
      go_upto_region 10 with fail
      have g5 := heap_setCell_same u7 b5 10 _ _ (I 0) G5.out
      simp only [List.setIfInBounds_toArray, List.set_cons_succ, List.set_cons_zero] at g5
      have g4 := (Below.heap_setCell u7 ⟨b5, 10, none⟩ (I 0) w.heap.size (by simp; omega)).trans G4.out
      have hb := Owned.below_write HB.out (g := b5) (i := 10) (by omega) (I 0)
      clear c8 c10 f10 G4 G5 HB
      generalize World.setCell u7 ⟨b5, 10, none⟩ (I 0) = u8 at g4 g5 hb ⊢
      have G4 := Lib.hid g4
      have G5 := Lib.hid g5
      have HB := Lib.hid hb
      clear g4 g5 hb
      have c11 : u8.cell? ⟨b5, 11, none⟩ = some (.bool false) := by rw [cell_of_row _ _ _ _ _ _ G5.out]; rfl
      have f11 : u8.frozen? ⟨b5, 11, none⟩ = false := frozen_of_row _ _ _ _ _ G5.out
      go_wp2_with fail
      refine (Ft.out _ HB.out).mono ?_
      rintro e w' ⟨rfl, hq⟩
      subst w'
      go_upto_region 11 with fail
      have g5 := heap_setCell_same u8 b5 11 _ _ (.bool (decide (xt > 0))) G5.out
      simp only [List.setIfInBounds_toArray, List.set_cons_succ, List.set_cons_zero] at g5
      have g4 := (Below.heap_setCell u8 ⟨b5, 11, none⟩ (.bool (decide (xt > 0))) w.heap.size (by simp; omega)).trans G4.out
      have hb := Owned.below_write HB.out (g := b5) (i := 11) (by omega) (.bool (decide (xt > 0)))
      clear c11 f11 G4 G5 HB
      generalize World.setCell u8 ⟨b5, 11, none⟩ (.bool (decide (xt > 0))) = u9 at g4 g5 hb ⊢
      have G4 := Lib.hid g4
      have G5 := Lib.hid g5
      have HB := Lib.hid hb
      clear g4 g5 hb
      have c12 : u9.cell? ⟨b5, 12, none⟩ = some (.bool false) := by rw [cell_of_row _ _ _ _ _ _ G5.out]; rfl
      have f12 : u9.frozen? ⟨b5, 12, none⟩ = false := frozen_of_row _ _ _ _ _ G5.out
      go_wp2_with fail
      refine (Fe.out _ HB.out).mono ?_
      rintro e w' ⟨rfl, hq⟩
      subst w'
      go_upto_region 12 with fail
      have g5 := heap_setCell_same u9 b5 12 _ _ (.bool (decide (xe = 1))) G5.out
      simp only [List.setIfInBounds_toArray, List.set_cons_succ, List.set_cons_zero] at g5
      have g4 := (Below.heap_setCell u9 ⟨b5, 12, none⟩ (.bool (decide (xe = 1))) w.heap.size (by simp; omega)).trans G4.out
      have hb := Owned.below_write HB.out (g := b5) (i := 12) (by omega) (.bool (decide (xe = 1)))
      clear c12 f12 G4 G5 HB
      generalize World.setCell u9 ⟨b5, 12, none⟩ (.bool (decide (xe = 1))) = u10 at g4 g5 hb ⊢
      have G4 := Lib.hid g4
      have G5 := Lib.hid g5
      have HB := Lib.hid hb
      clear g4 g5 hb
      have FIN : Hid (R.cells.toArray = #[.bool true, I (1 + x0), I x1, I (1 + x0 + x5), I (1 + x0 + x5 + x6), I (1 + x2), I (10 + x3), I x4, I (1 + x8), I (1 + xb / 10), I 0, .bool (decide (xt > 0)), .bool (decide (xe = 1))]) := Lib.hid (by rw [RES.out]; simp only [Ph.cells, if_pos H7.out, RC.out])
      have LV : Hid (Lies u10 ⟨b5, 0, none⟩ #[.bool true, I (1 + x0), I x1, I (1 + x0 + x5), I (1 + x0 + x5 + x6), I (1 + x2), I (10 + x3), I x4, I (1 + x8), I (1 + xb / 10), I 0, .bool (decide (xt > 0)), .bool (decide (xe = 1))].toList) := Lib.hid (Row.lies_of_block G5.out)
      have HG := Lib.hid (below_setRow HB.out (g := w.heap.size) (Nat.le_refl _) #[.bool true, I (1 + x0), I x1, I (1 + x0 + x5), I (1 + x0 + x5 + x6), I (1 + x2), I (10 + x3), I x4, I (1 + x8), I (1 + xb / 10), I 0, .bool (decide (xt > 0)), .bool (decide (xe = 1))])
      have HK := Lib.hid (setRow_heap u10 w.heap.size _ #[.bool true, I (1 + x0), I x1, I (1 + x0 + x5), I (1 + x0 + x5 + x6), I (1 + x2), I (10 + x3), I x4, I (1 + x8), I (1 + xb / 10), I 0, .bool (decide (xt > 0)), .bool (decide (xe = 1))] _ _ G4.out)
      go_wp2_with (first | (refine Row.wpList_load_g 25 _ rfl (by first | rfl | go_simp) ⟨b5, 0, none⟩ rfl #[.bool true, I (1 + x0), I x1, I (1 + x0 + x5), I (1 + x0 + x5 + x6), I (1 + x2), I (10 + x3), I x4, I (1 + x8), I (1 + xb / 10), I 0, .bool (decide (xt > 0)), .bool (decide (xe = 1))].toList _ LV.out Try.underlying25 rfl infoP ?_) | (refine wpList_store_row rfl 25 _ _ rfl w.heap.size #[.bool true, I (1 + x0), I x1, I (1 + x0 + x5), I (1 + x0 + x5 + x6), I (1 + x2), I (10 + x3), I x4, I (1 + x8), I (1 + xb / 10), I 0, .bool (decide (xt > 0)), .bool (decide (xe = 1))] rfl rfl 25 _ G4.out infoP rfl (by simp [Value.oneCell']) ?_))
      generalize u10.setRow w.heap.size #[.bool true, I (1 + x0), I x1, I (1 + x0 + x5), I (1 + x0 + x5 + x6), I (1 + x2), I (10 + x3), I x4, I (1 + x8), I (1 + xb / 10), I 0, .bool (decide (xt > 0)), .bool (decide (xe = 1))] = uz at HG HK ⊢
      go_wp2_with fail
      (try simp only [Exit.inBlock, Exit.then])
      refine bodyPost_ret (v := .agg #[.bool true, I (1 + x0), I x1, I (1 + x0 + x5), I (1 + x0 + x5 + x6), I (1 + x2), I (10 + x3), I x4, I (1 + x8), I (1 + xb / 10), I 0, .bool (decide (xt > 0)), .bool (decide (xe = 1))]) ?_ rfl ⟨by rw [FIN.out], HG.out⟩
      exact results_cell_row rfl _ _ w.heap.size 25 _ (0, 0) _ rfl HK.out Try.underlying25 rfl infoP
    · have RC : Hid (recall x9 (1 + x8) = x9) := Lib.hid (by unfold recall; rw [if_neg (by omega)])
      have H9 := Lib.hid h9
      have q9 : x9 ≤ 3 := by omega
      have q8 : (1 + x8 == 0) = false := by rw [beq_eq_false_iff_ne]; omega
      have Q8 := Lib.hid (show ¬ (1 + x8 = 0) from by omega)
      by_cases h3 : x9 = 3
      · have e3 : (x9 == 3) = true := by simpa using h3
        clear h3 h9
        go_upto_region 10 with fail
        clear c8 c10 f10 e3 q8
        have c11 : u7.cell? ⟨b5, 11, none⟩ = some (.bool false) := by rw [cell_of_row _ _ _ _ _ _ G5.out]; rfl
        have f11 : u7.frozen? ⟨b5, 11, none⟩ = false := frozen_of_row _ _ _ _ _ G5.out
        go_wp2_with fail
        refine (Ft.out _ HB.out).mono ?_
        rintro e w' ⟨rfl, hq⟩
        subst w'
        go_upto_region 11 with fail
        have g5 := heap_setCell_same u7 b5 11 _ _ (.bool (decide (xt > 0))) G5.out
        simp only [List.setIfInBounds_toArray, List.set_cons_succ, List.set_cons_zero] at g5
        have g4 := (Below.heap_setCell u7 ⟨b5, 11, none⟩ (.bool (decide (xt > 0))) w.heap.size (by simp; omega)).trans G4.out
        have hb := Owned.below_write HB.out (g := b5) (i := 11) (by omega) (.bool (decide (xt > 0)))
        clear c11 f11 G4 G5 HB
        generalize World.setCell u7 ⟨b5, 11, none⟩ (.bool (decide (xt > 0))) = u8 at g4 g5 hb ⊢
        have G4 := Lib.hid g4
        have G5 := Lib.hid g5
        have HB := Lib.hid hb
        clear g4 g5 hb
        have c12 : u8.cell? ⟨b5, 12, none⟩ = some (.bool false) := by rw [cell_of_row _ _ _ _ _ _ G5.out]; rfl
        have f12 : u8.frozen? ⟨b5, 12, none⟩ = false := frozen_of_row _ _ _ _ _ G5.out
        go_wp2_with fail
        refine (Fe.out _ HB.out).mono ?_
        rintro e w' ⟨rfl, hq⟩
        subst w'
        go_upto_region 12 with fail
        have g5 := heap_setCell_same u8 b5 12 _ _ (.bool (decide (xe = 1))) G5.out
        simp only [List.setIfInBounds_toArray, List.set_cons_succ, List.set_cons_zero] at g5
        have g4 := (Below.heap_setCell u8 ⟨b5, 12, none⟩ (.bool (decide (xe = 1))) w.heap.size (by simp; omega)).trans G4.out
        have hb := Owned.below_write HB.out (g := b5) (i := 12) (by omega) (.bool (decide (xe = 1)))
        clear c12 f12 G4 G5 HB
        generalize World.setCell u8 ⟨b5, 12, none⟩ (.bool (decide (xe = 1))) = u9 at g4 g5 hb ⊢
        have G4 := Lib.hid g4
        have G5 := Lib.hid g5
        have HB := Lib.hid hb
        clear g4 g5 hb
        have FIN : Hid (R.cells.toArray = #[.bool true, I (1 + x0), I x1, I (1 + x0 + x5), I (1 + x0 + x5 + x6), I (1 + x2), I (10 + x3), I x4, I (1 + x8), I (1 + xb / 10), I x9, .bool (decide (xt > 0)), .bool (decide (xe = 1))]) := Lib.hid (by rw [RES.out]; simp only [Ph.cells, if_pos H7.out, RC.out])
        have LV : Hid (Lies u9 ⟨b5, 0, none⟩ #[.bool true, I (1 + x0), I x1, I (1 + x0 + x5), I (1 + x0 + x5 + x6), I (1 + x2), I (10 + x3), I x4, I (1 + x8), I (1 + xb / 10), I x9, .bool (decide (xt > 0)), .bool (decide (xe = 1))].toList) := Lib.hid (Row.lies_of_block G5.out)
        have HG := Lib.hid (below_setRow HB.out (g := w.heap.size) (Nat.le_refl _) #[.bool true, I (1 + x0), I x1, I (1 + x0 + x5), I (1 + x0 + x5 + x6), I (1 + x2), I (10 + x3), I x4, I (1 + x8), I (1 + xb / 10), I x9, .bool (decide (xt > 0)), .bool (decide (xe = 1))])
        have HK := Lib.hid (setRow_heap u9 w.heap.size _ #[.bool true, I (1 + x0), I x1, I (1 + x0 + x5), I (1 + x0 + x5 + x6), I (1 + x2), I (10 + x3), I x4, I (1 + x8), I (1 + xb / 10), I x9, .bool (decide (xt > 0)), .bool (decide (xe = 1))] _ _ G4.out)
        go_wp2_with (first | (refine Row.wpList_load_g 25 _ rfl (by first | rfl | go_simp) ⟨b5, 0, none⟩ rfl #[.bool true, I (1 + x0), I x1, I (1 + x0 + x5), I (1 + x0 + x5 + x6), I (1 + x2), I (10 + x3), I x4, I (1 + x8), I (1 + xb / 10), I x9, .bool (decide (xt > 0)), .bool (decide (xe = 1))].toList _ LV.out Try.underlying25 rfl infoP ?_) | (refine wpList_store_row rfl 25 _ _ rfl w.heap.size #[.bool true, I (1 + x0), I x1, I (1 + x0 + x5), I (1 + x0 + x5 + x6), I (1 + x2), I (10 + x3), I x4, I (1 + x8), I (1 + xb / 10), I x9, .bool (decide (xt > 0)), .bool (decide (xe = 1))] rfl rfl 25 _ G4.out infoP rfl (by simp [Value.oneCell']) ?_))
        generalize u9.setRow w.heap.size #[.bool true, I (1 + x0), I x1, I (1 + x0 + x5), I (1 + x0 + x5 + x6), I (1 + x2), I (10 + x3), I x4, I (1 + x8), I (1 + xb / 10), I x9, .bool (decide (xt > 0)), .bool (decide (xe = 1))] = uz at HG HK ⊢
        go_wp2_with fail
        (try simp only [Exit.inBlock, Exit.then])
        refine bodyPost_ret (v := .agg #[.bool true, I (1 + x0), I x1, I (1 + x0 + x5), I (1 + x0 + x5 + x6), I (1 + x2), I (10 + x3), I x4, I (1 + x8), I (1 + xb / 10), I x9, .bool (decide (xt > 0)), .bool (decide (xe = 1))]) ?_ rfl ⟨by rw [FIN.out], HG.out⟩
        exact results_cell_row rfl _ _ w.heap.size 25 _ (0, 0) _ rfl HK.out Try.underlying25 rfl infoP
      · have e3 : (x9 == 3) = false := by simpa using h3
        clear h3 h9
        go_upto_region 10 with fail
        clear c8 c10 f10 e3 q8
        have c11 : u7.cell? ⟨b5, 11, none⟩ = some (.bool false) := by rw [cell_of_row _ _ _ _ _ _ G5.out]; rfl
        have f11 : u7.frozen? ⟨b5, 11, none⟩ = false := frozen_of_row _ _ _ _ _ G5.out
        go_wp2_with fail
        refine (Ft.out _ HB.out).mono ?_
        rintro e w' ⟨rfl, hq⟩
        subst w'
        go_upto_region 11 with fail
        have g5 := heap_setCell_same u7 b5 11 _ _ (.bool (decide (xt > 0))) G5.out
        simp only [List.setIfInBounds_toArray, List.set_cons_succ, List.set_cons_zero] at g5
        have g4 := (Below.heap_setCell u7 ⟨b5, 11, none⟩ (.bool (decide (xt > 0))) w.heap.size (by simp; omega)).trans G4.out
        have hb := Owned.below_write HB.out (g := b5) (i := 11) (by omega) (.bool (decide (xt > 0)))
        clear c11 f11 G4 G5 HB
        generalize World.setCell u7 ⟨b5, 11, none⟩ (.bool (decide (xt > 0))) = u8 at g4 g5 hb ⊢
        have G4 := Lib.hid g4
        have G5 := Lib.hid g5
        have HB := Lib.hid hb
        clear g4 g5 hb
        have c12 : u8.cell? ⟨b5, 12, none⟩ = some (.bool false) := by rw [cell_of_row _ _ _ _ _ _ G5.out]; rfl
        have f12 : u8.frozen? ⟨b5, 12, none⟩ = false := frozen_of_row _ _ _ _ _ G5.out
        go_wp2_with fail
        refine (Fe.out _ HB.out).mono ?_
        rintro e w' ⟨rfl, hq⟩
        subst w'
        go_upto_region 12 with fail
        have g5 := heap_setCell_same u8 b5 12 _ _ (.bool (decide (xe = 1))) G5.out
        simp only [List.setIfInBounds_toArray, List.set_cons_succ, List.set_cons_zero] at g5
        have g4 := (Below.heap_setCell u8 ⟨b5, 12, none⟩ (.bool (decide (xe = 1))) w.heap.size (by simp; omega)).trans G4.out
        have hb := Owned.below_write HB.out (g := b5) (i := 12) (by omega) (.bool (decide (xe = 1)))
        clear c12 f12 G4 G5 HB
        generalize World.setCell u8 ⟨b5, 12, none⟩ (.bool (decide (xe = 1))) = u9 at g4 g5 hb ⊢
        have G4 := Lib.hid g4
        have G5 := Lib.hid g5
        have HB := Lib.hid hb
        clear g4 g5 hb
        have FIN : Hid (R.cells.toArray = #[.bool true, I (1 + x0), I x1, I (1 + x0 + x5), I (1 + x0 + x5 + x6), I (1 + x2), I (10 + x3), I x4, I (1 + x8), I (1 + xb / 10), I x9, .bool (decide (xt > 0)), .bool (decide (xe = 1))]) := Lib.hid (by rw [RES.out]; simp only [Ph.cells, if_pos H7.out, RC.out])
        have LV : Hid (Lies u9 ⟨b5, 0, none⟩ #[.bool true, I (1 + x0), I x1, I (1 + x0 + x5), I (1 + x0 + x5 + x6), I (1 + x2), I (10 + x3), I x4, I (1 + x8), I (1 + xb / 10), I x9, .bool (decide (xt > 0)), .bool (decide (xe = 1))].toList) := Lib.hid (Row.lies_of_block G5.out)
        have HG := Lib.hid (below_setRow HB.out (g := w.heap.size) (Nat.le_refl _) #[.bool true, I (1 + x0), I x1, I (1 + x0 + x5), I (1 + x0 + x5 + x6), I (1 + x2), I (10 + x3), I x4, I (1 + x8), I (1 + xb / 10), I x9, .bool (decide (xt > 0)), .bool (decide (xe = 1))])
        have HK := Lib.hid (setRow_heap u9 w.heap.size _ #[.bool true, I (1 + x0), I x1, I (1 + x0 + x5), I (1 + x0 + x5 + x6), I (1 + x2), I (10 + x3), I x4, I (1 + x8), I (1 + xb / 10), I x9, .bool (decide (xt > 0)), .bool (decide (xe = 1))] _ _ G4.out)
        go_wp2_with (first | (refine Row.wpList_load_g 25 _ rfl (by first | rfl | go_simp) ⟨b5, 0, none⟩ rfl #[.bool true, I (1 + x0), I x1, I (1 + x0 + x5), I (1 + x0 + x5 + x6), I (1 + x2), I (10 + x3), I x4, I (1 + x8), I (1 + xb / 10), I x9, .bool (decide (xt > 0)), .bool (decide (xe = 1))].toList _ LV.out Try.underlying25 rfl infoP ?_) | (refine wpList_store_row rfl 25 _ _ rfl w.heap.size #[.bool true, I (1 + x0), I x1, I (1 + x0 + x5), I (1 + x0 + x5 + x6), I (1 + x2), I (10 + x3), I x4, I (1 + x8), I (1 + xb / 10), I x9, .bool (decide (xt > 0)), .bool (decide (xe = 1))] rfl rfl 25 _ G4.out infoP rfl (by simp [Value.oneCell']) ?_))
        generalize u9.setRow w.heap.size #[.bool true, I (1 + x0), I x1, I (1 + x0 + x5), I (1 + x0 + x5 + x6), I (1 + x2), I (10 + x3), I x4, I (1 + x8), I (1 + xb / 10), I x9, .bool (decide (xt > 0)), .bool (decide (xe = 1))] = uz at HG HK ⊢
        go_wp2_with fail
        (try simp only [Exit.inBlock, Exit.then])
        refine bodyPost_ret (v := .agg #[.bool true, I (1 + x0), I x1, I (1 + x0 + x5), I (1 + x0 + x5 + x6), I (1 + x2), I (10 + x3), I x4, I (1 + x8), I (1 + xb / 10), I x9, .bool (decide (xt > 0)), .bool (decide (xe = 1))]) ?_ rfl ⟨by rw [FIN.out], HG.out⟩
        exact results_cell_row rfl _ _ w.heap.size 25 _ (0, 0) _ rfl HK.out Try.underlying25 rfl infoP
  · have H7 := Lib.hid h7
    have e7 : (x7 == 1) = false := by simpa using h7
    clear h7
    go_upto_region 7 with fail
    have c10 : u4.cell? ⟨b5, 10, none⟩ = some (I 0) := by rw [cell_of_row _ _ _ _ _ _ G5.out]; rfl
    have f10 : u4.frozen? ⟨b5, 10, none⟩ = false := frozen_of_row _ _ _ _ _ G5.out
    go_wp2_with fail
    refine (F9.out _ HB.out).mono ?_
    rintro e w' ⟨rfl, hq⟩
    subst w'
    go_upto_region 8 with fail
    have g5 := heap_setCell_same u4 b5 10 _ _ (I x9) G5.out
    simp only [List.setIfInBounds_toArray, List.set_cons_succ, List.set_cons_zero] at g5
    have g4 := (Below.heap_setCell u4 ⟨b5, 10, none⟩ (I x9) w.heap.size (by simp; omega)).trans G4.out
    have hb := Owned.below_write HB.out (g := b5) (i := 10) (by omega) (I x9)
    clear c10 f10 G4 G5 HB
    generalize World.setCell u4 ⟨b5, 10, none⟩ (I x9) = u5 at g4 g5 hb ⊢
    have G4 := Lib.hid g4
    have G5 := Lib.hid g5
    have HB := Lib.hid hb
    clear g4 g5 hb
    have c8 : u5.cell? ⟨b5, 8, none⟩ = some (I 0) := by rw [cell_of_row _ _ _ _ _ _ G5.out]; rfl
    have c10 : u5.cell? ⟨b5, 10, none⟩ = some (I x9) := by rw [cell_of_row _ _ _ _ _ _ G5.out]; rfl
    have f10 : u5.frozen? ⟨b5, 10, none⟩ = false := frozen_of_row _ _ _ _ _ G5.out
    by_cases h9 : x9 > 3
    · have RC : Hid (recall x9 (0) = 0) := Lib.hid (by unfold recall; rw [if_pos (by omega)])
      have H9 := Lib.hid h9
      have q9 : ¬ (x9 ≤ 3) := by omega
      go_upto_region 10 with fail
      have g5 := heap_setCell_same u5 b5 10 _ _ (I 0) G5.out
      simp only [List.setIfInBounds_toArray, List.set_cons_succ, List.set_cons_zero] at g5
      have g4 := (Below.heap_setCell u5 ⟨b5, 10, none⟩ (I 0) w.heap.size (by simp; omega)).trans G4.out
      have hb := Owned.below_write HB.out (g := b5) (i := 10) (by omega) (I 0)
      clear c8 c10 f10 G4 G5 HB
      generalize World.setCell u5 ⟨b5, 10, none⟩ (I 0) = u6 at g4 g5 hb ⊢
      have G4 := Lib.hid g4
      have G5 := Lib.hid g5
      have HB := Lib.hid hb
      clear g4 g5 hb
      have c11 : u6.cell? ⟨b5, 11, none⟩ = some (.bool false) := by rw [cell_of_row _ _ _ _ _ _ G5.out]; rfl
      have f11 : u6.frozen? ⟨b5, 11, none⟩ = false := frozen_of_row _ _ _ _ _ G5.out
      go_wp2_with fail
      refine (Ft.out _ HB.out).mono ?_
      rintro e w' ⟨rfl, hq⟩
      subst w'
      go_upto_region 11 with fail
      have g5 := heap_setCell_same u6 b5 11 _ _ (.bool (decide (xt > 0))) G5.out
      simp only [List.setIfInBounds_toArray, List.set_cons_succ, List.set_cons_zero] at g5
      have g4 := (Below.heap_setCell u6 ⟨b5, 11, none⟩ (.bool (decide (xt > 0))) w.heap.size (by simp; omega)).trans G4.out
      have hb := Owned.below_write HB.out (g := b5) (i := 11) (by omega) (.bool (decide (xt > 0)))
      clear c11 f11 G4 G5 HB
      generalize World.setCell u6 ⟨b5, 11, none⟩ (.bool (decide (xt > 0))) = u7 at g4 g5 hb ⊢
      have G4 := Lib.hid g4
      have G5 := Lib.hid g5
      have HB := Lib.hid hb
      clear g4 g5 hb
      have c12 : u7.cell? ⟨b5, 12, none⟩ = some (.bool false) := by rw [cell_of_row _ _ _ _ _ _ G5.out]; rfl
      have f12 : u7.frozen? ⟨b5, 12, none⟩ = false := frozen_of_row _ _ _ _ _ G5.out
      go_wp2_with fail
      refine (Fe.out _ HB.out).mono ?_
      rintro e w' ⟨rfl, hq⟩
      subst w'
      go_upto_region 12 with fail
      have g5 := heap_setCell_same u7 b5 12 _ _ (.bool (decide (xe = 1))) G5.out
      simp only [List.setIfInBounds_toArray, List.set_cons_succ, List.set_cons_zero] at g5
      have g4 := (Below.heap_setCell u7 ⟨b5, 12, none⟩ (.bool (decide (xe = 1))) w.heap.size (by simp; omega)).trans G4.out
      have hb := Owned.below_write HB.out (g := b5) (i := 12) (by omega) (.bool (decide (xe = 1)))
      clear c12 f12 G4 G5 HB
      generalize World.setCell u7 ⟨b5, 12, none⟩ (.bool (decide (xe = 1))) = u8 at g4 g5 hb ⊢
      have G4 := Lib.hid g4
      have G5 := Lib.hid g5
      have HB := Lib.hid hb
      clear g4 g5 hb
      have FIN : Hid (R.cells.toArray = #[.bool true, I (1 + x0), I x1, I (1 + x0 + x5), I (1 + x0 + x5 + x6), I (1 + x2), I (10 + x3), I x4, I 0, I 0, I 0, .bool (decide (xt > 0)), .bool (decide (xe = 1))]) := Lib.hid (by rw [RES.out]; simp only [Ph.cells, if_neg H7.out, RC.out])
      have LV : Hid (Lies u8 ⟨b5, 0, none⟩ #[.bool true, I (1 + x0), I x1, I (1 + x0 + x5), I (1 + x0 + x5 + x6), I (1 + x2), I (10 + x3), I x4, I 0, I 0, I 0, .bool (decide (xt > 0)), .bool (decide (xe = 1))].toList) := Lib.hid (Row.lies_of_block G5.out)
      have HG := Lib.hid (below_setRow HB.out (g := w.heap.size) (Nat.le_refl _) #[.bool true, I (1 + x0), I x1, I (1 + x0 + x5), I (1 + x0 + x5 + x6), I (1 + x2), I (10 + x3), I x4, I 0, I 0, I 0, .bool (decide (xt > 0)), .bool (decide (xe = 1))])
      have HK := Lib.hid (setRow_heap u8 w.heap.size _ #[.bool true, I (1 + x0), I x1, I (1 + x0 + x5), I (1 + x0 + x5 + x6), I (1 + x2), I (10 + x3), I x4, I 0, I 0, I 0, .bool (decide (xt > 0)), .bool (decide (xe = 1))] _ _ G4.out)
      go_wp2_with (first | (refine Row.wpList_load_g 25 _ rfl (by first | rfl | go_simp) ⟨b5, 0, none⟩ rfl #[.bool true, I (1 + x0), I x1, I (1 + x0 + x5), I (1 + x0 + x5 + x6), I (1 + x2), I (10 + x3), I x4, I 0, I 0, I 0, .bool (decide (xt > 0)), .bool (decide (xe = 1))].toList _ LV.out Try.underlying25 rfl infoP ?_) | (refine wpList_store_row rfl 25 _ _ rfl w.heap.size #[.bool true, I (1 + x0), I x1, I (1 + x0 + x5), I (1 + x0 + x5 + x6), I (1 + x2), I (10 + x3), I x4, I 0, I 0, I 0, .bool (decide (xt > 0)), .bool (decide (xe = 1))] rfl rfl 25 _ G4.out infoP rfl (by simp [Value.oneCell']) ?_))
      generalize u8.setRow w.heap.size #[.bool true, I (1 + x0), I x1, I (1 + x0 + x5), I (1 + x0 + x5 + x6), I (1 + x2), I (10 + x3), I x4, I 0, I 0, I 0, .bool (decide (xt > 0)), .bool (decide (xe = 1))] = uz at HG HK ⊢
      go_wp2_with fail
      (try simp only [Exit.inBlock, Exit.then])
      refine bodyPost_ret (v := .agg #[.bool true, I (1 + x0), I x1, I (1 + x0 + x5), I (1 + x0 + x5 + x6), I (1 + x2), I (10 + x3), I x4, I 0, I 0, I 0, .bool (decide (xt > 0)), .bool (decide (xe = 1))]) ?_ rfl ⟨by rw [FIN.out], HG.out⟩
      exact results_cell_row rfl _ _ w.heap.size 25 _ (0, 0) _ rfl HK.out Try.underlying25 rfl infoP
    · have H9 := Lib.hid h9
      have q9 : x9 ≤ 3 := by omega
      by_cases h3 : x9 = 3
      · have RC : Hid (recall x9 (0) = 0) := Lib.hid (by unfold recall; rw [if_pos (by omega)])
        have H3 := Lib.hid h3
        have e3 : (x9 == 3) = true := by simpa using h3
        clear h3 h9
        go_upto_region 10 with fail
        have g5 := heap_setCell_same u5 b5 10 _ _ (I 0) G5.out
        simp only [List.setIfInBounds_toArray, List.set_cons_succ, List.set_cons_zero] at g5
        have g4 := (Below.heap_setCell u5 ⟨b5, 10, none⟩ (I 0) w.heap.size (by simp; omega)).trans G4.out
        have hb := Owned.below_write HB.out (g := b5) (i := 10) (by omega) (I 0)
        clear c8 c10 f10 G4 G5 HB
        generalize World.setCell u5 ⟨b5, 10, none⟩ (I 0) = u6 at g4 g5 hb ⊢
        have G4 := Lib.hid g4
        have G5 := Lib.hid g5
        have HB := Lib.hid hb
        clear g4 g5 hb
        clear e3
        have c11 : u6.cell? ⟨b5, 11, none⟩ = some (.bool false) := by rw [cell_of_row _ _ _ _ _ _ G5.out]; rfl
        have f11 : u6.frozen? ⟨b5, 11, none⟩ = false := frozen_of_row _ _ _ _ _ G5.out
        go_wp2_with fail
        refine (Ft.out _ HB.out).mono ?_
        rintro e w' ⟨rfl, hq⟩
        subst w'
        go_upto_region 11 with fail
        have g5 := heap_setCell_same u6 b5 11 _ _ (.bool (decide (xt > 0))) G5.out
        simp only [List.setIfInBounds_toArray, List.set_cons_succ, List.set_cons_zero] at g5
        have g4 := (Below.heap_setCell u6 ⟨b5, 11, none⟩ (.bool (decide (xt > 0))) w.heap.size (by simp; omega)).trans G4.out
        have hb := Owned.below_write HB.out (g := b5) (i := 11) (by omega) (.bool (decide (xt > 0)))
        clear c11 f11 G4 G5 HB
        generalize World.setCell u6 ⟨b5, 11, none⟩ (.bool (decide (xt > 0))) = u7 at g4 g5 hb ⊢
        have G4 := Lib.hid g4
        have G5 := Lib.hid g5
        have HB := Lib.hid hb
        clear g4 g5 hb
        have c12 : u7.cell? ⟨b5, 12, none⟩ = some (.bool false) := by rw [cell_of_row _ _ _ _ _ _ G5.out]; rfl
        have f12 : u7.frozen? ⟨b5, 12, none⟩ = false := frozen_of_row _ _ _ _ _ G5.out
        go_wp2_with fail
        refine (Fe.out _ HB.out).mono ?_
        rintro e w' ⟨rfl, hq⟩
        subst w'
        go_upto_region 12 with fail
        have g5 := heap_setCell_same u7 b5 12 _ _ (.bool (decide (xe = 1))) G5.out
        simp only [List.setIfInBounds_toArray, List.set_cons_succ, List.set_cons_zero] at g5
        have g4 := (Below.heap_setCell u7 ⟨b5, 12, none⟩ (.bool (decide (xe = 1))) w.heap.size (by simp; omega)).trans G4.out
        have hb := Owned.below_write HB.out (g := b5) (i := 12) (by omega) (.bool (decide (xe = 1)))
        clear c12 f12 G4 G5 HB
        generalize World.setCell u7 ⟨b5, 12, none⟩ (.bool (decide (xe = 1))) = u8 at g4 g5 hb ⊢
        have G4 := Lib.hid g4
        have G5 := Lib.hid g5
        have HB := Lib.hid hb
        clear g4 g5 hb
        have FIN : Hid (R.cells.toArray = #[.bool true, I (1 + x0), I x1, I (1 + x0 + x5), I (1 + x0 + x5 + x6), I (1 + x2), I (10 + x3), I x4, I 0, I 0, I 0, .bool (decide (xt > 0)), .bool (decide (xe = 1))]) := Lib.hid (by rw [RES.out]; simp only [Ph.cells, if_neg H7.out, RC.out])
        have LV : Hid (Lies u8 ⟨b5, 0, none⟩ #[.bool true, I (1 + x0), I x1, I (1 + x0 + x5), I (1 + x0 + x5 + x6), I (1 + x2), I (10 + x3), I x4, I 0, I 0, I 0, .bool (decide (xt > 0)), .bool (decide (xe = 1))].toList) := Lib.hid (Row.lies_of_block G5.out)
        have HG := Lib.hid (below_setRow HB.out (g := w.heap.size) (Nat.le_refl _) #[.bool true, I (1 + x0), I x1, I (1 + x0 + x5), I (1 + x0 + x5 + x6), I (1 + x2), I (10 + x3), I x4, I 0, I 0, I 0, .bool (decide (xt > 0)), .bool (decide (xe = 1))])
        have HK := Lib.hid (setRow_heap u8 w.heap.size _ #[.bool true, I (1 + x0), I x1, I (1 + x0 + x5), I (1 + x0 + x5 + x6), I (1 + x2), I (10 + x3), I x4, I 0, I 0, I 0, .bool (decide (xt > 0)), .bool (decide (xe = 1))] _ _ G4.out)
        go_wp2_with (first | (refine Row.wpList_load_g 25 _ rfl (by first | rfl | go_simp) ⟨b5, 0, none⟩ rfl #[.bool true, I (1 + x0), I x1, I (1 + x0 + x5), I (1 + x0 + x5 + x6), I (1 + x2), I (10 + x3), I x4, I 0, I 0, I 0, .bool (decide (xt > 0)), .bool (decide (xe = 1))].toList _ LV.out Try.underlying25 rfl infoP ?_) | (refine wpList_store_row rfl 25 _ _ rfl w.heap.size #[.bool true, I (1 + x0), I x1, I (1 + x0 + x5), I (1 + x0 + x5 + x6), I (1 + x2), I (10 + x3), I x4, I 0, I 0, I 0, .bool (decide (xt > 0)), .bool (decide (xe = 1))] rfl rfl 25 _ G4.out infoP rfl (by simp [Value.oneCell']) ?_))
        generalize u8.setRow w.heap.size #[.bool true, I (1 + x0), I x1, I (1 + x0 + x5), I (1 + x0 + x5 + x6), I (1 + x2), I (10 + x3), I x4, I 0, I 0, I 0, .bool (decide (xt > 0)), .bool (decide (xe = 1))] = uz at HG HK ⊢
        go_wp2_with fail
        (try simp only [Exit.inBlock, Exit.then])
        refine bodyPost_ret (v := .agg #[.bool true, I (1 + x0), I x1, I (1 + x0 + x5), I (1 + x0 + x5 + x6), I (1 + x2), I (10 + x3), I x4, I 0, I 0, I 0, .bool (decide (xt > 0)), .bool (decide (xe = 1))]) ?_ rfl ⟨by rw [FIN.out], HG.out⟩
        exact results_cell_row rfl _ _ w.heap.size 25 _ (0, 0) _ rfl HK.out Try.underlying25 rfl infoP
      · have RC : Hid (recall x9 (0) = x9) := Lib.hid (by unfold recall; rw [if_neg (by omega)])
        have H3 := Lib.hid h3
        have e3 : (x9 == 3) = false := by simpa using h3
        clear h3 h9
        go_upto_region 10 with fail
        clear c8 c10 f10 e3
        have c11 : u5.cell? ⟨b5, 11, none⟩ = some (.bool false) := by rw [cell_of_row _ _ _ _ _ _ G5.out]; rfl
        have f11 : u5.frozen? ⟨b5, 11, none⟩ = false := frozen_of_row _ _ _ _ _ G5.out
        go_wp2_with fail
        refine (Ft.out _ HB.out).mono ?_
        rintro e w' ⟨rfl, hq⟩
        subst w'
        go_upto_region 11 with fail
        have g5 := heap_setCell_same u5 b5 11 _ _ (.bool (decide (xt > 0))) G5.out
        simp only [List.setIfInBounds_toArray, List.set_cons_succ, List.set_cons_zero] at g5
        have g4 := (Below.heap_setCell u5 ⟨b5, 11, none⟩ (.bool (decide (xt > 0))) w.heap.size (by simp; omega)).trans G4.out
        have hb := Owned.below_write HB.out (g := b5) (i := 11) (by omega) (.bool (decide (xt > 0)))
        clear c11 f11 G4 G5 HB
        generalize World.setCell u5 ⟨b5, 11, none⟩ (.bool (decide (xt > 0))) = u6 at g4 g5 hb ⊢
        have G4 := Lib.hid g4
        have G5 := Lib.hid g5
        have HB := Lib.hid hb
        clear g4 g5 hb
        have c12 : u6.cell? ⟨b5, 12, none⟩ = some (.bool false) := by rw [cell_of_row _ _ _ _ _ _ G5.out]; rfl
        have f12 : u6.frozen? ⟨b5, 12, none⟩ = false := frozen_of_row _ _ _ _ _ G5.out
        go_wp2_with fail
        refine (Fe.out _ HB.out).mono ?_
        rintro e w' ⟨rfl, hq⟩
        subst w'
        go_upto_region 12 with fail
        have g5 := heap_setCell_same u6 b5 12 _ _ (.bool (decide (xe = 1))) G5.out
        simp only [List.setIfInBounds_toArray, List.set_cons_succ, List.set_cons_zero] at g5
        have g4 := (Below.heap_setCell u6 ⟨b5, 12, none⟩ (.bool (decide (xe = 1))) w.heap.size (by simp; omega)).trans G4.out
        have hb := Owned.below_write HB.out (g := b5) (i := 12) (by omega) (.bool (decide (xe = 1)))
        clear c12 f12 G4 G5 HB
        generalize World.setCell u6 ⟨b5, 12, none⟩ (.bool (decide (xe = 1))) = u7 at g4 g5 hb ⊢
        have G4 := Lib.hid g4
        have G5 := Lib.hid g5
        have HB := Lib.hid hb
        clear g4 g5 hb
        have FIN : Hid (R.cells.toArray = #[.bool true, I (1 + x0), I x1, I (1 + x0 + x5), I (1 + x0 + x5 + x6), I (1 + x2), I (10 + x3), I x4, I 0, I 0, I x9, .bool (decide (xt > 0)), .bool (decide (xe = 1))]) := Lib.hid (by rw [RES.out]; simp only [Ph.cells, if_neg H7.out, RC.out])
        have LV : Hid (Lies u7 ⟨b5, 0, none⟩ #[.bool true, I (1 + x0), I x1, I (1 + x0 + x5), I (1 + x0 + x5 + x6), I (1 + x2), I (10 + x3), I x4, I 0, I 0, I x9, .bool (decide (xt > 0)), .bool (decide (xe = 1))].toList) := Lib.hid (Row.lies_of_block G5.out)
        have HG := Lib.hid (below_setRow HB.out (g := w.heap.size) (Nat.le_refl _) #[.bool true, I (1 + x0), I x1, I (1 + x0 + x5), I (1 + x0 + x5 + x6), I (1 + x2), I (10 + x3), I x4, I 0, I 0, I x9, .bool (decide (xt > 0)), .bool (decide (xe = 1))])
        have HK := Lib.hid (setRow_heap u7 w.heap.size _ #[.bool true, I (1 + x0), I x1, I (1 + x0 + x5), I (1 + x0 + x5 + x6), I (1 + x2), I (10 + x3), I x4, I 0, I 0, I x9, .bool (decide (xt > 0)), .bool (decide (xe = 1))] _ _ G4.out)
        go_wp2_with (first | (refine Row.wpList_load_g 25 _ rfl (by first | rfl | go_simp) ⟨b5, 0, none⟩ rfl #[.bool true, I (1 + x0), I x1, I (1 + x0 + x5), I (1 + x0 + x5 + x6), I (1 + x2), I (10 + x3), I x4, I 0, I 0, I x9, .bool (decide (xt > 0)), .bool (decide (xe = 1))].toList _ LV.out Try.underlying25 rfl infoP ?_) | (refine wpList_store_row rfl 25 _ _ rfl w.heap.size #[.bool true, I (1 + x0), I x1, I (1 + x0 + x5), I (1 + x0 + x5 + x6), I (1 + x2), I (10 + x3), I x4, I 0, I 0, I x9, .bool (decide (xt > 0)), .bool (decide (xe = 1))] rfl rfl 25 _ G4.out infoP rfl (by simp [Value.oneCell']) ?_))
        generalize u7.setRow w.heap.size #[.bool true, I (1 + x0), I x1, I (1 + x0 + x5), I (1 + x0 + x5 + x6), I (1 + x2), I (10 + x3), I x4, I 0, I 0, I x9, .bool (decide (xt > 0)), .bool (decide (xe = 1))] = uz at HG HK ⊢
        go_wp2_with fail
        (try simp only [Exit.inBlock, Exit.then])
        refine bodyPost_ret (v := .agg #[.bool true, I (1 + x0), I x1, I (1 + x0 + x5), I (1 + x0 + x5 + x6), I (1 + x2), I (10 + x3), I x4, I 0, I 0, I x9, .bool (decide (xt > 0)), .bool (decide (xe = 1))]) ?_ rfl ⟨by rw [FIN.out], HG.out⟩
        exact results_cell_row rfl _ _ w.heap.size 25 _ (0, 0) _ rfl HK.out Try.underlying25 rfl infoP
end Go.Proofs.Ytfnpcfibgabmfaa.GenP
/- The contract of the generator's own detector. -/
namespace Go.Proofs.Ytfnpcfibgabmfaa.GenD
open Go.ChangeShapes Go.WideShapes Go.ChangeAt Go.RowKit
open Tab Clone RefS
open May (infoD)
open Same (below_setRow)
set_option linter.unusedVariables false
set_option linter.unusedSimpArgs false
theorem run_store_float {P : Program} {w : World} {a : Addr} {u : Value} {k : FloatKind} {v : Nat} (h : w.cell? a = some u) (hf : w.frozen? a = false) : Sem.run P (store a (.float k v)) w = .ok () (w.setCell a (.float k v)) := by
  rw [run_store P w a _ _ rfl]
  simp [stored, h, hf]
theorem infoDz : (Try.prog.info? 44).map (fun i => (i.zero, i.size)) = some (some (.agg #[I 0, F 0, F 0, F 0, F 0, I 0, I 0]), 7) := by kernel_rfl
def onTab (x : Int) : Nat := [4617315517961601024, 4621819117588971520, 4607182418800017408, 4602678819172646912].getD x.toNat 0
def facTab (x : Int) : Nat := [4602678819172646912, 4607182418800017408, 4598175219545276416].getD x.toNat 0
theorem idx4_0 (w : World) : Sem.run Try.prog (Instr.index 114 (.agg #[F 4617315517961601024, F 4621819117588971520, F 4607182418800017408, F 4602678819172646912]) (.int .i64 0)) w = .ok (F (onTab 0)) w := by kernel_rfl
theorem idx4_1 (w : World) : Sem.run Try.prog (Instr.index 114 (.agg #[F 4617315517961601024, F 4621819117588971520, F 4607182418800017408, F 4602678819172646912]) (.int .i64 1)) w = .ok (F (onTab 1)) w := by kernel_rfl
theorem idx4_2 (w : World) : Sem.run Try.prog (Instr.index 114 (.agg #[F 4617315517961601024, F 4621819117588971520, F 4607182418800017408, F 4602678819172646912]) (.int .i64 2)) w = .ok (F (onTab 2)) w := by kernel_rfl
theorem idx4_3 (w : World) : Sem.run Try.prog (Instr.index 114 (.agg #[F 4617315517961601024, F 4621819117588971520, F 4607182418800017408, F 4602678819172646912]) (.int .i64 3)) w = .ok (F (onTab 3)) w := by kernel_rfl
theorem idx4 (x : Int) (h0 : 0 ≤ x) (h1 : x < 4) (w : World) : Sem.run Try.prog (Instr.index 114 (.agg #[F 4617315517961601024, F 4621819117588971520, F 4607182418800017408, F 4602678819172646912]) (.int .i64 x)) w = .ok (F (onTab x)) w := by
  have : x = 0 ∨ x = 1 ∨ x = 2 ∨ x = 3 := by omega
  rcases this with rfl | rfl | rfl | rfl
  · exact idx4_0 w
  · exact idx4_1 w
  · exact idx4_2 w
  · exact idx4_3 w
theorem idx3_0 (w : World) : Sem.run Try.prog (Instr.index 115 (.agg #[F 4602678819172646912, F 4607182418800017408, F 4598175219545276416]) (.int .i64 0)) w = .ok (F (facTab 0)) w := by kernel_rfl
theorem idx3_1 (w : World) : Sem.run Try.prog (Instr.index 115 (.agg #[F 4602678819172646912, F 4607182418800017408, F 4598175219545276416]) (.int .i64 1)) w = .ok (F (facTab 1)) w := by kernel_rfl
theorem idx3_2 (w : World) : Sem.run Try.prog (Instr.index 115 (.agg #[F 4602678819172646912, F 4607182418800017408, F 4598175219545276416]) (.int .i64 2)) w = .ok (F (facTab 2)) w := by kernel_rfl
theorem idx3 (x : Int) (h0 : 0 ≤ x) (h1 : x < 3) (w : World) : Sem.run Try.prog (Instr.index 115 (.agg #[F 4602678819172646912, F 4607182418800017408, F 4598175219545276416]) (.int .i64 x)) w = .ok (F (facTab x)) w := by
  have : x = 0 ∨ x = 1 ∨ x = 2 := by omega
  rcases this with rfl | rfl | rfl
  · exact idx3_0 w
  · exact idx3_1 w
  · exact idx3_2 w
def mulTab (x y : Int) : Nat := (floatBits .mul .f64 (onTab x) (facTab y)).getD 0
theorem mul_ok (x y : Int) (h0 : 0 ≤ x) (h1 : x < 4) (k0 : 0 ≤ y) (k1 : y < 3) (t : TypeId) (w : World) : (binOp .mul t (F (onTab x)) (F (facTab y))).run Try.prog w = .ok (F (mulTab x y)) w := by
  refine run_float_arith w .mul t .f64 _ _ _ ?_
  have h : ∀ a : Nat, a < 4 → ∀ b : Nat, b < 3 → floatBits .mul .f64 (onTab a) (facTab b) = some (mulTab a b) := by decide +kernel
  have := h x.toNat (by omega) y.toNat (by omega)
  rwa [Int.toNat_of_nonneg h0, Int.toNat_of_nonneg k0] at this
/-- A detector by eight numbers. -/
def genDet (L : List Int) (i n : Int) : Det :=
  ⟨num L i n, onTab (num L (i + 1) 4), mulTab (num L (i + 1) 4) (num L (i + 2) 3), Fl.ofB (num L (i + 3) 4).toNat, Fl.ofB (num L (i + 4) 6).toNat,
    if num L (i + 5) 3 = 1 then 20 + num L (i + 6) 60 else 0, if num L (i + 5) 9 = 2 then 60 + num L (i + 7) 300 else 0⟩
set_option maxRecDepth 100000 in
set_option maxHeartbeats 8000000 in
theorem detector_any (a : Option Addr) (cap : Nat) (L : List Int) (i n : Int) (w : World) (h : IntRow w ⟨a, cap⟩ L) (h0 : 0 ≤ i) (h1 : i ≤ 100000) (n0 : 0 < n) (n8 : n ≤ 8) :
    Calls Try.prog 39 #[.slice a L.length cap, .int .i64 i, .int .i64 n] w fun e w' => e = .returned (.agg (genDet L i n).cells.toArray) ∧ Below w.heap.size w w' := by
  obtain ⟨x0, hx0, ⟨r0, s0⟩, F0⟩ : ∃ x : Int, x = num L i n ∧ (0 ≤ x ∧ x < n) ∧ Hid (∀ W, Below w.heap.size w W → Calls Try.prog 37 #[.slice a L.length cap, .int .i64 i, .int .i64 n] W fun e w' => e = .returned (.int .i64 x) ∧ w' = W) := ⟨_, rfl, num_range _ _ _ (by omega), Lib.hid (fun W hb => (from_any a cap L _ _ W (h.below hb) (by omega) (by omega) (by omega)).mono fun _ _ ⟨e, q⟩ => ⟨e, q.symm⟩)⟩
  obtain ⟨x1, hx1, ⟨r1, s1⟩, F1⟩ : ∃ x : Int, x = num L (i + 1) 4 ∧ (0 ≤ x ∧ x < 4) ∧ Hid (∀ W, Below w.heap.size w W → Calls Try.prog 37 #[.slice a L.length cap, .int .i64 (i + 1), .int .i64 4] W fun e w' => e = .returned (.int .i64 x) ∧ w' = W) := ⟨_, rfl, num_range _ _ _ (by omega), Lib.hid (fun W hb => (from_any a cap L _ _ W (h.below hb) (by omega) (by omega) (by omega)).mono fun _ _ ⟨e, q⟩ => ⟨e, q.symm⟩)⟩
  obtain ⟨x2, hx2, ⟨r2, s2⟩, F2⟩ : ∃ x : Int, x = num L (i + 2) 3 ∧ (0 ≤ x ∧ x < 3) ∧ Hid (∀ W, Below w.heap.size w W → Calls Try.prog 37 #[.slice a L.length cap, .int .i64 (i + 2), .int .i64 3] W fun e w' => e = .returned (.int .i64 x) ∧ w' = W) := ⟨_, rfl, num_range _ _ _ (by omega), Lib.hid (fun W hb => (from_any a cap L _ _ W (h.below hb) (by omega) (by omega) (by omega)).mono fun _ _ ⟨e, q⟩ => ⟨e, q.symm⟩)⟩
  obtain ⟨x3, hx3, ⟨r3, s3⟩, F3⟩ : ∃ x : Int, x = num L (i + 3) 4 ∧ (0 ≤ x ∧ x < 4) ∧ Hid (∀ W, Below w.heap.size w W → Calls Try.prog 37 #[.slice a L.length cap, .int .i64 (i + 3), .int .i64 4] W fun e w' => e = .returned (.int .i64 x) ∧ w' = W) := ⟨_, rfl, num_range _ _ _ (by omega), Lib.hid (fun W hb => (from_any a cap L _ _ W (h.below hb) (by omega) (by omega) (by omega)).mono fun _ _ ⟨e, q⟩ => ⟨e, q.symm⟩)⟩
  obtain ⟨x4, hx4, ⟨r4, s4⟩, F4⟩ : ∃ x : Int, x = num L (i + 4) 6 ∧ (0 ≤ x ∧ x < 6) ∧ Hid (∀ W, Below w.heap.size w W → Calls Try.prog 37 #[.slice a L.length cap, .int .i64 (i + 4), .int .i64 6] W fun e w' => e = .returned (.int .i64 x) ∧ w' = W) := ⟨_, rfl, num_range _ _ _ (by omega), Lib.hid (fun W hb => (from_any a cap L _ _ W (h.below hb) (by omega) (by omega) (by omega)).mono fun _ _ ⟨e, q⟩ => ⟨e, q.symm⟩)⟩
  obtain ⟨x5, hx5, ⟨r5, s5⟩, F5⟩ : ∃ x : Int, x = num L (i + 5) 3 ∧ (0 ≤ x ∧ x < 3) ∧ Hid (∀ W, Below w.heap.size w W → Calls Try.prog 37 #[.slice a L.length cap, .int .i64 (i + 5), .int .i64 3] W fun e w' => e = .returned (.int .i64 x) ∧ w' = W) := ⟨_, rfl, num_range _ _ _ (by omega), Lib.hid (fun W hb => (from_any a cap L _ _ W (h.below hb) (by omega) (by omega) (by omega)).mono fun _ _ ⟨e, q⟩ => ⟨e, q.symm⟩)⟩
  obtain ⟨x6, hx6, ⟨r6, s6⟩, F6⟩ : ∃ x : Int, x = num L (i + 6) 60 ∧ (0 ≤ x ∧ x < 60) ∧ Hid (∀ W, Below w.heap.size w W → Calls Try.prog 37 #[.slice a L.length cap, .int .i64 (i + 6), .int .i64 60] W fun e w' => e = .returned (.int .i64 x) ∧ w' = W) := ⟨_, rfl, num_range _ _ _ (by omega), Lib.hid (fun W hb => (from_any a cap L _ _ W (h.below hb) (by omega) (by omega) (by omega)).mono fun _ _ ⟨e, q⟩ => ⟨e, q.symm⟩)⟩
  obtain ⟨xz, hxz, ⟨rz, sz⟩, Fz⟩ : ∃ x : Int, x = num L (i + 5) 9 ∧ (0 ≤ x ∧ x < 9) ∧ Hid (∀ W, Below w.heap.size w W → Calls Try.prog 37 #[.slice a L.length cap, .int .i64 (i + 5), .int .i64 9] W fun e w' => e = .returned (.int .i64 x) ∧ w' = W) := ⟨_, rfl, num_range _ _ _ (by omega), Lib.hid (fun W hb => (from_any a cap L _ _ W (h.below hb) (by omega) (by omega) (by omega)).mono fun _ _ ⟨e, q⟩ => ⟨e, q.symm⟩)⟩
  obtain ⟨x7, hx7, ⟨r7, s7⟩, F7⟩ : ∃ x : Int, x = num L (i + 7) 300 ∧ (0 ≤ x ∧ x < 300) ∧ Hid (∀ W, Below w.heap.size w W → Calls Try.prog 37 #[.slice a L.length cap, .int .i64 (i + 7), .int .i64 300] W fun e w' => e = .returned (.int .i64 x) ∧ w' = W) := ⟨_, rfl, num_range _ _ _ (by omega), Lib.hid (fun W hb => (from_any a cap L _ _ W (h.below hb) (by omega) (by omega) (by omega)).mono fun _ _ ⟨e, q⟩ => ⟨e, q.symm⟩)⟩
  obtain ⟨v1, hv1, I1⟩ : ∃ v : Nat, v = onTab x1 ∧ Hid (∀ w, Sem.run Try.prog (Instr.index 114 (.agg #[F 4617315517961601024, F 4621819117588971520, F 4607182418800017408, F 4602678819172646912]) (.int .i64 x1)) w = .ok (F v) w) := ⟨_, rfl, Lib.hid (fun w => idx4 x1 r1 s1 w)⟩
  obtain ⟨v2, hv2, I2⟩ : ∃ v : Nat, v = facTab x2 ∧ Hid (∀ w, Sem.run Try.prog (Instr.index 115 (.agg #[F 4602678819172646912, F 4607182418800017408, F 4598175219545276416]) (.int .i64 x2)) w = .ok (F v) w) := ⟨_, rfl, Lib.hid (fun w => idx3 x2 r2 s2 w)⟩
  obtain ⟨v3, hv3, I3⟩ : ∃ v : Nat, v = mulTab x1 x2 ∧ Hid (∀ t w, (binOp .mul t (F v1) (F v2)).run Try.prog w = .ok (.float .f64 v) w) := ⟨_, rfl, Lib.hid (fun t w => by rw [hv1, hv2]; exact mul_ok x1 x2 r1 s1 r2 s2 t w)⟩
  obtain ⟨v4, hv4, I4⟩ : ∃ v : Nat, v = Fl.ofB x3.toNat ∧ Hid (∀ t w, (binOp .quo t (.float .f64 (floatOfInt .f64 x3)) (.float .f64 4621819117588971520)).run Try.prog w = .ok (.float .f64 v) w) := ⟨_, rfl, Lib.hid (Secs.quo_at Secs.quo_holds x3 r3 (by omega))⟩
  obtain ⟨v5, hv5, I5⟩ : ∃ v : Nat, v = Fl.ofB x4.toNat ∧ Hid (∀ t w, (binOp .quo t (.float .f64 (floatOfInt .f64 x4)) (.float .f64 4621819117588971520)).run Try.prog w = .ok (.float .f64 v) w) := ⟨_, rfl, Lib.hid (Secs.quo_at Secs.quo_holds x4 r4 (by omega))⟩
  have RES : Hid (genDet L i n = ⟨x0, v1, v3, v4, v5, if x5 = 1 then 20 + x6 else 0, if xz = 2 then 60 + x7 else 0⟩) := Lib.hid (by subst hv1 hv3 hv4 hv5 hx0 hx1 hx2 hx3 hx4 hx5 hx6 hxz hx7; rfl)
  generalize genDet L i n = R at RES ⊢
  have i1 := I1.out
  have i2 := I2.out
  have i3 := I3.out
  have i4 := I4.out
  have i5 := I5.out
  clear h hx0 hx1 hx2 hx3 hx4 hx5 hx6 hxz hx7 hv1 hv2 hv3 hv4 hv5
  have hz := (zero_of_info infoDz).1
  have HB : Hid (Below w.heap.size w (w.alloc (.cells #[I 0, F 0, F 0, F 0, F 0, I 0, I 0] 44))) := Lib.hid ((Below.refl _ _).alloc (Nat.le_refl _) _)
  have hg := heap_alloc_new w (.cells #[I 0, F 0, F 0, F 0, F 0, I 0, I 0] 44)
  have hs : (w.alloc (.cells #[I 0, F 0, F 0, F 0, F 0, I 0, I 0] 44)).heap.size = w.heap.size + 1 := by simp
  have HG := Lib.hid hg
  have HS := Lib.hid hs
  clear hg hs
  go_enter Try.func39, Try.ntmps39
  go_upto_region 1 with fail
  generalize (World.alloc w _) = u at HB HG HS ⊢
  go_wp2_with fail
  refine (F0.out _ HB.out).mono ?_
  rintro e w' ⟨rfl, hq⟩
  subst w'
  go_wp2_with fail
  refine (F1.out _ HB.out).mono ?_
  rintro e w' ⟨rfl, hq⟩
  subst w'
  go_upto_region 2 with (refine Row.wpList_store_new rfl 44 _ _ rfl u _ #[I x0, F v1, F 0, F 0, F 0, I 0, I 0] rfl rfl rfl infoD rfl (by simp [Value.oneCell']) ?_)
  (try dsimp only [Act.put])
  have hb := HB.out.alloc HB.out.size (.cells #[I x0, F v1, F 0, F 0, F 0, I 0, I 0] 44)
  have g5 := heap_alloc_new u (.cells #[I x0, F v1, F 0, F 0, F 0, I 0, I 0] 44)
  have g4 := (Below.heap_alloc u (.cells #[I x0, F v1, F 0, F 0, F 0, I 0, I 0] 44) w.heap.size (by have := HS.out; omega)).trans HG.out
  have b5lt : w.heap.size < u.heap.size := by have := HS.out; omega
  clear HB HG HS
  generalize World.alloc u _ = u0 at g4 g5 hb ⊢
  generalize u.heap.size = b5 at g5 b5lt ⊢
  have G4 := Lib.hid g4
  have G5 := Lib.hid g5
  have HB := Lib.hid hb
  clear g4 g5 hb
  have e0 : IntKind.i64.wrap (i + 2) = i + 2 := by rw [IntKind.wrap_i64]; omega
  have g4 : u0.drew.heap[w.heap.size]? = some (.cells #[I 0, F 0, F 0, F 0, F 0, I 0, I 0] 44 (0, 0)) := G4.out
  have g5 : u0.drew.heap[b5]? = some (.cells #[I x0, F v1, F 0, F 0, F 0, I 0, I 0] 44 (0, 0)) := G5.out
  have hb : Below w.heap.size w u0.drew := HB.out.drew
  clear G4 G5 HB
  refine QB.region_tail 10 (by kernel_rfl) (by kernel_rfl) ?_
  generalize World.drew u0 = u1 at g4 g5 hb ⊢
  have G4 := Lib.hid g4
  have G5 := Lib.hid g5
  have HB := Lib.hid hb
  clear g4 g5 hb
  have c1 : u1.cell? ⟨b5, 1, none⟩ = some (F v1) := by rw [cell_of_row _ _ _ _ _ _ G5.out]; rfl
  have c2 : u1.cell? ⟨b5, 2, none⟩ = some (F 0) := by rw [cell_of_row _ _ _ _ _ _ G5.out]; rfl
  have f2 : u1.frozen? ⟨b5, 2, none⟩ = false := frozen_of_row _ _ _ _ _ G5.out
  have st : Sem.run Try.prog (store ⟨b5, 2, none⟩ (.float .f64 v3)) u1 = .ok () (u1.setCell ⟨b5, 2, none⟩ (.float .f64 v3)) := run_store_float c2 f2
  simp only [List.take_succ_cons, List.take_zero, List.drop_succ_cons, List.drop_zero]
  repeat still_step
  still_call (F2.out _ HB.out)
  repeat still_step
  refine wpStill_nil ?_
  go_upto_region 3 with fail
  clear e0
  have g5 := heap_setCell_same u1 b5 2 _ _ (.float .f64 v3) G5.out
  simp only [List.setIfInBounds_toArray, List.set_cons_succ, List.set_cons_zero] at g5
  have g4 := (Below.heap_setCell u1 ⟨b5, 2, none⟩ (.float .f64 v3) w.heap.size (by simp; omega)).trans G4.out
  have hb := Owned.below_write HB.out (g := b5) (i := 2) (by omega) (.float .f64 v3)
  clear st c1 c2 f2 G4 G5 HB
  generalize World.setCell u1 ⟨b5, 2, none⟩ (.float .f64 v3) = u2 at g4 g5 hb ⊢
  have G4 := Lib.hid g4
  have G5 := Lib.hid g5
  have HB := Lib.hid hb
  clear g4 g5 hb
  have c3 : u2.cell? ⟨b5, 3, none⟩ = some (F 0) := by rw [cell_of_row _ _ _ _ _ _ G5.out]; rfl
  have f3 : u2.frozen? ⟨b5, 3, none⟩ = false := frozen_of_row _ _ _ _ _ G5.out
  have st : Sem.run Try.prog (store ⟨b5, 3, none⟩ (.float .f64 v4)) u2 = .ok () (u2.setCell ⟨b5, 3, none⟩ (.float .f64 v4)) := run_store_float c3 f3
  go_wp2_with fail
  refine (F3.out _ HB.out).mono ?_
  rintro e w' ⟨rfl, hq⟩
  subst w'
  go_upto_region 4 with fail
  have g5 := heap_setCell_same u2 b5 3 _ _ (.float .f64 v4) G5.out
  simp only [List.setIfInBounds_toArray, List.set_cons_succ, List.set_cons_zero] at g5
  have g4 := (Below.heap_setCell u2 ⟨b5, 3, none⟩ (.float .f64 v4) w.heap.size (by simp; omega)).trans G4.out
  have hb := Owned.below_write HB.out (g := b5) (i := 3) (by omega) (.float .f64 v4)
  clear st c3 f3 G4 G5 HB
  generalize World.setCell u2 ⟨b5, 3, none⟩ (.float .f64 v4) = u3 at g4 g5 hb ⊢
  have G4 := Lib.hid g4
  have G5 := Lib.hid g5
  have HB := Lib.hid hb
  clear g4 g5 hb
  have c4 : u3.cell? ⟨b5, 4, none⟩ = some (F 0) := by rw [cell_of_row _ _ _ _ _ _ G5.out]; rfl
  have f4 : u3.frozen? ⟨b5, 4, none⟩ = false := frozen_of_row _ _ _ _ _ G5.out
  have st : Sem.run Try.prog (store ⟨b5, 4, none⟩ (.float .f64 v5)) u3 = .ok () (u3.setCell ⟨b5, 4, none⟩ (.float .f64 v5)) := run_store_float c4 f4
  go_wp2_with fail
  refine (F4.out _ HB.out).mono ?_
  rintro e w' ⟨rfl, hq⟩
  subst w'
  go_upto_region 5 with fail
  have g5 := heap_setCell_same u3 b5 4 _ _ (.float .f64 v5) G5.out
  simp only [List.setIfInBounds_toArray, List.set_cons_succ, List.set_cons_zero] at g5
  have g4 := (Below.heap_setCell u3 ⟨b5, 4, none⟩ (.float .f64 v5) w.heap.size (by simp; omega)).trans G4.out
  have hb := Owned.below_write HB.out (g := b5) (i := 4) (by omega) (.float .f64 v5)
  clear st c4 f4 G4 G5 HB
  generalize World.setCell u3 ⟨b5, 4, none⟩ (.float .f64 v5) = u4 at g4 g5 hb ⊢
  have G4 := Lib.hid g4
  have G5 := Lib.hid g5
  have HB := Lib.hid hb
  clear g4 g5 hb
  go_wp2_with fail
  refine (F5.out _ HB.out).mono ?_
  rintro e w' ⟨rfl, hq⟩
  subst w'
  by_cases h5 : x5 = 1
  · have H5 := Lib.hid h5
    have e5 : (x5 == 1) = true := by simpa using h5
    clear h5
    go_upto_region 6 with fail
    have c5 : u4.cell? ⟨b5, 5, none⟩ = some (I 0) := by rw [cell_of_row _ _ _ _ _ _ G5.out]; rfl
    have f5 : u4.frozen? ⟨b5, 5, none⟩ = false := frozen_of_row _ _ _ _ _ G5.out
    go_wp2_with fail
    refine (F6.out _ HB.out).mono ?_
    rintro e w' ⟨rfl, hq⟩
    subst w'
    go_upto_region 7 with fail
    have g5 := heap_setCell_same u4 b5 5 _ _ (I (20 + x6)) G5.out
    simp only [List.setIfInBounds_toArray, List.set_cons_succ, List.set_cons_zero] at g5
    have g4 := (Below.heap_setCell u4 ⟨b5, 5, none⟩ (I (20 + x6)) w.heap.size (by simp; omega)).trans G4.out
    have hb := Owned.below_write HB.out (g := b5) (i := 5) (by omega) (I (20 + x6))
    clear c5 f5 G4 G5 HB
    generalize World.setCell u4 ⟨b5, 5, none⟩ (I (20 + x6)) = u5 at g4 g5 hb ⊢
    have G4 := Lib.hid g4
    have G5 := Lib.hid g5
    have HB := Lib.hid hb
    clear g4 g5 hb
    go_wp2_with fail
    refine (Fz.out _ HB.out).mono ?_
    rintro e w' ⟨rfl, hq⟩
    subst w'
    by_cases hz : xz = 2
    · have HZ := Lib.hid hz
      have ez : (xz == 2) = true := by simpa using hz
      clear hz
      go_upto_region 8 with fail
      have c6 : u5.cell? ⟨b5, 6, none⟩ = some (I 0) := by rw [cell_of_row _ _ _ _ _ _ G5.out]; rfl
      have f6 : u5.frozen? ⟨b5, 6, none⟩ = false := frozen_of_row _ _ _ _ _ G5.out
      go_wp2_with fail
      refine (F7.out _ HB.out).mono ?_
      rintro e w' ⟨rfl, hq⟩
      subst w'
      go_upto_region 9 with fail
      have g5 := heap_setCell_same u5 b5 6 _ _ (I (60 + x7)) G5.out
      simp only [List.setIfInBounds_toArray, List.set_cons_succ, List.set_cons_zero] at g5
      have g4 := (Below.heap_setCell u5 ⟨b5, 6, none⟩ (I (60 + x7)) w.heap.size (by simp; omega)).trans G4.out
      have hb := Owned.below_write HB.out (g := b5) (i := 6) (by omega) (I (60 + x7))
      clear c6 f6 G4 G5 HB
      generalize World.setCell u5 ⟨b5, 6, none⟩ (I (60 + x7)) = u6 at g4 g5 hb ⊢
      have G4 := Lib.hid g4
      have G5 := Lib.hid g5
      have HB := Lib.hid hb
      clear g4 g5 hb
      have FIN : Hid (R.cells.toArray = #[I x0, F v1, .float .f64 v3, .float .f64 v4, .float .f64 v5, I (20 + x6), I (60 + x7)]) := Lib.hid (by rw [RES.out]; simp only [Det.cells, if_pos H5.out, if_pos HZ.out])
      have LV : Hid (Lies u6 ⟨b5, 0, none⟩ #[I x0, F v1, .float .f64 v3, .float .f64 v4, .float .f64 v5, I (20 + x6), I (60 + x7)].toList) := Lib.hid (Row.lies_of_block G5.out)
      have HG := Lib.hid (below_setRow HB.out (g := w.heap.size) (Nat.le_refl _) #[I x0, F v1, .float .f64 v3, .float .f64 v4, .float .f64 v5, I (20 + x6), I (60 + x7)])
      have HK := Lib.hid (setRow_heap u6 w.heap.size _ #[I x0, F v1, .float .f64 v3, .float .f64 v4, .float .f64 v5, I (20 + x6), I (60 + x7)] _ _ G4.out)
      go_wp2_with (first | (refine Row.wpList_load_g 44 _ rfl (by first | rfl | go_simp) ⟨b5, 0, none⟩ rfl #[I x0, F v1, .float .f64 v3, .float .f64 v4, .float .f64 v5, I (20 + x6), I (60 + x7)].toList _ LV.out Try.underlying44 rfl infoD ?_) | (refine wpList_store_row rfl 44 _ _ rfl w.heap.size #[I x0, F v1, .float .f64 v3, .float .f64 v4, .float .f64 v5, I (20 + x6), I (60 + x7)] rfl rfl 44 _ G4.out infoD rfl (by simp [Value.oneCell']) ?_))
      generalize u6.setRow w.heap.size #[I x0, F v1, .float .f64 v3, .float .f64 v4, .float .f64 v5, I (20 + x6), I (60 + x7)] = uz at HG HK ⊢
      go_wp2_with fail
      (try simp only [Exit.inBlock, Exit.then])
      refine bodyPost_ret (v := .agg #[I x0, F v1, .float .f64 v3, .float .f64 v4, .float .f64 v5, I (20 + x6), I (60 + x7)]) ?_ rfl ⟨by rw [FIN.out], HG.out⟩
      exact results_cell_row rfl _ _ w.heap.size 44 _ (0, 0) _ rfl HK.out Try.underlying44 rfl infoD
    · have HZ := Lib.hid hz
      have ez : (xz == 2) = false := by simpa using hz
      clear hz
      go_upto_region 9 with fail
      have FIN : Hid (R.cells.toArray = #[I x0, F v1, .float .f64 v3, .float .f64 v4, .float .f64 v5, I (20 + x6), I 0]) := Lib.hid (by rw [RES.out]; simp only [Det.cells, if_pos H5.out, if_neg HZ.out])
      have LV : Hid (Lies u5 ⟨b5, 0, none⟩ #[I x0, F v1, .float .f64 v3, .float .f64 v4, .float .f64 v5, I (20 + x6), I 0].toList) := Lib.hid (Row.lies_of_block G5.out)
      have HG := Lib.hid (below_setRow HB.out (g := w.heap.size) (Nat.le_refl _) #[I x0, F v1, .float .f64 v3, .float .f64 v4, .float .f64 v5, I (20 + x6), I 0])
      have HK := Lib.hid (setRow_heap u5 w.heap.size _ #[I x0, F v1, .float .f64 v3, .float .f64 v4, .float .f64 v5, I (20 + x6), I 0] _ _ G4.out)
      go_wp2_with (first | (refine Row.wpList_load_g 44 _ rfl (by first | rfl | go_simp) ⟨b5, 0, none⟩ rfl #[I x0, F v1, .float .f64 v3, .float .f64 v4, .float .f64 v5, I (20 + x6), I 0].toList _ LV.out Try.underlying44 rfl infoD ?_) | (refine wpList_store_row rfl 44 _ _ rfl w.heap.size #[I x0, F v1, .float .f64 v3, .float .f64 v4, .float .f64 v5, I (20 + x6), I 0] rfl rfl 44 _ G4.out infoD rfl (by simp [Value.oneCell']) ?_))
      generalize u5.setRow w.heap.size #[I x0, F v1, .float .f64 v3, .float .f64 v4, .float .f64 v5, I (20 + x6), I 0] = uz at HG HK ⊢
      go_wp2_with fail
      (try simp only [Exit.inBlock, Exit.then])
      refine bodyPost_ret (v := .agg #[I x0, F v1, .float .f64 v3, .float .f64 v4, .float .f64 v5, I (20 + x6), I 0]) ?_ rfl ⟨by rw [FIN.out], HG.out⟩
      exact results_cell_row rfl _ _ w.heap.size 44 _ (0, 0) _ rfl HK.out Try.underlying44 rfl infoD
  · have H5 := Lib.hid h5
    have e5 : (x5 == 1) = false := by simpa using h5
    clear h5
    go_upto_region 7 with fail
    go_wp2_with fail
    refine (Fz.out _ HB.out).mono ?_
    rintro e w' ⟨rfl, hq⟩
    subst w'
    by_cases hz : xz = 2
    · have HZ := Lib.hid hz
      have ez : (xz == 2) = true := by simpa using hz
      clear hz
      go_upto_region 8 with fail
      have c6 : u4.cell? ⟨b5, 6, none⟩ = some (I 0) := by rw [cell_of_row _ _ _ _ _ _ G5.out]; rfl
      have f6 : u4.frozen? ⟨b5, 6, none⟩ = false := frozen_of_row _ _ _ _ _ G5.out
      go_wp2_with fail
      refine (F7.out _ HB.out).mono ?_
      rintro e w' ⟨rfl, hq⟩
      subst w'
      go_upto_region 9 with fail
      have g5 := heap_setCell_same u4 b5 6 _ _ (I (60 + x7)) G5.out
      simp only [List.setIfInBounds_toArray, List.set_cons_succ, List.set_cons_zero] at g5
      have g4 := (Below.heap_setCell u4 ⟨b5, 6, none⟩ (I (60 + x7)) w.heap.size (by simp; omega)).trans G4.out
      have hb := Owned.below_write HB.out (g := b5) (i := 6) (by omega) (I (60 + x7))
      clear c6 f6 G4 G5 HB
      generalize World.setCell u4 ⟨b5, 6, none⟩ (I (60 + x7)) = u5 at g4 g5 hb ⊢
      have G4 := Lib.hid g4
      have G5 := Lib.hid g5
      have HB := Lib.hid hb
      clear g4 g5 hb
      have FIN : Hid (R.cells.toArray = #[I x0, F v1, .float .f64 v3, .float .f64 v4, .float .f64 v5, I 0, I (60 + x7)]) := Lib.hid (by rw [RES.out]; simp only [Det.cells, if_neg H5.out, if_pos HZ.out])
      have LV : Hid (Lies u5 ⟨b5, 0, none⟩ #[I x0, F v1, .float .f64 v3, .float .f64 v4, .float .f64 v5, I 0, I (60 + x7)].toList) := Lib.hid (Row.lies_of_block G5.out)
      have HG := Lib.hid (below_setRow HB.out (g := w.heap.size) (Nat.le_refl _) #[I x0, F v1, .float .f64 v3, .float .f64 v4, .float .f64 v5, I 0, I (60 + x7)])
      have HK := Lib.hid (setRow_heap u5 w.heap.size _ #[I x0, F v1, .float .f64 v3, .float .f64 v4, .float .f64 v5, I 0, I (60 + x7)] _ _ G4.out)
      go_wp2_with (first | (refine Row.wpList_load_g 44 _ rfl (by first | rfl | go_simp) ⟨b5, 0, none⟩ rfl #[I x0, F v1, .float .f64 v3, .float .f64 v4, .float .f64 v5, I 0, I (60 + x7)].toList _ LV.out Try.underlying44 rfl infoD ?_) | (refine wpList_store_row rfl 44 _ _ rfl w.heap.size #[I x0, F v1, .float .f64 v3, .float .f64 v4, .float .f64 v5, I 0, I (60 + x7)] rfl rfl 44 _ G4.out infoD rfl (by simp [Value.oneCell']) ?_))
      generalize u5.setRow w.heap.size #[I x0, F v1, .float .f64 v3, .float .f64 v4, .float .f64 v5, I 0, I (60 + x7)] = uz at HG HK ⊢
      go_wp2_with fail
      (try simp only [Exit.inBlock, Exit.then])
      refine bodyPost_ret (v := .agg #[I x0, F v1, .float .f64 v3, .float .f64 v4, .float .f64 v5, I 0, I (60 + x7)]) ?_ rfl ⟨by rw [FIN.out], HG.out⟩
      exact results_cell_row rfl _ _ w.heap.size 44 _ (0, 0) _ rfl HK.out Try.underlying44 rfl infoD
    · have HZ := Lib.hid hz
      have ez : (xz == 2) = false := by simpa using hz
      clear hz
      go_upto_region 9 with fail
      have FIN : Hid (R.cells.toArray = #[I x0, F v1, .float .f64 v3, .float .f64 v4, .float .f64 v5, I 0, I 0]) := Lib.hid (by rw [RES.out]; simp only [Det.cells, if_neg H5.out, if_neg HZ.out])
      have LV : Hid (Lies u4 ⟨b5, 0, none⟩ #[I x0, F v1, .float .f64 v3, .float .f64 v4, .float .f64 v5, I 0, I 0].toList) := Lib.hid (Row.lies_of_block G5.out)
      have HG := Lib.hid (below_setRow HB.out (g := w.heap.size) (Nat.le_refl _) #[I x0, F v1, .float .f64 v3, .float .f64 v4, .float .f64 v5, I 0, I 0])
      have HK := Lib.hid (setRow_heap u4 w.heap.size _ #[I x0, F v1, .float .f64 v3, .float .f64 v4, .float .f64 v5, I 0, I 0] _ _ G4.out)
      go_wp2_with (first | (refine Row.wpList_load_g 44 _ rfl (by first | rfl | go_simp) ⟨b5, 0, none⟩ rfl #[I x0, F v1, .float .f64 v3, .float .f64 v4, .float .f64 v5, I 0, I 0].toList _ LV.out Try.underlying44 rfl infoD ?_) | (refine wpList_store_row rfl 44 _ _ rfl w.heap.size #[I x0, F v1, .float .f64 v3, .float .f64 v4, .float .f64 v5, I 0, I 0] rfl rfl 44 _ G4.out infoD rfl (by simp [Value.oneCell']) ?_))
      generalize u4.setRow w.heap.size #[I x0, F v1, .float .f64 v3, .float .f64 v4, .float .f64 v5, I 0, I 0] = uz at HG HK ⊢
      go_wp2_with fail
      (try simp only [Exit.inBlock, Exit.then])
      refine bodyPost_ret (v := .agg #[I x0, F v1, .float .f64 v3, .float .f64 v4, .float .f64 v5, I 0, I 0]) ?_ rfl ⟨by rw [FIN.out], HG.out⟩
      exact results_cell_row rfl _ _ w.heap.size 44 _ (0, 0) _ rfl HK.out Try.underlying44 rfl infoD
end Go.Proofs.Ytfnpcfibgabmfaa.GenD
/- The document's own places of a table's phases: plain mathematics. No program in it. -/
namespace Go.Proofs.Ytfnpcfibgabmfaa.PlaceM
open Go Tab
structure Spt where
  g : Nat
  k : Nat
  i : Nat
  p : Int
  deriving DecidableEq, Inhabited
/-- A table of few groups, with short rows. -/
structure Few (T : Tab) : Prop where
  groups : T.groups.length ≤ 1000
  rows : ∀ g ∈ T.groups, g.1.length ≤ 1000 ∧ g.2.length ≤ 1000
def Spt.cells (x : Spt) : List Value := [I x.g, I x.k, I x.i, I x.p]
theorem Spt.one (x : Spt) : x.cells.toArray.all (·.oneCell') = true := by simp [Spt.cells, Value.oneCell']
def one (g k i : Nat) (p : Int) : List Spt := if 0 ≤ p ∧ p < 8 then [⟨g, k, i, p⟩] else []
def rowS (g k : Nat) : Nat → List Int → List Spt
  | _, [] => []
  | i, p :: l => one g k i p ++ rowS g k (i + 1) l
def grpS (g : Nat) (x : List Int × List Int) : List Spt := rowS g 0 0 x.1 ++ rowS g 1 0 x.2
def allS : Nat → List (List Int × List Int) → List Spt
  | _, [] => []
  | g, x :: l => grpS g x ++ allS (g + 1) l
def spots (T : Tab) : List Spt := allS 0 T.groups
theorem rowS_append (g k : Nat) : ∀ (i : Nat) (l m : List Int), rowS g k i (l ++ m) = rowS g k i l ++ rowS g k (i + l.length) m
  | i, [], m => rfl
  | i, p :: l, m => by
    rw [List.cons_append, rowS, rowS, rowS_append g k (i + 1) l m, List.append_assoc, List.length_cons, show i + 1 + l.length = i + (l.length + 1) by omega]
theorem allS_append : ∀ (g : Nat) (l m : List (List Int × List Int)), allS g (l ++ m) = allS g l ++ allS (g + l.length) m
  | g, [], m => rfl
  | g, x :: l, m => by
    rw [List.cons_append, allS, allS, allS_append (g + 1) l m, List.append_assoc, List.length_cons, show g + 1 + l.length = g + (l.length + 1) by omega]
theorem take_succ {α : Type} {l : List α} {k : Nat} {v : α} (h : l[k]? = some v) : l.take (k + 1) = l.take k ++ [v] := by
  obtain ⟨hk, rfl⟩ := List.getElem?_eq_some_iff.1 h
  exact List.take_succ_eq_append_getElem hk
theorem row_step {g k i : Nat} {l : List Int} {p : Int} (h : l[i]? = some p) : rowS g k 0 (l.take (i + 1)) = rowS g k 0 (l.take i) ++ one g k i p := by
  have hi : i < l.length := (List.getElem?_eq_some_iff.1 h).1
  rw [take_succ h, rowS_append, List.length_take, Nat.min_eq_left (by omega), Nat.zero_add]
  simp [rowS]
theorem row_hit {g k i : Nat} {l : List Int} {p : Int} (h : l[i]? = some p) (h0 : 0 ≤ p) (h8 : p < 8) : rowS g k 0 (l.take (i + 1)) = rowS g k 0 (l.take i) ++ [⟨g, k, i, p⟩] := by
  rw [row_step h, one, if_pos ⟨h0, h8⟩]
theorem row_miss {g k i : Nat} {l : List Int} {p : Int} (h : l[i]? = some p) (h0 : ¬ (0 ≤ p ∧ p < 8)) : rowS g k 0 (l.take (i + 1)) = rowS g k 0 (l.take i) := by
  rw [row_step h, one, if_neg h0, List.append_nil]
theorem all_step {g : Nat} {l : List (List Int × List Int)} {x : List Int × List Int} (h : l[g]? = some x) : allS 0 (l.take (g + 1)) = allS 0 (l.take g) ++ (rowS g 0 0 x.1 ++ rowS g 1 0 x.2) := by
  have hi : g < l.length := (List.getElem?_eq_some_iff.1 h).1
  rw [take_succ h, allS_append, List.length_take, Nat.min_eq_left (by omega), Nat.zero_add]
  simp [allS, grpS]
theorem one_len (g k i : Nat) (p : Int) : (one g k i p).length ≤ 1 := by unfold one; split <;> simp
theorem rowS_len (g k : Nat) : ∀ (i : Nat) (l : List Int), (rowS g k i l).length ≤ l.length
  | i, [] => Nat.le_refl _
  | i, p :: l => by
    rw [rowS, List.length_append, List.length_cons]
    have := one_len g k i p
    have := rowS_len g k (i + 1) l
    omega
theorem allS_len : ∀ (g : Nat) (l : List (List Int × List Int)), (∀ x ∈ l, x.1.length ≤ 1000 ∧ x.2.length ≤ 1000) → (allS g l).length ≤ l.length * 2000
  | g, [], _ => by simp [allS]
  | g, x :: l, h => by
    rw [allS, List.length_append, List.length_cons, Nat.add_mul]
    have h1 := h x (by simp)
    have h2 := allS_len (g + 1) l (fun y hy => h y (by simp [hy]))
    have h3 := rowS_len g 0 0 x.1
    have h4 := rowS_len g 1 0 x.2
    rw [grpS, List.length_append]
    omega
theorem small_len {g : Nat} {l : List (List Int × List Int)} (hl : l.length ≤ 1000) (h : ∀ x ∈ l, x.1.length ≤ 1000 ∧ x.2.length ≤ 1000) : (allS g l).length ≤ 2000000 := by
  have := allS_len g l h
  omega
/-- The first place of a number. -/
def find (p : Int) (l : List Spt) : Option Spt := l.find? (fun x => x.p == p)
theorem find_none {p : Int} {l : List Spt} (h : ∀ x ∈ l, x.p ≠ p) : find p l = none := by
  unfold find
  rw [List.find?_eq_none]
  intro x hx
  simpa using h x hx
def where_ (T : Tab) (p : Int) : Option Spt := find p (spots T)
/-- Do two stand beside each other? -/
def beside (T : Tab) (p q : Int) : Bool := match where_ T p, where_ T q with
  | some a, some b => a.g == b.g && a.k != b.k
  | _, _ => false
end Go.Proofs.Ytfnpcfibgabmfaa.PlaceM
