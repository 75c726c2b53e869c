/- The contracts of sameValue and sameList at rails, buses and groups, and of sameGroup. -/
import Derived.Test.YtfnpcfibgabmfaaRows
import Derived.Test.YtfnpcfibgabmfaaSameA
import Derived.Test.YtfnpcfibgabmfaaSameB
import Derived.Test.YtfnpcfibgabmfaaRow
import Derived.LoopTactic
namespace Go.Proofs.Ytfnpcfibgabmfaa.Same
open Go.ChangeShapes Go.WideShapes Go.ChangeAt Go.RowKit
open Tab
open May (ret_bool chain take_succ' infoP infoG infoD infoR infoB row_new)
set_option linter.unusedVariables false
set_option linter.unusedSimpArgs false

theorem group_any (g u : Gr) (w : World) (h : g.ok w) (h' : u.ok w) :
    Calls Try.prog 64 #[.agg g.cells.toArray, .agg u.cells.toArray] w fun e w' => e = .returned (.bool (decide (g.data = u.data))) ∧ Below w.heap.size w w' := by
  obtain ⟨l0, l1, ⟨a0, ca0⟩, ⟨a1, ca1⟩⟩ := g
  obtain ⟨m0, m1, ⟨b0, cb0⟩, ⟨b1, cb1⟩⟩ := u
  have H0 := Lib.hid h.1
  have H1 := Lib.hid h.2
  have U0 := Lib.hid h'.1
  have U1 := Lib.hid h'.2
  clear h h'
  show Calls Try.prog 64 #[.agg #[.slice a0 l0.length ca0, .slice a1 l1.length ca1], .agg #[.slice b0 m0.length cb0, .slice b1 m1.length cb1]] w _
  go_enter Try.func64, Try.ntmps64
  go_wp2_with fail
  have hb : Below w.heap.size w ((w.alloc (.cells #[.slice a0 l0.length ca0, .slice a1 l1.length ca1] 42)).alloc (.cells #[.slice b0 m0.length cb0, .slice b1 m1.length cb1] 42)) := ((Below.refl _ _).alloc (Nat.le_refl _) _).alloc (by simp) _
  have HB := Lib.hid hb
  clear hb
  refine (ints_any a0 b0 ca0 cb0 l0 m0 _ (H0.out.below HB.out) (U0.out.below HB.out)).mono ?_
  rintro e w' ⟨rfl, rfl⟩
  by_cases h0 : l0 = m0
  · have E0 := Lib.hid h0
    rw [decide_eq_true h0]
    clear h0
    go_wp2_with fail
    refine (ints_any a1 b1 ca1 cb1 l1 m1 _ (H1.out.below HB.out) (U1.out.below HB.out)).mono ?_
    rintro e w' ⟨rfl, rfl⟩
    generalize hv : decide (l1 = m1) = b
    have HV := Lib.hid hv
    clear hv
    go_wp2
    go_ret
    exact ⟨ret_bool (by rw [← HV.out]; simp [Gr.data, E0.out]), HB.out⟩
  · have E0 := Lib.hid h0
    rw [decide_eq_false h0]
    clear h0
    go_wp2
    go_ret
    exact ⟨ret_bool (by rw [decide_eq_false (fun e => E0.out (congrArg Prod.fst e))]), HB.out⟩
theorem railv_any (r s : Rl) (w : World) :
    Calls Try.prog 68 #[.agg r.cells.toArray, .agg s.cells.toArray] w fun e w' => e = .returned (.bool (decide (r = s))) ∧ Below w.heap.size w w' := by
  have HE := Lib.hid (rail_eqs r s)
  generalize hb : decide (r = s) = b at HE ⊢
  clear hb
  go_enter Try.func68, Try.ntmps68
  go_wp2_with (first | (refine wpList_load_row rfl 46 _ rfl _ rfl _ _ _ _ (heap_alloc2_old _ _ _) Try.underlying46 rfl infoR ?_) | (refine wpList_load_row rfl 46 _ rfl _ rfl _ _ _ _ (heap_alloc2_new _ _ _) Try.underlying46 rfl infoR ?_) | (refine Row.wpList_eql 46 _ _ _ rfl rfl r.cells.toArray s.cells.toArray rfl rfl guardR b HE.out ?_))
  go_ret
  exact ⟨rfl, ((Below.refl _ _).alloc (Nat.le_refl _) _).alloc (by simp) _⟩
theorem busv_any (r s : Bs) (w : World) :
    Calls Try.prog 70 #[.agg r.cells.toArray, .agg s.cells.toArray] w fun e w' => e = .returned (.bool (decide (r = s))) ∧ Below w.heap.size w w' := by
  have HE := Lib.hid (bus_eqs r s)
  generalize hb : decide (r = s) = b at HE ⊢
  clear hb
  go_enter Try.func70, Try.ntmps70
  go_wp2_with (first | (refine wpList_load_row rfl 48 _ rfl _ rfl _ _ _ _ (heap_alloc2_old _ _ _) Try.underlying48 rfl infoB ?_) | (refine wpList_load_row rfl 48 _ rfl _ rfl _ _ _ _ (heap_alloc2_new _ _ _) Try.underlying48 rfl infoB ?_) | (refine Row.wpList_eql 48 _ _ _ rfl rfl r.cells.toArray s.cells.toArray rfl rfl guardB b HE.out ?_))
  go_ret
  exact ⟨rfl, ((Below.refl _ _).alloc (Nat.le_refl _) _).alloc (by simp) _⟩
set_option maxHeartbeats 1000000 in
theorem rails_any (a b : Option Addr) (ca cb : Nat) (l m : List Rl) (w : World) (h : RowOf 11 Rl.cells w ⟨a, ca⟩ l) (h' : RowOf 11 Rl.cells w ⟨b, cb⟩ m) :
    Calls Try.prog 67 #[.slice a l.length ca, .slice b m.length cb, .func (.func 68) #[] #[]] w fun e w' => e = .returned (.bool (decide (l = m))) ∧ Below w.heap.size w w' := by
  have h1 := h.len
  have h2 := h'.len
  unfold maxLen at h1 h2
  have Hr := Lib.hid h
  have Hr' := Lib.hid h'
  clear h h'
  by_cases hlen : l.length = m.length
  · have HL := Lib.hid hlen
    have hd : ((l.length : Int) != (m.length : Int)) = false := by rw [bne_eq_false_iff_eq]; omega
    go_enter Try.func67, Try.ntmps67
    go_wp2
    go_loopw [16] (fun i wr => ∃ k : Nat, k ≤ l.length ∧ i = .int .i64 k ∧ l.take k = m.take k ∧ Below w.heap.size w wr) (fun i _ => l.length - (intOf i).toNat)
    case atStart => exact ⟨0, by omega, rfl, rfl, Below.refl _ _⟩
    case round =>
      obtain ⟨k, hk, rfl, hall, hbel⟩ := hrel
      have Hall := Lib.hid hall
      have Hb := Lib.hid hbel
      clear hall hbel
      by_cases hlt : k < l.length
      · have hv := List.getElem?_eq_getElem hlt
        have hu := List.getElem?_eq_getElem (show k < m.length by omega)
        generalize l[k] = v at hv
        generalize m[k]'(show k < m.length by omega) = u at hu
        obtain ⟨x, hx, hc⟩ := (Hr.out.below Hb.out).at hv
        obtain rfl : a = some x := hx
        obtain ⟨y, hy, hc'⟩ := (Hr'.out.below Hb.out).at hu
        obtain rfl : b = some y := hy
        have HV := Lib.hid hv
        have HU := Lib.hid hu
        have HC := Lib.hid hc
        have HC' := Lib.hid hc'
        clear hv hu hc hc'
        go_wp2_with (first | (refine Row.wpList_load_lies rfl 46 _ rfl (x.add (k * 11)) rfl v.cells _ HC.out Try.underlying46 rfl infoR ?_) | (refine Row.wpList_store_new rfl 46 _ _ rfl _ _ v.cells.toArray rfl rfl rfl infoR rfl v.one ?_))
        have B1 : Hid (Below wr.heap.size wr (wr.alloc (.cells v.cells.toArray 46))) := (Below.refl _ _).alloc (Nat.le_refl _) _
        have L1 : Hid (Lies (wr.alloc (.cells v.cells.toArray 46)) ⟨wr.heap.size, 0, none⟩ v.cells) := Row.lies_new _ _ _
        have L2 : Hid (Lies (wr.alloc (.cells v.cells.toArray 46)) (y.add (k * 11)) u.cells) := HC'.out.below B1.out
        generalize hw1 : wr.alloc (.cells v.cells.toArray 46) = w1 at B1 L1 L2 ⊢
        clear hw1
        have hkm : k < m.length := by omega
        have hne : Nonempty (Ph.S (Row.Old w1)) := ⟨⟨0, w1, Below.refl _ _⟩⟩
        refine Ph.wp_region_ph (Row.Old w1) [] (by kernel_rfl) (by kernel_rfl) (Row.Old.drew _) ?_
        repeat
          first
            | (refine Row.wpPh_load rfl rfl 46 _ rfl ⟨wr.heap.size, 0, none⟩ rfl v.cells _ (fun p => L1.out.below p.is) Try.underlying46 rfl infoR ?_)
            | (refine Row.wpPh_load rfl rfl 46 _ rfl (y.add (k * 11)) rfl u.cells _ (fun p => L2.out.below p.is) Try.underlying46 rfl infoR ?_)
            | (refine Ph.wpPh_calm rfl (fun K hK => ?_)
               go_simp
               first
                 | (refine hK _ ?_; clear hK K)
                 | (refine ⟨_, fun p => Row.Old.call (railv_any v u _), hK _ ?_⟩; clear hK K))
        refine Ph.wpPh_nil ?_
        intro w2 hb2
        clear hne
        have B2 := Lib.hid (Below.trans Hb.out ((Below.trans B1.out (Below.mono hb2 B1.out.size)).mono Hb.out.size))
        clear hb2
        by_cases hvu : v = u
        · have HE := Lib.hid hvu
          rw [decide_eq_true hvu]
          clear hvu
          go_wp2
          go_roundw
          case rel => exact ⟨k + 1, by omega, by go_num, eq_step HV.out HU.out Hall.out HE.out, B2.out⟩
          case measure => simp [intOf]; omega
        · have HE := Lib.hid (show ¬ l = m from eq_break HV.out HU.out hvu)
          rw [decide_eq_false hvu]
          clear hvu
          go_wp2
          go_ret
          exact ⟨ret_bool (decide_eq_false HE.out).symm, B2.out⟩
      · have HE := Lib.hid (show l = m from eq_end Hall.out HL.out hlt)
        go_wp2
        go_ret
        exact ⟨ret_bool (decide_eq_true HE.out).symm, Hb.out⟩
  · have HL := Lib.hid (show ¬ l = m from fun e => hlen (by rw [e]))
    have hd : ((l.length : Int) != (m.length : Int)) = true := by rw [bne_iff_ne]; omega
    go_enter Try.func67, Try.ntmps67
    go_wp2
    go_ret
    exact ⟨ret_bool (decide_eq_false HL.out).symm, Below.refl _ _⟩
set_option maxHeartbeats 1000000 in
theorem buses_any (a b : Option Addr) (ca cb : Nat) (l m : List Bs) (w : World) (h : RowOf 2 Bs.cells w ⟨a, ca⟩ l) (h' : RowOf 2 Bs.cells w ⟨b, cb⟩ m) :
    Calls Try.prog 69 #[.slice a l.length ca, .slice b m.length cb, .func (.func 70) #[] #[]] w fun e w' => e = .returned (.bool (decide (l = m))) ∧ Below w.heap.size w w' := by
  have h1 := h.len
  have h2 := h'.len
  unfold maxLen at h1 h2
  have Hr := Lib.hid h
  have Hr' := Lib.hid h'
  clear h h'
  by_cases hlen : l.length = m.length
  · have HL := Lib.hid hlen
    have hd : ((l.length : Int) != (m.length : Int)) = false := by rw [bne_eq_false_iff_eq]; omega
    go_enter Try.func69, Try.ntmps69
    go_wp2
    go_loopw [16] (fun i wr => ∃ k : Nat, k ≤ l.length ∧ i = .int .i64 k ∧ l.take k = m.take k ∧ Below w.heap.size w wr) (fun i _ => l.length - (intOf i).toNat)
    case atStart => exact ⟨0, by omega, rfl, rfl, Below.refl _ _⟩
    case round =>
      obtain ⟨k, hk, rfl, hall, hbel⟩ := hrel
      have Hall := Lib.hid hall
      have Hb := Lib.hid hbel
      clear hall hbel
      by_cases hlt : k < l.length
      · have hv := List.getElem?_eq_getElem hlt
        have hu := List.getElem?_eq_getElem (show k < m.length by omega)
        generalize l[k] = v at hv
        generalize m[k]'(show k < m.length by omega) = u at hu
        obtain ⟨x, hx, hc⟩ := (Hr.out.below Hb.out).at hv
        obtain rfl : a = some x := hx
        obtain ⟨y, hy, hc'⟩ := (Hr'.out.below Hb.out).at hu
        obtain rfl : b = some y := hy
        have HV := Lib.hid hv
        have HU := Lib.hid hu
        have HC := Lib.hid hc
        have HC' := Lib.hid hc'
        clear hv hu hc hc'
        go_wp2_with (first | (refine Row.wpList_load_lies rfl 48 _ rfl (x.add (k * 2)) rfl v.cells _ HC.out Try.underlying48 rfl infoB ?_) | (refine Row.wpList_store_new rfl 48 _ _ rfl _ _ v.cells.toArray rfl rfl rfl infoB rfl v.one ?_))
        have B1 : Hid (Below wr.heap.size wr (wr.alloc (.cells v.cells.toArray 48))) := (Below.refl _ _).alloc (Nat.le_refl _) _
        have L1 : Hid (Lies (wr.alloc (.cells v.cells.toArray 48)) ⟨wr.heap.size, 0, none⟩ v.cells) := Row.lies_new _ _ _
        have L2 : Hid (Lies (wr.alloc (.cells v.cells.toArray 48)) (y.add (k * 2)) u.cells) := HC'.out.below B1.out
        generalize hw1 : wr.alloc (.cells v.cells.toArray 48) = w1 at B1 L1 L2 ⊢
        clear hw1
        have hkm : k < m.length := by omega
        have hne : Nonempty (Ph.S (Row.Old w1)) := ⟨⟨0, w1, Below.refl _ _⟩⟩
        refine Ph.wp_region_ph (Row.Old w1) [] (by kernel_rfl) (by kernel_rfl) (Row.Old.drew _) ?_
        repeat
          first
            | (refine Row.wpPh_load rfl rfl 48 _ rfl ⟨wr.heap.size, 0, none⟩ rfl v.cells _ (fun p => L1.out.below p.is) Try.underlying48 rfl infoB ?_)
            | (refine Row.wpPh_load rfl rfl 48 _ rfl (y.add (k * 2)) rfl u.cells _ (fun p => L2.out.below p.is) Try.underlying48 rfl infoB ?_)
            | (refine Ph.wpPh_calm rfl (fun K hK => ?_)
               go_simp
               first
                 | (refine hK _ ?_; clear hK K)
                 | (refine ⟨_, fun p => Row.Old.call (busv_any v u _), hK _ ?_⟩; clear hK K))
        refine Ph.wpPh_nil ?_
        intro w2 hb2
        clear hne
        have B2 := Lib.hid (Below.trans Hb.out ((Below.trans B1.out (Below.mono hb2 B1.out.size)).mono Hb.out.size))
        clear hb2
        by_cases hvu : v = u
        · have HE := Lib.hid hvu
          rw [decide_eq_true hvu]
          clear hvu
          go_wp2
          go_roundw
          case rel => exact ⟨k + 1, by omega, by go_num, eq_step HV.out HU.out Hall.out HE.out, B2.out⟩
          case measure => simp [intOf]; omega
        · have HE := Lib.hid (show ¬ l = m from eq_break HV.out HU.out hvu)
          rw [decide_eq_false hvu]
          clear hvu
          go_wp2
          go_ret
          exact ⟨ret_bool (decide_eq_false HE.out).symm, B2.out⟩
      · have HE := Lib.hid (show l = m from eq_end Hall.out HL.out hlt)
        go_wp2
        go_ret
        exact ⟨ret_bool (decide_eq_true HE.out).symm, Hb.out⟩
  · have HL := Lib.hid (show ¬ l = m from fun e => hlen (by rw [e]))
    have hd : ((l.length : Int) != (m.length : Int)) = true := by rw [bne_iff_ne]; omega
    go_enter Try.func69, Try.ntmps69
    go_wp2
    go_ret
    exact ⟨ret_bool (decide_eq_false HL.out).symm, Below.refl _ _⟩
set_option maxHeartbeats 1000000 in
theorem groups_any (a b : Option Addr) (ca cb : Nat) (l m : List Gr) (w : World) (h : RowOf 2 Gr.cells w ⟨a, ca⟩ l) (h' : RowOf 2 Gr.cells w ⟨b, cb⟩ m) (k1 : ∀ v ∈ l, v.ok w) (k2 : ∀ v ∈ m, v.ok w) :
    Calls Try.prog 63 #[.slice a l.length ca, .slice b m.length cb, .func (.func 64) #[] #[]] w fun e w' => e = .returned (.bool (decide (l.map Gr.data = m.map Gr.data))) ∧ Below w.heap.size w w' := by
  have h1 := h.len
  have h2 := h'.len
  unfold maxLen at h1 h2
  have Hr := Lib.hid h
  have Hr' := Lib.hid h'
  clear h h'
  have K1 := Lib.hid k1
  have K2 := Lib.hid k2
  clear k1 k2
  by_cases hlen : l.length = m.length
  · have HL := Lib.hid hlen
    have hd : ((l.length : Int) != (m.length : Int)) = false := by rw [bne_eq_false_iff_eq]; omega
    go_enter Try.func63, Try.ntmps63
    go_wp2
    go_loopw [16] (fun i wr => ∃ k : Nat, k ≤ l.length ∧ i = .int .i64 k ∧ (l.take k).map Gr.data = (m.take k).map Gr.data ∧ Below w.heap.size w wr) (fun i _ => l.length - (intOf i).toNat)
    case atStart => exact ⟨0, by omega, rfl, rfl, Below.refl _ _⟩
    case round =>
      obtain ⟨k, hk, rfl, hall, hbel⟩ := hrel
      have Hall := Lib.hid hall
      have Hb := Lib.hid hbel
      clear hall hbel
      by_cases hlt : k < l.length
      · have hv := List.getElem?_eq_getElem hlt
        have hu := List.getElem?_eq_getElem (show k < m.length by omega)
        generalize l[k] = v at hv
        generalize m[k]'(show k < m.length by omega) = u at hu
        obtain ⟨x, hx, hc⟩ := (Hr.out.below Hb.out).at hv
        obtain rfl : a = some x := hx
        obtain ⟨y, hy, hc'⟩ := (Hr'.out.below Hb.out).at hu
        obtain rfl : b = some y := hy
        have HV := Lib.hid hv
        have HU := Lib.hid hu
        have HC := Lib.hid hc
        have HC' := Lib.hid hc'
        clear hv hu hc hc'
        go_wp2_with (first | (refine Row.wpList_load_lies rfl 42 _ rfl (x.add (k * 2)) rfl v.cells _ HC.out Try.underlying42 rfl infoG ?_) | (refine Row.wpList_store_new rfl 42 _ _ rfl _ _ v.cells.toArray rfl rfl rfl infoG rfl v.one ?_))
        have B1 : Hid (Below wr.heap.size wr (wr.alloc (.cells v.cells.toArray 42))) := (Below.refl _ _).alloc (Nat.le_refl _) _
        have L1 : Hid (Lies (wr.alloc (.cells v.cells.toArray 42)) ⟨wr.heap.size, 0, none⟩ v.cells) := Row.lies_new _ _ _
        have L2 : Hid (Lies (wr.alloc (.cells v.cells.toArray 42)) (y.add (k * 2)) u.cells) := HC'.out.below B1.out
        generalize hw1 : wr.alloc (.cells v.cells.toArray 42) = w1 at B1 L1 L2 ⊢
        clear hw1
        have hkm : k < m.length := by omega
        have hne : Nonempty (Ph.S (Row.Old w1)) := ⟨⟨0, w1, Below.refl _ _⟩⟩
        refine Ph.wp_region_ph (Row.Old w1) [] (by kernel_rfl) (by kernel_rfl) (Row.Old.drew _) ?_
        repeat
          first
            | (refine Row.wpPh_load rfl rfl 42 _ rfl ⟨wr.heap.size, 0, none⟩ rfl v.cells _ (fun p => L1.out.below p.is) Try.underlying42 rfl infoG ?_)
            | (refine Row.wpPh_load rfl rfl 42 _ rfl (y.add (k * 2)) rfl u.cells _ (fun p => L2.out.below p.is) Try.underlying42 rfl infoG ?_)
            | (refine Ph.wpPh_calm rfl (fun K hK => ?_)
               go_simp
               first
                 | (refine hK _ ?_; clear hK K)
                 | (refine ⟨_, fun p => Row.Old.call (group_any v u _ ((K1.out v (List.mem_of_getElem? HV.out)).below ((Hb.out.trans (B1.out.mono Hb.out.size)).trans (p.is.mono (Nat.le_trans Hb.out.size B1.out.size)))) ((K2.out u (List.mem_of_getElem? HU.out)).below ((Hb.out.trans (B1.out.mono Hb.out.size)).trans (p.is.mono (Nat.le_trans Hb.out.size B1.out.size))))), hK _ ?_⟩; clear hK K))
        refine Ph.wpPh_nil ?_
        intro w2 hb2
        clear hne
        have B2 := Lib.hid (Below.trans Hb.out ((Below.trans B1.out (Below.mono hb2 B1.out.size)).mono Hb.out.size))
        clear hb2
        by_cases hvu : v.data = u.data
        · have HE := Lib.hid hvu
          rw [decide_eq_true hvu]
          clear hvu
          go_wp2
          go_roundw
          case rel => exact ⟨k + 1, by omega, by go_num, by rw [take_succ' l k v HV.out, take_succ' m k u HU.out, List.map_append, List.map_append, Hall.out]; simp [HE.out], B2.out⟩
          case measure => simp [intOf]; omega
        · have HE := Lib.hid (show ¬ l.map Gr.data = m.map Gr.data from fun e => hvu (by have h3 := congrArg (·[k]?) e; simp only [List.getElem?_map, HV.out, HU.out, Option.map_some] at h3; exact Option.some.inj h3))
          rw [decide_eq_false hvu]
          clear hvu
          go_wp2
          go_ret
          exact ⟨ret_bool (decide_eq_false HE.out).symm, B2.out⟩
      · have HE := Lib.hid (show l.map Gr.data = m.map Gr.data from by have h3 := Hall.out; rwa [List.take_of_length_le (by omega), List.take_of_length_le (by have := HL.out; omega)] at h3)
        go_wp2
        go_ret
        exact ⟨ret_bool (decide_eq_true HE.out).symm, Hb.out⟩
  · have HL := Lib.hid (show ¬ l.map Gr.data = m.map Gr.data from fun e => hlen (by have := congrArg List.length e; simpa using this))
    have hd : ((l.length : Int) != (m.length : Int)) = true := by rw [bne_iff_ne]; omega
    go_enter Try.func63, Try.ntmps63
    go_wp2
    go_ret
    exact ⟨ret_bool (decide_eq_false HL.out).symm, Below.refl _ _⟩
end Go.Proofs.Ytfnpcfibgabmfaa.Same
