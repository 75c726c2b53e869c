/- The contracts of plan.Next and plan.Following. -/
import Derived.Test.YtfnpcfibgabmfaaRows
import Derived.Test.YtfnpcfibgabmfaaPlanC
namespace Go.Proofs.Ytfnpcfibgabmfaa.PlanN
open Go.ChangeShapes Go.WideShapes Go.ChangeAt Go.RowKit
open Tab PlaceM PlanM PlanC
open May (infoP St)
open SetP (has_any)
set_option linter.unusedVariables false
set_option linter.unusedSimpArgs false
theorem ringAt_eq (T : Tab) (g r : Int) : ringAt T g r = if r = 0 then (rowsAt T g).1 else if r = 1 then (rowsAt T g).2 else [] := rfl
set_option maxRecDepth 100000 in
set_option maxHeartbeats 4000000 in
theorem next_any (T : Tab) (h : Hd) (g r a want : Int) (w : World) (ht : IsTab w h T) :
    Calls Try.prog 29 #[.agg (T.cells h).toArray, .int .i64 g, .int .i64 r, .int .i64 a, .int .i64 want] w fun e w' => e = .returned (.int .i64 (nextS T g r a want)) ∧ Below w.heap.size w w' := by
  have hsz := (cells_ok ht).size
  have C := Lib.hid (cells_ok ht)
  have IA : Hid ((Try.prog.info? 33).map (·.size) = some (T.cells h).length) := Lib.hid (by rw [List.size_toArray] at hsz; rw [hsz]; exact infoT)
  have RO : Hid (∀ W, Below w.heap.size w W → Calls Try.prog 77 #[.agg (T.cells h).toArray, .int .i64 g] W fun e w' => ∃ s0 s1 : Sl, e = .returned (.agg #[s0.val (rowsAt T g).1.length, s1.val (rowsAt T g).2.length]) ∧ Pair w' (rowsAt T g) s0 s1 ∧ Below W.heap.size W w') := Lib.hid (fun W hb => rowsOf_any T h g W (ht.below hb))
  have A0 : Hid (Below w.heap.size w (w.alloc (.cells (T.cells h).toArray 33))) := Lib.hid ((Below.refl _ _).alloc (Nat.le_refl _) _)
  have A1 : Hid (Lies (w.alloc (.cells (T.cells h).toArray 33)) ⟨w.heap.size, 0, none⟩ (T.cells h)) := Lib.hid (Row.lies_new w _ _)
  have NS : Hid (nextS T g r a want = nextIn (ringAt T g r) a want) := Lib.hid rfl
  generalize nextS T g r a want = res at NS ⊢
  have RA := Lib.hid (ringAt_eq T g r)
  generalize ringAt T g r = row at NS RA
  generalize rowsAt T g = y at RA RO
  obtain ⟨l0, l1⟩ := y
  clear ht
  generalize T.cells h = c at *
  go_enter Try.func29, Try.ntmps29
  go_upto_region 1 with fail
  generalize w.alloc (.cells c.toArray 33) = u at A0 A1 ⊢
  clear hsz
  go_wp2_with (refine Row.wpList_load_g 33 _ rfl (by first | rfl | go_simp) ⟨w.heap.size, 0, none⟩ rfl c _ A1.out Try.underlying33 rfl IA.out ?_)
  refine (RO.out _ A0.out).mono ?_
  rintro e u1 ⟨⟨a0, cap0⟩, ⟨a1, cap1⟩, rfl, hpair, hb⟩
  have B0 : Hid (Below w.heap.size w u1) := Lib.hid (A0.out.trans (hb.mono A0.out.size))
  have HP := Lib.hid hpair
  clear hb A0 A1 RO hpair IA
  rw [show (Value.agg #[Sl.val ⟨a0, cap0⟩ (l0, l1).fst.length, Sl.val ⟨a1, cap1⟩ (l0, l1).snd.length]) = .agg #[.slice a0 l0.length cap0, .slice a1 l1.length cap1] from rfl]
  go_upto_region 2 with (refine Row.wpList_store_new rfl 42 _ _ rfl u1 #[.slice none 0 0, .slice none 0 0] #[.slice a0 l0.length cap0, .slice a1 l1.length cap1] rfl rfl rfl info2 rfl (by simp [Value.oneCell']) ?_)
  have hbo : Below u1.heap.size u1 (u1.alloc (.cells #[.slice a0 l0.length cap0, .slice a1 l1.length cap1] 42)) := (Below.refl _ _).alloc (Nat.le_refl _) _
  have hg := Row.lies_of_block (heap_alloc_new u1 (.cells #[.slice a0 l0.length cap0, .slice a1 l1.length cap1] 42))
  have HL : Hid (Lies (u1.alloc (.cells #[.slice a0 l0.length cap0, .slice a1 l1.length cap1] 42)) ⟨u1.heap.size, 0, none⟩ [.slice a0 l0.length cap0, .slice a1 l1.length cap1]) := Lib.hid hg
  have HQ : Hid (IntRow (u1.alloc (.cells #[.slice a0 l0.length cap0, .slice a1 l1.length cap1] 42)) ⟨a0, cap0⟩ l0 ∧ IntRow (u1.alloc (.cells #[.slice a0 l0.length cap0, .slice a1 l1.length cap1] 42)) ⟨a1, cap1⟩ l1) := Lib.hid ⟨RowOf.below HP.out.1 hbo, RowOf.below HP.out.2 hbo⟩
  have HN : Hid (Below w.heap.size w (u1.alloc (.cells #[.slice a0 l0.length cap0, .slice a1 l1.length cap1] 42))) := Lib.hid (B0.out.trans (hbo.mono B0.out.size))
  clear hg hbo HP B0
  generalize u1.alloc (.cells #[.slice a0 l0.length cap0, .slice a1 l1.length cap1] 42) = w4 at HL HQ HN ⊢
  generalize u1.heap.size = b4 at HL ⊢
  by_cases hr : r = 0 ∨ r = 1
  rotate_left
  · have HF : Hid (-1 = res) := Lib.hid (by rw [NS.out, RA.out, if_neg (by omega), if_neg (by omega)]; exact (next_nil a want).symm)
    have hr' : r < 0 ∨ 2 ≤ r := by omega
    clear hr
    rcases hr' with hr' | hr'
    · go_wp2
      go_ret
      exact ⟨ret_int HF.out, HN.out⟩
    · go_wp2
      go_ret
      exact ⟨ret_int HF.out, HN.out⟩
  obtain ⟨l, sa, cap, k, rfl, hk2, hcell, hrow, hrl⟩ : ∃ (l : List Int) (sa : Option Addr) (cap k : Nat), r = (k : Int) ∧ k < 2 ∧ w4.cell? ⟨b4, 0 + k, none⟩ = some (.slice sa l.length cap) ∧ IntRow w4 ⟨sa, cap⟩ l ∧ row = l := by
    have h0 := HL.out 0 _ rfl
    have h1 := HL.out 1 _ rfl
    rw [Addr.add_mid] at h0 h1
    rcases hr with rfl | rfl
    · exact ⟨l0, a0, cap0, 0, rfl, by omega, h0, HQ.out.1, RA.out⟩
    · exact ⟨l1, a1, cap1, 1, rfl, by omega, h1, HQ.out.2, RA.out⟩
  have HR := Lib.hid hrow
  have K := hrow.len
  unfold maxLen at K
  subst hrl
  clear hr hrow RA HQ HL
  rw [Nat.zero_add] at hcell
  go_wp2_with fail
  clear hcell
  go_loopw [27] (fun i wr => ∃ j : Nat, j ≤ row.length ∧ i = .int .i64 j ∧ (∀ i, i < j → ¬ (a < (i : Int) ∧ SetM.has want (row.getD i 0) = true)) ∧ wr = w4) (fun i _ => row.length - (intOf i).toNat)
  case atStart => exact ⟨0, by omega, rfl, (fun i h => by omega), rfl⟩
  case round =>
    obtain ⟨j, hj, rfl, hall, rfl⟩ := hrel
    have HA := Lib.hid hall
    clear hall
    by_cases hjl : j < row.length
    · have hv := List.getElem?_eq_getElem hjl
      generalize hz : row[j] = z at hv
      obtain ⟨y, hy, hp⟩ := IntRow.at HR.out hv
      obtain rfl : sa = some y := hy
      have hgd : row.getD j 0 = z := by rw [List.getD_eq_getElem?_getD, hv]; rfl
      have HGD := Lib.hid hgd
      clear hv hz hgd
      by_cases haj : a < (j : Int)
      · cases hh : SetM.has want z with
        | true =>
          have HF : Hid ((j : Int) = res) := Lib.hid (by rw [NS.out]; exact (next_hit hjl haj (by rw [HGD.out]; exact hh) HA.out).symm)
          go_wp2_with (go_at_call 75; refine (has_any _ _ _).mono ?_; rintro e w' ⟨rfl, rfl⟩; rw [hh])
          go_ret
          exact ⟨ret_int HF.out, HN.out⟩
        | false =>
          go_wp2_with (go_at_call 75; refine (has_any _ _ _).mono ?_; rintro e w' ⟨rfl, rfl⟩; rw [hh])
          go_roundw
          case rel => exact ⟨j + 1, by omega, by go_num, (fun i hi e => by
            by_cases e2 : i = j
            · subst e2; rw [HGD.out, hh] at e; simp at e
            · exact HA.out i (by omega) e), trivial⟩
          case measure => simp [intOf]; omega
      · go_wp2
        go_roundw
        case rel => exact ⟨j + 1, by omega, by go_num, (fun i hi e => by
          by_cases e2 : i = j
          · subst e2; exact haj e.1
          · exact HA.out i (by omega) e), trivial⟩
        case measure => simp [intOf]; omega
    · have HF : Hid (-1 = res) := Lib.hid (by rw [NS.out]; exact (next_miss (fun i hi => HA.out i (by omega))).symm)
      go_wp2
      go_ret
      exact ⟨ret_int HF.out, HN.out⟩
end Go.Proofs.Ytfnpcfibgabmfaa.PlanN
