/- The contract of the document's clear: the longest clearance of the phases that are On. -/
import Derived.Test.YtneaomdgjlmleaaRows
import Derived.Test.YtneaomdgjlmleaaOn
import Derived.Test.YtneaomdgjlmleaaRefC
import Derived.Test.YtneaomdgjlmleaaHeld
import Derived.Test.YtneaomdgjlmleaaRow
namespace Go.Proofs.Ytneaomdgjlmleaa.Clear
open Go.ChangeShapes Go.WideShapes Go.ChangeAt Go.RowKit
open Tab Gath RefS OnS RefC
open May (St phases_in infoP infoT row_new)
set_option linter.unusedVariables false
set_option linter.unusedSimpArgs false
def phAt (T : Tab) (p : Int) : Ph := T.phases.getD p.toNat default
def clr (T : Tab) (p : Int) : Int := sums [(phAt T p).yellow, (phAt T p).red]
def clearS (T : Tab) : Int := mosts ((SetM.list (onS T : Nat)).map (clr T))
theorem sum_len (a : Option Addr) (cap : Nat) (L : List Int) (n : Nat) (hn : L.length = n) (w : World) (h : IntRow w ⟨a, cap⟩ L) :
    Calls Try.prog 70 #[.slice a n cap] w fun e w' => e = .returned (.int .i64 (sums L)) ∧ w = w' := by
  subst hn; exact sum_row a cap L w h
set_option maxRecDepth 100000 in
set_option maxHeartbeats 8000000 in
theorem clear_any (T : Tab) (h : Hd) (w : World) (ht : IsTab w h T) :
    Calls Try.prog 90 #[.agg (T.cells h).toArray] w fun e w' => e = .returned (.int .i64 (clearS T)) ∧ Below w.heap.size w w' := by
  have C := Lib.hid (cells_ok ht)
  have hsz := C.out.size
  have IA : Hid ((Try.prog.info? 31).map (·.size) = some (T.cells h).length) := Lib.hid (by rw [List.size_toArray] at hsz; rw [hsz]; exact infoT)
  have ON : Hid (∀ W, Below w.heap.size w W → Calls Try.prog 19 #[.agg (T.cells h).toArray] W fun e w' => e = .returned (.int .i64 (onS T : Nat)) ∧ Below W.heap.size W w') := Lib.hid (fun W hb => on_any T h W (ht.below hb))
  have L8 := Lib.hid ht.ph
  have S0 := Lib.hid (St.box (cs := (T.cells h).toArray) ht)
  have RS : Hid (clearS T = mosts ((SetM.list (onS T : Nat)).map (clr T))) := Lib.hid rfl
  generalize clearS T = r at RS ⊢
  generalize ((onS T : Nat) : Int) = os at RS ON
  obtain ⟨i0, hi, hz0, hz1, hz2⟩ := info_parts info3
  clear ht
  generalize T.cells h = c at *
  go_enter Try.func90, Try.ntmps90
  go_upto_region 1 with fail
  generalize w.alloc (.cells c.toArray 31) = w1 at S0 ⊢
  clear hsz
  have LT : Hid (Lies w1 ⟨w.heap.size, 0, none⟩ c) := Lib.hid (by have := Row.lies_of_block S0.out.blk; simpa using this)
  go_wp2_with (refine Row.wpList_load_g 31 _ rfl (by first | rfl | go_simp) ⟨w.heap.size, 0, none⟩ rfl c _ LT.out Try.underlying31 rfl IA.out ?_)
  refine (ON.out _ S0.out.bel).mono ?_
  rintro e w2 ⟨rfl, hb⟩
  have S2 := Lib.hid (S0.out.step hb)
  clear hb S0 LT ON IA
  go_wp2_with fail
  refine (rlist_any os _).mono ?_
  rintro e w3 ⟨v0, rfl, hown, hb⟩
  have S3 := Lib.hid (S2.out.step hb)
  obtain ⟨sa, sc, rfl, hrow⟩ := row_of hown
  have HR := Lib.hid hrow
  have hl8 := SetM.list_len os
  have BD := Lib.hid (SetM.list_bd os)
  clear hown hrow hb S2
  generalize SetM.list os = M at RS HR hl8 BD ⊢
  go_wp2_with fail
  go_loopw [3, 10] (fun v i wr => ∃ q : Nat, q ≤ M.length ∧ i = .int .i64 q ∧ OwnsI w3.heap.size wr v ((M.take q).map (clr T)) ∧ Below w3.heap.size w3 wr) (fun _ i _ => M.length - (intOf i).toNat)
  case atStart => exact ⟨0, by omega, rfl, Owns.nil, Below.refl _ _⟩
  case round =>
    obtain ⟨q, hq, rfl, hown, hbel⟩ := hrel
    have HO := Lib.hid hown
    have HB := Lib.hid hbel
    clear hown hbel
    by_cases hlt : q < M.length
    · obtain ⟨x, hx, hc⟩ := (HR.out.below HB.out).cells hlt
      obtain rfl : sa = some x := hx
      have c0 := hc q hlt
      have hmem : M.getD q 0 ∈ M := by rw [List.getD_eq_getElem?_getD, List.getElem?_eq_getElem hlt]; exact List.getElem_mem hlt
      have hbd := BD.out _ hmem
      have MS : Hid ((M.take (q + 1)).map (clr T) = (M.take q).map (clr T) ++ [clr T (M.getD q 0)]) := Lib.hid (by rw [RefS.take_succ M q hlt, List.map_append]; rfl)
      clear hc hmem
      generalize M.getD q 0 = p at c0 hbd MS
      obtain ⟨p0, p8⟩ := hbd
      obtain ⟨k, rfl⟩ := Int.eq_ofNat_of_zero_le p0
      have hk : k < 8 := by omega
      have hv : T.phases[k]? = some (phAt T k) := by
        unfold phAt
        rw [Int.toNat_natCast, List.getD_eq_getElem?_getD, List.getElem?_eq_getElem (by rw [L8.out]; exact hk)]; rfl
      have CL : Hid (clr T k = sums [(phAt T k).yellow, (phAt T k).red]) := Lib.hid rfl
      generalize phAt T k = u at hv CL
      obtain ⟨y, hy, hcc⟩ := (phases_in (S3.out.step HB.out).blk C.out L8.out).at hv
      obtain rfl := Option.some.inj hy
      have d6 : wr.cell? ⟨w.heap.size, k * 13 + 6, none⟩ = some (I u.yellow) := by have := hcc 6 _ rfl; rwa [Addr.add_mid, Nat.zero_add, Addr.add_mid] at this
      have d7 : wr.cell? ⟨w.heap.size, k * 13 + 7, none⟩ = some (I u.red) := by have := hcc 7 _ rfl; rwa [Addr.add_mid, Nat.zero_add, Addr.add_mid] at this
      have hl3 : w.heap.size < w3.heap.size := (Array.getElem?_eq_some_iff.1 S3.out.blk).1
      have CY : Hid (∀ w', Below w3.heap.size wr w' → w'.cell? ⟨w.heap.size, k * 13 + 6, none⟩ = some (I u.yellow)) := Lib.hid (fun w' hb => (hb.cell (show w.heap.size < _ from hl3)).trans d6)
      have CR : Hid (∀ w', Below w3.heap.size wr w' → w'.cell? ⟨w.heap.size, k * 13 + 7, none⟩ = some (I u.red)) := Lib.hid (fun w' hb => (hb.cell (show w.heap.size < _ from hl3)).trans d7)
      clear hv hcc hy d6 d7
      have hwr := HB.out.size
      have hlen : ((M.take q).map (clr T)).length ≤ 8 := by rw [List.length_map, List.length_take]; omega
      go_upto_region 5 with fail
      refine wp_region_held (S := fun w' => Below w3.heap.size wr w') (by kernel_rfl) ?_
      have hO : OwnsI w3.heap.size { wr with drawn := wr.drawn + 1 } u3 ((M.take q).map (clr T)) := HO.out
      have hS : Below w3.heap.size wr { wr with drawn := wr.drawn + 1 } := (Below.refl _ _).drew
      have hv3 : w3.heap.size ≤ ({ wr with drawn := wr.drawn + 1 } : World).heap.size := hwr
      generalize ({ wr with drawn := wr.drawn + 1 } : World) = v at hS hO hv3 ⊢
      generalize (M.take q).map (clr T) = P1 at hO hlen MS HO
      refine Held.take (i := 0) (some 14) rfl (v := ?_) rfl (by kernel_rfl) (by kernel_rfl) (by kernel_rfl) (fun _ _ _ h => h) (Or.inl ⟨by rfl, ?_⟩) hS ?_
      rotate_left
      · intro w' hw'
        have c6 := CY.out w' hw'
        have c7 := CR.out w' hw'
        go_simp
        try with_reducible rfl
      (try dsimp only [Act.put]); (try simp only [List.setIfInBounds_toArray, List.set_cons_zero, List.set_cons_succ])
      refine Held.take (i := 1) (some 15) rfl (v := ?_) rfl (by kernel_rfl) (by kernel_rfl) (by kernel_rfl) (fun _ _ _ h => h) (Or.inl ⟨by rfl, ?_⟩) hS ?_
      rotate_left
      · intro w' hw'
        have c6 := CY.out w' hw'
        have c7 := CR.out w' hw'
        go_simp
        try with_reducible rfl
      (try dsimp only [Act.put]); (try simp only [List.setIfInBounds_toArray, List.set_cons_zero, List.set_cons_succ])
      refine Held.take (i := 2) (some 16) rfl (v := ?_) rfl (by kernel_rfl) (by kernel_rfl) (by kernel_rfl) (fun _ _ _ h => h) (Or.inl ⟨by rfl, ?_⟩) hS ?_
      rotate_left
      · intro w' hw'
        have c6 := CY.out w' hw'
        have c7 := CR.out w' hw'
        go_simp
        try with_reducible rfl
      (try dsimp only [Act.put]); (try simp only [List.setIfInBounds_toArray, List.set_cons_zero, List.set_cons_succ])
      refine Held.take (i := 3) (some 17) rfl (v := ?_) rfl (by kernel_rfl) (by kernel_rfl) (by kernel_rfl) (fun _ _ _ h => h) (Or.inl ⟨by rfl, ?_⟩) hS ?_
      rotate_left
      · intro w' hw'
        have c6 := CY.out w' hw'
        have c7 := CR.out w' hw'
        go_simp
        try with_reducible rfl
      (try dsimp only [Act.put]); (try simp only [List.setIfInBounds_toArray, List.set_cons_zero, List.set_cons_succ])
      refine Held.take (i := 4) (some 18) rfl (v := ?_) rfl (by kernel_rfl) (by kernel_rfl) (by kernel_rfl) (fun _ _ _ h => h) (Or.inl ⟨by rfl, ?_⟩) hS ?_
      rotate_left
      · intro w' hw'
        have c6 := CY.out w' hw'
        have c7 := CR.out w' hw'
        go_simp
        try with_reducible rfl
      (try dsimp only [Act.put]); (try simp only [List.setIfInBounds_toArray, List.set_cons_zero, List.set_cons_succ])
      refine Held.take (i := 5) (some 19) rfl (v := ?_) rfl (by kernel_rfl) (by kernel_rfl) (by kernel_rfl) (fun _ _ _ h => h) (Or.inl ⟨by rfl, ?_⟩) hS ?_
      rotate_left
      · intro w' hw'
        have c6 := CY.out w' hw'
        have c7 := CR.out w' hw'
        go_simp
        try with_reducible rfl
      (try dsimp only [Act.put]); (try simp only [List.setIfInBounds_toArray, List.set_cons_zero, List.set_cons_succ])
      refine Held.take (i := 6) (some 20) rfl (v := ?_) rfl (by kernel_rfl) (by kernel_rfl) (by kernel_rfl) (fun _ _ _ h => h) (Or.inl ⟨by rfl, ?_⟩) hS ?_
      rotate_left
      · intro w' hw'
        have c6 := CY.out w' hw'
        have c7 := CR.out w' hw'
        go_simp
        try with_reducible rfl
      (try dsimp only [Act.put]); (try simp only [List.setIfInBounds_toArray, List.set_cons_zero, List.set_cons_succ])
      refine Held.take (i := 7) (some 21) rfl (v := ?_) rfl (by kernel_rfl) (by kernel_rfl) (by kernel_rfl) (fun _ _ _ h => h) (Or.inl ⟨by rfl, ?_⟩) hS ?_
      rotate_left
      · intro w' hw'
        have c6 := CY.out w' hw'
        have c7 := CR.out w' hw'
        go_simp
        try with_reducible rfl
      (try dsimp only [Act.put]); (try simp only [List.setIfInBounds_toArray, List.set_cons_zero, List.set_cons_succ])
      refine Held.take (i := 8) (some 22) rfl (v := ?_) rfl (by kernel_rfl) (by kernel_rfl) (by kernel_rfl) (fun _ _ _ h => h) (Or.inl ⟨by rfl, ?_⟩) hS ?_
      rotate_left
      · intro w' hw'
        have c6 := CY.out w' hw'
        have c7 := CR.out w' hw'
        go_simp
        try with_reducible rfl
      (try dsimp only [Act.put]); (try simp only [List.setIfInBounds_toArray, List.set_cons_zero, List.set_cons_succ])
      refine Held.take (i := 9) (some 23) rfl (v := ?_) rfl (by kernel_rfl) (by kernel_rfl) (by kernel_rfl) (fun _ _ _ h => h) (Or.inl ⟨by rfl, ?_⟩) hS ?_
      rotate_left
      · intro w' hw'
        have c6 := CY.out w' hw'
        have c7 := CR.out w' hw'
        go_simp
        try with_reducible rfl
      (try dsimp only [Act.put]); (try simp only [List.setIfInBounds_toArray, List.set_cons_zero, List.set_cons_succ])
      refine Held.take (i := 10) (some 24) rfl (v := ?_) rfl (by kernel_rfl) (by kernel_rfl) (by kernel_rfl) (fun _ _ _ h => h) (Or.inl ⟨by rfl, ?_⟩) hS ?_
      rotate_left
      · intro w' hw'
        have c6 := CY.out w' hw'
        have c7 := CR.out w' hw'
        go_simp
        try with_reducible rfl
      (try dsimp only [Act.put]); (try simp only [List.setIfInBounds_toArray, List.set_cons_zero, List.set_cons_succ])
      clear CY CR
      refine wpAnyH_ready (rs := [11]) (by kernel_rfl) (by simp) (AllReadyH.cons rfl (fun K hK => ?_) AllReadyH.nil)
      go_simp
      have r1 : Hid (IntRow (v.alloc (.cells #[I u.yellow, I u.red] 3)) ⟨some ⟨v.heap.size, 0, none⟩, 2⟩ [u.yellow, u.red]) := Lib.hid (row_new v 3 [u.yellow, u.red] 2 rfl (by decide) _ rfl)
      have o1 := hO.below ((Below.refl v.heap.size v).alloc (Nat.le_refl _) (.cells #[I u.yellow, I u.red] 3))
      have s1 := hS.alloc hv3 (.cells #[I u.yellow, I u.red] 3)
      have z1 : (v.alloc (.cells #[I u.yellow, I u.red] 3)).heap.size = v.heap.size + 1 := by simp
      have v1 : w3.heap.size ≤ (v.alloc (.cells #[I u.yellow, I u.red] 3)).heap.size := by rw [z1]; omega
      clear hS hO z1
      generalize v.heap.size = b1 at r1 ⊢
      generalize World.alloc v _ = v at r1 o1 s1 v1 ⊢
      refine hK.out _ _ s1 (fun hS => ?_)
      clear hK K s1
      refine wpAnyH_ready (rs := [12]) (by kernel_rfl) (by simp) (AllReadyH.cons rfl (fun K hK => ?_) AllReadyH.nil)
      go_simp
      refine (sum_len (some ⟨b1, 0, none⟩) 2 [u.yellow, u.red] 2 rfl _ r1.out).mono ?_
      rintro e w' ⟨rfl, hq⟩
      subst w'
      rw [← CL.out]
      go_simp
      refine hK.out _ _ hS (fun hS => ?_)
      clear hK K r1
      generalize clr T ((k : Nat) : Int) = z at MS ⊢
      refine wpAnyH_ready (rs := [13]) (by kernel_rfl) (by simp) (AllReadyH.cons rfl (fun K hK => ?_) AllReadyH.nil)
      go_simp
      have c1 : (v.alloc (.cells #[I z] 3)).cell? ⟨v.heap.size, 0, none⟩ = some (I z) := by rw [cell_of_row _ _ _ _ _ _ (heap_alloc_new v _)]; rfl
      have o2 := o1.below ((Below.refl v.heap.size v).alloc (Nat.le_refl _) (.cells #[I z] 3))
      have s2 := hS.alloc v1 (.cells #[I z] 3)
      have z2 : (v.alloc (.cells #[I z] 3)).heap.size = v.heap.size + 1 := by simp
      have v2 : w3.heap.size ≤ (v.alloc (.cells #[I z] 3)).heap.size := by rw [z2]; omega
      clear hS o1 v1 z2
      generalize v.heap.size = b2 at c1 ⊢
      generalize World.alloc v _ = v at c1 o2 s2 v2 ⊢
      refine hK.out _ _ s2 (fun hS => ?_)
      clear hK K s2
      refine wpAnyH_ready (rs := [14]) (by kernel_rfl) (by simp) (AllReadyH.cons rfl (fun K hK => ?_) AllReadyH.nil)
      rw [if_pos (by rfl)]
      refine wp_append_own _ _ _ _ rfl w3.heap.size 3 i0 (.int .i64 0) 1 8 Try.underlying39 hi hz0 hz1 hz2 rfl (by decide) u3 P1.length _ rfl o2 ⟨b2, 0, none⟩ 1 1 [I z] rfl rfl ?c1 ?c2 ?c3 ?c4 v2 ?_
      case c1 =>
        intro j e hj
        match j, hj with
        | 0, hj => simp at hj; subst hj; rw [Tab.add_zero]; exact c1
      case c2 => intro e he; simp at he; subst he; rfl
      case c3 => unfold maxLen; omega
      case c4 => omega
      intro v' w5 hown' hgrow hnil'
      have s3 : Below w3.heap.size wr w5 := hS.grown hgrow (by omega) (fun m hm => (show OwnsI w3.heap.size v u3 P1 from o2).blk m hm)
      have HO2 : Hid (OwnsI w3.heap.size w5 v' (P1 ++ [z])) := Lib.hid (Owns.snoc hown')
      clear hown' hgrow hnil' hS o2 c1 v2
      refine hK.out _ _ s3 (fun hS => ?_)
      clear hK K s3
      refine Held.take (i := 15) (some 3) rfl (v := ?_) rfl (by kernel_rfl) (by kernel_rfl) (by kernel_rfl) (fun _ _ _ h => h) (Or.inl ⟨by rfl, ?_⟩) hS ?_
      rotate_left
      · intro w' hw'
        go_simp
        try with_reducible rfl
      (try dsimp only [Act.put]); (try simp only [List.setIfInBounds_toArray, List.set_cons_zero, List.set_cons_succ])
      refine wpAnyH_done (by kernel_rfl) ?_ _
      have HB2 := Lib.hid (HB.out.trans hS)
      clear hS
      go_wp2
      go_roundw
      case rel => exact ⟨q + 1, by omega, by go_num, by rw [MS.out]; exact HO2.out, HB2.out⟩
      case measure => simp [intOf]; omega
    · have HE : Hid ((M.take q).map (clr T) = M.map (clr T)) := Lib.hid (by rw [List.take_of_length_le (by omega)])
      obtain ⟨⟨ea, ec⟩, hs, hrow⟩ := HO.out.row (enc := fun n => [I n]) (fun _ => rfl)
      rw [HE.out] at hs hrow
      have HRR := Lib.hid hrow
      have HF : Hid (Below w.heap.size w wr) := Lib.hid ((S3.out.step HB.out).bel)
      clear hrow HE
      subst hs
      generalize M.map (clr T) = P2 at RS HRR ⊢
      rw [show (Sl.val ⟨ea, ec⟩ P2.length) = .slice ea P2.length ec from rfl]
      go_wp2_with fail
      refine (most_row ea ec P2 _ HRR.out).mono ?_
      rintro e w' ⟨rfl, rfl⟩
      rw [← RS.out]
      go_wp2
      go_ret
      exact ⟨rfl, HF.out⟩
end Go.Proofs.Ytneaomdgjlmleaa.Clear
