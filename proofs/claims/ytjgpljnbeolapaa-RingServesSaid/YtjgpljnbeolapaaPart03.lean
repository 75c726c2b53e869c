/- 13 texts in one file, in build order. -/
import Derived.Test.YtjgpljnbeolapaaRows
import Derived.Test.YtjgpljnbeolapaaPart02
import Derived.Test.YtjgpljnbeolapaaPart01
import Derived.WalkKit
import Derived.ProofKit
import Derived.IntWalk
import Derived.Lib.Hide
import Derived.LoopTactic
import Derived.Below
import Derived.Deep.Cut
import Derived.WalkMore
import Derived.Great.BuildSlice
import Derived.StillTailTactics
import Derived.Laws.ResultCell
import Derived.Laws.Rows
import Derived.RangeFuncNested
import Derived.RangeFuncBound
import Derived.RangeFuncCalls
import Derived.RangeFuncLeaves
import Derived.RangeFuncBox
import Derived.Shelf.Abstract
import Derived.Shelf.RegionOpen
import Derived.OwnWalkIn
import Derived.TacticsInMore
import Derived.LoopNIn
import Derived.LoopIn
import Derived.Maps.AppendAt
import Derived.BigQuiet
set_option linter.unusedVariables false
set_option linter.unusedSimpArgs false
set_option linter.unusedSectionVars false
set_option maxHeartbeats 8000000
set_option maxRecDepth 100000
namespace Go.Proofs.Ytjgpljnbeolapaa
namespace Clear
open Go.ChangeShapes Go.WideShapes Go.ChangeAt Go.RowKit
open Tab Gath RefS OnS RefC
open May (St phases_in infoP infoT row_new)
def phAt (T : Tab) (p : Int) : Ph := T.phases.getD p.toNat default
def clr (T : Tab) (p : Int) : Int := sums [(phAt T p).yellow, (phAt T p).red]
def clearS (T : Tab) : Int := mosts ((SetM.list (onS T : Nat)).map (clr T))
theorem sum_len (a : Option Addr) (cap : Nat) (L : List Int) (n : Nat) (hn : L.length = n) (w : World) (h : IntRow w ⟨a, cap⟩ L) :
    Calls Try.prog 53 #[.slice a n cap] w fun e w' => e = .returned (.int .i64 (sums L)) ∧ w = w' := by
  subst hn; exact sum_row a cap L w h
theorem clear_any (T : Tab) (h : Hd) (w : World) (ht : IsTab w h T) :
    Calls Try.prog 77 #[.agg (T.cells h).toArray] w fun e w' => e = .returned (.int .i64 (clearS T)) ∧ Below w.heap.size w w' := by
  have C := Lib.hid (cells_ok ht)
  have hsz := C.out.size
  have IA : Hid ((Try.prog.info? 32).map (·.size) = some (T.cells h).length) := Lib.hid (by rw [List.size_toArray] at hsz; rw [hsz]; exact infoT)
  have ON : Hid (∀ W, Below w.heap.size w W → Calls Try.prog 21 #[.agg (T.cells h).toArray] W fun e w' => e = .returned (.int .i64 (onS T : Nat)) ∧ Below W.heap.size W w') := Lib.hid (fun W hb => on_any T h W (ht.below hb))
  have L8 := Lib.hid ht.ph
  have S0 := Lib.hid (St.box (cs := (T.cells h).toArray) ht)
  have RS : Hid (clearS T = mosts ((SetM.list (onS T : Nat)).map (clr T))) := Lib.hid rfl
  generalize clearS T = r at RS ⊢
  generalize ((onS T : Nat) : Int) = os at RS ON
  obtain ⟨i0, hi, hz0, hz1, hz2⟩ := info_parts info3
  clear ht
  generalize T.cells h = c at *
  go_enter Try.func77, Try.ntmps77
  go_upto_region 1 with fail
  generalize w.alloc (.cells c.toArray 32) = w1 at S0 ⊢
  clear hsz
  have LT : Hid (Lies w1 ⟨w.heap.size, 0, none⟩ c) := Lib.hid (by have := Row.lies_of_block S0.out.blk; simpa using this)
  go_wp2_with (refine Row.wpList_load_g 32 _ rfl (by first | rfl | go_simp) ⟨w.heap.size, 0, none⟩ rfl c _ LT.out Try.underlying32 rfl IA.out ?_)
  refine (ON.out _ S0.out.bel).mono ?_
  rintro e w2 ⟨rfl, hb⟩
  have S2 := Lib.hid (S0.out.step hb)
  clear hb S0 LT ON IA
  go_wp2_with fail
  refine (rlist_any os _).mono ?_
  rintro e w3 ⟨v0, rfl, hown, hb⟩
  have S3 := Lib.hid (S2.out.step hb)
  obtain ⟨sa, sc, rfl, hrow⟩ := row_of hown
  have HR := Lib.hid hrow
  have hl8 := SetM.list_len os
  have BD := Lib.hid (SetM.list_bd os)
  clear hown hrow hb S2
  generalize SetM.list os = M at RS HR hl8 BD ⊢
  go_wp2_with fail
  go_loopw [3, 10] (fun v i wr => ∃ q : Nat, q ≤ M.length ∧ i = .int .i64 q ∧ OwnsI w3.heap.size wr v ((M.take q).map (clr T)) ∧ Below w3.heap.size w3 wr) (fun _ i _ => M.length - (intOf i).toNat)
  case atStart => exact ⟨0, by omega, rfl, Owns.nil, Below.refl _ _⟩
  case round =>
    obtain ⟨q, hq, rfl, hown, hbel⟩ := hrel
    have HO := Lib.hid hown
    have HB := Lib.hid hbel
    clear hown hbel
    by_cases hlt : q < M.length
    · obtain ⟨x, hx, hc⟩ := (HR.out.below HB.out).cells hlt
      obtain rfl : sa = some x := hx
      have c0 := hc q hlt
      have hmem : M.getD q 0 ∈ M := by rw [List.getD_eq_getElem?_getD, List.getElem?_eq_getElem hlt]; exact List.getElem_mem hlt
      have hbd := BD.out _ hmem
      have MS : Hid ((M.take (q + 1)).map (clr T) = (M.take q).map (clr T) ++ [clr T (M.getD q 0)]) := Lib.hid (by rw [RefS.take_succ M q hlt, List.map_append]; rfl)
      clear hc hmem
      generalize M.getD q 0 = p at c0 hbd MS
      obtain ⟨p0, p8⟩ := hbd
      obtain ⟨k, rfl⟩ := Int.eq_ofNat_of_zero_le p0
      have hk : k < 8 := by omega
      have hv : T.phases[k]? = some (phAt T k) := by
        unfold phAt
        rw [Int.toNat_natCast, List.getD_eq_getElem?_getD, List.getElem?_eq_getElem (by rw [L8.out]; exact hk)]; rfl
      have CL : Hid (clr T k = sums [(phAt T k).yellow, (phAt T k).red]) := Lib.hid rfl
      generalize phAt T k = u at hv CL
      obtain ⟨y, hy, hcc⟩ := (phases_in (S3.out.step HB.out).blk C.out L8.out).at hv
      obtain rfl := Option.some.inj hy
      have d6 : wr.cell? ⟨w.heap.size, k * 13 + 6, none⟩ = some (I u.yellow) := by have := hcc 6 _ rfl; rwa [Addr.add_mid, Nat.zero_add, Addr.add_mid] at this
      have d7 : wr.cell? ⟨w.heap.size, k * 13 + 7, none⟩ = some (I u.red) := by have := hcc 7 _ rfl; rwa [Addr.add_mid, Nat.zero_add, Addr.add_mid] at this
      have hl3 : w.heap.size < w3.heap.size := (Array.getElem?_eq_some_iff.1 S3.out.blk).1
      have CY : Hid (∀ w', Below w3.heap.size wr w' → w'.cell? ⟨w.heap.size, k * 13 + 6, none⟩ = some (I u.yellow)) := Lib.hid (fun w' hb => (hb.cell (show w.heap.size < _ from hl3)).trans d6)
      have CR : Hid (∀ w', Below w3.heap.size wr w' → w'.cell? ⟨w.heap.size, k * 13 + 7, none⟩ = some (I u.red)) := Lib.hid (fun w' hb => (hb.cell (show w.heap.size < _ from hl3)).trans d7)
      clear hv hcc hy d6 d7
      have hwr := HB.out.size
      have hlen : ((M.take q).map (clr T)).length ≤ 8 := by rw [List.length_map, List.length_take]; omega
      go_upto_region 5 with fail
      refine wp_region_held (S := fun w' => Below w3.heap.size wr w') (by kernel_rfl) ?_
      have hO : OwnsI w3.heap.size { wr with drawn := wr.drawn + 1 } u3 ((M.take q).map (clr T)) := HO.out
      have hS : Below w3.heap.size wr { wr with drawn := wr.drawn + 1 } := (Below.refl _ _).drew
      have hv3 : w3.heap.size ≤ ({ wr with drawn := wr.drawn + 1 } : World).heap.size := hwr
      generalize ({ wr with drawn := wr.drawn + 1 } : World) = v at hS hO hv3 ⊢
      generalize (M.take q).map (clr T) = P1 at hO hlen MS HO
      refine Held.take (i := 0) (some 14) rfl (v := ?_) rfl (by kernel_rfl) (by kernel_rfl) (by kernel_rfl) (fun _ _ _ h => h) (Or.inl ⟨by rfl, ?_⟩) hS ?_
      rotate_left
      · intro w' hw'
        have c6 := CY.out w' hw'
        have c7 := CR.out w' hw'
        go_simp
        try with_reducible rfl
      (try dsimp only [Act.put]); (try simp only [List.setIfInBounds_toArray, List.set_cons_zero, List.set_cons_succ])
      refine Held.take (i := 1) (some 15) rfl (v := ?_) rfl (by kernel_rfl) (by kernel_rfl) (by kernel_rfl) (fun _ _ _ h => h) (Or.inl ⟨by rfl, ?_⟩) hS ?_
      rotate_left
      · intro w' hw'
        have c6 := CY.out w' hw'
        have c7 := CR.out w' hw'
        go_simp
        try with_reducible rfl
      (try dsimp only [Act.put]); (try simp only [List.setIfInBounds_toArray, List.set_cons_zero, List.set_cons_succ])
      refine Held.take (i := 2) (some 16) rfl (v := ?_) rfl (by kernel_rfl) (by kernel_rfl) (by kernel_rfl) (fun _ _ _ h => h) (Or.inl ⟨by rfl, ?_⟩) hS ?_
      rotate_left
      · intro w' hw'
        have c6 := CY.out w' hw'
        have c7 := CR.out w' hw'
        go_simp
        try with_reducible rfl
      (try dsimp only [Act.put]); (try simp only [List.setIfInBounds_toArray, List.set_cons_zero, List.set_cons_succ])
      refine Held.take (i := 3) (some 17) rfl (v := ?_) rfl (by kernel_rfl) (by kernel_rfl) (by kernel_rfl) (fun _ _ _ h => h) (Or.inl ⟨by rfl, ?_⟩) hS ?_
      rotate_left
      · intro w' hw'
        have c6 := CY.out w' hw'
        have c7 := CR.out w' hw'
        go_simp
        try with_reducible rfl
      (try dsimp only [Act.put]); (try simp only [List.setIfInBounds_toArray, List.set_cons_zero, List.set_cons_succ])
      refine Held.take (i := 4) (some 18) rfl (v := ?_) rfl (by kernel_rfl) (by kernel_rfl) (by kernel_rfl) (fun _ _ _ h => h) (Or.inl ⟨by rfl, ?_⟩) hS ?_
      rotate_left
      · intro w' hw'
        have c6 := CY.out w' hw'
        have c7 := CR.out w' hw'
        go_simp
        try with_reducible rfl
      (try dsimp only [Act.put]); (try simp only [List.setIfInBounds_toArray, List.set_cons_zero, List.set_cons_succ])
      refine Held.take (i := 5) (some 19) rfl (v := ?_) rfl (by kernel_rfl) (by kernel_rfl) (by kernel_rfl) (fun _ _ _ h => h) (Or.inl ⟨by rfl, ?_⟩) hS ?_
      rotate_left
      · intro w' hw'
        have c6 := CY.out w' hw'
        have c7 := CR.out w' hw'
        go_simp
        try with_reducible rfl
      (try dsimp only [Act.put]); (try simp only [List.setIfInBounds_toArray, List.set_cons_zero, List.set_cons_succ])
      refine Held.take (i := 6) (some 20) rfl (v := ?_) rfl (by kernel_rfl) (by kernel_rfl) (by kernel_rfl) (fun _ _ _ h => h) (Or.inl ⟨by rfl, ?_⟩) hS ?_
      rotate_left
      · intro w' hw'
        have c6 := CY.out w' hw'
        have c7 := CR.out w' hw'
        go_simp
        try with_reducible rfl
      (try dsimp only [Act.put]); (try simp only [List.setIfInBounds_toArray, List.set_cons_zero, List.set_cons_succ])
      refine Held.take (i := 7) (some 21) rfl (v := ?_) rfl (by kernel_rfl) (by kernel_rfl) (by kernel_rfl) (fun _ _ _ h => h) (Or.inl ⟨by rfl, ?_⟩) hS ?_
      rotate_left
      · intro w' hw'
        have c6 := CY.out w' hw'
        have c7 := CR.out w' hw'
        go_simp
        try with_reducible rfl
      (try dsimp only [Act.put]); (try simp only [List.setIfInBounds_toArray, List.set_cons_zero, List.set_cons_succ])
      refine Held.take (i := 8) (some 22) rfl (v := ?_) rfl (by kernel_rfl) (by kernel_rfl) (by kernel_rfl) (fun _ _ _ h => h) (Or.inl ⟨by rfl, ?_⟩) hS ?_
      rotate_left
      · intro w' hw'
        have c6 := CY.out w' hw'
        have c7 := CR.out w' hw'
        go_simp
        try with_reducible rfl
      (try dsimp only [Act.put]); (try simp only [List.setIfInBounds_toArray, List.set_cons_zero, List.set_cons_succ])
      refine Held.take (i := 9) (some 23) rfl (v := ?_) rfl (by kernel_rfl) (by kernel_rfl) (by kernel_rfl) (fun _ _ _ h => h) (Or.inl ⟨by rfl, ?_⟩) hS ?_
      rotate_left
      · intro w' hw'
        have c6 := CY.out w' hw'
        have c7 := CR.out w' hw'
        go_simp
        try with_reducible rfl
      (try dsimp only [Act.put]); (try simp only [List.setIfInBounds_toArray, List.set_cons_zero, List.set_cons_succ])
      refine Held.take (i := 10) (some 24) rfl (v := ?_) rfl (by kernel_rfl) (by kernel_rfl) (by kernel_rfl) (fun _ _ _ h => h) (Or.inl ⟨by rfl, ?_⟩) hS ?_
      rotate_left
      · intro w' hw'
        have c6 := CY.out w' hw'
        have c7 := CR.out w' hw'
        go_simp
        try with_reducible rfl
      (try dsimp only [Act.put]); (try simp only [List.setIfInBounds_toArray, List.set_cons_zero, List.set_cons_succ])
      clear CY CR
      refine wpAnyH_ready (rs := [11]) (by kernel_rfl) (by simp) (AllReadyH.cons rfl (fun K hK => ?_) AllReadyH.nil)
      go_simp
      have r1 : Hid (IntRow (v.alloc (.cells #[I u.yellow, I u.red] 3)) ⟨some ⟨v.heap.size, 0, none⟩, 2⟩ [u.yellow, u.red]) := Lib.hid (row_new v 3 [u.yellow, u.red] 2 rfl (by decide) _ rfl)
      have o1 := hO.below ((Below.refl v.heap.size v).alloc (Nat.le_refl _) (.cells #[I u.yellow, I u.red] 3))
      have s1 := hS.alloc hv3 (.cells #[I u.yellow, I u.red] 3)
      have z1 : (v.alloc (.cells #[I u.yellow, I u.red] 3)).heap.size = v.heap.size + 1 := by simp
      have v1 : w3.heap.size ≤ (v.alloc (.cells #[I u.yellow, I u.red] 3)).heap.size := by rw [z1]; omega
      clear hS hO z1
      generalize v.heap.size = b1 at r1 ⊢
      generalize World.alloc v _ = v at r1 o1 s1 v1 ⊢
      refine hK.out _ _ s1 (fun hS => ?_)
      clear hK K s1
      refine wpAnyH_ready (rs := [12]) (by kernel_rfl) (by simp) (AllReadyH.cons rfl (fun K hK => ?_) AllReadyH.nil)
      go_simp
      refine (sum_len (some ⟨b1, 0, none⟩) 2 [u.yellow, u.red] 2 rfl _ r1.out).mono ?_
      rintro e w' ⟨rfl, hq⟩
      subst w'
      rw [← CL.out]
      go_simp
      refine hK.out _ _ hS (fun hS => ?_)
      clear hK K r1
      generalize clr T ((k : Nat) : Int) = z at MS ⊢
      refine wpAnyH_ready (rs := [13]) (by kernel_rfl) (by simp) (AllReadyH.cons rfl (fun K hK => ?_) AllReadyH.nil)
      go_simp
      have c1 : (v.alloc (.cells #[I z] 3)).cell? ⟨v.heap.size, 0, none⟩ = some (I z) := by rw [cell_of_row _ _ _ _ _ _ (heap_alloc_new v _)]; rfl
      have o2 := o1.below ((Below.refl v.heap.size v).alloc (Nat.le_refl _) (.cells #[I z] 3))
      have s2 := hS.alloc v1 (.cells #[I z] 3)
      have z2 : (v.alloc (.cells #[I z] 3)).heap.size = v.heap.size + 1 := by simp
      have v2 : w3.heap.size ≤ (v.alloc (.cells #[I z] 3)).heap.size := by rw [z2]; omega
      clear hS o1 v1 z2
      generalize v.heap.size = b2 at c1 ⊢
      generalize World.alloc v _ = v at c1 o2 s2 v2 ⊢
      refine hK.out _ _ s2 (fun hS => ?_)
      clear hK K s2
      refine wpAnyH_ready (rs := [14]) (by kernel_rfl) (by simp) (AllReadyH.cons rfl (fun K hK => ?_) AllReadyH.nil)
      rw [if_pos (by rfl)]
      refine wp_append_own _ _ _ _ rfl w3.heap.size 3 i0 (.int .i64 0) 1 8 Try.underlying22 hi hz0 hz1 hz2 rfl (by decide) u3 P1.length _ rfl o2 ⟨b2, 0, none⟩ 1 1 [I z] rfl rfl ?c1 ?c2 ?c3 ?c4 v2 ?_
      case c1 =>
        intro j e hj
        match j, hj with
        | 0, hj => simp at hj; subst hj; rw [Tab.add_zero]; exact c1
      case c2 => intro e he; simp at he; subst he; rfl
      case c3 => unfold maxLen; omega
      case c4 => omega
      intro v' w5 hown' hgrow hnil'
      have s3 : Below w3.heap.size wr w5 := hS.grown hgrow (by omega) (fun m hm => (show OwnsI w3.heap.size v u3 P1 from o2).blk m hm)
      have HO2 : Hid (OwnsI w3.heap.size w5 v' (P1 ++ [z])) := Lib.hid (Owns.snoc hown')
      clear hown' hgrow hnil' hS o2 c1 v2
      refine hK.out _ _ s3 (fun hS => ?_)
      clear hK K s3
      refine Held.take (i := 15) (some 3) rfl (v := ?_) rfl (by kernel_rfl) (by kernel_rfl) (by kernel_rfl) (fun _ _ _ h => h) (Or.inl ⟨by rfl, ?_⟩) hS ?_
      rotate_left
      · intro w' hw'
        go_simp
        try with_reducible rfl
      (try dsimp only [Act.put]); (try simp only [List.setIfInBounds_toArray, List.set_cons_zero, List.set_cons_succ])
      refine wpAnyH_done (by kernel_rfl) ?_ _
      have HB2 := Lib.hid (HB.out.trans hS)
      clear hS
      go_wp2
      go_roundw
      case rel => exact ⟨q + 1, by omega, by go_num, by rw [MS.out]; exact HO2.out, HB2.out⟩
      case measure => simp [intOf]; omega
    · have HE : Hid ((M.take q).map (clr T) = M.map (clr T)) := Lib.hid (by rw [List.take_of_length_le (by omega)])
      obtain ⟨⟨ea, ec⟩, hs, hrow⟩ := HO.out.row (enc := fun n => [I n]) (fun _ => rfl)
      rw [HE.out] at hs hrow
      have HRR := Lib.hid hrow
      have HF : Hid (Below w.heap.size w wr) := Lib.hid ((S3.out.step HB.out).bel)
      clear hrow HE
      subst hs
      generalize M.map (clr T) = P2 at RS HRR ⊢
      rw [show (Sl.val ⟨ea, ec⟩ P2.length) = .slice ea P2.length ec from rfl]
      go_wp2_with fail
      refine (most_row ea ec P2 _ HRR.out).mono ?_
      rintro e w' ⟨rfl, rfl⟩
      rw [← RS.out]
      go_wp2
      go_ret
      exact ⟨rfl, HF.out⟩
end Clear
namespace Rg
open Go Go.ChangeShapes Go.WideShapes Go.ChangeAt Go.RowKit
open Tab Flat TabArg QL Ru PlanM
open ChkM (cfAt)
open PlaceM (where_ spots Spt)
open Clear (phAt)
structure Rg where
  g : Int
  a0 : Int
  a1 : Int
  cr : Bool
deriving DecidableEq
structure Ln where
  n : Int
  x : Int
  t : Int
deriving DecidableEq
def Rg.cells (r : Rg) : List Value := [I r.g, I r.a0, I r.a1, .bool r.cr]
def Ln.cells (l : Ln) : List Value := [I l.n, I l.x, I l.t]
def Rg.at (r : Rg) : Nat → Int
  | 0 => r.a0
  | _ => r.a1
def Rg.put (r : Rg) : Nat → Int → Rg
  | 0, x => ⟨r.g, x, r.a1, r.cr⟩
  | _, x => ⟨r.g, r.a0, x, r.cr⟩
def zRu : Ru := ⟨0, 0, 0, 0, 0, 0, 0, false, false, 0, 0, 0⟩
def runsC (rs : List Ru) : List Value := rs.flatMap Ru.cells
def ruAt (rs : List Ru) (p : Int) : Ru := rs.getD p.toNat zRu
/-- Package ring's tick: its cells. -/
def kC (tc : List Value) (r : Rg) (rc : List Value) (want gr bu : Int) : List Value := tc ++ (r.cells ++ (rc ++ [I want, I gr, I bu]))
section
variable {tc : List Value} {r : Rg} {rc : List Value} {want gr bu : Int} (h1 : tc.length = 131) (h2 : rc.length = 96)
include h1 h2
theorem kC_len : (kC tc r rc want gr bu).length = 234 := by simp [kC, Rg.cells, h1, h2]
theorem kC_t : ((kC tc r rc want gr bu).toArray.toList.drop 0).take tc.length = tc := by simp [kC]
theorem kC_r : ((kC tc r rc want gr bu).toArray.toList.drop 131).take r.cells.length = r.cells := by
  unfold kC
  rw [List.toList_toArray, List.drop_left' h1, List.take_left]
theorem kC_n : ((kC tc r rc want gr bu).toArray.toList.drop 135).take rc.length = rc := by
  unfold kC
  rw [List.toList_toArray, show 135 = 131 + 4 from rfl, ← List.drop_drop, List.drop_left' h1, List.drop_left' (by simp [Rg.cells]), List.take_left]
theorem kC_e : (kC tc r rc want gr bu).toArray.toList.drop 231 = [I want, I gr, I bu] := by
  unfold kC
  rw [List.toList_toArray, show 231 = 131 + (4 + 96) from rfl, ← List.drop_drop, List.drop_left' h1, ← List.drop_drop, List.drop_left' (by simp [Rg.cells]), List.drop_left' h2]
end
theorem at_drop {cs : Array Value} {k : Nat} {l : List Value} (h : cs.toList.drop k = l) (j : Nat) {v : Value} (hv : l[j]? = some v) : cs[k + j]? = some v := by
  rw [← h, List.getElem?_drop, Array.getElem?_toList] at hv
  exact hv
theorem at_take {cs : Array Value} {k : Nat} {l : List Value} (h : (cs.toList.drop k).take l.length = l) (j : Nat) {v : Value} (hv : l[j]? = some v) : cs[k + j]? = some v := by
  have hj : j < l.length := (List.getElem?_eq_some_iff.1 hv).1
  rw [← h, List.getElem?_take, if_pos hj, List.getElem?_drop, Array.getElem?_toList] at hv
  exact hv
/-- The cells of a tick that lies in a block of the call's own. -/
structure KB (u : World) (g : Nat) (tc : List Value) (r : Rg) (rc : List Value) (want gr bu : Int) : Prop where
  lt : Lies u ⟨g, 0, none⟩ tc
  lr : Lies u ⟨g, 131, none⟩ r.cells
  ln : Lies u ⟨g, 135, none⟩ rc
  rg : u.cell? ⟨g, 131, none⟩ = some (I r.g)
  r0 : u.cell? ⟨g, 132, none⟩ = some (I r.a0)
  r1 : u.cell? ⟨g, 133, none⟩ = some (I r.a1)
  rc : u.cell? ⟨g, 134, none⟩ = some (.bool r.cr)
  w : u.cell? ⟨g, 231, none⟩ = some (I want)
  gr : u.cell? ⟨g, 232, none⟩ = some (I gr)
  bu : u.cell? ⟨g, 233, none⟩ = some (I bu)
theorem kb {w u : World} {L : List Blk.Bl} (h : Blk.Bks w L u) (i : Nat) {g : Nat} {ty : TypeId} {tc : List Value} {r : Rg} {rc : List Value} {want gr bu : Int} (h1 : tc.length = 131) (h2 : rc.length = 96) (hi : L[i]? = some (g, (kC tc r rc want gr bu).toArray, ty)) : KB u g tc r rc want gr bu := by
  have e : ∀ (o j : Nat) (v : Value), (kC tc r rc want gr bu).toArray[o]? = some v → u.cell? ⟨g, o, none⟩ = some v := fun o j v hv => h.cell i o hi hv
  exact ⟨seg h i 0 hi _ (kC_t h1 h2), seg h i 131 hi _ (kC_r h1 h2), seg h i 135 hi _ (kC_n h1 h2),
    h.cell i 131 hi (at_take (kC_r h1 h2) 0 rfl), h.cell i 132 hi (at_take (kC_r h1 h2) 1 rfl), h.cell i 133 hi (at_take (kC_r h1 h2) 2 rfl), h.cell i 134 hi (at_take (kC_r h1 h2) 3 rfl),
    h.cell i 231 hi (at_drop (kC_e h1 h2) 0 rfl), h.cell i 232 hi (at_drop (kC_e h1 h2) 1 rfl), h.cell i 233 hi (at_drop (kC_e h1 h2) 2 rfl)⟩
theorem KB.cell {u : World} {g : Nat} {tc : List Value} {r : Rg} {rc : List Value} {want gr bu : Int} (h : KB u g tc r rc want gr bu) {j : Nat} {v : Value} (hj : rc[j]? = some v) : u.cell? ⟨g, 135 + j, none⟩ = some v := by
  have := h.ln j v hj
  rwa [Addr.add_mid] at this
theorem KB.tab {u : World} {g : Nat} {tc : List Value} {r : Rg} {rc : List Value} {want gr bu : Int} (h : KB u g tc r rc want gr bu) {j : Nat} {v : Value} (hj : tc[j]? = some v) : u.cell? ⟨g, j, none⟩ = some v := by
  have := h.lt j v hj
  rwa [Addr.add_mid, Nat.zero_add] at this
theorem runs_take : ∀ {l : List Ru} {q : Nat} {u : Ru}, l[q]? = some u → ((runsC l).drop (q * 12)).take 12 = u.cells
  | [], _, _, h => by simp at h
  | x :: l, 0, u, h => by
    simp at h
    subst h
    simp [runsC, Ru.cells]
  | x :: l, q + 1, u, h => by
    have := runs_take (l := l) (q := q) (by simpa using h)
    rw [show runsC (x :: l) = x.cells ++ runsC l from rfl, show (q + 1) * 12 = x.cells.length + q * 12 by simp [Ru.cells]; omega, ← List.drop_drop, List.drop_left]
    exact this
theorem runs_len : ∀ l : List Ru, (runsC l).length = l.length * 12
  | [] => rfl
  | x :: l => by
    rw [show runsC (x :: l) = x.cells ++ runsC l from rfl, List.length_append, runs_len l]
    simp [Ru.cells]; omega
theorem ru_at {rs : List Ru} (h8 : rs.length = 8) {p : Nat} (hp : p < 8) : rs[p]? = some (ruAt rs p) := by
  unfold ruAt
  rw [Int.toNat_natCast, List.getD_eq_getElem?_getD, List.getElem?_eq_getElem (by omega)]
  rfl
theorem runs_at {rs : List Ru} (h8 : rs.length = 8) {p : Nat} (hp : p < 8) {j : Nat} {v : Value} (hj : (ruAt rs p).cells[j]? = some v) : (runsC rs)[p * 12 + j]? = some v := by
  have h1 := runs_take (ru_at h8 hp)
  have hj12 : j < 12 := by have := (List.getElem?_eq_some_iff.1 hj).1; simpa [Ru.cells] using this
  rw [← h1, List.getElem?_take, if_pos hj12, List.getElem?_drop] at hj
  exact hj
theorem infoRg : (Try.prog.info? 36).map (·.size) = some 4 := by kernel_rfl
theorem infoRs : (Try.prog.info? 46).map (·.size) = some 96 := by kernel_rfl
theorem infoK : (Try.prog.info? 96).map (·.size) = some 234 := by kernel_rfl
theorem infoLn : (Try.prog.info? 99).map (·.size) = some 3 := by kernel_rfl
theorem infoL2 : (Try.prog.info? 101).map (·.size) = some 6 := by kernel_rfl
theorem one_rg (r : Rg) : r.cells.toArray.all (·.oneCell') = true := by simp [Rg.cells, Value.oneCell']
theorem one_ln (r : Ln) : r.cells.toArray.all (·.oneCell') = true := by simp [Ln.cells, Value.oneCell']
theorem one_runs : ∀ rs : List Ru, (runsC rs).toArray.all (·.oneCell') = true
  | [] => by simp [runsC]
  | x :: l => by
    have h := one_runs l
    have hx := one_ru x
    rw [show runsC (x :: l) = x.cells ++ runsC l from rfl]
    rw [List.all_toArray] at h hx ⊢
    rw [List.all_append, hx, h]; rfl
/-! The sets of the phases whose runs a rule holds for. -/
def thTo (f : Ru → Bool) : Nat → List Ru → List Int
  | _, [] => []
  | i, r :: l => (if f r then [(i : Int)] else []) ++ thTo f (i + 1) l
theorem thTo_append (f : Ru → Bool) : ∀ (i : Nat) (l m : List Ru), thTo f i (l ++ m) = thTo f i l ++ thTo f (i + l.length) m
  | i, [], m => by simp [thTo]
  | i, r :: l, m => by
    rw [List.cons_append, thTo, thTo, thTo_append f (i + 1) l m, List.append_assoc, List.length_cons, Nat.add_right_comm i 1, Nat.add_assoc i]
theorem th_step {f : Ru → Bool} {l : List Ru} {q : Nat} {r : Ru} (h : l[q]? = some r) : thTo f 0 (l.take (q + 1)) = thTo f 0 (l.take q) ++ (if f r then [(q : Int)] else []) := by
  have hq : q < l.length := (List.getElem?_eq_some_iff.1 h).1
  rw [PlaceM.take_succ h, thTo_append, List.length_take, Nat.min_eq_left (by omega), Nat.zero_add]
  simp [thTo]
def thS (f : Ru → Bool) (rs : List Ru) : Nat := SetM.of (thTo f 0 rs)
theorem th_with {f : Ru → Bool} {l : List Ru} {q : Nat} {r : Ru} (h : l[q]? = some r) (hp : f r = true) : SetM.withN (SetM.of (thTo f 0 (l.take q)) : Nat) q = SetM.of (thTo f 0 (l.take (q + 1))) := by
  rw [SetM.with_of, th_step h, hp]; rfl
theorem th_skip {f : Ru → Bool} {l : List Ru} {q : Nat} {r : Ru} (h : l[q]? = some r) (hp : f r = false) : SetM.of (thTo f 0 (l.take (q + 1))) = SetM.of (thTo f 0 (l.take q)) := by
  rw [th_step h, hp]; simp
theorem mem_thTo {f : Ru → Bool} {x : Int} : ∀ {l : List Ru} {i : Nat}, x ∈ thTo f i l ↔ ∃ j r, l[j]? = some r ∧ f r = true ∧ x = ((i + j : Nat) : Int)
  | [], i => by simp [thTo]
  | a :: l, i => by
    rw [thTo, List.mem_append, mem_thTo (l := l)]
    constructor
    · rintro (h | ⟨j, r, h1, h2, h3⟩)
      · split at h
        · rename_i ha
          simp at h
          exact ⟨0, a, rfl, ha, by simpa using h⟩
        · simp at h
      · exact ⟨j + 1, r, by simpa using h1, h2, by rw [h3]; congr 1; omega⟩
    · rintro ⟨j, r, h1, h2, h3⟩
      match j, h1, h3 with
      | 0, h1, h3 =>
        simp at h1
        subst h1
        exact .inl (by rw [if_pos h2]; simpa using h3)
      | j + 1, h1, h3 => exact .inr ⟨j, r, by simpa using h1, h2, by rw [h3]; congr 1; omega⟩
theorem th_lt (f : Ru → Bool) (rs : List Ru) : thS f rs < 256 := SetM.of_lt _
theorem th_has {f : Ru → Bool} {rs : List Ru} (h8 : rs.length = 8) (p : Int) : SetM.has (thS f rs : Nat) p = (decide (0 ≤ p ∧ p < 8) && f (ruAt rs p)) := by
  by_cases hp : 0 ≤ p ∧ p < 8
  · obtain ⟨k, rfl⟩ := Int.eq_ofNat_of_zero_le hp.1
    have hk : k < 8 := by omega
    rw [decide_eq_true hp, Bool.true_and, SetM.has_nat, SetM.low_nat _ (th_lt f rs)]
    unfold thS
    rw [SetM.of_test]
    cases e : f (ruAt rs k) with
    | true => exact decide_eq_true ⟨mem_thTo.2 ⟨k, _, ru_at h8 hk, e, by simp⟩, hk⟩
    | false =>
      refine decide_eq_false fun ⟨h, _⟩ => ?_
      obtain ⟨j, r, h1, h2, h3⟩ := mem_thTo.1 h
      obtain rfl : k = j := by omega
      rw [ru_at h8 hk] at h1
      obtain rfl := Option.some.inj h1
      rw [e] at h2; cases h2
  · rw [decide_eq_false hp]
    cases e : SetM.has (thS f rs : Nat) p with
    | true => exact absurd (has_range e) hp
    | false => rfl
def grB (r : Ru) : Bool := r.co == 1
def buB (r : Ru) : Bool := r.co == 1 || (r.co == 2 || r.co == 3)
def gS (rs : List Ru) : Int := (thS grB rs : Nat)
def bS (rs : List Ru) : Int := (thS buB rs : Nat)
/-! P19.1, P19.2, as package ring has it. -/
def nowS (T : Tab) (g : Int) (k : Nat) (a : Int) : Int := if 0 ≤ a ∧ a < ((ringAt T g k).length : Int) then SetM.first (SetM.of [(ringAt T g k).getD a.toNat 0] : Nat) else -1
def lnS (T : Tab) (r : Rg) (want : Int) (k : Nat) : Ln := ⟨nowS T r.g k (r.at k), nextS T r.g k (r.at k) want, nowS T r.g k (nextS T r.g k (r.at k) want)⟩
def begS (T : Tab) (rs : List Ru) (bu : Int) (l : Ln) : Bool := !SetM.has bu l.n && (decide (0 ≤ l.x) && (!SetM.has bu l.t && (decide (T.revert ≤ (ruAt rs l.t).tm) && decide (bits .and .i64 (cfAt T l.t) bu = 0))))
def resS (T : Tab) (rs : List Ru) (want p : Int) : Bool := (phAt T p).rest && (decide ((phAt T p).min ≤ (ruAt rs p).tm) && ((ruAt rs p).fs != 1 && ((ruAt rs p).fs != 2 && ((ruAt rs p).lf == 0 && !SetM.has want p))))
def endS (T : Tab) (rs : List Ru) (want gr : Int) (l : Ln) : Bool := SetM.has gr l.n && (((ruAt rs l.n).dn && decide (0 ≤ l.x)) || resS T rs want l.n)
def setS (rs : List Ru) (gr bu : Int) (l : Ln) : Bool := !decide (0 ≤ l.x) && (!SetM.has bu l.n || (SetM.has gr l.n && (ruAt rs l.n).dn))
def othS (want gr : Int) : Bool := decide (0 ≤ SetM.first (bits .andNot .i64 want gr))
def acrS (T : Tab) (r : Rg) (want bu : Int) : Rg := if bu = 0 then ⟨if followS T r.g want < 0 then r.g else followS T r.g want, -1, -1, false⟩ else r
def stS (b0 b1 : Bool) (t0 t1 : Int) : Int := if b1 then (SetM.withN (if b0 then (SetM.withN 0 t0 : Nat) else 0) t1 : Nat) else if b0 then (SetM.withN 0 t0 : Nat) else 0
def atS (r : Rg) (b0 b1 : Bool) (x0 x1 : Int) : Rg := ⟨r.g, if b0 then x0 else r.a0, if b1 then x1 else r.a1, r.cr⟩
structure So where
  r : Rg
  st : Int
  en : Int
deriving DecidableEq
def stepL (T : Tab) (r : Rg) (rs : List Ru) (want gr bu : Int) (l0 l1 : Ln) : So :=
  let st := stS (begS T rs bu l0) (begS T rs bu l1) l0.t l1.t
  let en := stS (endS T rs want gr l0) (endS T rs want gr l1) l0.n l1.n
  let r' := atS r (begS T rs bu l0) (begS T rs bu l1) l0.x l1.x
  if bits .or .i64 st en = 0 ∧ (setS rs gr bu l0 = true ∧ setS rs gr bu l1 = true) ∧ othS want gr = true then ⟨⟨r'.g, r'.a0, r'.a1, true⟩, st, gr⟩ else ⟨r', st, en⟩
def stepS (T : Tab) (r : Rg) (rs : List Ru) (want : Int) : So :=
  if r.cr then ⟨acrS T r want (bS rs), 0, 0⟩ else stepL T r rs want (gS rs) (bS rs) (lnS T r want 0) (lnS T r want 1)
/-- comes later beside -/
def latS (T : Tab) (r : Rg) (p q : Int) : Bool := match where_ T q with
  | some y => decide ((y.g : Int) = r.g) && (decide ((y.k : Int) ≠ (match where_ T p with | some x => (x.k : Int) | none => 0)) && decide (r.at y.k < (y.i : Int)))
  | none => false
def prsS (T : Tab) (r : Rg) (rs : List Ru) (want : Int) : Int := (SetM.of ((SetM.list (bits .and .i64 (gS rs) (OnS.onS T : Nat))).filter fun p => (SetM.list (bits .andNot .i64 want (gS rs))).any fun q => !latS T r p q) : Nat)
def putS (T : Tab) (exit : Int) : Rg := (SetM.list exit).foldl (fun r p => match where_ T p with
  | some y => if (y.g : Int) = r.g ∧ r.at y.k < 0 then r.put y.k y.i else r
  | none => r) ⟨match where_ T (SetM.first exit) with | some x => (x.g : Int) | none => 0, -1, -1, false⟩
end Rg
namespace Set
open Go.ChangeShapes Go.WideShapes Go.ChangeAt Go.RowKit
open Go.Proofs.Ytjgpljnbeolapaa
theorem ret_int {k : IntKind} {a b : Int} (h : a = b) : Ending.returned (.int k a) = .returned (.int k b) := by rw [h]
theorem ret_bool {a b : Bool} (h : a = b) : Ending.returned (.bool a) = .returned (.bool b) := by rw [h]
theorem eight {p : Int} (h : 0 ≤ p) (h' : p < 8) : p = 0 ∨ p = 1 ∨ p = 2 ∨ p = 3 ∨ p = 4 ∨ p = 5 ∨ p = 6 ∨ p = 7 := by omega
theorem bit_any (p : Int) (w : World) : Calls Try.prog 64 #[.int .i64 p] w fun e w' => e = .returned (.int .i64 (SetM.bit p)) ∧ w = w' := by
  by_cases h1 : p < 0
  · have HB := Lib.hid (SetM.bit_out (p := p) (by omega))
    go_enter Try.func64, Try.ntmps64
    go_wp2
    go_ret
    exact ⟨ret_int (by rw [HB.out]; rfl), rfl⟩
  by_cases h2 : 8 ≤ p
  · have HB := Lib.hid (SetM.bit_out (p := p) (by omega))
    go_enter Try.func64, Try.ntmps64
    go_wp2
    go_ret
    exact ⟨ret_int (by rw [HB.out]; rfl), rfl⟩
  rcases eight (p := p) (by omega) (by omega) with rfl | rfl | rfl | rfl | rfl | rfl | rfl | rfl
  all_goals
    clear h1 h2
    go_enter Try.func64, Try.ntmps64
    go_wp2
    go_ret
    exact ⟨ret_int (by decide), rfl⟩
theorem ne_has (s p : Int) : (bits .and .i64 s (SetM.bit p) != 0) = SetM.has s p := by
  have h := SetM.has_and s p
  cases hb : SetM.has s p
  · rw [h.2 hb]; rfl
  · rw [bne_iff_ne]; intro e; rw [h.1 e] at hb; cases hb
theorem has_any (s p : Int) (w : World) : Calls Try.prog 59 #[.int .i64 s, .int .i64 p] w fun e w' => e = .returned (.bool (SetM.has s p)) ∧ w = w' := by
  have HB := Lib.hid (ne_has s p)
  go_enter Try.func59, Try.ntmps59
  go_wp2_with (go_at_call 64; refine (bit_any _ _).mono ?_; rintro e w' ⟨rfl, rfl⟩)
  go_ret
  exact ⟨ret_bool HB.out, rfl⟩
theorem with_any (s p : Int) (w : World) : Calls Try.prog 43 #[.int .i64 s, .int .i64 p] w fun e w' => e = .returned (.int .i64 (SetM.withN s p)) ∧ w = w' := by
  have HB := Lib.hid (SetM.with_bits s p)
  go_enter Try.func43, Try.ntmps43
  go_wp2_with (go_at_call 64; refine (bit_any _ _).mono ?_; rintro e w' ⟨rfl, rfl⟩)
  go_ret
  exact ⟨ret_int HB.out, rfl⟩
/-! the document's own answer -/
end Set
namespace Rg
open Go Go.ChangeShapes Go.WideShapes Go.ChangeAt Go.RowKit
open Tab Flat TabArg QL Ru PlanM
open ChkM (cfAt)
open Clear (phAt)
open PlaceM (where_ spots Spt)
open May (infoP)
theorem isGreen_any (r : Ru) (w : World) : Calls Try.prog 38 #[.agg (Ru.cells r).toArray] w fun e w' => e = .returned (.bool (grB r)) ∧ Below w.heap.size w w' := by
  obtain ⟨co, hco⟩ : ∃ x, r.co = x := ⟨_, rfl⟩
  by_cases h1 : co = 1
  · subst h1
    have HE : Hid (grB r = true) := Lib.hid (by unfold grB; rw [hco]; rfl)
    have hn0 := Blk.Bks.nil w
    have hn1 := hn0.alloc (Ru.cells r).toArray 45
    clear hn0
    go_enter Try.func38, Try.ntmps38
    go_upto_region 1 with fail
    generalize World.alloc w _ = v at hn1 ⊢
    generalize hg0 : w.heap.size = gq at hn1 ⊢
    clear hg0
    have H0 := Lib.hid hn1
    clear hn1
    have c0 : v.cell? ⟨gq, 0, none⟩ = some (I r.co) := H0.out.cell 0 0 rfl rfl
    rw [hco] at c0
    go_wp2
    go_ret
    exact ⟨ret_bool (by first | exact HE.out.symm | (unfold grB; rw [hco]) | (unfold buB; rw [hco, Bool.or_assoc])), H0.out.bel⟩
  · have HE : Hid (grB r = false) := Lib.hid (by unfold grB; rw [hco]; simp [h1])
    have hn0 := Blk.Bks.nil w
    have hn1 := hn0.alloc (Ru.cells r).toArray 45
    clear hn0
    go_enter Try.func38, Try.ntmps38
    go_upto_region 1 with fail
    generalize World.alloc w _ = v at hn1 ⊢
    generalize hg0 : w.heap.size = gq at hn1 ⊢
    clear hg0
    have H0 := Lib.hid hn1
    clear hn1
    have c0 : v.cell? ⟨gq, 0, none⟩ = some (I r.co) := H0.out.cell 0 0 rfl rfl
    rw [hco] at c0
    go_wp2
    go_ret
    exact ⟨ret_bool (by first | exact HE.out.symm | (unfold grB; rw [hco]) | (unfold buB; rw [hco, Bool.or_assoc])), H0.out.bel⟩
theorem isBusy_any (r : Ru) (w : World) : Calls Try.prog 39 #[.agg (Ru.cells r).toArray] w fun e w' => e = .returned (.bool (buB r)) ∧ Below w.heap.size w w' := by
  obtain ⟨co, hco⟩ : ∃ x, r.co = x := ⟨_, rfl⟩
  by_cases h1 : co = 1
  · subst h1
    have HE : Hid (buB r = true) := Lib.hid (by unfold buB; rw [hco]; rfl)
    have hn0 := Blk.Bks.nil w
    have hn1 := hn0.alloc (Ru.cells r).toArray 45
    clear hn0
    go_enter Try.func39, Try.ntmps39
    go_upto_region 1 with fail
    generalize World.alloc w _ = v at hn1 ⊢
    generalize hg0 : w.heap.size = gq at hn1 ⊢
    clear hg0
    have H0 := Lib.hid hn1
    clear hn1
    have c0 : v.cell? ⟨gq, 0, none⟩ = some (I r.co) := H0.out.cell 0 0 rfl rfl
    rw [hco] at c0
    go_wp2
    go_ret
    exact ⟨ret_bool (by first | exact HE.out.symm | (unfold grB; rw [hco]) | (unfold buB; rw [hco, Bool.or_assoc])), H0.out.bel⟩
  by_cases h2 : co = 2
  · subst h2
    have HE : Hid (buB r = true) := Lib.hid (by unfold buB; rw [hco]; rfl)
    have hn0 := Blk.Bks.nil w
    have hn1 := hn0.alloc (Ru.cells r).toArray 45
    clear hn0
    go_enter Try.func39, Try.ntmps39
    go_upto_region 1 with fail
    generalize World.alloc w _ = v at hn1 ⊢
    generalize hg0 : w.heap.size = gq at hn1 ⊢
    clear hg0
    have H0 := Lib.hid hn1
    clear hn1
    have c0 : v.cell? ⟨gq, 0, none⟩ = some (I r.co) := H0.out.cell 0 0 rfl rfl
    rw [hco] at c0
    go_wp2
    go_ret
    exact ⟨ret_bool (by first | exact HE.out.symm | (unfold grB; rw [hco]) | (unfold buB; rw [hco, Bool.or_assoc])), H0.out.bel⟩
  by_cases h3 : co = 3
  · subst h3
    have HE : Hid (buB r = true) := Lib.hid (by unfold buB; rw [hco]; rfl)
    have hn0 := Blk.Bks.nil w
    have hn1 := hn0.alloc (Ru.cells r).toArray 45
    clear hn0
    go_enter Try.func39, Try.ntmps39
    go_upto_region 1 with fail
    generalize World.alloc w _ = v at hn1 ⊢
    generalize hg0 : w.heap.size = gq at hn1 ⊢
    clear hg0
    have H0 := Lib.hid hn1
    clear hn1
    have c0 : v.cell? ⟨gq, 0, none⟩ = some (I r.co) := H0.out.cell 0 0 rfl rfl
    rw [hco] at c0
    go_wp2
    go_ret
    exact ⟨ret_bool (by first | exact HE.out.symm | (unfold grB; rw [hco]) | (unfold buB; rw [hco, Bool.or_assoc])), H0.out.bel⟩
  · have HE : Hid (buB r = false) := Lib.hid (by unfold buB; rw [hco]; simp [h1, h2, h3])
    have hn0 := Blk.Bks.nil w
    have hn1 := hn0.alloc (Ru.cells r).toArray 45
    clear hn0
    go_enter Try.func39, Try.ntmps39
    go_upto_region 1 with fail
    generalize World.alloc w _ = v at hn1 ⊢
    generalize hg0 : w.heap.size = gq at hn1 ⊢
    clear hg0
    have H0 := Lib.hid hn1
    clear hn1
    have c0 : v.cell? ⟨gq, 0, none⟩ = some (I r.co) := H0.out.cell 0 0 rfl rfl
    rw [hco] at c0
    go_wp2
    go_ret
    exact ⟨ret_bool (by first | exact HE.out.symm | (unfold grB; rw [hco]) | (unfold buB; rw [hco, Bool.or_assoc])), H0.out.bel⟩
theorem cellsR : Try.prog.cellsOf 45 = 12 := by kernel_rfl
theorem rowR : Flat.rowT Try.prog 45 = true := by kernel_rfl
theorem infoRz : ∃ i, Try.prog.info? 45 = some i ∧ i.size = 12 := by
  have h : (Try.prog.info? 45).map (·.size) = some 12 := infoRu
  cases e : Try.prog.info? 45 with
  | none => rw [e] at h; cases h
  | some i => rw [e] at h; exact ⟨i, rfl, Option.some.inj h⟩
theorem ret_int {k : IntKind} {a b : Int} (h : a = b) : Ending.returned (.int k a) = .returned (.int k b) := by rw [h]
theorem idx_run {l : List Ru} {q : Nat} {u : Ru} (hl : l.length = 8) (hu : l[q]? = some u) (w : World) :
    Sem.run Try.prog (Instr.index 46 (.agg (runsC l).toArray) (.int .i64 q)) w = .ok (.agg u.cells.toArray) w := by
  have hq : q < l.length := (List.getElem?_eq_some_iff.1 hu).1
  obtain ⟨i, hi, hs⟩ := infoRz
  have hp := Flat.run_part (P := Try.prog) w (t := 45) (d := _) Try.underlying45 (by rw [rowR]; simp) (runsC l) (q * 12) (by rw [cellsR, runs_len]; omega)
  rw [cellsR, Flat.vOf, if_pos rowR, runs_take hu] at hp
  unfold Instr.index
  have hc : 0 ≤ (q : Int) ∧ (q : Int) < 8 := by omega
  simp [run_underlying Try.underlying46, asIntOf]
  rw [if_pos (by omega)]
  first | exact hp | (rw [cellsR]; exact hp)
theorem those_any (F : FuncId) (fb : Ru → Bool) (hE : ∀ args W, Sem.run Try.prog (callFunc F args) W = .ok (.enter F args) W) (hF : ∀ u W, Calls Try.prog F #[.agg (Ru.cells u).toArray] W fun e w' => e = .returned (.bool (fb u)) ∧ Below W.heap.size W w') (rs : List Ru) (h8 : rs.length = 8) (w : World) : Calls Try.prog 37 #[.agg (runsC rs).toArray, .func (.func F) #[] #[]] w fun e w' => e = .returned (.int .i64 (thS fb rs : Nat)) ∧ Below w.heap.size w w' := by
  have RS : Hid (((thS fb rs : Nat) : Int) = (SetM.of (thTo fb 0 (rs.take 8)) : Nat)) := Lib.hid (by rw [List.take_of_length_le (by omega)]; rfl)
  have IX : Hid (∀ (q : Nat) u, rs[q]? = some u → ∀ W, Sem.run Try.prog (Instr.index 46 (.agg (runsC rs).toArray) (.int .i64 q)) W = .ok (.agg u.cells.toArray) W) := Lib.hid (fun q u hu W => idx_run h8 hu W)
  have LI : Hid ((Try.prog.info? 46).map (·.size) = some (runsC rs).length) := Lib.hid (by rw [runs_len, h8]; exact infoRs)
  have hs0 : (runsC rs).length = 96 := by rw [runs_len, h8]
  have HEH := Lib.hid hE
  have HFH := Lib.hid hF
  have L8 := Lib.hid h8
  generalize hrs : ((thS fb rs : Nat) : Int) = res at RS ⊢
  clear hE hF hrs
  generalize hrc : runsC rs = fl at *
  clear hrc h8
  have hn0 := Blk.Bks.nil w
  have hn1 := hn0.alloc fl.toArray 46
  clear hn0
  go_enter Try.func37, Try.ntmps37
  go_upto_region 2 with fail
  generalize World.alloc w _ = v at hn1 ⊢
  generalize hg0 : w.heap.size = gq at hn1 ⊢
  clear hg0
  have H0 := Lib.hid hn1
  clear hn1
  clear hs0
  go_wp2_with (refine Row.wpList_load_g 46 _ rfl (by first | rfl | (go_simp; done) | fail) ⟨gq, 0, none⟩ rfl fl _ (seg H0.out 0 0 rfl _ (by simp)) Try.underlying46 rfl LI.out ?_)
  go_loopw [5, 9] (fun v g wr => ∃ q : Nat, q ≤ 8 ∧ g = .int .i64 q ∧ v = .int .i64 (SetM.of (thTo fb 0 (rs.take q)) : Nat) ∧ Below w.heap.size w wr) (fun _ g _ => 8 - (intOf g).toNat)
  case atStart => exact ⟨0, by omega, rfl, rfl, H0.out.bel⟩
  case round =>
    obtain ⟨q, hq, rfl, rfl, hbel⟩ := hrel
    have HB := Lib.hid hbel
    clear hbel
    by_cases hlt : q < 8
    · have hv : rs[q]? = some (ruAt rs q) := ru_at L8.out hlt
      generalize ruAt rs q = u at hv
      have HV := Lib.hid hv
      have hidx := IX.out q u hv
      clear hv
      have hsz := HB.out.size
      go_upto_region 5 with (refine Row.wpList_store_new rfl 45 _ _ rfl wr _ u.cells.toArray rfl rfl rfl infoRu rfl (one_ru _) ?_)
      clear hidx
      have hbn : Below w.heap.size w (wr.alloc (.cells u.cells.toArray 45)) := HB.out.alloc hsz _
      have hg := Row.lies_of_block (heap_alloc_new wr (.cells u.cells.toArray 45))
      have HL := Lib.hid hg
      have HN := Lib.hid hbn
      clear hg hbn HB hsz
      generalize wr.alloc (.cells u.cells.toArray 45) = w4 at HL HN ⊢
      generalize wr.heap.size = b4 at HL ⊢
      have hE := HEH.out
      go_wp2_with (refine Row.wpList_load_g 45 _ rfl (by first | rfl | (go_simp; done) | fail) ⟨b4, 0, none⟩ rfl u.cells _ HL.out Try.underlying45 rfl infoRu ?_)
      refine (HFH.out u _).mono ?_
      rintro e w5 ⟨rfl, hb5⟩
      clear hE
      have HN5 : Hid (Below w.heap.size w w5) := Lib.hid (HN.out.trans (hb5.mono HN.out.size))
      clear hb5 HN HL
      cases hon : fb u with
      | true =>
        have HS := Lib.hid (th_with HV.out hon)
        clear hon
        generalize SetM.of (thTo fb 0 (rs.take q)) = s0 at HS ⊢
        go_wp2_with (go_at_call 43; refine (Set.with_any _ _ _).mono ?_; rintro e w' ⟨rfl, rfl⟩)
        go_roundw
        case rel => exact ⟨q + 1, by omega, by go_num, by rw [← HS.out], HN5.out⟩
        case measure => simp [intOf]; omega
      | false =>
        have HS := Lib.hid (th_skip HV.out hon)
        clear hon
        generalize SetM.of (thTo fb 0 (rs.take q)) = s0 at HS ⊢
        go_wp2
        go_roundw
        case rel => exact ⟨q + 1, by omega, by go_num, by rw [← HS.out], HN5.out⟩
        case measure => simp [intOf]; omega
    · obtain rfl : q = 8 := by omega
      have HE : Hid (((SetM.of (thTo fb 0 (rs.take 8)) : Nat) : Int) = res) := Lib.hid RS.out.symm
      generalize SetM.of (thTo fb 0 (rs.take 8)) = s0 at HE ⊢
      go_wp2
      go_ret
      exact ⟨ret_int HE.out, HB.out⟩
theorem thoseG (rs : List Ru) (h8 : rs.length = 8) (w : World) : Calls Try.prog 37 #[.agg (runsC rs).toArray, .func (.func 38) #[] #[]] w fun e w' => e = .returned (.int .i64 (thS grB rs : Nat)) ∧ Below w.heap.size w w' := those_any 38 grB (fun _ _ => rfl) (fun u W => isGreen_any u W) rs h8 w
theorem thoseB (rs : List Ru) (h8 : rs.length = 8) (w : World) : Calls Try.prog 37 #[.agg (runsC rs).toArray, .func (.func 39) #[] #[]] w fun e w' => e = .returned (.int .i64 (thS buB rs : Nat)) ∧ Below w.heap.size w w' := those_any 39 buB (fun _ _ => rfl) (fun u W => isBusy_any u W) rs h8 w
end Rg
namespace SetP
open Go.ChangeShapes Go.WideShapes Go.ChangeAt Go.RowKit
open Go.Proofs.Ytjgpljnbeolapaa
theorem ret_int {k : IntKind} {a b : Int} (h : a = b) : Ending.returned (.int k a) = .returned (.int k b) := by rw [h]
theorem ret_bool {a b : Bool} (h : a = b) : Ending.returned (.bool a) = .returned (.bool b) := by rw [h]
theorem eight {p : Int} (h : 0 ≤ p) (h' : p < 8) : p = 0 ∨ p = 1 ∨ p = 2 ∨ p = 3 ∨ p = 4 ∨ p = 5 ∨ p = 6 ∨ p = 7 := by omega
theorem bit_any (p : Int) (w : World) : Calls Try.prog 64 #[.int .i64 p] w fun e w' => e = .returned (.int .i64 (SetM.bit p)) ∧ w = w' := by
  by_cases h1 : p < 0
  · have HB := Lib.hid (SetM.bit_out (p := p) (by omega))
    go_enter Try.func64, Try.ntmps64
    go_wp2
    go_ret
    exact ⟨ret_int (by rw [HB.out]; rfl), rfl⟩
  by_cases h2 : 8 ≤ p
  · have HB := Lib.hid (SetM.bit_out (p := p) (by omega))
    go_enter Try.func64, Try.ntmps64
    go_wp2
    go_ret
    exact ⟨ret_int (by rw [HB.out]; rfl), rfl⟩
  rcases eight (p := p) (by omega) (by omega) with rfl | rfl | rfl | rfl | rfl | rfl | rfl | rfl
  all_goals
    clear h1 h2
    go_enter Try.func64, Try.ntmps64
    go_wp2
    go_ret
    exact ⟨ret_int (by decide), rfl⟩
theorem ne_has (s p : Int) : (bits .and .i64 s (SetM.bit p) != 0) = SetM.has s p := by
  have h := SetM.has_and s p
  cases hb : SetM.has s p
  · rw [h.2 hb]; rfl
  · rw [bne_iff_ne]; intro e; rw [h.1 e] at hb; cases hb
theorem has_any (s p : Int) (w : World) : Calls Try.prog 59 #[.int .i64 s, .int .i64 p] w fun e w' => e = .returned (.bool (SetM.has s p)) ∧ w = w' := by
  have HB := Lib.hid (ne_has s p)
  go_enter Try.func59, Try.ntmps59
  go_wp2_with (go_at_call 64; refine (bit_any _ _).mono ?_; rintro e w' ⟨rfl, rfl⟩)
  go_ret
  exact ⟨ret_bool HB.out, rfl⟩
theorem with_any (s p : Int) (w : World) : Calls Try.prog 43 #[.int .i64 s, .int .i64 p] w fun e w' => e = .returned (.int .i64 (SetM.withN s p)) ∧ w = w' := by
  have HB := Lib.hid (SetM.with_bits s p)
  go_enter Try.func43, Try.ntmps43
  go_wp2_with (go_at_call 64; refine (bit_any _ _).mono ?_; rintro e w' ⟨rfl, rfl⟩)
  go_ret
  exact ⟨ret_int HB.out, rfl⟩
theorem with_take (l : List Int) (k : Nat) (h : k < l.length) : SetM.withN (SetM.of (l.take k) : Nat) (l.getD k 0) = SetM.of (l.take (k + 1)) := by
  rw [RefS.take_succ l k h, SetM.with_of]
theorem of_any (a : Option Addr) (cap : Nat) (l : List Int) (w : World) (h : RefS.Row w a l) :
    Calls Try.prog 58 #[.slice a l.length cap] w fun e w' => e = .returned (.int .i64 (SetM.of l : Nat)) ∧ w = w' := by
  have h1 := h.1
  unfold maxLen at h1
  have Hr := Lib.hid h
  clear h
  go_enter Try.func58, Try.ntmps58
  go_wp2
  go_loop [3, 8] (fun t i => ∃ k : Nat, k ≤ l.length ∧ i = .int .i64 k ∧ t = .int .i64 (SetM.of (l.take k) : Nat)) (fun _ i => l.length - (intOf i).toNat)
  case atStart => exact ⟨0, Nat.zero_le _, rfl, rfl⟩
  case round =>
    obtain ⟨k, hk, rfl, rfl⟩ := hrel
    by_cases hlt : k < l.length
    · have HS := with_take l k hlt
      obtain ⟨x, rfl, hc⟩ := Hr.out.cells hlt
      have hcell := hc k hlt
      clear hc
      generalize l.getD k 0 = y at HS hcell
      have HS2 := Lib.hid HS
      clear HS
      go_wp2_with (go_at_call 43; refine (SetP.with_any _ _ _).mono ?_; rintro e w' ⟨rfl, rfl⟩)
      go_round
      case rel => exact ⟨k + 1, by omega, by go_num, by rw [HS2.out]⟩
      case measure => simp [intOf]; omega
    · go_wp2
      go_ret
      have : k = l.length := by omega
      subst this
      exact ⟨by rw [List.take_of_length_le (Nat.le_refl _)]; rfl, rfl⟩
end SetP
namespace PlanW
open Go.ChangeShapes Go.WideShapes Go.ChangeAt Go.RowKit
open Tab PlaceM PlanM
open May (ret_bool chain infoP infoG St)
open SetP (of_any has_any)
theorem info2 : (Try.prog.info? 92).map (·.size) = some 2 := by kernel_rfl
theorem infoT : (Try.prog.info? 32).map (·.size) = some 131 := by kernel_rfl
theorem row_one (w : World) (p : Int) (t : TypeId) (b : Nat) (hb : w.heap.size = b) : RefS.Row (w.alloc (.cells #[.int .i64 p] t)) (some ⟨b, 0, none⟩) [p] := by
  subst hb
  refine ⟨by simp [maxLen], .inr ⟨_, rfl, fun i hi => ?_⟩⟩
  obtain rfl : i = 0 := by simpa using hi
  rw [RefS.add_zero, cell_of_row _ _ _ _ _ _ (heap_alloc_new w _)]
  rfl
theorem idx0 (v0 v1 : Value) (w : World) : Sem.run Try.prog (Instr.index 92 (.agg #[v0, v1]) (.int .i64 0)) w = .ok v0 w := by kernel_rfl
theorem idx1 (v0 v1 : Value) (w : World) : Sem.run Try.prog (Instr.index 92 (.agg #[v0, v1]) (.int .i64 1)) w = .ok v1 w := by kernel_rfl
theorem has_one (p q : Int) : SetM.has ((SetM.of [p] : Nat) : Int) q = (decide (0 ≤ p ∧ p < 8) && decide (q = p)) := by
  unfold SetM.has
  rw [SetM.low_nat _ (SetM.of_lt _), SetM.of_test]
  by_cases h0 : 0 ≤ q
  · obtain ⟨k, rfl⟩ := Int.eq_ofNat_of_zero_le h0
    simp only [Int.toNat_natCast, List.mem_singleton, h0, decide_true, Bool.true_and]
    rw [Bool.eq_iff_iff]
    simp only [Bool.and_eq_true, decide_eq_true_eq]
    omega
  · rw [decide_eq_false h0, Bool.false_and]
    symm
    rw [Bool.and_eq_false_iff, decide_eq_false_iff_not, decide_eq_false_iff_not]
    omega
theorem results_tmp4 {P : Program} {fn : Func} {t u v x : Tmp} (h : fn.results = #[.tmp t, .tmp u, .tmp v, .tmp x]) (tmps : Array Value) (w : World) :
    (results fn tmps).run P w = .ok (.tuple #[tmps.getD t undef, tmps.getD u undef, tmps.getD v undef, tmps.getD x undef]) w := by
  simp [results, h]
def wG : Option Spt → Int | some x => x.g | none => 0
def wK : Option Spt → Int | some x => x.k | none => 0
def wI : Option Spt → Int | some x => x.i | none => 0
/-- Nothing that is looked for before a place. -/
theorem where_none {T : Tab} {p : Int} (h : ∀ x ∈ spots T, x.p ≠ p) : where_ T p = none := find_none h
theorem where_some {T : Tab} {p : Int} {x : Spt} (hx : x ∈ spots T) (hp : x.p = p) (hn : ∀ y ∈ spots T, Lt y x → y.p ≠ p) : where_ T p = some x := by
  unfold where_ find
  exact find_hit (spots_sorted T) hx (by simpa using hp) (fun y hy hl => by simpa using hn y hy hl)
def Tup (o : Option Spt) : Value := .tuple #[I (wG o), I (wK o), I (wI o), .bool o.isSome]
theorem pwhere_any (T : Tab) (h : Hd) (p : Int) (w : World) (ht : IsTab w h T) :
    Calls Try.prog 31 #[.agg (T.cells h).toArray, .int .i64 p] w fun e w' => e = .returned (.tuple #[I (wG (where_ T p)), I (wK (where_ T p)), I (wI (where_ T p)), .bool (where_ T p).isSome]) ∧ Below w.heap.size w w' := by
  obtain ⟨⟨ga, gcap⟩, sd, sr, sb⟩ := h
  have C := Lib.hid (cells_ok ht)
  generalize (T.cells ⟨⟨ga, gcap⟩, sd, sr, sb⟩).toArray = cs at C ⊢
  obtain ⟨gs, hgd, hgr⟩ := ht.groups
  have Hgr := Lib.hid hgr
  have Hgd := Lib.hid hgd
  have hsz := C.out.size
  have S0 := Lib.hid (St.box (cs := cs) ht)
  have Hgl := Lib.hid (show T.groups.length = gs.length by rw [← hgd, List.length_map])
  have Kg := hgr.1.len
  unfold maxLen at Kg
  have HS : Hid (∀ q, SetM.has ((SetM.of [p] : Nat) : Int) q = (decide (0 ≤ p ∧ p < 8) && decide (q = p))) := Lib.hid (has_one p)
  have WN : Hid ((∀ x ∈ spots T, x.p ≠ p) → where_ T p = none) := Lib.hid where_none
  have WS : Hid (∀ x, x ∈ spots T → x.p = p → (∀ y ∈ spots T, Lt y x → y.p ≠ p) → where_ T p = some x) := Lib.hid (fun x => where_some)
  generalize where_ T p = o at WN WS ⊢
  clear ht hgr hgd
  go_enter Try.func31, Try.ntmps31
  go_upto_region 1 with fail
  generalize w.alloc (.cells cs 32) = w1 at S0 ⊢
  clear hsz
  go_step3
  go_wp2_with fail
  have hb1 : Below w1.heap.size w1 (w1.alloc (.cells #[.int .i64 p] 3)) := (Below.refl _ _).alloc (Nat.le_refl _) _
  have hr := row_one w1 p 3 _ rfl
  have S2 := Lib.hid (S0.out.step hb1)
  have HR := Lib.hid hr
  clear hb1 hr S0
  generalize w1.alloc (.cells #[.int .i64 p] 3) = w2 at S2 HR ⊢
  refine (of_any _ _ [p] _ HR.out).mono ?_
  rintro e w' ⟨rfl, rfl⟩
  generalize ((SetM.of [p] : Nat) : Int) = s0 at HS ⊢
  clear HR
  have q104 := S2.out.cell C.out.g
  rw [Hgl.out] at q104
  have Q104 : Hid (w2.cell? ⟨w.heap.size, 104, none⟩ = some (.slice ga gs.length gcap)) := Lib.hid q104
  clear q104
  have q104 := Q104.out
  have LIFT : Hid (∀ W, Below w2.heap.size w2 W → ∀ (z : Addr) (c : Value), w2.cell? z = some c → W.cell? z = some c) := Lib.hid (fun W hb z c hc => (hb.cell (World.block_lt_of_cell? w2 _ hc)).trans hc)
  go_wp2_with fail
  go_step3
  go_wp2_with fail
  clear q104
  go_loopw [4, 5, 6, 7, 21] (fun a b c d g wr => ∃ q : Nat, q ≤ gs.length ∧ a = .int .i64 0 ∧ b = .int .i64 0 ∧ c = .int .i64 0 ∧ d = .bool false ∧ g = .int .i64 q ∧ (∀ x ∈ spots T, x.g < q → x.p ≠ p) ∧ Below w2.heap.size w2 wr) (fun _ _ _ _ g _ => gs.length - (intOf g).toNat)
  case atStart => exact ⟨0, by omega, rfl, rfl, rfl, rfl, rfl, (fun x _ h => by omega), Below.refl _ _⟩
  case round =>
    obtain ⟨q, hq, rfl, rfl, rfl, rfl, rfl, hall, hbel⟩ := hrel
    have HA := Lib.hid hall
    have HB := Lib.hid hbel
    clear hall hbel
    by_cases hlt : q < gs.length
    · have hv := List.getElem?_eq_getElem hlt
      generalize gs[q] = u at hv
      obtain ⟨x, hx, hc⟩ := (Hgr.out.1.below (S2.out.bel.trans (HB.out.mono S2.out.bel.size))).at hv
      have hok := (Hgr.out.2 u (List.mem_of_getElem? hv)).below (S2.out.bel.trans (HB.out.mono S2.out.bel.size))
      have HD : Hid (T.groups[q]? = some u.data) := Lib.hid (by rw [← Hgd.out, List.getElem?_map, hv]; rfl)
      obtain rfl : ga = some x := hx
      obtain ⟨l0, l1, ⟨a0, cap0⟩, ⟨a1, cap1⟩⟩ := u
      have HC : Hid (Lies wr (x.add (q * 2)) [.slice a0 l0.length cap0, .slice a1 l1.length cap1]) := Lib.hid hc
      have HO := Lib.hid hok
      clear hv hc hok
      have hwr := HB.out.size
      go_upto_region 5 with (first | (refine Row.wpList_load_g 92 _ rfl (by first | rfl | go_simp) (x.add (q * 2)) rfl [.slice a0 l0.length cap0, .slice a1 l1.length cap1] _ HC.out Try.underlying92 rfl info2 ?_) | (refine Row.wpList_store_new rfl 92 _ _ rfl wr #[.slice none 0 0, .slice none 0 0] #[.slice a0 l0.length cap0, .slice a1 l1.length cap1] rfl rfl rfl info2 rfl (by simp [Value.oneCell']) ?_))
      have hbn : Below w2.heap.size w2 (wr.alloc (.cells #[.slice a0 l0.length cap0, .slice a1 l1.length cap1] 92)) := HB.out.alloc hwr _
      have hbo : Below wr.heap.size wr (wr.alloc (.cells #[.slice a0 l0.length cap0, .slice a1 l1.length cap1] 92)) := (Below.refl _ _).alloc (Nat.le_refl _) _
      have hg := Row.lies_of_block (heap_alloc_new wr (.cells #[.slice a0 l0.length cap0, .slice a1 l1.length cap1] 92))
      have HL := Lib.hid hg
      have HO2 := Lib.hid (HO.out.below hbo)
      have HN := Lib.hid hbn
      clear hg hbn hbo HC HO
      generalize wr.alloc (.cells #[.slice a0 l0.length cap0, .slice a1 l1.length cap1] 92) = w4 at HL HO2 HN ⊢
      generalize wr.heap.size = b4 at HL ⊢
      go_wp2_with (first | (refine Row.wpList_load_g 92 _ rfl (by first | rfl | go_simp) ⟨b4, 0, none⟩ rfl [.slice a0 l0.length cap0, .slice a1 l1.length cap1] _ HL.out Try.underlying92 rfl info2 ?_))
      go_loopw [4, 5, 6, 7, 27] (fun a b c d k wk => ∃ r : Nat, r ≤ 2 ∧ a = .int .i64 0 ∧ b = .int .i64 0 ∧ c = .int .i64 0 ∧ d = .bool false ∧ k = .int .i64 r ∧ (∀ x ∈ spots T, x.g = q → x.k < r → x.p ≠ p) ∧ wk = w4) (fun _ _ _ _ k _ => 2 - (intOf k).toNat)
      case atStart => exact ⟨0, by omega, rfl, rfl, rfl, rfl, rfl, (fun x _ _ h => by omega), rfl⟩
      case round =>
        obtain ⟨r, hr, rfl, rfl, rfl, rfl, rfl, hall, rfl⟩ := hrel
        have HA2 := Lib.hid hall
        clear hall
        by_cases hr2 : r < 2
        · obtain ⟨l, a, cap, hidx, hrow, hring⟩ : ∃ (l : List Int) (a : Option Addr) (cap : Nat), (∀ W, Sem.run Try.prog (Instr.index 92 (.agg #[.slice a0 l0.length cap0, .slice a1 l1.length cap1]) (.int .i64 r)) W = .ok (.slice a l.length cap) W) ∧ IntRow wr ⟨a, cap⟩ l ∧ ringOf (l0, l1) r = l := by
            have : r = 0 ∨ r = 1 := by omega
            rcases this with rfl | rfl
            · exact ⟨l0, a0, cap0, fun W => idx0 _ _ W, HO2.out.1, rfl⟩
            · exact ⟨l1, a1, cap1, fun W => idx1 _ _ W, HO2.out.2, rfl⟩
          have HROW := Lib.hid hrow
          have HRING := Lib.hid hring
          have K := hrow.len
          unfold maxLen at K
          clear hrow hring
          go_wp2_with fail
          clear hidx
          go_loopw [4, 5, 6, 7, 33] (fun a0' b c d k wk => ∃ j : Nat, j ≤ l.length ∧ a0' = .int .i64 0 ∧ b = .int .i64 0 ∧ c = .int .i64 0 ∧ d = .bool false ∧ k = .int .i64 j ∧ (∀ i, i < j → SetM.has s0 (l.getD i 0) = false) ∧ wk = wr) (fun _ _ _ _ k _ => l.length - (intOf k).toNat)
          case atStart => exact ⟨0, by omega, rfl, rfl, rfl, rfl, rfl, (fun i h => by omega), rfl⟩
          case round =>
            obtain ⟨j, hj, rfl, rfl, rfl, rfl, rfl, hall, rfl⟩ := hrel
            have HA3 := Lib.hid hall
            clear hall
            by_cases hjl : j < l.length
            · have hv := List.getElem?_eq_getElem hjl
              generalize hz : l[j] = z at hv
              obtain ⟨y, hy, hp⟩ := IntRow.at HROW.out hv
              obtain rfl : a = some y := hy
              have HV := Lib.hid hv
              have hgd : l.getD j 0 = z := by rw [List.getD_eq_getElem?_getD, hv]; rfl
              have HGD := Lib.hid hgd
              clear hv hz hgd
              cases hh : SetM.has s0 z with
              | true =>
                have HF : Hid (o = some ⟨q, r, j, p⟩) := Lib.hid (by
                  have h1 := HS.out z
                  rw [hh] at h1
                  simp only [Eq.comm (a := true), Bool.and_eq_true, decide_eq_true_eq] at h1
                  obtain ⟨⟨p0, p8⟩, rfl⟩ := h1
                  refine WS.out _ (mem_spots.2 ⟨(l0, l1), HD.out, by rw [HRING.out]; exact HV.out, p0, p8⟩) rfl fun y hy hl => ?_
                  unfold Lt at hl
                  simp only at hl
                  rcases hl with hl | ⟨hl, hl2 | ⟨hl2, hl3⟩⟩
                  · exact HA.out y hy hl
                  · exact HA2.out y hy hl hl2
                  · intro e
                    obtain ⟨z, h2, h3, _⟩ := mem_spots.1 hy
                    rw [hl, HD.out] at h2
                    obtain rfl := Option.some.inj h2
                    have h4 : l[y.i]? = some y.p := by have := h3; rw [hl2] at this; rw [← HRING.out]; exact this
                    have h5 := HA3.out y.i hl3
                    rw [List.getD_eq_getElem?_getD, h4] at h5
                    have h6 := HS.out y.p
                    rw [show SetM.has s0 y.p = false from h5, e] at h6
                    simp [p0, p8] at h6)
                go_wp2_with (go_at_call 59; refine (has_any _ _ _).mono ?_; rintro e w' ⟨rfl, rfl⟩; rw [hh])
                (try rw [Exit.noGoto_ret])
                (try simp only [Exit.inBlock, Exit.then])
                refine bodyPost_ret (v := .tuple #[I q, I r, I j, .bool true]) ?_ rfl ⟨?_, ?_⟩
                · exact results_tmp4 (fn := Try.f31) (t := 4) (u := 5) (v := 6) (x := 7) rfl _ _
                · rw [HF.out]; rfl
                · exact S2.out.bel.trans (HN.out.mono S2.out.bel.size)
              | false =>
                go_wp2_with (go_at_call 59; refine (has_any _ _ _).mono ?_; rintro e w' ⟨rfl, rfl⟩; rw [hh])
                go_roundw
                case rel => exact ⟨j + 1, by omega, rfl, rfl, rfl, rfl, by go_num, (fun i hi => by
                  by_cases e : i = j
                  · subst e; rw [HGD.out]; exact hh
                  · exact HA3.out i (by omega)), trivial⟩
                case measure => simp [intOf]; omega
            · have HN : Hid (∀ x ∈ spots T, x.g = q → x.k < r + 1 → x.p ≠ p) := Lib.hid (fun y hy h1 h2 e => by
                by_cases h3 : y.k < r
                · exact HA2.out y hy h1 h3 e
                · obtain ⟨z, h4, h5, h6, h7⟩ := mem_spots.1 hy
                  rw [h1, HD.out] at h4
                  obtain rfl := Option.some.inj h4
                  have hk : y.k = r := by omega
                  have h8 : l[y.i]? = some y.p := by rw [hk] at h5; rw [← HRING.out]; exact h5
                  have h9 := HA3.out y.i (by have := (List.getElem?_eq_some_iff.1 h8).1; omega)
                  rw [List.getD_eq_getElem?_getD, h8] at h9
                  have h10 := HS.out y.p
                  rw [show SetM.has s0 y.p = false from h9, e] at h10
                  rw [e] at h6 h7
                  simp [h6, h7] at h10)
              go_wp2
              go_roundw
              case rel => exact ⟨r + 1, by omega, rfl, rfl, rfl, rfl, by go_num, HN.out, trivial⟩
              case measure => simp [intOf]; omega
        · have HN3 : Hid (∀ x ∈ spots T, x.g < q + 1 → x.p ≠ p) := Lib.hid (fun y hy h1 e => by
            by_cases h3 : y.g < q
            · exact HA.out y hy h3 e
            · obtain ⟨z, h4, h5, _⟩ := mem_spots.1 hy
              refine HA2.out y hy (by omega) ?_ e
              unfold ringOf at h5
              by_cases h6 : y.k = 0
              · omega
              · by_cases h7 : y.k = 1
                · omega
                · rw [if_neg h6, if_neg h7] at h5; simp at h5)
          go_wp2
          go_roundw
          case rel => exact ⟨q + 1, by omega, rfl, rfl, rfl, rfl, by go_num, HN3.out, HN.out⟩
          case measure => simp [intOf]; omega
    · have HF : Hid (o = none) := Lib.hid (WN.out (fun y hy => by
        refine HA.out y hy ?_
        obtain ⟨z, h4, _⟩ := mem_spots.1 hy
        have := (List.getElem?_eq_some_iff.1 h4).1
        rw [Hgl.out] at this
        omega))
      go_wp2
      (try rw [Exit.noGoto_ret])
      (try simp only [Exit.inBlock, Exit.then])
      refine bodyPost_ret (v := .tuple #[I 0, I 0, I 0, .bool false]) ?_ rfl ⟨?_, ?_⟩
      · exact results_tmp4 (fn := Try.f31) (t := 4) (u := 5) (v := 6) (x := 7) rfl _ _
      · rw [HF.out]; rfl
      · exact S2.out.bel.trans (HB.out.mono S2.out.bel.size)
end PlanW
namespace Same
open Go.ChangeShapes Go.WideShapes Go.ChangeAt Go.RowKit
open Tab
open May (ret_bool chain take_succ' infoP infoG infoD infoR infoB row_new)
end Same
namespace Same
open Go.ChangeShapes Go.WideShapes Go.ChangeAt Go.RowKit
open Tab
open May (ret_bool chain take_succ' infoP infoG infoD infoR infoB row_new)
end Same
namespace Same
open Go.ChangeShapes Go.WideShapes Go.ChangeAt Go.RowKit
open Tab
open May (ret_bool chain take_succ' infoP infoG infoD infoR infoB row_new St)
theorem below_setRow {B : Nat} {a w : World} (h : Below B a w) {g : Nat} (hg : B ≤ g) (cs : Array Value) : Below B a (w.setRow g cs) :=
  h.trans ⟨rfl, rfl, rfl, by simp [World.setRow], fun j hj => setRow_other _ _ _ _ (by omega)⟩
end Same
namespace PlanC
open Go.ChangeShapes Go.WideShapes Go.ChangeAt Go.RowKit
open Tab PlaceM PlanM
open May (ret_bool chain infoP infoG St phases_in)
open SetP (of_any has_any)
open Same (below_setRow)
theorem ret_int {k : IntKind} {a b : Int} (h : a = b) : Ending.returned (.int k a) = .returned (.int k b) := by rw [h]
theorem infoZ : (Try.prog.info? 92).map (fun i => (i.zero, i.size)) = some (some (.agg #[.slice none 0 0, .slice none 0 0]), 2) := by kernel_rfl
theorem infoT : (Try.prog.info? 32).map (·.size) = some 131 := by kernel_rfl
theorem info2 : (Try.prog.info? 92).map (·.size) = some 2 := by kernel_rfl
theorem idx0 (v0 v1 : Value) (w : World) : Sem.run Try.prog (Instr.index 92 (.agg #[v0, v1]) (.int .i64 0)) w = .ok v0 w := by kernel_rfl
theorem idx1 (v0 v1 : Value) (w : World) : Sem.run Try.prog (Instr.index 92 (.agg #[v0, v1]) (.int .i64 1)) w = .ok v1 w := by kernel_rfl
theorem row_of_int {w : World} {a : Option Addr} {cap : Nat} {L : List Int} (h : IntRow w ⟨a, cap⟩ L) : RefS.Row w a L := by
  have hl := h.len
  refine ⟨by omega, ?_⟩
  by_cases h0 : L = []
  · exact .inl h0
  · have hp : 0 < L.length := List.length_pos_iff.2 h0
    obtain ⟨x, hx, _⟩ := IntRow.at h (List.getElem?_eq_getElem hp)
    refine .inr ⟨x, hx, fun i hi => ?_⟩
    obtain ⟨y, hy, hc⟩ := IntRow.at h (List.getElem?_eq_getElem hi)
    obtain rfl : x = y := Option.some.inj (hx.symm.trans hy)
    rw [hc, List.getD_eq_getElem?_getD, List.getElem?_eq_getElem hi]
    rfl
theorem hasGroup_any (T : Tab) (h : Hd) (g : Int) (w : World) (ht : IsTab w h T) :
    Calls Try.prog 78 #[.agg (T.cells h).toArray, .int .i64 g] w fun e w' => e = .returned (.bool (decide (0 ≤ g ∧ g < T.groups.length))) ∧ Below w.heap.size w w' := by
  have C := Lib.hid (cells_ok ht)
  generalize (T.cells h).toArray = cs at C ⊢
  have hsz := C.out.size
  have S0 := Lib.hid (St.box (cs := cs) ht)
  clear ht
  have q104 := S0.out.cell C.out.g
  generalize hr : decide (0 ≤ g ∧ g < T.groups.length) = r
  have HR := Lib.hid hr
  clear hr
  generalize T.groups.length = n at *
  have Q104 := Lib.hid q104
  clear q104
  go_enter Try.func78, Try.ntmps78
  go_upto_region 1 with fail
  generalize w.alloc (.cells cs 32) = w1 at S0 Q104 ⊢
  clear hsz
  have q104 := Q104.out
  by_cases h0 : 0 ≤ g
  · by_cases h1 : g < n
    · go_wp2
      go_ret
      exact ⟨ret_bool (by rw [← HR.out]; simp [h0, h1]), S0.out.bel⟩
    · go_wp2
      go_ret
      exact ⟨ret_bool (by rw [← HR.out]; simp [h0, h1]), S0.out.bel⟩
  · go_wp2
    go_ret
    exact ⟨ret_bool (by rw [← HR.out]; symm; rw [decide_eq_false_iff_not]; omega), S0.out.bel⟩
/-- A group's two rows as a value. -/
def Pair (w : World) (y : List Int × List Int) (s0 s1 : Sl) : Prop := IntRow w s0 y.1 ∧ IntRow w s1 y.2
theorem rowsOf_any (T : Tab) (h : Hd) (g : Int) (w : World) (ht : IsTab w h T) :
    Calls Try.prog 80 #[.agg (T.cells h).toArray, .int .i64 g] w fun e w' => ∃ s0 s1 : Sl, e = .returned (.agg #[s0.val (rowsAt T g).1.length, s1.val (rowsAt T g).2.length]) ∧ Pair w' (rowsAt T g) s0 s1 ∧ Below w.heap.size w w' := by
  have hsz := (cells_ok ht).size
  have C := Lib.hid (cells_ok ht)
  have IA : Hid ((Try.prog.info? 32).map (·.size) = some (T.cells h).length) := Lib.hid (by rw [List.size_toArray] at hsz; rw [hsz]; exact infoT)
  have HG : Hid (∀ W, Below w.heap.size w W → Calls Try.prog 78 #[.agg (T.cells h).toArray, .int .i64 g] W fun e w' => e = .returned (.bool (decide (0 ≤ g ∧ g < T.groups.length))) ∧ Below W.heap.size W w') := Lib.hid (fun W hb => hasGroup_any T h g W (ht.below hb))
  obtain ⟨gs, hgd, hgr⟩ := ht.groups
  have Hgr := Lib.hid hgr
  have Hgd := Lib.hid hgd
  have Hgl := Lib.hid (show T.groups.length = gs.length by rw [← hgd, List.length_map])
  have Kg := hgr.1.len
  unfold maxLen at Kg
  have A0 : Hid (Below w.heap.size w ((w.alloc (.cells (T.cells h).toArray 32)).alloc (.cells #[.slice none 0 0, .slice none 0 0] 92))) := Lib.hid (((Below.refl _ _).alloc (Nat.le_refl _) _).alloc (by simp) _)
  have A1 : Hid (((w.alloc (.cells (T.cells h).toArray 32)).alloc (.cells #[.slice none 0 0, .slice none 0 0] 92)).heap[w.heap.size]? = some (.cells (T.cells h).toArray 32 (0, 0))) := Lib.hid (heap_alloc2_old w _ _)
  have A2 : Hid (((w.alloc (.cells (T.cells h).toArray 32)).alloc (.cells #[.slice none 0 0, .slice none 0 0] 92)).heap[w.heap.size + 1]? = some (.cells #[.slice none 0 0, .slice none 0 0] 92 (0, 0))) := Lib.hid (heap_alloc2_new w _ _)
  have hz := (zero_of_info infoZ).1
  clear ht hgr hgd
  generalize T.cells h = c at *
  go_enter Try.func80, Try.ntmps80
  go_upto_region 1 with fail
  generalize ((w.alloc (.cells c.toArray 32)).alloc (.cells #[.slice none 0 0, .slice none 0 0] 92)) = u at A0 A1 A2 ⊢
  clear hsz hz
  have LT : Hid (Lies u ⟨w.heap.size, 0, none⟩ c) := Lib.hid (by have := Row.lies_of_block A1.out; simpa using this)
  go_wp2_with (refine Row.wpList_load_g 32 _ rfl (by first | rfl | go_simp) ⟨w.heap.size, 0, none⟩ rfl c _ LT.out Try.underlying32 rfl IA.out ?_)
  refine (HG.out _ A0.out).mono ?_
  rintro e u1 ⟨rfl, hb⟩
  have B0 : Hid (Below w.heap.size w u1) := Lib.hid (A0.out.trans (hb.mono A0.out.size))
  have B1 : Hid (u1.heap[w.heap.size]? = some (.cells c.toArray 32 (0, 0))) := Lib.hid ((hb.block _ (Array.getElem?_eq_some_iff.1 A1.out).1).trans A1.out)
  have B2 : Hid (u1.heap[w.heap.size + 1]? = some (.cells #[.slice none 0 0, .slice none 0 0] 92 (0, 0))) := Lib.hid ((hb.block _ (Array.getElem?_eq_some_iff.1 A2.out).1).trans A2.out)
  clear hb A0 A1 A2 LT HG
  by_cases hg : 0 ≤ g ∧ g < T.groups.length
  · rw [decide_eq_true hg]
    obtain ⟨g0, g1⟩ := hg
    obtain ⟨q, rfl⟩ := Int.eq_ofNat_of_zero_le g0
    have hlt : q < gs.length := by have := Hgl.out; omega
    have hv := List.getElem?_eq_getElem hlt
    generalize gs[q] = v at hv
    have HR : Hid (rowsAt T q = v.data) := Lib.hid (rows_in (by rw [← Hgd.out, List.getElem?_map, hv]; rfl))
    obtain ⟨x, hx, hc⟩ := (Hgr.out.1.below B0.out).at hv
    have hok := (Hgr.out.2 v (List.mem_of_getElem? hv)).below B0.out
    have q104 : u1.cell? ⟨w.heap.size, 104, none⟩ = some (.slice (some x) gs.length h.g.cap) := by
      rw [cell_of_row _ _ _ _ _ _ B1.out, C.out.g, Hgl.out]; simp only [Sl.val, hx]
    have HC := Lib.hid hc
    have HM := Lib.hid (List.mem_of_getElem? hv)
    have HW := Lib.hid (below_setRow B0.out (g := w.heap.size + 1) (by omega) v.cells.toArray)
    have HK := Lib.hid (setRow_heap u1 (w.heap.size + 1) _ v.cells.toArray _ _ B2.out)
    have V1 : Hid (v.cells.toArray.all (·.oneCell') = true) := Lib.hid (Gr.one v)
    clear hv hc hok hx g1
    go_wp2_with (first | (refine Row.wpList_load_g 92 _ rfl (by first | rfl | go_simp) (x.add (q * 2)) rfl v.cells _ HC.out Try.underlying92 rfl info2 ?_) | (refine wpList_store_row rfl 92 _ _ rfl (w.heap.size + 1) v.cells.toArray rfl rfl 92 _ B2.out info2 rfl V1.out ?_))
    have HO2 : Hid (v.ok (u1.setRow (w.heap.size + 1) v.cells.toArray)) := Lib.hid ((Hgr.out.2 v HM.out).below HW.out)
    generalize u1.setRow (w.heap.size + 1) v.cells.toArray = u2 at HW HK HO2 ⊢
    go_wp2_with fail
    (try simp only [Exit.inBlock, Exit.then])
    refine bodyPost_ret (v := .agg v.cells.toArray) ?_ rfl ⟨v.s0, v.s1, by rw [HR.out]; rfl, by rw [HR.out]; exact HO2.out, HW.out⟩
    exact results_cell_row rfl _ _ (w.heap.size + 1) 92 _ (0, 0) _ rfl HK.out Try.underlying92 rfl info2
  · rw [decide_eq_false hg]
    have HR : Hid (rowsAt T g = ([], [])) := Lib.hid (rows_out hg)
    have HW := Lib.hid (below_setRow B0.out (g := w.heap.size + 1) (by omega) #[.slice none 0 0, .slice none 0 0])
    have HK := Lib.hid (setRow_heap u1 (w.heap.size + 1) _ #[.slice none 0 0, .slice none 0 0] _ _ B2.out)
    clear hg
    go_wp2_with (first | (refine wpList_store_row rfl 92 _ _ rfl (w.heap.size + 1) #[.slice none 0 0, .slice none 0 0] rfl rfl 92 _ B2.out info2 rfl (by simp [Value.oneCell']) ?_))
    generalize u1.setRow (w.heap.size + 1) #[.slice none 0 0, .slice none 0 0] = u2 at HW HK ⊢
    go_wp2_with fail
    (try simp only [Exit.inBlock, Exit.then])
    refine bodyPost_ret (v := .agg #[.slice none 0 0, .slice none 0 0]) ?_ rfl ⟨⟨none, 0⟩, ⟨none, 0⟩, by rw [HR.out]; rfl, by rw [HR.out]; exact ⟨RowOf.nil _, RowOf.nil _⟩, HW.out⟩
    exact results_cell_row rfl _ _ (w.heap.size + 1) 92 _ (0, 0) _ rfl HK.out Try.underlying92 rfl info2
theorem of_len (a : Option Addr) (cap : Nat) (l : List Int) (w : World) (h : IntRow w ⟨a, cap⟩ l) : Calls Try.prog 58 #[.slice a l.length cap] w fun e w' => e = .returned (.int .i64 (SetM.of l : Nat)) ∧ w = w' := of_any a cap l w (row_of_int h)
theorem or0 (m : Nat) (h : m < 256) : bits .or .i64 0 (m : Int) = (m : Int) := by
  have := RefS.or_small 0 m (by decide) h
  simpa using this
theorem members_any (T : Tab) (h : Hd) (g : Int) (w : World) (ht : IsTab w h T) :
    Calls Try.prog 79 #[.agg (T.cells h).toArray, .int .i64 g] w fun e w' => e = .returned (.int .i64 (membS T g : Nat)) ∧ Below w.heap.size w w' := by
  have hsz := (cells_ok ht).size
  have C := Lib.hid (cells_ok ht)
  have IA : Hid ((Try.prog.info? 32).map (·.size) = some (T.cells h).length) := Lib.hid (by rw [List.size_toArray] at hsz; rw [hsz]; exact infoT)
  have RO : Hid (∀ W, Below w.heap.size w W → Calls Try.prog 80 #[.agg (T.cells h).toArray, .int .i64 g] W fun e w' => ∃ s0 s1 : Sl, e = .returned (.agg #[s0.val (rowsAt T g).1.length, s1.val (rowsAt T g).2.length]) ∧ Pair w' (rowsAt T g) s0 s1 ∧ Below W.heap.size W w') := Lib.hid (fun W hb => rowsOf_any T h g W (ht.below hb))
  have A0 : Hid (Below w.heap.size w (w.alloc (.cells (T.cells h).toArray 32))) := Lib.hid ((Below.refl _ _).alloc (Nat.le_refl _) _)
  have A1 : Hid (Lies (w.alloc (.cells (T.cells h).toArray 32)) ⟨w.heap.size, 0, none⟩ (T.cells h)) := Lib.hid (Row.lies_new w _ _)
  have MS : Hid (membS T g = SetM.of (rowsAt T g).1 ||| SetM.of (rowsAt T g).2) := Lib.hid rfl
  generalize membS T g = m at MS ⊢
  generalize rowsAt T g = y at MS RO
  obtain ⟨l0, l1⟩ := y
  clear ht
  generalize T.cells h = c at *
  go_enter Try.func79, Try.ntmps79
  go_upto_region 1 with fail
  generalize w.alloc (.cells c.toArray 32) = u at A0 A1 ⊢
  clear hsz
  go_wp2_with (refine Row.wpList_load_g 32 _ rfl (by first | rfl | go_simp) ⟨w.heap.size, 0, none⟩ rfl c _ A1.out Try.underlying32 rfl IA.out ?_)
  refine (RO.out _ A0.out).mono ?_
  rintro e u1 ⟨⟨a0, cap0⟩, ⟨a1, cap1⟩, rfl, hpair, hb⟩
  have B0 : Hid (Below w.heap.size w u1) := Lib.hid (A0.out.trans (hb.mono A0.out.size))
  have HP := Lib.hid hpair
  clear hb A0 A1 RO hpair IA
  rw [show (Value.agg #[Sl.val ⟨a0, cap0⟩ (l0, l1).fst.length, Sl.val ⟨a1, cap1⟩ (l0, l1).snd.length]) = .agg #[.slice a0 l0.length cap0, .slice a1 l1.length cap1] from rfl]
  have i0 := idx0 (.slice a0 l0.length cap0) (.slice a1 l1.length cap1)
  have i1 := idx1 (.slice a0 l0.length cap0) (.slice a1 l1.length cap1)
  have I0 := Lib.hid i0
  have I1 := Lib.hid i1
  clear i0 i1
  go_wp2_with fail
  go_loopw [5, 11] (fun t i wr => ∃ r : Nat, r ≤ 2 ∧ i = .int .i64 r ∧ t = .int .i64 ((if r = 0 then 0 else if r = 1 then SetM.of l0 else m : Nat) : Int) ∧ wr = u1) (fun _ i _ => 2 - (intOf i).toNat)
  case atStart => exact ⟨0, by omega, rfl, rfl, rfl⟩
  case round =>
    obtain ⟨r, hr, rfl, rfl, rfl⟩ := hrel
    have hr2 : r = 0 ∨ r = 1 ∨ r = 2 := by omega
    rcases hr2 with rfl | rfl | rfl
    · rw [show ((0 : Nat) : Int) = (0 : Int) from rfl]
      have i0 := I0.out
      have HS := Lib.hid (or0 (SetM.of l0) (SetM.of_lt l0))
      simp only [if_true]
      go_wp2_with fail
      refine (of_len a0 cap0 l0 _ HP.out.1).mono ?_
      rintro e w' ⟨rfl, rfl⟩
      generalize hs : SetM.of l0 = s at HS MS ⊢
      have HQ := Lib.hid hs
      clear hs
      go_wp2
      go_roundw
      case rel => exact ⟨1, by omega, by go_num, by rw [HS.out, ← HQ.out]; rfl, trivial⟩
      case measure => simp [intOf]
    · rw [show ((1 : Nat) : Int) = (1 : Int) from rfl]
      have i1 := I1.out
      have HS : Hid (bits .or .i64 (SetM.of l0 : Nat) (SetM.of l1 : Nat) = (m : Nat)) := Lib.hid (by rw [RefS.or_small _ _ (SetM.of_lt _) (SetM.of_lt _), MS.out])
      simp only [Nat.one_ne_zero, if_false, if_true]
      go_wp2_with fail
      refine (of_len a1 cap1 l1 _ HP.out.2).mono ?_
      rintro e w' ⟨rfl, rfl⟩
      generalize SetM.of l0 = s at HS MS ⊢
      generalize SetM.of l1 = s' at HS MS ⊢
      go_wp2
      go_roundw
      case rel => exact ⟨2, by omega, by go_num, by rw [HS.out]; rfl, trivial⟩
      case measure => simp [intOf]
    · rw [show ((2 : Nat) : Int) = (2 : Int) from rfl]
      simp only [show ¬ (2 = 0) by decide, show ¬ (2 = 1) by decide, if_false]
      go_wp2
      go_ret
      exact ⟨rfl, B0.out⟩
/-- The value of an array of phases, at one of its places. -/
theorem infoPs : (Try.prog.info? 25).map (·.size) = some 104 := by kernel_rfl
theorem cellsP : Try.prog.cellsOf 24 = 13 := by kernel_rfl
theorem rowP : Flat.rowT Try.prog 24 = true := by kernel_rfl
theorem infoPz : ∃ i, Try.prog.info? 24 = some i ∧ i.size = 13 := by
  have := infoP
  cases h : Try.prog.info? 24 with
  | none => rw [h] at this; simp at this
  | some i => rw [h] at this; exact ⟨i, rfl, by simpa using this⟩
theorem flat_take : ∀ {l : List Ph} {q : Nat} {u : Ph}, l[q]? = some u → ((l.flatMap Ph.cells).drop (q * 13)).take 13 = u.cells
  | [], q, u, h => by simp at h
  | p :: l, 0, u, h => by
    obtain rfl : p = u := by simpa using h
    rw [Nat.zero_mul, List.drop_zero, List.flatMap_cons]
    exact List.take_left' rfl
  | p :: l, q + 1, u, h => by
    rw [List.flatMap_cons, Nat.add_mul, Nat.one_mul, Nat.add_comm, List.drop_append, List.drop_of_length_le (by simp [Ph.cells]), List.nil_append, show 13 + q * 13 - p.cells.length = q * 13 by simp [Ph.cells]]
    exact flat_take (by simpa using h)
theorem idx_phase {l : List Ph} {q : Nat} {u : Ph} (hl : l.length = 8) (hu : l[q]? = some u) (w : World) :
    Sem.run Try.prog (Instr.index 25 (.agg (l.flatMap Ph.cells).toArray) (.int .i64 q)) w = .ok (.agg u.cells.toArray) w := by
  have hq : q < l.length := (List.getElem?_eq_some_iff.1 hu).1
  obtain ⟨i, hi, hs⟩ := infoPz
  have hp := Flat.run_part (P := Try.prog) w (t := 24) (d := _) Try.underlying24 (by rw [rowP]; simp) (l.flatMap Ph.cells) (q * 13) (by rw [cellsP, phases_len]; omega)
  rw [cellsP, Flat.vOf, if_pos rowP, flat_take hu] at hp
  unfold Instr.index
  have hc : 0 ≤ (q : Int) ∧ (q : Int) < 8 := by omega
  simp [run_underlying Try.underlying25, asIntOf]
  rw [if_pos (by omega)]
  first | exact hp | (rw [cellsP]; exact hp)
theorem lies_take {w : World} {b : Nat} {cs : Array Value} {t : TypeId} {fr : Nat × Nat} (hb : w.heap[b]? = some (.cells cs t fr)) (n : Nat) (l : List Value) (h : cs.toList.take n = l) : Lies w ⟨b, 0, none⟩ l := by
  intro j v hv
  rw [Addr.add_mid, Nat.zero_add, cell_of_row _ _ _ _ _ _ hb]
  subst h
  rw [List.getElem?_take] at hv
  split at hv
  · rwa [Array.getElem?_toList] at hv
  · cases hv
end PlanC
namespace PlanN
open Go.ChangeShapes Go.WideShapes Go.ChangeAt Go.RowKit
open Tab PlaceM PlanM PlanC
open May (infoP St)
open SetP (has_any)
theorem ringAt_eq (T : Tab) (g r : Int) : ringAt T g r = if r = 0 then (rowsAt T g).1 else if r = 1 then (rowsAt T g).2 else [] := rfl
theorem next_any (T : Tab) (h : Hd) (g r a want : Int) (w : World) (ht : IsTab w h T) :
    Calls Try.prog 63 #[.agg (T.cells h).toArray, .int .i64 g, .int .i64 r, .int .i64 a, .int .i64 want] w fun e w' => e = .returned (.int .i64 (nextS T g r a want)) ∧ Below w.heap.size w w' := by
  have hsz := (cells_ok ht).size
  have C := Lib.hid (cells_ok ht)
  have IA : Hid ((Try.prog.info? 32).map (·.size) = some (T.cells h).length) := Lib.hid (by rw [List.size_toArray] at hsz; rw [hsz]; exact infoT)
  have RO : Hid (∀ W, Below w.heap.size w W → Calls Try.prog 80 #[.agg (T.cells h).toArray, .int .i64 g] W fun e w' => ∃ s0 s1 : Sl, e = .returned (.agg #[s0.val (rowsAt T g).1.length, s1.val (rowsAt T g).2.length]) ∧ Pair w' (rowsAt T g) s0 s1 ∧ Below W.heap.size W w') := Lib.hid (fun W hb => rowsOf_any T h g W (ht.below hb))
  have A0 : Hid (Below w.heap.size w (w.alloc (.cells (T.cells h).toArray 32))) := Lib.hid ((Below.refl _ _).alloc (Nat.le_refl _) _)
  have A1 : Hid (Lies (w.alloc (.cells (T.cells h).toArray 32)) ⟨w.heap.size, 0, none⟩ (T.cells h)) := Lib.hid (Row.lies_new w _ _)
  have NS : Hid (nextS T g r a want = nextIn (ringAt T g r) a want) := Lib.hid rfl
  generalize nextS T g r a want = res at NS ⊢
  have RA := Lib.hid (ringAt_eq T g r)
  generalize ringAt T g r = row at NS RA
  generalize rowsAt T g = y at RA RO
  obtain ⟨l0, l1⟩ := y
  clear ht
  generalize T.cells h = c at *
  go_enter Try.func63, Try.ntmps63
  go_upto_region 1 with fail
  generalize w.alloc (.cells c.toArray 32) = u at A0 A1 ⊢
  clear hsz
  go_wp2_with (refine Row.wpList_load_g 32 _ rfl (by first | rfl | go_simp) ⟨w.heap.size, 0, none⟩ rfl c _ A1.out Try.underlying32 rfl IA.out ?_)
  refine (RO.out _ A0.out).mono ?_
  rintro e u1 ⟨⟨a0, cap0⟩, ⟨a1, cap1⟩, rfl, hpair, hb⟩
  have B0 : Hid (Below w.heap.size w u1) := Lib.hid (A0.out.trans (hb.mono A0.out.size))
  have HP := Lib.hid hpair
  clear hb A0 A1 RO hpair IA
  rw [show (Value.agg #[Sl.val ⟨a0, cap0⟩ (l0, l1).fst.length, Sl.val ⟨a1, cap1⟩ (l0, l1).snd.length]) = .agg #[.slice a0 l0.length cap0, .slice a1 l1.length cap1] from rfl]
  go_upto_region 2 with (refine Row.wpList_store_new rfl 92 _ _ rfl u1 #[.slice none 0 0, .slice none 0 0] #[.slice a0 l0.length cap0, .slice a1 l1.length cap1] rfl rfl rfl info2 rfl (by simp [Value.oneCell']) ?_)
  have hbo : Below u1.heap.size u1 (u1.alloc (.cells #[.slice a0 l0.length cap0, .slice a1 l1.length cap1] 92)) := (Below.refl _ _).alloc (Nat.le_refl _) _
  have hg := Row.lies_of_block (heap_alloc_new u1 (.cells #[.slice a0 l0.length cap0, .slice a1 l1.length cap1] 92))
  have HL : Hid (Lies (u1.alloc (.cells #[.slice a0 l0.length cap0, .slice a1 l1.length cap1] 92)) ⟨u1.heap.size, 0, none⟩ [.slice a0 l0.length cap0, .slice a1 l1.length cap1]) := Lib.hid hg
  have HQ : Hid (IntRow (u1.alloc (.cells #[.slice a0 l0.length cap0, .slice a1 l1.length cap1] 92)) ⟨a0, cap0⟩ l0 ∧ IntRow (u1.alloc (.cells #[.slice a0 l0.length cap0, .slice a1 l1.length cap1] 92)) ⟨a1, cap1⟩ l1) := Lib.hid ⟨RowOf.below HP.out.1 hbo, RowOf.below HP.out.2 hbo⟩
  have HN : Hid (Below w.heap.size w (u1.alloc (.cells #[.slice a0 l0.length cap0, .slice a1 l1.length cap1] 92))) := Lib.hid (B0.out.trans (hbo.mono B0.out.size))
  clear hg hbo HP B0
  generalize u1.alloc (.cells #[.slice a0 l0.length cap0, .slice a1 l1.length cap1] 92) = w4 at HL HQ HN ⊢
  generalize u1.heap.size = b4 at HL ⊢
  by_cases hr : r = 0 ∨ r = 1
  rotate_left
  · have HF : Hid (-1 = res) := Lib.hid (by rw [NS.out, RA.out, if_neg (by omega), if_neg (by omega)]; exact (next_nil a want).symm)
    have hr' : r < 0 ∨ 2 ≤ r := by omega
    clear hr
    rcases hr' with hr' | hr'
    · go_wp2
      go_ret
      exact ⟨ret_int HF.out, HN.out⟩
    · go_wp2
      go_ret
      exact ⟨ret_int HF.out, HN.out⟩
  obtain ⟨l, sa, cap, k, rfl, hk2, hcell, hrow, hrl⟩ : ∃ (l : List Int) (sa : Option Addr) (cap k : Nat), r = (k : Int) ∧ k < 2 ∧ w4.cell? ⟨b4, 0 + k, none⟩ = some (.slice sa l.length cap) ∧ IntRow w4 ⟨sa, cap⟩ l ∧ row = l := by
    have h0 := HL.out 0 _ rfl
    have h1 := HL.out 1 _ rfl
    rw [Addr.add_mid] at h0 h1
    rcases hr with rfl | rfl
    · exact ⟨l0, a0, cap0, 0, rfl, by omega, h0, HQ.out.1, RA.out⟩
    · exact ⟨l1, a1, cap1, 1, rfl, by omega, h1, HQ.out.2, RA.out⟩
  have HR := Lib.hid hrow
  have K := hrow.len
  unfold maxLen at K
  subst hrl
  clear hr hrow RA HQ HL
  rw [Nat.zero_add] at hcell
  go_wp2_with fail
  clear hcell
  go_loopw [27] (fun i wr => ∃ j : Nat, j ≤ row.length ∧ i = .int .i64 j ∧ (∀ i, i < j → ¬ (a < (i : Int) ∧ SetM.has want (row.getD i 0) = true)) ∧ wr = w4) (fun i _ => row.length - (intOf i).toNat)
  case atStart => exact ⟨0, by omega, rfl, (fun i h => by omega), rfl⟩
  case round =>
    obtain ⟨j, hj, rfl, hall, rfl⟩ := hrel
    have HA := Lib.hid hall
    clear hall
    by_cases hjl : j < row.length
    · have hv := List.getElem?_eq_getElem hjl
      generalize hz : row[j] = z at hv
      obtain ⟨y, hy, hp⟩ := IntRow.at HR.out hv
      obtain rfl : sa = some y := hy
      have hgd : row.getD j 0 = z := by rw [List.getD_eq_getElem?_getD, hv]; rfl
      have HGD := Lib.hid hgd
      clear hv hz hgd
      by_cases haj : a < (j : Int)
      · cases hh : SetM.has want z with
        | true =>
          have HF : Hid ((j : Int) = res) := Lib.hid (by rw [NS.out]; exact (next_hit hjl haj (by rw [HGD.out]; exact hh) HA.out).symm)
          go_wp2_with (go_at_call 59; refine (has_any _ _ _).mono ?_; rintro e w' ⟨rfl, rfl⟩; rw [hh])
          go_ret
          exact ⟨ret_int HF.out, HN.out⟩
        | false =>
          go_wp2_with (go_at_call 59; refine (has_any _ _ _).mono ?_; rintro e w' ⟨rfl, rfl⟩; rw [hh])
          go_roundw
          case rel => exact ⟨j + 1, by omega, by go_num, (fun i hi e => by
            by_cases e2 : i = j
            · subst e2; rw [HGD.out, hh] at e; simp at e
            · exact HA.out i (by omega) e), trivial⟩
          case measure => simp [intOf]; omega
      · go_wp2
        go_roundw
        case rel => exact ⟨j + 1, by omega, by go_num, (fun i hi e => by
          by_cases e2 : i = j
          · subst e2; exact haj e.1
          · exact HA.out i (by omega) e), trivial⟩
        case measure => simp [intOf]; omega
    · have HF : Hid (-1 = res) := Lib.hid (by rw [NS.out]; exact (next_miss (fun i hi => HA.out i (by omega))).symm)
      go_wp2
      go_ret
      exact ⟨ret_int HF.out, HN.out⟩
end PlanN
namespace SetE
open Go.RowKit Go.Shelf
open Go.Proofs.Ytjgpljnbeolapaa
attribute [local go_sem] Oper.semAt_some
/-- The block B lies as it lay. -/
def Kept (B : Nat) (W W' : World) : Prop := W'.heap[B]? = W.heap[B]?
theorem Kept.refl (B : Nat) (W : World) : Kept B W W := rfl
theorem Kept.trans {B : Nat} {A C D : World} (h : Kept B A C) (k : Kept B C D) : Kept B A D := Eq.trans k h
theorem Kept.cell {B o : Nat} {A C : World} (h : Kept B A C) : C.cell? ⟨B, o, none⟩ = A.cell? ⟨B, o, none⟩ := by
  simp only [World.cell?, show C.heap[B]? = A.heap[B]? from h]
theorem Kept.below {n₀ B : Nat} {A C : World} (h : Below n₀ A C) (hB : B < n₀) : Kept B A C := h.block B hB
theorem Kept.setCell {B b o : Nat} (W : World) (v : Value) (h : B ≠ b) : Kept B W (W.setCell ⟨b, o, none⟩ v) := Below.heap_setCell _ _ _ B h
theorem kept_b {B : Nat} {w : World} (hB : B < w.heap.size) (W : World) (l : Nat) (o o' : Obj) (hl : w.heap.size ≤ l) (_ : W.heap[l]? = some o) (_ : o.isCells = false) (_ : o.isWalk = false) : Kept B W (W.putObj l o') :=
  World.putObj_heap_other (by omega)
/-- The iterator itself: for every loop body. -/
theorem each1_in (n : Nat) (hn : 1 ≤ n) (l Bs : Nat) (s : Int) (J Jx : List Int → World → Prop)
    (hY : ∀ pre x W, J pre W → pre.length < (SetM.list s).length → YieldAt Fence.wide (n - 1) Try.prog l #[.int .i64 x] W fun e W' =>
      (e = .returned (.bool true) ∧ J (pre ++ [x]) W' ∧ Kept Bs W W') ∨ (e = .returned (.bool false) ∧ Jx (pre ++ [x]) W'))
    (W : World) (hc : W.cell? ⟨Bs, 0, none⟩ = some (.int .i64 s)) (h0 : J [] W) :
    CallsIn Fence.wide n Try.prog 60 #[.func (.yield l) #[] #[], .pointer (some ⟨Bs, 0, none⟩)] W fun e W' => (∃ v, e = .returned v) ∧
      ((∃ ys, ys = SetM.list s ∧ J ys W') ∨ (∃ pre, pre <+: SetM.list s ∧ Jx pre W')) := by
  refine callsIn_of_wp Try.func60 rfl trivial ?_ rfl
  simp only [Try.ntmps60, List.size_toArray, List.length_cons, List.length_nil, Nat.reduceAdd, Nat.reduceSub, Array.replicate_succ, Array.replicate_zero, List.push_toArray, List.append_toArray, List.nil_append, List.cons_append]
  gi_wp2
  gi_loopw [4] (fun i wr => ∃ k : Nat, k ≤ 8 ∧ i = .int .i64 k ∧ J (SetM.upto s k) wr ∧ Kept Bs W wr)
    (fun i _ => 8 - (intOf i).toNat)
  case atStart => exact ⟨0, Nat.zero_le _, rfl, h0, Kept.refl _ _⟩
  case round =>
    obtain ⟨k, hk, rfl, hJs, hnx⟩ := hrel
    have hcx := (hnx.cell (o := 0)).trans hc
    by_cases hlt : k < 8
    · by_cases hh : SetM.has s k = true
      · obtain ⟨fn, tmps, assign, body, hy, hR⟩ := hY _ (k : Int) wr hJs (SetM.upto_lt s k hlt hh)
        have Hs := Lib.hid (SetM.upto_hit s k hh)
        have Hp := Lib.hid (SetM.upto_list s (k + 1) (by omega))
        gi_wp2_with (refine ⟨trivial, ?_⟩; gi_at_call 59; refine (callsIn_wide.2 (Set.has_any _ _ _)).mono ?_; rintro e w' ⟨rfl, rfl⟩; rw [hh])
        refine hR.mono ?_
        rintro e W3 (⟨rfl, hJ3, hk3⟩ | ⟨rfl, hJx3⟩)
        · gi_wp2
          go_roundw
          case rel => exact ⟨k + 1, by omega, by go_num, by rw [Hs.out]; exact hJ3, hnx.trans hk3⟩
          case measure => simp [intOf]; omega
        · gi_wp2
          refine bodyPost_ret (results_none rfl _ _ _) rfl ?_
          exact ⟨⟨_, rfl⟩, .inr ⟨_, by rw [← Hs.out]; exact Hp.out, hJx3⟩⟩
      · have hh' : SetM.has s k = false := by simpa using hh
        have Hs := Lib.hid (SetM.upto_miss s k hh')
        clear hh
        gi_wp2_with (refine ⟨trivial, ?_⟩; gi_at_call 59; refine (callsIn_wide.2 (Set.has_any _ _ _)).mono ?_; rintro e w' ⟨rfl, rfl⟩; rw [hh'])
        refine ⟨fun _ h => (by cases h), ?_⟩
        gi_wp2
        go_roundw
        case rel => exact ⟨k + 1, by omega, by go_num, by rw [Hs.out]; exact hJs, hnx⟩
        case measure => simp [intOf]; omega
    · obtain rfl : k = 8 := by omega
      gi_wp2
      go_end0
      exact ⟨⟨_, rfl⟩, .inl ⟨_, rfl, hJs⟩⟩
/-- set.Each(s): the set is boxed; the function value captures the box. -/
theorem each_in (n : Nat) (s : Int) (w : World) :
    CallsIn Fence.wide n Try.prog 33 #[.int .i64 s] w fun e w' => e = .returned (.func (.func 60) #[] #[.pointer (some ⟨w.heap.size, 0, none⟩)]) ∧ w' = w.alloc (.cells #[.int .i64 s] 3) := by
  refine callsIn_of_wp Try.func33 rfl trivial ?_ rfl
  simp only [Try.ntmps33, List.size_toArray, List.length_cons, List.length_nil, Nat.reduceAdd, Nat.reduceSub, Array.replicate_succ, Array.replicate_zero, List.push_toArray, List.append_toArray, List.nil_append, List.cons_append]
  gi_wp2
  go_ret
  exact ⟨rfl, rfl⟩
/-- The value that set.Each hands back: the phases of s, in order; or the first of them, where a round has said 'no more'. -/
theorem each_stops (n : Nat) (hn : 1 ≤ n) (Bs : Nat) (s : Int) (w : World) (hBs : Bs < w.heap.size) (hc : w.cell? ⟨Bs, 0, none⟩ = some (.int .i64 s)) :
    SeqStopsK Fence.wide n Try.prog 60 #[.pointer (some ⟨Bs, 0, none⟩)] (fun x : Int => #[Value.int .i64 x]) (Kept Bs) (fun ys => ys = SetM.list s) (fun pre => pre <+: SetM.list s) (SetM.list s).length w := fun l J Jx W hW _ _ hY h0 =>
  each1_in n hn l Bs s J Jx hY W ((hW.cell (p := ⟨Bs, 0, none⟩) hBs).trans hc) h0
theorem first_in (s : Int) (w : World) :
    Calls Try.prog 32 #[.int .i64 s] w fun e W' => e = .returned (.int .i64 (SetM.first s)) ∧ Below w.heap.size w W' := by
  refine (callsIn_wide (n := 3)).1 ?_
  refine callsIn_of_wp_marks Try.func32 rfl trivial ?_ rfl
  simp only [Try.ntmps32, List.size_toArray, List.length_cons, List.length_nil, Nat.reduceAdd, Nat.reduceSub, Array.replicate_succ, Array.replicate_zero, List.push_toArray, List.append_toArray, List.nil_append, List.cons_append]
  gi_wp2_with (refine ⟨trivial, ?_⟩; gi_at_call 33; refine (each_in _ _ _).mono ?_; rintro e w' ⟨rfl, rfl⟩)
  have bO := Boxed.new w 3 (.int .i64 0)
  have bN := Boxed.new (w.alloc (.cells #[.int .i64 0] 3)) 3 (.int .i64 s)
  rw [World.size_alloc] at bN
  have hB0 : Below w.heap.size w ((w.alloc (.cells #[.int .i64 0] 3)).alloc (.cells #[.int .i64 s] 3)) := ((Below.refl _ w).alloc (Nat.le_refl _) _).alloc (by simp) _
  refine wpIn_rangeFunc_ownG rfl (by omega) (gf := 60) (lb := #[.pointer (some ⟨w.heap.size + 1, 0, none⟩)]) rfl trivial (enters_of Try.func60 (by kernel_rfl) rfl)
    (each_stops _ (by omega) (w.heap.size + 1) s _ (by simp) bN.cell) Kept.trans (kept_b (by simp)) (Below.refl _ _) (fun _ => rfl)
    (fun pre W => (pre = [] ∧ Boxed W w.heap.size 3 (.int .i64 0)) ∧ Below w.heap.size w W)
    (fun c pre W => (c = .ret ∧ ∃ x, pre = [x] ∧ Boxed W w.heap.size 3 (.int .i64 x)) ∧ Below w.heap.size w W)
    (OwnFrom.and (Own.from (fun s A B row hs hg hr => ⟨hs.1, hs.2.kept hg (fun e => by obtain ⟨o, ho, hc⟩ := hr _ e.symm; rw [show A.heap[_]? = _ from hs.2] at ho; cases ho; cases hc)⟩) _) (ownFrom_below (Nat.le_refl _) (by simp; omega)))
    (fun c => OwnFrom.and (Own.from (fun s A B row hs hg hr => by obtain ⟨h1, x, h2, h3⟩ := hs; exact ⟨h1, x, h2, h3.kept hg (fun e => by obtain ⟨o, ho, hc⟩ := hr _ e.symm; rw [show A.heap[_]? = _ from h3] at ho; cases ho; cases hc)⟩) _) (ownFrom_below (Nat.le_refl _) (by simp; omega)))
    ⟨⟨rfl, bO.alloc _⟩, hB0⟩
    (fun x => { tmps := #[.int .i64 s, undef, .pointer (some ⟨w.heap.size, 0, none⟩), .int .i64 x, .int .i64 s, .func (.func 60) #[] #[.pointer (some ⟨w.heap.size + 1, 0, none⟩)], .int .i64 x, undef], defers := [] }) ?assign ?body ?done ?stop
  case assign =>
    intro l x W K hK
    gi_wp2
    exact hK
  case body =>
    rintro l pre x W ⟨⟨rfl, hv⟩, hB⟩ hlt
    have hc := hv.cell
    have hf := hv.frozen
    gi_wp2
    exact ⟨(KeepsOthers.setCell _ _ _).from _, ⟨rfl, x, rfl, hv.set _⟩, hB.setCell (p := ⟨w.heap.size, 0, none⟩) (Nat.le_refl _) _⟩
  case done =>
    rintro D ys W hD rfl ⟨⟨hn, hv⟩, hB⟩ hK
    have hc := hv.cell
    have hf := hv.frozen
    have HF : Hid (SetM.first s = -1) := Lib.hid (by unfold SetM.first; rw [hn]; rfl)
    clear hn
    gi_wp2
    have hv2 := hv.set (.int .i64 (-1))
    have hK' := (KeepsOthers.setCell W ⟨w.heap.size, 0, none⟩ (.int .i64 (-1))).same D _ hK rfl
    refine ⟨by simp, .inl ⟨_, _, rfl, run_takeDeferred hK', ?_⟩⟩
    have hc5 := cell_kept hv2.cell (grownBy_putObj' _ D (.deferred none)) (fun r e => by cases e; exact ⟨_, hK', rfl⟩)
    refine ⟨.int .i64 (-1), ?_, by rw [HF.out], (hB.setCell (p := ⟨w.heap.size, 0, none⟩) (Nat.le_refl _) _).trans (belowK_b (w := w) (Nat.le_refl _) _ D _ _ (by simp at hD; omega) hK' rfl rfl)⟩
    simp [results, Try.f32, go_sem, hc5]
  case stop =>
    rintro D c pre W hD hpre ⟨⟨rfl, x, rfl, hv⟩, hB⟩ hK
    have HF : Hid (SetM.first s = x) := Lib.hid (by unfold SetM.first; obtain ⟨t, ht⟩ := hpre; rw [← ht]; rfl)
    gi_wp2
    refine ⟨by simp, .inl ⟨_, _, rfl, run_takeDeferred hK, ?_⟩⟩
    have hc5 := cell_kept hv.cell (grownBy_putObj' _ D (.deferred none)) (fun r e => by cases e; exact ⟨_, hK, rfl⟩)
    refine ⟨.int .i64 x, ?_, by rw [HF.out], hB.trans (belowK_b (w := w) (Nat.le_refl _) W D _ _ (by simp at hD; omega) hK rfl rfl)⟩
    simp [results, Try.f32, go_sem, hc5]
end SetE
namespace Rg
open Go Go.ChangeShapes Go.WideShapes Go.ChangeAt Go.RowKit
open Tab Flat TabArg QL Ru PlanM
open ChkM (cfAt)
open Clear (phAt)
open PlaceM (where_ spots Spt)
open May (infoP)
theorem group_row {w : World} {h : Hd} {T : Tab} (ht : IsTab w h T) {q : Nat} (hq : q < T.groups.length) {k : Nat} (hk : k < 2) : ∃ (x : Addr) (gcap : Nat) (sa : Option Addr) (cap : Nat), (T.cells h).toArray[104]? = some (.slice (some x) T.groups.length gcap) ∧ w.cell? (x.add (q * 2 + k)) = some (.slice sa (ringAt T q k).length cap) ∧ IntRow w ⟨sa, cap⟩ (ringAt T q k) := by
  have C := cells_ok ht
  obtain ⟨gs, hgd, hgr⟩ := ht.groups
  have hgl : T.groups.length = gs.length := by rw [← hgd, List.length_map]
  have hv := List.getElem?_eq_getElem (show q < gs.length by omega)
  generalize gs[q] = v at hv
  have HR : rowsAt T q = v.data := rows_in (by rw [← hgd, List.getElem?_map, hv]; rfl)
  obtain ⟨x, hx, hc⟩ := hgr.1.at hv
  have hok := hgr.2 v (List.mem_of_getElem? hv)
  have hg := C.g
  simp only [Sl.val, hx] at hg
  match k, hk with
  | 0, _ =>
    have h0 := hc 0 _ rfl
    rw [add_two] at h0
    have e : ringAt T q ((0 : Nat) : Int) = v.r0 := by unfold ringAt; rw [HR]; rfl
    exact ⟨x, h.g.cap, v.s0.a, v.s0.cap, hg, by rw [e]; exact h0, by rw [e]; exact hok.1⟩
  | 1, _ =>
    have h0 := hc 1 _ rfl
    rw [add_two] at h0
    have e : ringAt T q ((1 : Nat) : Int) = v.r1 := by unfold ringAt; rw [HR]; rfl
    exact ⟨x, h.g.cap, v.s1.a, v.s1.cap, hg, by rw [e]; exact h0, by rw [e]; exact hok.2⟩
theorem rg_at (r : Rg) {k : Nat} (hk : k < 2) : r.cells[1 + k]? = some (I (r.at k)) := by
  match k, hk with
  | 0, _ => rfl
  | 1, _ => rfl
theorem now_any (T : Tab) (h : Hd) (r : Rg) (k : Nat) (w : World) (ht : IsTab w h T) (hg : 0 ≤ r.g ∧ r.g < T.groups.length) (hk : k < 2) : Calls Try.prog 36 #[.agg (T.cells h).toArray, .agg r.cells.toArray, .int .i64 k] w fun e w' => e = .returned (.int .i64 (nowS T r.g k (r.at k))) ∧ Below w.heap.size w w' := by
  obtain ⟨q, hq⟩ := Int.eq_ofNat_of_zero_le hg.1
  have hql : q < T.groups.length := by omega
  obtain ⟨x, gcap, sa, cap, q104, hrow, hir⟩ := group_row ht hql hk
  have HI : Hid (∀ W, Below w.heap.size w W → IntRow W ⟨sa, cap⟩ (ringAt T q k)) := Lib.hid (fun W hb => hir.below hb)
  have HC : Hid (∀ W, Below w.heap.size w W → W.cell? (x.add (q * 2 + k)) = some (.slice sa (ringAt T q k).length cap)) := Lib.hid (fun W hb => (hb.cell (World.block_lt_of_cell? w _ hrow)).trans hrow)
  have HN : Hid (nowS T r.g k (r.at k) = if 0 ≤ r.at k ∧ r.at k < ((ringAt T q k).length : Int) then SetM.first (SetM.of [(ringAt T q k).getD (r.at k).toNat 0] : Nat) else -1) := Lib.hid (by rw [hq]; rfl)
  have HG := Lib.hid hq
  have HQ := Lib.hid hql
  have hcn := rg_at r hk
  generalize hnn : T.groups.length = n at *
  have KN : n ≤ maxLen := by obtain ⟨gs, hgd, hgr⟩ := ht.groups; have := hgr.1.len; rw [← hgd, List.length_map] at hnn; omega
  have KL := hir.len
  unfold maxLen at KN KL
  generalize ringAt T q k = row at *
  have NV : Hid (nowS T r.g k (r.at k) = nowS T r.g k (r.at k)) := Lib.hid rfl
  generalize nowS T r.g k (r.at k) = res at *
  generalize hat : r.at k = a at *
  have CN := Lib.hid hcn
  generalize hcs : (T.cells h).toArray = cs at *
  have C104 := Lib.hid q104
  clear ht hir hrow hcn q104 hcs hnn hat hg hql hq NV
  have hn0 := Blk.Bks.nil w
  have hn1 := hn0.alloc cs 32
  have hn2 := hn1.alloc r.cells.toArray 36
  rw [show (w.alloc (.cells cs 32)).heap.size = w.heap.size + 1 by simp] at hn2
  clear hn0
  clear hn1
  go_enter Try.func36, Try.ntmps36
  go_upto_region 1 with fail
  generalize World.alloc (World.alloc w _) _ = v at hn2 ⊢
  generalize hg1 : w.heap.size + 1 = gr at hn2 ⊢
  generalize hg0 : w.heap.size = gt at hn2 ⊢
  clear hg0 hg1
  have H0 := Lib.hid hn2
  clear hn2
  have a0 : v.cell? ⟨gt, 104, none⟩ = some (.slice (some x) n gcap) := H0.out.cell 1 104 rfl C104.out
  have a1 : v.cell? ⟨gr, 0, none⟩ = some (I q) := by rw [← HG.out]; exact H0.out.cell 0 0 rfl rfl
  have d0 : decide ((q : Int) < 0) = false := decide_eq_false (by omega)
  have d1 : decide ((n : Int) ≤ (q : Int)) = false := decide_eq_false (by have := HQ.out; omega)
  have d2 : decide ((k : Int) < 0) = false := decide_eq_false (by omega)
  have d3 : decide ((2 : Int) ≤ (k : Int)) = false := decide_eq_false (by omega)
  have hk2 : (k : Int) < 2 := by omega
  have hk0 : 0 ≤ (k : Int) := by omega
  have hk3 : ((k : Int)).toNat = k := by omega
  have hqn : (q : Int) < n := by have := HQ.out; omega
  go_upto_region 3 with fail
  clear d0 d1 d2 d3
  have HV := Lib.hid (H0.out.bel)
  have a2 : ∀ p : QB.By v.heap.size v, p.world.cell? ⟨gt, 104, none⟩ = some (.slice (some x) n gcap) := fun p => (H0.out.by p).cell 1 104 rfl C104.out
  have a3 : ∀ p : QB.By v.heap.size v, p.world.cell? ⟨gr, 0, none⟩ = some (I q) := fun p => by rw [← HG.out]; exact (H0.out.by p).cell 0 0 rfl rfl
  have a4 : ∀ p : QB.By v.heap.size v, p.world.cell? ⟨gr, 1 + k, none⟩ = some (I a) := fun p => (H0.out.by p).cell 0 (1 + k) rfl (by rw [List.getElem?_toArray]; exact CN.out)
  have a5 : ∀ p : QB.By v.heap.size v, p.world.cell? (x.add (q * 2 + k)) = some (.slice sa row.length cap) := fun p => HC.out _ (HV.out.trans (p.below.mono HV.out.size))
  have a6 : ∀ p : QB.By v.heap.size v, p.world.cell? ((x.add (q * 2)).add k) = some (.slice sa row.length cap) := fun p => by rw [add_two]; exact a5 p
  refine QB.region_below v.heap.size (by kernel_rfl) (by kernel_rfl) ?_
  repeat (first | (quiet_step (fail)) | (go_big_quiet_step (fail)))
  refine wpQuiet_nil ?_
  intro _ hw'
  obtain ⟨pq, rfl⟩ := hw'
  have HP := Lib.hid (H0.out.by pq)
  generalize pq.world = vp at HP ⊢
  clear a0 a1 a2 a3 a4 a5 a6
  by_cases h0 : a < 0
  · have HR : Hid (-1 = res) := Lib.hid (by rw [HN.out, if_neg (by omega)])
    go_wp2
    go_ret
    exact ⟨ret_int HR.out, HP.out.bel⟩
  by_cases h1 : (row.length : Int) ≤ a
  · have HR : Hid (-1 = res) := Lib.hid (by rw [HN.out, if_neg (by omega)])
    have d1 : decide (a < 0) = false := decide_eq_false h0
    have d2 : decide ((row.length : Int) ≤ a) = true := decide_eq_true h1
    go_wp2
    go_ret
    exact ⟨ret_int HR.out, HP.out.bel⟩
  obtain ⟨i, rfl⟩ := Int.eq_ofNat_of_zero_le (show 0 ≤ a by omega)
  have hi : i < row.length := by omega
  have hv := List.getElem?_eq_getElem hi
  generalize row[i] = z at hv
  obtain ⟨y, hy, hcz⟩ := IntRow.at (HI.out vp HP.out.bel) hv
  obtain rfl : sa = some y := hy
  have HR : Hid (SetM.first ((SetM.of [z] : Nat) : Int) = res) := Lib.hid (by rw [HN.out, if_pos ⟨by omega, by omega⟩, Int.toNat_natCast, List.getD_eq_getElem?_getD, hv]; rfl)
  clear hv
  have d1 : decide ((i : Int) < 0) = false := decide_eq_false h0
  have d2 : decide ((row.length : Int) ≤ (i : Int)) = false := decide_eq_false h1
  have hil : (i : Int) < row.length := by omega
  generalize hs : ((SetM.of [z] : Nat) : Int) = sz at HR
  have SO : Hid (∀ W : World, Calls Try.prog 58 #[.slice (some ⟨W.heap.size, 0, none⟩) 1 1] (W.alloc (.cells #[.int .i64 z] 3)) fun e w' => e = .returned (.int .i64 sz) ∧ W.alloc (.cells #[.int .i64 z] 3) = w') := Lib.hid (fun W => by rw [← hs]; exact SetP.of_any _ _ [z] _ (PlanW.row_one W z 3 _ rfl))
  clear hs
  go_upto_region 6 with fail
  go_wp2_with (go_at_call 58; with_reducible refine (SO.out _).mono ?_; rintro e w' ⟨rfl, rfl⟩)
  have HQ2 := Lib.hid (HP.out.alloc #[.int .i64 z] 3)
  generalize vp.alloc _ = vq at HQ2 ⊢
  refine (SetE.first_in _ _).mono ?_
  rintro e w9 ⟨rfl, b9⟩
  go_wp2
  go_ret
  exact ⟨ret_int HR.out, (HQ2.out.step b9).bel⟩
end Rg
end Go.Proofs.Ytjgpljnbeolapaa
