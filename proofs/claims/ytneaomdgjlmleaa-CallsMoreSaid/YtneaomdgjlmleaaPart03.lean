/- 11 texts in one file, in build order. -/
import Derived.Test.YtneaomdgjlmleaaRows
import Derived.Test.YtneaomdgjlmleaaPart01
import Derived.Test.YtneaomdgjlmleaaPart02
import Derived.Deep.Cut
import Derived.Deep.CutRange
import Derived.Great.BuildSlice
import Derived.LoopTactic
import Derived.StillTailTactics
import Derived.Laws.Rows
import Derived.Laws.FloatArith
set_option linter.unusedVariables false
set_option linter.unusedSimpArgs false
set_option linter.unusedSectionVars false
set_option maxHeartbeats 8000000
set_option maxRecDepth 100000
namespace Go.Proofs.Ytneaomdgjlmleaa
namespace Clear
open Go.ChangeShapes Go.WideShapes Go.ChangeAt Go.RowKit
open Tab Gath RefS OnS RefC
open May (St phases_in infoP infoT row_new)
def phAt (T : Tab) (p : Int) : Ph := T.phases.getD p.toNat default
def clr (T : Tab) (p : Int) : Int := sums [(phAt T p).yellow, (phAt T p).red]
def clearS (T : Tab) : Int := mosts ((SetM.list (onS T : Nat)).map (clr T))
theorem sum_len (a : Option Addr) (cap : Nat) (L : List Int) (n : Nat) (hn : L.length = n) (w : World) (h : IntRow w ⟨a, cap⟩ L) :
    Calls Try.prog 70 #[.slice a n cap] w fun e w' => e = .returned (.int .i64 (sums L)) ∧ w = w' := by
  subst hn; exact sum_row a cap L w h
theorem clear_any (T : Tab) (h : Hd) (w : World) (ht : IsTab w h T) :
    Calls Try.prog 90 #[.agg (T.cells h).toArray] w fun e w' => e = .returned (.int .i64 (clearS T)) ∧ Below w.heap.size w w' := by
  have C := Lib.hid (cells_ok ht)
  have hsz := C.out.size
  have IA : Hid ((Try.prog.info? 31).map (·.size) = some (T.cells h).length) := Lib.hid (by rw [List.size_toArray] at hsz; rw [hsz]; exact infoT)
  have ON : Hid (∀ W, Below w.heap.size w W → Calls Try.prog 19 #[.agg (T.cells h).toArray] W fun e w' => e = .returned (.int .i64 (onS T : Nat)) ∧ Below W.heap.size W w') := Lib.hid (fun W hb => on_any T h W (ht.below hb))
  have L8 := Lib.hid ht.ph
  have S0 := Lib.hid (St.box (cs := (T.cells h).toArray) ht)
  have RS : Hid (clearS T = mosts ((SetM.list (onS T : Nat)).map (clr T))) := Lib.hid rfl
  generalize clearS T = r at RS ⊢
  generalize ((onS T : Nat) : Int) = os at RS ON
  obtain ⟨i0, hi, hz0, hz1, hz2⟩ := info_parts info3
  clear ht
  generalize T.cells h = c at *
  go_enter Try.func90, Try.ntmps90
  go_upto_region 1 with fail
  generalize w.alloc (.cells c.toArray 31) = w1 at S0 ⊢
  clear hsz
  have LT : Hid (Lies w1 ⟨w.heap.size, 0, none⟩ c) := Lib.hid (by have := Row.lies_of_block S0.out.blk; simpa using this)
  go_wp2_with (refine Row.wpList_load_g 31 _ rfl (by first | rfl | go_simp) ⟨w.heap.size, 0, none⟩ rfl c _ LT.out Try.underlying31 rfl IA.out ?_)
  refine (ON.out _ S0.out.bel).mono ?_
  rintro e w2 ⟨rfl, hb⟩
  have S2 := Lib.hid (S0.out.step hb)
  clear hb S0 LT ON IA
  go_wp2_with fail
  refine (rlist_any os _).mono ?_
  rintro e w3 ⟨v0, rfl, hown, hb⟩
  have S3 := Lib.hid (S2.out.step hb)
  obtain ⟨sa, sc, rfl, hrow⟩ := row_of hown
  have HR := Lib.hid hrow
  have hl8 := SetM.list_len os
  have BD := Lib.hid (SetM.list_bd os)
  clear hown hrow hb S2
  generalize SetM.list os = M at RS HR hl8 BD ⊢
  go_wp2_with fail
  go_loopw [3, 10] (fun v i wr => ∃ q : Nat, q ≤ M.length ∧ i = .int .i64 q ∧ OwnsI w3.heap.size wr v ((M.take q).map (clr T)) ∧ Below w3.heap.size w3 wr) (fun _ i _ => M.length - (intOf i).toNat)
  case atStart => exact ⟨0, by omega, rfl, Owns.nil, Below.refl _ _⟩
  case round =>
    obtain ⟨q, hq, rfl, hown, hbel⟩ := hrel
    have HO := Lib.hid hown
    have HB := Lib.hid hbel
    clear hown hbel
    by_cases hlt : q < M.length
    · obtain ⟨x, hx, hc⟩ := (HR.out.below HB.out).cells hlt
      obtain rfl : sa = some x := hx
      have c0 := hc q hlt
      have hmem : M.getD q 0 ∈ M := by rw [List.getD_eq_getElem?_getD, List.getElem?_eq_getElem hlt]; exact List.getElem_mem hlt
      have hbd := BD.out _ hmem
      have MS : Hid ((M.take (q + 1)).map (clr T) = (M.take q).map (clr T) ++ [clr T (M.getD q 0)]) := Lib.hid (by rw [RefS.take_succ M q hlt, List.map_append]; rfl)
      clear hc hmem
      generalize M.getD q 0 = p at c0 hbd MS
      obtain ⟨p0, p8⟩ := hbd
      obtain ⟨k, rfl⟩ := Int.eq_ofNat_of_zero_le p0
      have hk : k < 8 := by omega
      have hv : T.phases[k]? = some (phAt T k) := by
        unfold phAt
        rw [Int.toNat_natCast, List.getD_eq_getElem?_getD, List.getElem?_eq_getElem (by rw [L8.out]; exact hk)]; rfl
      have CL : Hid (clr T k = sums [(phAt T k).yellow, (phAt T k).red]) := Lib.hid rfl
      generalize phAt T k = u at hv CL
      obtain ⟨y, hy, hcc⟩ := (phases_in (S3.out.step HB.out).blk C.out L8.out).at hv
      obtain rfl := Option.some.inj hy
      have d6 : wr.cell? ⟨w.heap.size, k * 13 + 6, none⟩ = some (I u.yellow) := by have := hcc 6 _ rfl; rwa [Addr.add_mid, Nat.zero_add, Addr.add_mid] at this
      have d7 : wr.cell? ⟨w.heap.size, k * 13 + 7, none⟩ = some (I u.red) := by have := hcc 7 _ rfl; rwa [Addr.add_mid, Nat.zero_add, Addr.add_mid] at this
      have hl3 : w.heap.size < w3.heap.size := (Array.getElem?_eq_some_iff.1 S3.out.blk).1
      have CY : Hid (∀ w', Below w3.heap.size wr w' → w'.cell? ⟨w.heap.size, k * 13 + 6, none⟩ = some (I u.yellow)) := Lib.hid (fun w' hb => (hb.cell (show w.heap.size < _ from hl3)).trans d6)
      have CR : Hid (∀ w', Below w3.heap.size wr w' → w'.cell? ⟨w.heap.size, k * 13 + 7, none⟩ = some (I u.red)) := Lib.hid (fun w' hb => (hb.cell (show w.heap.size < _ from hl3)).trans d7)
      clear hv hcc hy d6 d7
      have hwr := HB.out.size
      have hlen : ((M.take q).map (clr T)).length ≤ 8 := by rw [List.length_map, List.length_take]; omega
      go_upto_region 5 with fail
      refine wp_region_held (S := fun w' => Below w3.heap.size wr w') (by kernel_rfl) ?_
      have hO : OwnsI w3.heap.size { wr with drawn := wr.drawn + 1 } u3 ((M.take q).map (clr T)) := HO.out
      have hS : Below w3.heap.size wr { wr with drawn := wr.drawn + 1 } := (Below.refl _ _).drew
      have hv3 : w3.heap.size ≤ ({ wr with drawn := wr.drawn + 1 } : World).heap.size := hwr
      generalize ({ wr with drawn := wr.drawn + 1 } : World) = v at hS hO hv3 ⊢
      generalize (M.take q).map (clr T) = P1 at hO hlen MS HO
      refine Held.take (i := 0) (some 14) rfl (v := ?_) rfl (by kernel_rfl) (by kernel_rfl) (by kernel_rfl) (fun _ _ _ h => h) (Or.inl ⟨by rfl, ?_⟩) hS ?_
      rotate_left
      · intro w' hw'
        have c6 := CY.out w' hw'
        have c7 := CR.out w' hw'
        go_simp
        try with_reducible rfl
      (try dsimp only [Act.put]); (try simp only [List.setIfInBounds_toArray, List.set_cons_zero, List.set_cons_succ])
      refine Held.take (i := 1) (some 15) rfl (v := ?_) rfl (by kernel_rfl) (by kernel_rfl) (by kernel_rfl) (fun _ _ _ h => h) (Or.inl ⟨by rfl, ?_⟩) hS ?_
      rotate_left
      · intro w' hw'
        have c6 := CY.out w' hw'
        have c7 := CR.out w' hw'
        go_simp
        try with_reducible rfl
      (try dsimp only [Act.put]); (try simp only [List.setIfInBounds_toArray, List.set_cons_zero, List.set_cons_succ])
      refine Held.take (i := 2) (some 16) rfl (v := ?_) rfl (by kernel_rfl) (by kernel_rfl) (by kernel_rfl) (fun _ _ _ h => h) (Or.inl ⟨by rfl, ?_⟩) hS ?_
      rotate_left
      · intro w' hw'
        have c6 := CY.out w' hw'
        have c7 := CR.out w' hw'
        go_simp
        try with_reducible rfl
      (try dsimp only [Act.put]); (try simp only [List.setIfInBounds_toArray, List.set_cons_zero, List.set_cons_succ])
      refine Held.take (i := 3) (some 17) rfl (v := ?_) rfl (by kernel_rfl) (by kernel_rfl) (by kernel_rfl) (fun _ _ _ h => h) (Or.inl ⟨by rfl, ?_⟩) hS ?_
      rotate_left
      · intro w' hw'
        have c6 := CY.out w' hw'
        have c7 := CR.out w' hw'
        go_simp
        try with_reducible rfl
      (try dsimp only [Act.put]); (try simp only [List.setIfInBounds_toArray, List.set_cons_zero, List.set_cons_succ])
      refine Held.take (i := 4) (some 18) rfl (v := ?_) rfl (by kernel_rfl) (by kernel_rfl) (by kernel_rfl) (fun _ _ _ h => h) (Or.inl ⟨by rfl, ?_⟩) hS ?_
      rotate_left
      · intro w' hw'
        have c6 := CY.out w' hw'
        have c7 := CR.out w' hw'
        go_simp
        try with_reducible rfl
      (try dsimp only [Act.put]); (try simp only [List.setIfInBounds_toArray, List.set_cons_zero, List.set_cons_succ])
      refine Held.take (i := 5) (some 19) rfl (v := ?_) rfl (by kernel_rfl) (by kernel_rfl) (by kernel_rfl) (fun _ _ _ h => h) (Or.inl ⟨by rfl, ?_⟩) hS ?_
      rotate_left
      · intro w' hw'
        have c6 := CY.out w' hw'
        have c7 := CR.out w' hw'
        go_simp
        try with_reducible rfl
      (try dsimp only [Act.put]); (try simp only [List.setIfInBounds_toArray, List.set_cons_zero, List.set_cons_succ])
      refine Held.take (i := 6) (some 20) rfl (v := ?_) rfl (by kernel_rfl) (by kernel_rfl) (by kernel_rfl) (fun _ _ _ h => h) (Or.inl ⟨by rfl, ?_⟩) hS ?_
      rotate_left
      · intro w' hw'
        have c6 := CY.out w' hw'
        have c7 := CR.out w' hw'
        go_simp
        try with_reducible rfl
      (try dsimp only [Act.put]); (try simp only [List.setIfInBounds_toArray, List.set_cons_zero, List.set_cons_succ])
      refine Held.take (i := 7) (some 21) rfl (v := ?_) rfl (by kernel_rfl) (by kernel_rfl) (by kernel_rfl) (fun _ _ _ h => h) (Or.inl ⟨by rfl, ?_⟩) hS ?_
      rotate_left
      · intro w' hw'
        have c6 := CY.out w' hw'
        have c7 := CR.out w' hw'
        go_simp
        try with_reducible rfl
      (try dsimp only [Act.put]); (try simp only [List.setIfInBounds_toArray, List.set_cons_zero, List.set_cons_succ])
      refine Held.take (i := 8) (some 22) rfl (v := ?_) rfl (by kernel_rfl) (by kernel_rfl) (by kernel_rfl) (fun _ _ _ h => h) (Or.inl ⟨by rfl, ?_⟩) hS ?_
      rotate_left
      · intro w' hw'
        have c6 := CY.out w' hw'
        have c7 := CR.out w' hw'
        go_simp
        try with_reducible rfl
      (try dsimp only [Act.put]); (try simp only [List.setIfInBounds_toArray, List.set_cons_zero, List.set_cons_succ])
      refine Held.take (i := 9) (some 23) rfl (v := ?_) rfl (by kernel_rfl) (by kernel_rfl) (by kernel_rfl) (fun _ _ _ h => h) (Or.inl ⟨by rfl, ?_⟩) hS ?_
      rotate_left
      · intro w' hw'
        have c6 := CY.out w' hw'
        have c7 := CR.out w' hw'
        go_simp
        try with_reducible rfl
      (try dsimp only [Act.put]); (try simp only [List.setIfInBounds_toArray, List.set_cons_zero, List.set_cons_succ])
      refine Held.take (i := 10) (some 24) rfl (v := ?_) rfl (by kernel_rfl) (by kernel_rfl) (by kernel_rfl) (fun _ _ _ h => h) (Or.inl ⟨by rfl, ?_⟩) hS ?_
      rotate_left
      · intro w' hw'
        have c6 := CY.out w' hw'
        have c7 := CR.out w' hw'
        go_simp
        try with_reducible rfl
      (try dsimp only [Act.put]); (try simp only [List.setIfInBounds_toArray, List.set_cons_zero, List.set_cons_succ])
      clear CY CR
      refine wpAnyH_ready (rs := [11]) (by kernel_rfl) (by simp) (AllReadyH.cons rfl (fun K hK => ?_) AllReadyH.nil)
      go_simp
      have r1 : Hid (IntRow (v.alloc (.cells #[I u.yellow, I u.red] 3)) ⟨some ⟨v.heap.size, 0, none⟩, 2⟩ [u.yellow, u.red]) := Lib.hid (row_new v 3 [u.yellow, u.red] 2 rfl (by decide) _ rfl)
      have o1 := hO.below ((Below.refl v.heap.size v).alloc (Nat.le_refl _) (.cells #[I u.yellow, I u.red] 3))
      have s1 := hS.alloc hv3 (.cells #[I u.yellow, I u.red] 3)
      have z1 : (v.alloc (.cells #[I u.yellow, I u.red] 3)).heap.size = v.heap.size + 1 := by simp
      have v1 : w3.heap.size ≤ (v.alloc (.cells #[I u.yellow, I u.red] 3)).heap.size := by rw [z1]; omega
      clear hS hO z1
      generalize v.heap.size = b1 at r1 ⊢
      generalize World.alloc v _ = v at r1 o1 s1 v1 ⊢
      refine hK.out _ _ s1 (fun hS => ?_)
      clear hK K s1
      refine wpAnyH_ready (rs := [12]) (by kernel_rfl) (by simp) (AllReadyH.cons rfl (fun K hK => ?_) AllReadyH.nil)
      go_simp
      refine (sum_len (some ⟨b1, 0, none⟩) 2 [u.yellow, u.red] 2 rfl _ r1.out).mono ?_
      rintro e w' ⟨rfl, hq⟩
      subst w'
      rw [← CL.out]
      go_simp
      refine hK.out _ _ hS (fun hS => ?_)
      clear hK K r1
      generalize clr T ((k : Nat) : Int) = z at MS ⊢
      refine wpAnyH_ready (rs := [13]) (by kernel_rfl) (by simp) (AllReadyH.cons rfl (fun K hK => ?_) AllReadyH.nil)
      go_simp
      have c1 : (v.alloc (.cells #[I z] 3)).cell? ⟨v.heap.size, 0, none⟩ = some (I z) := by rw [cell_of_row _ _ _ _ _ _ (heap_alloc_new v _)]; rfl
      have o2 := o1.below ((Below.refl v.heap.size v).alloc (Nat.le_refl _) (.cells #[I z] 3))
      have s2 := hS.alloc v1 (.cells #[I z] 3)
      have z2 : (v.alloc (.cells #[I z] 3)).heap.size = v.heap.size + 1 := by simp
      have v2 : w3.heap.size ≤ (v.alloc (.cells #[I z] 3)).heap.size := by rw [z2]; omega
      clear hS o1 v1 z2
      generalize v.heap.size = b2 at c1 ⊢
      generalize World.alloc v _ = v at c1 o2 s2 v2 ⊢
      refine hK.out _ _ s2 (fun hS => ?_)
      clear hK K s2
      refine wpAnyH_ready (rs := [14]) (by kernel_rfl) (by simp) (AllReadyH.cons rfl (fun K hK => ?_) AllReadyH.nil)
      rw [if_pos (by rfl)]
      refine wp_append_own _ _ _ _ rfl w3.heap.size 3 i0 (.int .i64 0) 1 8 Try.underlying39 hi hz0 hz1 hz2 rfl (by decide) u3 P1.length _ rfl o2 ⟨b2, 0, none⟩ 1 1 [I z] rfl rfl ?c1 ?c2 ?c3 ?c4 v2 ?_
      case c1 =>
        intro j e hj
        match j, hj with
        | 0, hj => simp at hj; subst hj; rw [Tab.add_zero]; exact c1
      case c2 => intro e he; simp at he; subst he; rfl
      case c3 => unfold maxLen; omega
      case c4 => omega
      intro v' w5 hown' hgrow hnil'
      have s3 : Below w3.heap.size wr w5 := hS.grown hgrow (by omega) (fun m hm => (show OwnsI w3.heap.size v u3 P1 from o2).blk m hm)
      have HO2 : Hid (OwnsI w3.heap.size w5 v' (P1 ++ [z])) := Lib.hid (Owns.snoc hown')
      clear hown' hgrow hnil' hS o2 c1 v2
      refine hK.out _ _ s3 (fun hS => ?_)
      clear hK K s3
      refine Held.take (i := 15) (some 3) rfl (v := ?_) rfl (by kernel_rfl) (by kernel_rfl) (by kernel_rfl) (fun _ _ _ h => h) (Or.inl ⟨by rfl, ?_⟩) hS ?_
      rotate_left
      · intro w' hw'
        go_simp
        try with_reducible rfl
      (try dsimp only [Act.put]); (try simp only [List.setIfInBounds_toArray, List.set_cons_zero, List.set_cons_succ])
      refine wpAnyH_done (by kernel_rfl) ?_ _
      have HB2 := Lib.hid (HB.out.trans hS)
      clear hS
      go_wp2
      go_roundw
      case rel => exact ⟨q + 1, by omega, by go_num, by rw [MS.out]; exact HO2.out, HB2.out⟩
      case measure => simp [intOf]; omega
    · have HE : Hid ((M.take q).map (clr T) = M.map (clr T)) := Lib.hid (by rw [List.take_of_length_le (by omega)])
      obtain ⟨⟨ea, ec⟩, hs, hrow⟩ := HO.out.row (enc := fun n => [I n]) (fun _ => rfl)
      rw [HE.out] at hs hrow
      have HRR := Lib.hid hrow
      have HF : Hid (Below w.heap.size w wr) := Lib.hid ((S3.out.step HB.out).bel)
      clear hrow HE
      subst hs
      generalize M.map (clr T) = P2 at RS HRR ⊢
      rw [show (Sl.val ⟨ea, ec⟩ P2.length) = .slice ea P2.length ec from rfl]
      go_wp2_with fail
      refine (most_row ea ec P2 _ HRR.out).mono ?_
      rintro e w' ⟨rfl, rfl⟩
      rw [← RS.out]
      go_wp2
      go_ret
      exact ⟨rfl, HF.out⟩
end Clear
namespace Cl
open Go.ChangeShapes Go.WideShapes Go.ChangeAt Go.RowKit
open Tab PlaceM OnS Phx QL
open Clear (phAt)
open RefS (rhas_any rlist_any rwith_any row_of)
open May (infoP infoT phases_in)
theorem on_wh : ∀ (i : Nat) (l : List Ph), onTo i l = whTo (fun _ _ => true) i l
  | _, [] => rfl
  | i, p :: l => by rw [onTo, whTo, on_wh (i + 1) l, Bool.and_true]
theorem on_test {T : Tab} (h8 : T.phases.length = 8) {k : Nat} {p : Ph} (hp : T.phases[k]? = some p) : (onS T).testBit k = p.on := by
  have := wh_test (r := fun _ _ => true) h8 hp
  rw [Bool.and_true] at this
  rw [← this]
  unfold onS onL whS
  rw [on_wh]
theorem at_of {T : Tab} (h8 : T.phases.length = 8) {k : Nat} (hk : k < 8) : T.phases[k]? = some (phAt T k) := by
  unfold Clear.phAt
  rw [Int.toNat_natCast, List.getD_eq_getElem?_getD, List.getElem?_eq_getElem (by omega)]; rfl
theorem has_wh {r : Nat → Ph → Bool} {T : Tab} (h8 : T.phases.length = 8) {k : Nat} (hk : k < 8) : SetM.has (whS r T : Nat) k = ((phAt T k).on && r k (phAt T k)) := by
  rw [SetM.has_nat, SetM.low_nat _ (wh_lt _ _), wh_test h8 (at_of h8 hk)]
/-- Nothing that lay has changed but block g. -/
structure Kp (g : Nat) (a b : World) : Prop where
  size : a.heap.size ≤ b.heap.size
  blk : ∀ j, j < a.heap.size → j ≠ g → b.heap[j]? = a.heap[j]?
theorem Kp.refl (g : Nat) (a : World) : Kp g a a := ⟨Nat.le_refl _, fun _ _ _ => rfl⟩
theorem Kp.step {g : Nat} {a b c : World} (h : Kp g a b) (hb : Below b.heap.size b c) : Kp g a c :=
  ⟨Nat.le_trans h.size hb.size, fun j hj hn => (hb.block j (Nat.lt_of_lt_of_le hj h.size)).trans (h.blk j hj hn)⟩
theorem Kp.set {g : Nat} {a b : World} (h : Kp g a b) (o : Nat) (v : Value) : Kp g a (b.setCell ⟨g, o, none⟩ v) :=
  ⟨by rw [World.size_setCell]; exact h.size, fun j hj hn => (Below.heap_setCell _ _ _ j hn).trans (h.blk j hj hn)⟩
end Cl
namespace Cl
open Go.ChangeShapes Go.WideShapes Go.ChangeAt Go.RowKit
open Tab PlaceM OnS Phx QL
open Clone (zTab zHd)
open May (infoP infoT)
def pA : Ph := ⟨true, 0, 0, 0, 0, 0, 0, 0, 0, 0, 0, true, false⟩
def tA : Tab := { zTab with phases := zTab.phases.set 2 pA }
theorem tA_is (w : World) : IsTab w zHd tA := ⟨rfl, rfl, rfl, ⟨[], rfl, RowOf.nil w, fun g hg => by simp at hg⟩, RowOf.nil w, RowOf.nil w, RowOf.nil w⟩
theorem put_A : ((zTab.cells zHd).toArray.toList.take 26 ++ pA.cells.toArray.toList ++ (zTab.cells zHd).toArray.toList.drop (26 + pA.cells.toArray.size)).toArray = (tA.cells zHd).toArray := rfl
theorem v1 : whS (rCar 0 0 4) tA = 4 := by decide +kernel
theorem v2 : whS (rFoot 0 0 0) tA = 0 := by decide +kernel
theorem v3 : whS (rWant 4 0 (whS (rHeld 0) tA : Nat)) tA = 4 := by decide +kernel
theorem v4 : whS (rCar 4 4 0) tA = 0 := by decide +kernel
theorem field0 (a b : Int) (w : World) : Sem.run Try.prog (Instr.field 33 (.agg #[I a, I b]) 0) w = .ok (I a) w := by kernel_rfl
theorem awake_any (w : World) : Calls Try.prog 17 #[] w fun e w' => e = .returned (.bool true) ∧ Below w.heap.size w w' := by
  have hz := (zero_of_info Clone.info31).1
  have ZS : (zTab.cells zHd).toArray.size = 131 := (cells_ok (Clone.z_is w)).size
  have P1 := Lib.hid put_A
  have IA : Hid ((Try.prog.info? 31).map (·.size) = some (tA.cells zHd).length) := Lib.hid infoT
  have S1 : Hid (∀ W, Calls Try.prog 13 #[.agg (tA.cells zHd).toArray, .agg #[I 0, I 0], .int .i64 4, .int .i64 0, .int .i64 0, .int .i64 0] W fun e w' => e = .returned (.agg #[I 4, I 0]) ∧ Below W.heap.size W w') := Lib.hid (fun W => by have := step_any (tA_is W) 0 0 4 0 0 0; rwa [v1, v2] at this)
  have S2 : Hid (∀ W, Calls Try.prog 15 #[.agg (tA.cells zHd).toArray, .agg #[I 4, I 0], .int .i64 0] W fun e w' => e = .returned (.int .i64 4) ∧ Below W.heap.size W w') := Lib.hid (fun W => by have := want_any (tA_is W) 4 0 0; rwa [v3] at this)
  have S3 : Hid (∀ W, Calls Try.prog 13 #[.agg (tA.cells zHd).toArray, .agg #[I 4, I 0], .int .i64 0, .int .i64 0, .int .i64 4, .int .i64 0] W fun e w' => e = .returned (.agg #[I 0, I 0]) ∧ Below W.heap.size W w') := Lib.hid (fun W => by have := step_any (tA_is W) 4 0 0 0 4 0; rwa [v4, v2] at this)
  have PS : Hid (pA.cells.toArray.size = 13) := Lib.hid rfl
  have CS : Hid ((tA.cells zHd).toArray.size = 131) := Lib.hid rfl
  generalize (zTab.cells zHd).toArray = Z at *
  generalize tA.cells zHd = c at *
  have h0 := Lib.hid ((Blk.Bks.nil w).alloc Z 31)
  go_enter Try.func17, Try.ntmps17
  go_upto_region 2 with fail
  generalize w.alloc (.cells Z 31) = u0 at h0 ⊢
  generalize w.heap.size = gt at h0 ⊢
  have RUN := Lib.hid ((Row.run_storeAt_at (P := Try.prog) u0 gt 26 31 23 Z pA.cells.toArray (h0.out.at 0 rfl) infoP (by rw [PS.out, ZS]; decide) (Ph.one pA)).trans (by rw [P1.out]))
  go_upto_region 3 with (refine wpList_store_run (by rfl) 23 _ _ rfl ⟨gt, 26, none⟩ pA.cells.toArray rfl rfl RUN.out ?_)
  have h1 := h0.out.put 0 rfl c.toArray
  simp only [List.set_cons_zero] at h1
  generalize World.setRow u0 gt _ = u1 at h1 ⊢
  have H1 := Lib.hid h1
  clear h0 h1 P1 hz ZS
  go_wp2_with (refine Row.wpList_load_g 31 _ rfl (by first | rfl | go_simp) ⟨gt, 0, none⟩ rfl c _ (by have := Row.lies_of_block (H1.out.at 0 rfl); simpa using this) Try.underlying31 rfl IA.out ?_)
  refine (S1.out _).mono ?_
  rintro e u2 ⟨rfl, hb⟩
  have H2 := Lib.hid (H1.out.step hb)
  clear hb H1 S1
  go_upto_region 4 with fail
  have h3 := H2.out.alloc #[I 4, I 0] 33
  generalize World.alloc u2 _ = u3 at h3 ⊢
  generalize u2.heap.size = gc at h3 ⊢
  have H3 := Lib.hid h3
  clear h3 H2
  have k0 : u3.cell? ⟨gc, 0, none⟩ = some (I 4) := H3.out.cell 0 0 rfl rfl
  have k1 : u3.cell? ⟨gc, 1, none⟩ = some (I 0) := H3.out.cell 0 1 rfl rfl
  go_wp2_with (first | (refine Row.wpList_load_g 31 _ rfl (by first | rfl | go_simp) ⟨gt, 0, none⟩ rfl c _ (by have := Row.lies_of_block (H3.out.at 1 rfl); simpa using this) Try.underlying31 rfl IA.out ?_) | (refine Row.wpList_load_g 33 _ rfl (by first | rfl | go_simp) ⟨gc, 0, none⟩ rfl [I 4, I 0] _ (by have := Row.lies_of_block (H3.out.at 0 rfl); simpa using this) Try.underlying33 rfl infoC2 ?_))
  refine (S2.out _).mono ?_
  rintro e u4 ⟨rfl, hb⟩
  have H4 := Lib.hid (H3.out.step hb)
  clear hb H3 S2 k0 k1
  have k0 : u4.cell? ⟨gc, 0, none⟩ = some (I 4) := H4.out.cell 0 0 rfl rfl
  have k1 : u4.cell? ⟨gc, 1, none⟩ = some (I 0) := H4.out.cell 0 1 rfl rfl
  go_wp2_with (first | (refine Row.wpList_load_g 31 _ rfl (by first | rfl | go_simp) ⟨gt, 0, none⟩ rfl c _ (by have := Row.lies_of_block (H4.out.at 1 rfl); simpa using this) Try.underlying31 rfl IA.out ?_) | (refine Row.wpList_load_g 33 _ rfl (by first | rfl | go_simp) ⟨gc, 0, none⟩ rfl [I 4, I 0] _ (by have := Row.lies_of_block (H4.out.at 0 rfl); simpa using this) Try.underlying33 rfl infoC2 ?_))
  refine (S3.out _).mono ?_
  rintro e u5 ⟨rfl, hb⟩
  have H5 := Lib.hid (H4.out.step hb)
  have f0 : ∀ W, Sem.run Try.prog (Instr.field 33 (.agg #[I 0, I 0]) 0) W = .ok (I 0) W := fun W => field0 0 0 W
  clear hb H4 S3
  go_wp2
  go_ret
  exact ⟨rfl, H5.out.bel⟩
end Cl
namespace Same
open Go.ChangeShapes Go.WideShapes
open Tab Flat
def single (T : Tab) : List Int := [T.extend, T.budget, T.start, T.revert, T.least, T.window, T.share]
end Same
namespace Cl
open Go.ChangeShapes Go.WideShapes Go.ChangeAt Go.RowKit
open Tab Flat TabArg
structure Ca where
  car : Int
  foot : Int
deriving DecidableEq
def Ca.cells (s : Ca) : List Value := [I s.car, I s.foot]
theorem flC : flat Try.prog 4 33 = some [3, 3] := by kernel_rfl
section
variable {H : Type} {enc : TypeId × Value → H} {P : Program} {w : World} {base : Nat} {spare : Nat → Bool} {held : Bool}
theorem ca_el : ∀ {cs : List Value}, All2 (Tr enc Try.prog w base spare held) [3, 3] cs → ∃ d : Ca, cs = d.cells
  | [_, _], ⟨h0, h1, _⟩ => by
    obtain ⟨v0, rfl⟩ := tr_int Try.underlying3 h0
    obtain ⟨v1, rfl⟩ := tr_int Try.underlying3 h1
    exact ⟨⟨v0, v1⟩, rfl⟩
end
end Cl
namespace GenG
open Go.ChangeShapes Go.WideShapes Go.ChangeAt Go.RowKit
open Tab Gath
open RefS (num from_any num_range ret_int)
/-- m phases from p on. -/
def seg (p m : Nat) : List Int := (List.range m).map fun i => ((p + i : Nat) : Int)
theorem seg_len (p m : Nat) : (seg p m).length = m := by simp [seg]
theorem seg_succ (p m : Nat) : seg p (m + 1) = seg p m ++ [((p + m : Nat) : Int)] := by unfold seg; rw [List.range_succ, List.map_append]; rfl
def lim (G g : Nat) : Nat := 9 + g - G
def want0 (L : List Int) (g : Nat) : Nat := (num L (1 + 2 * g) 3).toNat
def want1 (L : List Int) (g : Nat) (m : Nat) : Nat := if num L (2 + 2 * g) 3 = 0 ∧ m = 0 then 1 else (num L (2 + 2 * g) 3).toNat
def n0 (L : List Int) (G g p : Nat) : Nat := min (want0 L g) (lim G g - p)
def n1 (L : List Int) (G g p : Nat) : Nat := min (want1 L g (n0 L G g p)) (lim G g - (p + n0 L G g p))
def grpD (L : List Int) (G g p : Nat) : List Int × List Int := (seg p (n0 L G g p), seg (p + n0 L G g p) (n1 L G g p))
def upTo (L : List Int) (G : Nat) : Nat → List (List Int × List Int) × Nat
  | 0 => ([], 0)
  | g + 1 => ((upTo L G g).1 ++ [grpD L G g (upTo L G g).2], (upTo L G g).2 + n0 L G g (upTo L G g).2 + n1 L G g (upTo L G g).2)
def genG (L : List Int) : Nat := (1 + num L 0 3).toNat
def genGs (L : List Int) : List (List Int × List Int) := (upTo L (genG L) (genG L)).1
def genN (L : List Int) : Nat := (upTo L (genG L) (genG L)).2
theorem genG_range (L : List Int) : 1 ≤ genG L ∧ genG L ≤ 3 := by have := num_range L 0 3 (by omega); unfold genG; omega
theorem want0_le (L : List Int) (g : Nat) : want0 L g ≤ 2 := by have := num_range L (1 + 2 * g) 3 (by omega); unfold want0; omega
theorem want1_le (L : List Int) (g m : Nat) : want1 L g m ≤ 2 := by have := num_range L (2 + 2 * g) 3 (by omega); unfold want1; split <;> omega
theorem up_le (L : List Int) (G : Nat) (hG : G ≤ 3) : ∀ g, g ≤ G → (upTo L G g).2 ≤ 8
  | 0, _ => Nat.zero_le _
  | g + 1, h => by
    have := up_le L G hG g (by omega)
    show (upTo L G g).2 + n0 L G g (upTo L G g).2 + n1 L G g (upTo L G g).2 ≤ 8
    unfold n1 n0 lim
    omega
theorem up_len (L : List Int) (G : Nat) : ∀ g, (upTo L G g).1.length = g
  | 0 => rfl
  | g + 1 => by show ((upTo L G g).1 ++ [_]).length = g + 1; rw [List.length_append, up_len L G g]; rfl
/-- A row of integers, in a block of integers. -/
def RowI (w : World) (s : Sl) (l : List Int) : Prop := IntRow w s l ∧ ∀ x, s.a = some x → ∃ cs : Array Value, w.heap[x.block]? = some (.cells cs 3 (0, 0))
theorem RowI.below {w w' : World} {s : Sl} {l : List Int} (h : RowI w s l) (hb : Below w.heap.size w w') : RowI w' s l := ⟨h.1.below hb, fun x hx => by
  obtain ⟨cs, hc⟩ := h.2 x hx
  exact ⟨cs, (hb.block _ (Array.getElem?_eq_some_iff.1 hc).1).trans hc⟩⟩
theorem add_block (x : Addr) (k : Nat) : (x.add k).block = x.block := by unfold Addr.add; split <;> rfl
theorem RowI.grown {w w' : World} {s : Sl} {l : List Int} {row : Option Nat} (h : RowI w s l) (hg : w.grownBy w' row) (hne : ∀ x, s.a = some x → some x.block ≠ row) : RowI w' s l := by
  refine ⟨?_, fun x hx => ?_⟩
  · rcases h.1 with h | ⟨x, h1, h2, h3, h4⟩
    · exact .inl h
    · exact .inr ⟨x, h1, h2, h3, fun i v hv j u hu => hg.cell (h4 i v hv j u hu) (by rw [add_block, add_block]; exact hne x h1)⟩
  · obtain ⟨cs, hc⟩ := h.2 x hx
    exact ⟨cs, (hg.block _ (Array.getElem?_eq_some_iff.1 hc).1 (hne x hx)).trans hc⟩
/-- It lies in another block than one of another type. -/
theorem RowI.ne {w : World} {s : Sl} {l : List Int} {b : Nat} {cs : Array Value} {t : TypeId} (h : RowI w s l) (hb : w.heap[b]? = some (.cells cs t (0, 0))) (ht : t ≠ 3) : ∀ x, s.a = some x → x.block ≠ b := by
  intro x hx e
  obtain ⟨ds, hc⟩ := h.2 x hx
  rw [e, hb] at hc
  simp at hc
  exact ht hc.2
theorem grown_set (W : World) (b i : Nat) (v : Value) : W.grownBy (W.setCell ⟨b, i, none⟩ v) (some b) :=
  ⟨rfl, rfl, rfl, by simp, fun j _ hj => heap_setCell_other _ _ _ _ (fun e => hj (by rw [e]))⟩
theorem own_row {B : Nat} {w : World} {v : Value} {l : List Int} (h : Owns (fun n => [I n]) 1 B w 3 v l) : ∃ s : Sl, v = s.val l.length ∧ RowI w s l := by
  obtain ⟨s, hs, hr⟩ := Owns.row h (enc := fun n => [I n]) (fun _ => rfl)
  refine ⟨s, hs, hr, fun x hx => ?_⟩
  rcases h.2 with ⟨e, _⟩ | ⟨g, cap, cur, e, h1, h2, _⟩
  · rw [hs] at e
    simp [Sl.val, hx] at e
  · rw [hs] at e
    simp [Sl.val, hx] at e
    obtain ⟨rfl, _⟩ := e
    exact ⟨cur, h2⟩
theorem own_kept {α : Type} {enc : α → List Value} {n B : Nat} {w w' : World} {t : TypeId} {v : Value} {l : List α} {row : Option Nat} (h : Owns enc n B w t v l) (hg : w.grownBy w' row) (hne : ∀ m, v.ownBlock = some m → row ≠ some m) : Owns enc n B w' t v l :=
  World.ownsRow.kept h hg (by
    cases e : v.ownBlock with
    | none => exact .inl rfl
    | some m => exact .inr (fun e' => hne m e e'.symm))
theorem own_lt {α : Type} {enc : α → List Value} {n B : Nat} {w : World} {t : TypeId} {v : Value} {l : List α} (h : Owns enc n B w t v l) : ∀ m, v.ownBlock = some m → m < w.heap.size := by
  intro m hm
  rcases h.2 with ⟨rfl, _⟩ | ⟨g, cap, cur, rfl, h1, h2, _⟩
  · simp [Value.ownBlock] at hm
  · simp [Value.ownBlock] at hm
    subst hm
    exact (Array.getElem?_eq_some_iff.1 h2).1
theorem own_type {α : Type} {enc : α → List Value} {n B : Nat} {w : World} {t : TypeId} {v : Value} {l : List α} (h : Owns enc n B w t v l) : ∀ m, v.ownBlock = some m → ∃ cs : Array Value, w.heap[m]? = some (.cells cs t (0, 0)) := by
  intro m hm
  rcases h.2 with ⟨rfl, _⟩ | ⟨g, cap, cur, rfl, h1, h2, _⟩
  · simp [Value.ownBlock] at hm
  · simp [Value.ownBlock] at hm
    subst hm
    exact ⟨cur, h2⟩
theorem own_ne {α : Type} {enc : α → List Value} {n B : Nat} {w : World} {t t' : TypeId} {v : Value} {l : List α} {b : Nat} {cs : Array Value} (h : Owns enc n B w t v l) (hb : w.heap[b]? = some (.cells cs t' (0, 0))) (ht : t' ≠ t) : v.ownBlock ≠ some b := by
  intro e
  obtain ⟨ds, hd⟩ := own_type h b e
  rw [hb] at hd
  simp at hd
  exact ht hd.2
theorem grown_below {w w' : World} (hb : Below w.heap.size w w') (row : Option Nat) : w.grownBy w' row := ⟨hb.os, hb.tape, hb.output, hb.size, fun j hj _ => hb.block j hj⟩
theorem grown_trans {w w1 w2 : World} {b : Nat} {row : Option Nat} (h : w.grownBy w1 (some b)) (h2 : w1.grownBy w2 row) (hr : ∀ m, row = some m → m = b ∨ w.heap.size ≤ m) : w.grownBy w2 (some b) := by
  refine ⟨h2.os.trans h.os, h2.tape.trans h.tape, h2.output.trans h.output, Nat.le_trans h.size h2.size, fun j hj hne => ?_⟩
  rw [h2.block j (Nat.lt_of_lt_of_le hj h.size) (fun e => by rcases hr j e.symm with e' | e'; exact hne (by rw [e']); omega), h.block j hj hne]
/-- One group while its first row is filled. -/
structure G0 (Bg : Nat) (w1 : World) (a : Option Addr) (c : Nat) (p i : Nat) (W : World) : Prop where
  bel : Below Bg w1 W
  box : W.heap[Bg]? = some (.cells #[.slice a i c, .slice none 0 0] 108 (0, 0))
  own : Owns (fun n => [I n]) 1 (Bg + 1) W 3 (.slice a i c) (seg p i)
theorem G0.step {Bg : Nat} {w1 W W' : World} {a : Option Addr} {c p i : Nat} (h : G0 Bg w1 a c p i W) (hb : Below W.heap.size W W') (hB : Bg ≤ W.heap.size) : G0 Bg w1 a c p i W' :=
  ⟨h.bel.trans (hb.mono hB), (hb.block _ (Array.getElem?_eq_some_iff.1 h.box).1).trans h.box, h.own.below hb⟩
theorem G0.put {Bg : Nat} {w1 W W' : World} {a : Option Addr} {c p i : Nat} {v' : Value} (h : G0 Bg w1 a c p i W) (hB : Bg + 1 ≤ W.heap.size) (hg : W.grownBy W' (Value.slice a i c).ownBlock)
    (ho : W'.ownsRow (Bg + 1) 3 1 v' (i + 1) ((seg p i).flatMap (fun n => [I n]) ++ [I ((p + i : Nat) : Int)])) :
    (W'.heap[Bg]? = some (.cells #[.slice a i c, .slice none 0 0] 108 (0, 0))) ∧ ∃ a' c', v' = .slice a' (i + 1) c' ∧ G0 Bg w1 a' c' p (i + 1) (W'.setCell ⟨Bg, 0, none⟩ v') := by
  have hne : some Bg ≠ (Value.slice a i c).ownBlock := fun e => by have := h.own.blk _ e.symm; omega
  have hbx := (hg.block Bg (by omega) hne).trans h.box
  have hO : Owns (fun n => [I n]) 1 (Bg + 1) W' 3 v' (seg p (i + 1)) := by
    rw [seg_succ]; refine Owns.snoc ?_; rw [seg_len]; exact ho
  obtain ⟨⟨a', c'⟩, hs, hr⟩ := own_row hO
  rw [seg_len] at hs
  refine ⟨hbx, a', c', hs, ?_⟩
  have hB' : Bg ≤ W'.heap.size := Nat.le_trans (by omega) hg.size
  refine ⟨?_, ?_, ?_⟩
  · exact (h.bel.grown hg (by omega) (fun k hk => by have := h.own.blk k hk; omega)).setCell (p := ⟨Bg, 0, none⟩) (Nat.le_refl _) v'
  · rw [heap_setCell_same _ _ _ _ _ _ hbx, hs]; rfl
  · rw [hs] at hO ⊢
    exact own_kept hO (grown_set _ _ _ _) (fun m hm e => by have := hO.blk m hm; cases e; omega)
/-- One group while its second row is filled. -/
structure G1 (Bg : Nat) (w1 : World) (B1 : Nat) (a : Option Addr) (c : Nat) (p m : Nat) (a1 : Option Addr) (c1 : Nat) (i : Nat) (W : World) : Prop where
  bel : Below Bg w1 W
  box : W.heap[Bg]? = some (.cells #[.slice a m c, .slice a1 i c1] 108 (0, 0))
  own : Owns (fun n => [I n]) 1 (Bg + 1) W 3 (.slice a m c) (seg p m)
  lt : ∀ j, (Value.slice a m c).ownBlock = some j → j < B1
  own1 : Owns (fun n => [I n]) 1 B1 W 3 (.slice a1 i c1) (seg (p + m) i)
  sz : B1 ≤ W.heap.size
theorem G0.next {Bg : Nat} {w1 W : World} {a : Option Addr} {c p m : Nat} (h : G0 Bg w1 a c p m W) : G1 Bg w1 W.heap.size a c p m none 0 0 W :=
  ⟨h.bel, h.box, h.own, own_lt h.own, Owns.nil, Nat.le_refl _⟩
theorem G1.step {Bg B1 : Nat} {w1 W W' : World} {a a1 : Option Addr} {c p m c1 i : Nat} (h : G1 Bg w1 B1 a c p m a1 c1 i W) (hb : Below W.heap.size W W') (hB : Bg ≤ W.heap.size) : G1 Bg w1 B1 a c p m a1 c1 i W' :=
  ⟨h.bel.trans (hb.mono hB), (hb.block _ (Array.getElem?_eq_some_iff.1 h.box).1).trans h.box, h.own.below hb, h.lt, h.own1.below hb, Nat.le_trans h.sz hb.size⟩
theorem G1.put {Bg B1 : Nat} {w1 W W' : World} {a a1 : Option Addr} {c p m c1 i : Nat} {v' : Value} (h : G1 Bg w1 B1 a c p m a1 c1 i W) (h1 : Bg < B1) (hB : B1 ≤ W.heap.size) (hg : W.grownBy W' (Value.slice a1 i c1).ownBlock)
    (ho : W'.ownsRow B1 3 1 v' (i + 1) ((seg (p + m) i).flatMap (fun n => [I n]) ++ [I ((p + m + i : Nat) : Int)])) :
    (W'.heap[Bg]? = some (.cells #[.slice a m c, .slice a1 i c1] 108 (0, 0))) ∧ ∃ a' c', v' = .slice a' (i + 1) c' ∧ G1 Bg w1 B1 a c p m a' c' (i + 1) (W'.setCell ⟨Bg, 1, none⟩ v') := by
  have hne : some Bg ≠ (Value.slice a1 i c1).ownBlock := fun e => by have := h.own1.blk _ e.symm; omega
  have hbx := (hg.block Bg (by omega) hne).trans h.box
  have hO : Owns (fun n => [I n]) 1 B1 W' 3 v' (seg (p + m) (i + 1)) := by
    rw [seg_succ]; refine Owns.snoc ?_; rw [seg_len]; exact ho
  have hO0 : Owns (fun n => [I n]) 1 (Bg + 1) W' 3 (.slice a m c) (seg p m) := own_kept h.own hg (fun j hj e => by have := h.lt j hj; have := h.own1.blk j e; omega)
  obtain ⟨⟨a', c'⟩, hs, hr⟩ := own_row hO
  rw [seg_len] at hs
  refine ⟨hbx, a', c', hs, ?_⟩
  have hB' : Bg ≤ W'.heap.size := Nat.le_trans (by omega) hg.size
  refine ⟨?_, ?_, ?_, h.lt, ?_, by simp; exact Nat.le_trans h.sz hg.size⟩
  · exact (h.bel.grown hg (by omega) (fun k hk => by have := h.own1.blk k hk; omega)).setCell (p := ⟨Bg, 1, none⟩) (Nat.le_refl _) v'
  · rw [heap_setCell_same _ _ _ _ _ _ hbx, hs]; rfl
  · exact own_kept hO0 (grown_set _ _ _ _) (fun m hm e => by have := hO0.blk m hm; cases e; omega)
  · rw [hs] at hO ⊢
    exact own_kept hO (grown_set _ _ _ _) (fun m hm e => by have := hO.blk m hm; cases e; omega)
/-- The groups so far. -/
structure GS (w : World) (tb : Nat) (cs : List Value) (ga : Option Addr) (gc : Nat) (g : Nat) (gs : List Gr) (W : World) : Prop where
  gb : w.grownBy W (some tb)
  tbk : W.heap[tb]? = some (.cells (cs.set 104 (.slice ga g gc)).toArray 31 (0, 0))
  own : Owns Gr.cells 2 w.heap.size W 108 (.slice ga g gc) gs
  len : gs.length = g
  rows : ∀ x ∈ gs, RowI W x.s0 x.r0 ∧ RowI W x.s1 x.r1
theorem GS.step {w W W' : World} {tb : Nat} {cs : List Value} {ga : Option Addr} {gc g : Nat} {gs : List Gr} (h : GS w tb cs ga gc g gs W) (hb : Below W.heap.size W W') : GS w tb cs ga gc g gs W' :=
  ⟨grown_trans h.gb (grown_below hb none) (fun m e => by cases e), (hb.block _ (Array.getElem?_eq_some_iff.1 h.tbk).1).trans h.tbk, h.own.below hb, h.len, fun x hx => ⟨(h.rows x hx).1.below hb, (h.rows x hx).2.below hb⟩⟩
theorem GS.put {w W W' : World} {tb : Nat} {cs : List Value} {ga : Option Addr} {gc g : Nat} {gs : List Gr} {v' : Value} (x : Gr) (h : GS w tb cs ga gc g gs W) (hx : RowI W x.s0 x.r0 ∧ RowI W x.s1 x.r1) (hg : W.grownBy W' (Value.slice ga g gc).ownBlock) (hc : cs.length = 131)
    (ho : W'.ownsRow w.heap.size 108 2 v' (g + 1) (gs.flatMap Gr.cells ++ x.cells)) :
    (W'.heap[tb]? = some (.cells (cs.set 104 (.slice ga g gc)).toArray 31 (0, 0))) ∧ ∃ a' c', v' = .slice a' (g + 1) c' ∧ GS w tb cs a' c' (g + 1) (gs ++ [x]) (W'.setCell ⟨tb, 104, none⟩ v') := by
  have hne : some tb ≠ (Value.slice ga g gc).ownBlock := fun e => own_ne h.own h.tbk (by decide) e.symm
  have hbx := (hg.block tb (Array.getElem?_eq_some_iff.1 h.tbk).1 hne).trans h.tbk
  have hO : Owns Gr.cells 2 w.heap.size W' 108 v' (gs ++ [x]) := Owns.snoc (by rw [h.len]; exact ho)
  obtain ⟨⟨a', c'⟩, hs, hr⟩ := Owns.row hO (fun _ => rfl)
  have hs2 : v' = .slice a' (g + 1) c' := by rw [hs, List.length_append, h.len]; rfl
  have hK : ∀ s l, RowI W s l → RowI (W'.setCell ⟨tb, 104, none⟩ v') s l := fun s l hr => by
    have h1 : RowI W' s l := hr.grown hg (fun y hy e => by
      obtain ⟨ds, hd⟩ := own_type h.own _ e.symm
      exact hr.ne hd (by decide) y hy rfl)
    exact h1.grown (grown_set _ _ _ _) (fun y hy e => h1.ne hbx (by decide) y hy (by cases e; rfl))
  refine ⟨hbx, a', c', hs2, ?_, ?_, ?_, by rw [List.length_append, h.len]; rfl, ?_⟩
  · exact grown_trans (grown_trans h.gb hg (fun m e => .inr (h.own.blk m e))) (grown_set _ _ _ _) (fun m e => .inl (by cases e; rfl))
  · rw [heap_setCell_same _ _ _ _ _ _ hbx, hs2]
    simp
  · rw [← hs2]
    exact own_kept hO (grown_set _ _ _ _) (fun m hm e => by cases e; exact own_ne hO hbx (by decide) hm)
  · intro y hy
    rcases List.mem_append.1 hy with hy | hy
    · exact ⟨hK _ _ (h.rows y hy).1, hK _ _ (h.rows y hy).2⟩
    · obtain rfl : y = x := by simpa using hy
      exact ⟨hK _ _ hx.1, hK _ _ hx.2⟩
theorem from_at (a : Option Addr) (cap : Nat) (L : List Int) (i j n : Int) (hij : i = j) (w : World) (h : IntRow w ⟨a, cap⟩ L) (h0 : 0 ≤ i) (hn : 0 < n) (hn' : n ≤ 1000) :
    Calls Try.prog 46 #[.slice a L.length cap, .int .i64 i, .int .i64 n] w fun e w' => e = .returned (.int .i64 (num L j n)) ∧ w = w' := by
  subst hij; exact from_any a cap L i n w h h0 hn hn'
theorem infoGz : (Try.prog.info? 108).map (fun i => (i.zero, i.size)) = some (some (.agg #[.slice none 0 0, .slice none 0 0]), 2) := by kernel_rfl
theorem infoG2 : (Try.prog.info? 108).map (·.size) = some 2 := by kernel_rfl
theorem infoG3 : (Try.prog.info? 108).map (fun i => (i.zero, i.size, i.bytes)) = some (some (.agg #[.slice none 0 0, .slice none 0 0]), 2, 48) := by kernel_rfl
end GenG
namespace Same
open Go.ChangeShapes Go.WideShapes Go.ChangeAt Go.RowKit
open Tab
open May (ret_bool chain take_succ' infoP infoG infoD infoR infoB row_new)
end Same
namespace Same
open Go.ChangeShapes Go.WideShapes Go.ChangeAt Go.RowKit
open Tab
open May (ret_bool chain take_succ' infoP infoG infoD infoR infoB row_new)
end Same
namespace Same
open Go.ChangeShapes Go.WideShapes Go.ChangeAt Go.RowKit
open Tab
open May (ret_bool chain take_succ' infoP infoG infoD infoR infoB row_new St)
theorem below_setRow {B : Nat} {a w : World} (h : Below B a w) {g : Nat} (hg : B ≤ g) (cs : Array Value) : Below B a (w.setRow g cs) :=
  h.trans ⟨rfl, rfl, rfl, by simp [World.setRow], fun j hj => setRow_other _ _ _ _ (by omega)⟩
end Same
namespace GenP
open Go.ChangeShapes Go.WideShapes Go.ChangeAt Go.RowKit
open Tab Clone RefS
open May (infoP)
open Same (below_setRow)
theorem infoPz : (Try.prog.info? 23).map (fun i => (i.zero, i.size)) = some (some (.agg zPh.cells.toArray), 13) := by kernel_rfl
def recall (x walk : Int) : Int := if x > 3 ∨ x = 3 ∧ walk = 0 then 0 else x
/-- A phase by twelve numbers. -/
def genPh (L : List Int) (i : Int) : Ph :=
  let min := 1 + num L i 12
  let max := min + num L (i + 5) 25
  let walks := num L (i + 7) 2 = 1
  let walk := if walks then 1 + num L (i + 8) 10 else 0
  ⟨true, min, num L (i + 1) 9, max, max + num L (i + 6) 15, 1 + num L (i + 2) 6, 10 + num L (i + 3) 4, num L (i + 4) 5, walk, if walks then 1 + num L (i + 8) 97 / 10 else 0, recall (num L (i + 9) 7) walk, decide (num L (i + 10) 3 > 0), decide (num L (i + 11) 4 = 1)⟩
theorem phase_any (a : Option Addr) (cap : Nat) (L : List Int) (i : Int) (w : World) (h : IntRow w ⟨a, cap⟩ L) (h0 : 0 ≤ i) (h1 : i ≤ 100000) :
    Calls Try.prog 44 #[.slice a L.length cap, .int .i64 i] w fun e w' => e = .returned (.agg (genPh L i).cells.toArray) ∧ Below w.heap.size w w' := by
  obtain ⟨x0, hx0, ⟨r0, s0⟩, F0⟩ : ∃ x : Int, x = num L i 12 ∧ (0 ≤ x ∧ x < 12) ∧ Hid (∀ W, Below w.heap.size w W → Calls Try.prog 46 #[.slice a L.length cap, .int .i64 i, .int .i64 12] W fun e w' => e = .returned (.int .i64 x) ∧ w' = W) := ⟨_, rfl, num_range _ _ _ (by omega), Lib.hid (fun W hb => (from_any a cap L _ _ W (h.below hb) (by omega) (by omega) (by omega)).mono fun _ _ ⟨e, q⟩ => ⟨e, q.symm⟩)⟩
  obtain ⟨x1, hx1, ⟨r1, s1⟩, F1⟩ : ∃ x : Int, x = num L (i + 1) 9 ∧ (0 ≤ x ∧ x < 9) ∧ Hid (∀ W, Below w.heap.size w W → Calls Try.prog 46 #[.slice a L.length cap, .int .i64 (i + 1), .int .i64 9] W fun e w' => e = .returned (.int .i64 x) ∧ w' = W) := ⟨_, rfl, num_range _ _ _ (by omega), Lib.hid (fun W hb => (from_any a cap L _ _ W (h.below hb) (by omega) (by omega) (by omega)).mono fun _ _ ⟨e, q⟩ => ⟨e, q.symm⟩)⟩
  obtain ⟨x2, hx2, ⟨r2, s2⟩, F2⟩ : ∃ x : Int, x = num L (i + 2) 6 ∧ (0 ≤ x ∧ x < 6) ∧ Hid (∀ W, Below w.heap.size w W → Calls Try.prog 46 #[.slice a L.length cap, .int .i64 (i + 2), .int .i64 6] W fun e w' => e = .returned (.int .i64 x) ∧ w' = W) := ⟨_, rfl, num_range _ _ _ (by omega), Lib.hid (fun W hb => (from_any a cap L _ _ W (h.below hb) (by omega) (by omega) (by omega)).mono fun _ _ ⟨e, q⟩ => ⟨e, q.symm⟩)⟩
  obtain ⟨x3, hx3, ⟨r3, s3⟩, F3⟩ : ∃ x : Int, x = num L (i + 3) 4 ∧ (0 ≤ x ∧ x < 4) ∧ Hid (∀ W, Below w.heap.size w W → Calls Try.prog 46 #[.slice a L.length cap, .int .i64 (i + 3), .int .i64 4] W fun e w' => e = .returned (.int .i64 x) ∧ w' = W) := ⟨_, rfl, num_range _ _ _ (by omega), Lib.hid (fun W hb => (from_any a cap L _ _ W (h.below hb) (by omega) (by omega) (by omega)).mono fun _ _ ⟨e, q⟩ => ⟨e, q.symm⟩)⟩
  obtain ⟨x4, hx4, ⟨r4, s4⟩, F4⟩ : ∃ x : Int, x = num L (i + 4) 5 ∧ (0 ≤ x ∧ x < 5) ∧ Hid (∀ W, Below w.heap.size w W → Calls Try.prog 46 #[.slice a L.length cap, .int .i64 (i + 4), .int .i64 5] W fun e w' => e = .returned (.int .i64 x) ∧ w' = W) := ⟨_, rfl, num_range _ _ _ (by omega), Lib.hid (fun W hb => (from_any a cap L _ _ W (h.below hb) (by omega) (by omega) (by omega)).mono fun _ _ ⟨e, q⟩ => ⟨e, q.symm⟩)⟩
  obtain ⟨x5, hx5, ⟨r5, s5⟩, F5⟩ : ∃ x : Int, x = num L (i + 5) 25 ∧ (0 ≤ x ∧ x < 25) ∧ Hid (∀ W, Below w.heap.size w W → Calls Try.prog 46 #[.slice a L.length cap, .int .i64 (i + 5), .int .i64 25] W fun e w' => e = .returned (.int .i64 x) ∧ w' = W) := ⟨_, rfl, num_range _ _ _ (by omega), Lib.hid (fun W hb => (from_any a cap L _ _ W (h.below hb) (by omega) (by omega) (by omega)).mono fun _ _ ⟨e, q⟩ => ⟨e, q.symm⟩)⟩
  obtain ⟨x6, hx6, ⟨r6, s6⟩, F6⟩ : ∃ x : Int, x = num L (i + 6) 15 ∧ (0 ≤ x ∧ x < 15) ∧ Hid (∀ W, Below w.heap.size w W → Calls Try.prog 46 #[.slice a L.length cap, .int .i64 (i + 6), .int .i64 15] W fun e w' => e = .returned (.int .i64 x) ∧ w' = W) := ⟨_, rfl, num_range _ _ _ (by omega), Lib.hid (fun W hb => (from_any a cap L _ _ W (h.below hb) (by omega) (by omega) (by omega)).mono fun _ _ ⟨e, q⟩ => ⟨e, q.symm⟩)⟩
  obtain ⟨x7, hx7, ⟨r7, s7⟩, F7⟩ : ∃ x : Int, x = num L (i + 7) 2 ∧ (0 ≤ x ∧ x < 2) ∧ Hid (∀ W, Below w.heap.size w W → Calls Try.prog 46 #[.slice a L.length cap, .int .i64 (i + 7), .int .i64 2] W fun e w' => e = .returned (.int .i64 x) ∧ w' = W) := ⟨_, rfl, num_range _ _ _ (by omega), Lib.hid (fun W hb => (from_any a cap L _ _ W (h.below hb) (by omega) (by omega) (by omega)).mono fun _ _ ⟨e, q⟩ => ⟨e, q.symm⟩)⟩
  obtain ⟨x8, hx8, ⟨r8, s8⟩, F8⟩ : ∃ x : Int, x = num L (i + 8) 10 ∧ (0 ≤ x ∧ x < 10) ∧ Hid (∀ W, Below w.heap.size w W → Calls Try.prog 46 #[.slice a L.length cap, .int .i64 (i + 8), .int .i64 10] W fun e w' => e = .returned (.int .i64 x) ∧ w' = W) := ⟨_, rfl, num_range _ _ _ (by omega), Lib.hid (fun W hb => (from_any a cap L _ _ W (h.below hb) (by omega) (by omega) (by omega)).mono fun _ _ ⟨e, q⟩ => ⟨e, q.symm⟩)⟩
  obtain ⟨xb, hxb, ⟨rb, sb⟩, Fb⟩ : ∃ x : Int, x = num L (i + 8) 97 ∧ (0 ≤ x ∧ x < 97) ∧ Hid (∀ W, Below w.heap.size w W → Calls Try.prog 46 #[.slice a L.length cap, .int .i64 (i + 8), .int .i64 97] W fun e w' => e = .returned (.int .i64 x) ∧ w' = W) := ⟨_, rfl, num_range _ _ _ (by omega), Lib.hid (fun W hb => (from_any a cap L _ _ W (h.below hb) (by omega) (by omega) (by omega)).mono fun _ _ ⟨e, q⟩ => ⟨e, q.symm⟩)⟩
  obtain ⟨x9, hx9, ⟨r9, s9⟩, F9⟩ : ∃ x : Int, x = num L (i + 9) 7 ∧ (0 ≤ x ∧ x < 7) ∧ Hid (∀ W, Below w.heap.size w W → Calls Try.prog 46 #[.slice a L.length cap, .int .i64 (i + 9), .int .i64 7] W fun e w' => e = .returned (.int .i64 x) ∧ w' = W) := ⟨_, rfl, num_range _ _ _ (by omega), Lib.hid (fun W hb => (from_any a cap L _ _ W (h.below hb) (by omega) (by omega) (by omega)).mono fun _ _ ⟨e, q⟩ => ⟨e, q.symm⟩)⟩
  obtain ⟨xt, hxt, ⟨rt, st⟩, Ft⟩ : ∃ x : Int, x = num L (i + 10) 3 ∧ (0 ≤ x ∧ x < 3) ∧ Hid (∀ W, Below w.heap.size w W → Calls Try.prog 46 #[.slice a L.length cap, .int .i64 (i + 10), .int .i64 3] W fun e w' => e = .returned (.int .i64 x) ∧ w' = W) := ⟨_, rfl, num_range _ _ _ (by omega), Lib.hid (fun W hb => (from_any a cap L _ _ W (h.below hb) (by omega) (by omega) (by omega)).mono fun _ _ ⟨e, q⟩ => ⟨e, q.symm⟩)⟩
  obtain ⟨xe, hxe, ⟨re, se⟩, Fe⟩ : ∃ x : Int, x = num L (i + 11) 4 ∧ (0 ≤ x ∧ x < 4) ∧ Hid (∀ W, Below w.heap.size w W → Calls Try.prog 46 #[.slice a L.length cap, .int .i64 (i + 11), .int .i64 4] W fun e w' => e = .returned (.int .i64 x) ∧ w' = W) := ⟨_, rfl, num_range _ _ _ (by omega), Lib.hid (fun W hb => (from_any a cap L _ _ W (h.below hb) (by omega) (by omega) (by omega)).mono fun _ _ ⟨e, q⟩ => ⟨e, q.symm⟩)⟩
  have RES : Hid (genPh L i = ⟨true, 1 + x0, x1, 1 + x0 + x5, 1 + x0 + x5 + x6, 1 + x2, 10 + x3, x4, if x7 = 1 then 1 + x8 else 0, if x7 = 1 then 1 + xb / 10 else 0, recall x9 (if x7 = 1 then 1 + x8 else 0), decide (xt > 0), decide (xe = 1)⟩) := Lib.hid (by subst hx0 hx1 hx2 hx3 hx4 hx5 hx6 hx7 hx8 hxb hx9 hxt hxe; rfl)
  generalize genPh L i = R at RES ⊢
  clear hx0 hx1 hx2 hx3 hx4 hx5 hx6 hx7 hx8 hxb hx9 hxt hxe h
  have hz := (zero_of_info infoPz).1
  have HB : Hid (Below w.heap.size w (w.alloc (.cells zPh.cells.toArray 23))) := Lib.hid ((Below.refl _ _).alloc (Nat.le_refl _) _)
  have hg := heap_alloc_new w (.cells zPh.cells.toArray 23)
  have hs : (w.alloc (.cells zPh.cells.toArray 23)).heap.size = w.heap.size + 1 := by simp
  have HG := Lib.hid hg
  have HS := Lib.hid hs
  clear hg hs
  simp only [zPh, Ph.cells] at hz HB HG HS
  go_enter Try.func44, Try.ntmps44
  go_upto_region 1 with fail
  generalize (World.alloc w _) = u at HB HG HS ⊢
  go_wp2_with fail
  refine (F0.out _ HB.out).mono ?_
  rintro e w' ⟨rfl, hq⟩
  subst w'
  go_wp2_with fail
  refine (F1.out _ HB.out).mono ?_
  rintro e w' ⟨rfl, hq⟩
  subst w'
  go_wp2_with fail
  refine (F2.out _ HB.out).mono ?_
  rintro e w' ⟨rfl, hq⟩
  subst w'
  go_wp2_with fail
  refine (F3.out _ HB.out).mono ?_
  rintro e w' ⟨rfl, hq⟩
  subst w'
  go_wp2_with fail
  refine (F4.out _ HB.out).mono ?_
  rintro e w' ⟨rfl, hq⟩
  subst w'
  go_upto_region 2 with (refine Row.wpList_store_new rfl 23 _ _ rfl u _ #[.bool true, I (1 + x0), I x1, I 0, I 0, I (1 + x2), I (10 + x3), I x4, I 0, I 0, I 0, .bool false, .bool false] rfl rfl rfl infoP rfl (by simp [Value.oneCell']) ?_)
  (try dsimp only [Act.put])
  have hb := HB.out.alloc HB.out.size (.cells #[.bool true, I (1 + x0), I x1, I 0, I 0, I (1 + x2), I (10 + x3), I x4, I 0, I 0, I 0, .bool false, .bool false] 23)
  have g5 := heap_alloc_new u (.cells #[.bool true, I (1 + x0), I x1, I 0, I 0, I (1 + x2), I (10 + x3), I x4, I 0, I 0, I 0, .bool false, .bool false] 23)
  have g4 := (Below.heap_alloc u (.cells #[.bool true, I (1 + x0), I x1, I 0, I 0, I (1 + x2), I (10 + x3), I x4, I 0, I 0, I 0, .bool false, .bool false] 23) w.heap.size (by have := HS.out; omega)).trans HG.out
  have b5lt : w.heap.size < u.heap.size := by have := HS.out; omega
  clear HB HG HS
  generalize World.alloc u _ = u0 at g4 g5 hb ⊢
  generalize u.heap.size = b5 at g5 b5lt ⊢
  have G4 := Lib.hid g4
  have G5 := Lib.hid g5
  have HB := Lib.hid hb
  clear g4 g5 hb
  have e0 : IntKind.i64.wrap (i + 5) = i + 5 := by rw [IntKind.wrap_i64]; omega
  have e1 : IntKind.i64.wrap (1 + x0 + x5) = 1 + x0 + x5 := by rw [IntKind.wrap_i64]; omega
  have g4 : u0.drew.heap[w.heap.size]? = some (.cells #[.bool false, .int .i64 0, .int .i64 0, .int .i64 0, .int .i64 0, .int .i64 0, .int .i64 0, .int .i64 0, .int .i64 0, .int .i64 0, .int .i64 0, .bool false, .bool false] 23 (0, 0)) := G4.out
  have g5 : u0.drew.heap[b5]? = some (.cells #[.bool true, I (1 + x0), I x1, I 0, I 0, I (1 + x2), I (10 + x3), I x4, I 0, I 0, I 0, .bool false, .bool false] 23 (0, 0)) := G5.out
  have hb : Below w.heap.size w u0.drew := HB.out.drew
  clear G4 G5 HB
  refine QB.region_tail 8 (by kernel_rfl) (by kernel_rfl) ?_
  generalize World.drew u0 = u1 at g4 g5 hb ⊢
  have G4 := Lib.hid g4
  have G5 := Lib.hid g5
  have HB := Lib.hid hb
  clear g4 g5 hb
  have c1 : u1.cell? ⟨b5, 1, none⟩ = some (I (1 + x0)) := by rw [cell_of_row _ _ _ _ _ _ G5.out]; rfl
  have c3 : u1.cell? ⟨b5, 3, none⟩ = some (I 0) := by rw [cell_of_row _ _ _ _ _ _ G5.out]; rfl
  have f3 : u1.frozen? ⟨b5, 3, none⟩ = false := frozen_of_row _ _ _ _ _ G5.out
  simp only [List.take_succ_cons, List.take_zero, List.drop_succ_cons, List.drop_zero]
  repeat still_step
  still_call (F5.out _ HB.out)
  repeat still_step
  refine wpStill_nil ?_
  go_upto_region 3 with fail
  clear e0 e1
  have g5 := heap_setCell_same u1 b5 3 _ _ (I (1 + x0 + x5)) G5.out
  simp only [List.setIfInBounds_toArray, List.set_cons_succ, List.set_cons_zero] at g5
  have g4 := (Below.heap_setCell u1 ⟨b5, 3, none⟩ (I (1 + x0 + x5)) w.heap.size (by simp; omega)).trans G4.out
  have hb := Owned.below_write HB.out (g := b5) (i := 3) (by omega) (I (1 + x0 + x5))
  clear c1 c3 f3 G4 G5 HB
  generalize World.setCell u1 ⟨b5, 3, none⟩ (I (1 + x0 + x5)) = u2 at g4 g5 hb ⊢
  have G4 := Lib.hid g4
  have G5 := Lib.hid g5
  have HB := Lib.hid hb
  clear g4 g5 hb
  have e0 : IntKind.i64.wrap (i + 6) = i + 6 := by rw [IntKind.wrap_i64]; omega
  have e1 : IntKind.i64.wrap (1 + x0 + x5 + x6) = 1 + x0 + x5 + x6 := by rw [IntKind.wrap_i64]; omega
  have g4 : u2.drew.heap[w.heap.size]? = some (.cells #[.bool false, .int .i64 0, .int .i64 0, .int .i64 0, .int .i64 0, .int .i64 0, .int .i64 0, .int .i64 0, .int .i64 0, .int .i64 0, .int .i64 0, .bool false, .bool false] 23 (0, 0)) := G4.out
  have g5 : u2.drew.heap[b5]? = some (.cells #[.bool true, I (1 + x0), I x1, I (1 + x0 + x5), I 0, I (1 + x2), I (10 + x3), I x4, I 0, I 0, I 0, .bool false, .bool false] 23 (0, 0)) := G5.out
  have hb : Below w.heap.size w u2.drew := HB.out.drew
  clear G4 G5 HB
  refine QB.region_tail 8 (by kernel_rfl) (by kernel_rfl) ?_
  generalize World.drew u2 = u3 at g4 g5 hb ⊢
  have G4 := Lib.hid g4
  have G5 := Lib.hid g5
  have HB := Lib.hid hb
  clear g4 g5 hb
  have c3 : u3.cell? ⟨b5, 3, none⟩ = some (I (1 + x0 + x5)) := by rw [cell_of_row _ _ _ _ _ _ G5.out]; rfl
  have c4 : u3.cell? ⟨b5, 4, none⟩ = some (I 0) := by rw [cell_of_row _ _ _ _ _ _ G5.out]; rfl
  have f4 : u3.frozen? ⟨b5, 4, none⟩ = false := frozen_of_row _ _ _ _ _ G5.out
  simp only [List.take_succ_cons, List.take_zero, List.drop_succ_cons, List.drop_zero]
  repeat still_step
  still_call (F6.out _ HB.out)
  repeat still_step
  refine wpStill_nil ?_
  go_upto_region 4 with fail
  clear e0 e1
  have g5 := heap_setCell_same u3 b5 4 _ _ (I (1 + x0 + x5 + x6)) G5.out
  simp only [List.setIfInBounds_toArray, List.set_cons_succ, List.set_cons_zero] at g5
  have g4 := (Below.heap_setCell u3 ⟨b5, 4, none⟩ (I (1 + x0 + x5 + x6)) w.heap.size (by simp; omega)).trans G4.out
  have hb := Owned.below_write HB.out (g := b5) (i := 4) (by omega) (I (1 + x0 + x5 + x6))
  clear c3 c4 f4 G4 G5 HB
  generalize World.setCell u3 ⟨b5, 4, none⟩ (I (1 + x0 + x5 + x6)) = u4 at g4 g5 hb ⊢
  have G4 := Lib.hid g4
  have G5 := Lib.hid g5
  have HB := Lib.hid hb
  clear g4 g5 hb
  go_wp2_with fail
  refine (F7.out _ HB.out).mono ?_
  rintro e w' ⟨rfl, hq⟩
  subst w'
  by_cases h7 : x7 = 1
  · have H7 := Lib.hid h7
    have e7 : (x7 == 1) = true := by simpa using h7
    clear h7
    go_upto_region 5 with fail
    have c8 : u4.cell? ⟨b5, 8, none⟩ = some (I 0) := by rw [cell_of_row _ _ _ _ _ _ G5.out]; rfl
    have f8 : u4.frozen? ⟨b5, 8, none⟩ = false := frozen_of_row _ _ _ _ _ G5.out
    go_wp2_with fail
    refine (F8.out _ HB.out).mono ?_
    rintro e w' ⟨rfl, hq⟩
    subst w'
    go_upto_region 6 with fail
    have g5 := heap_setCell_same u4 b5 8 _ _ (I (1 + x8)) G5.out
    simp only [List.setIfInBounds_toArray, List.set_cons_succ, List.set_cons_zero] at g5
    have g4 := (Below.heap_setCell u4 ⟨b5, 8, none⟩ (I (1 + x8)) w.heap.size (by simp; omega)).trans G4.out
    have hb := Owned.below_write HB.out (g := b5) (i := 8) (by omega) (I (1 + x8))
    clear c8 f8 G4 G5 HB
    generalize World.setCell u4 ⟨b5, 8, none⟩ (I (1 + x8)) = u5 at g4 g5 hb ⊢
    have G4 := Lib.hid g4
    have G5 := Lib.hid g5
    have HB := Lib.hid hb
    clear g4 g5 hb
    have c9 : u5.cell? ⟨b5, 9, none⟩ = some (I 0) := by rw [cell_of_row _ _ _ _ _ _ G5.out]; rfl
    have f9 : u5.frozen? ⟨b5, 9, none⟩ = false := frozen_of_row _ _ _ _ _ G5.out
    go_wp2_with fail
    refine (Fb.out _ HB.out).mono ?_
    rintro e w' ⟨rfl, hq⟩
    subst w'
    go_upto_region 7 with fail
    have g5 := heap_setCell_same u5 b5 9 _ _ (I (1 + xb / 10)) G5.out
    simp only [List.setIfInBounds_toArray, List.set_cons_succ, List.set_cons_zero] at g5
    have g4 := (Below.heap_setCell u5 ⟨b5, 9, none⟩ (I (1 + xb / 10)) w.heap.size (by simp; omega)).trans G4.out
    have hb := Owned.below_write HB.out (g := b5) (i := 9) (by omega) (I (1 + xb / 10))
    clear c9 f9 G4 G5 HB
    generalize World.setCell u5 ⟨b5, 9, none⟩ (I (1 + xb / 10)) = u6 at g4 g5 hb ⊢
    have G4 := Lib.hid g4
    have G5 := Lib.hid g5
    have HB := Lib.hid hb
    clear g4 g5 hb
    have c10 : u6.cell? ⟨b5, 10, none⟩ = some (I 0) := by rw [cell_of_row _ _ _ _ _ _ G5.out]; rfl
    have f10 : u6.frozen? ⟨b5, 10, none⟩ = false := frozen_of_row _ _ _ _ _ G5.out
    go_wp2_with fail
    refine (F9.out _ HB.out).mono ?_
    rintro e w' ⟨rfl, hq⟩
    subst w'
    go_upto_region 8 with fail
    have g5 := heap_setCell_same u6 b5 10 _ _ (I x9) G5.out
    simp only [List.setIfInBounds_toArray, List.set_cons_succ, List.set_cons_zero] at g5
    have g4 := (Below.heap_setCell u6 ⟨b5, 10, none⟩ (I x9) w.heap.size (by simp; omega)).trans G4.out
    have hb := Owned.below_write HB.out (g := b5) (i := 10) (by omega) (I x9)
    clear c10 f10 G4 G5 HB
    generalize World.setCell u6 ⟨b5, 10, none⟩ (I x9) = u7 at g4 g5 hb ⊢
    have G4 := Lib.hid g4
    have G5 := Lib.hid g5
    have HB := Lib.hid hb
    clear g4 g5 hb
    have c8 : u7.cell? ⟨b5, 8, none⟩ = some (I (1 + x8)) := by rw [cell_of_row _ _ _ _ _ _ G5.out]; rfl
    have c10 : u7.cell? ⟨b5, 10, none⟩ = some (I x9) := by rw [cell_of_row _ _ _ _ _ _ G5.out]; rfl
    have f10 : u7.frozen? ⟨b5, 10, none⟩ = false := frozen_of_row _ _ _ _ _ G5.out
    by_cases h9 : x9 > 3
    · have RC : Hid (recall x9 (1 + x8) = 0) := Lib.hid (by unfold recall; rw [if_pos (by omega)])
      have H9 := Lib.hid h9
      have q9 : ¬ (x9 ≤ 3) := by omega
      go_upto_region 10 with fail
      have g5 := heap_setCell_same u7 b5 10 _ _ (I 0) G5.out
      simp only [List.setIfInBounds_toArray, List.set_cons_succ, List.set_cons_zero] at g5
      have g4 := (Below.heap_setCell u7 ⟨b5, 10, none⟩ (I 0) w.heap.size (by simp; omega)).trans G4.out
      have hb := Owned.below_write HB.out (g := b5) (i := 10) (by omega) (I 0)
      clear c8 c10 f10 G4 G5 HB
      generalize World.setCell u7 ⟨b5, 10, none⟩ (I 0) = u8 at g4 g5 hb ⊢
      have G4 := Lib.hid g4
      have G5 := Lib.hid g5
      have HB := Lib.hid hb
      clear g4 g5 hb
      have c11 : u8.cell? ⟨b5, 11, none⟩ = some (.bool false) := by rw [cell_of_row _ _ _ _ _ _ G5.out]; rfl
      have f11 : u8.frozen? ⟨b5, 11, none⟩ = false := frozen_of_row _ _ _ _ _ G5.out
      go_wp2_with fail
      refine (Ft.out _ HB.out).mono ?_
      rintro e w' ⟨rfl, hq⟩
      subst w'
      go_upto_region 11 with fail
      have g5 := heap_setCell_same u8 b5 11 _ _ (.bool (decide (xt > 0))) G5.out
      simp only [List.setIfInBounds_toArray, List.set_cons_succ, List.set_cons_zero] at g5
      have g4 := (Below.heap_setCell u8 ⟨b5, 11, none⟩ (.bool (decide (xt > 0))) w.heap.size (by simp; omega)).trans G4.out
      have hb := Owned.below_write HB.out (g := b5) (i := 11) (by omega) (.bool (decide (xt > 0)))
      clear c11 f11 G4 G5 HB
      generalize World.setCell u8 ⟨b5, 11, none⟩ (.bool (decide (xt > 0))) = u9 at g4 g5 hb ⊢
      have G4 := Lib.hid g4
      have G5 := Lib.hid g5
      have HB := Lib.hid hb
      clear g4 g5 hb
      have c12 : u9.cell? ⟨b5, 12, none⟩ = some (.bool false) := by rw [cell_of_row _ _ _ _ _ _ G5.out]; rfl
      have f12 : u9.frozen? ⟨b5, 12, none⟩ = false := frozen_of_row _ _ _ _ _ G5.out
      go_wp2_with fail
      refine (Fe.out _ HB.out).mono ?_
      rintro e w' ⟨rfl, hq⟩
      subst w'
      go_upto_region 12 with fail
      have g5 := heap_setCell_same u9 b5 12 _ _ (.bool (decide (xe = 1))) G5.out
      simp only [List.setIfInBounds_toArray, List.set_cons_succ, List.set_cons_zero] at g5
      have g4 := (Below.heap_setCell u9 ⟨b5, 12, none⟩ (.bool (decide (xe = 1))) w.heap.size (by simp; omega)).trans G4.out
      have hb := Owned.below_write HB.out (g := b5) (i := 12) (by omega) (.bool (decide (xe = 1)))
      clear c12 f12 G4 G5 HB
      generalize World.setCell u9 ⟨b5, 12, none⟩ (.bool (decide (xe = 1))) = u10 at g4 g5 hb ⊢
      have G4 := Lib.hid g4
      have G5 := Lib.hid g5
      have HB := Lib.hid hb
      clear g4 g5 hb
      have FIN : Hid (R.cells.toArray = #[.bool true, I (1 + x0), I x1, I (1 + x0 + x5), I (1 + x0 + x5 + x6), I (1 + x2), I (10 + x3), I x4, I (1 + x8), I (1 + xb / 10), I 0, .bool (decide (xt > 0)), .bool (decide (xe = 1))]) := Lib.hid (by rw [RES.out]; simp only [Ph.cells, if_pos H7.out, RC.out])
      have LV : Hid (Lies u10 ⟨b5, 0, none⟩ #[.bool true, I (1 + x0), I x1, I (1 + x0 + x5), I (1 + x0 + x5 + x6), I (1 + x2), I (10 + x3), I x4, I (1 + x8), I (1 + xb / 10), I 0, .bool (decide (xt > 0)), .bool (decide (xe = 1))].toList) := Lib.hid (Row.lies_of_block G5.out)
      have HG := Lib.hid (below_setRow HB.out (g := w.heap.size) (Nat.le_refl _) #[.bool true, I (1 + x0), I x1, I (1 + x0 + x5), I (1 + x0 + x5 + x6), I (1 + x2), I (10 + x3), I x4, I (1 + x8), I (1 + xb / 10), I 0, .bool (decide (xt > 0)), .bool (decide (xe = 1))])
      have HK := Lib.hid (setRow_heap u10 w.heap.size _ #[.bool true, I (1 + x0), I x1, I (1 + x0 + x5), I (1 + x0 + x5 + x6), I (1 + x2), I (10 + x3), I x4, I (1 + x8), I (1 + xb / 10), I 0, .bool (decide (xt > 0)), .bool (decide (xe = 1))] _ _ G4.out)
      go_wp2_with (first | (refine Row.wpList_load_g 23 _ rfl (by first | rfl | go_simp) ⟨b5, 0, none⟩ rfl #[.bool true, I (1 + x0), I x1, I (1 + x0 + x5), I (1 + x0 + x5 + x6), I (1 + x2), I (10 + x3), I x4, I (1 + x8), I (1 + xb / 10), I 0, .bool (decide (xt > 0)), .bool (decide (xe = 1))].toList _ LV.out Try.underlying23 rfl infoP ?_) | (refine wpList_store_row rfl 23 _ _ rfl w.heap.size #[.bool true, I (1 + x0), I x1, I (1 + x0 + x5), I (1 + x0 + x5 + x6), I (1 + x2), I (10 + x3), I x4, I (1 + x8), I (1 + xb / 10), I 0, .bool (decide (xt > 0)), .bool (decide (xe = 1))] rfl rfl 23 _ G4.out infoP rfl (by simp [Value.oneCell']) ?_))
      generalize u10.setRow w.heap.size #[.bool true, I (1 + x0), I x1, I (1 + x0 + x5), I (1 + x0 + x5 + x6), I (1 + x2), I (10 + x3), I x4, I (1 + x8), I (1 + xb / 10), I 0, .bool (decide (xt > 0)), .bool (decide (xe = 1))] = uz at HG HK ⊢
      go_wp2_with fail
      (try simp only [Exit.inBlock, Exit.then])
      refine bodyPost_ret (v := .agg #[.bool true, I (1 + x0), I x1, I (1 + x0 + x5), I (1 + x0 + x5 + x6), I (1 + x2), I (10 + x3), I x4, I (1 + x8), I (1 + xb / 10), I 0, .bool (decide (xt > 0)), .bool (decide (xe = 1))]) ?_ rfl ⟨by rw [FIN.out], HG.out⟩
      exact results_cell_row rfl _ _ w.heap.size 23 _ (0, 0) _ rfl HK.out Try.underlying23 rfl infoP
    · have RC : Hid (recall x9 (1 + x8) = x9) := Lib.hid (by unfold recall; rw [if_neg (by omega)])
      have H9 := Lib.hid h9
      have q9 : x9 ≤ 3 := by omega
      have q8 : (1 + x8 == 0) = false := by rw [beq_eq_false_iff_ne]; omega
      have Q8 := Lib.hid (show ¬ (1 + x8 = 0) from by omega)
      by_cases h3 : x9 = 3
      · have e3 : (x9 == 3) = true := by simpa using h3
        clear h3 h9
        go_upto_region 10 with fail
        clear c8 c10 f10 e3 q8
        have c11 : u7.cell? ⟨b5, 11, none⟩ = some (.bool false) := by rw [cell_of_row _ _ _ _ _ _ G5.out]; rfl
        have f11 : u7.frozen? ⟨b5, 11, none⟩ = false := frozen_of_row _ _ _ _ _ G5.out
        go_wp2_with fail
        refine (Ft.out _ HB.out).mono ?_
        rintro e w' ⟨rfl, hq⟩
        subst w'
        go_upto_region 11 with fail
        have g5 := heap_setCell_same u7 b5 11 _ _ (.bool (decide (xt > 0))) G5.out
        simp only [List.setIfInBounds_toArray, List.set_cons_succ, List.set_cons_zero] at g5
        have g4 := (Below.heap_setCell u7 ⟨b5, 11, none⟩ (.bool (decide (xt > 0))) w.heap.size (by simp; omega)).trans G4.out
        have hb := Owned.below_write HB.out (g := b5) (i := 11) (by omega) (.bool (decide (xt > 0)))
        clear c11 f11 G4 G5 HB
        generalize World.setCell u7 ⟨b5, 11, none⟩ (.bool (decide (xt > 0))) = u8 at g4 g5 hb ⊢
        have G4 := Lib.hid g4
        have G5 := Lib.hid g5
        have HB := Lib.hid hb
        clear g4 g5 hb
        have c12 : u8.cell? ⟨b5, 12, none⟩ = some (.bool false) := by rw [cell_of_row _ _ _ _ _ _ G5.out]; rfl
        have f12 : u8.frozen? ⟨b5, 12, none⟩ = false := frozen_of_row _ _ _ _ _ G5.out
        go_wp2_with fail
        refine (Fe.out _ HB.out).mono ?_
        rintro e w' ⟨rfl, hq⟩
        subst w'
        go_upto_region 12 with fail
        have g5 := heap_setCell_same u8 b5 12 _ _ (.bool (decide (xe = 1))) G5.out
        simp only [List.setIfInBounds_toArray, List.set_cons_succ, List.set_cons_zero] at g5
        have g4 := (Below.heap_setCell u8 ⟨b5, 12, none⟩ (.bool (decide (xe = 1))) w.heap.size (by simp; omega)).trans G4.out
        have hb := Owned.below_write HB.out (g := b5) (i := 12) (by omega) (.bool (decide (xe = 1)))
        clear c12 f12 G4 G5 HB
        generalize World.setCell u8 ⟨b5, 12, none⟩ (.bool (decide (xe = 1))) = u9 at g4 g5 hb ⊢
        have G4 := Lib.hid g4
        have G5 := Lib.hid g5
        have HB := Lib.hid hb
        clear g4 g5 hb
        have FIN : Hid (R.cells.toArray = #[.bool true, I (1 + x0), I x1, I (1 + x0 + x5), I (1 + x0 + x5 + x6), I (1 + x2), I (10 + x3), I x4, I (1 + x8), I (1 + xb / 10), I x9, .bool (decide (xt > 0)), .bool (decide (xe = 1))]) := Lib.hid (by rw [RES.out]; simp only [Ph.cells, if_pos H7.out, RC.out])
        have LV : Hid (Lies u9 ⟨b5, 0, none⟩ #[.bool true, I (1 + x0), I x1, I (1 + x0 + x5), I (1 + x0 + x5 + x6), I (1 + x2), I (10 + x3), I x4, I (1 + x8), I (1 + xb / 10), I x9, .bool (decide (xt > 0)), .bool (decide (xe = 1))].toList) := Lib.hid (Row.lies_of_block G5.out)
        have HG := Lib.hid (below_setRow HB.out (g := w.heap.size) (Nat.le_refl _) #[.bool true, I (1 + x0), I x1, I (1 + x0 + x5), I (1 + x0 + x5 + x6), I (1 + x2), I (10 + x3), I x4, I (1 + x8), I (1 + xb / 10), I x9, .bool (decide (xt > 0)), .bool (decide (xe = 1))])
        have HK := Lib.hid (setRow_heap u9 w.heap.size _ #[.bool true, I (1 + x0), I x1, I (1 + x0 + x5), I (1 + x0 + x5 + x6), I (1 + x2), I (10 + x3), I x4, I (1 + x8), I (1 + xb / 10), I x9, .bool (decide (xt > 0)), .bool (decide (xe = 1))] _ _ G4.out)
        go_wp2_with (first | (refine Row.wpList_load_g 23 _ rfl (by first | rfl | go_simp) ⟨b5, 0, none⟩ rfl #[.bool true, I (1 + x0), I x1, I (1 + x0 + x5), I (1 + x0 + x5 + x6), I (1 + x2), I (10 + x3), I x4, I (1 + x8), I (1 + xb / 10), I x9, .bool (decide (xt > 0)), .bool (decide (xe = 1))].toList _ LV.out Try.underlying23 rfl infoP ?_) | (refine wpList_store_row rfl 23 _ _ rfl w.heap.size #[.bool true, I (1 + x0), I x1, I (1 + x0 + x5), I (1 + x0 + x5 + x6), I (1 + x2), I (10 + x3), I x4, I (1 + x8), I (1 + xb / 10), I x9, .bool (decide (xt > 0)), .bool (decide (xe = 1))] rfl rfl 23 _ G4.out infoP rfl (by simp [Value.oneCell']) ?_))
        generalize u9.setRow w.heap.size #[.bool true, I (1 + x0), I x1, I (1 + x0 + x5), I (1 + x0 + x5 + x6), I (1 + x2), I (10 + x3), I x4, I (1 + x8), I (1 + xb / 10), I x9, .bool (decide (xt > 0)), .bool (decide (xe = 1))] = uz at HG HK ⊢
        go_wp2_with fail
        (try simp only [Exit.inBlock, Exit.then])
        refine bodyPost_ret (v := .agg #[.bool true, I (1 + x0), I x1, I (1 + x0 + x5), I (1 + x0 + x5 + x6), I (1 + x2), I (10 + x3), I x4, I (1 + x8), I (1 + xb / 10), I x9, .bool (decide (xt > 0)), .bool (decide (xe = 1))]) ?_ rfl ⟨by rw [FIN.out], HG.out⟩
        exact results_cell_row rfl _ _ w.heap.size 23 _ (0, 0) _ rfl HK.out Try.underlying23 rfl infoP
      · have e3 : (x9 == 3) = false := by simpa using h3
        clear h3 h9
        go_upto_region 10 with fail
        clear c8 c10 f10 e3 q8
        have c11 : u7.cell? ⟨b5, 11, none⟩ = some (.bool false) := by rw [cell_of_row _ _ _ _ _ _ G5.out]; rfl
        have f11 : u7.frozen? ⟨b5, 11, none⟩ = false := frozen_of_row _ _ _ _ _ G5.out
        go_wp2_with fail
        refine (Ft.out _ HB.out).mono ?_
        rintro e w' ⟨rfl, hq⟩
        subst w'
        go_upto_region 11 with fail
        have g5 := heap_setCell_same u7 b5 11 _ _ (.bool (decide (xt > 0))) G5.out
        simp only [List.setIfInBounds_toArray, List.set_cons_succ, List.set_cons_zero] at g5
        have g4 := (Below.heap_setCell u7 ⟨b5, 11, none⟩ (.bool (decide (xt > 0))) w.heap.size (by simp; omega)).trans G4.out
        have hb := Owned.below_write HB.out (g := b5) (i := 11) (by omega) (.bool (decide (xt > 0)))
        clear c11 f11 G4 G5 HB
        generalize World.setCell u7 ⟨b5, 11, none⟩ (.bool (decide (xt > 0))) = u8 at g4 g5 hb ⊢
        have G4 := Lib.hid g4
        have G5 := Lib.hid g5
        have HB := Lib.hid hb
        clear g4 g5 hb
        have c12 : u8.cell? ⟨b5, 12, none⟩ = some (.bool false) := by rw [cell_of_row _ _ _ _ _ _ G5.out]; rfl
        have f12 : u8.frozen? ⟨b5, 12, none⟩ = false := frozen_of_row _ _ _ _ _ G5.out
        go_wp2_with fail
        refine (Fe.out _ HB.out).mono ?_
        rintro e w' ⟨rfl, hq⟩
        subst w'
        go_upto_region 12 with fail
        have g5 := heap_setCell_same u8 b5 12 _ _ (.bool (decide (xe = 1))) G5.out
        simp only [List.setIfInBounds_toArray, List.set_cons_succ, List.set_cons_zero] at g5
        have g4 := (Below.heap_setCell u8 ⟨b5, 12, none⟩ (.bool (decide (xe = 1))) w.heap.size (by simp; omega)).trans G4.out
        have hb := Owned.below_write HB.out (g := b5) (i := 12) (by omega) (.bool (decide (xe = 1)))
        clear c12 f12 G4 G5 HB
        generalize World.setCell u8 ⟨b5, 12, none⟩ (.bool (decide (xe = 1))) = u9 at g4 g5 hb ⊢
        have G4 := Lib.hid g4
        have G5 := Lib.hid g5
        have HB := Lib.hid hb
        clear g4 g5 hb
        have FIN : Hid (R.cells.toArray = #[.bool true, I (1 + x0), I x1, I (1 + x0 + x5), I (1 + x0 + x5 + x6), I (1 + x2), I (10 + x3), I x4, I (1 + x8), I (1 + xb / 10), I x9, .bool (decide (xt > 0)), .bool (decide (xe = 1))]) := Lib.hid (by rw [RES.out]; simp only [Ph.cells, if_pos H7.out, RC.out])
        have LV : Hid (Lies u9 ⟨b5, 0, none⟩ #[.bool true, I (1 + x0), I x1, I (1 + x0 + x5), I (1 + x0 + x5 + x6), I (1 + x2), I (10 + x3), I x4, I (1 + x8), I (1 + xb / 10), I x9, .bool (decide (xt > 0)), .bool (decide (xe = 1))].toList) := Lib.hid (Row.lies_of_block G5.out)
        have HG := Lib.hid (below_setRow HB.out (g := w.heap.size) (Nat.le_refl _) #[.bool true, I (1 + x0), I x1, I (1 + x0 + x5), I (1 + x0 + x5 + x6), I (1 + x2), I (10 + x3), I x4, I (1 + x8), I (1 + xb / 10), I x9, .bool (decide (xt > 0)), .bool (decide (xe = 1))])
        have HK := Lib.hid (setRow_heap u9 w.heap.size _ #[.bool true, I (1 + x0), I x1, I (1 + x0 + x5), I (1 + x0 + x5 + x6), I (1 + x2), I (10 + x3), I x4, I (1 + x8), I (1 + xb / 10), I x9, .bool (decide (xt > 0)), .bool (decide (xe = 1))] _ _ G4.out)
        go_wp2_with (first | (refine Row.wpList_load_g 23 _ rfl (by first | rfl | go_simp) ⟨b5, 0, none⟩ rfl #[.bool true, I (1 + x0), I x1, I (1 + x0 + x5), I (1 + x0 + x5 + x6), I (1 + x2), I (10 + x3), I x4, I (1 + x8), I (1 + xb / 10), I x9, .bool (decide (xt > 0)), .bool (decide (xe = 1))].toList _ LV.out Try.underlying23 rfl infoP ?_) | (refine wpList_store_row rfl 23 _ _ rfl w.heap.size #[.bool true, I (1 + x0), I x1, I (1 + x0 + x5), I (1 + x0 + x5 + x6), I (1 + x2), I (10 + x3), I x4, I (1 + x8), I (1 + xb / 10), I x9, .bool (decide (xt > 0)), .bool (decide (xe = 1))] rfl rfl 23 _ G4.out infoP rfl (by simp [Value.oneCell']) ?_))
        generalize u9.setRow w.heap.size #[.bool true, I (1 + x0), I x1, I (1 + x0 + x5), I (1 + x0 + x5 + x6), I (1 + x2), I (10 + x3), I x4, I (1 + x8), I (1 + xb / 10), I x9, .bool (decide (xt > 0)), .bool (decide (xe = 1))] = uz at HG HK ⊢
        go_wp2_with fail
        (try simp only [Exit.inBlock, Exit.then])
        refine bodyPost_ret (v := .agg #[.bool true, I (1 + x0), I x1, I (1 + x0 + x5), I (1 + x0 + x5 + x6), I (1 + x2), I (10 + x3), I x4, I (1 + x8), I (1 + xb / 10), I x9, .bool (decide (xt > 0)), .bool (decide (xe = 1))]) ?_ rfl ⟨by rw [FIN.out], HG.out⟩
        exact results_cell_row rfl _ _ w.heap.size 23 _ (0, 0) _ rfl HK.out Try.underlying23 rfl infoP
  · have H7 := Lib.hid h7
    have e7 : (x7 == 1) = false := by simpa using h7
    clear h7
    go_upto_region 7 with fail
    have c10 : u4.cell? ⟨b5, 10, none⟩ = some (I 0) := by rw [cell_of_row _ _ _ _ _ _ G5.out]; rfl
    have f10 : u4.frozen? ⟨b5, 10, none⟩ = false := frozen_of_row _ _ _ _ _ G5.out
    go_wp2_with fail
    refine (F9.out _ HB.out).mono ?_
    rintro e w' ⟨rfl, hq⟩
    subst w'
    go_upto_region 8 with fail
    have g5 := heap_setCell_same u4 b5 10 _ _ (I x9) G5.out
    simp only [List.setIfInBounds_toArray, List.set_cons_succ, List.set_cons_zero] at g5
    have g4 := (Below.heap_setCell u4 ⟨b5, 10, none⟩ (I x9) w.heap.size (by simp; omega)).trans G4.out
    have hb := Owned.below_write HB.out (g := b5) (i := 10) (by omega) (I x9)
    clear c10 f10 G4 G5 HB
    generalize World.setCell u4 ⟨b5, 10, none⟩ (I x9) = u5 at g4 g5 hb ⊢
    have G4 := Lib.hid g4
    have G5 := Lib.hid g5
    have HB := Lib.hid hb
    clear g4 g5 hb
    have c8 : u5.cell? ⟨b5, 8, none⟩ = some (I 0) := by rw [cell_of_row _ _ _ _ _ _ G5.out]; rfl
    have c10 : u5.cell? ⟨b5, 10, none⟩ = some (I x9) := by rw [cell_of_row _ _ _ _ _ _ G5.out]; rfl
    have f10 : u5.frozen? ⟨b5, 10, none⟩ = false := frozen_of_row _ _ _ _ _ G5.out
    by_cases h9 : x9 > 3
    · have RC : Hid (recall x9 (0) = 0) := Lib.hid (by unfold recall; rw [if_pos (by omega)])
      have H9 := Lib.hid h9
      have q9 : ¬ (x9 ≤ 3) := by omega
      go_upto_region 10 with fail
      have g5 := heap_setCell_same u5 b5 10 _ _ (I 0) G5.out
      simp only [List.setIfInBounds_toArray, List.set_cons_succ, List.set_cons_zero] at g5
      have g4 := (Below.heap_setCell u5 ⟨b5, 10, none⟩ (I 0) w.heap.size (by simp; omega)).trans G4.out
      have hb := Owned.below_write HB.out (g := b5) (i := 10) (by omega) (I 0)
      clear c8 c10 f10 G4 G5 HB
      generalize World.setCell u5 ⟨b5, 10, none⟩ (I 0) = u6 at g4 g5 hb ⊢
      have G4 := Lib.hid g4
      have G5 := Lib.hid g5
      have HB := Lib.hid hb
      clear g4 g5 hb
      have c11 : u6.cell? ⟨b5, 11, none⟩ = some (.bool false) := by rw [cell_of_row _ _ _ _ _ _ G5.out]; rfl
      have f11 : u6.frozen? ⟨b5, 11, none⟩ = false := frozen_of_row _ _ _ _ _ G5.out
      go_wp2_with fail
      refine (Ft.out _ HB.out).mono ?_
      rintro e w' ⟨rfl, hq⟩
      subst w'
      go_upto_region 11 with fail
      have g5 := heap_setCell_same u6 b5 11 _ _ (.bool (decide (xt > 0))) G5.out
      simp only [List.setIfInBounds_toArray, List.set_cons_succ, List.set_cons_zero] at g5
      have g4 := (Below.heap_setCell u6 ⟨b5, 11, none⟩ (.bool (decide (xt > 0))) w.heap.size (by simp; omega)).trans G4.out
      have hb := Owned.below_write HB.out (g := b5) (i := 11) (by omega) (.bool (decide (xt > 0)))
      clear c11 f11 G4 G5 HB
      generalize World.setCell u6 ⟨b5, 11, none⟩ (.bool (decide (xt > 0))) = u7 at g4 g5 hb ⊢
      have G4 := Lib.hid g4
      have G5 := Lib.hid g5
      have HB := Lib.hid hb
      clear g4 g5 hb
      have c12 : u7.cell? ⟨b5, 12, none⟩ = some (.bool false) := by rw [cell_of_row _ _ _ _ _ _ G5.out]; rfl
      have f12 : u7.frozen? ⟨b5, 12, none⟩ = false := frozen_of_row _ _ _ _ _ G5.out
      go_wp2_with fail
      refine (Fe.out _ HB.out).mono ?_
      rintro e w' ⟨rfl, hq⟩
      subst w'
      go_upto_region 12 with fail
      have g5 := heap_setCell_same u7 b5 12 _ _ (.bool (decide (xe = 1))) G5.out
      simp only [List.setIfInBounds_toArray, List.set_cons_succ, List.set_cons_zero] at g5
      have g4 := (Below.heap_setCell u7 ⟨b5, 12, none⟩ (.bool (decide (xe = 1))) w.heap.size (by simp; omega)).trans G4.out
      have hb := Owned.below_write HB.out (g := b5) (i := 12) (by omega) (.bool (decide (xe = 1)))
      clear c12 f12 G4 G5 HB
      generalize World.setCell u7 ⟨b5, 12, none⟩ (.bool (decide (xe = 1))) = u8 at g4 g5 hb ⊢
      have G4 := Lib.hid g4
      have G5 := Lib.hid g5
      have HB := Lib.hid hb
      clear g4 g5 hb
      have FIN : Hid (R.cells.toArray = #[.bool true, I (1 + x0), I x1, I (1 + x0 + x5), I (1 + x0 + x5 + x6), I (1 + x2), I (10 + x3), I x4, I 0, I 0, I 0, .bool (decide (xt > 0)), .bool (decide (xe = 1))]) := Lib.hid (by rw [RES.out]; simp only [Ph.cells, if_neg H7.out, RC.out])
      have LV : Hid (Lies u8 ⟨b5, 0, none⟩ #[.bool true, I (1 + x0), I x1, I (1 + x0 + x5), I (1 + x0 + x5 + x6), I (1 + x2), I (10 + x3), I x4, I 0, I 0, I 0, .bool (decide (xt > 0)), .bool (decide (xe = 1))].toList) := Lib.hid (Row.lies_of_block G5.out)
      have HG := Lib.hid (below_setRow HB.out (g := w.heap.size) (Nat.le_refl _) #[.bool true, I (1 + x0), I x1, I (1 + x0 + x5), I (1 + x0 + x5 + x6), I (1 + x2), I (10 + x3), I x4, I 0, I 0, I 0, .bool (decide (xt > 0)), .bool (decide (xe = 1))])
      have HK := Lib.hid (setRow_heap u8 w.heap.size _ #[.bool true, I (1 + x0), I x1, I (1 + x0 + x5), I (1 + x0 + x5 + x6), I (1 + x2), I (10 + x3), I x4, I 0, I 0, I 0, .bool (decide (xt > 0)), .bool (decide (xe = 1))] _ _ G4.out)
      go_wp2_with (first | (refine Row.wpList_load_g 23 _ rfl (by first | rfl | go_simp) ⟨b5, 0, none⟩ rfl #[.bool true, I (1 + x0), I x1, I (1 + x0 + x5), I (1 + x0 + x5 + x6), I (1 + x2), I (10 + x3), I x4, I 0, I 0, I 0, .bool (decide (xt > 0)), .bool (decide (xe = 1))].toList _ LV.out Try.underlying23 rfl infoP ?_) | (refine wpList_store_row rfl 23 _ _ rfl w.heap.size #[.bool true, I (1 + x0), I x1, I (1 + x0 + x5), I (1 + x0 + x5 + x6), I (1 + x2), I (10 + x3), I x4, I 0, I 0, I 0, .bool (decide (xt > 0)), .bool (decide (xe = 1))] rfl rfl 23 _ G4.out infoP rfl (by simp [Value.oneCell']) ?_))
      generalize u8.setRow w.heap.size #[.bool true, I (1 + x0), I x1, I (1 + x0 + x5), I (1 + x0 + x5 + x6), I (1 + x2), I (10 + x3), I x4, I 0, I 0, I 0, .bool (decide (xt > 0)), .bool (decide (xe = 1))] = uz at HG HK ⊢
      go_wp2_with fail
      (try simp only [Exit.inBlock, Exit.then])
      refine bodyPost_ret (v := .agg #[.bool true, I (1 + x0), I x1, I (1 + x0 + x5), I (1 + x0 + x5 + x6), I (1 + x2), I (10 + x3), I x4, I 0, I 0, I 0, .bool (decide (xt > 0)), .bool (decide (xe = 1))]) ?_ rfl ⟨by rw [FIN.out], HG.out⟩
      exact results_cell_row rfl _ _ w.heap.size 23 _ (0, 0) _ rfl HK.out Try.underlying23 rfl infoP
    · have H9 := Lib.hid h9
      have q9 : x9 ≤ 3 := by omega
      by_cases h3 : x9 = 3
      · have RC : Hid (recall x9 (0) = 0) := Lib.hid (by unfold recall; rw [if_pos (by omega)])
        have H3 := Lib.hid h3
        have e3 : (x9 == 3) = true := by simpa using h3
        clear h3 h9
        go_upto_region 10 with fail
        have g5 := heap_setCell_same u5 b5 10 _ _ (I 0) G5.out
        simp only [List.setIfInBounds_toArray, List.set_cons_succ, List.set_cons_zero] at g5
        have g4 := (Below.heap_setCell u5 ⟨b5, 10, none⟩ (I 0) w.heap.size (by simp; omega)).trans G4.out
        have hb := Owned.below_write HB.out (g := b5) (i := 10) (by omega) (I 0)
        clear c8 c10 f10 G4 G5 HB
        generalize World.setCell u5 ⟨b5, 10, none⟩ (I 0) = u6 at g4 g5 hb ⊢
        have G4 := Lib.hid g4
        have G5 := Lib.hid g5
        have HB := Lib.hid hb
        clear g4 g5 hb
        clear e3
        have c11 : u6.cell? ⟨b5, 11, none⟩ = some (.bool false) := by rw [cell_of_row _ _ _ _ _ _ G5.out]; rfl
        have f11 : u6.frozen? ⟨b5, 11, none⟩ = false := frozen_of_row _ _ _ _ _ G5.out
        go_wp2_with fail
        refine (Ft.out _ HB.out).mono ?_
        rintro e w' ⟨rfl, hq⟩
        subst w'
        go_upto_region 11 with fail
        have g5 := heap_setCell_same u6 b5 11 _ _ (.bool (decide (xt > 0))) G5.out
        simp only [List.setIfInBounds_toArray, List.set_cons_succ, List.set_cons_zero] at g5
        have g4 := (Below.heap_setCell u6 ⟨b5, 11, none⟩ (.bool (decide (xt > 0))) w.heap.size (by simp; omega)).trans G4.out
        have hb := Owned.below_write HB.out (g := b5) (i := 11) (by omega) (.bool (decide (xt > 0)))
        clear c11 f11 G4 G5 HB
        generalize World.setCell u6 ⟨b5, 11, none⟩ (.bool (decide (xt > 0))) = u7 at g4 g5 hb ⊢
        have G4 := Lib.hid g4
        have G5 := Lib.hid g5
        have HB := Lib.hid hb
        clear g4 g5 hb
        have c12 : u7.cell? ⟨b5, 12, none⟩ = some (.bool false) := by rw [cell_of_row _ _ _ _ _ _ G5.out]; rfl
        have f12 : u7.frozen? ⟨b5, 12, none⟩ = false := frozen_of_row _ _ _ _ _ G5.out
        go_wp2_with fail
        refine (Fe.out _ HB.out).mono ?_
        rintro e w' ⟨rfl, hq⟩
        subst w'
        go_upto_region 12 with fail
        have g5 := heap_setCell_same u7 b5 12 _ _ (.bool (decide (xe = 1))) G5.out
        simp only [List.setIfInBounds_toArray, List.set_cons_succ, List.set_cons_zero] at g5
        have g4 := (Below.heap_setCell u7 ⟨b5, 12, none⟩ (.bool (decide (xe = 1))) w.heap.size (by simp; omega)).trans G4.out
        have hb := Owned.below_write HB.out (g := b5) (i := 12) (by omega) (.bool (decide (xe = 1)))
        clear c12 f12 G4 G5 HB
        generalize World.setCell u7 ⟨b5, 12, none⟩ (.bool (decide (xe = 1))) = u8 at g4 g5 hb ⊢
        have G4 := Lib.hid g4
        have G5 := Lib.hid g5
        have HB := Lib.hid hb
        clear g4 g5 hb
        have FIN : Hid (R.cells.toArray = #[.bool true, I (1 + x0), I x1, I (1 + x0 + x5), I (1 + x0 + x5 + x6), I (1 + x2), I (10 + x3), I x4, I 0, I 0, I 0, .bool (decide (xt > 0)), .bool (decide (xe = 1))]) := Lib.hid (by rw [RES.out]; simp only [Ph.cells, if_neg H7.out, RC.out])
        have LV : Hid (Lies u8 ⟨b5, 0, none⟩ #[.bool true, I (1 + x0), I x1, I (1 + x0 + x5), I (1 + x0 + x5 + x6), I (1 + x2), I (10 + x3), I x4, I 0, I 0, I 0, .bool (decide (xt > 0)), .bool (decide (xe = 1))].toList) := Lib.hid (Row.lies_of_block G5.out)
        have HG := Lib.hid (below_setRow HB.out (g := w.heap.size) (Nat.le_refl _) #[.bool true, I (1 + x0), I x1, I (1 + x0 + x5), I (1 + x0 + x5 + x6), I (1 + x2), I (10 + x3), I x4, I 0, I 0, I 0, .bool (decide (xt > 0)), .bool (decide (xe = 1))])
        have HK := Lib.hid (setRow_heap u8 w.heap.size _ #[.bool true, I (1 + x0), I x1, I (1 + x0 + x5), I (1 + x0 + x5 + x6), I (1 + x2), I (10 + x3), I x4, I 0, I 0, I 0, .bool (decide (xt > 0)), .bool (decide (xe = 1))] _ _ G4.out)
        go_wp2_with (first | (refine Row.wpList_load_g 23 _ rfl (by first | rfl | go_simp) ⟨b5, 0, none⟩ rfl #[.bool true, I (1 + x0), I x1, I (1 + x0 + x5), I (1 + x0 + x5 + x6), I (1 + x2), I (10 + x3), I x4, I 0, I 0, I 0, .bool (decide (xt > 0)), .bool (decide (xe = 1))].toList _ LV.out Try.underlying23 rfl infoP ?_) | (refine wpList_store_row rfl 23 _ _ rfl w.heap.size #[.bool true, I (1 + x0), I x1, I (1 + x0 + x5), I (1 + x0 + x5 + x6), I (1 + x2), I (10 + x3), I x4, I 0, I 0, I 0, .bool (decide (xt > 0)), .bool (decide (xe = 1))] rfl rfl 23 _ G4.out infoP rfl (by simp [Value.oneCell']) ?_))
        generalize u8.setRow w.heap.size #[.bool true, I (1 + x0), I x1, I (1 + x0 + x5), I (1 + x0 + x5 + x6), I (1 + x2), I (10 + x3), I x4, I 0, I 0, I 0, .bool (decide (xt > 0)), .bool (decide (xe = 1))] = uz at HG HK ⊢
        go_wp2_with fail
        (try simp only [Exit.inBlock, Exit.then])
        refine bodyPost_ret (v := .agg #[.bool true, I (1 + x0), I x1, I (1 + x0 + x5), I (1 + x0 + x5 + x6), I (1 + x2), I (10 + x3), I x4, I 0, I 0, I 0, .bool (decide (xt > 0)), .bool (decide (xe = 1))]) ?_ rfl ⟨by rw [FIN.out], HG.out⟩
        exact results_cell_row rfl _ _ w.heap.size 23 _ (0, 0) _ rfl HK.out Try.underlying23 rfl infoP
      · have RC : Hid (recall x9 (0) = x9) := Lib.hid (by unfold recall; rw [if_neg (by omega)])
        have H3 := Lib.hid h3
        have e3 : (x9 == 3) = false := by simpa using h3
        clear h3 h9
        go_upto_region 10 with fail
        clear c8 c10 f10 e3
        have c11 : u5.cell? ⟨b5, 11, none⟩ = some (.bool false) := by rw [cell_of_row _ _ _ _ _ _ G5.out]; rfl
        have f11 : u5.frozen? ⟨b5, 11, none⟩ = false := frozen_of_row _ _ _ _ _ G5.out
        go_wp2_with fail
        refine (Ft.out _ HB.out).mono ?_
        rintro e w' ⟨rfl, hq⟩
        subst w'
        go_upto_region 11 with fail
        have g5 := heap_setCell_same u5 b5 11 _ _ (.bool (decide (xt > 0))) G5.out
        simp only [List.setIfInBounds_toArray, List.set_cons_succ, List.set_cons_zero] at g5
        have g4 := (Below.heap_setCell u5 ⟨b5, 11, none⟩ (.bool (decide (xt > 0))) w.heap.size (by simp; omega)).trans G4.out
        have hb := Owned.below_write HB.out (g := b5) (i := 11) (by omega) (.bool (decide (xt > 0)))
        clear c11 f11 G4 G5 HB
        generalize World.setCell u5 ⟨b5, 11, none⟩ (.bool (decide (xt > 0))) = u6 at g4 g5 hb ⊢
        have G4 := Lib.hid g4
        have G5 := Lib.hid g5
        have HB := Lib.hid hb
        clear g4 g5 hb
        have c12 : u6.cell? ⟨b5, 12, none⟩ = some (.bool false) := by rw [cell_of_row _ _ _ _ _ _ G5.out]; rfl
        have f12 : u6.frozen? ⟨b5, 12, none⟩ = false := frozen_of_row _ _ _ _ _ G5.out
        go_wp2_with fail
        refine (Fe.out _ HB.out).mono ?_
        rintro e w' ⟨rfl, hq⟩
        subst w'
        go_upto_region 12 with fail
        have g5 := heap_setCell_same u6 b5 12 _ _ (.bool (decide (xe = 1))) G5.out
        simp only [List.setIfInBounds_toArray, List.set_cons_succ, List.set_cons_zero] at g5
        have g4 := (Below.heap_setCell u6 ⟨b5, 12, none⟩ (.bool (decide (xe = 1))) w.heap.size (by simp; omega)).trans G4.out
        have hb := Owned.below_write HB.out (g := b5) (i := 12) (by omega) (.bool (decide (xe = 1)))
        clear c12 f12 G4 G5 HB
        generalize World.setCell u6 ⟨b5, 12, none⟩ (.bool (decide (xe = 1))) = u7 at g4 g5 hb ⊢
        have G4 := Lib.hid g4
        have G5 := Lib.hid g5
        have HB := Lib.hid hb
        clear g4 g5 hb
        have FIN : Hid (R.cells.toArray = #[.bool true, I (1 + x0), I x1, I (1 + x0 + x5), I (1 + x0 + x5 + x6), I (1 + x2), I (10 + x3), I x4, I 0, I 0, I x9, .bool (decide (xt > 0)), .bool (decide (xe = 1))]) := Lib.hid (by rw [RES.out]; simp only [Ph.cells, if_neg H7.out, RC.out])
        have LV : Hid (Lies u7 ⟨b5, 0, none⟩ #[.bool true, I (1 + x0), I x1, I (1 + x0 + x5), I (1 + x0 + x5 + x6), I (1 + x2), I (10 + x3), I x4, I 0, I 0, I x9, .bool (decide (xt > 0)), .bool (decide (xe = 1))].toList) := Lib.hid (Row.lies_of_block G5.out)
        have HG := Lib.hid (below_setRow HB.out (g := w.heap.size) (Nat.le_refl _) #[.bool true, I (1 + x0), I x1, I (1 + x0 + x5), I (1 + x0 + x5 + x6), I (1 + x2), I (10 + x3), I x4, I 0, I 0, I x9, .bool (decide (xt > 0)), .bool (decide (xe = 1))])
        have HK := Lib.hid (setRow_heap u7 w.heap.size _ #[.bool true, I (1 + x0), I x1, I (1 + x0 + x5), I (1 + x0 + x5 + x6), I (1 + x2), I (10 + x3), I x4, I 0, I 0, I x9, .bool (decide (xt > 0)), .bool (decide (xe = 1))] _ _ G4.out)
        go_wp2_with (first | (refine Row.wpList_load_g 23 _ rfl (by first | rfl | go_simp) ⟨b5, 0, none⟩ rfl #[.bool true, I (1 + x0), I x1, I (1 + x0 + x5), I (1 + x0 + x5 + x6), I (1 + x2), I (10 + x3), I x4, I 0, I 0, I x9, .bool (decide (xt > 0)), .bool (decide (xe = 1))].toList _ LV.out Try.underlying23 rfl infoP ?_) | (refine wpList_store_row rfl 23 _ _ rfl w.heap.size #[.bool true, I (1 + x0), I x1, I (1 + x0 + x5), I (1 + x0 + x5 + x6), I (1 + x2), I (10 + x3), I x4, I 0, I 0, I x9, .bool (decide (xt > 0)), .bool (decide (xe = 1))] rfl rfl 23 _ G4.out infoP rfl (by simp [Value.oneCell']) ?_))
        generalize u7.setRow w.heap.size #[.bool true, I (1 + x0), I x1, I (1 + x0 + x5), I (1 + x0 + x5 + x6), I (1 + x2), I (10 + x3), I x4, I 0, I 0, I x9, .bool (decide (xt > 0)), .bool (decide (xe = 1))] = uz at HG HK ⊢
        go_wp2_with fail
        (try simp only [Exit.inBlock, Exit.then])
        refine bodyPost_ret (v := .agg #[.bool true, I (1 + x0), I x1, I (1 + x0 + x5), I (1 + x0 + x5 + x6), I (1 + x2), I (10 + x3), I x4, I 0, I 0, I x9, .bool (decide (xt > 0)), .bool (decide (xe = 1))]) ?_ rfl ⟨by rw [FIN.out], HG.out⟩
        exact results_cell_row rfl _ _ w.heap.size 23 _ (0, 0) _ rfl HK.out Try.underlying23 rfl infoP
end GenP
namespace GenD
open Go.ChangeShapes Go.WideShapes Go.ChangeAt Go.RowKit
open Tab Clone RefS
open May (infoD)
open Same (below_setRow)
theorem run_store_float {P : Program} {w : World} {a : Addr} {u : Value} {k : FloatKind} {v : Nat} (h : w.cell? a = some u) (hf : w.frozen? a = false) : Sem.run P (store a (.float k v)) w = .ok () (w.setCell a (.float k v)) := by
  rw [run_store P w a _ _ rfl]
  simp [stored, h, hf]
theorem infoDz : (Try.prog.info? 65).map (fun i => (i.zero, i.size)) = some (some (.agg #[I 0, F 0, F 0, F 0, F 0, I 0, I 0]), 7) := by kernel_rfl
def onTab (x : Int) : Nat := [4617315517961601024, 4621819117588971520, 4607182418800017408, 4602678819172646912].getD x.toNat 0
def facTab (x : Int) : Nat := [4602678819172646912, 4607182418800017408, 4598175219545276416].getD x.toNat 0
theorem idx4_0 (w : World) : Sem.run Try.prog (Instr.index 63 (.agg #[F 4617315517961601024, F 4621819117588971520, F 4607182418800017408, F 4602678819172646912]) (.int .i64 0)) w = .ok (F (onTab 0)) w := by kernel_rfl
theorem idx4_1 (w : World) : Sem.run Try.prog (Instr.index 63 (.agg #[F 4617315517961601024, F 4621819117588971520, F 4607182418800017408, F 4602678819172646912]) (.int .i64 1)) w = .ok (F (onTab 1)) w := by kernel_rfl
theorem idx4_2 (w : World) : Sem.run Try.prog (Instr.index 63 (.agg #[F 4617315517961601024, F 4621819117588971520, F 4607182418800017408, F 4602678819172646912]) (.int .i64 2)) w = .ok (F (onTab 2)) w := by kernel_rfl
theorem idx4_3 (w : World) : Sem.run Try.prog (Instr.index 63 (.agg #[F 4617315517961601024, F 4621819117588971520, F 4607182418800017408, F 4602678819172646912]) (.int .i64 3)) w = .ok (F (onTab 3)) w := by kernel_rfl
theorem idx4 (x : Int) (h0 : 0 ≤ x) (h1 : x < 4) (w : World) : Sem.run Try.prog (Instr.index 63 (.agg #[F 4617315517961601024, F 4621819117588971520, F 4607182418800017408, F 4602678819172646912]) (.int .i64 x)) w = .ok (F (onTab x)) w := by
  have : x = 0 ∨ x = 1 ∨ x = 2 ∨ x = 3 := by omega
  rcases this with rfl | rfl | rfl | rfl
  · exact idx4_0 w
  · exact idx4_1 w
  · exact idx4_2 w
  · exact idx4_3 w
theorem idx3_0 (w : World) : Sem.run Try.prog (Instr.index 114 (.agg #[F 4602678819172646912, F 4607182418800017408, F 4598175219545276416]) (.int .i64 0)) w = .ok (F (facTab 0)) w := by kernel_rfl
theorem idx3_1 (w : World) : Sem.run Try.prog (Instr.index 114 (.agg #[F 4602678819172646912, F 4607182418800017408, F 4598175219545276416]) (.int .i64 1)) w = .ok (F (facTab 1)) w := by kernel_rfl
theorem idx3_2 (w : World) : Sem.run Try.prog (Instr.index 114 (.agg #[F 4602678819172646912, F 4607182418800017408, F 4598175219545276416]) (.int .i64 2)) w = .ok (F (facTab 2)) w := by kernel_rfl
theorem idx3 (x : Int) (h0 : 0 ≤ x) (h1 : x < 3) (w : World) : Sem.run Try.prog (Instr.index 114 (.agg #[F 4602678819172646912, F 4607182418800017408, F 4598175219545276416]) (.int .i64 x)) w = .ok (F (facTab x)) w := by
  have : x = 0 ∨ x = 1 ∨ x = 2 := by omega
  rcases this with rfl | rfl | rfl
  · exact idx3_0 w
  · exact idx3_1 w
  · exact idx3_2 w
def mulTab (x y : Int) : Nat := (floatBits .mul .f64 (onTab x) (facTab y)).getD 0
theorem mul_ok (x y : Int) (h0 : 0 ≤ x) (h1 : x < 4) (k0 : 0 ≤ y) (k1 : y < 3) (t : TypeId) (w : World) : (binOp .mul t (F (onTab x)) (F (facTab y))).run Try.prog w = .ok (F (mulTab x y)) w := by
  refine run_float_arith w .mul t .f64 _ _ _ ?_
  have h : ∀ a : Nat, a < 4 → ∀ b : Nat, b < 3 → floatBits .mul .f64 (onTab a) (facTab b) = some (mulTab a b) := by decide +kernel
  have := h x.toNat (by omega) y.toNat (by omega)
  rwa [Int.toNat_of_nonneg h0, Int.toNat_of_nonneg k0] at this
/-- A detector by eight numbers. -/
def genDet (L : List Int) (i n : Int) : Det :=
  ⟨num L i n, onTab (num L (i + 1) 4), mulTab (num L (i + 1) 4) (num L (i + 2) 3), Fl.ofB (num L (i + 3) 4).toNat, Fl.ofB (num L (i + 4) 6).toNat,
    if num L (i + 5) 3 = 1 then 20 + num L (i + 6) 60 else 0, if num L (i + 5) 9 = 2 then 60 + num L (i + 7) 300 else 0⟩
theorem detector_any (a : Option Addr) (cap : Nat) (L : List Int) (i n : Int) (w : World) (h : IntRow w ⟨a, cap⟩ L) (h0 : 0 ≤ i) (h1 : i ≤ 100000) (n0 : 0 < n) (n8 : n ≤ 8) :
    Calls Try.prog 47 #[.slice a L.length cap, .int .i64 i, .int .i64 n] w fun e w' => e = .returned (.agg (genDet L i n).cells.toArray) ∧ Below w.heap.size w w' := by
  obtain ⟨x0, hx0, ⟨r0, s0⟩, F0⟩ : ∃ x : Int, x = num L i n ∧ (0 ≤ x ∧ x < n) ∧ Hid (∀ W, Below w.heap.size w W → Calls Try.prog 46 #[.slice a L.length cap, .int .i64 i, .int .i64 n] W fun e w' => e = .returned (.int .i64 x) ∧ w' = W) := ⟨_, rfl, num_range _ _ _ (by omega), Lib.hid (fun W hb => (from_any a cap L _ _ W (h.below hb) (by omega) (by omega) (by omega)).mono fun _ _ ⟨e, q⟩ => ⟨e, q.symm⟩)⟩
  obtain ⟨x1, hx1, ⟨r1, s1⟩, F1⟩ : ∃ x : Int, x = num L (i + 1) 4 ∧ (0 ≤ x ∧ x < 4) ∧ Hid (∀ W, Below w.heap.size w W → Calls Try.prog 46 #[.slice a L.length cap, .int .i64 (i + 1), .int .i64 4] W fun e w' => e = .returned (.int .i64 x) ∧ w' = W) := ⟨_, rfl, num_range _ _ _ (by omega), Lib.hid (fun W hb => (from_any a cap L _ _ W (h.below hb) (by omega) (by omega) (by omega)).mono fun _ _ ⟨e, q⟩ => ⟨e, q.symm⟩)⟩
  obtain ⟨x2, hx2, ⟨r2, s2⟩, F2⟩ : ∃ x : Int, x = num L (i + 2) 3 ∧ (0 ≤ x ∧ x < 3) ∧ Hid (∀ W, Below w.heap.size w W → Calls Try.prog 46 #[.slice a L.length cap, .int .i64 (i + 2), .int .i64 3] W fun e w' => e = .returned (.int .i64 x) ∧ w' = W) := ⟨_, rfl, num_range _ _ _ (by omega), Lib.hid (fun W hb => (from_any a cap L _ _ W (h.below hb) (by omega) (by omega) (by omega)).mono fun _ _ ⟨e, q⟩ => ⟨e, q.symm⟩)⟩
  obtain ⟨x3, hx3, ⟨r3, s3⟩, F3⟩ : ∃ x : Int, x = num L (i + 3) 4 ∧ (0 ≤ x ∧ x < 4) ∧ Hid (∀ W, Below w.heap.size w W → Calls Try.prog 46 #[.slice a L.length cap, .int .i64 (i + 3), .int .i64 4] W fun e w' => e = .returned (.int .i64 x) ∧ w' = W) := ⟨_, rfl, num_range _ _ _ (by omega), Lib.hid (fun W hb => (from_any a cap L _ _ W (h.below hb) (by omega) (by omega) (by omega)).mono fun _ _ ⟨e, q⟩ => ⟨e, q.symm⟩)⟩
  obtain ⟨x4, hx4, ⟨r4, s4⟩, F4⟩ : ∃ x : Int, x = num L (i + 4) 6 ∧ (0 ≤ x ∧ x < 6) ∧ Hid (∀ W, Below w.heap.size w W → Calls Try.prog 46 #[.slice a L.length cap, .int .i64 (i + 4), .int .i64 6] W fun e w' => e = .returned (.int .i64 x) ∧ w' = W) := ⟨_, rfl, num_range _ _ _ (by omega), Lib.hid (fun W hb => (from_any a cap L _ _ W (h.below hb) (by omega) (by omega) (by omega)).mono fun _ _ ⟨e, q⟩ => ⟨e, q.symm⟩)⟩
  obtain ⟨x5, hx5, ⟨r5, s5⟩, F5⟩ : ∃ x : Int, x = num L (i + 5) 3 ∧ (0 ≤ x ∧ x < 3) ∧ Hid (∀ W, Below w.heap.size w W → Calls Try.prog 46 #[.slice a L.length cap, .int .i64 (i + 5), .int .i64 3] W fun e w' => e = .returned (.int .i64 x) ∧ w' = W) := ⟨_, rfl, num_range _ _ _ (by omega), Lib.hid (fun W hb => (from_any a cap L _ _ W (h.below hb) (by omega) (by omega) (by omega)).mono fun _ _ ⟨e, q⟩ => ⟨e, q.symm⟩)⟩
  obtain ⟨x6, hx6, ⟨r6, s6⟩, F6⟩ : ∃ x : Int, x = num L (i + 6) 60 ∧ (0 ≤ x ∧ x < 60) ∧ Hid (∀ W, Below w.heap.size w W → Calls Try.prog 46 #[.slice a L.length cap, .int .i64 (i + 6), .int .i64 60] W fun e w' => e = .returned (.int .i64 x) ∧ w' = W) := ⟨_, rfl, num_range _ _ _ (by omega), Lib.hid (fun W hb => (from_any a cap L _ _ W (h.below hb) (by omega) (by omega) (by omega)).mono fun _ _ ⟨e, q⟩ => ⟨e, q.symm⟩)⟩
  obtain ⟨xz, hxz, ⟨rz, sz⟩, Fz⟩ : ∃ x : Int, x = num L (i + 5) 9 ∧ (0 ≤ x ∧ x < 9) ∧ Hid (∀ W, Below w.heap.size w W → Calls Try.prog 46 #[.slice a L.length cap, .int .i64 (i + 5), .int .i64 9] W fun e w' => e = .returned (.int .i64 x) ∧ w' = W) := ⟨_, rfl, num_range _ _ _ (by omega), Lib.hid (fun W hb => (from_any a cap L _ _ W (h.below hb) (by omega) (by omega) (by omega)).mono fun _ _ ⟨e, q⟩ => ⟨e, q.symm⟩)⟩
  obtain ⟨x7, hx7, ⟨r7, s7⟩, F7⟩ : ∃ x : Int, x = num L (i + 7) 300 ∧ (0 ≤ x ∧ x < 300) ∧ Hid (∀ W, Below w.heap.size w W → Calls Try.prog 46 #[.slice a L.length cap, .int .i64 (i + 7), .int .i64 300] W fun e w' => e = .returned (.int .i64 x) ∧ w' = W) := ⟨_, rfl, num_range _ _ _ (by omega), Lib.hid (fun W hb => (from_any a cap L _ _ W (h.below hb) (by omega) (by omega) (by omega)).mono fun _ _ ⟨e, q⟩ => ⟨e, q.symm⟩)⟩
  obtain ⟨v1, hv1, I1⟩ : ∃ v : Nat, v = onTab x1 ∧ Hid (∀ w, Sem.run Try.prog (Instr.index 63 (.agg #[F 4617315517961601024, F 4621819117588971520, F 4607182418800017408, F 4602678819172646912]) (.int .i64 x1)) w = .ok (F v) w) := ⟨_, rfl, Lib.hid (fun w => idx4 x1 r1 s1 w)⟩
  obtain ⟨v2, hv2, I2⟩ : ∃ v : Nat, v = facTab x2 ∧ Hid (∀ w, Sem.run Try.prog (Instr.index 114 (.agg #[F 4602678819172646912, F 4607182418800017408, F 4598175219545276416]) (.int .i64 x2)) w = .ok (F v) w) := ⟨_, rfl, Lib.hid (fun w => idx3 x2 r2 s2 w)⟩
  obtain ⟨v3, hv3, I3⟩ : ∃ v : Nat, v = mulTab x1 x2 ∧ Hid (∀ t w, (binOp .mul t (F v1) (F v2)).run Try.prog w = .ok (.float .f64 v) w) := ⟨_, rfl, Lib.hid (fun t w => by rw [hv1, hv2]; exact mul_ok x1 x2 r1 s1 r2 s2 t w)⟩
  obtain ⟨v4, hv4, I4⟩ : ∃ v : Nat, v = Fl.ofB x3.toNat ∧ Hid (∀ t w, (binOp .quo t (.float .f64 (floatOfInt .f64 x3)) (.float .f64 4621819117588971520)).run Try.prog w = .ok (.float .f64 v) w) := ⟨_, rfl, Lib.hid (Secs.quo_at Secs.quo_holds x3 r3 (by omega))⟩
  obtain ⟨v5, hv5, I5⟩ : ∃ v : Nat, v = Fl.ofB x4.toNat ∧ Hid (∀ t w, (binOp .quo t (.float .f64 (floatOfInt .f64 x4)) (.float .f64 4621819117588971520)).run Try.prog w = .ok (.float .f64 v) w) := ⟨_, rfl, Lib.hid (Secs.quo_at Secs.quo_holds x4 r4 (by omega))⟩
  have RES : Hid (genDet L i n = ⟨x0, v1, v3, v4, v5, if x5 = 1 then 20 + x6 else 0, if xz = 2 then 60 + x7 else 0⟩) := Lib.hid (by subst hv1 hv3 hv4 hv5 hx0 hx1 hx2 hx3 hx4 hx5 hx6 hxz hx7; rfl)
  generalize genDet L i n = R at RES ⊢
  have i1 := I1.out
  have i2 := I2.out
  have i3 := I3.out
  have i4 := I4.out
  have i5 := I5.out
  clear h hx0 hx1 hx2 hx3 hx4 hx5 hx6 hxz hx7 hv1 hv2 hv3 hv4 hv5
  have hz := (zero_of_info infoDz).1
  have HB : Hid (Below w.heap.size w (w.alloc (.cells #[I 0, F 0, F 0, F 0, F 0, I 0, I 0] 65))) := Lib.hid ((Below.refl _ _).alloc (Nat.le_refl _) _)
  have hg := heap_alloc_new w (.cells #[I 0, F 0, F 0, F 0, F 0, I 0, I 0] 65)
  have hs : (w.alloc (.cells #[I 0, F 0, F 0, F 0, F 0, I 0, I 0] 65)).heap.size = w.heap.size + 1 := by simp
  have HG := Lib.hid hg
  have HS := Lib.hid hs
  clear hg hs
  go_enter Try.func47, Try.ntmps47
  go_upto_region 1 with fail
  generalize (World.alloc w _) = u at HB HG HS ⊢
  go_wp2_with fail
  refine (F0.out _ HB.out).mono ?_
  rintro e w' ⟨rfl, hq⟩
  subst w'
  go_wp2_with fail
  refine (F1.out _ HB.out).mono ?_
  rintro e w' ⟨rfl, hq⟩
  subst w'
  go_upto_region 2 with (refine Row.wpList_store_new rfl 65 _ _ rfl u _ #[I x0, F v1, F 0, F 0, F 0, I 0, I 0] rfl rfl rfl infoD rfl (by simp [Value.oneCell']) ?_)
  (try dsimp only [Act.put])
  have hb := HB.out.alloc HB.out.size (.cells #[I x0, F v1, F 0, F 0, F 0, I 0, I 0] 65)
  have g5 := heap_alloc_new u (.cells #[I x0, F v1, F 0, F 0, F 0, I 0, I 0] 65)
  have g4 := (Below.heap_alloc u (.cells #[I x0, F v1, F 0, F 0, F 0, I 0, I 0] 65) w.heap.size (by have := HS.out; omega)).trans HG.out
  have b5lt : w.heap.size < u.heap.size := by have := HS.out; omega
  clear HB HG HS
  generalize World.alloc u _ = u0 at g4 g5 hb ⊢
  generalize u.heap.size = b5 at g5 b5lt ⊢
  have G4 := Lib.hid g4
  have G5 := Lib.hid g5
  have HB := Lib.hid hb
  clear g4 g5 hb
  have e0 : IntKind.i64.wrap (i + 2) = i + 2 := by rw [IntKind.wrap_i64]; omega
  have g4 : u0.drew.heap[w.heap.size]? = some (.cells #[I 0, F 0, F 0, F 0, F 0, I 0, I 0] 65 (0, 0)) := G4.out
  have g5 : u0.drew.heap[b5]? = some (.cells #[I x0, F v1, F 0, F 0, F 0, I 0, I 0] 65 (0, 0)) := G5.out
  have hb : Below w.heap.size w u0.drew := HB.out.drew
  clear G4 G5 HB
  refine QB.region_tail 10 (by kernel_rfl) (by kernel_rfl) ?_
  generalize World.drew u0 = u1 at g4 g5 hb ⊢
  have G4 := Lib.hid g4
  have G5 := Lib.hid g5
  have HB := Lib.hid hb
  clear g4 g5 hb
  have c1 : u1.cell? ⟨b5, 1, none⟩ = some (F v1) := by rw [cell_of_row _ _ _ _ _ _ G5.out]; rfl
  have c2 : u1.cell? ⟨b5, 2, none⟩ = some (F 0) := by rw [cell_of_row _ _ _ _ _ _ G5.out]; rfl
  have f2 : u1.frozen? ⟨b5, 2, none⟩ = false := frozen_of_row _ _ _ _ _ G5.out
  have st : Sem.run Try.prog (store ⟨b5, 2, none⟩ (.float .f64 v3)) u1 = .ok () (u1.setCell ⟨b5, 2, none⟩ (.float .f64 v3)) := run_store_float c2 f2
  simp only [List.take_succ_cons, List.take_zero, List.drop_succ_cons, List.drop_zero]
  repeat still_step
  still_call (F2.out _ HB.out)
  repeat still_step
  refine wpStill_nil ?_
  go_upto_region 3 with fail
  clear e0
  have g5 := heap_setCell_same u1 b5 2 _ _ (.float .f64 v3) G5.out
  simp only [List.setIfInBounds_toArray, List.set_cons_succ, List.set_cons_zero] at g5
  have g4 := (Below.heap_setCell u1 ⟨b5, 2, none⟩ (.float .f64 v3) w.heap.size (by simp; omega)).trans G4.out
  have hb := Owned.below_write HB.out (g := b5) (i := 2) (by omega) (.float .f64 v3)
  clear st c1 c2 f2 G4 G5 HB
  generalize World.setCell u1 ⟨b5, 2, none⟩ (.float .f64 v3) = u2 at g4 g5 hb ⊢
  have G4 := Lib.hid g4
  have G5 := Lib.hid g5
  have HB := Lib.hid hb
  clear g4 g5 hb
  have c3 : u2.cell? ⟨b5, 3, none⟩ = some (F 0) := by rw [cell_of_row _ _ _ _ _ _ G5.out]; rfl
  have f3 : u2.frozen? ⟨b5, 3, none⟩ = false := frozen_of_row _ _ _ _ _ G5.out
  have st : Sem.run Try.prog (store ⟨b5, 3, none⟩ (.float .f64 v4)) u2 = .ok () (u2.setCell ⟨b5, 3, none⟩ (.float .f64 v4)) := run_store_float c3 f3
  go_wp2_with fail
  refine (F3.out _ HB.out).mono ?_
  rintro e w' ⟨rfl, hq⟩
  subst w'
  go_upto_region 4 with fail
  have g5 := heap_setCell_same u2 b5 3 _ _ (.float .f64 v4) G5.out
  simp only [List.setIfInBounds_toArray, List.set_cons_succ, List.set_cons_zero] at g5
  have g4 := (Below.heap_setCell u2 ⟨b5, 3, none⟩ (.float .f64 v4) w.heap.size (by simp; omega)).trans G4.out
  have hb := Owned.below_write HB.out (g := b5) (i := 3) (by omega) (.float .f64 v4)
  clear st c3 f3 G4 G5 HB
  generalize World.setCell u2 ⟨b5, 3, none⟩ (.float .f64 v4) = u3 at g4 g5 hb ⊢
  have G4 := Lib.hid g4
  have G5 := Lib.hid g5
  have HB := Lib.hid hb
  clear g4 g5 hb
  have c4 : u3.cell? ⟨b5, 4, none⟩ = some (F 0) := by rw [cell_of_row _ _ _ _ _ _ G5.out]; rfl
  have f4 : u3.frozen? ⟨b5, 4, none⟩ = false := frozen_of_row _ _ _ _ _ G5.out
  have st : Sem.run Try.prog (store ⟨b5, 4, none⟩ (.float .f64 v5)) u3 = .ok () (u3.setCell ⟨b5, 4, none⟩ (.float .f64 v5)) := run_store_float c4 f4
  go_wp2_with fail
  refine (F4.out _ HB.out).mono ?_
  rintro e w' ⟨rfl, hq⟩
  subst w'
  go_upto_region 5 with fail
  have g5 := heap_setCell_same u3 b5 4 _ _ (.float .f64 v5) G5.out
  simp only [List.setIfInBounds_toArray, List.set_cons_succ, List.set_cons_zero] at g5
  have g4 := (Below.heap_setCell u3 ⟨b5, 4, none⟩ (.float .f64 v5) w.heap.size (by simp; omega)).trans G4.out
  have hb := Owned.below_write HB.out (g := b5) (i := 4) (by omega) (.float .f64 v5)
  clear st c4 f4 G4 G5 HB
  generalize World.setCell u3 ⟨b5, 4, none⟩ (.float .f64 v5) = u4 at g4 g5 hb ⊢
  have G4 := Lib.hid g4
  have G5 := Lib.hid g5
  have HB := Lib.hid hb
  clear g4 g5 hb
  go_wp2_with fail
  refine (F5.out _ HB.out).mono ?_
  rintro e w' ⟨rfl, hq⟩
  subst w'
  by_cases h5 : x5 = 1
  · have H5 := Lib.hid h5
    have e5 : (x5 == 1) = true := by simpa using h5
    clear h5
    go_upto_region 6 with fail
    have c5 : u4.cell? ⟨b5, 5, none⟩ = some (I 0) := by rw [cell_of_row _ _ _ _ _ _ G5.out]; rfl
    have f5 : u4.frozen? ⟨b5, 5, none⟩ = false := frozen_of_row _ _ _ _ _ G5.out
    go_wp2_with fail
    refine (F6.out _ HB.out).mono ?_
    rintro e w' ⟨rfl, hq⟩
    subst w'
    go_upto_region 7 with fail
    have g5 := heap_setCell_same u4 b5 5 _ _ (I (20 + x6)) G5.out
    simp only [List.setIfInBounds_toArray, List.set_cons_succ, List.set_cons_zero] at g5
    have g4 := (Below.heap_setCell u4 ⟨b5, 5, none⟩ (I (20 + x6)) w.heap.size (by simp; omega)).trans G4.out
    have hb := Owned.below_write HB.out (g := b5) (i := 5) (by omega) (I (20 + x6))
    clear c5 f5 G4 G5 HB
    generalize World.setCell u4 ⟨b5, 5, none⟩ (I (20 + x6)) = u5 at g4 g5 hb ⊢
    have G4 := Lib.hid g4
    have G5 := Lib.hid g5
    have HB := Lib.hid hb
    clear g4 g5 hb
    go_wp2_with fail
    refine (Fz.out _ HB.out).mono ?_
    rintro e w' ⟨rfl, hq⟩
    subst w'
    by_cases hz : xz = 2
    · have HZ := Lib.hid hz
      have ez : (xz == 2) = true := by simpa using hz
      clear hz
      go_upto_region 8 with fail
      have c6 : u5.cell? ⟨b5, 6, none⟩ = some (I 0) := by rw [cell_of_row _ _ _ _ _ _ G5.out]; rfl
      have f6 : u5.frozen? ⟨b5, 6, none⟩ = false := frozen_of_row _ _ _ _ _ G5.out
      go_wp2_with fail
      refine (F7.out _ HB.out).mono ?_
      rintro e w' ⟨rfl, hq⟩
      subst w'
      go_upto_region 9 with fail
      have g5 := heap_setCell_same u5 b5 6 _ _ (I (60 + x7)) G5.out
      simp only [List.setIfInBounds_toArray, List.set_cons_succ, List.set_cons_zero] at g5
      have g4 := (Below.heap_setCell u5 ⟨b5, 6, none⟩ (I (60 + x7)) w.heap.size (by simp; omega)).trans G4.out
      have hb := Owned.below_write HB.out (g := b5) (i := 6) (by omega) (I (60 + x7))
      clear c6 f6 G4 G5 HB
      generalize World.setCell u5 ⟨b5, 6, none⟩ (I (60 + x7)) = u6 at g4 g5 hb ⊢
      have G4 := Lib.hid g4
      have G5 := Lib.hid g5
      have HB := Lib.hid hb
      clear g4 g5 hb
      have FIN : Hid (R.cells.toArray = #[I x0, F v1, .float .f64 v3, .float .f64 v4, .float .f64 v5, I (20 + x6), I (60 + x7)]) := Lib.hid (by rw [RES.out]; simp only [Det.cells, if_pos H5.out, if_pos HZ.out])
      have LV : Hid (Lies u6 ⟨b5, 0, none⟩ #[I x0, F v1, .float .f64 v3, .float .f64 v4, .float .f64 v5, I (20 + x6), I (60 + x7)].toList) := Lib.hid (Row.lies_of_block G5.out)
      have HG := Lib.hid (below_setRow HB.out (g := w.heap.size) (Nat.le_refl _) #[I x0, F v1, .float .f64 v3, .float .f64 v4, .float .f64 v5, I (20 + x6), I (60 + x7)])
      have HK := Lib.hid (setRow_heap u6 w.heap.size _ #[I x0, F v1, .float .f64 v3, .float .f64 v4, .float .f64 v5, I (20 + x6), I (60 + x7)] _ _ G4.out)
      go_wp2_with (first | (refine Row.wpList_load_g 65 _ rfl (by first | rfl | go_simp) ⟨b5, 0, none⟩ rfl #[I x0, F v1, .float .f64 v3, .float .f64 v4, .float .f64 v5, I (20 + x6), I (60 + x7)].toList _ LV.out Try.underlying65 rfl infoD ?_) | (refine wpList_store_row rfl 65 _ _ rfl w.heap.size #[I x0, F v1, .float .f64 v3, .float .f64 v4, .float .f64 v5, I (20 + x6), I (60 + x7)] rfl rfl 65 _ G4.out infoD rfl (by simp [Value.oneCell']) ?_))
      generalize u6.setRow w.heap.size #[I x0, F v1, .float .f64 v3, .float .f64 v4, .float .f64 v5, I (20 + x6), I (60 + x7)] = uz at HG HK ⊢
      go_wp2_with fail
      (try simp only [Exit.inBlock, Exit.then])
      refine bodyPost_ret (v := .agg #[I x0, F v1, .float .f64 v3, .float .f64 v4, .float .f64 v5, I (20 + x6), I (60 + x7)]) ?_ rfl ⟨by rw [FIN.out], HG.out⟩
      exact results_cell_row rfl _ _ w.heap.size 65 _ (0, 0) _ rfl HK.out Try.underlying65 rfl infoD
    · have HZ := Lib.hid hz
      have ez : (xz == 2) = false := by simpa using hz
      clear hz
      go_upto_region 9 with fail
      have FIN : Hid (R.cells.toArray = #[I x0, F v1, .float .f64 v3, .float .f64 v4, .float .f64 v5, I (20 + x6), I 0]) := Lib.hid (by rw [RES.out]; simp only [Det.cells, if_pos H5.out, if_neg HZ.out])
      have LV : Hid (Lies u5 ⟨b5, 0, none⟩ #[I x0, F v1, .float .f64 v3, .float .f64 v4, .float .f64 v5, I (20 + x6), I 0].toList) := Lib.hid (Row.lies_of_block G5.out)
      have HG := Lib.hid (below_setRow HB.out (g := w.heap.size) (Nat.le_refl _) #[I x0, F v1, .float .f64 v3, .float .f64 v4, .float .f64 v5, I (20 + x6), I 0])
      have HK := Lib.hid (setRow_heap u5 w.heap.size _ #[I x0, F v1, .float .f64 v3, .float .f64 v4, .float .f64 v5, I (20 + x6), I 0] _ _ G4.out)
      go_wp2_with (first | (refine Row.wpList_load_g 65 _ rfl (by first | rfl | go_simp) ⟨b5, 0, none⟩ rfl #[I x0, F v1, .float .f64 v3, .float .f64 v4, .float .f64 v5, I (20 + x6), I 0].toList _ LV.out Try.underlying65 rfl infoD ?_) | (refine wpList_store_row rfl 65 _ _ rfl w.heap.size #[I x0, F v1, .float .f64 v3, .float .f64 v4, .float .f64 v5, I (20 + x6), I 0] rfl rfl 65 _ G4.out infoD rfl (by simp [Value.oneCell']) ?_))
      generalize u5.setRow w.heap.size #[I x0, F v1, .float .f64 v3, .float .f64 v4, .float .f64 v5, I (20 + x6), I 0] = uz at HG HK ⊢
      go_wp2_with fail
      (try simp only [Exit.inBlock, Exit.then])
      refine bodyPost_ret (v := .agg #[I x0, F v1, .float .f64 v3, .float .f64 v4, .float .f64 v5, I (20 + x6), I 0]) ?_ rfl ⟨by rw [FIN.out], HG.out⟩
      exact results_cell_row rfl _ _ w.heap.size 65 _ (0, 0) _ rfl HK.out Try.underlying65 rfl infoD
  · have H5 := Lib.hid h5
    have e5 : (x5 == 1) = false := by simpa using h5
    clear h5
    go_upto_region 7 with fail
    go_wp2_with fail
    refine (Fz.out _ HB.out).mono ?_
    rintro e w' ⟨rfl, hq⟩
    subst w'
    by_cases hz : xz = 2
    · have HZ := Lib.hid hz
      have ez : (xz == 2) = true := by simpa using hz
      clear hz
      go_upto_region 8 with fail
      have c6 : u4.cell? ⟨b5, 6, none⟩ = some (I 0) := by rw [cell_of_row _ _ _ _ _ _ G5.out]; rfl
      have f6 : u4.frozen? ⟨b5, 6, none⟩ = false := frozen_of_row _ _ _ _ _ G5.out
      go_wp2_with fail
      refine (F7.out _ HB.out).mono ?_
      rintro e w' ⟨rfl, hq⟩
      subst w'
      go_upto_region 9 with fail
      have g5 := heap_setCell_same u4 b5 6 _ _ (I (60 + x7)) G5.out
      simp only [List.setIfInBounds_toArray, List.set_cons_succ, List.set_cons_zero] at g5
      have g4 := (Below.heap_setCell u4 ⟨b5, 6, none⟩ (I (60 + x7)) w.heap.size (by simp; omega)).trans G4.out
      have hb := Owned.below_write HB.out (g := b5) (i := 6) (by omega) (I (60 + x7))
      clear c6 f6 G4 G5 HB
      generalize World.setCell u4 ⟨b5, 6, none⟩ (I (60 + x7)) = u5 at g4 g5 hb ⊢
      have G4 := Lib.hid g4
      have G5 := Lib.hid g5
      have HB := Lib.hid hb
      clear g4 g5 hb
      have FIN : Hid (R.cells.toArray = #[I x0, F v1, .float .f64 v3, .float .f64 v4, .float .f64 v5, I 0, I (60 + x7)]) := Lib.hid (by rw [RES.out]; simp only [Det.cells, if_neg H5.out, if_pos HZ.out])
      have LV : Hid (Lies u5 ⟨b5, 0, none⟩ #[I x0, F v1, .float .f64 v3, .float .f64 v4, .float .f64 v5, I 0, I (60 + x7)].toList) := Lib.hid (Row.lies_of_block G5.out)
      have HG := Lib.hid (below_setRow HB.out (g := w.heap.size) (Nat.le_refl _) #[I x0, F v1, .float .f64 v3, .float .f64 v4, .float .f64 v5, I 0, I (60 + x7)])
      have HK := Lib.hid (setRow_heap u5 w.heap.size _ #[I x0, F v1, .float .f64 v3, .float .f64 v4, .float .f64 v5, I 0, I (60 + x7)] _ _ G4.out)
      go_wp2_with (first | (refine Row.wpList_load_g 65 _ rfl (by first | rfl | go_simp) ⟨b5, 0, none⟩ rfl #[I x0, F v1, .float .f64 v3, .float .f64 v4, .float .f64 v5, I 0, I (60 + x7)].toList _ LV.out Try.underlying65 rfl infoD ?_) | (refine wpList_store_row rfl 65 _ _ rfl w.heap.size #[I x0, F v1, .float .f64 v3, .float .f64 v4, .float .f64 v5, I 0, I (60 + x7)] rfl rfl 65 _ G4.out infoD rfl (by simp [Value.oneCell']) ?_))
      generalize u5.setRow w.heap.size #[I x0, F v1, .float .f64 v3, .float .f64 v4, .float .f64 v5, I 0, I (60 + x7)] = uz at HG HK ⊢
      go_wp2_with fail
      (try simp only [Exit.inBlock, Exit.then])
      refine bodyPost_ret (v := .agg #[I x0, F v1, .float .f64 v3, .float .f64 v4, .float .f64 v5, I 0, I (60 + x7)]) ?_ rfl ⟨by rw [FIN.out], HG.out⟩
      exact results_cell_row rfl _ _ w.heap.size 65 _ (0, 0) _ rfl HK.out Try.underlying65 rfl infoD
    · have HZ := Lib.hid hz
      have ez : (xz == 2) = false := by simpa using hz
      clear hz
      go_upto_region 9 with fail
      have FIN : Hid (R.cells.toArray = #[I x0, F v1, .float .f64 v3, .float .f64 v4, .float .f64 v5, I 0, I 0]) := Lib.hid (by rw [RES.out]; simp only [Det.cells, if_neg H5.out, if_neg HZ.out])
      have LV : Hid (Lies u4 ⟨b5, 0, none⟩ #[I x0, F v1, .float .f64 v3, .float .f64 v4, .float .f64 v5, I 0, I 0].toList) := Lib.hid (Row.lies_of_block G5.out)
      have HG := Lib.hid (below_setRow HB.out (g := w.heap.size) (Nat.le_refl _) #[I x0, F v1, .float .f64 v3, .float .f64 v4, .float .f64 v5, I 0, I 0])
      have HK := Lib.hid (setRow_heap u4 w.heap.size _ #[I x0, F v1, .float .f64 v3, .float .f64 v4, .float .f64 v5, I 0, I 0] _ _ G4.out)
      go_wp2_with (first | (refine Row.wpList_load_g 65 _ rfl (by first | rfl | go_simp) ⟨b5, 0, none⟩ rfl #[I x0, F v1, .float .f64 v3, .float .f64 v4, .float .f64 v5, I 0, I 0].toList _ LV.out Try.underlying65 rfl infoD ?_) | (refine wpList_store_row rfl 65 _ _ rfl w.heap.size #[I x0, F v1, .float .f64 v3, .float .f64 v4, .float .f64 v5, I 0, I 0] rfl rfl 65 _ G4.out infoD rfl (by simp [Value.oneCell']) ?_))
      generalize u4.setRow w.heap.size #[I x0, F v1, .float .f64 v3, .float .f64 v4, .float .f64 v5, I 0, I 0] = uz at HG HK ⊢
      go_wp2_with fail
      (try simp only [Exit.inBlock, Exit.then])
      refine bodyPost_ret (v := .agg #[I x0, F v1, .float .f64 v3, .float .f64 v4, .float .f64 v5, I 0, I 0]) ?_ rfl ⟨by rw [FIN.out], HG.out⟩
      exact results_cell_row rfl _ _ w.heap.size 65 _ (0, 0) _ rfl HK.out Try.underlying65 rfl infoD
end GenD
end Go.Proofs.Ytneaomdgjlmleaa
