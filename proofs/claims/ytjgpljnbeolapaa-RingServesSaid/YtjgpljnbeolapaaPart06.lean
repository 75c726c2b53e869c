/- 5 texts in one file, in build order. -/
import Derived.Test.YtjgpljnbeolapaaRows
import Derived.Test.YtjgpljnbeolapaaPart05
import Derived.Test.YtjgpljnbeolapaaPart03
import Derived.Test.YtjgpljnbeolapaaPart04
import Derived.Test.YtjgpljnbeolapaaPart02
import Derived.Great.BuildSlice
set_option linter.unusedVariables false
set_option linter.unusedSimpArgs false
set_option linter.unusedSectionVars false
set_option maxHeartbeats 8000000
set_option maxRecDepth 100000
namespace Go.Proofs.Ytjgpljnbeolapaa
namespace OverS
open Go.ChangeShapes Go.WideShapes Go.ChangeAt Go.RowKit
open Tab Gath RefS OnS RefC Clear EntryS
open May (St phases_in infoP infoT infoR row_new)
def ovE (T : Tab) (k : Nat) : Int := sums [entryS T k, (T.rails.getD k default).stay]
def ovL (T : Tab) (n : Nat) : List Int := (List.range n).map (ovE T)
def ovM (T : Tab) (l : List Int) : List Int := l.flatMap fun p => [cap (phAt T p).min, sums [(phAt T p).walk, (phAt T p).blinks]]
def overR (T : Tab) : Int := sums [mosts (ovL T T.rails.length), mosts (ovM T (SetM.list (onS T : Nat))), clearS T, T.revert, 30]
def overS (T : Tab) : Int := if T.rails.length = 0 then 0 else overR T
theorem ov_succ (T : Tab) (n : Nat) : ovL T (n + 1) = ovL T n ++ [ovE T n] := by
  unfold ovL
  rw [List.range_succ, List.map_append]; rfl
theorem ov_len (T : Tab) (n : Nat) : (ovL T n).length = n := by unfold ovL; simp
theorem ovM_len (T : Tab) (l : List Int) : (ovM T l).length = l.length * 2 := by
  unfold ovM
  induction l with
  | nil => rfl
  | cons p l ih => rw [List.flatMap_cons, List.length_append, ih]; simp; omega
theorem own_snoc2 {B : Nat} {w : World} {v' : Value} {l : List Int} {a b : Int} (h : w.ownsRow B 3 1 v' (l.length + 2) (l.flatMap (fun n => [I n]) ++ [I a, I b])) : OwnsI B w v' (l ++ [a, b]) := by
  unfold OwnsI Gath.Owns
  rw [List.length_append, List.flatMap_append]
  exact h
theorem ovM_snoc (T : Tab) (l : List Int) (p : Int) : ovM T (l ++ [p]) = ovM T l ++ [cap (phAt T p).min, sums [(phAt T p).walk, (phAt T p).blinks]] := by
  unfold ovM
  rw [List.flatMap_append]; simp
theorem over_any (T : Tab) (h : Hd) (w : World) (ht : IsTab w h T) (few : T.rails.length ≤ 1000) :
    Calls Try.prog 57 #[.agg (T.cells h).toArray] w fun e w' => e = .returned (.int .i64 (overS T)) ∧ Below w.heap.size w w' := by
  have C := Lib.hid (cells_ok ht)
  have hsz := C.out.size
  have IA : Hid ((Try.prog.info? 32).map (·.size) = some (T.cells h).length) := Lib.hid (by rw [List.size_toArray] at hsz; rw [hsz]; exact infoT)
  have EC : Hid (∀ (k : Nat) W, Below w.heap.size w W → Calls Try.prog 75 #[.agg (T.cells h).toArray, .int .i64 k] W fun e w' => e = .returned (.int .i64 (entryS T k)) ∧ Below W.heap.size W w') := Lib.hid (fun k W hb => entry_any T h k W (ht.below hb))
  have ON : Hid (∀ W, Below w.heap.size w W → Calls Try.prog 21 #[.agg (T.cells h).toArray] W fun e w' => e = .returned (.int .i64 (onS T : Nat)) ∧ Below W.heap.size W w') := Lib.hid (fun W hb => on_any T h W (ht.below hb))
  have CC : Hid (∀ W, Below w.heap.size w W → Calls Try.prog 77 #[.agg (T.cells h).toArray] W fun e w' => e = .returned (.int .i64 (clearS T)) ∧ Below W.heap.size W w') := Lib.hid (fun W hb => clear_any T h W (ht.below hb))
  have L8 := Lib.hid ht.ph
  have RL := Lib.hid ht.rails
  have S0 := Lib.hid (St.box (cs := (T.cells h).toArray) ht)
  have HZ : Hid ((w.alloc (.cells (T.cells h).toArray 32)).heap.size = w.heap.size + 1) := Lib.hid (by simp)
  have RS : Hid (overS T = if T.rails.length = 0 then 0 else overR T) := Lib.hid rfl
  have RR : Hid (overR T = sums [mosts (ovL T T.rails.length), mosts (ovM T (SetM.list (onS T : Nat))), clearS T, T.revert, 30]) := Lib.hid rfl
  generalize overS T = res at RS ⊢
  generalize ((onS T : Nat) : Int) = os at RR ON
  obtain ⟨i0, hi, hz0, hz1, hz2⟩ := info_parts info3
  clear ht
  go_enter Try.func57, Try.ntmps57
  go_upto_region 1 with fail
  generalize w.alloc (.cells (T.cells h).toArray 32) = w1 at S0 HZ ⊢
  have q114 := C.out.r
  have q119 := C.out.revert
  generalize hc : T.cells h = c at *
  clear hsz hc
  generalize hn : T.rails.length = n at *
  have HN := Lib.hid hn
  clear hn
  obtain ⟨sg, sd, ⟨ra, rcap⟩, sb⟩ := h
  have Q114 : Hid (∀ W, Below w1.heap.size w1 W → W.cell? ⟨w.heap.size, 114, none⟩ = some (.slice ra n rcap)) := Lib.hid (fun W hb => (S0.out.step hb).cell q114)
  have Q119 : Hid (∀ W, Below w1.heap.size w1 W → W.cell? ⟨w.heap.size, 119, none⟩ = some (I T.revert)) := Lib.hid (fun W hb => (S0.out.step hb).cell q119)
  have LT : Hid (∀ W, Below w1.heap.size w1 W → Lies W ⟨w.heap.size, 0, none⟩ c) := Lib.hid (fun W hb => by have := Row.lies_of_block (S0.out.step hb).blk; simpa using this)
  have BB : Hid (∀ W, Below w1.heap.size w1 W → Below w.heap.size w W) := Lib.hid (fun W hb => S0.out.bel.trans (hb.mono S0.out.bel.size))
  clear q114 q119
  have q114 := Q114.out _ (Below.refl _ _)
  by_cases hn0 : n = 0
  · have HF : Hid (0 = res) := Lib.hid (by rw [RS.out, if_pos hn0])
    have HB := Lib.hid S0.out.bel
    subst hn0
    go_wp2
    go_ret
    exact ⟨RefC.ret_int HF.out, HB.out⟩
  have hnb : ((n : Int) == 0) = false := by
    rw [beq_eq_false_iff_ne]; omega
  have HR0 : Hid (sums [mosts (ovL T n), mosts (ovM T (SetM.list os)), clearS T, T.revert, 30] = res) := Lib.hid (by rw [RS.out, if_neg hn0, RR.out])
  clear RS RR
  have NZ := Lib.hid hn0
  clear hn0
  go_upto_region 4 with fail
  clear q114 hnb
  have US : Hid (∀ q, ovL T (q + 1) = ovL T q ++ [ovE T q]) := Lib.hid (ov_succ T)
  have UL : Hid (∀ q, (ovL T q).length = q) := Lib.hid (ov_len T)
  have U0 : Hid (ovL T 0 = []) := Lib.hid rfl
  have UE : Hid (∀ q, ovE T q = sums [entryS T q, (T.rails.getD q default).stay]) := Lib.hid (fun q => rfl)
  generalize ovL T = ul at HR0 US UL U0
  generalize ovE T = ue at US UE
  go_wp2_with fail
  go_loopw [3, 5] (fun v i wr => ∃ q : Nat, q ≤ n ∧ i = .int .i64 q ∧ OwnsI w1.heap.size wr v (ul q) ∧ Below w1.heap.size w1 wr) (fun _ i _ => n - (intOf i).toNat)
  case atStart => exact ⟨0, by omega, rfl, by rw [U0.out]; exact Owns.nil, Below.refl _ _⟩
  case round =>
    obtain ⟨q, hq, rfl, hown, hbel⟩ := hrel
    have HO := Lib.hid hown
    have HB := Lib.hid hbel
    clear hown hbel
    have q114 := Q114.out _ HB.out
    by_cases hlt : q < n
    · have hv0 : T.rails[q]? = some (T.rails.getD q default) := by
        rw [List.getD_eq_getElem?_getD, List.getElem?_eq_getElem (by rw [HN.out]; exact hlt)]; rfl
      have HS : Hid (ul (q + 1) = ul q ++ [sums [entryS T q, (T.rails.getD q default).stay]]) := Lib.hid (by rw [US.out, UE.out])
      generalize T.rails.getD q default = u at hv0 HS
      obtain ⟨y, hy, hcc⟩ := RL.out.at hv0
      obtain rfl : ra = some y := hy
      have d8 : w.cell? ⟨(y.add (q * 11)).block, (y.add (q * 11)).off + 8, none⟩ = some (I u.stay) := by have := hcc 8 _ rfl; simpa [Addr.add] using this
      have hlb : (⟨(y.add (q * 11)).block, (y.add (q * 11)).off + 8, none⟩ : Addr).block < w.heap.size := World.block_lt_of_cell? w _ d8
      have CF : Hid (∀ w', Below w1.heap.size wr w' → w'.cell? ⟨(y.add (q * 11)).block, (y.add (q * 11)).off + 8, none⟩ = some (I u.stay)) := Lib.hid (fun w' hb => ((BB.out _ (HB.out.trans hb)).cell hlb).trans d8)
      have CQ : Hid (∀ w', Below w1.heap.size wr w' → w'.cell? ⟨w.heap.size, 114, none⟩ = some (.slice (some y) n rcap)) := Lib.hid (fun w' hb => Q114.out _ (HB.out.trans hb))
      have LS : Hid (∀ w', Below w1.heap.size wr w' → Lies w' ⟨w.heap.size, 0, none⟩ c) := Lib.hid (fun w' hb => LT.out _ (HB.out.trans hb))
      have SB : Hid (∀ w', Below w1.heap.size wr w' → Below w.heap.size w w') := Lib.hid (fun w' hb => BB.out _ (HB.out.trans hb))
      have hwr := HB.out.size
      have hlen : (ul q).length ≤ 1000 := by rw [UL.out]; omega
      generalize ul q = P1 at HO HS hlen
      have HS2 := HS
      clear hv0 hcc d8 HS hlb
      generalize u.stay = st at CF HS2
      go_upto_region 7 with fail
      clear q114
      refine wp_region_held (S := fun w' => Below w1.heap.size wr w') (by kernel_rfl) ?_
      have hO : OwnsI w1.heap.size { wr with drawn := wr.drawn + 1 } u3 P1 := HO.out
      have hS : Below w1.heap.size wr { wr with drawn := wr.drawn + 1 } := (Below.refl _ _).drew
      have hv : w1.heap.size ≤ ({ wr with drawn := wr.drawn + 1 } : World).heap.size := hwr
      generalize ({ wr with drawn := wr.drawn + 1 } : World) = v at hS hO hv ⊢
      refine Held.take (i := 0) (some 19) rfl (v := ?_) rfl (by kernel_rfl) (by kernel_rfl) (by kernel_rfl) (fun _ _ _ h => h) (Or.inl ⟨by rfl, ?_⟩) hS ?_
      rotate_left
      · intro w' hw'
        go_simp
        try with_reducible rfl
      (try dsimp only [Act.put]); (try simp only [List.setIfInBounds_toArray, List.set_cons_zero, List.set_cons_succ])
      refine Held.take_load (i := 1) (some 20) rfl 32 _ ⟨w.heap.size, 0, none⟩ c _ rfl rfl (by kernel_rfl) (by kernel_rfl) (by kernel_rfl) (fun _ _ _ h => h) (by rfl) hS rfl (fun w' hw' => LS.out w' hw') Try.underlying32 rfl IA.out ?_
      (try dsimp only [Act.put]); (try simp only [List.setIfInBounds_toArray, List.set_cons_zero, List.set_cons_succ])
      refine Held.take (i := 2) (some 21) rfl (v := ?_) rfl (by kernel_rfl) (by kernel_rfl) (by kernel_rfl) (fun _ _ _ h => h) (Or.inl ⟨by rfl, ?_⟩) hS ?_
      rotate_left
      · intro w' hw'
        go_simp
        try with_reducible rfl
      (try dsimp only [Act.put]); (try simp only [List.setIfInBounds_toArray, List.set_cons_zero, List.set_cons_succ])
      refine Held.take (i := 4) (some 23) rfl (v := ?_) rfl (by kernel_rfl) (by kernel_rfl) (by kernel_rfl) (fun _ _ _ h => h) (Or.inl ⟨by rfl, ?_⟩) hS ?_
      rotate_left
      · intro w' hw'
        have cf := CF.out w' hw'
        have cq := CQ.out w' hw'
        go_simp
        try with_reducible rfl
      (try dsimp only [Act.put]); (try simp only [List.setIfInBounds_toArray, List.set_cons_zero, List.set_cons_succ])
      refine Held.take (i := 5) (some 24) rfl (v := ?_) rfl (by kernel_rfl) (by kernel_rfl) (by kernel_rfl) (fun _ _ _ h => h) (Or.inl ⟨by rfl, ?_⟩) hS ?_
      rotate_left
      · intro w' hw'
        have cf := CF.out w' hw'
        have cq := CQ.out w' hw'
        go_simp
        try with_reducible rfl
      (try dsimp only [Act.put]); (try simp only [List.setIfInBounds_toArray, List.set_cons_zero, List.set_cons_succ])
      refine Held.take (i := 6) (some 25) rfl (v := ?_) rfl (by kernel_rfl) (by kernel_rfl) (by kernel_rfl) (fun _ _ _ h => h) (Or.inl ⟨by rfl, ?_⟩) hS ?_
      rotate_left
      · intro w' hw'
        have cf := CF.out w' hw'
        have cq := CQ.out w' hw'
        go_simp
        try with_reducible rfl
      (try dsimp only [Act.put]); (try simp only [List.setIfInBounds_toArray, List.set_cons_zero, List.set_cons_succ])
      refine Held.take (i := 7) (some 26) rfl (v := ?_) rfl (by kernel_rfl) (by kernel_rfl) (by kernel_rfl) (fun _ _ _ h => h) (Or.inl ⟨by rfl, ?_⟩) hS ?_
      rotate_left
      · intro w' hw'
        have cf := CF.out w' hw'
        have cq := CQ.out w' hw'
        go_simp
        try with_reducible rfl
      (try dsimp only [Act.put]); (try simp only [List.setIfInBounds_toArray, List.set_cons_zero, List.set_cons_succ])
      refine Held.take (i := 8) (some 27) rfl (v := ?_) rfl (by kernel_rfl) (by kernel_rfl) (by kernel_rfl) (fun _ _ _ h => h) (Or.inl ⟨by rfl, ?_⟩) hS ?_
      rotate_left
      · intro w' hw'
        have cf := CF.out w' hw'
        have cq := CQ.out w' hw'
        go_simp
        try with_reducible rfl
      (try dsimp only [Act.put]); (try simp only [List.setIfInBounds_toArray, List.set_cons_zero, List.set_cons_succ])
      refine Held.take (i := 9) (some 28) rfl (v := ?_) rfl (by kernel_rfl) (by kernel_rfl) (by kernel_rfl) (fun _ _ _ h => h) (Or.inl ⟨by rfl, ?_⟩) hS ?_
      rotate_left
      · intro w' hw'
        have cf := CF.out w' hw'
        have cq := CQ.out w' hw'
        go_simp
        try with_reducible rfl
      (try dsimp only [Act.put]); (try simp only [List.setIfInBounds_toArray, List.set_cons_zero, List.set_cons_succ])
      refine wpAnyH_ready (rs := [3]) (by kernel_rfl) (by simp) (AllReadyH.cons rfl (fun K hK => ?_) AllReadyH.nil)
      go_simp
      refine (EC.out q v (SB.out v hS)).mono ?_
      rintro e x1 ⟨rfl, hb⟩
      generalize entryS T ((q : Nat) : Int) = en at HS2 ⊢
      replace hO := Owns.below hO hb
      have hS2 := Below.trans hS (hb.mono hv)
      replace hv := Nat.le_trans hv hb.size
      clear hb hS
      go_simp
      refine hK.out _ _ hS2 (fun hS => ?_)
      clear hK K hS2
      refine wpAnyH_ready (rs := [10]) (by kernel_rfl) (by simp) (AllReadyH.cons rfl (fun K hK => ?_) AllReadyH.nil)
      go_simp
      have r1 : Hid (IntRow (x1.alloc (.cells #[I en, I st] 3)) ⟨some ⟨x1.heap.size, 0, none⟩, 2⟩ [en, st]) := Lib.hid (May.row_new x1 3 [en, st] 2 rfl (by decide) _ rfl)
      have hbw : Below x1.heap.size x1 (x1.alloc (.cells #[I en, I st] 3)) := (Below.refl _ _).alloc (Nat.le_refl _) _
      replace hO := Owns.below hO hbw
      have hS2 := hS.alloc hv (.cells #[I en, I st] 3)
      replace hv := Nat.le_trans hv hbw.size
      clear hbw hS
      generalize hb0 : x1.heap.size = b2 at r1 ⊢
      clear hb0
      generalize World.alloc x1 (.cells #[I en, I st] 3) = x3 at r1 hO hS2 hv ⊢
      refine hK.out _ _ hS2 (fun hS => ?_)
      clear hK K hS2
      refine wpAnyH_ready (rs := [11]) (by kernel_rfl) (by simp) (AllReadyH.cons rfl (fun K hK => ?_) AllReadyH.nil)
      go_simp
      refine (Clear.sum_len (some ⟨b2, 0, none⟩) 2 [en, st] 2 rfl x3 r1.out).mono ?_
      rintro e w' ⟨rfl, hq⟩
      subst w'
      clear r1
      generalize sums [en, st] = z at HS2 ⊢
      go_simp
      refine hK.out _ _ hS (fun hS => ?_)
      clear hK K
      refine wpAnyH_ready (rs := [12]) (by kernel_rfl) (by simp) (AllReadyH.cons rfl (fun K hK => ?_) AllReadyH.nil)
      go_simp
      have r2 : Hid (IntRow (x3.alloc (.cells #[I z] 3)) ⟨some ⟨x3.heap.size, 0, none⟩, 1⟩ [z]) := Lib.hid (May.row_new x3 3 [z] 1 rfl (by decide) _ rfl)
      have hbw : Below x3.heap.size x3 (x3.alloc (.cells #[I z] 3)) := (Below.refl _ _).alloc (Nat.le_refl _) _
      replace hO := Owns.below hO hbw
      have hS2 := hS.alloc hv (.cells #[I z] 3)
      replace hv := Nat.le_trans hv hbw.size
      clear hbw hS
      generalize hb0 : x3.heap.size = b4 at r2 ⊢
      clear hb0
      generalize World.alloc x3 (.cells #[I z] 3) = x5 at r2 hO hS2 hv ⊢
      refine hK.out _ _ hS2 (fun hS => ?_)
      clear hK K hS2
      refine wpAnyH_ready (rs := [13]) (by kernel_rfl) (by simp) (AllReadyH.cons rfl (fun K hK => ?_) AllReadyH.nil)
      rw [if_pos (by rfl)]
      refine wp_append_own _ _ _ _ rfl w1.heap.size 3 i0 (.int .i64 0) 1 8 Try.underlying22 hi hz0 hz1 hz2 rfl (by decide) u3 P1.length _ rfl hO ⟨b4, 0, none⟩ 1 1 [I z] rfl rfl ?c1 ?c2 ?c3 ?c4 hv ?_
      case c1 =>
        intro j e hj
        obtain ⟨x, hx, hc⟩ := IntRow.at r2.out (i := j) (v := intOf e) (by
          match j, hj with
          | 0, hj => simp at hj; subst hj; rfl)
        obtain rfl := Option.some.inj hx
        rw [hc]
        match j, hj with
        | 0, hj => simp at hj; subst hj; rfl
      case c2 => intro e he; simp at he; subst he; rfl
      case c3 => unfold maxLen; omega
      case c4 => omega
      intro v' x6 hown' hgrow hnil'
      have hS2 := hS.grown hgrow hv (fun m hm => Owns.blk (show OwnsI w1.heap.size x5 u3 P1 from hO) m hm)
      have HO2 : Hid (x6.ownsRow w1.heap.size 3 1 v' (P1.length + 1) (P1.flatMap (fun n => [I n]) ++ [I z])) := Lib.hid hown'
      clear hown' hgrow hnil' hO hS
      refine hK.out _ _ hS2 (fun hS => ?_)
      clear hK K hS2
      refine Held.take (i := 14) (some 3) rfl (v := ?_) rfl (by kernel_rfl) (by kernel_rfl) (by kernel_rfl) (fun _ _ _ h => h) (Or.inl ⟨by rfl, ?_⟩) hS ?_
      rotate_left
      · intro w' hw'
        go_simp
        try with_reducible rfl
      (try dsimp only [Act.put]); (try simp only [List.setIfInBounds_toArray, List.set_cons_zero, List.set_cons_succ])
      refine wpAnyH_done (by kernel_rfl) ?_ _
      have HB2 := Lib.hid (HB.out.trans hS)
      clear hS
      go_wp2
      go_roundw
      case rel => exact ⟨q + 1, by omega, by go_num, by rw [HS2.out]; exact Owns.snoc HO2.out, HB2.out⟩
      case measure => simp [intOf]; omega
    · have HE : Hid (q = n) := Lib.hid (by omega)
      obtain ⟨⟨ea, ec⟩, hs, hrow⟩ := HO.out.row (enc := fun n => [I n]) (fun _ => rfl)
      rw [HE.out] at hs hrow
      have H3 := Lib.hid hrow
      clear hrow
      subst hs
      generalize ul n = P3 at HR0 H3 ⊢
      show Code.wp _ _ _ _ _
      rw [show (Sl.val ⟨ea, ec⟩ P3.length) = .slice ea P3.length ec from rfl]
      go_upto_region 8 with fail
      clear q114
      go_wp2_with (refine Row.wpList_load_g 32 _ rfl (by first | rfl | go_simp) ⟨w.heap.size, 0, none⟩ rfl c _ (LT.out _ HB.out) Try.underlying32 rfl IA.out ?_)
      refine (ON.out _ (BB.out _ HB.out)).mono ?_
      rintro e w2 ⟨rfl, hb⟩
      have B2 := Lib.hid (HB.out.trans (hb.mono HB.out.size))
      have R2 := Lib.hid (RowOf.below H3.out hb)
      clear hb HB H3 ON
      go_wp2_with fail
      refine (rlist_any os _).mono ?_
      rintro e w3 ⟨v0, rfl, hown, hb⟩
      have B3 := Lib.hid (B2.out.trans (hb.mono B2.out.size))
      have R3 := Lib.hid (RowOf.below R2.out hb)
      obtain ⟨sa, sc, rfl, hrow⟩ := row_of hown
      have HR := Lib.hid hrow
      have hl8 := SetM.list_len os
      have BD := Lib.hid (SetM.list_bd os)
      clear hown hrow hb B2 R2
      generalize SetM.list os = M at HR0 HR hl8 BD ⊢
      have MT : Hid (∀ q, q < M.length → ovM T (M.take (q + 1)) = ovM T (M.take q) ++ [cap (phAt T (M.getD q 0)).min, sums [(phAt T (M.getD q 0)).walk, (phAt T (M.getD q 0)).blinks]]) := Lib.hid (fun q hq => by rw [RefS.take_succ M q hq, ovM_snoc])
      have ML : Hid (∀ q, (ovM T (M.take q)).length ≤ 16) := Lib.hid (fun q => by rw [ovM_len, List.length_take]; omega)
      go_wp2_with fail
      go_loopw [4, 37] (fun v i wr => ∃ q : Nat, q ≤ M.length ∧ i = .int .i64 q ∧ OwnsI w3.heap.size wr v (ovM T (M.take q)) ∧ Below w3.heap.size w3 wr) (fun _ i _ => M.length - (intOf i).toNat)
      case atStart => exact ⟨0, by omega, rfl, Owns.nil, Below.refl _ _⟩
      case round =>
        obtain ⟨q, hq, rfl, hown, hbel⟩ := hrel
        have HO := Lib.hid hown
        have HB := Lib.hid hbel
        clear hown hbel
        by_cases hlt : q < M.length
        · obtain ⟨x, hx, hc⟩ := (HR.out.below HB.out).cells hlt
          obtain rfl : sa = some x := hx
          have c0 := hc q hlt
          have hmem : M.getD q 0 ∈ M := by rw [List.getD_eq_getElem?_getD, List.getElem?_eq_getElem hlt]; exact List.getElem_mem hlt
          have hbd := BD.out _ hmem
          have MS := Lib.hid (MT.out q hlt)
          have hlen := ML.out q
          clear hc hmem
          generalize M.getD q 0 = p at c0 hbd MS
          obtain ⟨p0, p8⟩ := hbd
          obtain ⟨k, rfl⟩ := Int.eq_ofNat_of_zero_le p0
          have hk : k < 8 := by omega
          have hv : T.phases[k]? = some (phAt T k) := by
            unfold phAt
            rw [Int.toNat_natCast, List.getD_eq_getElem?_getD, List.getElem?_eq_getElem (by rw [L8.out]; exact hk)]; rfl
          generalize phAt T k = u at hv MS
          have S4 := Lib.hid (S0.out.step (B3.out.trans (HB.out.mono B3.out.size)))
          obtain ⟨y, hy, hcc⟩ := (phases_in S4.out.blk C.out L8.out).at hv
          obtain rfl := Option.some.inj hy
          have d1 : wr.cell? ⟨w.heap.size, k * 13 + 1, none⟩ = some (I u.min) := by have := hcc 1 _ rfl; rwa [Addr.add_mid, Nat.zero_add, Addr.add_mid] at this
          have d8 : wr.cell? ⟨w.heap.size, k * 13 + 8, none⟩ = some (I u.walk) := by have := hcc 8 _ rfl; rwa [Addr.add_mid, Nat.zero_add, Addr.add_mid] at this
          have d9 : wr.cell? ⟨w.heap.size, k * 13 + 9, none⟩ = some (I u.blinks) := by have := hcc 9 _ rfl; rwa [Addr.add_mid, Nat.zero_add, Addr.add_mid] at this
          have hl3 : w.heap.size < w3.heap.size := by have := B3.out.size; have := HZ.out; omega
          have C1 : Hid (∀ w', Below w3.heap.size wr w' → w'.cell? ⟨w.heap.size, k * 13 + 1, none⟩ = some (I u.min)) := Lib.hid (fun w' hb => (hb.cell (show w.heap.size < _ from hl3)).trans d1)
          have C8 : Hid (∀ w', Below w3.heap.size wr w' → w'.cell? ⟨w.heap.size, k * 13 + 8, none⟩ = some (I u.walk)) := Lib.hid (fun w' hb => (hb.cell (show w.heap.size < _ from hl3)).trans d8)
          have C9 : Hid (∀ w', Below w3.heap.size wr w' → w'.cell? ⟨w.heap.size, k * 13 + 9, none⟩ = some (I u.blinks)) := Lib.hid (fun w' hb => (hb.cell (show w.heap.size < _ from hl3)).trans d9)
          clear hv hcc hy d1 d8 d9 hl3
          have hwr := HB.out.size
          generalize ovM T (M.take q) = P1 at HO MS hlen
          generalize u.min = mi at C1 MS
          generalize u.walk = wa at C8 MS
          generalize u.blinks = bl at C9 MS
          go_upto_region 11 with fail
          refine wp_region_held (S := fun w' => Below w3.heap.size wr w') (by kernel_rfl) ?_
          have hO : OwnsI w3.heap.size { wr with drawn := wr.drawn + 1 } u4 P1 := HO.out
          have hS : Below w3.heap.size wr { wr with drawn := wr.drawn + 1 } := (Below.refl _ _).drew
          have hv : w3.heap.size ≤ ({ wr with drawn := wr.drawn + 1 } : World).heap.size := hwr
          generalize ({ wr with drawn := wr.drawn + 1 } : World) = v at hS hO hv ⊢
          refine Held.take (i := 0) (some 41) rfl (v := ?_) rfl (by kernel_rfl) (by kernel_rfl) (by kernel_rfl) (fun _ _ _ h => h) (Or.inl ⟨by rfl, ?_⟩) hS ?_
          rotate_left
          · intro w' hw'
            have e1 := C1.out w' hw'
            have e8 := C8.out w' hw'
            have e9 := C9.out w' hw'
            go_simp
            try with_reducible rfl
          (try dsimp only [Act.put]); (try simp only [List.setIfInBounds_toArray, List.set_cons_zero, List.set_cons_succ])
          refine Held.take (i := 1) (some 42) rfl (v := ?_) rfl (by kernel_rfl) (by kernel_rfl) (by kernel_rfl) (fun _ _ _ h => h) (Or.inl ⟨by rfl, ?_⟩) hS ?_
          rotate_left
          · intro w' hw'
            have e1 := C1.out w' hw'
            have e8 := C8.out w' hw'
            have e9 := C9.out w' hw'
            go_simp
            try with_reducible rfl
          (try dsimp only [Act.put]); (try simp only [List.setIfInBounds_toArray, List.set_cons_zero, List.set_cons_succ])
          refine Held.take (i := 2) (some 43) rfl (v := ?_) rfl (by kernel_rfl) (by kernel_rfl) (by kernel_rfl) (fun _ _ _ h => h) (Or.inl ⟨by rfl, ?_⟩) hS ?_
          rotate_left
          · intro w' hw'
            have e1 := C1.out w' hw'
            have e8 := C8.out w' hw'
            have e9 := C9.out w' hw'
            go_simp
            try with_reducible rfl
          (try dsimp only [Act.put]); (try simp only [List.setIfInBounds_toArray, List.set_cons_zero, List.set_cons_succ])
          refine Held.take (i := 3) (some 44) rfl (v := ?_) rfl (by kernel_rfl) (by kernel_rfl) (by kernel_rfl) (fun _ _ _ h => h) (Or.inl ⟨by rfl, ?_⟩) hS ?_
          rotate_left
          · intro w' hw'
            have e1 := C1.out w' hw'
            have e8 := C8.out w' hw'
            have e9 := C9.out w' hw'
            go_simp
            try with_reducible rfl
          (try dsimp only [Act.put]); (try simp only [List.setIfInBounds_toArray, List.set_cons_zero, List.set_cons_succ])
          refine Held.take (i := 4) (some 45) rfl (v := ?_) rfl (by kernel_rfl) (by kernel_rfl) (by kernel_rfl) (fun _ _ _ h => h) (Or.inl ⟨by rfl, ?_⟩) hS ?_
          rotate_left
          · intro w' hw'
            have e1 := C1.out w' hw'
            have e8 := C8.out w' hw'
            have e9 := C9.out w' hw'
            go_simp
            try with_reducible rfl
          (try dsimp only [Act.put]); (try simp only [List.setIfInBounds_toArray, List.set_cons_zero, List.set_cons_succ])
          refine Held.take (i := 5) (some 46) rfl (v := ?_) rfl (by kernel_rfl) (by kernel_rfl) (by kernel_rfl) (fun _ _ _ h => h) (Or.inl ⟨by rfl, ?_⟩) hS ?_
          rotate_left
          · intro w' hw'
            have e1 := C1.out w' hw'
            have e8 := C8.out w' hw'
            have e9 := C9.out w' hw'
            go_simp
            try with_reducible rfl
          (try dsimp only [Act.put]); (try simp only [List.setIfInBounds_toArray, List.set_cons_zero, List.set_cons_succ])
          refine Held.take (i := 7) (some 48) rfl (v := ?_) rfl (by kernel_rfl) (by kernel_rfl) (by kernel_rfl) (fun _ _ _ h => h) (Or.inl ⟨by rfl, ?_⟩) hS ?_
          rotate_left
          · intro w' hw'
            have e1 := C1.out w' hw'
            have e8 := C8.out w' hw'
            have e9 := C9.out w' hw'
            go_simp
            try with_reducible rfl
          (try dsimp only [Act.put]); (try simp only [List.setIfInBounds_toArray, List.set_cons_zero, List.set_cons_succ])
          refine Held.take (i := 8) (some 49) rfl (v := ?_) rfl (by kernel_rfl) (by kernel_rfl) (by kernel_rfl) (fun _ _ _ h => h) (Or.inl ⟨by rfl, ?_⟩) hS ?_
          rotate_left
          · intro w' hw'
            have e1 := C1.out w' hw'
            have e8 := C8.out w' hw'
            have e9 := C9.out w' hw'
            go_simp
            try with_reducible rfl
          (try dsimp only [Act.put]); (try simp only [List.setIfInBounds_toArray, List.set_cons_zero, List.set_cons_succ])
          refine Held.take (i := 9) (some 50) rfl (v := ?_) rfl (by kernel_rfl) (by kernel_rfl) (by kernel_rfl) (fun _ _ _ h => h) (Or.inl ⟨by rfl, ?_⟩) hS ?_
          rotate_left
          · intro w' hw'
            have e1 := C1.out w' hw'
            have e8 := C8.out w' hw'
            have e9 := C9.out w' hw'
            go_simp
            try with_reducible rfl
          (try dsimp only [Act.put]); (try simp only [List.setIfInBounds_toArray, List.set_cons_zero, List.set_cons_succ])
          refine Held.take (i := 10) (some 51) rfl (v := ?_) rfl (by kernel_rfl) (by kernel_rfl) (by kernel_rfl) (fun _ _ _ h => h) (Or.inl ⟨by rfl, ?_⟩) hS ?_
          rotate_left
          · intro w' hw'
            have e1 := C1.out w' hw'
            have e8 := C8.out w' hw'
            have e9 := C9.out w' hw'
            go_simp
            try with_reducible rfl
          (try dsimp only [Act.put]); (try simp only [List.setIfInBounds_toArray, List.set_cons_zero, List.set_cons_succ])
          refine Held.take (i := 11) (some 52) rfl (v := ?_) rfl (by kernel_rfl) (by kernel_rfl) (by kernel_rfl) (fun _ _ _ h => h) (Or.inl ⟨by rfl, ?_⟩) hS ?_
          rotate_left
          · intro w' hw'
            have e1 := C1.out w' hw'
            have e8 := C8.out w' hw'
            have e9 := C9.out w' hw'
            go_simp
            try with_reducible rfl
          (try dsimp only [Act.put]); (try simp only [List.setIfInBounds_toArray, List.set_cons_zero, List.set_cons_succ])
          refine Held.take (i := 12) (some 53) rfl (v := ?_) rfl (by kernel_rfl) (by kernel_rfl) (by kernel_rfl) (fun _ _ _ h => h) (Or.inl ⟨by rfl, ?_⟩) hS ?_
          rotate_left
          · intro w' hw'
            have e1 := C1.out w' hw'
            have e8 := C8.out w' hw'
            have e9 := C9.out w' hw'
            go_simp
            try with_reducible rfl
          (try dsimp only [Act.put]); (try simp only [List.setIfInBounds_toArray, List.set_cons_zero, List.set_cons_succ])
          refine Held.take (i := 13) (some 54) rfl (v := ?_) rfl (by kernel_rfl) (by kernel_rfl) (by kernel_rfl) (fun _ _ _ h => h) (Or.inl ⟨by rfl, ?_⟩) hS ?_
          rotate_left
          · intro w' hw'
            have e1 := C1.out w' hw'
            have e8 := C8.out w' hw'
            have e9 := C9.out w' hw'
            go_simp
            try with_reducible rfl
          (try dsimp only [Act.put]); (try simp only [List.setIfInBounds_toArray, List.set_cons_zero, List.set_cons_succ])
          refine Held.take (i := 14) (some 55) rfl (v := ?_) rfl (by kernel_rfl) (by kernel_rfl) (by kernel_rfl) (fun _ _ _ h => h) (Or.inl ⟨by rfl, ?_⟩) hS ?_
          rotate_left
          · intro w' hw'
            have e1 := C1.out w' hw'
            have e8 := C8.out w' hw'
            have e9 := C9.out w' hw'
            go_simp
            try with_reducible rfl
          (try dsimp only [Act.put]); (try simp only [List.setIfInBounds_toArray, List.set_cons_zero, List.set_cons_succ])
          refine Held.take (i := 15) (some 56) rfl (v := ?_) rfl (by kernel_rfl) (by kernel_rfl) (by kernel_rfl) (fun _ _ _ h => h) (Or.inl ⟨by rfl, ?_⟩) hS ?_
          rotate_left
          · intro w' hw'
            have e1 := C1.out w' hw'
            have e8 := C8.out w' hw'
            have e9 := C9.out w' hw'
            go_simp
            try with_reducible rfl
          (try dsimp only [Act.put]); (try simp only [List.setIfInBounds_toArray, List.set_cons_zero, List.set_cons_succ])
          refine Held.take (i := 16) (some 57) rfl (v := ?_) rfl (by kernel_rfl) (by kernel_rfl) (by kernel_rfl) (fun _ _ _ h => h) (Or.inl ⟨by rfl, ?_⟩) hS ?_
          rotate_left
          · intro w' hw'
            have e1 := C1.out w' hw'
            have e8 := C8.out w' hw'
            have e9 := C9.out w' hw'
            go_simp
            try with_reducible rfl
          (try dsimp only [Act.put]); (try simp only [List.setIfInBounds_toArray, List.set_cons_zero, List.set_cons_succ])
          refine wpAnyH_ready (rs := [6, 17]) (by kernel_rfl) (by simp) (AllReadyH.cons rfl (fun K hK => ?_) (AllReadyH.cons rfl (fun K hK => ?_) AllReadyH.nil))
          · go_simp
            refine (rcap_any mi v).mono ?_
            rintro e w' ⟨rfl, hq⟩
            subst w'
            generalize cap mi = cm at MS ⊢
            go_simp
            refine hK.out _ _ hS (fun hS => ?_)
            clear hK K
            refine wpAnyH_ready (rs := [17]) (by kernel_rfl) (by simp) (AllReadyH.cons rfl (fun K hK => ?_) AllReadyH.nil)
            go_simp
            have r1 : Hid (IntRow (v.alloc (.cells #[I wa, I bl] 3)) ⟨some ⟨v.heap.size, 0, none⟩, 2⟩ [wa, bl]) := Lib.hid (May.row_new v 3 [wa, bl] 2 rfl (by decide) _ rfl)
            have hbw : Below v.heap.size v (v.alloc (.cells #[I wa, I bl] 3)) := (Below.refl _ _).alloc (Nat.le_refl _) _
            replace hO := Owns.below hO hbw
            have hS2 := hS.alloc hv (.cells #[I wa, I bl] 3)
            replace hv := Nat.le_trans hv hbw.size
            clear hbw hS
            generalize hb0 : v.heap.size = b1 at r1 ⊢
            clear hb0
            generalize World.alloc v (.cells #[I wa, I bl] 3) = x2 at r1 hO hS2 hv ⊢
            refine hK.out _ _ hS2 (fun hS => ?_)
            clear hK K hS2
            refine wpAnyH_ready (rs := [18]) (by kernel_rfl) (by simp) (AllReadyH.cons rfl (fun K hK => ?_) AllReadyH.nil)
            go_simp
            refine (Clear.sum_len (some ⟨b1, 0, none⟩) 2 [wa, bl] 2 rfl x2 r1.out).mono ?_
            rintro e w' ⟨rfl, hq⟩
            subst w'
            clear r1
            generalize sums [wa, bl] = z at MS ⊢
            go_simp
            refine hK.out _ _ hS (fun hS => ?_)
            clear hK K
            refine wpAnyH_ready (rs := [19]) (by kernel_rfl) (by simp) (AllReadyH.cons rfl (fun K hK => ?_) AllReadyH.nil)
            go_simp
            have r2 : Hid (IntRow (x2.alloc (.cells #[I cm, I z] 3)) ⟨some ⟨x2.heap.size, 0, none⟩, 2⟩ [cm, z]) := Lib.hid (May.row_new x2 3 [cm, z] 2 rfl (by decide) _ rfl)
            have hbw : Below x2.heap.size x2 (x2.alloc (.cells #[I cm, I z] 3)) := (Below.refl _ _).alloc (Nat.le_refl _) _
            replace hO := Owns.below hO hbw
            have hS2 := hS.alloc hv (.cells #[I cm, I z] 3)
            replace hv := Nat.le_trans hv hbw.size
            clear hbw hS
            generalize hb0 : x2.heap.size = b3 at r2 ⊢
            clear hb0
            generalize World.alloc x2 (.cells #[I cm, I z] 3) = x4 at r2 hO hS2 hv ⊢
            refine hK.out _ _ hS2 (fun hS => ?_)
            clear hK K hS2
            refine wpAnyH_ready (rs := [20]) (by kernel_rfl) (by simp) (AllReadyH.cons rfl (fun K hK => ?_) AllReadyH.nil)
            rw [if_pos (by rfl)]
            refine wp_append_own _ _ _ _ rfl w3.heap.size 3 i0 (.int .i64 0) 1 8 Try.underlying22 hi hz0 hz1 hz2 rfl (by decide) u4 P1.length _ rfl hO ⟨b3, 0, none⟩ 2 2 [I cm, I z] rfl rfl ?c1 ?c2 ?c3 ?c4 hv ?_
            case c1 =>
              intro j e hj
              obtain ⟨x, hx, hc⟩ := IntRow.at r2.out (i := j) (v := intOf e) (by
                match j, hj with
                | 0, hj => simp at hj; subst hj; rfl
                | 1, hj => simp at hj; subst hj; rfl)
              obtain rfl := Option.some.inj hx
              rw [hc]
              match j, hj with
              | 0, hj => simp at hj; subst hj; rfl
              | 1, hj => simp at hj; subst hj; rfl
            case c2 => intro e he; simp at he; rcases he with rfl | rfl <;> rfl
            case c3 => unfold maxLen; omega
            case c4 => omega
            intro v' x5 hown' hgrow hnil'
            have hS2 := hS.grown hgrow hv (fun m hm => Owns.blk (show OwnsI w3.heap.size x4 u4 P1 from hO) m hm)
            have HO2 : Hid (x5.ownsRow w3.heap.size 3 1 v' (P1.length + 2) (P1.flatMap (fun n => [I n]) ++ [I cm, I z])) := Lib.hid hown'
            clear hown' hgrow hnil' hO hS
            refine hK.out _ _ hS2 (fun hS => ?_)
            clear hK K hS2
            refine Held.take (i := 21) (some 4) rfl (v := ?_) rfl (by kernel_rfl) (by kernel_rfl) (by kernel_rfl) (fun _ _ _ h => h) (Or.inl ⟨by rfl, ?_⟩) hS ?_
            rotate_left
            · intro w' hw'
              go_simp
              try with_reducible rfl
            (try dsimp only [Act.put]); (try simp only [List.setIfInBounds_toArray, List.set_cons_zero, List.set_cons_succ])
            refine wpAnyH_done (by kernel_rfl) ?_ _
            have HB2 := Lib.hid (HB.out.trans hS)
            clear hS
            go_wp2
            go_roundw
            case rel => exact ⟨q + 1, by omega, by go_num, by rw [MS.out]; exact own_snoc2 HO2.out, HB2.out⟩
            case measure => simp [intOf]; omega
          · go_simp
            have r1 : Hid (IntRow (v.alloc (.cells #[I wa, I bl] 3)) ⟨some ⟨v.heap.size, 0, none⟩, 2⟩ [wa, bl]) := Lib.hid (May.row_new v 3 [wa, bl] 2 rfl (by decide) _ rfl)
            have hbw : Below v.heap.size v (v.alloc (.cells #[I wa, I bl] 3)) := (Below.refl _ _).alloc (Nat.le_refl _) _
            replace hO := Owns.below hO hbw
            have hS2 := hS.alloc hv (.cells #[I wa, I bl] 3)
            replace hv := Nat.le_trans hv hbw.size
            clear hbw hS
            generalize hb0 : v.heap.size = b6 at r1 ⊢
            clear hb0
            generalize World.alloc v (.cells #[I wa, I bl] 3) = x7 at r1 hO hS2 hv ⊢
            refine hK.out _ _ hS2 (fun hS => ?_)
            clear hK K hS2
            refine wpAnyH_ready (rs := [6]) (by kernel_rfl) (by simp) (AllReadyH.cons rfl (fun K hK => ?_) AllReadyH.nil)
            go_simp
            refine (rcap_any mi x7).mono ?_
            rintro e w' ⟨rfl, hq⟩
            subst w'
            generalize cap mi = cm at MS ⊢
            go_simp
            refine hK.out _ _ hS (fun hS => ?_)
            clear hK K
            refine wpAnyH_ready (rs := [18]) (by kernel_rfl) (by simp) (AllReadyH.cons rfl (fun K hK => ?_) AllReadyH.nil)
            go_simp
            refine (Clear.sum_len (some ⟨b6, 0, none⟩) 2 [wa, bl] 2 rfl x7 r1.out).mono ?_
            rintro e w' ⟨rfl, hq⟩
            subst w'
            clear r1
            generalize sums [wa, bl] = z at MS ⊢
            go_simp
            refine hK.out _ _ hS (fun hS => ?_)
            clear hK K
            refine wpAnyH_ready (rs := [19]) (by kernel_rfl) (by simp) (AllReadyH.cons rfl (fun K hK => ?_) AllReadyH.nil)
            go_simp
            have r2 : Hid (IntRow (x7.alloc (.cells #[I cm, I z] 3)) ⟨some ⟨x7.heap.size, 0, none⟩, 2⟩ [cm, z]) := Lib.hid (May.row_new x7 3 [cm, z] 2 rfl (by decide) _ rfl)
            have hbw : Below x7.heap.size x7 (x7.alloc (.cells #[I cm, I z] 3)) := (Below.refl _ _).alloc (Nat.le_refl _) _
            replace hO := Owns.below hO hbw
            have hS2 := hS.alloc hv (.cells #[I cm, I z] 3)
            replace hv := Nat.le_trans hv hbw.size
            clear hbw hS
            generalize hb0 : x7.heap.size = b8 at r2 ⊢
            clear hb0
            generalize World.alloc x7 (.cells #[I cm, I z] 3) = x9 at r2 hO hS2 hv ⊢
            refine hK.out _ _ hS2 (fun hS => ?_)
            clear hK K hS2
            refine wpAnyH_ready (rs := [20]) (by kernel_rfl) (by simp) (AllReadyH.cons rfl (fun K hK => ?_) AllReadyH.nil)
            rw [if_pos (by rfl)]
            refine wp_append_own _ _ _ _ rfl w3.heap.size 3 i0 (.int .i64 0) 1 8 Try.underlying22 hi hz0 hz1 hz2 rfl (by decide) u4 P1.length _ rfl hO ⟨b8, 0, none⟩ 2 2 [I cm, I z] rfl rfl ?c1 ?c2 ?c3 ?c4 hv ?_
            case c1 =>
              intro j e hj
              obtain ⟨x, hx, hc⟩ := IntRow.at r2.out (i := j) (v := intOf e) (by
                match j, hj with
                | 0, hj => simp at hj; subst hj; rfl
                | 1, hj => simp at hj; subst hj; rfl)
              obtain rfl := Option.some.inj hx
              rw [hc]
              match j, hj with
              | 0, hj => simp at hj; subst hj; rfl
              | 1, hj => simp at hj; subst hj; rfl
            case c2 => intro e he; simp at he; rcases he with rfl | rfl <;> rfl
            case c3 => unfold maxLen; omega
            case c4 => omega
            intro v' x10 hown' hgrow hnil'
            have hS2 := hS.grown hgrow hv (fun m hm => Owns.blk (show OwnsI w3.heap.size x9 u4 P1 from hO) m hm)
            have HO2 : Hid (x10.ownsRow w3.heap.size 3 1 v' (P1.length + 2) (P1.flatMap (fun n => [I n]) ++ [I cm, I z])) := Lib.hid hown'
            clear hown' hgrow hnil' hO hS
            refine hK.out _ _ hS2 (fun hS => ?_)
            clear hK K hS2
            refine Held.take (i := 21) (some 4) rfl (v := ?_) rfl (by kernel_rfl) (by kernel_rfl) (by kernel_rfl) (fun _ _ _ h => h) (Or.inl ⟨by rfl, ?_⟩) hS ?_
            rotate_left
            · intro w' hw'
              go_simp
              try with_reducible rfl
            (try dsimp only [Act.put]); (try simp only [List.setIfInBounds_toArray, List.set_cons_zero, List.set_cons_succ])
            refine wpAnyH_done (by kernel_rfl) ?_ _
            have HB2 := Lib.hid (HB.out.trans hS)
            clear hS
            go_wp2
            go_roundw
            case rel => exact ⟨q + 1, by omega, by go_num, by rw [MS.out]; exact own_snoc2 HO2.out, HB2.out⟩
            case measure => simp [intOf]; omega
        · have HE : Hid (ovM T (M.take q) = ovM T M) := Lib.hid (by rw [List.take_of_length_le (by omega)])
          obtain ⟨⟨fa, fc⟩, hs, hrow⟩ := HO.out.row (enc := fun n => [I n]) (fun _ => rfl)
          rw [HE.out] at hs hrow
          have H4 := Lib.hid hrow
          have R4 := Lib.hid (RowOf.below R3.out HB.out)
          have B4 := Lib.hid (B3.out.trans (HB.out.mono B3.out.size))
          clear hrow HE
          subst hs
          generalize ovM T M = P4 at HR0 H4 ⊢
          rw [show (Sl.val ⟨fa, fc⟩ P4.length) = .slice fa P4.length fc from rfl]
          have CQ : Hid (∀ w', Below wr.heap.size wr w' → w'.cell? ⟨w.heap.size, 119, none⟩ = some (I T.revert)) := Lib.hid (fun w' hb => Q119.out _ (B4.out.trans (hb.mono B4.out.size)))
          have LS : Hid (∀ w', Below wr.heap.size wr w' → Lies w' ⟨w.heap.size, 0, none⟩ c) := Lib.hid (fun w' hb => LT.out _ (B4.out.trans (hb.mono B4.out.size)))
          have SB : Hid (∀ w', Below wr.heap.size wr w' → Below w.heap.size w w') := Lib.hid (fun w' hb => BB.out _ (B4.out.trans (hb.mono B4.out.size)))
          generalize T.revert = rv at CQ HR0
          go_upto_region 13 with fail
          refine wp_region_held (S := fun w' => Below wr.heap.size wr w') (by kernel_rfl) ?_
          have hS : Below wr.heap.size wr { wr with drawn := wr.drawn + 1 } := (Below.refl _ _).drew
          have hv : wr.heap.size ≤ ({ wr with drawn := wr.drawn + 1 } : World).heap.size := Nat.le_refl _
          generalize ({ wr with drawn := wr.drawn + 1 } : World) = v at hS hv ⊢
          refine Held.take (i := 0) (some 63) rfl (v := ?_) rfl (by kernel_rfl) (by kernel_rfl) (by kernel_rfl) (fun _ _ _ h => h) (Or.inl ⟨by rfl, ?_⟩) hS ?_
          rotate_left
          · intro w' hw'
            go_simp
            try with_reducible rfl
          (try dsimp only [Act.put]); (try simp only [List.setIfInBounds_toArray, List.set_cons_zero, List.set_cons_succ])
          refine Held.take (i := 2) (some 65) rfl (v := ?_) rfl (by kernel_rfl) (by kernel_rfl) (by kernel_rfl) (fun _ _ _ h => h) (Or.inl ⟨by rfl, ?_⟩) hS ?_
          rotate_left
          · intro w' hw'
            go_simp
            try with_reducible rfl
          (try dsimp only [Act.put]); (try simp only [List.setIfInBounds_toArray, List.set_cons_zero, List.set_cons_succ])
          refine Held.take_load (i := 4) (some 67) rfl 32 _ ⟨w.heap.size, 0, none⟩ c _ rfl rfl (by kernel_rfl) (by kernel_rfl) (by kernel_rfl) (fun _ _ _ h => h) (by rfl) hS rfl (fun w' hw' => LS.out w' hw') Try.underlying32 rfl IA.out ?_
          (try dsimp only [Act.put]); (try simp only [List.setIfInBounds_toArray, List.set_cons_zero, List.set_cons_succ])
          refine Held.take (i := 6) (some 69) rfl (v := ?_) rfl (by kernel_rfl) (by kernel_rfl) (by kernel_rfl) (fun _ _ _ h => h) (Or.inl ⟨by rfl, ?_⟩) hS ?_
          rotate_left
          · intro w' hw'
            have e1 := CQ.out w' hw'
            go_simp
            try with_reducible rfl
          (try dsimp only [Act.put]); (try simp only [List.setIfInBounds_toArray, List.set_cons_zero, List.set_cons_succ])
          refine Held.take (i := 7) (some 70) rfl (v := ?_) rfl (by kernel_rfl) (by kernel_rfl) (by kernel_rfl) (fun _ _ _ h => h) (Or.inl ⟨by rfl, ?_⟩) hS ?_
          rotate_left
          · intro w' hw'
            have e1 := CQ.out w' hw'
            go_simp
            try with_reducible rfl
          (try dsimp only [Act.put]); (try simp only [List.setIfInBounds_toArray, List.set_cons_zero, List.set_cons_succ])
          refine wpAnyH_ready (rs := [1]) (by kernel_rfl) (by simp) (AllReadyH.cons rfl (fun K hK => ?_) AllReadyH.nil)
          go_simp
          refine (most_row ea ec P3 v (RowOf.below R4.out hS)).mono ?_
          rintro e w' ⟨rfl, hq⟩
          subst w'
          generalize mosts P3 = m3 at HR0 ⊢
          go_simp
          refine hK.out _ _ hS (fun hS => ?_)
          clear hK K
          refine wpAnyH_ready (rs := [3]) (by kernel_rfl) (by simp) (AllReadyH.cons rfl (fun K hK => ?_) AllReadyH.nil)
          go_simp
          refine (most_row fa fc P4 v (RowOf.below H4.out hS)).mono ?_
          rintro e w' ⟨rfl, hq⟩
          subst w'
          generalize mosts P4 = m4 at HR0 ⊢
          go_simp
          refine hK.out _ _ hS (fun hS => ?_)
          clear hK K
          refine wpAnyH_ready (rs := [5]) (by kernel_rfl) (by simp) (AllReadyH.cons rfl (fun K hK => ?_) AllReadyH.nil)
          go_simp
          refine (CC.out v (SB.out v hS)).mono ?_
          rintro e x1 ⟨rfl, hb⟩
          generalize clearS T = cl at HR0 ⊢
          have hS2 := Below.trans hS (hb.mono hv)
          replace hv := Nat.le_trans hv hb.size
          clear hb hS
          go_simp
          refine hK.out _ _ hS2 (fun hS => ?_)
          clear hK K hS2
          refine wpAnyH_ready (rs := [8]) (by kernel_rfl) (by simp) (AllReadyH.cons rfl (fun K hK => ?_) AllReadyH.nil)
          go_simp
          have r1 : Hid (IntRow (x1.alloc (.cells #[I m3, I m4, I cl, I rv, I 30] 3)) ⟨some ⟨x1.heap.size, 0, none⟩, 5⟩ [m3, m4, cl, rv, 30]) := Lib.hid (May.row_new x1 3 [m3, m4, cl, rv, 30] 5 rfl (by decide) _ rfl)
          have hbw : Below x1.heap.size x1 (x1.alloc (.cells #[I m3, I m4, I cl, I rv, I 30] 3)) := (Below.refl _ _).alloc (Nat.le_refl _) _
          have hS2 := hS.alloc hv (.cells #[I m3, I m4, I cl, I rv, I 30] 3)
          replace hv := Nat.le_trans hv hbw.size
          clear hbw hS
          generalize hb0 : x1.heap.size = b2 at r1 ⊢
          clear hb0
          generalize World.alloc x1 (.cells #[I m3, I m4, I cl, I rv, I 30] 3) = x3 at r1 hS2 hv ⊢
          refine hK.out _ _ hS2 (fun hS => ?_)
          clear hK K hS2
          refine wpAnyH_ready (rs := [9]) (by kernel_rfl) (by simp) (AllReadyH.cons rfl (fun K hK => ?_) AllReadyH.nil)
          go_simp
          refine (Clear.sum_len (some ⟨b2, 0, none⟩) 5 [m3, m4, cl, rv, 30] 5 rfl x3 r1.out).mono ?_
          rintro e w' ⟨rfl, hq⟩
          subst w'
          rw [HR0.out]
          go_simp
          refine hK.out _ _ hS (fun hS => ?_)
          clear hK K
          refine Held.take (i := 10) (some 2) rfl (v := ?_) rfl (by kernel_rfl) (by kernel_rfl) (by kernel_rfl) (fun _ _ _ h => h) (Or.inl ⟨by rfl, ?_⟩) hS ?_
          rotate_left
          · intro w' hw'
            go_simp
            try with_reducible rfl
          (try dsimp only [Act.put]); (try simp only [List.setIfInBounds_toArray, List.set_cons_zero, List.set_cons_succ])
          refine wpAnyH_done (by kernel_rfl) ?_ _
          have HF := Lib.hid (SB.out _ hS)
          clear hS
          go_wp2
          go_ret
          exact ⟨rfl, HF.out⟩
end OverS
namespace ServeS
open Go.ChangeShapes Go.WideShapes Go.ChangeAt Go.RowKit
open Tab Gath OnS RefC Clear
open RefS (rhas_any)
open May (St phases_in infoP infoT row_new)
def serveR (T : Tab) (x : Ph) : Int := sums [mosts [cap x.min, sums [x.walk, x.blinks], cap x.top], T.extend, x.yellow, x.red, T.revert, 8]
def serveS (T : Tab) (p : Int) : Int := if SetM.has (onS T : Nat) p then serveR T (phAt T p) else 0
theorem most_len (a : Option Addr) (cap : Nat) (L : List Int) (n : Nat) (hn : L.length = n) (w : World) (h : IntRow w ⟨a, cap⟩ L) :
    Calls Try.prog 76 #[.slice a n cap] w fun e w' => e = .returned (.int .i64 (mosts L)) ∧ w = w' := by
  subst hn; exact most_row a cap L w h
theorem serve_any (T : Tab) (h : Hd) (p : Int) (w : World) (ht : IsTab w h T) :
    Calls Try.prog 72 #[.agg (T.cells h).toArray, .int .i64 p] w fun e w' => e = .returned (.int .i64 (serveS T p)) ∧ Below w.heap.size w w' := by
  have C := Lib.hid (cells_ok ht)
  have hsz := C.out.size
  have IA : Hid ((Try.prog.info? 32).map (·.size) = some (T.cells h).length) := Lib.hid (by rw [List.size_toArray] at hsz; rw [hsz]; exact infoT)
  have ON : Hid (∀ W, Below w.heap.size w W → Calls Try.prog 21 #[.agg (T.cells h).toArray] W fun e w' => e = .returned (.int .i64 (onS T : Nat)) ∧ Below W.heap.size W w') := Lib.hid (fun W hb => on_any T h W (ht.below hb))
  have L8 := Lib.hid ht.ph
  have S0 := Lib.hid (St.box (cs := (T.cells h).toArray) ht)
  have RS : Hid (serveS T p = if SetM.has (onS T : Nat) p then serveR T (phAt T p) else 0) := Lib.hid rfl
  generalize serveS T p = e0 at RS ⊢
  generalize ((onS T : Nat) : Int) = os at RS ON
  clear ht
  generalize T.cells h = c at *
  go_enter Try.func72, Try.ntmps72
  go_upto_region 1 with fail
  generalize w.alloc (.cells c.toArray 32) = w1 at S0 ⊢
  clear hsz
  have LT : Hid (Lies w1 ⟨w.heap.size, 0, none⟩ c) := Lib.hid (by have := Row.lies_of_block S0.out.blk; simpa using this)
  go_wp2_with (refine Row.wpList_load_g 32 _ rfl (by first | rfl | go_simp) ⟨w.heap.size, 0, none⟩ rfl c _ LT.out Try.underlying32 rfl IA.out ?_)
  refine (ON.out _ S0.out.bel).mono ?_
  rintro e w2 ⟨rfl, hb⟩
  have S2 := Lib.hid (S0.out.step hb)
  clear hb S0 LT ON IA
  go_wp2_with fail
  refine (rhas_any os p _).mono ?_
  rintro e w' ⟨rfl, rfl⟩
  by_cases hh : SetM.has os p = true
  rotate_left
  · have h2 : SetM.has os p = false := by simpa using hh
    have HE : Hid (0 = e0) := Lib.hid (by rw [RS.out, h2]; rfl)
    rw [h2]
    clear hh h2
    go_wp2
    go_ret
    exact ⟨RefC.ret_int HE.out, S2.out.bel⟩
  have HE : Hid (serveR T (phAt T p) = e0) := Lib.hid (by rw [RS.out, hh]; rfl)
  have hbd := SetM.list_bd os p ((SetM.mem_list os p).2 hh)
  rw [hh]
  clear hh RS
  obtain ⟨p0, p8⟩ := hbd
  obtain ⟨k, rfl⟩ := Int.eq_ofNat_of_zero_le p0
  have hk : k < 8 := by omega
  have hv : T.phases[k]? = some (phAt T k) := by
    unfold phAt
    rw [Int.toNat_natCast, List.getD_eq_getElem?_getD, List.getElem?_eq_getElem (by rw [L8.out]; exact hk)]; rfl
  generalize phAt T k = u at hv HE
  have ER : Hid (serveR T u = sums [mosts [cap u.min, sums [u.walk, u.blinks], cap u.top], T.extend, u.yellow, u.red, T.revert, 8]) := Lib.hid rfl
  generalize serveR T u = sr at HE ER
  obtain ⟨y, hy, hcc⟩ := (phases_in S2.out.blk C.out L8.out).at hv
  obtain rfl := Option.some.inj hy
  have HC := Lib.hid (show Lies w2 ⟨w.heap.size, k * 13, none⟩ u.cells by have := hcc; rwa [Addr.add_mid, Nat.zero_add] at this)
  clear hv hcc hy
  go_upto_region 3 with fail
  go_upto_region 4 with (first | (refine Row.wpList_load_g 24 _ rfl (by first | rfl | go_simp) ⟨w.heap.size, k * 13, none⟩ rfl u.cells _ HC.out Try.underlying24 rfl infoP ?_) | (refine Row.wpList_store_new rfl 24 _ _ rfl w2 _ u.cells.toArray rfl rfl rfl infoP rfl (Ph.one _) ?_))
  (try dsimp only [Act.put])
  have hb2 : Below w2.heap.size w2 (w2.alloc (.cells u.cells.toArray 24)) := (Below.refl _ _).alloc (Nat.le_refl _) _
  have hg := heap_alloc_new w2 (.cells u.cells.toArray 24)
  have S3 := Lib.hid (S2.out.step hb2)
  clear HC hb2 S2
  generalize World.alloc w2 _ = w3 at hg S3 ⊢
  generalize w2.heap.size = b at hg ⊢
  have HL : Hid (Lies w3 ⟨b, 0, none⟩ u.cells) := Lib.hid (by have := Row.lies_of_block hg; simpa using this)
  clear hg
  have M1 : Hid (∀ w', Below w3.heap.size w3 w' → w'.cell? ⟨b, 1, none⟩ = some (I u.min)) := Lib.hid (fun w' hb => by have := (HL.out.below hb) 1 _ rfl; rwa [Addr.add_mid, Nat.zero_add] at this)
  have M8 : Hid (∀ w', Below w3.heap.size w3 w' → w'.cell? ⟨b, 8, none⟩ = some (I u.walk)) := Lib.hid (fun w' hb => by have := (HL.out.below hb) 8 _ rfl; rwa [Addr.add_mid, Nat.zero_add] at this)
  have M9 : Hid (∀ w', Below w3.heap.size w3 w' → w'.cell? ⟨b, 9, none⟩ = some (I u.blinks)) := Lib.hid (fun w' hb => by have := (HL.out.below hb) 9 _ rfl; rwa [Addr.add_mid, Nat.zero_add] at this)
  have M4 : Hid (∀ w', Below w3.heap.size w3 w' → w'.cell? ⟨b, 4, none⟩ = some (I u.top)) := Lib.hid (fun w' hb => by have := (HL.out.below hb) 4 _ rfl; rwa [Addr.add_mid, Nat.zero_add] at this)
  have M6 : Hid (∀ w', Below w3.heap.size w3 w' → w'.cell? ⟨b, 6, none⟩ = some (I u.yellow)) := Lib.hid (fun w' hb => by have := (HL.out.below hb) 6 _ rfl; rwa [Addr.add_mid, Nat.zero_add] at this)
  have M7 : Hid (∀ w', Below w3.heap.size w3 w' → w'.cell? ⟨b, 7, none⟩ = some (I u.red)) := Lib.hid (fun w' hb => by have := (HL.out.below hb) 7 _ rfl; rwa [Addr.add_mid, Nat.zero_add] at this)
  have dME := S3.out.cell C.out.extend
  have ME := Lib.hid (fun w' (hb : Below w3.heap.size w3 w') => (hb.cell (World.block_lt_of_cell? w3 _ dME)).trans dME)
  clear dME
  have dMR := S3.out.cell C.out.revert
  have MR := Lib.hid (fun w' (hb : Below w3.heap.size w3 w') => (hb.cell (World.block_lt_of_cell? w3 _ dMR)).trans dMR)
  clear dMR
  refine wp_region_held (S := fun w' => Below w3.heap.size w3 w') (by kernel_rfl) ?_
  have hS : Below w3.heap.size w3 { w3 with drawn := w3.drawn + 1 } := (Below.refl _ _).drew
  generalize ({ w3 with drawn := w3.drawn + 1 } : World) = v at hS ⊢
  refine Held.take (i := 0) (some 15) rfl (v := ?_) rfl (by kernel_rfl) (by kernel_rfl) (by kernel_rfl) (fun _ _ _ h => h) (Or.inl ⟨by rfl, ?_⟩) hS ?_
  rotate_left
  · intro w' hw'
    go_simp
    try with_reducible rfl
  (try dsimp only [Act.put]); (try simp only [List.setIfInBounds_toArray, List.set_cons_zero, List.set_cons_succ])
  refine Held.take (i := 1) (some 16) rfl (v := ?_) rfl (by kernel_rfl) (by kernel_rfl) (by kernel_rfl) (fun _ _ _ h => h) (Or.inl ⟨by rfl, ?_⟩) hS ?_
  rotate_left
  · intro w' hw'
    have cf := M1.out w' hw'
    go_simp
    try with_reducible rfl
  (try dsimp only [Act.put]); (try simp only [List.setIfInBounds_toArray, List.set_cons_zero, List.set_cons_succ])
  refine Held.take (i := 3) (some 18) rfl (v := ?_) rfl (by kernel_rfl) (by kernel_rfl) (by kernel_rfl) (fun _ _ _ h => h) (Or.inl ⟨by rfl, ?_⟩) hS ?_
  rotate_left
  · intro w' hw'
    go_simp
    try with_reducible rfl
  (try dsimp only [Act.put]); (try simp only [List.setIfInBounds_toArray, List.set_cons_zero, List.set_cons_succ])
  refine Held.take (i := 4) (some 19) rfl (v := ?_) rfl (by kernel_rfl) (by kernel_rfl) (by kernel_rfl) (fun _ _ _ h => h) (Or.inl ⟨by rfl, ?_⟩) hS ?_
  rotate_left
  · intro w' hw'
    have cf := M8.out w' hw'
    go_simp
    try with_reducible rfl
  (try dsimp only [Act.put]); (try simp only [List.setIfInBounds_toArray, List.set_cons_zero, List.set_cons_succ])
  refine Held.take (i := 5) (some 20) rfl (v := ?_) rfl (by kernel_rfl) (by kernel_rfl) (by kernel_rfl) (fun _ _ _ h => h) (Or.inl ⟨by rfl, ?_⟩) hS ?_
  rotate_left
  · intro w' hw'
    go_simp
    try with_reducible rfl
  (try dsimp only [Act.put]); (try simp only [List.setIfInBounds_toArray, List.set_cons_zero, List.set_cons_succ])
  refine Held.take (i := 6) (some 21) rfl (v := ?_) rfl (by kernel_rfl) (by kernel_rfl) (by kernel_rfl) (fun _ _ _ h => h) (Or.inl ⟨by rfl, ?_⟩) hS ?_
  rotate_left
  · intro w' hw'
    have cf := M9.out w' hw'
    go_simp
    try with_reducible rfl
  (try dsimp only [Act.put]); (try simp only [List.setIfInBounds_toArray, List.set_cons_zero, List.set_cons_succ])
  refine Held.take (i := 9) (some 24) rfl (v := ?_) rfl (by kernel_rfl) (by kernel_rfl) (by kernel_rfl) (fun _ _ _ h => h) (Or.inl ⟨by rfl, ?_⟩) hS ?_
  rotate_left
  · intro w' hw'
    go_simp
    try with_reducible rfl
  (try dsimp only [Act.put]); (try simp only [List.setIfInBounds_toArray, List.set_cons_zero, List.set_cons_succ])
  refine Held.take (i := 10) (some 25) rfl (v := ?_) rfl (by kernel_rfl) (by kernel_rfl) (by kernel_rfl) (fun _ _ _ h => h) (Or.inl ⟨by rfl, ?_⟩) hS ?_
  rotate_left
  · intro w' hw'
    have cf := M4.out w' hw'
    go_simp
    try with_reducible rfl
  (try dsimp only [Act.put]); (try simp only [List.setIfInBounds_toArray, List.set_cons_zero, List.set_cons_succ])
  refine Held.take (i := 14) (some 29) rfl (v := ?_) rfl (by kernel_rfl) (by kernel_rfl) (by kernel_rfl) (fun _ _ _ h => h) (Or.inl ⟨by rfl, ?_⟩) hS ?_
  rotate_left
  · intro w' hw'
    go_simp
    try with_reducible rfl
  (try dsimp only [Act.put]); (try simp only [List.setIfInBounds_toArray, List.set_cons_zero, List.set_cons_succ])
  refine Held.take (i := 15) (some 30) rfl (v := ?_) rfl (by kernel_rfl) (by kernel_rfl) (by kernel_rfl) (fun _ _ _ h => h) (Or.inl ⟨by rfl, ?_⟩) hS ?_
  rotate_left
  · intro w' hw'
    have cf := ME.out w' hw'
    go_simp
    try with_reducible rfl
  (try dsimp only [Act.put]); (try simp only [List.setIfInBounds_toArray, List.set_cons_zero, List.set_cons_succ])
  refine Held.take (i := 16) (some 31) rfl (v := ?_) rfl (by kernel_rfl) (by kernel_rfl) (by kernel_rfl) (fun _ _ _ h => h) (Or.inl ⟨by rfl, ?_⟩) hS ?_
  rotate_left
  · intro w' hw'
    go_simp
    try with_reducible rfl
  (try dsimp only [Act.put]); (try simp only [List.setIfInBounds_toArray, List.set_cons_zero, List.set_cons_succ])
  refine Held.take (i := 17) (some 32) rfl (v := ?_) rfl (by kernel_rfl) (by kernel_rfl) (by kernel_rfl) (fun _ _ _ h => h) (Or.inl ⟨by rfl, ?_⟩) hS ?_
  rotate_left
  · intro w' hw'
    have cf := M6.out w' hw'
    go_simp
    try with_reducible rfl
  (try dsimp only [Act.put]); (try simp only [List.setIfInBounds_toArray, List.set_cons_zero, List.set_cons_succ])
  refine Held.take (i := 18) (some 33) rfl (v := ?_) rfl (by kernel_rfl) (by kernel_rfl) (by kernel_rfl) (fun _ _ _ h => h) (Or.inl ⟨by rfl, ?_⟩) hS ?_
  rotate_left
  · intro w' hw'
    go_simp
    try with_reducible rfl
  (try dsimp only [Act.put]); (try simp only [List.setIfInBounds_toArray, List.set_cons_zero, List.set_cons_succ])
  refine Held.take (i := 19) (some 34) rfl (v := ?_) rfl (by kernel_rfl) (by kernel_rfl) (by kernel_rfl) (fun _ _ _ h => h) (Or.inl ⟨by rfl, ?_⟩) hS ?_
  rotate_left
  · intro w' hw'
    have cf := M7.out w' hw'
    go_simp
    try with_reducible rfl
  (try dsimp only [Act.put]); (try simp only [List.setIfInBounds_toArray, List.set_cons_zero, List.set_cons_succ])
  refine Held.take (i := 20) (some 35) rfl (v := ?_) rfl (by kernel_rfl) (by kernel_rfl) (by kernel_rfl) (fun _ _ _ h => h) (Or.inl ⟨by rfl, ?_⟩) hS ?_
  rotate_left
  · intro w' hw'
    go_simp
    try with_reducible rfl
  (try dsimp only [Act.put]); (try simp only [List.setIfInBounds_toArray, List.set_cons_zero, List.set_cons_succ])
  refine Held.take (i := 21) (some 36) rfl (v := ?_) rfl (by kernel_rfl) (by kernel_rfl) (by kernel_rfl) (fun _ _ _ h => h) (Or.inl ⟨by rfl, ?_⟩) hS ?_
  rotate_left
  · intro w' hw'
    have cf := MR.out w' hw'
    go_simp
    try with_reducible rfl
  (try dsimp only [Act.put]); (try simp only [List.setIfInBounds_toArray, List.set_cons_zero, List.set_cons_succ])
  refine wpAnyH_ready (rs := [2, 7]) (by kernel_rfl) (by simp) (AllReadyH.cons rfl (fun K hK => ?_) (AllReadyH.cons rfl (fun K hK => ?_) AllReadyH.nil))
  · go_simp
    refine (rcap_any u.min _).mono ?_
    rintro e w' ⟨rfl, rfl⟩
    go_simp
    refine hK.out _ _ hS (fun hS => ?_)
    clear hK K
    refine wpAnyH_ready (rs := [7]) (by kernel_rfl) (by simp) (AllReadyH.cons rfl (fun K hK => ?_) AllReadyH.nil)
    go_simp
    have R1 : Hid (IntRow (v.alloc (.cells #[I u.walk, I u.blinks] 3)) ⟨some ⟨v.heap.size, 0, none⟩, 2⟩ [u.walk, u.blinks]) := Lib.hid (row_new v 3 [u.walk, u.blinks] 2 rfl (by decide) _ rfl)
    have hq := hS.alloc hS.size (.cells #[I u.walk, I u.blinks] 3)
    have hbv : Below v.heap.size v (v.alloc (.cells #[I u.walk, I u.blinks] 3)) := (Below.refl _ _).alloc (Nat.le_refl _) _
    clear hS
    generalize v.heap.size = b1 at R1 ⊢
    generalize World.alloc v _ = v at R1 hq ⊢
    refine hK.out _ _ hq (fun hS => ?_)
    clear hK K hq
    refine wpAnyH_ready (rs := [8]) (by kernel_rfl) (by simp) (AllReadyH.cons rfl (fun K hK => ?_) AllReadyH.nil)
    go_simp
    refine (sum_len (some ⟨b1, 0, none⟩) 2 [u.walk, u.blinks] 2 rfl _ R1.out).mono ?_
    rintro e w' ⟨rfl, rfl⟩
    go_simp
    refine hK.out _ _ hS (fun hS => ?_)
    clear hK K
    clear R1
    refine wpAnyH_ready (rs := [11]) (by kernel_rfl) (by simp) (AllReadyH.cons rfl (fun K hK => ?_) AllReadyH.nil)
    go_simp
    refine (rcap_any u.top _).mono ?_
    rintro e w' ⟨rfl, rfl⟩
    go_simp
    refine hK.out _ _ hS (fun hS => ?_)
    clear hK K
    refine wpAnyH_ready (rs := [12]) (by kernel_rfl) (by simp) (AllReadyH.cons rfl (fun K hK => ?_) AllReadyH.nil)
    go_simp
    have R2 : Hid (IntRow (v.alloc (.cells #[I (cap u.min), I (sums [u.walk, u.blinks]), I (cap u.top)] 3)) ⟨some ⟨v.heap.size, 0, none⟩, 3⟩ [cap u.min, sums [u.walk, u.blinks], cap u.top]) := Lib.hid (row_new v 3 [cap u.min, sums [u.walk, u.blinks], cap u.top] 3 rfl (by decide) _ rfl)
    have hq := hS.alloc hS.size (.cells #[I (cap u.min), I (sums [u.walk, u.blinks]), I (cap u.top)] 3)
    have hbv : Below v.heap.size v (v.alloc (.cells #[I (cap u.min), I (sums [u.walk, u.blinks]), I (cap u.top)] 3)) := (Below.refl _ _).alloc (Nat.le_refl _) _
    clear hS
    generalize v.heap.size = b2 at R2 ⊢
    generalize World.alloc v _ = v at R2 hq ⊢
    refine hK.out _ _ hq (fun hS => ?_)
    clear hK K hq
    refine wpAnyH_ready (rs := [13]) (by kernel_rfl) (by simp) (AllReadyH.cons rfl (fun K hK => ?_) AllReadyH.nil)
    go_simp
    refine (most_len (some ⟨b2, 0, none⟩) 3 [cap u.min, sums [u.walk, u.blinks], cap u.top] 3 rfl _ R2.out).mono ?_
    rintro e w' ⟨rfl, rfl⟩
    go_simp
    refine hK.out _ _ hS (fun hS => ?_)
    clear hK K
    clear R2
    generalize mosts [cap u.min, sums [u.walk, u.blinks], cap u.top] = mo at ER ⊢
    refine wpAnyH_ready (rs := [22]) (by kernel_rfl) (by simp) (AllReadyH.cons rfl (fun K hK => ?_) AllReadyH.nil)
    go_simp
    have R3 : Hid (IntRow (v.alloc (.cells #[I mo, I T.extend, I u.yellow, I u.red, I T.revert, I 8] 3)) ⟨some ⟨v.heap.size, 0, none⟩, 6⟩ [mo, T.extend, u.yellow, u.red, T.revert, 8]) := Lib.hid (row_new v 3 [mo, T.extend, u.yellow, u.red, T.revert, 8] 6 rfl (by decide) _ rfl)
    have hq := hS.alloc hS.size (.cells #[I mo, I T.extend, I u.yellow, I u.red, I T.revert, I 8] 3)
    have hbv : Below v.heap.size v (v.alloc (.cells #[I mo, I T.extend, I u.yellow, I u.red, I T.revert, I 8] 3)) := (Below.refl _ _).alloc (Nat.le_refl _) _
    clear hS
    generalize v.heap.size = b3 at R3 ⊢
    generalize World.alloc v _ = v at R3 hq ⊢
    refine hK.out _ _ hq (fun hS => ?_)
    clear hK K hq
    refine wpAnyH_ready (rs := [23]) (by kernel_rfl) (by simp) (AllReadyH.cons rfl (fun K hK => ?_) AllReadyH.nil)
    go_simp
    refine (sum_len (some ⟨b3, 0, none⟩) 6 [mo, T.extend, u.yellow, u.red, T.revert, 8] 6 rfl _ R3.out).mono ?_
    rintro e w' ⟨rfl, rfl⟩
    go_simp
    refine hK.out _ _ hS (fun hS => ?_)
    clear hK K
    rw [← ER.out, HE.out]
    refine Held.take (i := 24) (some 4) rfl (v := ?_) rfl (by kernel_rfl) (by kernel_rfl) (by kernel_rfl) (fun _ _ _ h => h) (Or.inl ⟨by rfl, ?_⟩) hS ?_
    rotate_left
    · intro w' hw'
      go_simp
      try with_reducible rfl
    (try dsimp only [Act.put]); (try simp only [List.setIfInBounds_toArray, List.set_cons_zero, List.set_cons_succ])
    refine wpAnyH_done (by kernel_rfl) ?_ _
    have HF := Lib.hid (S3.out.bel.trans (hS.mono S3.out.bel.size))
    clear hS
    go_wp2
    go_ret
    exact ⟨rfl, HF.out⟩
  · go_simp
    have R1 : Hid (IntRow (v.alloc (.cells #[I u.walk, I u.blinks] 3)) ⟨some ⟨v.heap.size, 0, none⟩, 2⟩ [u.walk, u.blinks]) := Lib.hid (row_new v 3 [u.walk, u.blinks] 2 rfl (by decide) _ rfl)
    have hq := hS.alloc hS.size (.cells #[I u.walk, I u.blinks] 3)
    have hbv : Below v.heap.size v (v.alloc (.cells #[I u.walk, I u.blinks] 3)) := (Below.refl _ _).alloc (Nat.le_refl _) _
    clear hS
    generalize v.heap.size = b1 at R1 ⊢
    generalize World.alloc v _ = v at R1 hq ⊢
    refine hK.out _ _ hq (fun hS => ?_)
    clear hK K hq
    refine wpAnyH_ready (rs := [2]) (by kernel_rfl) (by simp) (AllReadyH.cons rfl (fun K hK => ?_) AllReadyH.nil)
    go_simp
    refine (rcap_any u.min _).mono ?_
    rintro e w' ⟨rfl, rfl⟩
    go_simp
    refine hK.out _ _ hS (fun hS => ?_)
    clear hK K
    refine wpAnyH_ready (rs := [8]) (by kernel_rfl) (by simp) (AllReadyH.cons rfl (fun K hK => ?_) AllReadyH.nil)
    go_simp
    refine (sum_len (some ⟨b1, 0, none⟩) 2 [u.walk, u.blinks] 2 rfl _ R1.out).mono ?_
    rintro e w' ⟨rfl, rfl⟩
    go_simp
    refine hK.out _ _ hS (fun hS => ?_)
    clear hK K
    clear R1
    refine wpAnyH_ready (rs := [11]) (by kernel_rfl) (by simp) (AllReadyH.cons rfl (fun K hK => ?_) AllReadyH.nil)
    go_simp
    refine (rcap_any u.top _).mono ?_
    rintro e w' ⟨rfl, rfl⟩
    go_simp
    refine hK.out _ _ hS (fun hS => ?_)
    clear hK K
    refine wpAnyH_ready (rs := [12]) (by kernel_rfl) (by simp) (AllReadyH.cons rfl (fun K hK => ?_) AllReadyH.nil)
    go_simp
    have R2 : Hid (IntRow (v.alloc (.cells #[I (cap u.min), I (sums [u.walk, u.blinks]), I (cap u.top)] 3)) ⟨some ⟨v.heap.size, 0, none⟩, 3⟩ [cap u.min, sums [u.walk, u.blinks], cap u.top]) := Lib.hid (row_new v 3 [cap u.min, sums [u.walk, u.blinks], cap u.top] 3 rfl (by decide) _ rfl)
    have hq := hS.alloc hS.size (.cells #[I (cap u.min), I (sums [u.walk, u.blinks]), I (cap u.top)] 3)
    have hbv : Below v.heap.size v (v.alloc (.cells #[I (cap u.min), I (sums [u.walk, u.blinks]), I (cap u.top)] 3)) := (Below.refl _ _).alloc (Nat.le_refl _) _
    clear hS
    generalize v.heap.size = b2 at R2 ⊢
    generalize World.alloc v _ = v at R2 hq ⊢
    refine hK.out _ _ hq (fun hS => ?_)
    clear hK K hq
    refine wpAnyH_ready (rs := [13]) (by kernel_rfl) (by simp) (AllReadyH.cons rfl (fun K hK => ?_) AllReadyH.nil)
    go_simp
    refine (most_len (some ⟨b2, 0, none⟩) 3 [cap u.min, sums [u.walk, u.blinks], cap u.top] 3 rfl _ R2.out).mono ?_
    rintro e w' ⟨rfl, rfl⟩
    go_simp
    refine hK.out _ _ hS (fun hS => ?_)
    clear hK K
    clear R2
    generalize mosts [cap u.min, sums [u.walk, u.blinks], cap u.top] = mo at ER ⊢
    refine wpAnyH_ready (rs := [22]) (by kernel_rfl) (by simp) (AllReadyH.cons rfl (fun K hK => ?_) AllReadyH.nil)
    go_simp
    have R3 : Hid (IntRow (v.alloc (.cells #[I mo, I T.extend, I u.yellow, I u.red, I T.revert, I 8] 3)) ⟨some ⟨v.heap.size, 0, none⟩, 6⟩ [mo, T.extend, u.yellow, u.red, T.revert, 8]) := Lib.hid (row_new v 3 [mo, T.extend, u.yellow, u.red, T.revert, 8] 6 rfl (by decide) _ rfl)
    have hq := hS.alloc hS.size (.cells #[I mo, I T.extend, I u.yellow, I u.red, I T.revert, I 8] 3)
    have hbv : Below v.heap.size v (v.alloc (.cells #[I mo, I T.extend, I u.yellow, I u.red, I T.revert, I 8] 3)) := (Below.refl _ _).alloc (Nat.le_refl _) _
    clear hS
    generalize v.heap.size = b3 at R3 ⊢
    generalize World.alloc v _ = v at R3 hq ⊢
    refine hK.out _ _ hq (fun hS => ?_)
    clear hK K hq
    refine wpAnyH_ready (rs := [23]) (by kernel_rfl) (by simp) (AllReadyH.cons rfl (fun K hK => ?_) AllReadyH.nil)
    go_simp
    refine (sum_len (some ⟨b3, 0, none⟩) 6 [mo, T.extend, u.yellow, u.red, T.revert, 8] 6 rfl _ R3.out).mono ?_
    rintro e w' ⟨rfl, rfl⟩
    go_simp
    refine hK.out _ _ hS (fun hS => ?_)
    clear hK K
    rw [← ER.out, HE.out]
    refine Held.take (i := 24) (some 4) rfl (v := ?_) rfl (by kernel_rfl) (by kernel_rfl) (by kernel_rfl) (fun _ _ _ h => h) (Or.inl ⟨by rfl, ?_⟩) hS ?_
    rotate_left
    · intro w' hw'
      go_simp
      try with_reducible rfl
    (try dsimp only [Act.put]); (try simp only [List.setIfInBounds_toArray, List.set_cons_zero, List.set_cons_succ])
    refine wpAnyH_done (by kernel_rfl) ?_ _
    have HF := Lib.hid (S3.out.bel.trans (hS.mono S3.out.bel.size))
    clear hS
    go_wp2
    go_ret
    exact ⟨rfl, HF.out⟩
end ServeS
namespace PassS
open Go.ChangeShapes Go.WideShapes Go.ChangeAt Go.RowKit
open Tab PlaceM Gath OnS RefC ServeS
open Spots (Typed)
open RefS (info3)
open May (St infoT)
theorem infoS : (Try.prog.info? 87).map (·.size) = some 4 := by kernel_rfl
theorem add_block (x : Addr) (k : Nat) : (x.add k).block = x.block := by unfold Addr.add; split <;> rfl
/-- A row lies still where another block grows. -/
theorem row_grown {α : Type} {n : Nat} {enc : α → List Value} {w w' : World} {s : Sl} {l : List α} {row : Option Nat} (h : RowOf n enc w s l) (hg : w.grownBy w' row) (hne : ∀ x, s.a = some x → some x.block ≠ row) : RowOf n enc w' s l := by
  rcases h with h | ⟨x, h1, h2, h3, h4⟩
  · exact .inl h
  · exact .inr ⟨x, h1, h2, h3, fun i v hv j u hu => hg.cell (h4 i v hv j u hu) (by rw [add_block, add_block]; exact hne x h1)⟩
theorem typed_grown {w w' : World} {s : Sl} {row : Option Nat} (h : Typed w s) (hg : w.grownBy w' row) (hne : ∀ x, s.a = some x → some x.block ≠ row) : Typed w' s := fun x hx => by
  obtain ⟨cs, hc⟩ := h x hx
  exact ⟨cs, (hg.block _ (Array.getElem?_eq_some_iff.1 hc).1 (hne x hx)).trans hc⟩
/-- Blocks of two types are two. -/
theorem typed_ne {w : World} {s : Sl} {B : Nat} {v : Value} {l : List Int} (h : Typed w s) (ho : OwnsI B w v l) : ∀ x, s.a = some x → some x.block ≠ v.ownBlock := by
  intro x hx e
  obtain ⟨cs, hc⟩ := h x hx
  rcases ho.2 with ⟨rfl, _⟩ | ⟨g, cap, cur, rfl, h1, h2, _⟩
  · simp [Value.ownBlock] at e
  · simp only [Value.ownBlock, Option.some.injEq] at e
    rw [← e, hc] at h2
    simp at h2
theorem own_one (w : World) (n : Int) : OwnsI w.heap.size (w.alloc (.cells #[I n] 3)) (.slice (some ⟨w.heap.size, 0, none⟩) 1 1) [n] :=
  ⟨rfl, .inr ⟨w.heap.size, 1, #[I n], rfl, Nat.le_refl _, heap_alloc_new w _, Nat.le_refl _, (show 1 ≤ maxLen by decide), rfl, rfl⟩⟩
def passL (T : Tab) (g : Int) (l : List Spt) : List Int := (l.filter fun x => decide ((x.g : Int) = g)).map fun x => serveS T x.p
def passS (T : Tab) (g : Int) : Int := if 0 ≤ g ∧ g < T.groups.length then sums (8 :: passL T g (spots T)) else 0
theorem pass_step {T : Tab} {g : Int} {l : List Spt} {j : Nat} {x : Spt} (h : l[j]? = some x) : passL T g (l.take (j + 1)) = passL T g (l.take j) ++ (if (x.g : Int) = g then [serveS T x.p] else []) := by
  unfold passL
  rw [PlaceM.take_succ h, List.filter_append, List.map_append]
  congr 1
  by_cases e : (x.g : Int) = g
  · simp [e]
  · simp [e]
theorem pass_len (T : Tab) (g : Int) (l : List Spt) : (passL T g l).length ≤ l.length := by
  unfold passL
  rw [List.length_map]
  exact List.length_filter_le _ _
theorem pass_any (T : Tab) (h : Hd) (g : Int) (w : World) (ht : IsTab w h T) (sm : Few T) :
    Calls Try.prog 52 #[.agg (T.cells h).toArray, .int .i64 g] w fun e w' => e = .returned (.int .i64 (passS T g)) ∧ Below w.heap.size w w' := by
  have C := Lib.hid (cells_ok ht)
  have hsz := C.out.size
  have IA : Hid ((Try.prog.info? 32).map (·.size) = some (T.cells h).length) := Lib.hid (by rw [List.size_toArray] at hsz; rw [hsz]; exact infoT)
  have SPC : Hid (∀ W, Below w.heap.size w W → Calls Try.prog 61 #[.agg (T.cells h).toArray] W fun e w' => ∃ s : Sl, e = .returned (s.val (spots T).length) ∧ RowOf 4 Spt.cells w' s (spots T) ∧ Typed w' s ∧ Below W.heap.size W w') := Lib.hid (fun W hb => Spots.spots_typed T h W (ht.below hb) sm)
  have SVC : Hid (∀ p W, Below w.heap.size w W → Calls Try.prog 72 #[.agg (T.cells h).toArray, .int .i64 p] W fun e w' => e = .returned (.int .i64 (serveS T p)) ∧ Below W.heap.size W w') := Lib.hid (fun p W hb => serve_any T h p W (ht.below hb))
  have SL : Hid ((spots T).length ≤ 2000000) := Lib.hid (small_len sm.groups sm.rows)
  have S0 := Lib.hid (St.box (cs := (T.cells h).toArray) ht)
  have HZ : Hid ((w.alloc (.cells (T.cells h).toArray 32)).heap.size = w.heap.size + 1) := Lib.hid (by simp)
  have RS : Hid (passS T g = if 0 ≤ g ∧ g < T.groups.length then sums (8 :: passL T g (spots T)) else 0) := Lib.hid rfl
  generalize passS T g = res at RS ⊢
  obtain ⟨i0, hi, hz0, hz1, hz2⟩ := info_parts info3
  have PS : Hid (∀ j x, (spots T)[j]? = some x → passL T g ((spots T).take (j + 1)) = passL T g ((spots T).take j) ++ (if (x.g : Int) = g then [serveS T x.p] else [])) := Lib.hid (fun j x hx => pass_step hx)
  have PL : Hid (∀ l, (passL T g l).length ≤ l.length) := Lib.hid (pass_len T g)
  generalize spots T = S at RS SPC SL PS
  generalize passL T g = pl at RS PS PL
  clear ht sm
  go_enter Try.func52, Try.ntmps52
  go_upto_region 1 with fail
  generalize w.alloc (.cells (T.cells h).toArray 32) = w1 at S0 HZ ⊢
  have q104 := S0.out.cell C.out.g
  generalize hc : T.cells h = c at *
  clear hsz hc
  generalize T.groups.length = n at *
  obtain ⟨⟨ga, gcap⟩, sd, sr, sb⟩ := h
  have q104' : w1.cell? ⟨w.heap.size, 104, none⟩ = some (.slice ga n gcap) := q104
  clear q104
  by_cases hg0 : g < 0
  · have HF : Hid (0 = res) := Lib.hid (by rw [RS.out, if_neg (by omega)])
    go_wp2
    go_ret
    exact ⟨RefC.ret_int HF.out, S0.out.bel⟩
  by_cases hg1 : (n : Int) ≤ g
  · have HF : Hid (0 = res) := Lib.hid (by rw [RS.out, if_neg (by omega)])
    go_wp2
    go_ret
    exact ⟨RefC.ret_int HF.out, S0.out.bel⟩
  have HR0 : Hid (sums (8 :: pl S) = res) := Lib.hid (by rw [RS.out, if_pos (by omega)])
  clear RS
  go_upto_region 4 with fail
  have hb1 : Below w1.heap.size w1 (w1.alloc (.cells #[.int .i64 8] 3)) := (Below.refl _ _).alloc (Nat.le_refl _) _
  have ho1 : OwnsI w1.heap.size (w1.alloc (.cells #[.int .i64 8] 3)) (.slice (some ⟨w1.heap.size, 0, none⟩) 1 1) [8] := own_one w1 8
  have O1 := Lib.hid ho1
  have B1 := Lib.hid hb1
  clear ho1 hb1 q104' hg0 hg1
  generalize w1.alloc (.cells #[.int .i64 8] 3) = w2 at O1 B1 ⊢
  have S2 := Lib.hid (S0.out.step B1.out)
  have LT2 : Hid (Lies w2 ⟨w.heap.size, 0, none⟩ c) := Lib.hid (by have := Row.lies_of_block S2.out.blk; simpa using this)
  go_wp2_with (refine Row.wpList_load_g 32 _ rfl (by first | rfl | go_simp) ⟨w.heap.size, 0, none⟩ rfl c _ LT2.out Try.underlying32 rfl IA.out ?_)
  refine (SPC.out _ S2.out.bel).mono ?_
  rintro e u1 ⟨⟨sa, scap⟩, rfl, hrow, hty, hb⟩
  rw [show (Sl.val ⟨sa, scap⟩ S.length) = .slice sa S.length scap from rfl]
  have HB1 : Hid (Below w1.heap.size w1 u1) := Lib.hid (B1.out.trans (hb.mono B1.out.size))
  have HR1 := Lib.hid hrow
  have HT1 := Lib.hid hty
  have O2 := Lib.hid (O1.out.below hb)
  have K := hrow.len
  unfold maxLen at K
  clear hrow hty hb B1 O1 S2 LT2 SPC
  go_wp2_with fail
  go_loopw [5, 21] (fun v i wr => ∃ j : Nat, j ≤ S.length ∧ i = .int .i64 j ∧ OwnsI w1.heap.size wr v (8 :: pl (S.take j)) ∧ RowOf 4 Spt.cells wr ⟨sa, scap⟩ S ∧ Typed wr ⟨sa, scap⟩ ∧ Below w1.heap.size w1 wr) (fun _ i _ => S.length - (intOf i).toNat)
  case atStart =>
    refine ⟨0, by omega, rfl, ?_, HR1.out, HT1.out, HB1.out⟩
    have h0 : pl [] = [] := List.eq_nil_of_length_eq_zero (by simpa using PL.out [])
    rw [List.take_zero, h0]
    exact O2.out
  case round =>
    obtain ⟨j, hj, rfl, hown, hrow, hty, hbel⟩ := hrel
    have HO := Lib.hid hown
    have HB := Lib.hid hbel
    have HR := Lib.hid hrow
    have HT := Lib.hid hty
    clear hown hbel hrow hty
    by_cases hlt : j < S.length
    · have hv := List.getElem?_eq_getElem hlt
      generalize S[j] = x at hv
      obtain ⟨y, hy, hc⟩ := HR.out.at hv
      obtain rfl : sa = some y := hy
      have HS := Lib.hid (PS.out j x hv)
      have HC := Lib.hid hc
      have hlen : (8 :: pl (S.take j)).length ≤ 2000001 := by have := PL.out (S.take j); rw [List.length_take] at this; have := SL.out; rw [List.length_cons]; omega
      clear hv hc
      have hwr := HB.out.size
      go_upto_region 7 with (first | (refine Row.wpList_load_g 87 _ rfl (by first | rfl | go_simp) (y.add (j * 4)) rfl x.cells _ HC.out Try.underlying87 rfl infoS ?_) | (refine Row.wpList_store_new rfl 87 _ _ rfl wr _ x.cells.toArray rfl rfl rfl infoS rfl (Spt.one _) ?_))
      have hbn : Below w1.heap.size w1 (wr.alloc (.cells x.cells.toArray 87)) := HB.out.alloc hwr _
      have hbo : Below wr.heap.size wr (wr.alloc (.cells x.cells.toArray 87)) := (Below.refl _ _).alloc (Nat.le_refl _) _
      have hg := Row.lies_of_block (heap_alloc_new wr (.cells x.cells.toArray 87))
      have HL := Lib.hid hg
      have HB2 := Lib.hid hbn
      have HO2 := Lib.hid (HO.out.below hbo)
      have HR2 := Lib.hid (HR.out.below hbo)
      have HT2 := Lib.hid (HT.out.below hbo)
      clear hg hbn hbo HC HB HO HR HT
      generalize wr.alloc (.cells x.cells.toArray 87) = w4 at HL HB2 HO2 HR2 HT2 ⊢
      generalize wr.heap.size = b4 at HL ⊢
      have c0 : w4.cell? ⟨b4, 0, none⟩ = some (I x.g) := by have := HL.out 0 _ rfl; rwa [Tab.add_zero] at this
      have c3 : w4.cell? ⟨b4, 3, none⟩ = some (I x.p) := by have := HL.out 3 _ rfl; rwa [Addr.add_mid] at this
      have S4 := Lib.hid (S0.out.step HB2.out)
      clear HL
      generalize hP1 : 8 :: pl (S.take j) = P1 at HO2 hlen
      have HP1 := Lib.hid hP1
      clear hP1
      by_cases e0 : (x.g : Int) = g
      · have b0 : ((x.g : Int) == g) = true := by simpa using e0
        have HS2 : Hid (8 :: pl (S.take (j + 1)) = P1 ++ [serveS T x.p]) := Lib.hid (by rw [HS.out, if_pos e0, ← HP1.out]; rfl)
        have LT4 : Hid (Lies w4 ⟨w.heap.size, 0, none⟩ c) := Lib.hid (by have := Row.lies_of_block S4.out.blk; simpa using this)
        clear e0
        go_wp2_with (refine Row.wpList_load_g 32 _ rfl (by first | rfl | go_simp) ⟨w.heap.size, 0, none⟩ rfl c _ LT4.out Try.underlying32 rfl IA.out ?_)
        refine (SVC.out x.p _ S4.out.bel).mono ?_
        rintro e w5 ⟨rfl, hb⟩
        have HB5 := Lib.hid (HB2.out.trans (hb.mono HB2.out.size))
        have HO5 := Lib.hid (HO2.out.below hb)
        have HR5 := Lib.hid (HR2.out.below hb)
        have HT5 := Lib.hid (HT2.out.below hb)
        have hown2 : w5.ownsRow w1.heap.size 3 1 u5 P1.length (P1.flatMap (fun n => [I n])) := HO5.out
        have hsz5 := HB5.out.size
        clear hb HB2 HO2 HR2 HT2 S4 LT4 c0 c3
        generalize serveS T x.p = p at HS2 ⊢
        go_wp2_with (at_builtin; refine wpList_append_own _ rfl _ _ 22 rfl w1.heap.size 3 i0 (.int .i64 0) 1 8 Try.underlying22 hi hz0 hz1 hz2 rfl (by decide) _ _ _ rfl (hown2.alloc _) ⟨w5.heap.size, 0, none⟩ 1 1 [.int .i64 p] rfl rfl ?c1 ?c2 ?c3 ?c4 ?c5 ?_)
        case c1 =>
          intro m q hm
          match m, hm with
          | 0, hm => simp at hm; subst hm; simp [Addr.add]
        case c2 => intro q hq; simp at hq; subst hq; rfl
        case c3 => unfold maxLen; omega
        case c4 => omega
        case c5 => simp; omega
        intro v' w6 hown' hgrow hnil'
        have hbo5 : Below w5.heap.size w5 (w5.alloc (.cells #[.int .i64 p] 3)) := (Below.refl _ _).alloc (Nat.le_refl _) _
        have hne := typed_ne (HT5.out.below hbo5) (show OwnsI w1.heap.size (w5.alloc (.cells #[.int .i64 p] 3)) u5 P1 from Owns.below HO5.out hbo5)
        have HB6 : Hid (Below w1.heap.size w1 w6) := Lib.hid ((HB5.out.alloc hsz5 _).grown hgrow (by simp; omega) fun m hm => (show OwnsI w1.heap.size w5 u5 P1 from hown2).blk m hm)
        have HO6 : Hid (OwnsI w1.heap.size w6 v' (P1 ++ [p])) := Lib.hid (Owns.snoc hown')
        have HR6 := Lib.hid (row_grown (HR5.out.below hbo5) hgrow hne)
        have HT6 := Lib.hid (typed_grown (HT5.out.below hbo5) hgrow hne)
        clear hown' hgrow hown2 hnil' hbo5 hne
        go_wp2
        go_roundw
        case rel => exact ⟨j + 1, by omega, by go_num, by rw [HS2.out]; exact HO6.out, HR6.out, HT6.out, HB6.out⟩
        case measure => simp [intOf]; omega
      · have b0 : ((x.g : Int) == g) = false := by simpa using e0
        have HS2 : Hid (8 :: pl (S.take (j + 1)) = P1) := Lib.hid (by rw [HS.out, if_neg e0, List.append_nil, HP1.out])
        clear e0
        go_wp2
        go_roundw
        case rel => exact ⟨j + 1, by omega, by go_num, by rw [HS2.out]; exact HO2.out, HR2.out, HT2.out, HB2.out⟩
        case measure => simp [intOf]; omega
    · have HE : Hid (8 :: pl (S.take j) = 8 :: pl S) := Lib.hid (by rw [List.take_of_length_le (by omega)])
      obtain ⟨⟨sa', sc⟩, hs, hrow⟩ := HO.out.row (enc := fun n => [I n]) (fun _ => rfl)
      rw [HE.out] at hs hrow
      have HR2 := Lib.hid hrow
      have HF : Hid (Below w.heap.size w wr) := Lib.hid (S0.out.bel.trans (HB.out.mono S0.out.bel.size))
      clear hrow HE
      subst hs
      generalize hL : 8 :: pl S = P2 at HR0 HR2 ⊢
      clear hL
      show Code.wp _ _ _ _ _
      rw [show (Sl.val ⟨sa', sc⟩ P2.length) = .slice sa' P2.length sc from rfl]
      go_wp2_with fail
      refine (sum_row sa' sc P2 _ HR2.out).mono ?_
      rintro e w' ⟨rfl, rfl⟩
      rw [HR0.out]
      go_wp2
      go_ret
      exact ⟨rfl, HF.out⟩
end PassS
namespace FreeS
open Go.ChangeShapes Go.WideShapes Go.ChangeAt Go.RowKit
open Tab PlaceM Gath OnS RefC PassS
open RefS (info3 rhas_any)
open May (St infoT)
def upL (T : Tab) (n : Nat) : List Int := (List.range n).map fun i => passS T (i : Nat)
def freeR (T : Tab) (x : Spt) : Int := sums (passS T x.g :: upL T T.groups.length)
def freeS (T : Tab) (p : Int) : Int := match where_ T p with
  | some x => if SetM.has (onS T : Nat) p then freeR T x else 0
  | none => 0
theorem up_succ (T : Tab) (n : Nat) : upL T (n + 1) = upL T n ++ [passS T n] := by
  unfold upL
  rw [List.range_succ, List.map_append]; rfl
theorem up_len (T : Tab) (n : Nat) : (upL T n).length = n := by unfold upL; simp
theorem free_raw (T : Tab) (h : Hd) (p : Int) (g1 k1 i1 p1 : Int) (ok : Bool) (os : Int) (w : World) (ht : IsTab w h T) (sm : Few T)
    (WC : Hid (∀ W, Below w.heap.size w W → Calls Try.prog 34 #[.agg (T.cells h).toArray, .int .i64 p] W fun e w' => e = .returned (.tuple #[.agg #[I g1, I k1, I i1, I p1], .bool ok]) ∧ Below W.heap.size W w'))
    (ON : Hid (∀ W, Below w.heap.size w W → Calls Try.prog 21 #[.agg (T.cells h).toArray] W fun e w' => e = .returned (.int .i64 os) ∧ Below W.heap.size W w')) :
    Calls Try.prog 24 #[.agg (T.cells h).toArray, .int .i64 p] w fun e w' => e = .returned (.int .i64 (if ok = true ∧ SetM.has os p = true then sums (passS T g1 :: upL T T.groups.length) else 0)) ∧ Below w.heap.size w w' := by
  have C := Lib.hid (cells_ok ht)
  have hsz := C.out.size
  have IA : Hid ((Try.prog.info? 32).map (·.size) = some (T.cells h).length) := Lib.hid (by rw [List.size_toArray] at hsz; rw [hsz]; exact infoT)
  have PC : Hid (∀ g W, Below w.heap.size w W → Calls Try.prog 52 #[.agg (T.cells h).toArray, .int .i64 g] W fun e w' => e = .returned (.int .i64 (passS T g)) ∧ Below W.heap.size W w') := Lib.hid (fun g W hb => pass_any T h g W (ht.below hb) sm)
  have KG := sm.groups
  have S0 := Lib.hid (St.box (cs := (T.cells h).toArray) ht)
  obtain ⟨i0, hi, hz0, hz1, hz2⟩ := info_parts info3
  generalize hres : (if ok = true ∧ SetM.has os p = true then sums (passS T g1 :: upL T T.groups.length) else 0) = res
  have RS := Lib.hid hres
  clear hres ht sm
  go_enter Try.func24, Try.ntmps24
  go_upto_region 1 with fail
  generalize w.alloc (.cells (T.cells h).toArray 32) = w1 at S0 ⊢
  have q104 := C.out.g
  generalize hc : T.cells h = c at *
  clear hsz hc
  generalize hn : T.groups.length = n at *
  have HN := Lib.hid hn
  clear hn
  obtain ⟨⟨ga, gcap⟩, sd, sr, sb⟩ := h
  have Q104 : Hid (∀ W, Below w1.heap.size w1 W → W.cell? ⟨w.heap.size, 104, none⟩ = some (.slice ga n gcap)) := Lib.hid (fun W hb => (S0.out.step hb).cell q104)
  have LT : Hid (∀ W, Below w1.heap.size w1 W → Lies W ⟨w.heap.size, 0, none⟩ c) := Lib.hid (fun W hb => by have := Row.lies_of_block (S0.out.step hb).blk; simpa using this)
  have BB : Hid (∀ W, Below w1.heap.size w1 W → Below w.heap.size w W) := Lib.hid (fun W hb => S0.out.bel.trans (hb.mono S0.out.bel.size))
  clear q104
  go_wp2_with (refine Row.wpList_load_g 32 _ rfl (by first | rfl | go_simp) ⟨w.heap.size, 0, none⟩ rfl c _ (LT.out _ (Below.refl _ _)) Try.underlying32 rfl IA.out ?_)
  refine (WC.out _ (BB.out _ (Below.refl _ _))).mono ?_
  rintro e u1 ⟨rfl, hb⟩
  have B1 := Lib.hid hb
  clear hb WC
  go_upto_region 2 with (refine Row.wpList_store_new rfl 87 _ _ rfl u1 #[I 0, I 0, I 0, I 0] #[I g1, I k1, I i1, I p1] rfl rfl rfl infoS rfl (by simp [Value.oneCell']) ?_)
  have hb2 : Below u1.heap.size u1 (u1.alloc (.cells #[I g1, I k1, I i1, I p1] 87)) := (Below.refl _ _).alloc (Nat.le_refl _) _
  have hg := heap_alloc_new u1 (.cells #[I g1, I k1, I i1, I p1] 87)
  have B2 := Lib.hid (B1.out.trans (hb2.mono B1.out.size))
  have HG := Lib.hid hg
  clear hb2 hg B1
  generalize u1.alloc (.cells #[I g1, I k1, I i1, I p1] 87) = u2 at B2 HG ⊢
  generalize u1.heap.size = b4 at HG ⊢
  cases ok with
  | false =>
    have HF : Hid (0 = res) := Lib.hid (by rw [← RS.out]; simp)
    have HB := Lib.hid (BB.out _ B2.out)
    go_wp2
    go_ret
    exact ⟨RefC.ret_int HF.out, HB.out⟩
  | true =>
  go_wp2_with (refine Row.wpList_load_g 32 _ rfl (by first | rfl | go_simp) ⟨w.heap.size, 0, none⟩ rfl c _ (LT.out _ B2.out) Try.underlying32 rfl IA.out ?_)
  refine (ON.out _ (BB.out _ B2.out)).mono ?_
  rintro e u3 ⟨rfl, hb⟩
  have B3 := Lib.hid (B2.out.trans (hb.mono B2.out.size))
  have HG3 : Hid (u3.heap[b4]? = _) := Lib.hid ((hb.block _ (Array.getElem?_eq_some_iff.1 HG.out).1).trans HG.out)
  clear hb B2 HG ON
  go_wp2_with fail
  refine (rhas_any os p _).mono ?_
  rintro e w' ⟨rfl, rfl⟩
  by_cases hh : SetM.has os p = true
  rotate_left
  · have h2 : SetM.has os p = false := by simpa using hh
    have HF : Hid (0 = res) := Lib.hid (by rw [← RS.out, h2]; simp)
    have HB := Lib.hid (BB.out _ B3.out)
    rw [h2]
    clear hh h2
    go_wp2
    go_ret
    exact ⟨RefC.ret_int HF.out, HB.out⟩
  have HR0 : Hid (sums (passS T g1 :: upL T n) = res) := Lib.hid (by rw [← RS.out, hh]; simp)
  rw [hh]
  clear hh RS
  have c0 : u3.cell? ⟨b4, 0, none⟩ = some (I g1) := by rw [cell_of_row _ _ _ _ _ _ HG3.out]; rfl
  go_wp2_with (refine Row.wpList_load_g 32 _ rfl (by first | rfl | go_simp) ⟨w.heap.size, 0, none⟩ rfl c _ (LT.out _ B3.out) Try.underlying32 rfl IA.out ?_)
  refine (PC.out g1 _ (BB.out _ B3.out)).mono ?_
  rintro e u4 ⟨rfl, hb⟩
  have B4 := Lib.hid (B3.out.trans (hb.mono B3.out.size))
  clear hb B3 HG3 c0
  generalize hp1 : passS T g1 = x1 at HR0 ⊢
  clear hp1
  go_wp2_with fail
  have hb5 : Below u4.heap.size u4 (u4.alloc (.cells #[.int .i64 x1] 3)) := (Below.refl _ _).alloc (Nat.le_refl _) _
  have ho := Owns.mono (own_one u4 x1) B4.out.size
  have O5 : Hid (OwnsI w1.heap.size (u4.alloc (.cells #[.int .i64 x1] 3)) (.slice (some ⟨u4.heap.size, 0, none⟩) 1 1) [x1]) := Lib.hid ho
  have B5 := Lib.hid (B4.out.trans (hb5.mono B4.out.size))
  clear hb5 ho B4
  generalize u4.alloc (.cells #[.int .i64 x1] 3) = u5 at O5 B5 ⊢
  generalize u4.heap.size = b5 at O5 ⊢
  have US : Hid (∀ q, upL T (q + 1) = upL T q ++ [passS T q]) := Lib.hid (up_succ T)
  have UL : Hid (∀ q, (upL T q).length = q) := Lib.hid (up_len T)
  have U0 : Hid (upL T 0 = []) := Lib.hid rfl
  generalize upL T = ul at HR0 US UL U0
  go_loopw [7, 8] (fun v i wr => ∃ q : Nat, q ≤ n ∧ i = .int .i64 q ∧ OwnsI w1.heap.size wr v (x1 :: ul q) ∧ Below w1.heap.size w1 wr) (fun _ i _ => n - (intOf i).toNat)
  case atStart => exact ⟨0, by omega, rfl, by rw [U0.out]; exact O5.out, B5.out⟩
  case round =>
    obtain ⟨q, hq, rfl, hown, hbel⟩ := hrel
    have HO := Lib.hid hown
    have HB := Lib.hid hbel
    clear hown hbel
    have q104 := Q104.out _ HB.out
    by_cases hlt : q < n
    · have hlen : (x1 :: ul q).length ≤ 1001 := by rw [List.length_cons, UL.out]; omega
      have HS := Lib.hid (US.out q)
      generalize hP1 : x1 :: ul q = P1 at HO hlen
      have HP1 := Lib.hid hP1
      clear hP1
      go_wp2_with (refine Row.wpList_load_g 32 _ rfl (by first | rfl | go_simp) ⟨w.heap.size, 0, none⟩ rfl c _ (LT.out _ HB.out) Try.underlying32 rfl IA.out ?_)
      refine (PC.out q _ (BB.out _ HB.out)).mono ?_
      rintro e w5 ⟨rfl, hb⟩
      have HB5 := Lib.hid (HB.out.trans (hb.mono HB.out.size))
      have HO5 := Lib.hid (HO.out.below hb)
      have HS2 : Hid (x1 :: ul (q + 1) = P1 ++ [passS T q]) := Lib.hid (by rw [HS.out, ← HP1.out]; rfl)
      have hown2 : w5.ownsRow w1.heap.size 3 1 u7 P1.length (P1.flatMap (fun n => [I n])) := HO5.out
      have hsz5 := HB5.out.size
      clear hb HB HO q104
      generalize passS T q = x2 at HS2 ⊢
      go_wp2_with (at_builtin; refine wpList_append_own _ rfl _ _ 22 rfl w1.heap.size 3 i0 (.int .i64 0) 1 8 Try.underlying22 hi hz0 hz1 hz2 rfl (by decide) _ _ _ rfl (hown2.alloc _) ⟨w5.heap.size, 0, none⟩ 1 1 [.int .i64 x2] rfl rfl ?c1 ?c2 ?c3 ?c4 ?c5 ?_)
      case c1 =>
        intro m q hm
        match m, hm with
        | 0, hm => simp at hm; subst hm; simp [Addr.add]
      case c2 => intro q hq; simp at hq; subst hq; rfl
      case c3 => unfold maxLen; omega
      case c4 => omega
      case c5 => simp; omega
      intro v' w6 hown' hgrow hnil'
      have HB6 : Hid (Below w1.heap.size w1 w6) := Lib.hid ((HB5.out.alloc hsz5 _).grown hgrow (by simp; omega) fun m hm => (show OwnsI w1.heap.size w5 u7 P1 from hown2).blk m hm)
      have HO6 : Hid (OwnsI w1.heap.size w6 v' (P1 ++ [x2])) := Lib.hid (Owns.snoc hown')
      clear hown' hgrow hown2 hnil'
      go_wp2
      go_roundw
      case rel => exact ⟨q + 1, by omega, by go_num, by rw [HS2.out]; exact HO6.out, HB6.out⟩
      case measure => simp [intOf]; omega
    · have HE : Hid (q = n) := Lib.hid (by omega)
      obtain ⟨⟨sa', sc⟩, hs, hrow⟩ := HO.out.row (enc := fun n => [I n]) (fun _ => rfl)
      rw [HE.out] at hs hrow
      have HR2 := Lib.hid hrow
      have HF := Lib.hid (BB.out _ HB.out)
      clear hrow HE
      subst hs
      generalize hL : x1 :: ul n = P2 at HR0 HR2 ⊢
      clear hL
      show Code.wp _ _ _ _ _
      rw [show (Sl.val ⟨sa', sc⟩ P2.length) = .slice sa' P2.length sc from rfl]
      go_wp2_with fail
      refine (sum_row sa' sc P2 _ HR2.out).mono ?_
      rintro e w' ⟨rfl, rfl⟩
      rw [HR0.out]
      go_wp2
      go_ret
      exact ⟨rfl, HF.out⟩
theorem free_any (T : Tab) (h : Hd) (p : Int) (w : World) (ht : IsTab w h T) (sm : Few T) :
    Calls Try.prog 24 #[.agg (T.cells h).toArray, .int .i64 p] w fun e w' => e = .returned (.int .i64 (freeS T p)) ∧ Below w.heap.size w w' := by
  have h2 := fun W (hb : Below w.heap.size w W) => Where.where_any T h p W (ht.below hb) sm
  have ho := fun W (hb : Below w.heap.size w W) => on_any T h W (ht.below hb)
  have hf : freeS T p = match where_ T p with
    | some x => if SetM.has (onS T : Nat) p then freeR T x else 0
    | none => 0 := rfl
  rw [hf]
  cases hw : where_ T p with
  | none =>
    rw [hw] at h2
    have := free_raw T h p 0 0 0 0 false (onS T : Nat) w ht sm (Lib.hid h2) (Lib.hid ho)
    simpa using this
  | some x =>
    rw [hw] at h2
    have := free_raw T h p x.g x.k x.i x.p true (onS T : Nat) w ht sm (Lib.hid h2) (Lib.hid ho)
    simpa [freeR] using this
end FreeS
namespace WaitS
open Go.ChangeShapes Go.WideShapes Go.ChangeAt Go.RowKit
open Tab Gath OnS RefC FreeS OverS
open May (St infoT row_new)
def waitR (T : Tab) (f : Int) : Int := sums [mul (sums [T.share, 1]) (sums [overS T, f, 2]), T.share]
def waitS (T : Tab) (p : Int) : Int := if freeS T p = 0 ∨ T.rails.length = 0 then freeS T p else waitR T (freeS T p)
theorem wait_any (T : Tab) (h : Hd) (p : Int) (w : World) (ht : IsTab w h T) (sm : PlaceM.Few T) (few : T.rails.length ≤ 1000) :
    Calls Try.prog 30 #[.agg (T.cells h).toArray, .int .i64 p] w fun e w' => e = .returned (.int .i64 (waitS T p)) ∧ Below w.heap.size w w' := by
  have C := Lib.hid (cells_ok ht)
  have hsz := C.out.size
  have IA : Hid ((Try.prog.info? 32).map (·.size) = some (T.cells h).length) := Lib.hid (by rw [List.size_toArray] at hsz; rw [hsz]; exact infoT)
  have FC : Hid (∀ W, Below w.heap.size w W → Calls Try.prog 24 #[.agg (T.cells h).toArray, .int .i64 p] W fun e w' => e = .returned (.int .i64 (freeS T p)) ∧ Below W.heap.size W w') := Lib.hid (fun W hb => free_any T h p W (ht.below hb) sm)
  have OC : Hid (∀ W, Below w.heap.size w W → Calls Try.prog 57 #[.agg (T.cells h).toArray] W fun e w' => e = .returned (.int .i64 (overS T)) ∧ Below W.heap.size W w') := Lib.hid (fun W hb => over_any T h W (ht.below hb) few)
  have S0 := Lib.hid (St.box (cs := (T.cells h).toArray) ht)
  have RS : Hid (waitS T p = if freeS T p = 0 ∨ T.rails.length = 0 then freeS T p else sums [mul (sums [T.share, 1]) (sums [overS T, freeS T p, 2]), T.share]) := Lib.hid rfl
  generalize waitS T p = res at RS ⊢
  generalize freeS T p = f at RS FC
  clear ht sm
  go_enter Try.func30, Try.ntmps30
  go_upto_region 1 with fail
  generalize w.alloc (.cells (T.cells h).toArray 32) = w1 at S0 ⊢
  have q114 := C.out.r
  have q130 := C.out.share
  generalize hc : T.cells h = c at *
  clear hsz hc
  generalize T.rails.length = n at *
  obtain ⟨sg, sd, ⟨ra, rcap⟩, sb⟩ := h
  have Q114 : Hid (∀ W, Below w1.heap.size w1 W → W.cell? ⟨w.heap.size, 114, none⟩ = some (.slice ra n rcap)) := Lib.hid (fun W hb => (S0.out.step hb).cell q114)
  have Q130 : Hid (∀ W, Below w1.heap.size w1 W → W.cell? ⟨w.heap.size, 130, none⟩ = some (I T.share)) := Lib.hid (fun W hb => (S0.out.step hb).cell q130)
  have LT : Hid (∀ W, Below w1.heap.size w1 W → Lies W ⟨w.heap.size, 0, none⟩ c) := Lib.hid (fun W hb => by have := Row.lies_of_block (S0.out.step hb).blk; simpa using this)
  have BB : Hid (∀ W, Below w1.heap.size w1 W → Below w.heap.size w W) := Lib.hid (fun W hb => S0.out.bel.trans (hb.mono S0.out.bel.size))
  clear q114 q130
  go_wp2_with (refine Row.wpList_load_g 32 _ rfl (by first | rfl | go_simp) ⟨w.heap.size, 0, none⟩ rfl c _ (LT.out _ (Below.refl _ _)) Try.underlying32 rfl IA.out ?_)
  refine (FC.out _ (BB.out _ (Below.refl _ _))).mono ?_
  rintro e wr ⟨rfl, hb⟩
  have B2 := Lib.hid hb
  clear hb FC
  have q114 := Q114.out _ B2.out
  generalize T.share = sh at Q130 RS
  by_cases hf0 : f = 0
  · have HF : Hid (0 = res) := Lib.hid (by rw [RS.out, if_pos (.inl hf0), hf0])
    have HB := Lib.hid (BB.out _ B2.out)
    subst hf0
    go_wp2
    go_ret
    exact ⟨RefC.ret_int HF.out, HB.out⟩
  have hfb : (f == 0) = false := by simpa using hf0
  by_cases hn0 : n = 0
  · have HF : Hid (f = res) := Lib.hid (by rw [RS.out, if_pos (.inr hn0)])
    have HB := Lib.hid (BB.out _ B2.out)
    subst hn0
    clear hf0
    go_wp2
    go_ret
    exact ⟨RefC.ret_int HF.out, HB.out⟩
  have hnb : ((n : Int) == 0) = false := by rw [beq_eq_false_iff_ne]; omega
  have HR0 : Hid (sums [mul (sums [sh, 1]) (sums [overS T, f, 2]), sh] = res) := Lib.hid (by rw [RS.out, if_neg (fun e => e.elim hf0 hn0)])
  clear hf0 hn0 RS
  have CQ : Hid (∀ w', Below wr.heap.size wr w' → w'.cell? ⟨w.heap.size, 130, none⟩ = some (I sh)) := Lib.hid (fun w' hb => Q130.out _ (B2.out.trans (hb.mono B2.out.size)))
  have LS : Hid (∀ w', Below wr.heap.size wr w' → Lies w' ⟨w.heap.size, 0, none⟩ c) := Lib.hid (fun w' hb => LT.out _ (B2.out.trans (hb.mono B2.out.size)))
  have SB : Hid (∀ w', Below wr.heap.size wr w' → Below w.heap.size w w') := Lib.hid (fun w' hb => BB.out _ (B2.out.trans (hb.mono B2.out.size)))
  go_upto_region 4 with fail
  clear q114 hfb hnb
  refine wp_region_held (S := fun w' => Below wr.heap.size wr w') (by kernel_rfl) ?_
  have hS : Below wr.heap.size wr { wr with drawn := wr.drawn + 1 } := (Below.refl _ _).drew
  have hv : wr.heap.size ≤ ({ wr with drawn := wr.drawn + 1 } : World).heap.size := Nat.le_refl _
  generalize ({ wr with drawn := wr.drawn + 1 } : World) = v at hS hv ⊢
  refine Held.take (i := 0) (some 18) rfl (v := ?_) rfl (by kernel_rfl) (by kernel_rfl) (by kernel_rfl) (fun _ _ _ h => h) (Or.inl ⟨by rfl, ?_⟩) hS ?_
  rotate_left
  · intro w' hw'
    have e1 := CQ.out w' hw'
    go_simp
    try with_reducible rfl
  (try dsimp only [Act.put]); (try simp only [List.setIfInBounds_toArray, List.set_cons_zero, List.set_cons_succ])
  refine Held.take (i := 1) (some 19) rfl (v := ?_) rfl (by kernel_rfl) (by kernel_rfl) (by kernel_rfl) (fun _ _ _ h => h) (Or.inl ⟨by rfl, ?_⟩) hS ?_
  rotate_left
  · intro w' hw'
    have e1 := CQ.out w' hw'
    go_simp
    try with_reducible rfl
  (try dsimp only [Act.put]); (try simp only [List.setIfInBounds_toArray, List.set_cons_zero, List.set_cons_succ])
  refine Held.take_load (i := 4) (some 22) rfl 32 _ ⟨w.heap.size, 0, none⟩ c _ rfl rfl (by kernel_rfl) (by kernel_rfl) (by kernel_rfl) (fun _ _ _ h => h) (by rfl) hS rfl (fun w' hw' => LS.out w' hw') Try.underlying32 rfl IA.out ?_
  (try dsimp only [Act.put]); (try simp only [List.setIfInBounds_toArray, List.set_cons_zero, List.set_cons_succ])
  refine Held.take (i := 6) (some 24) rfl (v := ?_) rfl (by kernel_rfl) (by kernel_rfl) (by kernel_rfl) (fun _ _ _ h => h) (Or.inl ⟨by rfl, ?_⟩) hS ?_
  rotate_left
  · intro w' hw'
    go_simp
    try with_reducible rfl
  (try dsimp only [Act.put]); (try simp only [List.setIfInBounds_toArray, List.set_cons_zero, List.set_cons_succ])
  refine Held.take (i := 10) (some 28) rfl (v := ?_) rfl (by kernel_rfl) (by kernel_rfl) (by kernel_rfl) (fun _ _ _ h => h) (Or.inl ⟨by rfl, ?_⟩) hS ?_
  rotate_left
  · intro w' hw'
    have e1 := CQ.out w' hw'
    go_simp
    try with_reducible rfl
  (try dsimp only [Act.put]); (try simp only [List.setIfInBounds_toArray, List.set_cons_zero, List.set_cons_succ])
  refine Held.take (i := 11) (some 29) rfl (v := ?_) rfl (by kernel_rfl) (by kernel_rfl) (by kernel_rfl) (fun _ _ _ h => h) (Or.inl ⟨by rfl, ?_⟩) hS ?_
  rotate_left
  · intro w' hw'
    have e1 := CQ.out w' hw'
    go_simp
    try with_reducible rfl
  (try dsimp only [Act.put]); (try simp only [List.setIfInBounds_toArray, List.set_cons_zero, List.set_cons_succ])
  refine wpAnyH_ready (rs := [2]) (by kernel_rfl) (by simp) (AllReadyH.cons rfl (fun K hK => ?_) AllReadyH.nil)
  go_simp
  have r1 : Hid (IntRow (v.alloc (.cells #[I sh, I 1] 3)) ⟨some ⟨v.heap.size, 0, none⟩, 2⟩ [sh, 1]) := Lib.hid (May.row_new v 3 [sh, 1] 2 rfl (by decide) _ rfl)
  have hbw : Below v.heap.size v (v.alloc (.cells #[I sh, I 1] 3)) := (Below.refl _ _).alloc (Nat.le_refl _) _
  have hS2 := hS.alloc hv (.cells #[I sh, I 1] 3)
  replace hv := Nat.le_trans hv hbw.size
  clear hbw hS
  generalize hb0 : v.heap.size = b1 at r1 ⊢
  clear hb0
  generalize World.alloc v (.cells #[I sh, I 1] 3) = x2 at r1 hS2 hv ⊢
  refine hK.out _ _ hS2 (fun hS => ?_)
  clear hK K hS2
  refine wpAnyH_ready (rs := [3]) (by kernel_rfl) (by simp) (AllReadyH.cons rfl (fun K hK => ?_) AllReadyH.nil)
  go_simp
  refine (Clear.sum_len (some ⟨b1, 0, none⟩) 2 [sh, 1] 2 rfl x2 r1.out).mono ?_
  rintro e w' ⟨rfl, hq⟩
  subst w'
  clear r1
  generalize sums [sh, 1] = z1 at HR0 ⊢
  go_simp
  refine hK.out _ _ hS (fun hS => ?_)
  clear hK K
  refine wpAnyH_ready (rs := [5]) (by kernel_rfl) (by simp) (AllReadyH.cons rfl (fun K hK => ?_) AllReadyH.nil)
  go_simp
  refine (OC.out x2 (SB.out x2 hS)).mono ?_
  rintro e x3 ⟨rfl, hb⟩
  generalize overS T = ov at HR0 ⊢
  have hS2 := Below.trans hS (hb.mono hv)
  replace hv := Nat.le_trans hv hb.size
  clear hb hS
  go_simp
  refine hK.out _ _ hS2 (fun hS => ?_)
  clear hK K hS2
  refine wpAnyH_ready (rs := [7]) (by kernel_rfl) (by simp) (AllReadyH.cons rfl (fun K hK => ?_) AllReadyH.nil)
  go_simp
  have r2 : Hid (IntRow (x3.alloc (.cells #[I ov, I f, I 2] 3)) ⟨some ⟨x3.heap.size, 0, none⟩, 3⟩ [ov, f, 2]) := Lib.hid (May.row_new x3 3 [ov, f, 2] 3 rfl (by decide) _ rfl)
  have hbw : Below x3.heap.size x3 (x3.alloc (.cells #[I ov, I f, I 2] 3)) := (Below.refl _ _).alloc (Nat.le_refl _) _
  have hS2 := hS.alloc hv (.cells #[I ov, I f, I 2] 3)
  replace hv := Nat.le_trans hv hbw.size
  clear hbw hS
  generalize hb0 : x3.heap.size = b4 at r2 ⊢
  clear hb0
  generalize World.alloc x3 (.cells #[I ov, I f, I 2] 3) = x5 at r2 hS2 hv ⊢
  refine hK.out _ _ hS2 (fun hS => ?_)
  clear hK K hS2
  refine wpAnyH_ready (rs := [8]) (by kernel_rfl) (by simp) (AllReadyH.cons rfl (fun K hK => ?_) AllReadyH.nil)
  go_simp
  refine (Clear.sum_len (some ⟨b4, 0, none⟩) 3 [ov, f, 2] 3 rfl x5 r2.out).mono ?_
  rintro e w' ⟨rfl, hq⟩
  subst w'
  clear r2
  generalize sums [ov, f, 2] = z2 at HR0 ⊢
  go_simp
  refine hK.out _ _ hS (fun hS => ?_)
  clear hK K
  refine wpAnyH_ready (rs := [9]) (by kernel_rfl) (by simp) (AllReadyH.cons rfl (fun K hK => ?_) AllReadyH.nil)
  go_simp
  refine (rmul_any z1 z2 x5).mono ?_
  rintro e w' ⟨rfl, hq⟩
  subst w'
  generalize mul z1 z2 = z3 at HR0 ⊢
  go_simp
  refine hK.out _ _ hS (fun hS => ?_)
  clear hK K
  refine wpAnyH_ready (rs := [12]) (by kernel_rfl) (by simp) (AllReadyH.cons rfl (fun K hK => ?_) AllReadyH.nil)
  go_simp
  have r3 : Hid (IntRow (x5.alloc (.cells #[I z3, I sh] 3)) ⟨some ⟨x5.heap.size, 0, none⟩, 2⟩ [z3, sh]) := Lib.hid (May.row_new x5 3 [z3, sh] 2 rfl (by decide) _ rfl)
  have hbw : Below x5.heap.size x5 (x5.alloc (.cells #[I z3, I sh] 3)) := (Below.refl _ _).alloc (Nat.le_refl _) _
  have hS2 := hS.alloc hv (.cells #[I z3, I sh] 3)
  replace hv := Nat.le_trans hv hbw.size
  clear hbw hS
  generalize hb0 : x5.heap.size = b6 at r3 ⊢
  clear hb0
  generalize World.alloc x5 (.cells #[I z3, I sh] 3) = x7 at r3 hS2 hv ⊢
  refine hK.out _ _ hS2 (fun hS => ?_)
  clear hK K hS2
  refine wpAnyH_ready (rs := [13]) (by kernel_rfl) (by simp) (AllReadyH.cons rfl (fun K hK => ?_) AllReadyH.nil)
  go_simp
  refine (Clear.sum_len (some ⟨b6, 0, none⟩) 2 [z3, sh] 2 rfl x7 r3.out).mono ?_
  rintro e w' ⟨rfl, hq⟩
  subst w'
  rw [HR0.out]
  go_simp
  refine hK.out _ _ hS (fun hS => ?_)
  clear hK K
  refine Held.take (i := 14) (some 4) rfl (v := ?_) rfl (by kernel_rfl) (by kernel_rfl) (by kernel_rfl) (fun _ _ _ h => h) (Or.inl ⟨by rfl, ?_⟩) hS ?_
  rotate_left
  · intro w' hw'
    go_simp
    try with_reducible rfl
  (try dsimp only [Act.put]); (try simp only [List.setIfInBounds_toArray, List.set_cons_zero, List.set_cons_succ])
  refine wpAnyH_done (by kernel_rfl) ?_ _
  have HF := Lib.hid (SB.out _ hS)
  clear hS
  go_wp2
  go_ret
  exact ⟨rfl, HF.out⟩
end WaitS
end Go.Proofs.Ytjgpljnbeolapaa
