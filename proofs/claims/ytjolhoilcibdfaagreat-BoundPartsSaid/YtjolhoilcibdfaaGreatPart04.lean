/- 5 texts in one file, in build order. -/
import Derived.Test.YtjolhoilcibdfaaGreatRows
import Derived.Test.YtjolhoilcibdfaaGreatPart03
import Derived.Test.YtjolhoilcibdfaaGreatPart01
import Derived.Great.BuildSlice
import Derived.Test.YtjolhoilcibdfaaGreatPart02
import Derived.Laws.ResultCell
import Derived.Laws.Rows
import Derived.Deep.Cut
set_option linter.unusedVariables false
set_option linter.unusedSimpArgs false
set_option linter.unusedSectionVars false
/- The contract of the document's Over. -/
namespace Go.Proofs.YtjolhoilcibdfaaGreat.OverS
open Go.ChangeShapes Go.WideShapes Go.ChangeAt Go.RowKit
open Tab Gath RefS OnS RefC Clear EntryS
open May (St phases_in infoP infoT infoR row_new)
set_option linter.unusedVariables false
set_option linter.unusedSimpArgs false
def ovE (T : Tab) (k : Nat) : Int := sums [entryS T k, (T.rails.getD k default).stay]
def ovL (T : Tab) (n : Nat) : List Int := (List.range n).map (ovE T)
def ovM (T : Tab) (l : List Int) : List Int := l.flatMap fun p => [cap (phAt T p).min, sums [(phAt T p).walk, (phAt T p).blinks]]
def overR (T : Tab) : Int := sums [mosts (ovL T T.rails.length), mosts (ovM T (SetM.list (onS T : Nat))), clearS T, T.revert, 30]
def overS (T : Tab) : Int := if T.rails.length = 0 then 0 else overR T
theorem ov_succ (T : Tab) (n : Nat) : ovL T (n + 1) = ovL T n ++ [ovE T n] := by
  unfold ovL
  rw [List.range_succ, List.map_append]; rfl
theorem ov_len (T : Tab) (n : Nat) : (ovL T n).length = n := by unfold ovL; simp
theorem ovM_len (T : Tab) (l : List Int) : (ovM T l).length = l.length * 2 := by
  unfold ovM
  induction l with
  | nil => rfl
  | cons p l ih => rw [List.flatMap_cons, List.length_append, ih]; simp; omega
theorem own_snoc2 {B : Nat} {w : World} {v' : Value} {l : List Int} {a b : Int} (h : w.ownsRow B 3 1 v' (l.length + 2) (l.flatMap (fun n => [I n]) ++ [I a, I b])) : OwnsI B w v' (l ++ [a, b]) := by
  unfold OwnsI Gath.Owns
  rw [List.length_append, List.flatMap_append]
  exact h
theorem ovM_snoc (T : Tab) (l : List Int) (p : Int) : ovM T (l ++ [p]) = ovM T l ++ [cap (phAt T p).min, sums [(phAt T p).walk, (phAt T p).blinks]] := by
  unfold ovM
  rw [List.flatMap_append]; simp
set_option maxRecDepth 100000 in
set_option maxHeartbeats 8000000 in
theorem over_any (T : Tab) (h : Hd) (w : World) (ht : IsTab w h T) (few : T.rails.length ≤ 1000) :
    Calls Tryz.prog 34 #[.agg (T.cells h).toArray] w fun e w' => e = .returned (.int .i64 (overS T)) ∧ Below w.heap.size w w' := by
  have C := Lib.hid (cells_ok ht)
  have hsz := C.out.size
  have IA : Hid ((Tryz.prog.info? 32).map (·.size) = some (T.cells h).length) := Lib.hid (by rw [List.size_toArray] at hsz; rw [hsz]; exact infoT)
  have EC : Hid (∀ (k : Nat) W, Below w.heap.size w W → Calls Tryz.prog 32 #[.agg (T.cells h).toArray, .int .i64 k] W fun e w' => e = .returned (.int .i64 (entryS T k)) ∧ Below W.heap.size W w') := Lib.hid (fun k W hb => entry_any T h k W (ht.below hb))
  have ON : Hid (∀ W, Below w.heap.size w W → Calls Tryz.prog 22 #[.agg (T.cells h).toArray] W fun e w' => e = .returned (.int .i64 (onS T : Nat)) ∧ Below W.heap.size W w') := Lib.hid (fun W hb => on_any T h W (ht.below hb))
  have CC : Hid (∀ W, Below w.heap.size w W → Calls Tryz.prog 66 #[.agg (T.cells h).toArray] W fun e w' => e = .returned (.int .i64 (clearS T)) ∧ Below W.heap.size W w') := Lib.hid (fun W hb => clear_any T h W (ht.below hb))
  have L8 := Lib.hid ht.ph
  have RL := Lib.hid ht.rails
  have S0 := Lib.hid (St.box (cs := (T.cells h).toArray) ht)
  have HZ : Hid ((w.alloc (.cells (T.cells h).toArray 32)).heap.size = w.heap.size + 1) := Lib.hid (by simp)
  have RS : Hid (overS T = if T.rails.length = 0 then 0 else overR T) := Lib.hid rfl
  have RR : Hid (overR T = sums [mosts (ovL T T.rails.length), mosts (ovM T (SetM.list (onS T : Nat))), clearS T, T.revert, 30]) := Lib.hid rfl
  generalize overS T = res at RS ⊢
  generalize ((onS T : Nat) : Int) = os at RR ON
  obtain ⟨i0, hi, hz0, hz1, hz2⟩ := info_parts info3
  clear ht
  go_enter Tryz.func34, Tryz.ntmps34
  go_upto_region 1 with fail
  generalize w.alloc (.cells (T.cells h).toArray 32) = w1 at S0 HZ ⊢
  have q114 := C.out.r
  have q119 := C.out.revert
  generalize hc : T.cells h = c at *
  clear hsz hc
  generalize hn : T.rails.length = n at *
  have HN := Lib.hid hn
  clear hn
  obtain ⟨sg, sd, ⟨ra, rcap⟩, sb⟩ := h
  have Q114 : Hid (∀ W, Below w1.heap.size w1 W → W.cell? ⟨w.heap.size, 114, none⟩ = some (.slice ra n rcap)) := Lib.hid (fun W hb => (S0.out.step hb).cell q114)
  have Q119 : Hid (∀ W, Below w1.heap.size w1 W → W.cell? ⟨w.heap.size, 119, none⟩ = some (I T.revert)) := Lib.hid (fun W hb => (S0.out.step hb).cell q119)
  have LT : Hid (∀ W, Below w1.heap.size w1 W → Lies W ⟨w.heap.size, 0, none⟩ c) := Lib.hid (fun W hb => by have := Row.lies_of_block (S0.out.step hb).blk; simpa using this)
  have BB : Hid (∀ W, Below w1.heap.size w1 W → Below w.heap.size w W) := Lib.hid (fun W hb => S0.out.bel.trans (hb.mono S0.out.bel.size))
  clear q114 q119
  have q114 := Q114.out _ (Below.refl _ _)
  by_cases hn0 : n = 0
  · have HF : Hid (0 = res) := Lib.hid (by rw [RS.out, if_pos hn0])
    have HB := Lib.hid S0.out.bel
    subst hn0
    go_wp2
    go_ret
    exact ⟨RefC.ret_int HF.out, HB.out⟩
  have hnb : ((n : Int) == 0) = false := by
    rw [beq_eq_false_iff_ne]; omega
  have HR0 : Hid (sums [mosts (ovL T n), mosts (ovM T (SetM.list os)), clearS T, T.revert, 30] = res) := Lib.hid (by rw [RS.out, if_neg hn0, RR.out])
  clear RS RR
  have NZ := Lib.hid hn0
  clear hn0
  go_upto_region 4 with fail
  clear q114 hnb
  have US : Hid (∀ q, ovL T (q + 1) = ovL T q ++ [ovE T q]) := Lib.hid (ov_succ T)
  have UL : Hid (∀ q, (ovL T q).length = q) := Lib.hid (ov_len T)
  have U0 : Hid (ovL T 0 = []) := Lib.hid rfl
  have UE : Hid (∀ q, ovE T q = sums [entryS T q, (T.rails.getD q default).stay]) := Lib.hid (fun q => rfl)
  generalize ovL T = ul at HR0 US UL U0
  generalize ovE T = ue at US UE
  go_wp2_with fail
  go_loopw [3, 5] (fun v i wr => ∃ q : Nat, q ≤ n ∧ i = .int .i64 q ∧ OwnsI w1.heap.size wr v (ul q) ∧ Below w1.heap.size w1 wr) (fun _ i _ => n - (intOf i).toNat)
  case atStart => exact ⟨0, by omega, rfl, by rw [U0.out]; exact Owns.nil, Below.refl _ _⟩
  case round =>
    obtain ⟨q, hq, rfl, hown, hbel⟩ := hrel
    have HO := Lib.hid hown
    have HB := Lib.hid hbel
    clear hown hbel
    have q114 := Q114.out _ HB.out
    by_cases hlt : q < n
    · have hv0 : T.rails[q]? = some (T.rails.getD q default) := by
        rw [List.getD_eq_getElem?_getD, List.getElem?_eq_getElem (by rw [HN.out]; exact hlt)]; rfl
      have HS : Hid (ul (q + 1) = ul q ++ [sums [entryS T q, (T.rails.getD q default).stay]]) := Lib.hid (by rw [US.out, UE.out])
      generalize T.rails.getD q default = u at hv0 HS
      obtain ⟨y, hy, hcc⟩ := RL.out.at hv0
      obtain rfl : ra = some y := hy
      have d8 : w.cell? ⟨(y.add (q * 11)).block, (y.add (q * 11)).off + 8, none⟩ = some (I u.stay) := by have := hcc 8 _ rfl; simpa [Addr.add] using this
      have hlb : (⟨(y.add (q * 11)).block, (y.add (q * 11)).off + 8, none⟩ : Addr).block < w.heap.size := World.block_lt_of_cell? w _ d8
      have CF : Hid (∀ w', Below w1.heap.size wr w' → w'.cell? ⟨(y.add (q * 11)).block, (y.add (q * 11)).off + 8, none⟩ = some (I u.stay)) := Lib.hid (fun w' hb => ((BB.out _ (HB.out.trans hb)).cell hlb).trans d8)
      have CQ : Hid (∀ w', Below w1.heap.size wr w' → w'.cell? ⟨w.heap.size, 114, none⟩ = some (.slice (some y) n rcap)) := Lib.hid (fun w' hb => Q114.out _ (HB.out.trans hb))
      have LS : Hid (∀ w', Below w1.heap.size wr w' → Lies w' ⟨w.heap.size, 0, none⟩ c) := Lib.hid (fun w' hb => LT.out _ (HB.out.trans hb))
      have SB : Hid (∀ w', Below w1.heap.size wr w' → Below w.heap.size w w') := Lib.hid (fun w' hb => BB.out _ (HB.out.trans hb))
      have hwr := HB.out.size
      have hlen : (ul q).length ≤ 1000 := by rw [UL.out]; omega
      generalize ul q = P1 at HO HS hlen
      have HS2 := HS
      clear hv0 hcc d8 HS hlb
      generalize u.stay = st at CF HS2
      go_upto_region 7 with fail
      clear q114
      refine wp_region_held (S := fun w' => Below w1.heap.size wr w') (by kernel_rfl) ?_
      have hO : OwnsI w1.heap.size { wr with drawn := wr.drawn + 1 } u3 P1 := HO.out
      have hS : Below w1.heap.size wr { wr with drawn := wr.drawn + 1 } := (Below.refl _ _).drew
      have hv : w1.heap.size ≤ ({ wr with drawn := wr.drawn + 1 } : World).heap.size := hwr
      generalize ({ wr with drawn := wr.drawn + 1 } : World) = v at hS hO hv ⊢
      refine Held.take (i := 0) (some 19) rfl (v := ?_) rfl (by kernel_rfl) (by kernel_rfl) (by kernel_rfl) (fun _ _ _ h => h) (Or.inl ⟨by rfl, ?_⟩) hS ?_
      rotate_left
      · intro w' hw'
        go_simp
        try with_reducible rfl
      (try dsimp only [Act.put]); (try simp only [List.setIfInBounds_toArray, List.set_cons_zero, List.set_cons_succ])
      refine Held.take_load (i := 1) (some 20) rfl 32 _ ⟨w.heap.size, 0, none⟩ c _ rfl rfl (by kernel_rfl) (by kernel_rfl) (by kernel_rfl) (fun _ _ _ h => h) (by rfl) hS rfl (fun w' hw' => LS.out w' hw') Tryz.underlying32 rfl IA.out ?_
      (try dsimp only [Act.put]); (try simp only [List.setIfInBounds_toArray, List.set_cons_zero, List.set_cons_succ])
      refine Held.take (i := 2) (some 21) rfl (v := ?_) rfl (by kernel_rfl) (by kernel_rfl) (by kernel_rfl) (fun _ _ _ h => h) (Or.inl ⟨by rfl, ?_⟩) hS ?_
      rotate_left
      · intro w' hw'
        go_simp
        try with_reducible rfl
      (try dsimp only [Act.put]); (try simp only [List.setIfInBounds_toArray, List.set_cons_zero, List.set_cons_succ])
      refine Held.take (i := 4) (some 23) rfl (v := ?_) rfl (by kernel_rfl) (by kernel_rfl) (by kernel_rfl) (fun _ _ _ h => h) (Or.inl ⟨by rfl, ?_⟩) hS ?_
      rotate_left
      · intro w' hw'
        have cf := CF.out w' hw'
        have cq := CQ.out w' hw'
        go_simp
        try with_reducible rfl
      (try dsimp only [Act.put]); (try simp only [List.setIfInBounds_toArray, List.set_cons_zero, List.set_cons_succ])
      refine Held.take (i := 5) (some 24) rfl (v := ?_) rfl (by kernel_rfl) (by kernel_rfl) (by kernel_rfl) (fun _ _ _ h => h) (Or.inl ⟨by rfl, ?_⟩) hS ?_
      rotate_left
      · intro w' hw'
        have cf := CF.out w' hw'
        have cq := CQ.out w' hw'
        go_simp
        try with_reducible rfl
      (try dsimp only [Act.put]); (try simp only [List.setIfInBounds_toArray, List.set_cons_zero, List.set_cons_succ])
      refine Held.take (i := 6) (some 25) rfl (v := ?_) rfl (by kernel_rfl) (by kernel_rfl) (by kernel_rfl) (fun _ _ _ h => h) (Or.inl ⟨by rfl, ?_⟩) hS ?_
      rotate_left
      · intro w' hw'
        have cf := CF.out w' hw'
        have cq := CQ.out w' hw'
        go_simp
        try with_reducible rfl
      (try dsimp only [Act.put]); (try simp only [List.setIfInBounds_toArray, List.set_cons_zero, List.set_cons_succ])
      refine Held.take (i := 7) (some 26) rfl (v := ?_) rfl (by kernel_rfl) (by kernel_rfl) (by kernel_rfl) (fun _ _ _ h => h) (Or.inl ⟨by rfl, ?_⟩) hS ?_
      rotate_left
      · intro w' hw'
        have cf := CF.out w' hw'
        have cq := CQ.out w' hw'
        go_simp
        try with_reducible rfl
      (try dsimp only [Act.put]); (try simp only [List.setIfInBounds_toArray, List.set_cons_zero, List.set_cons_succ])
      refine Held.take (i := 8) (some 27) rfl (v := ?_) rfl (by kernel_rfl) (by kernel_rfl) (by kernel_rfl) (fun _ _ _ h => h) (Or.inl ⟨by rfl, ?_⟩) hS ?_
      rotate_left
      · intro w' hw'
        have cf := CF.out w' hw'
        have cq := CQ.out w' hw'
        go_simp
        try with_reducible rfl
      (try dsimp only [Act.put]); (try simp only [List.setIfInBounds_toArray, List.set_cons_zero, List.set_cons_succ])
      refine Held.take (i := 9) (some 28) rfl (v := ?_) rfl (by kernel_rfl) (by kernel_rfl) (by kernel_rfl) (fun _ _ _ h => h) (Or.inl ⟨by rfl, ?_⟩) hS ?_
      rotate_left
      · intro w' hw'
        have cf := CF.out w' hw'
        have cq := CQ.out w' hw'
        go_simp
        try with_reducible rfl
      (try dsimp only [Act.put]); (try simp only [List.setIfInBounds_toArray, List.set_cons_zero, List.set_cons_succ])
      refine wpAnyH_ready (rs := [3]) (by kernel_rfl) (by simp) (AllReadyH.cons rfl (fun K hK => ?_) AllReadyH.nil)
      go_simp
      refine (EC.out q v (SB.out v hS)).mono ?_
      rintro e x1 ⟨rfl, hb⟩
      generalize entryS T ((q : Nat) : Int) = en at HS2 ⊢
      replace hO := Owns.below hO hb
      have hS2 := Below.trans hS (hb.mono hv)
      replace hv := Nat.le_trans hv hb.size
      clear hb hS
      go_simp
      refine hK.out _ _ hS2 (fun hS => ?_)
      clear hK K hS2
      refine wpAnyH_ready (rs := [10]) (by kernel_rfl) (by simp) (AllReadyH.cons rfl (fun K hK => ?_) AllReadyH.nil)
      go_simp
      have r1 : Hid (IntRow (x1.alloc (.cells #[I en, I st] 3)) ⟨some ⟨x1.heap.size, 0, none⟩, 2⟩ [en, st]) := Lib.hid (May.row_new x1 3 [en, st] 2 rfl (by decide) _ rfl)
      have hbw : Below x1.heap.size x1 (x1.alloc (.cells #[I en, I st] 3)) := (Below.refl _ _).alloc (Nat.le_refl _) _
      replace hO := Owns.below hO hbw
      have hS2 := hS.alloc hv (.cells #[I en, I st] 3)
      replace hv := Nat.le_trans hv hbw.size
      clear hbw hS
      generalize hb0 : x1.heap.size = b2 at r1 ⊢
      clear hb0
      generalize World.alloc x1 (.cells #[I en, I st] 3) = x3 at r1 hO hS2 hv ⊢
      refine hK.out _ _ hS2 (fun hS => ?_)
      clear hK K hS2
      refine wpAnyH_ready (rs := [11]) (by kernel_rfl) (by simp) (AllReadyH.cons rfl (fun K hK => ?_) AllReadyH.nil)
      go_simp
      refine (Clear.sum_len (some ⟨b2, 0, none⟩) 2 [en, st] 2 rfl x3 r1.out).mono ?_
      rintro e w' ⟨rfl, hq⟩
      subst w'
      clear r1
      generalize sums [en, st] = z at HS2 ⊢
      go_simp
      refine hK.out _ _ hS (fun hS => ?_)
      clear hK K
      refine wpAnyH_ready (rs := [12]) (by kernel_rfl) (by simp) (AllReadyH.cons rfl (fun K hK => ?_) AllReadyH.nil)
      go_simp
      have r2 : Hid (IntRow (x3.alloc (.cells #[I z] 3)) ⟨some ⟨x3.heap.size, 0, none⟩, 1⟩ [z]) := Lib.hid (May.row_new x3 3 [z] 1 rfl (by decide) _ rfl)
      have hbw : Below x3.heap.size x3 (x3.alloc (.cells #[I z] 3)) := (Below.refl _ _).alloc (Nat.le_refl _) _
      replace hO := Owns.below hO hbw
      have hS2 := hS.alloc hv (.cells #[I z] 3)
      replace hv := Nat.le_trans hv hbw.size
      clear hbw hS
      generalize hb0 : x3.heap.size = b4 at r2 ⊢
      clear hb0
      generalize World.alloc x3 (.cells #[I z] 3) = x5 at r2 hO hS2 hv ⊢
      refine hK.out _ _ hS2 (fun hS => ?_)
      clear hK K hS2
      refine wpAnyH_ready (rs := [13]) (by kernel_rfl) (by simp) (AllReadyH.cons rfl (fun K hK => ?_) AllReadyH.nil)
      rw [if_pos (by rfl)]
      refine wp_append_own _ _ _ _ rfl w1.heap.size 3 i0 (.int .i64 0) 1 8 Tryz.underlying22 hi hz0 hz1 hz2 rfl (by decide) u3 P1.length _ rfl hO ⟨b4, 0, none⟩ 1 1 [I z] rfl rfl ?c1 ?c2 ?c3 ?c4 hv ?_
      case c1 =>
        intro j e hj
        obtain ⟨x, hx, hc⟩ := IntRow.at r2.out (i := j) (v := intOf e) (by
          match j, hj with
          | 0, hj => simp at hj; subst hj; rfl)
        obtain rfl := Option.some.inj hx
        rw [hc]
        match j, hj with
        | 0, hj => simp at hj; subst hj; rfl
      case c2 => intro e he; simp at he; subst he; rfl
      case c3 => unfold maxLen; omega
      case c4 => omega
      intro v' x6 hown' hgrow hnil'
      have hS2 := hS.grown hgrow hv (fun m hm => Owns.blk (show OwnsI w1.heap.size x5 u3 P1 from hO) m hm)
      have HO2 : Hid (x6.ownsRow w1.heap.size 3 1 v' (P1.length + 1) (P1.flatMap (fun n => [I n]) ++ [I z])) := Lib.hid hown'
      clear hown' hgrow hnil' hO hS
      refine hK.out _ _ hS2 (fun hS => ?_)
      clear hK K hS2
      refine Held.take (i := 14) (some 3) rfl (v := ?_) rfl (by kernel_rfl) (by kernel_rfl) (by kernel_rfl) (fun _ _ _ h => h) (Or.inl ⟨by rfl, ?_⟩) hS ?_
      rotate_left
      · intro w' hw'
        go_simp
        try with_reducible rfl
      (try dsimp only [Act.put]); (try simp only [List.setIfInBounds_toArray, List.set_cons_zero, List.set_cons_succ])
      refine wpAnyH_done (by kernel_rfl) ?_ _
      have HB2 := Lib.hid (HB.out.trans hS)
      clear hS
      go_wp2
      go_roundw
      case rel => exact ⟨q + 1, by omega, by go_num, by rw [HS2.out]; exact Owns.snoc HO2.out, HB2.out⟩
      case measure => simp [intOf]; omega
    · have HE : Hid (q = n) := Lib.hid (by omega)
      obtain ⟨⟨ea, ec⟩, hs, hrow⟩ := HO.out.row (enc := fun n => [I n]) (fun _ => rfl)
      rw [HE.out] at hs hrow
      have H3 := Lib.hid hrow
      clear hrow
      subst hs
      generalize ul n = P3 at HR0 H3 ⊢
      show Code.wp _ _ _ _ _
      rw [show (Sl.val ⟨ea, ec⟩ P3.length) = .slice ea P3.length ec from rfl]
      go_upto_region 8 with fail
      clear q114
      go_wp2_with (refine Row.wpList_load_g 32 _ rfl (by first | rfl | go_simp) ⟨w.heap.size, 0, none⟩ rfl c _ (LT.out _ HB.out) Tryz.underlying32 rfl IA.out ?_)
      refine (ON.out _ (BB.out _ HB.out)).mono ?_
      rintro e w2 ⟨rfl, hb⟩
      have B2 := Lib.hid (HB.out.trans (hb.mono HB.out.size))
      have R2 := Lib.hid (RowOf.below H3.out hb)
      clear hb HB H3 ON
      go_wp2_with fail
      refine (rlist_any os _).mono ?_
      rintro e w3 ⟨v0, rfl, hown, hb⟩
      have B3 := Lib.hid (B2.out.trans (hb.mono B2.out.size))
      have R3 := Lib.hid (RowOf.below R2.out hb)
      obtain ⟨sa, sc, rfl, hrow⟩ := row_of hown
      have HR := Lib.hid hrow
      have hl8 := SetM.list_len os
      have BD := Lib.hid (SetM.list_bd os)
      clear hown hrow hb B2 R2
      generalize SetM.list os = M at HR0 HR hl8 BD ⊢
      have MT : Hid (∀ q, q < M.length → ovM T (M.take (q + 1)) = ovM T (M.take q) ++ [cap (phAt T (M.getD q 0)).min, sums [(phAt T (M.getD q 0)).walk, (phAt T (M.getD q 0)).blinks]]) := Lib.hid (fun q hq => by rw [RefS.take_succ M q hq, ovM_snoc])
      have ML : Hid (∀ q, (ovM T (M.take q)).length ≤ 16) := Lib.hid (fun q => by rw [ovM_len, List.length_take]; omega)
      go_wp2_with fail
      go_loopw [4, 37] (fun v i wr => ∃ q : Nat, q ≤ M.length ∧ i = .int .i64 q ∧ OwnsI w3.heap.size wr v (ovM T (M.take q)) ∧ Below w3.heap.size w3 wr) (fun _ i _ => M.length - (intOf i).toNat)
      case atStart => exact ⟨0, by omega, rfl, Owns.nil, Below.refl _ _⟩
      case round =>
        obtain ⟨q, hq, rfl, hown, hbel⟩ := hrel
        have HO := Lib.hid hown
        have HB := Lib.hid hbel
        clear hown hbel
        by_cases hlt : q < M.length
        · obtain ⟨x, hx, hc⟩ := (HR.out.below HB.out).cells hlt
          obtain rfl : sa = some x := hx
          have c0 := hc q hlt
          have hmem : M.getD q 0 ∈ M := by rw [List.getD_eq_getElem?_getD, List.getElem?_eq_getElem hlt]; exact List.getElem_mem hlt
          have hbd := BD.out _ hmem
          have MS := Lib.hid (MT.out q hlt)
          have hlen := ML.out q
          clear hc hmem
          generalize M.getD q 0 = p at c0 hbd MS
          obtain ⟨p0, p8⟩ := hbd
          obtain ⟨k, rfl⟩ := Int.eq_ofNat_of_zero_le p0
          have hk : k < 8 := by omega
          have hv : T.phases[k]? = some (phAt T k) := by
            unfold phAt
            rw [Int.toNat_natCast, List.getD_eq_getElem?_getD, List.getElem?_eq_getElem (by rw [L8.out]; exact hk)]; rfl
          generalize phAt T k = u at hv MS
          have S4 := Lib.hid (S0.out.step (B3.out.trans (HB.out.mono B3.out.size)))
          obtain ⟨y, hy, hcc⟩ := (phases_in S4.out.blk C.out L8.out).at hv
          obtain rfl := Option.some.inj hy
          have d1 : wr.cell? ⟨w.heap.size, k * 13 + 1, none⟩ = some (I u.min) := by have := hcc 1 _ rfl; rwa [Addr.add_mid, Nat.zero_add, Addr.add_mid] at this
          have d8 : wr.cell? ⟨w.heap.size, k * 13 + 8, none⟩ = some (I u.walk) := by have := hcc 8 _ rfl; rwa [Addr.add_mid, Nat.zero_add, Addr.add_mid] at this
          have d9 : wr.cell? ⟨w.heap.size, k * 13 + 9, none⟩ = some (I u.blinks) := by have := hcc 9 _ rfl; rwa [Addr.add_mid, Nat.zero_add, Addr.add_mid] at this
          have hl3 : w.heap.size < w3.heap.size := by have := B3.out.size; have := HZ.out; omega
          have C1 : Hid (∀ w', Below w3.heap.size wr w' → w'.cell? ⟨w.heap.size, k * 13 + 1, none⟩ = some (I u.min)) := Lib.hid (fun w' hb => (hb.cell (show w.heap.size < _ from hl3)).trans d1)
          have C8 : Hid (∀ w', Below w3.heap.size wr w' → w'.cell? ⟨w.heap.size, k * 13 + 8, none⟩ = some (I u.walk)) := Lib.hid (fun w' hb => (hb.cell (show w.heap.size < _ from hl3)).trans d8)
          have C9 : Hid (∀ w', Below w3.heap.size wr w' → w'.cell? ⟨w.heap.size, k * 13 + 9, none⟩ = some (I u.blinks)) := Lib.hid (fun w' hb => (hb.cell (show w.heap.size < _ from hl3)).trans d9)
          clear hv hcc hy d1 d8 d9 hl3
          have hwr := HB.out.size
          generalize ovM T (M.take q) = P1 at HO MS hlen
          generalize u.min = mi at C1 MS
          generalize u.walk = wa at C8 MS
          generalize u.blinks = bl at C9 MS
          go_upto_region 11 with fail
          refine wp_region_held (S := fun w' => Below w3.heap.size wr w') (by kernel_rfl) ?_
          have hO : OwnsI w3.heap.size { wr with drawn := wr.drawn + 1 } u4 P1 := HO.out
          have hS : Below w3.heap.size wr { wr with drawn := wr.drawn + 1 } := (Below.refl _ _).drew
          have hv : w3.heap.size ≤ ({ wr with drawn := wr.drawn + 1 } : World).heap.size := hwr
          generalize ({ wr with drawn := wr.drawn + 1 } : World) = v at hS hO hv ⊢
          refine Held.take (i := 0) (some 41) rfl (v := ?_) rfl (by kernel_rfl) (by kernel_rfl) (by kernel_rfl) (fun _ _ _ h => h) (Or.inl ⟨by rfl, ?_⟩) hS ?_
          rotate_left
          · intro w' hw'
            have e1 := C1.out w' hw'
            have e8 := C8.out w' hw'
            have e9 := C9.out w' hw'
            go_simp
            try with_reducible rfl
          (try dsimp only [Act.put]); (try simp only [List.setIfInBounds_toArray, List.set_cons_zero, List.set_cons_succ])
          refine Held.take (i := 1) (some 42) rfl (v := ?_) rfl (by kernel_rfl) (by kernel_rfl) (by kernel_rfl) (fun _ _ _ h => h) (Or.inl ⟨by rfl, ?_⟩) hS ?_
          rotate_left
          · intro w' hw'
            have e1 := C1.out w' hw'
            have e8 := C8.out w' hw'
            have e9 := C9.out w' hw'
            go_simp
            try with_reducible rfl
          (try dsimp only [Act.put]); (try simp only [List.setIfInBounds_toArray, List.set_cons_zero, List.set_cons_succ])
          refine Held.take (i := 2) (some 43) rfl (v := ?_) rfl (by kernel_rfl) (by kernel_rfl) (by kernel_rfl) (fun _ _ _ h => h) (Or.inl ⟨by rfl, ?_⟩) hS ?_
          rotate_left
          · intro w' hw'
            have e1 := C1.out w' hw'
            have e8 := C8.out w' hw'
            have e9 := C9.out w' hw'
            go_simp
            try with_reducible rfl
          (try dsimp only [Act.put]); (try simp only [List.setIfInBounds_toArray, List.set_cons_zero, List.set_cons_succ])
          refine Held.take (i := 3) (some 44) rfl (v := ?_) rfl (by kernel_rfl) (by kernel_rfl) (by kernel_rfl) (fun _ _ _ h => h) (Or.inl ⟨by rfl, ?_⟩) hS ?_
          rotate_left
          · intro w' hw'
            have e1 := C1.out w' hw'
            have e8 := C8.out w' hw'
            have e9 := C9.out w' hw'
            go_simp
            try with_reducible rfl
          (try dsimp only [Act.put]); (try simp only [List.setIfInBounds_toArray, List.set_cons_zero, List.set_cons_succ])
          refine Held.take (i := 4) (some 45) rfl (v := ?_) rfl (by kernel_rfl) (by kernel_rfl) (by kernel_rfl) (fun _ _ _ h => h) (Or.inl ⟨by rfl, ?_⟩) hS ?_
          rotate_left
          · intro w' hw'
            have e1 := C1.out w' hw'
            have e8 := C8.out w' hw'
            have e9 := C9.out w' hw'
            go_simp
            try with_reducible rfl
          (try dsimp only [Act.put]); (try simp only [List.setIfInBounds_toArray, List.set_cons_zero, List.set_cons_succ])
          refine Held.take (i := 5) (some 46) rfl (v := ?_) rfl (by kernel_rfl) (by kernel_rfl) (by kernel_rfl) (fun _ _ _ h => h) (Or.inl ⟨by rfl, ?_⟩) hS ?_
          rotate_left
          · intro w' hw'
            have e1 := C1.out w' hw'
            have e8 := C8.out w' hw'
            have e9 := C9.out w' hw'
            go_simp
            try with_reducible rfl
          (try dsimp only [Act.put]); (try simp only [List.setIfInBounds_toArray, List.set_cons_zero, List.set_cons_succ])
          refine Held.take (i := 7) (some 48) rfl (v := ?_) rfl (by kernel_rfl) (by kernel_rfl) (by kernel_rfl) (fun _ _ _ h => h) (Or.inl ⟨by rfl, ?_⟩) hS ?_
          rotate_left
          · intro w' hw'
            have e1 := C1.out w' hw'
            have e8 := C8.out w' hw'
            have e9 := C9.out w' hw'
            go_simp
            try with_reducible rfl
          (try dsimp only [Act.put]); (try simp only [List.setIfInBounds_toArray, List.set_cons_zero, List.set_cons_succ])
          refine Held.take (i := 8) (some 49) rfl (v := ?_) rfl (by kernel_rfl) (by kernel_rfl) (by kernel_rfl) (fun _ _ _ h => h) (Or.inl ⟨by rfl, ?_⟩) hS ?_
          rotate_left
          · intro w' hw'
            have e1 := C1.out w' hw'
            have e8 := C8.out w' hw'
            have e9 := C9.out w' hw'
            go_simp
            try with_reducible rfl
          (try dsimp only [Act.put]); (try simp only [List.setIfInBounds_toArray, List.set_cons_zero, List.set_cons_succ])
          refine Held.take (i := 9) (some 50) rfl (v := ?_) rfl (by kernel_rfl) (by kernel_rfl) (by kernel_rfl) (fun _ _ _ h => h) (Or.inl ⟨by rfl, ?_⟩) hS ?_
          rotate_left
          · intro w' hw'
            have e1 := C1.out w' hw'
            have e8 := C8.out w' hw'
            have e9 := C9.out w' hw'
            go_simp
            try with_reducible rfl
          (try dsimp only [Act.put]); (try simp only [List.setIfInBounds_toArray, List.set_cons_zero, List.set_cons_succ])
          refine Held.take (i := 10) (some 51) rfl (v := ?_) rfl (by kernel_rfl) (by kernel_rfl) (by kernel_rfl) (fun _ _ _ h => h) (Or.inl ⟨by rfl, ?_⟩) hS ?_
          rotate_left
          · intro w' hw'
            have e1 := C1.out w' hw'
            have e8 := C8.out w' hw'
            have e9 := C9.out w' hw'
            go_simp
            try with_reducible rfl
          (try dsimp only [Act.put]); (try simp only [List.setIfInBounds_toArray, List.set_cons_zero, List.set_cons_succ])
          refine Held.take (i := 11) (some 52) rfl (v := ?_) rfl (by kernel_rfl) (by kernel_rfl) (by kernel_rfl) (fun _ _ _ h => h) (Or.inl ⟨by rfl, ?_⟩) hS ?_
          rotate_left
          · intro w' hw'
            have e1 := C1.out w' hw'
            have e8 := C8.out w' hw'
            have e9 := C9.out w' hw'
            go_simp
            try with_reducible rfl
          (try dsimp only [Act.put]); (try simp only [List.setIfInBounds_toArray, List.set_cons_zero, List.set_cons_succ])
          refine Held.take (i := 12) (some 53) rfl (v := ?_) rfl (by kernel_rfl) (by kernel_rfl) (by kernel_rfl) (fun _ _ _ h => h) (Or.inl ⟨by rfl, ?_⟩) hS ?_
          rotate_left
          · intro w' hw'
            have e1 := C1.out w' hw'
            have e8 := C8.out w' hw'
            have e9 := C9.out w' hw'
            go_simp
            try with_reducible rfl
          (try dsimp only [Act.put]); (try simp only [List.setIfInBounds_toArray, List.set_cons_zero, List.set_cons_succ])
          refine Held.take (i := 13) (some 54) rfl (v := ?_) rfl (by kernel_rfl) (by kernel_rfl) (by kernel_rfl) (fun _ _ _ h => h) (Or.inl ⟨by rfl, ?_⟩) hS ?_
          rotate_left
          · intro w' hw'
            have e1 := C1.out w' hw'
            have e8 := C8.out w' hw'
            have e9 := C9.out w' hw'
            go_simp
            try with_reducible rfl
          (try dsimp only [Act.put]); (try simp only [List.setIfInBounds_toArray, List.set_cons_zero, List.set_cons_succ])
          refine Held.take (i := 14) (some 55) rfl (v := ?_) rfl (by kernel_rfl) (by kernel_rfl) (by kernel_rfl) (fun _ _ _ h => h) (Or.inl ⟨by rfl, ?_⟩) hS ?_
          rotate_left
          · intro w' hw'
            have e1 := C1.out w' hw'
            have e8 := C8.out w' hw'
            have e9 := C9.out w' hw'
            go_simp
            try with_reducible rfl
          (try dsimp only [Act.put]); (try simp only [List.setIfInBounds_toArray, List.set_cons_zero, List.set_cons_succ])
          refine Held.take (i := 15) (some 56) rfl (v := ?_) rfl (by kernel_rfl) (by kernel_rfl) (by kernel_rfl) (fun _ _ _ h => h) (Or.inl ⟨by rfl, ?_⟩) hS ?_
          rotate_left
          · intro w' hw'
            have e1 := C1.out w' hw'
            have e8 := C8.out w' hw'
            have e9 := C9.out w' hw'
            go_simp
            try with_reducible rfl
          (try dsimp only [Act.put]); (try simp only [List.setIfInBounds_toArray, List.set_cons_zero, List.set_cons_succ])
          refine Held.take (i := 16) (some 57) rfl (v := ?_) rfl (by kernel_rfl) (by kernel_rfl) (by kernel_rfl) (fun _ _ _ h => h) (Or.inl ⟨by rfl, ?_⟩) hS ?_
          rotate_left
          · intro w' hw'
            have e1 := C1.out w' hw'
            have e8 := C8.out w' hw'
            have e9 := C9.out w' hw'
            go_simp
            try with_reducible rfl
          (try dsimp only [Act.put]); (try simp only [List.setIfInBounds_toArray, List.set_cons_zero, List.set_cons_succ])
          refine wpAnyH_ready (rs := [6, 17]) (by kernel_rfl) (by simp) (AllReadyH.cons rfl (fun K hK => ?_) (AllReadyH.cons rfl (fun K hK => ?_) AllReadyH.nil))
          · go_simp
            refine (rcap_any mi v).mono ?_
            rintro e w' ⟨rfl, hq⟩
            subst w'
            generalize cap mi = cm at MS ⊢
            go_simp
            refine hK.out _ _ hS (fun hS => ?_)
            clear hK K
            refine wpAnyH_ready (rs := [17]) (by kernel_rfl) (by simp) (AllReadyH.cons rfl (fun K hK => ?_) AllReadyH.nil)
            go_simp
            have r1 : Hid (IntRow (v.alloc (.cells #[I wa, I bl] 3)) ⟨some ⟨v.heap.size, 0, none⟩, 2⟩ [wa, bl]) := Lib.hid (May.row_new v 3 [wa, bl] 2 rfl (by decide) _ rfl)
            have hbw : Below v.heap.size v (v.alloc (.cells #[I wa, I bl] 3)) := (Below.refl _ _).alloc (Nat.le_refl _) _
            replace hO := Owns.below hO hbw
            have hS2 := hS.alloc hv (.cells #[I wa, I bl] 3)
            replace hv := Nat.le_trans hv hbw.size
            clear hbw hS
            generalize hb0 : v.heap.size = b1 at r1 ⊢
            clear hb0
            generalize World.alloc v (.cells #[I wa, I bl] 3) = x2 at r1 hO hS2 hv ⊢
            refine hK.out _ _ hS2 (fun hS => ?_)
            clear hK K hS2
            refine wpAnyH_ready (rs := [18]) (by kernel_rfl) (by simp) (AllReadyH.cons rfl (fun K hK => ?_) AllReadyH.nil)
            go_simp
            refine (Clear.sum_len (some ⟨b1, 0, none⟩) 2 [wa, bl] 2 rfl x2 r1.out).mono ?_
            rintro e w' ⟨rfl, hq⟩
            subst w'
            clear r1
            generalize sums [wa, bl] = z at MS ⊢
            go_simp
            refine hK.out _ _ hS (fun hS => ?_)
            clear hK K
            refine wpAnyH_ready (rs := [19]) (by kernel_rfl) (by simp) (AllReadyH.cons rfl (fun K hK => ?_) AllReadyH.nil)
            go_simp
            have r2 : Hid (IntRow (x2.alloc (.cells #[I cm, I z] 3)) ⟨some ⟨x2.heap.size, 0, none⟩, 2⟩ [cm, z]) := Lib.hid (May.row_new x2 3 [cm, z] 2 rfl (by decide) _ rfl)
            have hbw : Below x2.heap.size x2 (x2.alloc (.cells #[I cm, I z] 3)) := (Below.refl _ _).alloc (Nat.le_refl _) _
            replace hO := Owns.below hO hbw
            have hS2 := hS.alloc hv (.cells #[I cm, I z] 3)
            replace hv := Nat.le_trans hv hbw.size
            clear hbw hS
            generalize hb0 : x2.heap.size = b3 at r2 ⊢
            clear hb0
            generalize World.alloc x2 (.cells #[I cm, I z] 3) = x4 at r2 hO hS2 hv ⊢
            refine hK.out _ _ hS2 (fun hS => ?_)
            clear hK K hS2
            refine wpAnyH_ready (rs := [20]) (by kernel_rfl) (by simp) (AllReadyH.cons rfl (fun K hK => ?_) AllReadyH.nil)
            rw [if_pos (by rfl)]
            refine wp_append_own _ _ _ _ rfl w3.heap.size 3 i0 (.int .i64 0) 1 8 Tryz.underlying22 hi hz0 hz1 hz2 rfl (by decide) u4 P1.length _ rfl hO ⟨b3, 0, none⟩ 2 2 [I cm, I z] rfl rfl ?c1 ?c2 ?c3 ?c4 hv ?_
            case c1 =>
              intro j e hj
              obtain ⟨x, hx, hc⟩ := IntRow.at r2.out (i := j) (v := intOf e) (by
                match j, hj with
                | 0, hj => simp at hj; subst hj; rfl
                | 1, hj => simp at hj; subst hj; rfl)
              obtain rfl := Option.some.inj hx
              rw [hc]
              match j, hj with
              | 0, hj => simp at hj; subst hj; rfl
              | 1, hj => simp at hj; subst hj; rfl
            case c2 => intro e he; simp at he; rcases he with rfl | rfl <;> rfl
            case c3 => unfold maxLen; omega
            case c4 => omega
            intro v' x5 hown' hgrow hnil'
            have hS2 := hS.grown hgrow hv (fun m hm => Owns.blk (show OwnsI w3.heap.size x4 u4 P1 from hO) m hm)
            have HO2 : Hid (x5.ownsRow w3.heap.size 3 1 v' (P1.length + 2) (P1.flatMap (fun n => [I n]) ++ [I cm, I z])) := Lib.hid hown'
            clear hown' hgrow hnil' hO hS
            refine hK.out _ _ hS2 (fun hS => ?_)
            clear hK K hS2
            refine Held.take (i := 21) (some 4) rfl (v := ?_) rfl (by kernel_rfl) (by kernel_rfl) (by kernel_rfl) (fun _ _ _ h => h) (Or.inl ⟨by rfl, ?_⟩) hS ?_
            rotate_left
            · intro w' hw'
              go_simp
              try with_reducible rfl
            (try dsimp only [Act.put]); (try simp only [List.setIfInBounds_toArray, List.set_cons_zero, List.set_cons_succ])
            refine wpAnyH_done (by kernel_rfl) ?_ _
            have HB2 := Lib.hid (HB.out.trans hS)
            clear hS
            go_wp2
            go_roundw
            case rel => exact ⟨q + 1, by omega, by go_num, by rw [MS.out]; exact own_snoc2 HO2.out, HB2.out⟩
            case measure => simp [intOf]; omega
          · go_simp
            have r1 : Hid (IntRow (v.alloc (.cells #[I wa, I bl] 3)) ⟨some ⟨v.heap.size, 0, none⟩, 2⟩ [wa, bl]) := Lib.hid (May.row_new v 3 [wa, bl] 2 rfl (by decide) _ rfl)
            have hbw : Below v.heap.size v (v.alloc (.cells #[I wa, I bl] 3)) := (Below.refl _ _).alloc (Nat.le_refl _) _
            replace hO := Owns.below hO hbw
            have hS2 := hS.alloc hv (.cells #[I wa, I bl] 3)
            replace hv := Nat.le_trans hv hbw.size
            clear hbw hS
            generalize hb0 : v.heap.size = b6 at r1 ⊢
            clear hb0
            generalize World.alloc v (.cells #[I wa, I bl] 3) = x7 at r1 hO hS2 hv ⊢
            refine hK.out _ _ hS2 (fun hS => ?_)
            clear hK K hS2
            refine wpAnyH_ready (rs := [6]) (by kernel_rfl) (by simp) (AllReadyH.cons rfl (fun K hK => ?_) AllReadyH.nil)
            go_simp
            refine (rcap_any mi x7).mono ?_
            rintro e w' ⟨rfl, hq⟩
            subst w'
            generalize cap mi = cm at MS ⊢
            go_simp
            refine hK.out _ _ hS (fun hS => ?_)
            clear hK K
            refine wpAnyH_ready (rs := [18]) (by kernel_rfl) (by simp) (AllReadyH.cons rfl (fun K hK => ?_) AllReadyH.nil)
            go_simp
            refine (Clear.sum_len (some ⟨b6, 0, none⟩) 2 [wa, bl] 2 rfl x7 r1.out).mono ?_
            rintro e w' ⟨rfl, hq⟩
            subst w'
            clear r1
            generalize sums [wa, bl] = z at MS ⊢
            go_simp
            refine hK.out _ _ hS (fun hS => ?_)
            clear hK K
            refine wpAnyH_ready (rs := [19]) (by kernel_rfl) (by simp) (AllReadyH.cons rfl (fun K hK => ?_) AllReadyH.nil)
            go_simp
            have r2 : Hid (IntRow (x7.alloc (.cells #[I cm, I z] 3)) ⟨some ⟨x7.heap.size, 0, none⟩, 2⟩ [cm, z]) := Lib.hid (May.row_new x7 3 [cm, z] 2 rfl (by decide) _ rfl)
            have hbw : Below x7.heap.size x7 (x7.alloc (.cells #[I cm, I z] 3)) := (Below.refl _ _).alloc (Nat.le_refl _) _
            replace hO := Owns.below hO hbw
            have hS2 := hS.alloc hv (.cells #[I cm, I z] 3)
            replace hv := Nat.le_trans hv hbw.size
            clear hbw hS
            generalize hb0 : x7.heap.size = b8 at r2 ⊢
            clear hb0
            generalize World.alloc x7 (.cells #[I cm, I z] 3) = x9 at r2 hO hS2 hv ⊢
            refine hK.out _ _ hS2 (fun hS => ?_)
            clear hK K hS2
            refine wpAnyH_ready (rs := [20]) (by kernel_rfl) (by simp) (AllReadyH.cons rfl (fun K hK => ?_) AllReadyH.nil)
            rw [if_pos (by rfl)]
            refine wp_append_own _ _ _ _ rfl w3.heap.size 3 i0 (.int .i64 0) 1 8 Tryz.underlying22 hi hz0 hz1 hz2 rfl (by decide) u4 P1.length _ rfl hO ⟨b8, 0, none⟩ 2 2 [I cm, I z] rfl rfl ?c1 ?c2 ?c3 ?c4 hv ?_
            case c1 =>
              intro j e hj
              obtain ⟨x, hx, hc⟩ := IntRow.at r2.out (i := j) (v := intOf e) (by
                match j, hj with
                | 0, hj => simp at hj; subst hj; rfl
                | 1, hj => simp at hj; subst hj; rfl)
              obtain rfl := Option.some.inj hx
              rw [hc]
              match j, hj with
              | 0, hj => simp at hj; subst hj; rfl
              | 1, hj => simp at hj; subst hj; rfl
            case c2 => intro e he; simp at he; rcases he with rfl | rfl <;> rfl
            case c3 => unfold maxLen; omega
            case c4 => omega
            intro v' x10 hown' hgrow hnil'
            have hS2 := hS.grown hgrow hv (fun m hm => Owns.blk (show OwnsI w3.heap.size x9 u4 P1 from hO) m hm)
            have HO2 : Hid (x10.ownsRow w3.heap.size 3 1 v' (P1.length + 2) (P1.flatMap (fun n => [I n]) ++ [I cm, I z])) := Lib.hid hown'
            clear hown' hgrow hnil' hO hS
            refine hK.out _ _ hS2 (fun hS => ?_)
            clear hK K hS2
            refine Held.take (i := 21) (some 4) rfl (v := ?_) rfl (by kernel_rfl) (by kernel_rfl) (by kernel_rfl) (fun _ _ _ h => h) (Or.inl ⟨by rfl, ?_⟩) hS ?_
            rotate_left
            · intro w' hw'
              go_simp
              try with_reducible rfl
            (try dsimp only [Act.put]); (try simp only [List.setIfInBounds_toArray, List.set_cons_zero, List.set_cons_succ])
            refine wpAnyH_done (by kernel_rfl) ?_ _
            have HB2 := Lib.hid (HB.out.trans hS)
            clear hS
            go_wp2
            go_roundw
            case rel => exact ⟨q + 1, by omega, by go_num, by rw [MS.out]; exact own_snoc2 HO2.out, HB2.out⟩
            case measure => simp [intOf]; omega
        · have HE : Hid (ovM T (M.take q) = ovM T M) := Lib.hid (by rw [List.take_of_length_le (by omega)])
          obtain ⟨⟨fa, fc⟩, hs, hrow⟩ := HO.out.row (enc := fun n => [I n]) (fun _ => rfl)
          rw [HE.out] at hs hrow
          have H4 := Lib.hid hrow
          have R4 := Lib.hid (RowOf.below R3.out HB.out)
          have B4 := Lib.hid (B3.out.trans (HB.out.mono B3.out.size))
          clear hrow HE
          subst hs
          generalize ovM T M = P4 at HR0 H4 ⊢
          rw [show (Sl.val ⟨fa, fc⟩ P4.length) = .slice fa P4.length fc from rfl]
          have CQ : Hid (∀ w', Below wr.heap.size wr w' → w'.cell? ⟨w.heap.size, 119, none⟩ = some (I T.revert)) := Lib.hid (fun w' hb => Q119.out _ (B4.out.trans (hb.mono B4.out.size)))
          have LS : Hid (∀ w', Below wr.heap.size wr w' → Lies w' ⟨w.heap.size, 0, none⟩ c) := Lib.hid (fun w' hb => LT.out _ (B4.out.trans (hb.mono B4.out.size)))
          have SB : Hid (∀ w', Below wr.heap.size wr w' → Below w.heap.size w w') := Lib.hid (fun w' hb => BB.out _ (B4.out.trans (hb.mono B4.out.size)))
          generalize T.revert = rv at CQ HR0
          go_upto_region 13 with fail
          refine wp_region_held (S := fun w' => Below wr.heap.size wr w') (by kernel_rfl) ?_
          have hS : Below wr.heap.size wr { wr with drawn := wr.drawn + 1 } := (Below.refl _ _).drew
          have hv : wr.heap.size ≤ ({ wr with drawn := wr.drawn + 1 } : World).heap.size := Nat.le_refl _
          generalize ({ wr with drawn := wr.drawn + 1 } : World) = v at hS hv ⊢
          refine Held.take (i := 0) (some 63) rfl (v := ?_) rfl (by kernel_rfl) (by kernel_rfl) (by kernel_rfl) (fun _ _ _ h => h) (Or.inl ⟨by rfl, ?_⟩) hS ?_
          rotate_left
          · intro w' hw'
            go_simp
            try with_reducible rfl
          (try dsimp only [Act.put]); (try simp only [List.setIfInBounds_toArray, List.set_cons_zero, List.set_cons_succ])
          refine Held.take (i := 2) (some 65) rfl (v := ?_) rfl (by kernel_rfl) (by kernel_rfl) (by kernel_rfl) (fun _ _ _ h => h) (Or.inl ⟨by rfl, ?_⟩) hS ?_
          rotate_left
          · intro w' hw'
            go_simp
            try with_reducible rfl
          (try dsimp only [Act.put]); (try simp only [List.setIfInBounds_toArray, List.set_cons_zero, List.set_cons_succ])
          refine Held.take_load (i := 4) (some 67) rfl 32 _ ⟨w.heap.size, 0, none⟩ c _ rfl rfl (by kernel_rfl) (by kernel_rfl) (by kernel_rfl) (fun _ _ _ h => h) (by rfl) hS rfl (fun w' hw' => LS.out w' hw') Tryz.underlying32 rfl IA.out ?_
          (try dsimp only [Act.put]); (try simp only [List.setIfInBounds_toArray, List.set_cons_zero, List.set_cons_succ])
          refine Held.take (i := 6) (some 69) rfl (v := ?_) rfl (by kernel_rfl) (by kernel_rfl) (by kernel_rfl) (fun _ _ _ h => h) (Or.inl ⟨by rfl, ?_⟩) hS ?_
          rotate_left
          · intro w' hw'
            have e1 := CQ.out w' hw'
            go_simp
            try with_reducible rfl
          (try dsimp only [Act.put]); (try simp only [List.setIfInBounds_toArray, List.set_cons_zero, List.set_cons_succ])
          refine Held.take (i := 7) (some 70) rfl (v := ?_) rfl (by kernel_rfl) (by kernel_rfl) (by kernel_rfl) (fun _ _ _ h => h) (Or.inl ⟨by rfl, ?_⟩) hS ?_
          rotate_left
          · intro w' hw'
            have e1 := CQ.out w' hw'
            go_simp
            try with_reducible rfl
          (try dsimp only [Act.put]); (try simp only [List.setIfInBounds_toArray, List.set_cons_zero, List.set_cons_succ])
          refine wpAnyH_ready (rs := [1]) (by kernel_rfl) (by simp) (AllReadyH.cons rfl (fun K hK => ?_) AllReadyH.nil)
          go_simp
          refine (most_row ea ec P3 v (RowOf.below R4.out hS)).mono ?_
          rintro e w' ⟨rfl, hq⟩
          subst w'
          generalize mosts P3 = m3 at HR0 ⊢
          go_simp
          refine hK.out _ _ hS (fun hS => ?_)
          clear hK K
          refine wpAnyH_ready (rs := [3]) (by kernel_rfl) (by simp) (AllReadyH.cons rfl (fun K hK => ?_) AllReadyH.nil)
          go_simp
          refine (most_row fa fc P4 v (RowOf.below H4.out hS)).mono ?_
          rintro e w' ⟨rfl, hq⟩
          subst w'
          generalize mosts P4 = m4 at HR0 ⊢
          go_simp
          refine hK.out _ _ hS (fun hS => ?_)
          clear hK K
          refine wpAnyH_ready (rs := [5]) (by kernel_rfl) (by simp) (AllReadyH.cons rfl (fun K hK => ?_) AllReadyH.nil)
          go_simp
          refine (CC.out v (SB.out v hS)).mono ?_
          rintro e x1 ⟨rfl, hb⟩
          generalize clearS T = cl at HR0 ⊢
          have hS2 := Below.trans hS (hb.mono hv)
          replace hv := Nat.le_trans hv hb.size
          clear hb hS
          go_simp
          refine hK.out _ _ hS2 (fun hS => ?_)
          clear hK K hS2
          refine wpAnyH_ready (rs := [8]) (by kernel_rfl) (by simp) (AllReadyH.cons rfl (fun K hK => ?_) AllReadyH.nil)
          go_simp
          have r1 : Hid (IntRow (x1.alloc (.cells #[I m3, I m4, I cl, I rv, I 30] 3)) ⟨some ⟨x1.heap.size, 0, none⟩, 5⟩ [m3, m4, cl, rv, 30]) := Lib.hid (May.row_new x1 3 [m3, m4, cl, rv, 30] 5 rfl (by decide) _ rfl)
          have hbw : Below x1.heap.size x1 (x1.alloc (.cells #[I m3, I m4, I cl, I rv, I 30] 3)) := (Below.refl _ _).alloc (Nat.le_refl _) _
          have hS2 := hS.alloc hv (.cells #[I m3, I m4, I cl, I rv, I 30] 3)
          replace hv := Nat.le_trans hv hbw.size
          clear hbw hS
          generalize hb0 : x1.heap.size = b2 at r1 ⊢
          clear hb0
          generalize World.alloc x1 (.cells #[I m3, I m4, I cl, I rv, I 30] 3) = x3 at r1 hS2 hv ⊢
          refine hK.out _ _ hS2 (fun hS => ?_)
          clear hK K hS2
          refine wpAnyH_ready (rs := [9]) (by kernel_rfl) (by simp) (AllReadyH.cons rfl (fun K hK => ?_) AllReadyH.nil)
          go_simp
          refine (Clear.sum_len (some ⟨b2, 0, none⟩) 5 [m3, m4, cl, rv, 30] 5 rfl x3 r1.out).mono ?_
          rintro e w' ⟨rfl, hq⟩
          subst w'
          rw [HR0.out]
          go_simp
          refine hK.out _ _ hS (fun hS => ?_)
          clear hK K
          refine Held.take (i := 10) (some 2) rfl (v := ?_) rfl (by kernel_rfl) (by kernel_rfl) (by kernel_rfl) (fun _ _ _ h => h) (Or.inl ⟨by rfl, ?_⟩) hS ?_
          rotate_left
          · intro w' hw'
            go_simp
            try with_reducible rfl
          (try dsimp only [Act.put]); (try simp only [List.setIfInBounds_toArray, List.set_cons_zero, List.set_cons_succ])
          refine wpAnyH_done (by kernel_rfl) ?_ _
          have HF := Lib.hid (SB.out _ hS)
          clear hS
          go_wp2
          go_ret
          exact ⟨rfl, HF.out⟩
end Go.Proofs.YtjolhoilcibdfaaGreat.OverS
/- The contract of the document's Spots. -/
namespace Go.Proofs.YtjolhoilcibdfaaGreat.Spots
open Go.ChangeShapes Go.WideShapes Go.ChangeAt Go.RowKit
open Tab Clone PlaceM Gath
open May (ret_bool chain infoP infoG infoD infoR infoB infoT St)
set_option linter.unusedVariables false
set_option linter.unusedSimpArgs false
theorem info4 : (Tryz.prog.info? 55).map (fun i => (i.zero, i.size, i.bytes)) = some (some (.agg #[I 0, I 0, I 0, I 0]), 4, 32) := by kernel_rfl
abbrev OwnsS (B : Nat) (w : World) (v : Value) (l : List Spt) : Prop := Owns Spt.cells 4 B w 55 v l
/-- The block under a slice is one of places. -/
def Typed (w : World) (s : Sl) : Prop := ∀ x, s.a = some x → ∃ cs : Array Value, w.heap[x.block]? = some (.cells cs 55 (0, 0))
theorem Typed.below {w w' : World} {s : Sl} (h : Typed w s) (hb : Below w.heap.size w w') : Typed w' s := fun x hx => by
  obtain ⟨cs, hc⟩ := h x hx
  exact ⟨cs, (hb.block _ (Array.getElem?_eq_some_iff.1 hc).1).trans hc⟩
theorem own_row_t {B : Nat} {w : World} {v : Value} {l : List Spt} (h : OwnsS B w v l) : ∃ s : Sl, v = s.val l.length ∧ RowOf 4 Spt.cells w s l ∧ Typed w s := by
  obtain ⟨s, hs, hr⟩ := Owns.row h (enc := Spt.cells) (fun _ => rfl)
  refine ⟨s, hs, hr, fun x hx => ?_⟩
  rcases h.2 with ⟨e, _⟩ | ⟨g, cap, cur, e, h1, h2, _⟩
  · rw [hs] at e
    simp [Sl.val, hx] at e
  · rw [hs] at e
    simp [Sl.val, hx] at e
    obtain ⟨rfl, _⟩ := e
    exact ⟨cur, h2⟩
set_option maxRecDepth 100000 in
set_option maxHeartbeats 8000000 in
theorem spots_typed (T : Tab) (h : Hd) (w : World) (ht : IsTab w h T) (sm : Few T) :
    Calls Tryz.prog 18 #[.agg (T.cells h).toArray] w fun e w' => ∃ s : Sl, e = .returned (s.val (spots T).length) ∧ RowOf 4 Spt.cells w' s (spots T) ∧ Typed w' s ∧ Below w.heap.size w w' := by
  have C := Lib.hid (cells_ok ht)
  generalize (T.cells h).toArray = cs at C ⊢
  obtain ⟨gs, hgd, hgr⟩ := ht.groups
  have Hgr := Lib.hid hgr
  have Hgd := Lib.hid hgd
  have SM := Lib.hid sm
  have hsz := C.out.size
  have S0 := Lib.hid (St.box (cs := cs) ht)
  have HZ : Hid ((w.alloc (.cells cs 32)).heap.size = w.heap.size + 1) := Lib.hid (by simp)
  have Hgl := Lib.hid (show T.groups.length = gs.length by rw [← hgd, List.length_map])
  have Kg := hgr.1.len
  unfold maxLen at Kg
  obtain ⟨i0, hi, hz0, hz1, hz2⟩ := info_parts info4
  have LEN : Hid (∀ n, (allS 0 (T.groups.take n)).length ≤ 2000000) := Lib.hid (fun n => small_len (by have := sm.groups; rw [List.length_take]; omega) (fun x hx => sm.rows x (List.mem_of_mem_take hx)))
  clear ht hgr hgd sm
  go_enter Tryz.func18, Tryz.ntmps18
  go_upto_region 1 with fail
  generalize w.alloc (.cells cs 32) = w1 at S0 HZ ⊢
  clear hsz
  have q104 := S0.out.cell C.out.g
  rw [Hgl.out] at q104
  have Q104 := Lib.hid q104
  clear q104
  have LIFT : Hid (∀ W, Below w1.heap.size w1 W → ∀ (z : Addr) (c : Value), w1.cell? z = some c → W.cell? z = some c) := Lib.hid (fun W hb z c hc => (hb.cell (World.block_lt_of_cell? w1 _ hc)).trans hc)
  go_wp2_with fail
  go_loopw [3, 4] (fun v g wr => ∃ q : Nat, q ≤ gs.length ∧ g = .int .i64 q ∧ OwnsS w1.heap.size wr v (allS 0 (T.groups.take q)) ∧ Below w1.heap.size w1 wr) (fun _ g _ => gs.length - (intOf g).toNat)
  case atStart => exact ⟨0, by omega, rfl, Owns.nil, Below.refl _ _⟩
  case round =>
    obtain ⟨q, hq, rfl, hown, hbel⟩ := hrel
    have HO := Lib.hid hown
    have HB := Lib.hid hbel
    clear hown hbel
    have p104 := LIFT.out _ HB.out _ _ Q104.out
    by_cases hlt : q < gs.length
    · have hv := List.getElem?_eq_getElem hlt
      generalize gs[q] = u at hv
      obtain ⟨x, hx, hc⟩ := (Hgr.out.1.below S0.out.bel).at hv
      have hok := (Hgr.out.2 u (List.mem_of_getElem? hv)).below S0.out.bel
      have HD : Hid (T.groups[q]? = some u.data) := Lib.hid (by rw [← Hgd.out, List.getElem?_map, hv]; rfl)
      have hsm := SM.out.rows u.data (by rw [← Hgd.out]; exact List.mem_map.2 ⟨u, List.mem_of_getElem? hv, rfl⟩)
      obtain ⟨l0, l1, ⟨a0, cap0⟩, ⟨a1, cap1⟩⟩ := u
      have hl0 : l0.length ≤ 1000 := hsm.1
      have hl1 : l1.length ≤ 1000 := hsm.2
      have K0 := hok.1.len
      have K1 := hok.2.len
      unfold maxLen at K0 K1
      have H0 := Lib.hid hok.1
      have H1 := Lib.hid hok.2
      have QQ : Hid (w1.cell? ⟨w.heap.size, 104, none⟩ = some (.slice (some x) gs.length h.g.cap)) := by have := Q104.out; simp only [Sl.val, hx] at this; exact this
      have c0 := hc 0 _ rfl
      have c1 := hc 1 _ rfl
      rw [add_zero] at c0
      rw [add_one] at c1
      have HC0 := Lib.hid c0
      have HC1 := Lib.hid c1
      clear hv hc hok hx c0 c1 hsm
      go_wp2_with fail
      clear p104
      go_loopw [3, 5] (fun v k wk => ∃ r : Nat, r ≤ 2 ∧ k = .int .i64 r ∧ OwnsS w1.heap.size wk v (allS 0 (T.groups.take q) ++ ((if 0 < r then rowS q 0 0 l0 else []) ++ (if 1 < r then rowS q 1 0 l1 else []))) ∧ Below w1.heap.size w1 wk) (fun _ k _ => 2 - (intOf k).toNat)
      case atStart => exact ⟨0, by omega, rfl, by simpa using HO.out, HB.out⟩
      case round =>
        obtain ⟨r, hr, rfl, hown, hbel⟩ := hrel
        have HOr := Lib.hid hown
        have HBr := Lib.hid hbel
        clear hown hbel
        have hr2 : r = 0 ∨ r = 1 ∨ r = 2 := by omega
        rcases hr2 with rfl | rfl | rfl
        · rw [show ((0 : Nat) : Int) = (0 : Int) from rfl]
          have HO1 : Hid (OwnsS w1.heap.size wr u3 (allS 0 (T.groups.take q))) := Lib.hid (by simpa using HOr.out)
          clear HOr
          have LN : Hid ((allS 0 (T.groups.take q)).length ≤ 2002000) := Lib.hid (by have := LEN.out q; have h2 := rowS_len q 0 0 l0; (try rw [List.length_append]); omega)
          go_wp2_with fail
          go_loopw [3, 6] (fun v i wj => ∃ j : Nat, j ≤ l0.length ∧ i = .int .i64 j ∧ OwnsS w1.heap.size wj v (allS 0 (T.groups.take q) ++ rowS q 0 0 (l0.take j)) ∧ Below w1.heap.size w1 wj) (fun _ i _ => l0.length - (intOf i).toNat)
          case atStart => exact ⟨0, by omega, rfl, by simpa [rowS] using HO1.out, HBr.out⟩
          case round =>
            obtain ⟨j, hj, rfl, hown, hbel⟩ := hrel
            have HOj := Lib.hid hown
            have HBj := Lib.hid hbel
            clear hown hbel
            have p104 := LIFT.out _ HBj.out _ _ QQ.out
            by_cases hjl : j < l0.length
            · have hv := List.getElem?_eq_getElem hjl
              generalize l0[j] = p at hv
              obtain ⟨y, hy, hp⟩ := IntRow.at (H0.out.below HBj.out) hv
              obtain rfl : a0 = some y := hy
              have p0 : wr.cell? _ = some (.slice (some y) l0.length cap0) := LIFT.out _ HBj.out _ _ HC0.out
              have HV := Lib.hid hv
              clear hv
              have hsz := HBj.out.size
              by_cases hp8 : 0 ≤ p ∧ p < 8
              · obtain ⟨hp0, hp1⟩ := hp8
                have HS : Hid (allS 0 (T.groups.take q) ++ rowS q 0 0 (l0.take (j + 1)) = (allS 0 (T.groups.take q) ++ rowS q 0 0 (l0.take j)) ++ [⟨q, 0, j, p⟩]) := Lib.hid (by rw [row_hit HV.out hp0 hp1, ← List.append_assoc])
                have hlen : (allS 0 (T.groups.take q) ++ rowS q 0 0 (l0.take j)).length ≤ 2003000 := by have := LN.out; have h2 := rowS_len q 0 0 (l0.take j); rw [List.length_append]; rw [List.length_take] at h2; omega
                have hown := HOj.out
                generalize allS 0 (T.groups.take q) ++ rowS q 0 0 (l0.take j) = P1 at hown hlen HS
                have hown2 : wr.ownsRow w1.heap.size 55 4 u3 P1.length (P1.flatMap Spt.cells) := hown
                clear hown HOj
                go_wp2_with (at_builtin; refine wpList_append_own _ rfl _ _ 52 rfl w1.heap.size 55 i0 (.agg #[I 0, I 0, I 0, I 0]) 4 32 Tryz.underlying52 hi hz0 hz1 hz2 rfl (by decide) _ _ _ rfl (hown2.alloc _) ⟨wr.heap.size, 0, none⟩ 1 1 (Spt.cells ⟨q, 0, j, p⟩) rfl rfl ?c1 ?c2 ?c3 ?c4 ?c5 ?_)
                case c1 =>
                  intro m u hm
                  match m, hm with
                  | 0, hm | 1, hm | 2, hm | 3, hm => simp [Spt.cells] at hm; subst hm; simp [Addr.add]
                case c2 => intro u hu; simp [Spt.cells] at hu; rcases hu with rfl | rfl | rfl | rfl <;> rfl
                case c3 => unfold maxLen; omega
                case c4 => omega
                case c5 => simp; omega
                intro v' w2 hown' hgrow hnil'
                have HB2 : Hid (Below w1.heap.size w1 w2) := Lib.hid ((HBj.out.alloc hsz _).grown hgrow (by simp; omega) fun m hm => (show OwnsS w1.heap.size wr u3 P1 from hown2).blk m hm)
                have HO2 : Hid (OwnsS w1.heap.size w2 v' (P1 ++ [⟨q, 0, j, p⟩])) := Lib.hid (Owns.snoc hown')
                clear hown' hgrow hown2 hnil'
                go_wp2
                go_roundw
                case rel => exact ⟨j + 1, by omega, by go_num, by rw [HS.out]; exact HO2.out, HB2.out⟩
                case measure => simp [intOf]; omega
              · have HS : Hid (allS 0 (T.groups.take q) ++ rowS q 0 0 (l0.take (j + 1)) = allS 0 (T.groups.take q) ++ rowS q 0 0 (l0.take j)) := Lib.hid (by rw [row_miss HV.out hp8])
                by_cases hp0 : 0 ≤ p
                · have hp1 : ¬ p < 8 := fun h => hp8 ⟨hp0, h⟩
                  clear hp8
                  go_wp2
                  go_roundw
                  case rel => exact ⟨j + 1, by omega, by go_num, by rw [HS.out]; exact HOj.out, HBj.out⟩
                  case measure => simp [intOf]; omega
                · clear hp8
                  go_wp2
                  go_roundw
                  case rel => exact ⟨j + 1, by omega, by go_num, by rw [HS.out]; exact HOj.out, HBj.out⟩
                  case measure => simp [intOf]; omega
            · have p0 : wr.cell? _ = some (.slice a0 l0.length cap0) := LIFT.out _ HBj.out _ _ HC0.out
              have HE : Hid (rowS q 0 0 (l0.take j) = rowS q 0 0 l0) := Lib.hid (by rw [List.take_of_length_le (by omega)])
              go_wp2
              go_roundw
              case rel => exact ⟨0 + 1, by omega, by go_num, by have := HOj.out; rw [HE.out] at this; simpa using this, HBj.out⟩
              case measure => simp [intOf]
        · rw [show ((1 : Nat) : Int) = (1 : Int) from rfl]
          have HO1 : Hid (OwnsS w1.heap.size wr u3 (allS 0 (T.groups.take q) ++ rowS q 0 0 l0)) := Lib.hid (by simpa using HOr.out)
          clear HOr
          have LN : Hid ((allS 0 (T.groups.take q) ++ rowS q 0 0 l0).length ≤ 2002000) := Lib.hid (by have := LEN.out q; have h2 := rowS_len q 0 0 l0; (try rw [List.length_append]); omega)
          go_wp2_with fail
          go_loopw [3, 6] (fun v i wj => ∃ j : Nat, j ≤ l1.length ∧ i = .int .i64 j ∧ OwnsS w1.heap.size wj v (allS 0 (T.groups.take q) ++ rowS q 0 0 l0 ++ rowS q 1 0 (l1.take j)) ∧ Below w1.heap.size w1 wj) (fun _ i _ => l1.length - (intOf i).toNat)
          case atStart => exact ⟨0, by omega, rfl, by simpa [rowS] using HO1.out, HBr.out⟩
          case round =>
            obtain ⟨j, hj, rfl, hown, hbel⟩ := hrel
            have HOj := Lib.hid hown
            have HBj := Lib.hid hbel
            clear hown hbel
            have p104 := LIFT.out _ HBj.out _ _ QQ.out
            by_cases hjl : j < l1.length
            · have hv := List.getElem?_eq_getElem hjl
              generalize l1[j] = p at hv
              obtain ⟨y, hy, hp⟩ := IntRow.at (H1.out.below HBj.out) hv
              obtain rfl : a1 = some y := hy
              have p0 : wr.cell? _ = some (.slice (some y) l1.length cap1) := LIFT.out _ HBj.out _ _ HC1.out
              have HV := Lib.hid hv
              clear hv
              have hsz := HBj.out.size
              by_cases hp8 : 0 ≤ p ∧ p < 8
              · obtain ⟨hp0, hp1⟩ := hp8
                have HS : Hid (allS 0 (T.groups.take q) ++ rowS q 0 0 l0 ++ rowS q 1 0 (l1.take (j + 1)) = (allS 0 (T.groups.take q) ++ rowS q 0 0 l0 ++ rowS q 1 0 (l1.take j)) ++ [⟨q, 1, j, p⟩]) := Lib.hid (by rw [row_hit HV.out hp0 hp1, ← List.append_assoc])
                have hlen : (allS 0 (T.groups.take q) ++ rowS q 0 0 l0 ++ rowS q 1 0 (l1.take j)).length ≤ 2003000 := by have := LN.out; have h2 := rowS_len q 1 0 (l1.take j); rw [List.length_append]; rw [List.length_take] at h2; omega
                have hown := HOj.out
                generalize allS 0 (T.groups.take q) ++ rowS q 0 0 l0 ++ rowS q 1 0 (l1.take j) = P1 at hown hlen HS
                have hown2 : wr.ownsRow w1.heap.size 55 4 u3 P1.length (P1.flatMap Spt.cells) := hown
                clear hown HOj
                go_wp2_with (at_builtin; refine wpList_append_own _ rfl _ _ 52 rfl w1.heap.size 55 i0 (.agg #[I 0, I 0, I 0, I 0]) 4 32 Tryz.underlying52 hi hz0 hz1 hz2 rfl (by decide) _ _ _ rfl (hown2.alloc _) ⟨wr.heap.size, 0, none⟩ 1 1 (Spt.cells ⟨q, 1, j, p⟩) rfl rfl ?c1 ?c2 ?c3 ?c4 ?c5 ?_)
                case c1 =>
                  intro m u hm
                  match m, hm with
                  | 0, hm | 1, hm | 2, hm | 3, hm => simp [Spt.cells] at hm; subst hm; simp [Addr.add]
                case c2 => intro u hu; simp [Spt.cells] at hu; rcases hu with rfl | rfl | rfl | rfl <;> rfl
                case c3 => unfold maxLen; omega
                case c4 => omega
                case c5 => simp; omega
                intro v' w2 hown' hgrow hnil'
                have HB2 : Hid (Below w1.heap.size w1 w2) := Lib.hid ((HBj.out.alloc hsz _).grown hgrow (by simp; omega) fun m hm => (show OwnsS w1.heap.size wr u3 P1 from hown2).blk m hm)
                have HO2 : Hid (OwnsS w1.heap.size w2 v' (P1 ++ [⟨q, 1, j, p⟩])) := Lib.hid (Owns.snoc hown')
                clear hown' hgrow hown2 hnil'
                go_wp2
                go_roundw
                case rel => exact ⟨j + 1, by omega, by go_num, by rw [HS.out]; exact HO2.out, HB2.out⟩
                case measure => simp [intOf]; omega
              · have HS : Hid (allS 0 (T.groups.take q) ++ rowS q 0 0 l0 ++ rowS q 1 0 (l1.take (j + 1)) = allS 0 (T.groups.take q) ++ rowS q 0 0 l0 ++ rowS q 1 0 (l1.take j)) := Lib.hid (by rw [row_miss HV.out hp8])
                by_cases hp0 : 0 ≤ p
                · have hp1 : ¬ p < 8 := fun h => hp8 ⟨hp0, h⟩
                  clear hp8
                  go_wp2
                  go_roundw
                  case rel => exact ⟨j + 1, by omega, by go_num, by rw [HS.out]; exact HOj.out, HBj.out⟩
                  case measure => simp [intOf]; omega
                · clear hp8
                  go_wp2
                  go_roundw
                  case rel => exact ⟨j + 1, by omega, by go_num, by rw [HS.out]; exact HOj.out, HBj.out⟩
                  case measure => simp [intOf]; omega
            · have p0 : wr.cell? _ = some (.slice a1 l1.length cap1) := LIFT.out _ HBj.out _ _ HC1.out
              have HE : Hid (rowS q 1 0 (l1.take j) = rowS q 1 0 l1) := Lib.hid (by rw [List.take_of_length_le (by omega)])
              go_wp2
              go_roundw
              case rel => exact ⟨1 + 1, by omega, by go_num, by have := HOj.out; rw [HE.out] at this; simpa using this, HBj.out⟩
              case measure => simp [intOf]
        · have HN : Hid (allS 0 (T.groups.take (q + 1)) = allS 0 (T.groups.take q) ++ (rowS q 0 0 l0 ++ rowS q 1 0 l1)) := Lib.hid (all_step HD.out)
          go_wp2
          go_roundw
          case rel => exact ⟨q + 1, by omega, by go_num, by rw [HN.out]; simpa using HOr.out, HBr.out⟩
          case measure => simp [intOf]; omega
    · have HE : Hid (allS 0 (T.groups.take q) = spots T) := Lib.hid (by rw [List.take_of_length_le (by rw [Hgl.out]; omega)]; rfl)
      obtain ⟨s, hs, hrow, hty⟩ := own_row_t HO.out
      rw [HE.out] at hs hrow
      have HR := Lib.hid hrow
      have HT := Lib.hid hty
      have HF : Hid (Below w.heap.size w wr) := Lib.hid (S0.out.bel.trans (HB.out.mono S0.out.bel.size))
      clear hrow hty HE
      subst hs
      go_wp2
      go_ret
      exact ⟨s, rfl, HR.out, HT.out, HF.out⟩
theorem spots_any (T : Tab) (h : Hd) (w : World) (ht : IsTab w h T) (sm : Few T) :
    Calls Tryz.prog 18 #[.agg (T.cells h).toArray] w fun e w' => ∃ s : Sl, e = .returned (s.val (spots T).length) ∧ RowOf 4 Spt.cells w' s (spots T) ∧ Below w.heap.size w w' := by
  refine (spots_typed T h w ht sm).mono ?_
  rintro e w' ⟨s, h1, h2, _, h3⟩
  exact ⟨s, h1, h2, h3⟩
end Go.Proofs.YtjolhoilcibdfaaGreat.Spots
/- The contract of the document's Serve. -/
namespace Go.Proofs.YtjolhoilcibdfaaGreat.ServeS
open Go.ChangeShapes Go.WideShapes Go.ChangeAt Go.RowKit
open Tab Gath OnS RefC Clear
open RefS (rhas_any)
open May (St phases_in infoP infoT row_new)
set_option linter.unusedVariables false
set_option linter.unusedSimpArgs false
def serveR (T : Tab) (x : Ph) : Int := sums [mosts [cap x.min, sums [x.walk, x.blinks], cap x.top], T.extend, x.yellow, x.red, T.revert, 8]
def serveS (T : Tab) (p : Int) : Int := if SetM.has (onS T : Nat) p then serveR T (phAt T p) else 0
theorem most_len (a : Option Addr) (cap : Nat) (L : List Int) (n : Nat) (hn : L.length = n) (w : World) (h : IntRow w ⟨a, cap⟩ L) :
    Calls Tryz.prog 61 #[.slice a n cap] w fun e w' => e = .returned (.int .i64 (mosts L)) ∧ w = w' := by
  subst hn; exact most_row a cap L w h
set_option maxRecDepth 100000 in
set_option maxHeartbeats 8000000 in
theorem serve_any (T : Tab) (h : Hd) (p : Int) (w : World) (ht : IsTab w h T) :
    Calls Tryz.prog 26 #[.agg (T.cells h).toArray, .int .i64 p] w fun e w' => e = .returned (.int .i64 (serveS T p)) ∧ Below w.heap.size w w' := by
  have C := Lib.hid (cells_ok ht)
  have hsz := C.out.size
  have IA : Hid ((Tryz.prog.info? 32).map (·.size) = some (T.cells h).length) := Lib.hid (by rw [List.size_toArray] at hsz; rw [hsz]; exact infoT)
  have ON : Hid (∀ W, Below w.heap.size w W → Calls Tryz.prog 22 #[.agg (T.cells h).toArray] W fun e w' => e = .returned (.int .i64 (onS T : Nat)) ∧ Below W.heap.size W w') := Lib.hid (fun W hb => on_any T h W (ht.below hb))
  have L8 := Lib.hid ht.ph
  have S0 := Lib.hid (St.box (cs := (T.cells h).toArray) ht)
  have RS : Hid (serveS T p = if SetM.has (onS T : Nat) p then serveR T (phAt T p) else 0) := Lib.hid rfl
  generalize serveS T p = e0 at RS ⊢
  generalize ((onS T : Nat) : Int) = os at RS ON
  clear ht
  generalize T.cells h = c at *
  go_enter Tryz.func26, Tryz.ntmps26
  go_upto_region 1 with fail
  generalize w.alloc (.cells c.toArray 32) = w1 at S0 ⊢
  clear hsz
  have LT : Hid (Lies w1 ⟨w.heap.size, 0, none⟩ c) := Lib.hid (by have := Row.lies_of_block S0.out.blk; simpa using this)
  go_wp2_with (refine Row.wpList_load_g 32 _ rfl (by first | rfl | go_simp) ⟨w.heap.size, 0, none⟩ rfl c _ LT.out Tryz.underlying32 rfl IA.out ?_)
  refine (ON.out _ S0.out.bel).mono ?_
  rintro e w2 ⟨rfl, hb⟩
  have S2 := Lib.hid (S0.out.step hb)
  clear hb S0 LT ON IA
  go_wp2_with fail
  refine (rhas_any os p _).mono ?_
  rintro e w' ⟨rfl, rfl⟩
  by_cases hh : SetM.has os p = true
  rotate_left
  · have h2 : SetM.has os p = false := by simpa using hh
    have HE : Hid (0 = e0) := Lib.hid (by rw [RS.out, h2]; rfl)
    rw [h2]
    clear hh h2
    go_wp2
    go_ret
    exact ⟨RefC.ret_int HE.out, S2.out.bel⟩
  have HE : Hid (serveR T (phAt T p) = e0) := Lib.hid (by rw [RS.out, hh]; rfl)
  have hbd := SetM.list_bd os p ((SetM.mem_list os p).2 hh)
  rw [hh]
  clear hh RS
  obtain ⟨p0, p8⟩ := hbd
  obtain ⟨k, rfl⟩ := Int.eq_ofNat_of_zero_le p0
  have hk : k < 8 := by omega
  have hv : T.phases[k]? = some (phAt T k) := by
    unfold phAt
    rw [Int.toNat_natCast, List.getD_eq_getElem?_getD, List.getElem?_eq_getElem (by rw [L8.out]; exact hk)]; rfl
  generalize phAt T k = u at hv HE
  have ER : Hid (serveR T u = sums [mosts [cap u.min, sums [u.walk, u.blinks], cap u.top], T.extend, u.yellow, u.red, T.revert, 8]) := Lib.hid rfl
  generalize serveR T u = sr at HE ER
  obtain ⟨y, hy, hcc⟩ := (phases_in S2.out.blk C.out L8.out).at hv
  obtain rfl := Option.some.inj hy
  have HC := Lib.hid (show Lies w2 ⟨w.heap.size, k * 13, none⟩ u.cells by have := hcc; rwa [Addr.add_mid, Nat.zero_add] at this)
  clear hv hcc hy
  go_upto_region 3 with fail
  go_upto_region 4 with (first | (refine Row.wpList_load_g 24 _ rfl (by first | rfl | go_simp) ⟨w.heap.size, k * 13, none⟩ rfl u.cells _ HC.out Tryz.underlying24 rfl infoP ?_) | (refine Row.wpList_store_new rfl 24 _ _ rfl w2 _ u.cells.toArray rfl rfl rfl infoP rfl (Ph.one _) ?_))
  (try dsimp only [Act.put])
  have hb2 : Below w2.heap.size w2 (w2.alloc (.cells u.cells.toArray 24)) := (Below.refl _ _).alloc (Nat.le_refl _) _
  have hg := heap_alloc_new w2 (.cells u.cells.toArray 24)
  have S3 := Lib.hid (S2.out.step hb2)
  clear HC hb2 S2
  generalize World.alloc w2 _ = w3 at hg S3 ⊢
  generalize w2.heap.size = b at hg ⊢
  have HL : Hid (Lies w3 ⟨b, 0, none⟩ u.cells) := Lib.hid (by have := Row.lies_of_block hg; simpa using this)
  clear hg
  have M1 : Hid (∀ w', Below w3.heap.size w3 w' → w'.cell? ⟨b, 1, none⟩ = some (I u.min)) := Lib.hid (fun w' hb => by have := (HL.out.below hb) 1 _ rfl; rwa [Addr.add_mid, Nat.zero_add] at this)
  have M8 : Hid (∀ w', Below w3.heap.size w3 w' → w'.cell? ⟨b, 8, none⟩ = some (I u.walk)) := Lib.hid (fun w' hb => by have := (HL.out.below hb) 8 _ rfl; rwa [Addr.add_mid, Nat.zero_add] at this)
  have M9 : Hid (∀ w', Below w3.heap.size w3 w' → w'.cell? ⟨b, 9, none⟩ = some (I u.blinks)) := Lib.hid (fun w' hb => by have := (HL.out.below hb) 9 _ rfl; rwa [Addr.add_mid, Nat.zero_add] at this)
  have M4 : Hid (∀ w', Below w3.heap.size w3 w' → w'.cell? ⟨b, 4, none⟩ = some (I u.top)) := Lib.hid (fun w' hb => by have := (HL.out.below hb) 4 _ rfl; rwa [Addr.add_mid, Nat.zero_add] at this)
  have M6 : Hid (∀ w', Below w3.heap.size w3 w' → w'.cell? ⟨b, 6, none⟩ = some (I u.yellow)) := Lib.hid (fun w' hb => by have := (HL.out.below hb) 6 _ rfl; rwa [Addr.add_mid, Nat.zero_add] at this)
  have M7 : Hid (∀ w', Below w3.heap.size w3 w' → w'.cell? ⟨b, 7, none⟩ = some (I u.red)) := Lib.hid (fun w' hb => by have := (HL.out.below hb) 7 _ rfl; rwa [Addr.add_mid, Nat.zero_add] at this)
  have dME := S3.out.cell C.out.extend
  have ME := Lib.hid (fun w' (hb : Below w3.heap.size w3 w') => (hb.cell (World.block_lt_of_cell? w3 _ dME)).trans dME)
  clear dME
  have dMR := S3.out.cell C.out.revert
  have MR := Lib.hid (fun w' (hb : Below w3.heap.size w3 w') => (hb.cell (World.block_lt_of_cell? w3 _ dMR)).trans dMR)
  clear dMR
  refine wp_region_held (S := fun w' => Below w3.heap.size w3 w') (by kernel_rfl) ?_
  have hS : Below w3.heap.size w3 { w3 with drawn := w3.drawn + 1 } := (Below.refl _ _).drew
  generalize ({ w3 with drawn := w3.drawn + 1 } : World) = v at hS ⊢
  refine Held.take (i := 0) (some 15) rfl (v := ?_) rfl (by kernel_rfl) (by kernel_rfl) (by kernel_rfl) (fun _ _ _ h => h) (Or.inl ⟨by rfl, ?_⟩) hS ?_
  rotate_left
  · intro w' hw'
    go_simp
    try with_reducible rfl
  (try dsimp only [Act.put]); (try simp only [List.setIfInBounds_toArray, List.set_cons_zero, List.set_cons_succ])
  refine Held.take (i := 1) (some 16) rfl (v := ?_) rfl (by kernel_rfl) (by kernel_rfl) (by kernel_rfl) (fun _ _ _ h => h) (Or.inl ⟨by rfl, ?_⟩) hS ?_
  rotate_left
  · intro w' hw'
    have cf := M1.out w' hw'
    go_simp
    try with_reducible rfl
  (try dsimp only [Act.put]); (try simp only [List.setIfInBounds_toArray, List.set_cons_zero, List.set_cons_succ])
  refine Held.take (i := 3) (some 18) rfl (v := ?_) rfl (by kernel_rfl) (by kernel_rfl) (by kernel_rfl) (fun _ _ _ h => h) (Or.inl ⟨by rfl, ?_⟩) hS ?_
  rotate_left
  · intro w' hw'
    go_simp
    try with_reducible rfl
  (try dsimp only [Act.put]); (try simp only [List.setIfInBounds_toArray, List.set_cons_zero, List.set_cons_succ])
  refine Held.take (i := 4) (some 19) rfl (v := ?_) rfl (by kernel_rfl) (by kernel_rfl) (by kernel_rfl) (fun _ _ _ h => h) (Or.inl ⟨by rfl, ?_⟩) hS ?_
  rotate_left
  · intro w' hw'
    have cf := M8.out w' hw'
    go_simp
    try with_reducible rfl
  (try dsimp only [Act.put]); (try simp only [List.setIfInBounds_toArray, List.set_cons_zero, List.set_cons_succ])
  refine Held.take (i := 5) (some 20) rfl (v := ?_) rfl (by kernel_rfl) (by kernel_rfl) (by kernel_rfl) (fun _ _ _ h => h) (Or.inl ⟨by rfl, ?_⟩) hS ?_
  rotate_left
  · intro w' hw'
    go_simp
    try with_reducible rfl
  (try dsimp only [Act.put]); (try simp only [List.setIfInBounds_toArray, List.set_cons_zero, List.set_cons_succ])
  refine Held.take (i := 6) (some 21) rfl (v := ?_) rfl (by kernel_rfl) (by kernel_rfl) (by kernel_rfl) (fun _ _ _ h => h) (Or.inl ⟨by rfl, ?_⟩) hS ?_
  rotate_left
  · intro w' hw'
    have cf := M9.out w' hw'
    go_simp
    try with_reducible rfl
  (try dsimp only [Act.put]); (try simp only [List.setIfInBounds_toArray, List.set_cons_zero, List.set_cons_succ])
  refine Held.take (i := 9) (some 24) rfl (v := ?_) rfl (by kernel_rfl) (by kernel_rfl) (by kernel_rfl) (fun _ _ _ h => h) (Or.inl ⟨by rfl, ?_⟩) hS ?_
  rotate_left
  · intro w' hw'
    go_simp
    try with_reducible rfl
  (try dsimp only [Act.put]); (try simp only [List.setIfInBounds_toArray, List.set_cons_zero, List.set_cons_succ])
  refine Held.take (i := 10) (some 25) rfl (v := ?_) rfl (by kernel_rfl) (by kernel_rfl) (by kernel_rfl) (fun _ _ _ h => h) (Or.inl ⟨by rfl, ?_⟩) hS ?_
  rotate_left
  · intro w' hw'
    have cf := M4.out w' hw'
    go_simp
    try with_reducible rfl
  (try dsimp only [Act.put]); (try simp only [List.setIfInBounds_toArray, List.set_cons_zero, List.set_cons_succ])
  refine Held.take (i := 14) (some 29) rfl (v := ?_) rfl (by kernel_rfl) (by kernel_rfl) (by kernel_rfl) (fun _ _ _ h => h) (Or.inl ⟨by rfl, ?_⟩) hS ?_
  rotate_left
  · intro w' hw'
    go_simp
    try with_reducible rfl
  (try dsimp only [Act.put]); (try simp only [List.setIfInBounds_toArray, List.set_cons_zero, List.set_cons_succ])
  refine Held.take (i := 15) (some 30) rfl (v := ?_) rfl (by kernel_rfl) (by kernel_rfl) (by kernel_rfl) (fun _ _ _ h => h) (Or.inl ⟨by rfl, ?_⟩) hS ?_
  rotate_left
  · intro w' hw'
    have cf := ME.out w' hw'
    go_simp
    try with_reducible rfl
  (try dsimp only [Act.put]); (try simp only [List.setIfInBounds_toArray, List.set_cons_zero, List.set_cons_succ])
  refine Held.take (i := 16) (some 31) rfl (v := ?_) rfl (by kernel_rfl) (by kernel_rfl) (by kernel_rfl) (fun _ _ _ h => h) (Or.inl ⟨by rfl, ?_⟩) hS ?_
  rotate_left
  · intro w' hw'
    go_simp
    try with_reducible rfl
  (try dsimp only [Act.put]); (try simp only [List.setIfInBounds_toArray, List.set_cons_zero, List.set_cons_succ])
  refine Held.take (i := 17) (some 32) rfl (v := ?_) rfl (by kernel_rfl) (by kernel_rfl) (by kernel_rfl) (fun _ _ _ h => h) (Or.inl ⟨by rfl, ?_⟩) hS ?_
  rotate_left
  · intro w' hw'
    have cf := M6.out w' hw'
    go_simp
    try with_reducible rfl
  (try dsimp only [Act.put]); (try simp only [List.setIfInBounds_toArray, List.set_cons_zero, List.set_cons_succ])
  refine Held.take (i := 18) (some 33) rfl (v := ?_) rfl (by kernel_rfl) (by kernel_rfl) (by kernel_rfl) (fun _ _ _ h => h) (Or.inl ⟨by rfl, ?_⟩) hS ?_
  rotate_left
  · intro w' hw'
    go_simp
    try with_reducible rfl
  (try dsimp only [Act.put]); (try simp only [List.setIfInBounds_toArray, List.set_cons_zero, List.set_cons_succ])
  refine Held.take (i := 19) (some 34) rfl (v := ?_) rfl (by kernel_rfl) (by kernel_rfl) (by kernel_rfl) (fun _ _ _ h => h) (Or.inl ⟨by rfl, ?_⟩) hS ?_
  rotate_left
  · intro w' hw'
    have cf := M7.out w' hw'
    go_simp
    try with_reducible rfl
  (try dsimp only [Act.put]); (try simp only [List.setIfInBounds_toArray, List.set_cons_zero, List.set_cons_succ])
  refine Held.take (i := 20) (some 35) rfl (v := ?_) rfl (by kernel_rfl) (by kernel_rfl) (by kernel_rfl) (fun _ _ _ h => h) (Or.inl ⟨by rfl, ?_⟩) hS ?_
  rotate_left
  · intro w' hw'
    go_simp
    try with_reducible rfl
  (try dsimp only [Act.put]); (try simp only [List.setIfInBounds_toArray, List.set_cons_zero, List.set_cons_succ])
  refine Held.take (i := 21) (some 36) rfl (v := ?_) rfl (by kernel_rfl) (by kernel_rfl) (by kernel_rfl) (fun _ _ _ h => h) (Or.inl ⟨by rfl, ?_⟩) hS ?_
  rotate_left
  · intro w' hw'
    have cf := MR.out w' hw'
    go_simp
    try with_reducible rfl
  (try dsimp only [Act.put]); (try simp only [List.setIfInBounds_toArray, List.set_cons_zero, List.set_cons_succ])
  refine wpAnyH_ready (rs := [2, 7]) (by kernel_rfl) (by simp) (AllReadyH.cons rfl (fun K hK => ?_) (AllReadyH.cons rfl (fun K hK => ?_) AllReadyH.nil))
  · go_simp
    refine (rcap_any u.min _).mono ?_
    rintro e w' ⟨rfl, rfl⟩
    go_simp
    refine hK.out _ _ hS (fun hS => ?_)
    clear hK K
    refine wpAnyH_ready (rs := [7]) (by kernel_rfl) (by simp) (AllReadyH.cons rfl (fun K hK => ?_) AllReadyH.nil)
    go_simp
    have R1 : Hid (IntRow (v.alloc (.cells #[I u.walk, I u.blinks] 3)) ⟨some ⟨v.heap.size, 0, none⟩, 2⟩ [u.walk, u.blinks]) := Lib.hid (row_new v 3 [u.walk, u.blinks] 2 rfl (by decide) _ rfl)
    have hq := hS.alloc hS.size (.cells #[I u.walk, I u.blinks] 3)
    have hbv : Below v.heap.size v (v.alloc (.cells #[I u.walk, I u.blinks] 3)) := (Below.refl _ _).alloc (Nat.le_refl _) _
    clear hS
    generalize v.heap.size = b1 at R1 ⊢
    generalize World.alloc v _ = v at R1 hq ⊢
    refine hK.out _ _ hq (fun hS => ?_)
    clear hK K hq
    refine wpAnyH_ready (rs := [8]) (by kernel_rfl) (by simp) (AllReadyH.cons rfl (fun K hK => ?_) AllReadyH.nil)
    go_simp
    refine (sum_len (some ⟨b1, 0, none⟩) 2 [u.walk, u.blinks] 2 rfl _ R1.out).mono ?_
    rintro e w' ⟨rfl, rfl⟩
    go_simp
    refine hK.out _ _ hS (fun hS => ?_)
    clear hK K
    clear R1
    refine wpAnyH_ready (rs := [11]) (by kernel_rfl) (by simp) (AllReadyH.cons rfl (fun K hK => ?_) AllReadyH.nil)
    go_simp
    refine (rcap_any u.top _).mono ?_
    rintro e w' ⟨rfl, rfl⟩
    go_simp
    refine hK.out _ _ hS (fun hS => ?_)
    clear hK K
    refine wpAnyH_ready (rs := [12]) (by kernel_rfl) (by simp) (AllReadyH.cons rfl (fun K hK => ?_) AllReadyH.nil)
    go_simp
    have R2 : Hid (IntRow (v.alloc (.cells #[I (cap u.min), I (sums [u.walk, u.blinks]), I (cap u.top)] 3)) ⟨some ⟨v.heap.size, 0, none⟩, 3⟩ [cap u.min, sums [u.walk, u.blinks], cap u.top]) := Lib.hid (row_new v 3 [cap u.min, sums [u.walk, u.blinks], cap u.top] 3 rfl (by decide) _ rfl)
    have hq := hS.alloc hS.size (.cells #[I (cap u.min), I (sums [u.walk, u.blinks]), I (cap u.top)] 3)
    have hbv : Below v.heap.size v (v.alloc (.cells #[I (cap u.min), I (sums [u.walk, u.blinks]), I (cap u.top)] 3)) := (Below.refl _ _).alloc (Nat.le_refl _) _
    clear hS
    generalize v.heap.size = b2 at R2 ⊢
    generalize World.alloc v _ = v at R2 hq ⊢
    refine hK.out _ _ hq (fun hS => ?_)
    clear hK K hq
    refine wpAnyH_ready (rs := [13]) (by kernel_rfl) (by simp) (AllReadyH.cons rfl (fun K hK => ?_) AllReadyH.nil)
    go_simp
    refine (most_len (some ⟨b2, 0, none⟩) 3 [cap u.min, sums [u.walk, u.blinks], cap u.top] 3 rfl _ R2.out).mono ?_
    rintro e w' ⟨rfl, rfl⟩
    go_simp
    refine hK.out _ _ hS (fun hS => ?_)
    clear hK K
    clear R2
    generalize mosts [cap u.min, sums [u.walk, u.blinks], cap u.top] = mo at ER ⊢
    refine wpAnyH_ready (rs := [22]) (by kernel_rfl) (by simp) (AllReadyH.cons rfl (fun K hK => ?_) AllReadyH.nil)
    go_simp
    have R3 : Hid (IntRow (v.alloc (.cells #[I mo, I T.extend, I u.yellow, I u.red, I T.revert, I 8] 3)) ⟨some ⟨v.heap.size, 0, none⟩, 6⟩ [mo, T.extend, u.yellow, u.red, T.revert, 8]) := Lib.hid (row_new v 3 [mo, T.extend, u.yellow, u.red, T.revert, 8] 6 rfl (by decide) _ rfl)
    have hq := hS.alloc hS.size (.cells #[I mo, I T.extend, I u.yellow, I u.red, I T.revert, I 8] 3)
    have hbv : Below v.heap.size v (v.alloc (.cells #[I mo, I T.extend, I u.yellow, I u.red, I T.revert, I 8] 3)) := (Below.refl _ _).alloc (Nat.le_refl _) _
    clear hS
    generalize v.heap.size = b3 at R3 ⊢
    generalize World.alloc v _ = v at R3 hq ⊢
    refine hK.out _ _ hq (fun hS => ?_)
    clear hK K hq
    refine wpAnyH_ready (rs := [23]) (by kernel_rfl) (by simp) (AllReadyH.cons rfl (fun K hK => ?_) AllReadyH.nil)
    go_simp
    refine (sum_len (some ⟨b3, 0, none⟩) 6 [mo, T.extend, u.yellow, u.red, T.revert, 8] 6 rfl _ R3.out).mono ?_
    rintro e w' ⟨rfl, rfl⟩
    go_simp
    refine hK.out _ _ hS (fun hS => ?_)
    clear hK K
    rw [← ER.out, HE.out]
    refine Held.take (i := 24) (some 4) rfl (v := ?_) rfl (by kernel_rfl) (by kernel_rfl) (by kernel_rfl) (fun _ _ _ h => h) (Or.inl ⟨by rfl, ?_⟩) hS ?_
    rotate_left
    · intro w' hw'
      go_simp
      try with_reducible rfl
    (try dsimp only [Act.put]); (try simp only [List.setIfInBounds_toArray, List.set_cons_zero, List.set_cons_succ])
    refine wpAnyH_done (by kernel_rfl) ?_ _
    have HF := Lib.hid (S3.out.bel.trans (hS.mono S3.out.bel.size))
    clear hS
    go_wp2
    go_ret
    exact ⟨rfl, HF.out⟩
  · go_simp
    have R1 : Hid (IntRow (v.alloc (.cells #[I u.walk, I u.blinks] 3)) ⟨some ⟨v.heap.size, 0, none⟩, 2⟩ [u.walk, u.blinks]) := Lib.hid (row_new v 3 [u.walk, u.blinks] 2 rfl (by decide) _ rfl)
    have hq := hS.alloc hS.size (.cells #[I u.walk, I u.blinks] 3)
    have hbv : Below v.heap.size v (v.alloc (.cells #[I u.walk, I u.blinks] 3)) := (Below.refl _ _).alloc (Nat.le_refl _) _
    clear hS
    generalize v.heap.size = b1 at R1 ⊢
    generalize World.alloc v _ = v at R1 hq ⊢
    refine hK.out _ _ hq (fun hS => ?_)
    clear hK K hq
    refine wpAnyH_ready (rs := [2]) (by kernel_rfl) (by simp) (AllReadyH.cons rfl (fun K hK => ?_) AllReadyH.nil)
    go_simp
    refine (rcap_any u.min _).mono ?_
    rintro e w' ⟨rfl, rfl⟩
    go_simp
    refine hK.out _ _ hS (fun hS => ?_)
    clear hK K
    refine wpAnyH_ready (rs := [8]) (by kernel_rfl) (by simp) (AllReadyH.cons rfl (fun K hK => ?_) AllReadyH.nil)
    go_simp
    refine (sum_len (some ⟨b1, 0, none⟩) 2 [u.walk, u.blinks] 2 rfl _ R1.out).mono ?_
    rintro e w' ⟨rfl, rfl⟩
    go_simp
    refine hK.out _ _ hS (fun hS => ?_)
    clear hK K
    clear R1
    refine wpAnyH_ready (rs := [11]) (by kernel_rfl) (by simp) (AllReadyH.cons rfl (fun K hK => ?_) AllReadyH.nil)
    go_simp
    refine (rcap_any u.top _).mono ?_
    rintro e w' ⟨rfl, rfl⟩
    go_simp
    refine hK.out _ _ hS (fun hS => ?_)
    clear hK K
    refine wpAnyH_ready (rs := [12]) (by kernel_rfl) (by simp) (AllReadyH.cons rfl (fun K hK => ?_) AllReadyH.nil)
    go_simp
    have R2 : Hid (IntRow (v.alloc (.cells #[I (cap u.min), I (sums [u.walk, u.blinks]), I (cap u.top)] 3)) ⟨some ⟨v.heap.size, 0, none⟩, 3⟩ [cap u.min, sums [u.walk, u.blinks], cap u.top]) := Lib.hid (row_new v 3 [cap u.min, sums [u.walk, u.blinks], cap u.top] 3 rfl (by decide) _ rfl)
    have hq := hS.alloc hS.size (.cells #[I (cap u.min), I (sums [u.walk, u.blinks]), I (cap u.top)] 3)
    have hbv : Below v.heap.size v (v.alloc (.cells #[I (cap u.min), I (sums [u.walk, u.blinks]), I (cap u.top)] 3)) := (Below.refl _ _).alloc (Nat.le_refl _) _
    clear hS
    generalize v.heap.size = b2 at R2 ⊢
    generalize World.alloc v _ = v at R2 hq ⊢
    refine hK.out _ _ hq (fun hS => ?_)
    clear hK K hq
    refine wpAnyH_ready (rs := [13]) (by kernel_rfl) (by simp) (AllReadyH.cons rfl (fun K hK => ?_) AllReadyH.nil)
    go_simp
    refine (most_len (some ⟨b2, 0, none⟩) 3 [cap u.min, sums [u.walk, u.blinks], cap u.top] 3 rfl _ R2.out).mono ?_
    rintro e w' ⟨rfl, rfl⟩
    go_simp
    refine hK.out _ _ hS (fun hS => ?_)
    clear hK K
    clear R2
    generalize mosts [cap u.min, sums [u.walk, u.blinks], cap u.top] = mo at ER ⊢
    refine wpAnyH_ready (rs := [22]) (by kernel_rfl) (by simp) (AllReadyH.cons rfl (fun K hK => ?_) AllReadyH.nil)
    go_simp
    have R3 : Hid (IntRow (v.alloc (.cells #[I mo, I T.extend, I u.yellow, I u.red, I T.revert, I 8] 3)) ⟨some ⟨v.heap.size, 0, none⟩, 6⟩ [mo, T.extend, u.yellow, u.red, T.revert, 8]) := Lib.hid (row_new v 3 [mo, T.extend, u.yellow, u.red, T.revert, 8] 6 rfl (by decide) _ rfl)
    have hq := hS.alloc hS.size (.cells #[I mo, I T.extend, I u.yellow, I u.red, I T.revert, I 8] 3)
    have hbv : Below v.heap.size v (v.alloc (.cells #[I mo, I T.extend, I u.yellow, I u.red, I T.revert, I 8] 3)) := (Below.refl _ _).alloc (Nat.le_refl _) _
    clear hS
    generalize v.heap.size = b3 at R3 ⊢
    generalize World.alloc v _ = v at R3 hq ⊢
    refine hK.out _ _ hq (fun hS => ?_)
    clear hK K hq
    refine wpAnyH_ready (rs := [23]) (by kernel_rfl) (by simp) (AllReadyH.cons rfl (fun K hK => ?_) AllReadyH.nil)
    go_simp
    refine (sum_len (some ⟨b3, 0, none⟩) 6 [mo, T.extend, u.yellow, u.red, T.revert, 8] 6 rfl _ R3.out).mono ?_
    rintro e w' ⟨rfl, rfl⟩
    go_simp
    refine hK.out _ _ hS (fun hS => ?_)
    clear hK K
    rw [← ER.out, HE.out]
    refine Held.take (i := 24) (some 4) rfl (v := ?_) rfl (by kernel_rfl) (by kernel_rfl) (by kernel_rfl) (fun _ _ _ h => h) (Or.inl ⟨by rfl, ?_⟩) hS ?_
    rotate_left
    · intro w' hw'
      go_simp
      try with_reducible rfl
    (try dsimp only [Act.put]); (try simp only [List.setIfInBounds_toArray, List.set_cons_zero, List.set_cons_succ])
    refine wpAnyH_done (by kernel_rfl) ?_ _
    have HF := Lib.hid (S3.out.bel.trans (hS.mono S3.out.bel.size))
    clear hS
    go_wp2
    go_ret
    exact ⟨rfl, HF.out⟩
end Go.Proofs.YtjolhoilcibdfaaGreat.ServeS
/- The contract of the document's Pass. -/
namespace Go.Proofs.YtjolhoilcibdfaaGreat.PassS
open Go.ChangeShapes Go.WideShapes Go.ChangeAt Go.RowKit
open Tab PlaceM Gath OnS RefC ServeS
open Spots (Typed)
open RefS (info3)
open May (St infoT)
set_option linter.unusedVariables false
set_option linter.unusedSimpArgs false
theorem infoS : (Tryz.prog.info? 55).map (·.size) = some 4 := by kernel_rfl
theorem add_block (x : Addr) (k : Nat) : (x.add k).block = x.block := by unfold Addr.add; split <;> rfl
/-- A row lies still where another block grows. -/
theorem row_grown {α : Type} {n : Nat} {enc : α → List Value} {w w' : World} {s : Sl} {l : List α} {row : Option Nat} (h : RowOf n enc w s l) (hg : w.grownBy w' row) (hne : ∀ x, s.a = some x → some x.block ≠ row) : RowOf n enc w' s l := by
  rcases h with h | ⟨x, h1, h2, h3, h4⟩
  · exact .inl h
  · exact .inr ⟨x, h1, h2, h3, fun i v hv j u hu => hg.cell (h4 i v hv j u hu) (by rw [add_block, add_block]; exact hne x h1)⟩
theorem typed_grown {w w' : World} {s : Sl} {row : Option Nat} (h : Typed w s) (hg : w.grownBy w' row) (hne : ∀ x, s.a = some x → some x.block ≠ row) : Typed w' s := fun x hx => by
  obtain ⟨cs, hc⟩ := h x hx
  exact ⟨cs, (hg.block _ (Array.getElem?_eq_some_iff.1 hc).1 (hne x hx)).trans hc⟩
/-- Blocks of two types are two. -/
theorem typed_ne {w : World} {s : Sl} {B : Nat} {v : Value} {l : List Int} (h : Typed w s) (ho : OwnsI B w v l) : ∀ x, s.a = some x → some x.block ≠ v.ownBlock := by
  intro x hx e
  obtain ⟨cs, hc⟩ := h x hx
  rcases ho.2 with ⟨rfl, _⟩ | ⟨g, cap, cur, rfl, h1, h2, _⟩
  · simp [Value.ownBlock] at e
  · simp only [Value.ownBlock, Option.some.injEq] at e
    rw [← e, hc] at h2
    simp at h2
theorem own_one (w : World) (n : Int) : OwnsI w.heap.size (w.alloc (.cells #[I n] 3)) (.slice (some ⟨w.heap.size, 0, none⟩) 1 1) [n] :=
  ⟨rfl, .inr ⟨w.heap.size, 1, #[I n], rfl, Nat.le_refl _, heap_alloc_new w _, Nat.le_refl _, (show 1 ≤ maxLen by decide), rfl, rfl⟩⟩
def passL (T : Tab) (g : Int) (l : List Spt) : List Int := (l.filter fun x => decide ((x.g : Int) = g)).map fun x => serveS T x.p
def passS (T : Tab) (g : Int) : Int := if 0 ≤ g ∧ g < T.groups.length then sums (8 :: passL T g (spots T)) else 0
theorem pass_step {T : Tab} {g : Int} {l : List Spt} {j : Nat} {x : Spt} (h : l[j]? = some x) : passL T g (l.take (j + 1)) = passL T g (l.take j) ++ (if (x.g : Int) = g then [serveS T x.p] else []) := by
  unfold passL
  rw [PlaceM.take_succ h, List.filter_append, List.map_append]
  congr 1
  by_cases e : (x.g : Int) = g
  · simp [e]
  · simp [e]
theorem pass_len (T : Tab) (g : Int) (l : List Spt) : (passL T g l).length ≤ l.length := by
  unfold passL
  rw [List.length_map]
  exact List.length_filter_le _ _
set_option maxRecDepth 100000 in
set_option maxHeartbeats 4000000 in
theorem pass_any (T : Tab) (h : Hd) (g : Int) (w : World) (ht : IsTab w h T) (sm : Few T) :
    Calls Tryz.prog 28 #[.agg (T.cells h).toArray, .int .i64 g] w fun e w' => e = .returned (.int .i64 (passS T g)) ∧ Below w.heap.size w w' := by
  have C := Lib.hid (cells_ok ht)
  have hsz := C.out.size
  have IA : Hid ((Tryz.prog.info? 32).map (·.size) = some (T.cells h).length) := Lib.hid (by rw [List.size_toArray] at hsz; rw [hsz]; exact infoT)
  have SPC : Hid (∀ W, Below w.heap.size w W → Calls Tryz.prog 18 #[.agg (T.cells h).toArray] W fun e w' => ∃ s : Sl, e = .returned (s.val (spots T).length) ∧ RowOf 4 Spt.cells w' s (spots T) ∧ Typed w' s ∧ Below W.heap.size W w') := Lib.hid (fun W hb => Spots.spots_typed T h W (ht.below hb) sm)
  have SVC : Hid (∀ p W, Below w.heap.size w W → Calls Tryz.prog 26 #[.agg (T.cells h).toArray, .int .i64 p] W fun e w' => e = .returned (.int .i64 (serveS T p)) ∧ Below W.heap.size W w') := Lib.hid (fun p W hb => serve_any T h p W (ht.below hb))
  have SL : Hid ((spots T).length ≤ 2000000) := Lib.hid (small_len sm.groups sm.rows)
  have S0 := Lib.hid (St.box (cs := (T.cells h).toArray) ht)
  have HZ : Hid ((w.alloc (.cells (T.cells h).toArray 32)).heap.size = w.heap.size + 1) := Lib.hid (by simp)
  have RS : Hid (passS T g = if 0 ≤ g ∧ g < T.groups.length then sums (8 :: passL T g (spots T)) else 0) := Lib.hid rfl
  generalize passS T g = res at RS ⊢
  obtain ⟨i0, hi, hz0, hz1, hz2⟩ := info_parts info3
  have PS : Hid (∀ j x, (spots T)[j]? = some x → passL T g ((spots T).take (j + 1)) = passL T g ((spots T).take j) ++ (if (x.g : Int) = g then [serveS T x.p] else [])) := Lib.hid (fun j x hx => pass_step hx)
  have PL : Hid (∀ l, (passL T g l).length ≤ l.length) := Lib.hid (pass_len T g)
  generalize spots T = S at RS SPC SL PS
  generalize passL T g = pl at RS PS PL
  clear ht sm
  go_enter Tryz.func28, Tryz.ntmps28
  go_upto_region 1 with fail
  generalize w.alloc (.cells (T.cells h).toArray 32) = w1 at S0 HZ ⊢
  have q104 := S0.out.cell C.out.g
  generalize hc : T.cells h = c at *
  clear hsz hc
  generalize T.groups.length = n at *
  obtain ⟨⟨ga, gcap⟩, sd, sr, sb⟩ := h
  have q104' : w1.cell? ⟨w.heap.size, 104, none⟩ = some (.slice ga n gcap) := q104
  clear q104
  by_cases hg0 : g < 0
  · have HF : Hid (0 = res) := Lib.hid (by rw [RS.out, if_neg (by omega)])
    go_wp2
    go_ret
    exact ⟨RefC.ret_int HF.out, S0.out.bel⟩
  by_cases hg1 : (n : Int) ≤ g
  · have HF : Hid (0 = res) := Lib.hid (by rw [RS.out, if_neg (by omega)])
    go_wp2
    go_ret
    exact ⟨RefC.ret_int HF.out, S0.out.bel⟩
  have HR0 : Hid (sums (8 :: pl S) = res) := Lib.hid (by rw [RS.out, if_pos (by omega)])
  clear RS
  go_upto_region 4 with fail
  have hb1 : Below w1.heap.size w1 (w1.alloc (.cells #[.int .i64 8] 3)) := (Below.refl _ _).alloc (Nat.le_refl _) _
  have ho1 : OwnsI w1.heap.size (w1.alloc (.cells #[.int .i64 8] 3)) (.slice (some ⟨w1.heap.size, 0, none⟩) 1 1) [8] := own_one w1 8
  have O1 := Lib.hid ho1
  have B1 := Lib.hid hb1
  clear ho1 hb1 q104' hg0 hg1
  generalize w1.alloc (.cells #[.int .i64 8] 3) = w2 at O1 B1 ⊢
  have S2 := Lib.hid (S0.out.step B1.out)
  have LT2 : Hid (Lies w2 ⟨w.heap.size, 0, none⟩ c) := Lib.hid (by have := Row.lies_of_block S2.out.blk; simpa using this)
  go_wp2_with (refine Row.wpList_load_g 32 _ rfl (by first | rfl | go_simp) ⟨w.heap.size, 0, none⟩ rfl c _ LT2.out Tryz.underlying32 rfl IA.out ?_)
  refine (SPC.out _ S2.out.bel).mono ?_
  rintro e u1 ⟨⟨sa, scap⟩, rfl, hrow, hty, hb⟩
  rw [show (Sl.val ⟨sa, scap⟩ S.length) = .slice sa S.length scap from rfl]
  have HB1 : Hid (Below w1.heap.size w1 u1) := Lib.hid (B1.out.trans (hb.mono B1.out.size))
  have HR1 := Lib.hid hrow
  have HT1 := Lib.hid hty
  have O2 := Lib.hid (O1.out.below hb)
  have K := hrow.len
  unfold maxLen at K
  clear hrow hty hb B1 O1 S2 LT2 SPC
  go_wp2_with fail
  go_loopw [5, 21] (fun v i wr => ∃ j : Nat, j ≤ S.length ∧ i = .int .i64 j ∧ OwnsI w1.heap.size wr v (8 :: pl (S.take j)) ∧ RowOf 4 Spt.cells wr ⟨sa, scap⟩ S ∧ Typed wr ⟨sa, scap⟩ ∧ Below w1.heap.size w1 wr) (fun _ i _ => S.length - (intOf i).toNat)
  case atStart =>
    refine ⟨0, by omega, rfl, ?_, HR1.out, HT1.out, HB1.out⟩
    have h0 : pl [] = [] := List.eq_nil_of_length_eq_zero (by simpa using PL.out [])
    rw [List.take_zero, h0]
    exact O2.out
  case round =>
    obtain ⟨j, hj, rfl, hown, hrow, hty, hbel⟩ := hrel
    have HO := Lib.hid hown
    have HB := Lib.hid hbel
    have HR := Lib.hid hrow
    have HT := Lib.hid hty
    clear hown hbel hrow hty
    by_cases hlt : j < S.length
    · have hv := List.getElem?_eq_getElem hlt
      generalize S[j] = x at hv
      obtain ⟨y, hy, hc⟩ := HR.out.at hv
      obtain rfl : sa = some y := hy
      have HS := Lib.hid (PS.out j x hv)
      have HC := Lib.hid hc
      have hlen : (8 :: pl (S.take j)).length ≤ 2000001 := by have := PL.out (S.take j); rw [List.length_take] at this; have := SL.out; rw [List.length_cons]; omega
      clear hv hc
      have hwr := HB.out.size
      go_upto_region 7 with (first | (refine Row.wpList_load_g 55 _ rfl (by first | rfl | go_simp) (y.add (j * 4)) rfl x.cells _ HC.out Tryz.underlying55 rfl infoS ?_) | (refine Row.wpList_store_new rfl 55 _ _ rfl wr _ x.cells.toArray rfl rfl rfl infoS rfl (Spt.one _) ?_))
      have hbn : Below w1.heap.size w1 (wr.alloc (.cells x.cells.toArray 55)) := HB.out.alloc hwr _
      have hbo : Below wr.heap.size wr (wr.alloc (.cells x.cells.toArray 55)) := (Below.refl _ _).alloc (Nat.le_refl _) _
      have hg := Row.lies_of_block (heap_alloc_new wr (.cells x.cells.toArray 55))
      have HL := Lib.hid hg
      have HB2 := Lib.hid hbn
      have HO2 := Lib.hid (HO.out.below hbo)
      have HR2 := Lib.hid (HR.out.below hbo)
      have HT2 := Lib.hid (HT.out.below hbo)
      clear hg hbn hbo HC HB HO HR HT
      generalize wr.alloc (.cells x.cells.toArray 55) = w4 at HL HB2 HO2 HR2 HT2 ⊢
      generalize wr.heap.size = b4 at HL ⊢
      have c0 : w4.cell? ⟨b4, 0, none⟩ = some (I x.g) := by have := HL.out 0 _ rfl; rwa [Tab.add_zero] at this
      have c3 : w4.cell? ⟨b4, 3, none⟩ = some (I x.p) := by have := HL.out 3 _ rfl; rwa [Addr.add_mid] at this
      have S4 := Lib.hid (S0.out.step HB2.out)
      clear HL
      generalize hP1 : 8 :: pl (S.take j) = P1 at HO2 hlen
      have HP1 := Lib.hid hP1
      clear hP1
      by_cases e0 : (x.g : Int) = g
      · have b0 : ((x.g : Int) == g) = true := by simpa using e0
        have HS2 : Hid (8 :: pl (S.take (j + 1)) = P1 ++ [serveS T x.p]) := Lib.hid (by rw [HS.out, if_pos e0, ← HP1.out]; rfl)
        have LT4 : Hid (Lies w4 ⟨w.heap.size, 0, none⟩ c) := Lib.hid (by have := Row.lies_of_block S4.out.blk; simpa using this)
        clear e0
        go_wp2_with (refine Row.wpList_load_g 32 _ rfl (by first | rfl | go_simp) ⟨w.heap.size, 0, none⟩ rfl c _ LT4.out Tryz.underlying32 rfl IA.out ?_)
        refine (SVC.out x.p _ S4.out.bel).mono ?_
        rintro e w5 ⟨rfl, hb⟩
        have HB5 := Lib.hid (HB2.out.trans (hb.mono HB2.out.size))
        have HO5 := Lib.hid (HO2.out.below hb)
        have HR5 := Lib.hid (HR2.out.below hb)
        have HT5 := Lib.hid (HT2.out.below hb)
        have hown2 : w5.ownsRow w1.heap.size 3 1 u5 P1.length (P1.flatMap (fun n => [I n])) := HO5.out
        have hsz5 := HB5.out.size
        clear hb HB2 HO2 HR2 HT2 S4 LT4 c0 c3
        generalize serveS T x.p = p at HS2 ⊢
        go_wp2_with (at_builtin; refine wpList_append_own _ rfl _ _ 22 rfl w1.heap.size 3 i0 (.int .i64 0) 1 8 Tryz.underlying22 hi hz0 hz1 hz2 rfl (by decide) _ _ _ rfl (hown2.alloc _) ⟨w5.heap.size, 0, none⟩ 1 1 [.int .i64 p] rfl rfl ?c1 ?c2 ?c3 ?c4 ?c5 ?_)
        case c1 =>
          intro m q hm
          match m, hm with
          | 0, hm => simp at hm; subst hm; simp [Addr.add]
        case c2 => intro q hq; simp at hq; subst hq; rfl
        case c3 => unfold maxLen; omega
        case c4 => omega
        case c5 => simp; omega
        intro v' w6 hown' hgrow hnil'
        have hbo5 : Below w5.heap.size w5 (w5.alloc (.cells #[.int .i64 p] 3)) := (Below.refl _ _).alloc (Nat.le_refl _) _
        have hne := typed_ne (HT5.out.below hbo5) (show OwnsI w1.heap.size (w5.alloc (.cells #[.int .i64 p] 3)) u5 P1 from Owns.below HO5.out hbo5)
        have HB6 : Hid (Below w1.heap.size w1 w6) := Lib.hid ((HB5.out.alloc hsz5 _).grown hgrow (by simp; omega) fun m hm => (show OwnsI w1.heap.size w5 u5 P1 from hown2).blk m hm)
        have HO6 : Hid (OwnsI w1.heap.size w6 v' (P1 ++ [p])) := Lib.hid (Owns.snoc hown')
        have HR6 := Lib.hid (row_grown (HR5.out.below hbo5) hgrow hne)
        have HT6 := Lib.hid (typed_grown (HT5.out.below hbo5) hgrow hne)
        clear hown' hgrow hown2 hnil' hbo5 hne
        go_wp2
        go_roundw
        case rel => exact ⟨j + 1, by omega, by go_num, by rw [HS2.out]; exact HO6.out, HR6.out, HT6.out, HB6.out⟩
        case measure => simp [intOf]; omega
      · have b0 : ((x.g : Int) == g) = false := by simpa using e0
        have HS2 : Hid (8 :: pl (S.take (j + 1)) = P1) := Lib.hid (by rw [HS.out, if_neg e0, List.append_nil, HP1.out])
        clear e0
        go_wp2
        go_roundw
        case rel => exact ⟨j + 1, by omega, by go_num, by rw [HS2.out]; exact HO2.out, HR2.out, HT2.out, HB2.out⟩
        case measure => simp [intOf]; omega
    · have HE : Hid (8 :: pl (S.take j) = 8 :: pl S) := Lib.hid (by rw [List.take_of_length_le (by omega)])
      obtain ⟨⟨sa', sc⟩, hs, hrow⟩ := HO.out.row (enc := fun n => [I n]) (fun _ => rfl)
      rw [HE.out] at hs hrow
      have HR2 := Lib.hid hrow
      have HF : Hid (Below w.heap.size w wr) := Lib.hid (S0.out.bel.trans (HB.out.mono S0.out.bel.size))
      clear hrow HE
      subst hs
      generalize hL : 8 :: pl S = P2 at HR0 HR2 ⊢
      clear hL
      show Code.wp _ _ _ _ _
      rw [show (Sl.val ⟨sa', sc⟩ P2.length) = .slice sa' P2.length sc from rfl]
      go_wp2_with fail
      refine (sum_row sa' sc P2 _ HR2.out).mono ?_
      rintro e w' ⟨rfl, rfl⟩
      rw [HR0.out]
      go_wp2
      go_ret
      exact ⟨rfl, HF.out⟩
end Go.Proofs.YtjolhoilcibdfaaGreat.PassS
/- The contracts of the document's Where and Beside. -/
namespace Go.Proofs.YtjolhoilcibdfaaGreat.Where
open Go.ChangeShapes Go.WideShapes Go.ChangeAt Go.RowKit
open Tab Clone PlaceM
open May (ret_bool chain infoP infoG infoD infoR infoB infoT St)
open Same (below_setRow)
set_option linter.unusedVariables false
set_option linter.unusedSimpArgs false
theorem infoS : (Tryz.prog.info? 55).map (·.size) = some 4 := by kernel_rfl
theorem infoZ : (Tryz.prog.info? 55).map (fun i => (i.zero, i.size)) = some (some (.agg #[I 0, I 0, I 0, I 0]), 4) := by kernel_rfl
theorem results_row_tmp {P : Program} {fn : Func} {p u : Tmp} {ty : TypeId} (h : fn.results = #[.cell p ty, .tmp u]) (tmps : Array Value) (w : World) (g : Nat) (t : TypeId) (cs : Array Value) (fr : Nat × Nat) (d : TypeDesc)
    (hp : tmps.getD p undef = .pointer (some ⟨g, 0, none⟩)) (hg : w.heap[g]? = some (.cells cs t fr))
    (hu : P.underlying ty = some d) (hd : (match d with | .struct _ | .array _ _ => true | _ => false) = true) (hi : (P.info? ty).map (·.size) = some cs.size) :
    (results fn tmps).run P w = .ok (.tuple #[.agg cs, tmps.getD u undef]) w := by
  rw [results_cell_tmp h, hp]
  simp [asAddr, run_loadVar_row w g t ty cs fr d hg hu hd hi]
def oCells : Option Spt → List Value
  | some x => x.cells
  | none => [I 0, I 0, I 0, I 0]
theorem find_some {p : Int} {l : List Spt} {j : Nat} {x : Spt} (h : ∀ y ∈ l.take j, y.p ≠ p) (hx : l[j]? = some x) (hp : x.p = p) : find p l = some x := by
  have hj : j < l.length := (List.getElem?_eq_some_iff.1 hx).1
  have e : l = l.take j ++ x :: l.drop (j + 1) := by
    have h2 : l.drop j = x :: l.drop (j + 1) := by
      rw [List.drop_eq_getElem_cons hj]; congr 1; exact (List.getElem?_eq_some_iff.1 hx).2
    rw [← h2, List.take_append_drop]
  have h1 := find_none h
  unfold find at h1 ⊢
  rw [e, List.find?_append, h1]
  simp [hp]
set_option maxRecDepth 100000 in
set_option maxHeartbeats 4000000 in
theorem where_any (T : Tab) (h : Hd) (p : Int) (w : World) (ht : IsTab w h T) (sm : Few T) :
    Calls Tryz.prog 39 #[.agg (T.cells h).toArray, .int .i64 p] w fun e w' => e = .returned (.tuple #[.agg (oCells (where_ T p)).toArray, .bool (where_ T p).isSome]) ∧ Below w.heap.size w w' := by
  have hsz := (cells_ok ht).size
  have IA : Hid ((Tryz.prog.info? 32).map (·.size) = some (T.cells h).length) := Lib.hid (by rw [List.size_toArray] at hsz; rw [hsz]; exact infoT)
  have SPC : Hid (∀ W, Below w.heap.size w W → Calls Tryz.prog 18 #[.agg (T.cells h).toArray] W fun e w' => ∃ s : Sl, e = .returned (s.val (spots T).length) ∧ RowOf 4 Spt.cells w' s (spots T) ∧ Below W.heap.size W w') := Lib.hid (fun W hb => Spots.spots_any T h W (ht.below hb) sm)
  have A0 : Hid (Below w.heap.size w ((w.alloc (.cells (T.cells h).toArray 32)).alloc (.cells #[I 0, I 0, I 0, I 0] 55))) := Lib.hid (((Below.refl _ _).alloc (Nat.le_refl _) _).alloc (by simp) _)
  have A1 : Hid (Lies ((w.alloc (.cells (T.cells h).toArray 32)).alloc (.cells #[I 0, I 0, I 0, I 0] 55)) ⟨w.heap.size, 0, none⟩ (T.cells h)) := Lib.hid (Row.lies_of_block (heap_alloc2_old w _ _))
  have A2 : Hid (((w.alloc (.cells (T.cells h).toArray 32)).alloc (.cells #[I 0, I 0, I 0, I 0] 55)).heap[w.heap.size + 1]? = some (.cells #[I 0, I 0, I 0, I 0] 55 (0, 0))) := Lib.hid (heap_alloc2_new w _ _)
  have hz := (zero_of_info infoZ).1
  have W0 : Hid (where_ T p = find p (spots T)) := Lib.hid rfl
  generalize where_ T p = o at W0 ⊢
  clear ht sm
  generalize T.cells h = c at *
  go_enter Tryz.func39, Tryz.ntmps39
  go_upto_region 1 with fail
  generalize ((w.alloc (.cells c.toArray 32)).alloc (.cells #[I 0, I 0, I 0, I 0] 55)) = u at A0 A1 A2 ⊢
  clear hsz hz
  go_wp2_with (refine Row.wpList_load_g 32 _ rfl (by first | rfl | go_simp) ⟨w.heap.size, 0, none⟩ rfl c _ A1.out Tryz.underlying32 rfl IA.out ?_)
  refine (SPC.out _ A0.out).mono ?_
  rintro e u1 ⟨⟨sa, scap⟩, rfl, hrow, hb⟩
  rw [show (Sl.val ⟨sa, scap⟩ (spots T).length) = .slice sa (spots T).length scap from rfl]
  have B0 : Hid (Below w.heap.size w u1) := Lib.hid (A0.out.trans (hb.mono A0.out.size))
  have B2 : Hid (u1.heap[w.heap.size + 1]? = some (.cells #[I 0, I 0, I 0, I 0] 55 (0, 0))) := Lib.hid ((hb.block _ (Array.getElem?_eq_some_iff.1 A2.out).1).trans A2.out)
  have HR := Lib.hid hrow
  have K := hrow.len
  unfold maxLen at K
  clear hrow hb A0 A1 A2 SPC IA
  generalize spots T = S at HR K W0 ⊢
  go_wp2_with fail
  go_loopw [7] (fun i wr => ∃ j : Nat, j ≤ S.length ∧ i = .int .i64 j ∧ (∀ x ∈ S.take j, x.p ≠ p) ∧ wr = u1) (fun i _ => S.length - (intOf i).toNat)
  case atStart => exact ⟨0, by omega, rfl, (fun x hx => by simp at hx), rfl⟩
  case round =>
    obtain ⟨j, hj, rfl, hall, rfl⟩ := hrel
    have Hall := Lib.hid hall
    clear hall
    by_cases hlt : j < S.length
    · have hv := List.getElem?_eq_getElem hlt
      generalize S[j] = x at hv
      obtain ⟨y, hy, hc⟩ := HR.out.at hv
      obtain rfl : sa = some y := hy
      have HV := Lib.hid hv
      have HC := Lib.hid hc
      have c3 := hc 3 _ rfl
      have c3' : wr.cell? ⟨(y.add (j * 4)).block, (y.add (j * 4)).off + 3, none⟩ = some (I x.p) := by simpa [Addr.add] using c3
      clear hv hc c3
      by_cases hp : x.p = p
      · have HF : Hid (o = some x) := Lib.hid (by rw [W0.out]; exact find_some Hall.out HV.out hp)
        have hb : (x.p == p) = true := by simpa using hp
        have HG := Lib.hid (below_setRow B0.out (g := w.heap.size + 1) (by omega) x.cells.toArray)
        have HK := Lib.hid (setRow_heap wr (w.heap.size + 1) _ x.cells.toArray _ _ B2.out)
        clear hp
        go_wp2_with (first | (refine Row.wpList_load_g 55 _ rfl (by first | rfl | go_simp) (y.add (j * 4)) rfl x.cells _ HC.out Tryz.underlying55 rfl infoS ?_) | (refine wpList_store_row rfl 55 _ _ rfl (w.heap.size + 1) x.cells.toArray rfl rfl 55 _ B2.out infoS rfl (Spt.one _) ?_))
        generalize wr.setRow (w.heap.size + 1) x.cells.toArray = w5 at HG HK ⊢
        go_wp2_with fail
        (try simp only [Exit.inBlock, Exit.then])
        refine bodyPost_ret (v := .tuple #[.agg x.cells.toArray, .bool true]) ?_ rfl ⟨?_, HG.out⟩
        · exact results_row_tmp (fn := Tryz.f39) (p := 4) (u := 5) (ty := 55) rfl _ _ (w.heap.size + 1) 55 _ (0, 0) _ rfl HK.out Tryz.underlying55 rfl infoS
        · rw [HF.out]; rfl
      · have HN : Hid (∀ y ∈ S.take (j + 1), y.p ≠ p) := Lib.hid (by
          intro y hy
          rw [take_succ HV.out] at hy
          rcases List.mem_append.1 hy with hy | hy
          · exact Hall.out y hy
          · obtain rfl : y = x := by simpa using hy
            exact hp)
        have hb : (x.p == p) = false := by simpa using hp
        clear hp
        go_wp2
        go_roundw
        case rel => exact ⟨j + 1, by omega, by go_num, HN.out, trivial⟩
        case measure => simp [intOf]; omega
    · have HF : Hid (o = none) := Lib.hid (by
        rw [W0.out]; refine find_none ?_
        have := Hall.out
        rwa [List.take_of_length_le (by omega)] at this)
      have HG := Lib.hid (below_setRow B0.out (g := w.heap.size + 1) (by omega) #[I 0, I 0, I 0, I 0])
      have HK := Lib.hid (setRow_heap wr (w.heap.size + 1) _ #[I 0, I 0, I 0, I 0] _ _ B2.out)
      go_wp2_with (first | (refine wpList_store_row rfl 55 _ _ rfl (w.heap.size + 1) #[I 0, I 0, I 0, I 0] rfl rfl 55 _ B2.out infoS rfl (by simp [Value.oneCell']) ?_))
      generalize wr.setRow (w.heap.size + 1) #[I 0, I 0, I 0, I 0] = w5 at HG HK ⊢
      go_wp2_with fail
      (try simp only [Exit.inBlock, Exit.then])
      refine bodyPost_ret (v := .tuple #[.agg #[I 0, I 0, I 0, I 0], .bool false]) ?_ rfl ⟨?_, HG.out⟩
      · exact results_row_tmp (fn := Tryz.f39) (p := 4) (u := 5) (ty := 55) rfl _ _ (w.heap.size + 1) 55 _ (0, 0) _ rfl HK.out Tryz.underlying55 rfl infoS
      · rw [HF.out]; rfl
theorem lies4 {w : World} {b : Nat} {g k i p : Int} {t : TypeId} (h : w.heap[b]? = some (.cells #[I g, I k, I i, I p] t (0, 0))) : w.cell? ⟨b, 0, none⟩ = some (I g) ∧ w.cell? ⟨b, 1, none⟩ = some (I k) := ⟨by rw [cell_of_row _ _ _ _ _ _ h]; rfl, by rw [cell_of_row _ _ _ _ _ _ h]; rfl⟩
set_option maxRecDepth 100000 in
set_option maxHeartbeats 4000000 in
theorem beside_raw (c : List Value) (p q g1 k1 i1 p1 g2 k2 i2 p2 : Int) (ok1 ok2 : Bool) (w : World) (hc : c.length = 131) (hone : c.toArray.all (·.oneCell') = true)
    (V1 : Hid (∀ W, Below w.heap.size w W → Calls Tryz.prog 39 #[.agg c.toArray, .int .i64 p] W fun e w' => e = .returned (.tuple #[.agg #[I g1, I k1, I i1, I p1], .bool ok1]) ∧ Below W.heap.size W w'))
    (V2 : Hid (∀ W, Below w.heap.size w W → Calls Tryz.prog 39 #[.agg c.toArray, .int .i64 q] W fun e w' => e = .returned (.tuple #[.agg #[I g2, I k2, I i2, I p2], .bool ok2]) ∧ Below W.heap.size W w')) :
    Calls Tryz.prog 42 #[.agg c.toArray, .int .i64 p, .int .i64 q] w fun e w' => e = .returned (.bool (ok1 && ok2 && g1 == g2 && k1 != k2)) ∧ Below w.heap.size w w' := by
  have hsz : c.toArray.size = 131 := by simpa using hc
  have IA : Hid ((Tryz.prog.info? 32).map (·.size) = some c.length) := Lib.hid (by rw [hc]; exact infoT)
  have A0 : Hid (Below w.heap.size w (w.alloc (.cells c.toArray 32))) := Lib.hid ((Below.refl _ _).alloc (Nat.le_refl _) _)
  have A1 : Hid (Lies (w.alloc (.cells c.toArray 32)) ⟨w.heap.size, 0, none⟩ c) := Lib.hid (Row.lies_new w _ _)
  generalize hr : (ok1 && ok2 && g1 == g2 && k1 != k2) = r
  have HR := Lib.hid hr
  clear hr hc hone
  go_enter Tryz.func42, Tryz.ntmps42
  go_upto_region 1 with fail
  generalize w.alloc (.cells c.toArray 32) = u at A0 A1 ⊢
  clear hsz
  go_wp2_with (refine Row.wpList_load_g 32 _ rfl (by first | rfl | go_simp) ⟨w.heap.size, 0, none⟩ rfl c _ A1.out Tryz.underlying32 rfl IA.out ?_)
  refine (V1.out _ A0.out).mono ?_
  rintro e u1 ⟨rfl, hb⟩
  have B0 : Hid (Below w.heap.size w u1) := Lib.hid (A0.out.trans (hb.mono A0.out.size))
  have B1 := Lib.hid (A1.out.below hb)
  clear hb A0 A1 V1
  go_upto_region 2 with (refine Row.wpList_store_new rfl 55 _ _ rfl u1 #[I 0, I 0, I 0, I 0] #[I g1, I k1, I i1, I p1] rfl rfl rfl infoS rfl (by simp [Value.oneCell']) ?_)
  have hb2 : Below u1.heap.size u1 (u1.alloc (.cells #[I g1, I k1, I i1, I p1] 55)) := (Below.refl _ _).alloc (Nat.le_refl _) _
  have hg1 := heap_alloc_new u1 (.cells #[I g1, I k1, I i1, I p1] 55)
  generalize u1.alloc (.cells #[I g1, I k1, I i1, I p1] 55) = u2 at hb2 hg1 ⊢
  generalize u1.heap.size = b1 at hg1 ⊢
  have A0 : Hid (Below w.heap.size w u2) := Lib.hid (B0.out.trans (hb2.mono B0.out.size))
  have A1 := Lib.hid (B1.out.below hb2)
  have G1 := Lib.hid hg1
  clear hb2 hg1 B0 B1
  go_wp2_with (refine Row.wpList_load_g 32 _ rfl (by first | rfl | go_simp) ⟨w.heap.size, 0, none⟩ rfl c _ A1.out Tryz.underlying32 rfl IA.out ?_)
  refine (V2.out _ A0.out).mono ?_
  rintro e u3 ⟨rfl, hb⟩
  have B0 : Hid (Below w.heap.size w u3) := Lib.hid (A0.out.trans (hb.mono A0.out.size))
  have G2 := Lib.hid ((hb.block _ (Array.getElem?_eq_some_iff.1 G1.out).1).trans G1.out)
  clear hb A0 A1 V2 G1
  go_upto_region 3 with (refine Row.wpList_store_new rfl 55 _ _ rfl u3 #[I 0, I 0, I 0, I 0] #[I g2, I k2, I i2, I p2] rfl rfl rfl infoS rfl (by simp [Value.oneCell']) ?_)
  have hb2 : Below u3.heap.size u3 (u3.alloc (.cells #[I g2, I k2, I i2, I p2] 55)) := (Below.refl _ _).alloc (Nat.le_refl _) _
  have hg2 := heap_alloc_new u3 (.cells #[I g2, I k2, I i2, I p2] 55)
  have hg1 := (hb2.block _ (Array.getElem?_eq_some_iff.1 G2.out).1).trans G2.out
  generalize u3.alloc (.cells #[I g2, I k2, I i2, I p2] 55) = u4 at hb2 hg1 hg2 ⊢
  generalize u3.heap.size = b2 at hg2 ⊢
  have HF : Hid (Below w.heap.size w u4) := Lib.hid (B0.out.trans (hb2.mono B0.out.size))
  obtain ⟨q0, q1⟩ := lies4 hg1
  obtain ⟨r0, r1⟩ := lies4 hg2
  clear hb2 hg1 hg2 B0 G2 IA
  cases ok1
  · go_wp2
    go_ret
    exact ⟨ret_bool (by rw [← HR.out]; simp), HF.out⟩
  cases ok2
  · go_wp2
    go_ret
    exact ⟨ret_bool (by rw [← HR.out]; simp), HF.out⟩
  by_cases hg : g1 = g2
  · have e1 : (g1 == g2) = true := by simpa using hg
    have E1 := Lib.hid e1
    clear hg
    go_wp2
    go_ret
    exact ⟨ret_bool (by rw [← HR.out, E1.out]; simp), HF.out⟩
  · have e1 : (g1 == g2) = false := by simpa using hg
    have E1 := Lib.hid e1
    clear hg
    go_wp2
    go_ret
    exact ⟨ret_bool (by rw [← HR.out, E1.out]; simp), HF.out⟩
theorem beside_any (T : Tab) (h : Hd) (p q : Int) (w : World) (ht : IsTab w h T) (sm : Few T) :
    Calls Tryz.prog 42 #[.agg (T.cells h).toArray, .int .i64 p, .int .i64 q] w fun e w' => e = .returned (.bool (beside T p q)) ∧ Below w.heap.size w w' := by
  have hsz := (cells_ok ht).size
  rw [List.size_toArray] at hsz
  have hone := (cells_ok ht).one
  have V : ∀ r W, Below w.heap.size w W → Calls Tryz.prog 39 #[.agg (T.cells h).toArray, .int .i64 r] W fun e w' => e = .returned (.tuple #[.agg (oCells (where_ T r)).toArray, .bool (where_ T r).isSome]) ∧ Below W.heap.size W w' := fun r W hb => where_any T h r W (ht.below hb) sm
  have V1 := V p
  have V2 := V q
  have hB : beside T p q = match where_ T p, where_ T q with
    | some a, some b => a.g == b.g && a.k != b.k
    | _, _ => false := rfl
  rw [hB]
  generalize where_ T p = o1 at V1 ⊢
  generalize where_ T q = o2 at V2 ⊢
  have e0 : ∀ a b : Nat, ((a : Int) == (b : Int)) = (a == b) := fun a b => by
    by_cases h : a = b
    · subst h; simp
    · rw [beq_eq_false_iff_ne.2 h, beq_eq_false_iff_ne.2 (by omega)]
  have e1 : ∀ a b : Nat, ((a : Int) != (b : Int)) = (a != b) := fun a b => by unfold bne; rw [e0]
  cases o1 with
  | none =>
    cases o2 with
    | none => exact beside_raw _ p q 0 0 0 0 0 0 0 0 false false w hsz hone (Lib.hid V1) (Lib.hid V2)
    | some b => exact beside_raw _ p q 0 0 0 0 b.g b.k b.i b.p false true w hsz hone (Lib.hid V1) (Lib.hid V2)
  | some a =>
    cases o2 with
    | none => exact beside_raw _ p q a.g a.k a.i a.p 0 0 0 0 true false w hsz hone (Lib.hid V1) (Lib.hid V2)
    | some b =>
      have := beside_raw _ p q a.g a.k a.i a.p b.g b.k b.i b.p true true w hsz hone (Lib.hid V1) (Lib.hid V2)
      rw [e0, e1] at this
      simpa using this
end Go.Proofs.YtjolhoilcibdfaaGreat.Where
