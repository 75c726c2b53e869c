/- The document's own Held, Want and Calls: what package calls answers. -/
import Derived.Test.YtneaomdgjlmleaaClH
import Derived.Test.YtneaomdgjlmleaaClear
import Derived.Deep.Cut
import Derived.Deep.CutRange
namespace Go.Proofs.Ytneaomdgjlmleaa.Cl
open Go.ChangeShapes Go.WideShapes Go.ChangeAt Go.RowKit
open Tab PlaceM OnS Phx QL
open Clear (phAt)
open RefS (rhas_any rlist_any rwith_any row_of)
open May (infoP infoT phases_in)
set_option linter.unusedVariables false
set_option linter.unusedSimpArgs false
set_option maxRecDepth 100000
theorem on_wh : ∀ (i : Nat) (l : List Ph), onTo i l = whTo (fun _ _ => true) i l
  | _, [] => rfl
  | i, p :: l => by rw [onTo, whTo, on_wh (i + 1) l, Bool.and_true]
theorem on_test {T : Tab} (h8 : T.phases.length = 8) {k : Nat} {p : Ph} (hp : T.phases[k]? = some p) : (onS T).testBit k = p.on := by
  have := wh_test (r := fun _ _ => true) h8 hp
  rw [Bool.and_true] at this
  rw [← this]
  unfold onS onL whS
  rw [on_wh]
theorem at_of {T : Tab} (h8 : T.phases.length = 8) {k : Nat} (hk : k < 8) : T.phases[k]? = some (phAt T k) := by
  unfold Clear.phAt
  rw [Int.toNat_natCast, List.getD_eq_getElem?_getD, List.getElem?_eq_getElem (by omega)]; rfl
/-- The set of those of the phases that are On for which P holds, on top of a set L. -/
theorem ref_wh {T : Tab} (h8 : T.phases.length = 8) (L : List Int) (P : Int → Bool) (r : Nat → Ph → Bool) (h : ∀ k : Nat, k < 8 → ((decide ((k : Int) ∈ L)) || ((phAt T k).on && P k)) = ((phAt T k).on && r k (phAt T k))) :
    SetM.of (L ++ (SetM.list (onS T : Nat)).filter P) = whS r T := by
  refine SetM.eq_of (SetM.of_lt _) (wh_lt _ _) (fun k hk => ?_)
  rw [SetM.of_test, wh_test h8 (at_of h8 hk), ← h k hk, Bool.eq_iff_iff, decide_eq_true_iff]
  have hm : (k : Int) ∈ SetM.list (onS T : Nat) ↔ (phAt T k).on = true := by
    rw [SetM.mem_list, SetM.has_nat, SetM.low_nat (onS T) (SetM.of_lt _), on_test h8 (at_of h8 hk)]
  simp only [List.mem_append, List.mem_filter, hm, Bool.or_eq_true, Bool.and_eq_true, decide_eq_true_iff]
  exact ⟨fun h => h.1, fun h => ⟨h, hk⟩⟩
theorem mem_whS {r : Nat → Ph → Bool} {T : Tab} {k : Nat} (hk : k < 8) : decide ((k : Int) ∈ whTo r 0 T.phases) = (whS r T).testBit k := by
  unfold whS
  rw [SetM.of_test, Bool.eq_iff_iff, decide_eq_true_iff, decide_eq_true_iff]
  exact ⟨fun h => ⟨h, hk⟩, fun h => h.1⟩
theorem has_wh {r : Nat → Ph → Bool} {T : Tab} (h8 : T.phases.length = 8) {k : Nat} (hk : k < 8) : SetM.has (whS r T : Nat) k = ((phAt T k).on && r k (phAt T k)) := by
  rw [SetM.has_nat, SetM.low_nat _ (wh_lt _ _), wh_test h8 (at_of h8 hk)]
theorem flt_step {M : List Int} {q : Nat} (P : Int → Bool) (h : q < M.length) : (M.take (q + 1)).filter P = (M.take q).filter P ++ (if P (M.getD q 0) = true then [M.getD q 0] else []) := by
  rw [RefS.take_succ M q h, List.filter_append]
  rw [List.filter_cons, List.filter_nil]
theorem flt_hit {M : List Int} {q : Nat} {P : Int → Bool} {L : List Int} {p : Int} (h : q < M.length) (hg : M.getD q 0 = p) (hp : P p = true) : SetM.withN (SetM.of (L ++ (M.take q).filter P) : Nat) p = SetM.of (L ++ (M.take (q + 1)).filter P) := by
  subst hg
  rw [flt_step P h, if_pos hp, SetM.with_of, List.append_assoc]
theorem flt_miss {M : List Int} {q : Nat} {P : Int → Bool} {L : List Int} {p : Int} (h : q < M.length) (hg : M.getD q 0 = p) (hp : P p = false) : SetM.of (L ++ (M.take (q + 1)).filter P) = SetM.of (L ++ (M.take q).filter P) := by
  subst hg
  rw [flt_step P h, hp]; simp
def pHeld (T : Tab) (here : Int) (p : Int) : Bool := SetM.has here p || (phAt T p).recall == 2
def pWant (T : Tab) (car foot : Int) (p : Int) : Bool := SetM.has car p || (SetM.has foot p && decide (0 < (phAt T p).walk))
def vCar (car here : Int) (p : Int) (u : Ph) : Bool := SetM.has car p || (u.lock && SetM.has here p) || u.recall == 1 || u.recall == 2
def vFoot (foot push : Int) (p : Int) (u : Ph) : Bool := SetM.has foot p || SetM.has push p || u.recall == 3
def pCar (T : Tab) (green car here : Int) (p : Int) : Bool := vCar car here p (phAt T p) && !SetM.has green p
def pFoot (T : Tab) (walk foot push : Int) (p : Int) : Bool := vFoot foot push p (phAt T p) && decide (0 < (phAt T p).walk) && !SetM.has walk p
theorem held_ref {T : Tab} (h8 : T.phases.length = 8) (here : Int) : SetM.of ([] ++ (SetM.list (onS T : Nat)).filter (pHeld T here)) = whS (rHeld here) T :=
  ref_wh h8 [] _ _ (fun k hk => by simp [pHeld, rHeld])
theorem want_ref {T : Tab} (h8 : T.phases.length = 8) (car foot here : Int) : SetM.of (whTo (rHeld here) 0 T.phases ++ (SetM.list (onS T : Nat)).filter (pWant T car foot)) = whS (rWant car foot (whS (rHeld here) T : Nat)) T :=
  ref_wh h8 _ _ _ (fun k hk => by
    rw [mem_whS hk, wh_test h8 (at_of h8 hk)]
    unfold rWant pWant
    rw [has_wh h8 hk]
    cases (phAt T k).on <;> cases rHeld here k (phAt T k) <;> cases SetM.has car k <;> simp)
theorem car_ref {T : Tab} (h8 : T.phases.length = 8) (green car here : Int) : SetM.of ([] ++ (SetM.list (onS T : Nat)).filter (pCar T green car here)) = whS (rCar green car here) T :=
  ref_wh h8 [] _ _ (fun k hk => by
    unfold pCar rCar vCar
    cases (phAt T k).on <;> cases SetM.has green k <;> cases SetM.has car k <;> cases (phAt T k).lock <;> cases SetM.has here k <;> simp)
theorem foot_ref {T : Tab} (h8 : T.phases.length = 8) (walk foot push : Int) : SetM.of ([] ++ (SetM.list (onS T : Nat)).filter (pFoot T walk foot push)) = whS (rFoot walk foot push) T :=
  ref_wh h8 [] _ _ (fun k hk => by
    unfold pFoot rFoot vFoot
    cases (phAt T k).on <;> cases SetM.has walk k <;> cases SetM.has foot k <;> cases SetM.has push k <;> simp [Bool.and_comm])
set_option maxHeartbeats 8000000 in
theorem rheld_any {T : Tab} {hd : Hd} {w : World} (ht : IsTab w hd T) (here : Int) :
    Calls Try.prog 12 #[.agg (T.cells hd).toArray, .int .i64 here] w fun e w' => e = .returned (.int .i64 (whS (rHeld here) T : Nat)) ∧ Below w.heap.size w w' := by
  have C := Lib.hid (cells_ok ht)
  have IA : Hid ((Try.prog.info? 31).map (·.size) = some (T.cells hd).length) := Lib.hid (by have := (cells_ok ht).size; rw [List.size_toArray] at this; rw [this]; exact infoT)
  have ON : Hid (∀ W, Below w.heap.size w W → Calls Try.prog 19 #[.agg (T.cells hd).toArray] W fun e w' => e = .returned (.int .i64 (onS T : Nat)) ∧ Below W.heap.size W w') := Lib.hid (fun W hb => on_any T hd W (ht.below hb))
  have L8 := Lib.hid ht.ph
  have RS := Lib.hid (held_ref ht.ph here)
  clear ht
  generalize whS (rHeld here) T = res at RS ⊢
  generalize ((onS T : Nat) : Int) = os at RS ON
  generalize T.cells hd = c at *
  have h0 := (Blk.Bks.nil w).alloc c.toArray 31
  go_enter Try.func12, Try.ntmps12
  go_upto_region 1 with fail
  generalize World.alloc w _ = u at h0 ⊢
  generalize w.heap.size = gt at h0 ⊢
  have H0 := Lib.hid h0
  clear h0
  go_wp2_with (refine Row.wpList_load_g 31 _ rfl (by first | rfl | go_simp) ⟨gt, 0, none⟩ rfl c _ (by have := Row.lies_of_block (H0.out.at 0 rfl); simpa using this) Try.underlying31 rfl IA.out ?_)
  refine (ON.out _ H0.out.bel).mono ?_
  rintro e w2 ⟨rfl, hb⟩
  have H2 := Lib.hid (H0.out.step hb)
  clear hb H0 ON IA
  go_wp2_with fail
  refine (rlist_any os _).mono ?_
  rintro e w3 ⟨v0, rfl, hown, hb⟩
  have H3 := Lib.hid (H2.out.step hb)
  obtain ⟨sa, sc, rfl, hrow⟩ := row_of hown
  have HR := Lib.hid hrow
  have hl8 := SetM.list_len os
  have BD := Lib.hid (SetM.list_bd os)
  clear hown hrow hb H2
  generalize SetM.list os = M at RS HR hl8 BD ⊢
  go_wp2_with fail
  go_loopw [5, 12] (fun v i wr => ∃ q : Nat, q ≤ M.length ∧ i = .int .i64 q ∧ v = .int .i64 (SetM.of ([] ++ (M.take q).filter (pHeld T here)) : Nat) ∧ Below w3.heap.size w3 wr) (fun _ i _ => M.length - (intOf i).toNat)
  case atStart => exact ⟨0, by omega, rfl, rfl, Below.refl _ _⟩
  case round =>
    obtain ⟨q, hq, rfl, rfl, hbel⟩ := hrel
    have HB := Lib.hid hbel
    clear hbel
    have HW := Lib.hid (H3.out.step HB.out)
    by_cases hlt : q < M.length
    · obtain ⟨x, hx, hc⟩ := (HR.out.below HB.out).cells hlt
      obtain rfl : sa = some x := hx
      have c0 := hc q hlt
      have hmem : M.getD q 0 ∈ M := by rw [List.getD_eq_getElem?_getD, List.getElem?_eq_getElem hlt]; exact List.getElem_mem hlt
      have hbd := BD.out _ hmem
      obtain ⟨p, hgp⟩ : ∃ p, M.getD q 0 = p := ⟨_, rfl⟩
      rw [hgp] at c0 hbd
      have HG := Lib.hid hgp
      have HQ := Lib.hid hlt
      clear hc hmem hgp
      obtain ⟨p0, p8⟩ := hbd
      obtain ⟨k, rfl⟩ := Int.eq_ofNat_of_zero_le p0
      have hk : k < 8 := by omega
      have hv := at_of L8.out hk
      have PU : Hid (∀ V, V = phAt T k → V = phAt T k) := Lib.hid (fun _ h => h)
      obtain ⟨y, hy, hcc⟩ := (phases_in (HW.out.at 0 rfl) C.out L8.out).at hv
      obtain rfl := Option.some.inj hy
      have d10 : wr.cell? ⟨gt, k * 13 + 10, none⟩ = some (I (phAt T k).recall) := by have := hcc 10 _ rfl; rwa [Addr.add_mid, Nat.zero_add, Addr.add_mid] at this
      clear hv hcc hy PU
      cases hh : SetM.has here k with
      | true =>
        have HP : (pHeld T here) k = true := by unfold pHeld; simp [hh]
        have HS := Lib.hid (flt_hit (L := []) (P := pHeld T here) HQ.out HG.out HP)
        clear HP
        generalize SetM.of ([] ++ (M.take q).filter (pHeld T here)) = s0 at HS ⊢
        go_wp2_with (go_at_call 22; refine (rhas_any _ _ _).mono ?_; rintro e w' ⟨rfl, rfl⟩; first | rw [hh])
        refine (rwith_any _ _ _).mono ?_
        rintro e w5 ⟨rfl, hb5⟩
        have HB5 := Lib.hid (HB.out.trans (hb5.mono HB.out.size))
        clear hb5
        go_wp2
        go_roundw
        case rel => exact ⟨q + 1, by have := HQ.out; omega, by go_num, by rw [← HS.out], HB5.out⟩
        case measure => have := HQ.out; simp [intOf]; omega
      | false =>
        cases he : ((phAt T k).recall == 2) with
        | true =>
          have HP : (pHeld T here) k = true := by unfold pHeld; simp [hh, he]
          have HS := Lib.hid (flt_hit (L := []) (P := pHeld T here) HQ.out HG.out HP)
          clear HP
          generalize SetM.of ([] ++ (M.take q).filter (pHeld T here)) = s0 at HS ⊢
          go_wp2_with (go_at_call 22; refine (rhas_any _ _ _).mono ?_; rintro e w' ⟨rfl, rfl⟩; first | rw [hh])
          refine (rwith_any _ _ _).mono ?_
          rintro e w5 ⟨rfl, hb5⟩
          have HB5 := Lib.hid (HB.out.trans (hb5.mono HB.out.size))
          clear hb5
          go_wp2
          go_roundw
          case rel => exact ⟨q + 1, by have := HQ.out; omega, by go_num, by rw [← HS.out], HB5.out⟩
          case measure => have := HQ.out; simp [intOf]; omega
        | false =>
          have HP : (pHeld T here) k = false := by unfold pHeld; simp [hh, he]
          have HS := Lib.hid (flt_miss (L := []) (P := pHeld T here) HQ.out HG.out HP)
          clear HP
          generalize SetM.of ([] ++ (M.take q).filter (pHeld T here)) = s0 at HS ⊢
          go_wp2_with (go_at_call 22; refine (rhas_any _ _ _).mono ?_; rintro e w' ⟨rfl, rfl⟩; first | rw [hh])
          go_roundw
          case rel => exact ⟨q + 1, by have := HQ.out; omega, by go_num, by rw [← HS.out], HB.out⟩
          case measure => have := HQ.out; simp [intOf]; omega
    · have HE : Hid (SetM.of ([] ++ (M.take q).filter (pHeld T here)) = res) := Lib.hid (by rw [← RS.out, List.take_of_length_le (by omega)])
      generalize SetM.of ([] ++ (M.take q).filter (pHeld T here)) = s0 at HE ⊢
      go_wp2
      go_ret
      exact ⟨ret_int (by rw [HE.out]), HW.out.bel⟩
set_option maxHeartbeats 8000000 in
theorem rwant_any {T : Tab} {hd : Hd} {w : World} (ht : IsTab w hd T) (car foot here : Int) :
    Calls Try.prog 16 #[.agg (T.cells hd).toArray, .agg #[I car, I foot], .int .i64 here] w fun e w' => e = .returned (.int .i64 (whS (rWant car foot (whS (rHeld here) T : Nat)) T : Nat)) ∧ Below w.heap.size w w' := by
  have C := Lib.hid (cells_ok ht)
  have IA : Hid ((Try.prog.info? 31).map (·.size) = some (T.cells hd).length) := Lib.hid (by have := (cells_ok ht).size; rw [List.size_toArray] at this; rw [this]; exact infoT)
  have ON : Hid (∀ W, Below w.heap.size w W → Calls Try.prog 19 #[.agg (T.cells hd).toArray] W fun e w' => e = .returned (.int .i64 (onS T : Nat)) ∧ Below W.heap.size W w') := Lib.hid (fun W hb => on_any T hd W (ht.below hb))
  have L8 := Lib.hid ht.ph
  have HH : Hid (∀ W, Below w.heap.size w W → Calls Try.prog 12 #[.agg (T.cells hd).toArray, .int .i64 here] W fun e w' => e = .returned (.int .i64 (whS (rHeld here) T : Nat)) ∧ Below W.heap.size W w') := Lib.hid (fun W hb => rheld_any (ht.below hb) here)
  have RS := Lib.hid (want_ref ht.ph car foot here)
  have RL : Hid (whS (rHeld here) T = SetM.of (whTo (rHeld here) 0 T.phases)) := Lib.hid rfl
  clear ht
  generalize whS (rWant car foot (whS (rHeld here) T : Nat)) T = res at RS ⊢
  generalize whS (rHeld here) T = hs at HH RL
  generalize whTo (rHeld here) 0 T.phases = L0 at RS RL
  generalize ((onS T : Nat) : Int) = os at RS ON
  generalize T.cells hd = c at *
  have h0 := ((Blk.Bks.nil w).alloc c.toArray 31).alloc #[I car, I foot] 33
  rw [show (w.alloc (.cells c.toArray 31)).heap.size = w.heap.size + 1 by simp] at h0
  go_enter Try.func16, Try.ntmps16
  go_upto_region 1 with fail
  generalize World.alloc (World.alloc w _) _ = u0 at h0 ⊢
  generalize hgc : w.heap.size + 1 = gc at h0 ⊢
  generalize w.heap.size = gt at h0 ⊢
  clear hgc
  have H00 := Lib.hid h0
  clear h0
  go_wp2_with (refine Row.wpList_load_g 31 _ rfl (by first | rfl | go_simp) ⟨gt, 0, none⟩ rfl c _ (by have := Row.lies_of_block (H00.out.at 1 rfl); simpa using this) Try.underlying31 rfl IA.out ?_)
  refine (HH.out _ H00.out.bel).mono ?_
  rintro e u ⟨rfl, hb⟩
  have H0 := Lib.hid (H00.out.step hb)
  clear hb HH H00
  go_wp2_with (refine Row.wpList_load_g 31 _ rfl (by first | rfl | go_simp) ⟨gt, 0, none⟩ rfl c _ (by have := Row.lies_of_block (H0.out.at 1 rfl); simpa using this) Try.underlying31 rfl IA.out ?_)
  refine (ON.out _ H0.out.bel).mono ?_
  rintro e w2 ⟨rfl, hb⟩
  have H2 := Lib.hid (H0.out.step hb)
  clear hb H0 ON IA
  go_wp2_with fail
  refine (rlist_any os _).mono ?_
  rintro e w3 ⟨v0, rfl, hown, hb⟩
  have H3 := Lib.hid (H2.out.step hb)
  obtain ⟨sa, sc, rfl, hrow⟩ := row_of hown
  have HR := Lib.hid hrow
  have hl8 := SetM.list_len os
  have BD := Lib.hid (SetM.list_bd os)
  clear hown hrow hb H2
  generalize SetM.list os = M at RS HR hl8 BD ⊢
  go_wp2_with fail
  go_loopw [7, 17] (fun v i wr => ∃ q : Nat, q ≤ M.length ∧ i = .int .i64 q ∧ v = .int .i64 (SetM.of (L0 ++ (M.take q).filter (pWant T car foot)) : Nat) ∧ Below w3.heap.size w3 wr) (fun _ i _ => M.length - (intOf i).toNat)
  case atStart => exact ⟨0, by omega, rfl, by rw [RL.out, List.take_zero, List.filter_nil, List.append_nil], Below.refl _ _⟩
  case round =>
    obtain ⟨q, hq, rfl, rfl, hbel⟩ := hrel
    have HB := Lib.hid hbel
    clear hbel
    have HW := Lib.hid (H3.out.step HB.out)
    by_cases hlt : q < M.length
    · obtain ⟨x, hx, hc⟩ := (HR.out.below HB.out).cells hlt
      obtain rfl : sa = some x := hx
      have c0 := hc q hlt
      have hmem : M.getD q 0 ∈ M := by rw [List.getD_eq_getElem?_getD, List.getElem?_eq_getElem hlt]; exact List.getElem_mem hlt
      have hbd := BD.out _ hmem
      obtain ⟨p, hgp⟩ : ∃ p, M.getD q 0 = p := ⟨_, rfl⟩
      rw [hgp] at c0 hbd
      have HG := Lib.hid hgp
      have HQ := Lib.hid hlt
      clear hc hmem hgp
      obtain ⟨p0, p8⟩ := hbd
      obtain ⟨k, rfl⟩ := Int.eq_ofNat_of_zero_le p0
      have hk : k < 8 := by omega
      have hv := at_of L8.out hk
      have PU : Hid (∀ V, V = phAt T k → V = phAt T k) := Lib.hid (fun _ h => h)
      obtain ⟨y, hy, hcc⟩ := (phases_in (HW.out.at 1 rfl) C.out L8.out).at hv
      obtain rfl := Option.some.inj hy
      have d8 : wr.cell? ⟨gt, k * 13 + 8, none⟩ = some (I (phAt T k).walk) := by have := hcc 8 _ rfl; rwa [Addr.add_mid, Nat.zero_add, Addr.add_mid] at this
      have k0 : wr.cell? ⟨gc, 0, none⟩ = some (I car) := HW.out.cell 0 0 rfl rfl
      have k1 : wr.cell? ⟨gc, 1, none⟩ = some (I foot) := HW.out.cell 0 1 rfl rfl
      clear hv hcc hy PU
      cases hc : SetM.has car k with
      | true =>
        have HP : (pWant T car foot) k = true := by unfold pWant; simp [hc]
        have HS := Lib.hid (flt_hit (L := L0) (P := pWant T car foot) HQ.out HG.out HP)
        clear HP
        generalize SetM.of (L0 ++ (M.take q).filter (pWant T car foot)) = s0 at HS ⊢
        go_wp2_with (go_at_call 22; refine (rhas_any _ _ _).mono ?_; rintro e w' ⟨rfl, rfl⟩; first | rw [hc])
        refine (rwith_any _ _ _).mono ?_
        rintro e w5 ⟨rfl, hb5⟩
        have HB5 := Lib.hid (HB.out.trans (hb5.mono HB.out.size))
        clear hb5
        go_wp2
        go_roundw
        case rel => exact ⟨q + 1, by have := HQ.out; omega, by go_num, by rw [← HS.out], HB5.out⟩
        case measure => have := HQ.out; simp [intOf]; omega
      | false =>
        cases hf : SetM.has foot k with
        | true =>
          cases hw : decide (0 < (phAt T k).walk) with
          | true =>
            have HP : (pWant T car foot) k = true := by unfold pWant; simp [hc, hf, of_decide_eq_true hw]
            have hw2 := of_decide_eq_true hw
            have HS := Lib.hid (flt_hit (L := L0) (P := pWant T car foot) HQ.out HG.out HP)
            clear HP
            generalize SetM.of (L0 ++ (M.take q).filter (pWant T car foot)) = s0 at HS ⊢
            go_wp2_with (go_at_call 22; refine (rhas_any _ _ _).mono ?_; rintro e w' ⟨rfl, rfl⟩; first | rw [hc] | rw [hf])
            refine (rwith_any _ _ _).mono ?_
            rintro e w5 ⟨rfl, hb5⟩
            have HB5 := Lib.hid (HB.out.trans (hb5.mono HB.out.size))
            clear hb5
            go_wp2
            go_roundw
            case rel => exact ⟨q + 1, by have := HQ.out; omega, by go_num, by rw [← HS.out], HB5.out⟩
            case measure => have := HQ.out; simp [intOf]; omega
          | false =>
            have HP : (pWant T car foot) k = false := by unfold pWant; simp [hc, hf, of_decide_eq_false hw]
            have hw2 := of_decide_eq_false hw
            have HS := Lib.hid (flt_miss (L := L0) (P := pWant T car foot) HQ.out HG.out HP)
            clear HP
            generalize SetM.of (L0 ++ (M.take q).filter (pWant T car foot)) = s0 at HS ⊢
            go_wp2_with (go_at_call 22; refine (rhas_any _ _ _).mono ?_; rintro e w' ⟨rfl, rfl⟩; first | rw [hc] | rw [hf])
            go_roundw
            case rel => exact ⟨q + 1, by have := HQ.out; omega, by go_num, by rw [← HS.out], HB.out⟩
            case measure => have := HQ.out; simp [intOf]; omega
        | false =>
          have HP : (pWant T car foot) k = false := by unfold pWant; simp [hc, hf]
          have HS := Lib.hid (flt_miss (L := L0) (P := pWant T car foot) HQ.out HG.out HP)
          clear HP
          generalize SetM.of (L0 ++ (M.take q).filter (pWant T car foot)) = s0 at HS ⊢
          go_wp2_with (go_at_call 22; refine (rhas_any _ _ _).mono ?_; rintro e w' ⟨rfl, rfl⟩; first | rw [hc] | rw [hf])
          go_roundw
          case rel => exact ⟨q + 1, by have := HQ.out; omega, by go_num, by rw [← HS.out], HB.out⟩
          case measure => have := HQ.out; simp [intOf]; omega
    · have HE : Hid (SetM.of (L0 ++ (M.take q).filter (pWant T car foot)) = res) := Lib.hid (by rw [← RS.out, List.take_of_length_le (by omega)])
      generalize SetM.of (L0 ++ (M.take q).filter (pWant T car foot)) = s0 at HE ⊢
      go_wp2
      go_ret
      exact ⟨ret_int (by rw [HE.out]), HW.out.bel⟩
/-- Nothing that lay has changed but block g. -/
structure Kp (g : Nat) (a b : World) : Prop where
  size : a.heap.size ≤ b.heap.size
  blk : ∀ j, j < a.heap.size → j ≠ g → b.heap[j]? = a.heap[j]?
theorem Kp.refl (g : Nat) (a : World) : Kp g a a := ⟨Nat.le_refl _, fun _ _ _ => rfl⟩
theorem Kp.step {g : Nat} {a b c : World} (h : Kp g a b) (hb : Below b.heap.size b c) : Kp g a c :=
  ⟨Nat.le_trans h.size hb.size, fun j hj hn => (hb.block j (Nat.lt_of_lt_of_le hj h.size)).trans (h.blk j hj hn)⟩
theorem Kp.set {g : Nat} {a b : World} (h : Kp g a b) (o : Nat) (v : Value) : Kp g a (b.setCell ⟨g, o, none⟩ v) :=
  ⟨by rw [World.size_setCell]; exact h.size, fun j hj hn => (Below.heap_setCell _ _ _ j hn).trans (h.blk j hj hn)⟩
theorem row_kp {B g : Nat} {a : World} {v : Value} {l : List Int} (h : RefS.Owns B a v l) (hg : g < B) : ∃ sa cap, v = .slice sa l.length cap ∧ ∀ b, Kp g a b → RefS.Row b sa l := by
  rcases h.1.2 with ⟨rfl, h0⟩ | ⟨g', cap, cur, rfl, h1, h2, h3, h4, h5, h6⟩
  · have : l = [] := h.2.1 rfl
    subst this
    exact ⟨none, 0, rfl, fun b _ => ⟨Nat.zero_le _, .inl rfl⟩⟩
  · refine ⟨_, cap, rfl, fun b hk => ⟨by omega, .inr ⟨_, rfl, fun i hi => ?_⟩⟩⟩
    have hc := h.1.cells (g := g') rfl i (.int .i64 (l.getD i 0)) (by rw [List.getElem?_map, List.getD_eq_getElem?_getD, List.getElem?_eq_getElem hi]; rfl)
    have hl := (Array.getElem?_eq_some_iff.1 h2).1
    rw [Addr.add_mid] at hc ⊢
    rw [← hc]
    simp only [World.cell?, hk.blk g' hl (by omega)]
set_option maxHeartbeats 8000000 in
theorem rcalls_any {T : Tab} {hd : Hd} {w : World} (ht : IsTab w hd T) (car foot here push green walk : Int) :
    Calls Try.prog 14 #[.agg (T.cells hd).toArray, .agg #[I car, I foot], .int .i64 here, .int .i64 push, .int .i64 green, .int .i64 walk] w fun e w' => e = .returned (.agg #[I (whS (rCar green car here) T : Nat), I (whS (rFoot walk foot push) T : Nat)]) ∧ Below w.heap.size w w' := by
  have C := Lib.hid (cells_ok ht)
  have IA : Hid ((Try.prog.info? 31).map (·.size) = some (T.cells hd).length) := Lib.hid (by have := (cells_ok ht).size; rw [List.size_toArray] at this; rw [this]; exact infoT)
  have ON : Hid (∀ W, Below w.heap.size w W → Calls Try.prog 19 #[.agg (T.cells hd).toArray] W fun e w' => e = .returned (.int .i64 (onS T : Nat)) ∧ Below W.heap.size W w') := Lib.hid (fun W hb => on_any T hd W (ht.below hb))
  have L8 := Lib.hid ht.ph
  have RS := Lib.hid (car_ref ht.ph green car here)
  have RF := Lib.hid (foot_ref ht.ph walk foot push)
  clear ht
  generalize whS (rCar green car here) T = res at RS ⊢
  generalize whS (rFoot walk foot push) T = ref at RF ⊢
  generalize ((onS T : Nat) : Int) = os at RS RF ON
  generalize T.cells hd = c at *
  have h0 := (((Blk.Bks.nil w).alloc c.toArray 31).alloc #[I car, I foot] 33).alloc #[I 0, I 0] 33
  simp only [World.size_alloc, Nat.add_assoc, Nat.reduceAdd] at h0
  go_enter Try.func14, Try.ntmps14
  go_upto_region 1 with fail
  generalize World.alloc (World.alloc (World.alloc w _) _) _ = u0 at h0 ⊢
  generalize hg2 : w.heap.size + 2 = gr at h0 ⊢
  generalize hg1 : w.heap.size + 1 = gc at h0 ⊢
  generalize w.heap.size = gt at h0 ⊢
  clear hg1 hg2
  go_upto_region 2 with fail
  have h1 := h0.alloc #[I 0, I 0] 33
  generalize World.alloc u0 _ = u at h1 ⊢
  generalize u0.heap.size = go at h1 ⊢
  have H0 := Lib.hid h1
  clear h0 h1
  go_wp2_with (refine Row.wpList_load_g 31 _ rfl (by first | rfl | go_simp) ⟨gt, 0, none⟩ rfl c _ (by have := Row.lies_of_block (H0.out.at 3 rfl); simpa using this) Try.underlying31 rfl IA.out ?_)
  refine (ON.out _ H0.out.bel).mono ?_
  rintro e w2 ⟨rfl, hb⟩
  have H2 := Lib.hid (H0.out.step hb)
  clear hb H0 ON IA
  go_wp2_with fail
  refine (rlist_any os _).mono ?_
  rintro e w3 ⟨v0, rfl, hown, hb⟩
  have H3 := Lib.hid (H2.out.step hb)
  obtain ⟨sa, sc, rfl, hrow⟩ := row_kp hown (Blk.lt_of (H2.out.at 0 rfl))
  have HR := Lib.hid hrow
  have hl8 := SetM.list_len os
  have BD := Lib.hid (SetM.list_bd os)
  clear hown hrow hb H2
  generalize SetM.list os = M at RS RF HR hl8 BD ⊢
  go_wp2_with fail
  go_loopw [23] (fun i wr => ∃ q : Nat, q ≤ M.length ∧ i = .int .i64 (q : Int) ∧ Blk.Bks w [(go, #[I (SetM.of ([] ++ (M.take q).filter (pCar T green car here)) : Nat), I (SetM.of ([] ++ (M.take q).filter (pFoot T walk foot push)) : Nat)], 33), (gr, #[I 0, I 0], 33), (gc, #[I car, I foot], 33), (gt, c.toArray, 31)] wr ∧ Kp go w3 wr) (fun i _ => M.length - (intOf i).toNat)
  case atStart => exact ⟨0, by omega, rfl, H3.out, Kp.refl _ _⟩
  case round =>
    obtain ⟨q, hq, rfl, hB, hK⟩ := hrel
    have HB0 := Lib.hid hB
    have HK0 := Lib.hid hK
    clear hB hK H3
    by_cases hlt : q < M.length
    · obtain ⟨x, hx, hc⟩ := (HR.out _ HK0.out).cells hlt
      obtain rfl : sa = some x := hx
      have c0 := hc q hlt
      have hmem : M.getD q 0 ∈ M := by rw [List.getD_eq_getElem?_getD, List.getElem?_eq_getElem hlt]; exact List.getElem_mem hlt
      have hbd := BD.out _ hmem
      obtain ⟨p, hgp⟩ : ∃ p, M.getD q 0 = p := ⟨_, rfl⟩
      rw [hgp] at c0 hbd
      have HG := Lib.hid hgp
      have HQ := Lib.hid hlt
      clear hc hmem hgp
      obtain ⟨p0, p8⟩ := hbd
      obtain ⟨k, rfl⟩ := Int.eq_ofNat_of_zero_le p0
      have hk : k < 8 := by omega
      have hv := at_of L8.out hk
      have PU : Hid (∀ V, V = phAt T k → V = phAt T k) := Lib.hid (fun _ h => h)
      obtain ⟨y, hy, hcc⟩ := (phases_in (HB0.out.at 3 rfl) C.out L8.out).at hv
      obtain rfl := Option.some.inj hy
      have LU : Hid (Lies wr ⟨gt, k * 13, none⟩ (phAt T k).cells) := Lib.hid (by have := hcc; rwa [Addr.add_mid, Nat.zero_add] at this)
      clear hv hcc hy PU
      obtain ⟨s1, hs1⟩ : ∃ s, SetM.of ([] ++ (M.take q).filter (pCar T green car here)) = s := ⟨_, rfl⟩
      obtain ⟨s2, hs2⟩ : ∃ s, SetM.of ([] ++ (M.take q).filter (pFoot T walk foot push)) = s := ⟨_, rfl⟩
      have N1 := Lib.hid hs1
      have N2 := Lib.hid hs2
      rw [hs1, hs2] at HB0
      clear hs1 hs2
      go_upto_region 5 with fail
      go_upto_region 6 with (first | (refine Row.wpList_load_lies rfl 23 _ rfl ⟨gt, k * 13, none⟩ rfl (phAt T k).cells _ LU.out Try.underlying23 rfl infoP ?_) | (refine Row.wpList_store_new rfl 23 _ _ rfl _ _ (phAt T k).cells.toArray rfl rfl rfl infoP rfl (Ph.one _) ?_))
      dsimp only [Act.put]
      (try simp only [List.setIfInBounds_toArray, List.set_cons_zero, List.set_cons_succ])
      have h1 := HB0.out.alloc (phAt T k).cells.toArray 23
      have k1 := HK0.out.step ((Below.refl wr.heap.size wr).alloc (Nat.le_refl _) (.cells (phAt T k).cells.toArray 23))
      generalize World.alloc wr _ = v1 at h1 k1 ⊢
      generalize wr.heap.size = gx at h1 ⊢
      have HB := Lib.hid h1
      have HK := Lib.hid k1
      clear h1 k1 LU HB0 HK0 c0
      go_upto_region 6 with fail
      go_cut [17, 23] from 24 to 97 (fun t17 t23 wx => t17 = .bool (vCar car here k (phAt T k)) ∧ t23 = .int .i64 (q : Int) ∧ Blk.Bks w [(gx, (phAt T k).cells.toArray, 23), (go, #[I (s1 : Nat), I (s2 : Nat)], 33), (gr, #[I 0, I 0], 33), (gc, #[I car, I foot], 33), (gt, c.toArray, 31)] wx ∧ Kp go w3 wx)
      case first =>
        have k0 : v1.cell? ⟨gc, 0, none⟩ = some (I car) := HB.out.cell 3 0 rfl rfl
        have k1 : v1.cell? ⟨gc, 1, none⟩ = some (I foot) := HB.out.cell 3 1 rfl rfl
        have k11 : v1.cell? ⟨gx, 11, none⟩ = some (.bool (phAt T k).lock) := HB.out.cell 0 11 rfl rfl
        have k10 : v1.cell? ⟨gx, 10, none⟩ = some (I (phAt T k).recall) := HB.out.cell 0 10 rfl rfl
        cases hc : SetM.has car k with
        | true =>
          have HV : (vCar car here k (phAt T k)) = true := by unfold vCar; simp [hc]
          go_wp2_with (go_at_call 22; refine (rhas_any _ _ _).mono ?_; rintro e w' ⟨rfl, rfl⟩; first | rw [hc])
          go_meet
          case rel => exact ⟨by rw [HV], rfl, HB.out, HK.out⟩
        | false =>
          cases hl : (phAt T k).lock with
          | true =>
            rw [hl] at k11
            cases hh : SetM.has here k with
            | true =>
              have HV : (vCar car here k (phAt T k)) = true := by unfold vCar; simp [hc, hl, hh]
              go_wp2_with (go_at_call 22; refine (rhas_any _ _ _).mono ?_; rintro e w' ⟨rfl, rfl⟩; first | rw [hc] | rw [hh])
              go_meet
              case rel => exact ⟨by rw [HV], rfl, HB.out, HK.out⟩
            | false =>
              cases h1 : ((phAt T k).recall == 1) with
              | true =>
                have HV : (vCar car here k (phAt T k)) = true := by unfold vCar; simp [hc, hl, hh, h1]
                go_wp2_with (go_at_call 22; refine (rhas_any _ _ _).mono ?_; rintro e w' ⟨rfl, rfl⟩; first | rw [hc] | rw [hh])
                go_meet
                case rel => exact ⟨by rw [HV], rfl, HB.out, HK.out⟩
              | false =>
                cases h2 : ((phAt T k).recall == 2) with
                | true =>
                  have HV : (vCar car here k (phAt T k)) = true := by unfold vCar; simp [hc, hl, hh, h1, h2]
                  go_wp2_with (go_at_call 22; refine (rhas_any _ _ _).mono ?_; rintro e w' ⟨rfl, rfl⟩; first | rw [hc] | rw [hh])
                  go_meet
                  case rel => exact ⟨by rw [HV], rfl, HB.out, HK.out⟩
                | false =>
                  have HV : (vCar car here k (phAt T k)) = false := by unfold vCar; simp [hc, hl, hh, h1, h2]
                  go_wp2_with (go_at_call 22; refine (rhas_any _ _ _).mono ?_; rintro e w' ⟨rfl, rfl⟩; first | rw [hc] | rw [hh])
                  go_meet
                  case rel => exact ⟨by rw [HV], rfl, HB.out, HK.out⟩
          | false =>
            rw [hl] at k11
            cases h1 : ((phAt T k).recall == 1) with
            | true =>
              have HV : (vCar car here k (phAt T k)) = true := by unfold vCar; simp [hc, hl, h1]
              go_wp2_with (go_at_call 22; refine (rhas_any _ _ _).mono ?_; rintro e w' ⟨rfl, rfl⟩; first | rw [hc])
              go_meet
              case rel => exact ⟨by rw [HV], rfl, HB.out, HK.out⟩
            | false =>
              cases h2 : ((phAt T k).recall == 2) with
              | true =>
                have HV : (vCar car here k (phAt T k)) = true := by unfold vCar; simp [hc, hl, h1, h2]
                go_wp2_with (go_at_call 22; refine (rhas_any _ _ _).mono ?_; rintro e w' ⟨rfl, rfl⟩; first | rw [hc])
                go_meet
                case rel => exact ⟨by rw [HV], rfl, HB.out, HK.out⟩
              | false =>
                have HV : (vCar car here k (phAt T k)) = false := by unfold vCar; simp [hc, hl, h1, h2]
                go_wp2_with (go_at_call 22; refine (rhas_any _ _ _).mono ?_; rintro e w' ⟨rfl, rfl⟩; first | rw [hc])
                go_meet
                case rel => exact ⟨by rw [HV], rfl, HB.out, HK.out⟩
      case rest =>
      obtain ⟨rfl, rfl, hcB, hcK⟩ := hcut
      clear HB HK
      have HB := Lib.hid hcB
      have HK := Lib.hid hcK
      clear hcB hcK
      go_upto_region 7 with fail
      go_cut [17, 23, 60] from 24 to 97 (fun t17 t23 t60 wx => t60 = .bool (pCar T green car here k) ∧ t23 = .int .i64 (q : Int) ∧ Blk.Bks w [(gx, (phAt T k).cells.toArray, 23), (go, #[I (s1 : Nat), I (s2 : Nat)], 33), (gr, #[I 0, I 0], 33), (gc, #[I car, I foot], 33), (gt, c.toArray, 31)] wx ∧ Kp go w3 wx)
      case first =>
        cases hvc : vCar car here k (phAt T k) with
        | true =>
          cases hg : SetM.has green k with
          | true =>
            have HV : (pCar T green car here k) = false := by unfold pCar; simp [hvc, hg]
            go_wp2_with (go_at_call 22; refine (rhas_any _ _ _).mono ?_; rintro e w' ⟨rfl, rfl⟩; first | rw [hg])
            go_meet
            case rel => exact ⟨by rw [HV], rfl, HB.out, HK.out⟩
          | false =>
            have HV : (pCar T green car here k) = true := by unfold pCar; simp [hvc, hg]
            go_wp2_with (go_at_call 22; refine (rhas_any _ _ _).mono ?_; rintro e w' ⟨rfl, rfl⟩; first | rw [hg])
            go_meet
            case rel => exact ⟨by rw [HV], rfl, HB.out, HK.out⟩
        | false =>
          have HV : (pCar T green car here k) = false := by unfold pCar; simp [hvc]
          go_wp2_with (go_at_call 22; refine (rhas_any _ _ _).mono ?_; rintro e w' ⟨rfl, rfl⟩; first | rw [rfl])
          go_meet
          case rel => exact ⟨by rw [HV], rfl, HB.out, HK.out⟩
      case rest =>
      obtain ⟨rfl, rfl, hcB, hcK⟩ := hcut
      clear HB HK
      have HB := Lib.hid hcB
      have HK := Lib.hid hcK
      clear hcB hcK
      cases HP : (pCar T green car here) k with
      | true =>
        have HS := Lib.hid (flt_hit (L := []) (P := pCar T green car here) HQ.out HG.out HP)
        rw [N1.out] at HS
        have kS : wc.cell? ⟨go, 0, none⟩ = some (I (s1 : Nat)) := HB.out.cell 1 0 rfl rfl
        clear HP
        go_wp2_with fail
        refine (rwith_any _ _ _).mono ?_
        rintro e v5 ⟨rfl, hb5⟩
        have h5 := HB.out.step hb5
        have k5 := HK.out.step hb5
        have cs5 : v5.cell? ⟨go, 0, none⟩ = some (I (s1 : Nat)) := h5.cell 1 0 rfl rfl
        have fs5 : v5.frozen? ⟨go, 0, none⟩ = false := h5.frozen 1 0 rfl
        clear hb5 kS
        go_upto_region 9 with fail
        rw [HS.out]
        have h6 := h5.set 1 0 rfl (I (SetM.of ([] ++ (M.take (q + 1)).filter (pCar T green car here)) : Nat))
        simp only [List.set_cons_succ, List.set_cons_zero, List.setIfInBounds_toArray] at h6
        have k6 := k5.set 0 (I (SetM.of ([] ++ (M.take (q + 1)).filter (pCar T green car here)) : Nat))
        generalize World.setCell v5 _ _ = v6 at h6 k6 ⊢
        clear cs5 fs5 h5 k5 HB HK
        have HB := Lib.hid h6
        have HK := Lib.hid k6
        clear h6 k6
        go_upto_region 9 with fail
        go_cut [18, 23] from 24 to 97 (fun t18 t23 wx => t18 = .bool (vFoot foot push k (phAt T k)) ∧ t23 = .int .i64 (q : Int) ∧ Blk.Bks w [(gx, (phAt T k).cells.toArray, 23), (go, #[I (SetM.of ([] ++ (M.take (q + 1)).filter (pCar T green car here)) : Nat), I (s2 : Nat)], 33), (gr, #[I 0, I 0], 33), (gc, #[I car, I foot], 33), (gt, c.toArray, 31)] wx ∧ Kp go w3 wx)
        case first =>
          have k0 : v6.cell? ⟨gc, 0, none⟩ = some (I car) := HB.out.cell 3 0 rfl rfl
          have k1 : v6.cell? ⟨gc, 1, none⟩ = some (I foot) := HB.out.cell 3 1 rfl rfl
          have k10 : v6.cell? ⟨gx, 10, none⟩ = some (I (phAt T k).recall) := HB.out.cell 0 10 rfl rfl
          cases hf : SetM.has foot k with
          | true =>
            have HV : (vFoot foot push k (phAt T k)) = true := by unfold vFoot; simp [hf]
            go_wp2_with (go_at_call 22; refine (rhas_any _ _ _).mono ?_; rintro e w' ⟨rfl, rfl⟩; first | rw [hf])
            go_meet
            case rel => exact ⟨by rw [HV], rfl, HB.out, HK.out⟩
          | false =>
            cases hp : SetM.has push k with
            | true =>
              have HV : (vFoot foot push k (phAt T k)) = true := by unfold vFoot; simp [hf, hp]
              go_wp2_with (go_at_call 22; refine (rhas_any _ _ _).mono ?_; rintro e w' ⟨rfl, rfl⟩; first | rw [hf] | rw [hp])
              go_meet
              case rel => exact ⟨by rw [HV], rfl, HB.out, HK.out⟩
            | false =>
              cases h3 : ((phAt T k).recall == 3) with
              | true =>
                have HV : (vFoot foot push k (phAt T k)) = true := by unfold vFoot; simp [hf, hp, h3]
                go_wp2_with (go_at_call 22; refine (rhas_any _ _ _).mono ?_; rintro e w' ⟨rfl, rfl⟩; first | rw [hf] | rw [hp])
                go_meet
                case rel => exact ⟨by rw [HV], rfl, HB.out, HK.out⟩
              | false =>
                have HV : (vFoot foot push k (phAt T k)) = false := by unfold vFoot; simp [hf, hp, h3]
                go_wp2_with (go_at_call 22; refine (rhas_any _ _ _).mono ?_; rintro e w' ⟨rfl, rfl⟩; first | rw [hf] | rw [hp])
                go_meet
                case rel => exact ⟨by rw [HV], rfl, HB.out, HK.out⟩
        case rest =>
        obtain ⟨rfl, rfl, hcB, hcK⟩ := hcut
        clear HB HK
        have HB := Lib.hid hcB
        have HK := Lib.hid hcK
        clear hcB hcK
        go_upto_region 10 with fail
        go_cut [18, 23, 91] from 24 to 97 (fun t18 t23 t91 wx => t91 = .bool (pFoot T walk foot push k) ∧ t23 = .int .i64 (q : Int) ∧ Blk.Bks w [(gx, (phAt T k).cells.toArray, 23), (go, #[I (SetM.of ([] ++ (M.take (q + 1)).filter (pCar T green car here)) : Nat), I (s2 : Nat)], 33), (gr, #[I 0, I 0], 33), (gc, #[I car, I foot], 33), (gt, c.toArray, 31)] wx ∧ Kp go w3 wx)
        case first =>
          have k8 : wc.cell? ⟨gx, 8, none⟩ = some (I (phAt T k).walk) := HB.out.cell 0 8 rfl rfl
          cases hvf : vFoot foot push k (phAt T k) with
          | true =>
            cases hk0 : decide (0 < (phAt T k).walk) with
            | true =>
              cases hw : SetM.has walk k with
              | true =>
                have HV : (pFoot T walk foot push k) = false := by unfold pFoot; simp [hvf, of_decide_eq_true hk0, hw]
                go_wp2_with (go_at_call 22; refine (rhas_any _ _ _).mono ?_; rintro e w' ⟨rfl, rfl⟩; first | rw [hw])
                go_meet
                case rel => exact ⟨by rw [HV], rfl, HB.out, HK.out⟩
              | false =>
                have HV : (pFoot T walk foot push k) = true := by unfold pFoot; simp [hvf, of_decide_eq_true hk0, hw]
                go_wp2_with (go_at_call 22; refine (rhas_any _ _ _).mono ?_; rintro e w' ⟨rfl, rfl⟩; first | rw [hw])
                go_meet
                case rel => exact ⟨by rw [HV], rfl, HB.out, HK.out⟩
            | false =>
              have HV : (pFoot T walk foot push k) = false := by unfold pFoot; simp [hvf, of_decide_eq_false hk0]
              go_wp2_with (go_at_call 22; refine (rhas_any _ _ _).mono ?_; rintro e w' ⟨rfl, rfl⟩; first | rw [rfl])
              go_meet
              case rel => exact ⟨by rw [HV], rfl, HB.out, HK.out⟩
          | false =>
            have HV : (pFoot T walk foot push k) = false := by unfold pFoot; simp [hvf]
            go_wp2_with (go_at_call 22; refine (rhas_any _ _ _).mono ?_; rintro e w' ⟨rfl, rfl⟩; first | rw [rfl])
            go_meet
            case rel => exact ⟨by rw [HV], rfl, HB.out, HK.out⟩
        case rest =>
        obtain ⟨rfl, rfl, hcB, hcK⟩ := hcut
        clear HB HK
        have HB := Lib.hid hcB
        have HK := Lib.hid hcK
        clear hcB hcK
        cases HP : (pFoot T walk foot push) k with
        | true =>
          have HS := Lib.hid (flt_hit (L := []) (P := pFoot T walk foot push) HQ.out HG.out HP)
          rw [N2.out] at HS
          have kS : wc.cell? ⟨go, 1, none⟩ = some (I (s2 : Nat)) := HB.out.cell 1 1 rfl rfl
          clear HP
          go_wp2_with fail
          refine (rwith_any _ _ _).mono ?_
          rintro e v5 ⟨rfl, hb5⟩
          have h5 := HB.out.step hb5
          have k5 := HK.out.step hb5
          have cs5 : v5.cell? ⟨go, 1, none⟩ = some (I (s2 : Nat)) := h5.cell 1 1 rfl rfl
          have fs5 : v5.frozen? ⟨go, 1, none⟩ = false := h5.frozen 1 1 rfl
          clear hb5 kS
          go_upto_region 12 with fail
          rw [HS.out]
          have h6 := h5.set 1 1 rfl (I (SetM.of ([] ++ (M.take (q + 1)).filter (pFoot T walk foot push)) : Nat))
          simp only [List.set_cons_succ, List.set_cons_zero, List.setIfInBounds_toArray] at h6
          have k6 := k5.set 1 (I (SetM.of ([] ++ (M.take (q + 1)).filter (pFoot T walk foot push)) : Nat))
          generalize World.setCell v5 _ _ = v6 at h6 k6 ⊢
          clear cs5 fs5 h5 k5 HB HK
          have HB := Lib.hid h6
          have HK := Lib.hid k6
          clear h6 k6
          have HD := Lib.hid HB.out.drop
          go_wp2
          go_roundw
          case rel => exact ⟨q + 1, by have := HQ.out; omega, by go_num, HD.out, HK.out⟩
          case measure => have := HQ.out; simp [intOf]; omega
        | false =>
          have HS := Lib.hid (flt_miss (L := []) (P := pFoot T walk foot push) HQ.out HG.out HP)
          rw [N2.out] at HS
          clear HP
          have HD := Lib.hid HB.out.drop
          rw [← HS.out] at HD
          go_wp2
          go_roundw
          case rel => exact ⟨q + 1, by have := HQ.out; omega, by go_num, HD.out, HK.out⟩
          case measure => have := HQ.out; simp [intOf]; omega
      | false =>
        have HS := Lib.hid (flt_miss (L := []) (P := pCar T green car here) HQ.out HG.out HP)
        rw [N1.out] at HS
        clear HP
        rw [← HS.out] at HB
        go_upto_region 9 with fail
        go_cut [18, 23] from 24 to 97 (fun t18 t23 wx => t18 = .bool (vFoot foot push k (phAt T k)) ∧ t23 = .int .i64 (q : Int) ∧ Blk.Bks w [(gx, (phAt T k).cells.toArray, 23), (go, #[I (SetM.of ([] ++ (M.take (q + 1)).filter (pCar T green car here)) : Nat), I (s2 : Nat)], 33), (gr, #[I 0, I 0], 33), (gc, #[I car, I foot], 33), (gt, c.toArray, 31)] wx ∧ Kp go w3 wx)
        case first =>
          have k0 : wc.cell? ⟨gc, 0, none⟩ = some (I car) := HB.out.cell 3 0 rfl rfl
          have k1 : wc.cell? ⟨gc, 1, none⟩ = some (I foot) := HB.out.cell 3 1 rfl rfl
          have k10 : wc.cell? ⟨gx, 10, none⟩ = some (I (phAt T k).recall) := HB.out.cell 0 10 rfl rfl
          cases hf : SetM.has foot k with
          | true =>
            have HV : (vFoot foot push k (phAt T k)) = true := by unfold vFoot; simp [hf]
            go_wp2_with (go_at_call 22; refine (rhas_any _ _ _).mono ?_; rintro e w' ⟨rfl, rfl⟩; first | rw [hf])
            go_meet
            case rel => exact ⟨by rw [HV], rfl, HB.out, HK.out⟩
          | false =>
            cases hp : SetM.has push k with
            | true =>
              have HV : (vFoot foot push k (phAt T k)) = true := by unfold vFoot; simp [hf, hp]
              go_wp2_with (go_at_call 22; refine (rhas_any _ _ _).mono ?_; rintro e w' ⟨rfl, rfl⟩; first | rw [hf] | rw [hp])
              go_meet
              case rel => exact ⟨by rw [HV], rfl, HB.out, HK.out⟩
            | false =>
              cases h3 : ((phAt T k).recall == 3) with
              | true =>
                have HV : (vFoot foot push k (phAt T k)) = true := by unfold vFoot; simp [hf, hp, h3]
                go_wp2_with (go_at_call 22; refine (rhas_any _ _ _).mono ?_; rintro e w' ⟨rfl, rfl⟩; first | rw [hf] | rw [hp])
                go_meet
                case rel => exact ⟨by rw [HV], rfl, HB.out, HK.out⟩
              | false =>
                have HV : (vFoot foot push k (phAt T k)) = false := by unfold vFoot; simp [hf, hp, h3]
                go_wp2_with (go_at_call 22; refine (rhas_any _ _ _).mono ?_; rintro e w' ⟨rfl, rfl⟩; first | rw [hf] | rw [hp])
                go_meet
                case rel => exact ⟨by rw [HV], rfl, HB.out, HK.out⟩
        case rest =>
        obtain ⟨rfl, rfl, hcB, hcK⟩ := hcut
        clear HB HK
        have HB := Lib.hid hcB
        have HK := Lib.hid hcK
        clear hcB hcK
        go_upto_region 10 with fail
        go_cut [18, 23, 91] from 24 to 97 (fun t18 t23 t91 wx => t91 = .bool (pFoot T walk foot push k) ∧ t23 = .int .i64 (q : Int) ∧ Blk.Bks w [(gx, (phAt T k).cells.toArray, 23), (go, #[I (SetM.of ([] ++ (M.take (q + 1)).filter (pCar T green car here)) : Nat), I (s2 : Nat)], 33), (gr, #[I 0, I 0], 33), (gc, #[I car, I foot], 33), (gt, c.toArray, 31)] wx ∧ Kp go w3 wx)
        case first =>
          have k8 : wc.cell? ⟨gx, 8, none⟩ = some (I (phAt T k).walk) := HB.out.cell 0 8 rfl rfl
          cases hvf : vFoot foot push k (phAt T k) with
          | true =>
            cases hk0 : decide (0 < (phAt T k).walk) with
            | true =>
              cases hw : SetM.has walk k with
              | true =>
                have HV : (pFoot T walk foot push k) = false := by unfold pFoot; simp [hvf, of_decide_eq_true hk0, hw]
                go_wp2_with (go_at_call 22; refine (rhas_any _ _ _).mono ?_; rintro e w' ⟨rfl, rfl⟩; first | rw [hw])
                go_meet
                case rel => exact ⟨by rw [HV], rfl, HB.out, HK.out⟩
              | false =>
                have HV : (pFoot T walk foot push k) = true := by unfold pFoot; simp [hvf, of_decide_eq_true hk0, hw]
                go_wp2_with (go_at_call 22; refine (rhas_any _ _ _).mono ?_; rintro e w' ⟨rfl, rfl⟩; first | rw [hw])
                go_meet
                case rel => exact ⟨by rw [HV], rfl, HB.out, HK.out⟩
            | false =>
              have HV : (pFoot T walk foot push k) = false := by unfold pFoot; simp [hvf, of_decide_eq_false hk0]
              go_wp2_with (go_at_call 22; refine (rhas_any _ _ _).mono ?_; rintro e w' ⟨rfl, rfl⟩; first | rw [rfl])
              go_meet
              case rel => exact ⟨by rw [HV], rfl, HB.out, HK.out⟩
          | false =>
            have HV : (pFoot T walk foot push k) = false := by unfold pFoot; simp [hvf]
            go_wp2_with (go_at_call 22; refine (rhas_any _ _ _).mono ?_; rintro e w' ⟨rfl, rfl⟩; first | rw [rfl])
            go_meet
            case rel => exact ⟨by rw [HV], rfl, HB.out, HK.out⟩
        case rest =>
        obtain ⟨rfl, rfl, hcB, hcK⟩ := hcut
        clear HB HK
        have HB := Lib.hid hcB
        have HK := Lib.hid hcK
        clear hcB hcK
        cases HP : (pFoot T walk foot push) k with
        | true =>
          have HS := Lib.hid (flt_hit (L := []) (P := pFoot T walk foot push) HQ.out HG.out HP)
          rw [N2.out] at HS
          have kS : wc.cell? ⟨go, 1, none⟩ = some (I (s2 : Nat)) := HB.out.cell 1 1 rfl rfl
          clear HP
          go_wp2_with fail
          refine (rwith_any _ _ _).mono ?_
          rintro e v5 ⟨rfl, hb5⟩
          have h5 := HB.out.step hb5
          have k5 := HK.out.step hb5
          have cs5 : v5.cell? ⟨go, 1, none⟩ = some (I (s2 : Nat)) := h5.cell 1 1 rfl rfl
          have fs5 : v5.frozen? ⟨go, 1, none⟩ = false := h5.frozen 1 1 rfl
          clear hb5 kS
          go_upto_region 12 with fail
          rw [HS.out]
          have h6 := h5.set 1 1 rfl (I (SetM.of ([] ++ (M.take (q + 1)).filter (pFoot T walk foot push)) : Nat))
          simp only [List.set_cons_succ, List.set_cons_zero, List.setIfInBounds_toArray] at h6
          have k6 := k5.set 1 (I (SetM.of ([] ++ (M.take (q + 1)).filter (pFoot T walk foot push)) : Nat))
          generalize World.setCell v5 _ _ = v6 at h6 k6 ⊢
          clear cs5 fs5 h5 k5 HB HK
          have HB := Lib.hid h6
          have HK := Lib.hid k6
          clear h6 k6
          have HD := Lib.hid HB.out.drop
          go_wp2
          go_roundw
          case rel => exact ⟨q + 1, by have := HQ.out; omega, by go_num, HD.out, HK.out⟩
          case measure => have := HQ.out; simp [intOf]; omega
        | false =>
          have HS := Lib.hid (flt_miss (L := []) (P := pFoot T walk foot push) HQ.out HG.out HP)
          rw [N2.out] at HS
          clear HP
          have HD := Lib.hid HB.out.drop
          rw [← HS.out] at HD
          go_wp2
          go_roundw
          case rel => exact ⟨q + 1, by have := HQ.out; omega, by go_num, HD.out, HK.out⟩
          case measure => have := HQ.out; simp [intOf]; omega
    · have HE : Hid (SetM.of ([] ++ (M.take q).filter (pCar T green car here)) = res) := Lib.hid (by rw [← RS.out, List.take_of_length_le (by omega)])
      have HE2 : Hid (SetM.of ([] ++ (M.take q).filter (pFoot T walk foot push)) = ref) := Lib.hid (by rw [← RF.out, List.take_of_length_le (by omega)])
      rw [HE.out, HE2.out] at HB0
      go_upto_region 13 with fail
      go_wp2_with (first
        | (refine Row.wpList_load_g 33 _ rfl (by first | rfl | go_simp) ⟨go, 0, none⟩ rfl [I res, I ref] _ (by have := Row.lies_of_block (HB0.out.at 0 rfl); simpa using this) Try.underlying33 rfl infoC2 ?_)
        | (refine wpList_store_row rfl 33 _ _ rfl gr #[I res, I ref] rfl rfl 33 _ (HB0.out.at 1 rfl) infoC2 rfl (by simp [Value.oneCell']) ?_))
      have hput := HB0.out.put 1 rfl #[I res, I ref]
      simp only [List.set_cons_succ, List.set_cons_zero] at hput
      generalize World.setRow wr gr _ = v3 at hput ⊢
      have H4 := Lib.hid hput
      clear hput
      go_wp2_with fail
      (try simp only [Exit.inBlock, Exit.then])
      refine bodyPost_ret (v := .agg #[I res, I ref]) ?_ rfl ⟨rfl, H4.out.bel⟩
      exact results_cell_row rfl _ _ gr 33 _ (0, 0) _ rfl (H4.out.at 1 rfl) Try.underlying33 rfl infoC2
end Go.Proofs.Ytneaomdgjlmleaa.Cl
