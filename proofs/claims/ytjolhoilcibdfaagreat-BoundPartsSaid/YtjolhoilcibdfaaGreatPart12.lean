/- 2 texts in one file, in build order. -/
import Derived.Test.YtjolhoilcibdfaaGreatRows
import Derived.Test.YtjolhoilcibdfaaGreatPart11
import Derived.Test.YtjolhoilcibdfaaGreatPart09
import Derived.Test.YtjolhoilcibdfaaGreatPart03
import Derived.Test.YtjolhoilcibdfaaGreatPart10
import Derived.Test.YtjolhoilcibdfaaGreatPart05
set_option linter.unusedVariables false
set_option linter.unusedSimpArgs false
set_option linter.unusedSectionVars false
/- The contract of the document's own Check. -/
namespace Go.Proofs.YtjolhoilcibdfaaGreat.RkK
open Go.ChangeShapes Go.WideShapes Go.ChangeAt Go.RowKit
open Tab PlaceM PlanM OnS ChkM ChkH ChkE
open ChkB (laid2)
open ChkI (hmx)
open Same (below_setRow)
open RefS (rhas_any rlist_any row_of)
open RkB (getD_mem)
open May (ret_bool infoT infoP infoD infoR infoB tabMay)
set_option linter.unusedVariables false
set_option linter.unusedSimpArgs false
theorem find_hit {f : Int → Bool} {L : List Int} {q : Nat} (h : q < L.length) (hf : f (L.getD q 0) = true) (hn : ∀ i, i < q → f (L.getD i 0) = false) : L.find? f = some (L.getD q 0) := by
  rw [List.getD_eq_getElem?_getD, List.getElem?_eq_getElem h] at hf ⊢
  rw [Option.getD_some] at hf ⊢
  rw [List.find?_eq_some_iff_getElem]
  refine ⟨hf, q, h, rfl, fun j hj => ?_⟩
  have := hn j hj
  rw [List.getD_eq_getElem?_getD, List.getElem?_eq_getElem (by omega)] at this
  simpa using this
theorem find_miss {f : Int → Bool} {L : List Int} (hn : ∀ i, i < L.length → f (L.getD i 0) = false) : L.find? f = none := by
  rw [List.find?_eq_none]
  intro z hz
  obtain ⟨i, hi, rfl⟩ := List.getElem_of_mem hz
  have := hn i hi
  rw [List.getD_eq_getElem?_getD, List.getElem?_eq_getElem hi] at this
  simpa using this
theorem lies_at {w : World} {b : Nat} {c : List Value} (h : Lies w ⟨b, 0, none⟩ c) (j : Nat) (hj : 0 < j) {v : Value} (hv : c[j]? = some v) : w.cell? ⟨b, j, none⟩ = some v := by
  have := h j v hv
  rw [show (⟨b, 0, none⟩ : Addr).add j = ⟨b, j, none⟩ by simp [Addr.add, Nat.pos_iff_ne_zero.1 hj]] at this
  exact this
set_option maxRecDepth 100000 in
set_option maxHeartbeats 16000000 in
theorem rcheck_any (T : Tab) (h : Hd) (w : World) (ht : IsTab w h T) (sm : Few T) :
    Calls Tryz.prog 15 #[.agg (T.cells h).toArray] w fun e w' => e = .returned (.agg (fcells (chkR T))) ∧ Below w.heap.size w w' := by
  have hsz := (cells_ok ht).size
  have IA : Hid ((Tryz.prog.info? 32).map (·.size) = some (T.cells h).length) := Lib.hid (by rw [List.size_toArray] at hsz; rw [hsz]; exact infoT)
  have MY : Hid (∀ W, Below w.heap.size w W → Calls Tryz.prog 48 #[.agg (T.cells h).toArray] W fun e w' => e = .returned (.bool (tabMay T)) ∧ Below W.heap.size W w') := Lib.hid (fun W hb => May.rmay_any T h W (ht.below hb))
  have ON : Hid (∀ W, Below w.heap.size w W → Calls Tryz.prog 22 #[.agg (T.cells h).toArray] W fun e w' => e = .returned (.int .i64 (onS T : Nat)) ∧ Below W.heap.size W w') := Lib.hid (fun W hb => OnS.on_any T h W (ht.below hb))
  have RG : Hid (∀ W, Below w.heap.size w W → Calls Tryz.prog 50 #[.agg (T.cells h).toArray] W fun e w' => e = .returned (.agg (fltC 8 (ringsR T))) ∧ Below W.heap.size W w') := Lib.hid (fun W hb => RkR.rrings_any T h W (ht.below hb) sm)
  have CF : Hid (∀ (k : Nat) W, k < 8 → Below w.heap.size w W → Calls Tryz.prog 51 #[.agg (T.cells h).toArray, .int .i64 k, .int .i64 (onS T : Nat)] W fun e w' => e = .returned (.bool (confOk T k)) ∧ Below W.heap.size W w') := Lib.hid (fun k W hk hb => RkA.conflict_any T h k hk W (ht.below hb) sm)
  have FL : Hid (∀ (k : Nat) W, k < 8 → Below w.heap.size w W → Calls Tryz.prog 54 #[.agg (T.cells h).toArray, .int .i64 k, .int .i64 (onS T : Nat)] W fun e w' => e = .returned (.bool (flashOk T k)) ∧ Below W.heap.size W w') := Lib.hid (fun k W hk hb => RkA.flash_any T h k hk W (ht.below hb))
  have RL : Hid (∀ (r : Rl) W, Below w.heap.size w W → Calls Tryz.prog 52 #[.agg (T.cells h).toArray, .agg r.cells.toArray, .int .i64 (onS T : Nat)] W fun e w' => e = .returned (.bool (railOk T r)) ∧ Below W.heap.size W w') := Lib.hid (fun r W hb => RkC.rail_any T h r W (ht.below hb) sm)
  have DO : Hid (tabMay T = true → ∀ d, d ∈ T.dets → Fl.isn d.on = false ∧ Fl.isn d.off = false ∧ 0 ≤ d.phase ∧ d.phase < 8) := Lib.hid (fun hm d hd => ChkK.det_ok hm hd)
  have LT0 := Lib.hid (Row.lies_new w (T.cells h).toArray 32)
  have PL0 := Lib.hid (fun k hk => ChkB.phase_lies ht k hk)
  have hs1 : (w.alloc (.cells (T.cells h).toArray 32)).heap.size = w.heap.size + 1 := by simp
  have BD := Lib.hid (fun q (hq : q ∈ ons T) => SetM.list_bd _ q hq)
  have hl8 : (ons T).length ≤ 8 := SetM.list_len _
  have OL : Hid (SetM.list (onS T : Nat) = ons T) := Lib.hid rfl
  have C113 : Hid ((T.cells h)[113]? = some (.slice h.d.a T.dets.length h.d.cap)) := Lib.hid ((List.getElem?_toArray ..).symm.trans (cells_ok ht).d)
  have C114 : Hid ((T.cells h)[114]? = some (.slice h.r.a T.rails.length h.r.cap)) := Lib.hid ((List.getElem?_toArray ..).symm.trans (cells_ok ht).r)
  have C115 : Hid ((T.cells h)[115]? = some (.slice h.b.a T.buses.length h.b.cap)) := Lib.hid ((List.getElem?_toArray ..).symm.trans (cells_ok ht).b)
  have RD := Lib.hid ht.dets
  have RR := Lib.hid ht.rails
  have RB := Lib.hid ht.buses
  have KD := ht.dets.len
  have KR := ht.rails.len
  have KB := ht.buses.len
  unfold maxLen at KD KR KB
  obtain ⟨l, hl⟩ : ∃ z, z = rulesR T := ⟨_, rfl⟩
  have CK : Hid (chkR T = firstF l) := Lib.hid (by rw [hl]; rfl)
  unfold rulesR at hl
  have LL0 : Hid (l[0]? = some (4, mayF T)) := Lib.hid (by rw [hl]; rfl)
  have LL1 : Hid (l[1]? = some (7, (ons T).find? fun p => !phOk (phAt T p))) := Lib.hid (by rw [hl]; rfl)
  have LL2 : Hid (l[2]? = some (8, ringsR T)) := Lib.hid (by rw [hl]; rfl)
  have LL3 : Hid (l[3]? = some (9, (ons T).find? fun p => !confOk T p)) := Lib.hid (by rw [hl]; rfl)
  have LL4 : Hid (l[4]? = some (10, idx (detR T) T.dets)) := Lib.hid (by rw [hl]; rfl)
  have LL5 : Hid (l[5]? = some (11, idx (fun r => !railOk T r) T.rails)) := Lib.hid (by rw [hl]; rfl)
  have LL6 : Hid (l[6]? = some (12, idx (busR T) T.buses)) := Lib.hid (by rw [hl]; rfl)
  have LL7 : Hid (l[7]? = some (13, (ons T).find? fun p => !flashOk T p)) := Lib.hid (by rw [hl]; rfl)
  have LE : Hid (l.length = 8) := Lib.hid (by rw [hl]; rfl)
  have DR : Hid (∀ d, detR T d = (gtF d.off d.on || !SetM.has (onS T : Nat) d.phase)) := Lib.hid (fun _ => rfl)
  have BR : Hid (∀ b, busR T b = (b.set == 0 || (!inR b.set (onS T : Nat) || decide (b.lock < 1)))) := Lib.hid (fun _ => rfl)
  have MF : Hid (mayF T = if tabMay T then none else some 0) := Lib.hid rfl
  generalize chkR T = ck at CK ⊢
  clear hl ht sm
  generalize hda : h.d.a = da at *
  generalize hdc : h.d.cap = dcap at *
  generalize hra : h.r.a = ra at *
  generalize hrc : h.r.cap = rcap at *
  generalize hba : h.b.a = ba at *
  generalize hbc : h.b.cap = bcap at *
  have RDa := Lib.hid hda
  have RRa := Lib.hid hra
  have RBa := Lib.hid hba
  clear hda hdc hra hrc hba hbc
  generalize T.cells h = c at *
  generalize ons T = L at *
  generalize hon : (((onS T : Nat)) : Int) = on at *
  clear hon
  go_enter Tryz.func15, Tryz.ntmps15
  go_upto_region 1 with fail
  obtain ⟨W1, hW1, E1, E0, EB, bR⟩ := laid2 w (.cells c.toArray 32) (.cells #[.int .i64 0, .int .i64 0] 37)
  rw [hW1]
  have LT := Lib.hid (LT0.out.below (by rw [hs1]; exact EB))
  have PL := Lib.hid (fun k hk => (PL0.out k hk).below (by rw [hs1]; exact EB))
  have C0 := Lib.hid E0
  have C2 := Lib.hid bR
  clear hW1 EB hs1 hsz LT0 PL0 E0 E1 bR
  go_wp2_with (refine Row.wpList_load_g 32 _ rfl (by first | rfl | go_simp) ⟨w.heap.size, 0, none⟩ rfl c _ LT.out Tryz.underlying32 rfl IA.out ?_)
  (try go_wp2_with fail)
  refine (MY.out _ C0.out).mono ?_
  rintro e u1 ⟨rfl, hb⟩
  replace C0 : Hid (Below w.heap.size w u1) := Lib.hid (C0.out.trans (hb.mono C0.out.size))
  replace C2 : Hid (u1.heap[w.heap.size + 1]? = some (.cells #[.int .i64 0, .int .i64 0] 37 (0, 0))) := Lib.hid ((hb.block _ (Array.getElem?_eq_some_iff.1 C2.out).1).trans C2.out)
  replace LT := Lib.hid (LT.out.below hb)
  replace PL := Lib.hid (fun k hk => (PL.out k hk).below hb)
  clear hb
  cases hm : tabMay T with
  | false =>
    have RO : Hid (ck = (4, 0)) := Lib.hid (by rw [CK.out]; exact first_hit (q := 0) (by rw [LL0.out, MF.out, hm]; rfl) (fun j x hj => by omega))
    clear hm
    have HW := Lib.hid (below_setRow C0.out (g := w.heap.size + 1) (by omega) #[.int .i64 4, .int .i64 0])
    have HK := Lib.hid (setRow_heap u1 (w.heap.size + 1) _ #[.int .i64 4, .int .i64 0] _ _ C2.out)
    go_wp2_with (first | (refine wpList_store_row rfl 37 _ _ rfl (w.heap.size + 1) #[.int .i64 4, .int .i64 0] rfl rfl 37 _ C2.out infoF rfl (by simp [Value.oneCell']) ?_))
    generalize u1.setRow (w.heap.size + 1) #[.int .i64 4, .int .i64 0] = uz at HW HK ⊢
    (try go_wp2_with fail)
    (try simp only [Exit.inBlock, Exit.then])
    refine bodyPost_ret (v := .agg #[.int .i64 4, .int .i64 0]) ?_ rfl ⟨by rw [RO.out]; rfl, HW.out⟩
    exact results_cell_row rfl _ _ (w.heap.size + 1) 37 _ (0, 0) _ rfl HK.out Tryz.underlying37 rfl infoF
  | true =>
    have N1 : Hid (∀ (j : Nat) x, j < 1 → l[j]? = some x → x.2 = none) := Lib.hid (fun j x hj hx => by
      obtain rfl : j = 0 := by omega
      obtain rfl := Option.some.inj (hx.symm.trans LL0.out)
      show mayF T = none
      rw [MF.out, hm]; rfl)
    have DM := Lib.hid (DO.out hm)
    clear hm
    go_wp2_with (refine Row.wpList_load_g 32 _ rfl (by first | rfl | go_simp) ⟨w.heap.size, 0, none⟩ rfl c _ LT.out Tryz.underlying32 rfl IA.out ?_)
    (try go_wp2_with fail)
    refine (ON.out _ C0.out).mono ?_
    rintro e u2 ⟨rfl, hb⟩
    replace C0 : Hid (Below w.heap.size w u2) := Lib.hid (C0.out.trans (hb.mono C0.out.size))
    replace C2 : Hid (u2.heap[w.heap.size + 1]? = some (.cells #[.int .i64 0, .int .i64 0] 37 (0, 0))) := Lib.hid ((hb.block _ (Array.getElem?_eq_some_iff.1 C2.out).1).trans C2.out)
    replace LT := Lib.hid (LT.out.below hb)
    replace PL := Lib.hid (fun k hk => (PL.out k hk).below hb)
    clear hb
    go_wp2_with fail
    refine (rlist_any _ _).mono ?_
    rintro e u3 ⟨v, rfl, hown, hb⟩
    rw [OL.out] at hown
    obtain ⟨la, lcap, rfl, hrow⟩ := row_of hown
    have HROW := Lib.hid hrow
    replace C0 : Hid (Below w.heap.size w u3) := Lib.hid (C0.out.trans (hb.mono C0.out.size))
    replace C2 : Hid (u3.heap[w.heap.size + 1]? = some (.cells #[.int .i64 0, .int .i64 0] 37 (0, 0))) := Lib.hid ((hb.block _ (Array.getElem?_eq_some_iff.1 C2.out).1).trans C2.out)
    replace LT := Lib.hid (LT.out.below hb)
    replace PL := Lib.hid (fun k hk => (PL.out k hk).below hb)
    clear hown hrow hb
    go_wp2_with fail
    go_loopw [25] (fun i wr => ∃ q : Nat, q ≤ L.length ∧ i = .int .i64 q ∧ (∀ i, i < q → (fun p => phOk (phAt T p)) (L.getD i 0) = true) ∧ Below u3.heap.size u3 wr) (fun i _ => L.length - (intOf i).toNat)
    case atStart => exact ⟨0, by omega, rfl, (fun j h => by omega), Below.refl _ _⟩
    case round =>
      obtain ⟨q, hq, rfl, hall, hB⟩ := hrel
      have HA := Lib.hid hall
      have HB := Lib.hid hB
      have hROW := HROW.out.below hB
      replace C0 : Hid (Below w.heap.size w wr) := Lib.hid (C0.out.trans (hB.mono C0.out.size))
      replace C2 : Hid (wr.heap[w.heap.size + 1]? = some (.cells #[.int .i64 0, .int .i64 0] 37 (0, 0))) := Lib.hid ((hB.block _ (Array.getElem?_eq_some_iff.1 C2.out).1).trans C2.out)
      replace LT := Lib.hid (LT.out.below hB)
      replace PL := Lib.hid (fun k hk => (PL.out k hk).below hB)
      clear hall hB
      by_cases hlt : q < L.length
      · obtain ⟨y, rfl, hcells⟩ := hROW.cells hlt
        have cq := hcells q hlt
        have hmem := getD_mem hlt
        have hbd := BD.out _ hmem
        generalize hz : L.getD q 0 = z at *
        have HZ := Lib.hid hz
        clear hcells hz hmem hROW
        obtain ⟨p, rfl⟩ := Int.eq_ofNat_of_zero_le hbd.1
        have hp8 : ((p : Nat) : Int) < 8 := hbd.2
        have hpn : p < 8 := by omega
        obtain ⟨gd, hgd⟩ : ∃ z, (fun p => phOk (phAt T p)) ((p : Nat) : Int) = z := ⟨_, rfl⟩
        have HPL := Lib.hid (PL.out p hpn)
        go_wp2_with (refine Row.wpList_load_g 24 _ rfl (by first | rfl | go_simp) ⟨w.heap.size, p * 13, none⟩ rfl (phAt T p).cells _ HPL.out Tryz.underlying24 rfl infoP ?_)
        (try go_wp2_with fail)
        have PC := RkA.phase_any (phAt T p) wr
        rw [show phOk (phAt T ((p : Nat) : Int)) = gd from hgd] at PC
        refine PC.mono ?_
        rintro e wq ⟨rfl, hb⟩
        have HBQ := Lib.hid (HB.out.trans (hb.mono HB.out.size))
        replace C0 : Hid (Below w.heap.size w wq) := Lib.hid (C0.out.trans (hb.mono C0.out.size))
        replace C2 : Hid (wq.heap[w.heap.size + 1]? = some (.cells #[.int .i64 0, .int .i64 0] 37 (0, 0))) := Lib.hid ((hb.block _ (Array.getElem?_eq_some_iff.1 C2.out).1).trans C2.out)
        replace LT := Lib.hid (LT.out.below hb)
        replace PL := Lib.hid (fun k hk => (PL.out k hk).below hb)
        clear hb
        cases gd with
        | false =>
          have RO : Hid (ck = (7, ((p : Nat) : Int))) := Lib.hid (by
            rw [CK.out]
            refine first_hit (q := 1) ?_ N1.out
            rw [LL1.out, find_hit hlt (by rw [HZ.out]; simp [hgd]) (fun i hi => by have h1 := HA.out i hi; (try dsimp only at h1 ⊢); rw [h1]; rfl), HZ.out])
          clear hgd
          have HW := Lib.hid (below_setRow C0.out (g := w.heap.size + 1) (by omega) #[.int .i64 7, .int .i64 p])
          have HK := Lib.hid (setRow_heap wq (w.heap.size + 1) _ #[.int .i64 7, .int .i64 p] _ _ C2.out)
          go_wp2_with (first | (refine wpList_store_row rfl 37 _ _ rfl (w.heap.size + 1) #[.int .i64 7, .int .i64 p] rfl rfl 37 _ C2.out infoF rfl (by simp [Value.oneCell']) ?_))
          generalize wq.setRow (w.heap.size + 1) #[.int .i64 7, .int .i64 p] = uz at HW HK ⊢
          (try go_wp2_with fail)
          (try simp only [Exit.inBlock, Exit.then])
          refine bodyPost_ret (v := .agg #[.int .i64 7, .int .i64 p]) ?_ rfl ⟨by rw [RO.out]; rfl, HW.out⟩
          exact results_cell_row rfl _ _ (w.heap.size + 1) 37 _ (0, 0) _ rfl HK.out Tryz.underlying37 rfl infoF
        | true =>
          have HG := Lib.hid hgd
          clear hgd
          go_wp2
          go_roundw
          case rel => exact ⟨q + 1, by omega, by go_num, (fun i hi => by
            by_cases h1 : i = q
            · subst h1; rw [HZ.out]; exact HG.out
            · exact HA.out i (by omega)), HBQ.out⟩
          case measure => simp [intOf]; omega
      · have FM := Lib.hid (find_miss (f := fun p => !(fun p => phOk (phAt T p)) p) (L := L) (fun i hi => by have h1 := HA.out i (by omega); (try dsimp only at h1 ⊢); rw [h1]; rfl))
        have N2 : Hid (∀ (j : Nat) x, j < 2 → l[j]? = some x → x.2 = none) := Lib.hid (fun j x hj hx => by
          by_cases hjj : j = 1
          · subst hjj; obtain rfl := Option.some.inj (hx.symm.trans LL1.out); exact FM.out
          · exact N1.out j x (by omega) hx)
        go_wp2_with (refine Row.wpList_load_g 32 _ rfl (by first | rfl | go_simp) ⟨w.heap.size, 0, none⟩ rfl c _ LT.out Tryz.underlying32 rfl IA.out ?_)
        (try go_wp2_with fail)
        refine (RG.out _ C0.out).mono ?_
        rintro e v1 ⟨rfl, hb⟩
        replace C0 : Hid (Below w.heap.size w v1) := Lib.hid (C0.out.trans (hb.mono C0.out.size))
        replace C2 : Hid (v1.heap[w.heap.size + 1]? = some (.cells #[.int .i64 0, .int .i64 0] 37 (0, 0))) := Lib.hid ((hb.block _ (Array.getElem?_eq_some_iff.1 C2.out).1).trans C2.out)
        replace LT := Lib.hid (LT.out.below hb)
        replace PL := Lib.hid (fun k hk => (PL.out k hk).below hb)
        clear hb
        cases hrg : ringsR T with
        | some p =>
          have RO : Hid (ck = (8, p)) := Lib.hid (by rw [CK.out]; exact first_hit (q := 2) (by rw [LL2.out, hrg]) N2.out)
          clear hrg
          go_upto_region 11 with (refine Row.wpList_store_new rfl 37 _ _ rfl v1 _ #[I 8, I p] rfl rfl rfl infoF rfl (by simp [Value.oneCell']) ?_)
          have hb : Below v1.heap.size v1 (v1.alloc (.cells #[I 8, I p] 37)) := (Below.refl _ _).alloc (Nat.le_refl _) _
          have hg := heap_alloc_new v1 (.cells #[I 8, I p] 37)
          replace C0 : Hid (Below w.heap.size w (v1.alloc (.cells #[I 8, I p] 37))) := Lib.hid (C0.out.trans (hb.mono C0.out.size))
          replace C2 : Hid ((v1.alloc (.cells #[I 8, I p] 37)).heap[w.heap.size + 1]? = some (.cells #[.int .i64 0, .int .i64 0] 37 (0, 0))) := Lib.hid ((hb.block _ (Array.getElem?_eq_some_iff.1 C2.out).1).trans C2.out)
          replace LT := Lib.hid (LT.out.below hb)
          replace PL := Lib.hid (fun k hk => (PL.out k hk).below hb)
          have d0 : (v1.alloc (.cells #[I 8, I p] 37)).cell? ⟨v1.heap.size, 0, none⟩ = some (I 8) := by rw [cell_of_row _ _ _ _ _ _ hg]; rfl
          have HL : Hid (Lies (v1.alloc (.cells #[I 8, I p] 37)) ⟨v1.heap.size, 0, none⟩ #[I 8, I p].toList) := Lib.hid (Row.lies_of_block hg)
          clear hb hg
          generalize v1.alloc (.cells #[I 8, I p] 37) = v2 at *
          generalize v1.heap.size = b1 at *
          have HW := Lib.hid (below_setRow C0.out (g := w.heap.size + 1) (by omega) #[I 8, I p])
          have HK := Lib.hid (setRow_heap v2 (w.heap.size + 1) _ #[I 8, I p] _ _ C2.out)
          go_wp2_with (first | (refine Row.wpList_load_g 37 _ rfl (by first | rfl | go_simp) ⟨b1, 0, none⟩ rfl [I 8, I p] _ HL.out Tryz.underlying37 rfl infoF ?_) | (refine wpList_store_row rfl 37 _ _ rfl (w.heap.size + 1) #[I 8, I p] rfl rfl 37 _ C2.out infoF rfl (by simp [Value.oneCell']) ?_))
          generalize v2.setRow (w.heap.size + 1) #[I 8, I p] = uz at HW HK ⊢
          (try go_wp2_with fail)
          (try simp only [Exit.inBlock, Exit.then])
          refine bodyPost_ret (v := .agg #[I 8, I p]) ?_ rfl ⟨by rw [RO.out]; rfl, HW.out⟩
          exact results_cell_row rfl _ _ (w.heap.size + 1) 37 _ (0, 0) _ rfl HK.out Tryz.underlying37 rfl infoF
        | none =>
          have N3 : Hid (∀ (j : Nat) x, j < 3 → l[j]? = some x → x.2 = none) := Lib.hid (fun j x hj hx => by
            by_cases hjj : j = 2
            · subst hjj; obtain rfl := Option.some.inj (hx.symm.trans LL2.out); exact hrg
            · exact N2.out j x (by omega) hx)
          clear hrg
          go_upto_region 11 with (refine Row.wpList_store_new rfl 37 _ _ rfl v1 _ #[I 0, I 0] rfl rfl rfl infoF rfl (by simp [Value.oneCell']) ?_)
          have hb : Below v1.heap.size v1 (v1.alloc (.cells #[I 0, I 0] 37)) := (Below.refl _ _).alloc (Nat.le_refl _) _
          have hg := heap_alloc_new v1 (.cells #[I 0, I 0] 37)
          replace C0 : Hid (Below w.heap.size w (v1.alloc (.cells #[I 0, I 0] 37))) := Lib.hid (C0.out.trans (hb.mono C0.out.size))
          replace C2 : Hid ((v1.alloc (.cells #[I 0, I 0] 37)).heap[w.heap.size + 1]? = some (.cells #[.int .i64 0, .int .i64 0] 37 (0, 0))) := Lib.hid ((hb.block _ (Array.getElem?_eq_some_iff.1 C2.out).1).trans C2.out)
          replace LT := Lib.hid (LT.out.below hb)
          replace PL := Lib.hid (fun k hk => (PL.out k hk).below hb)
          have d0 : (v1.alloc (.cells #[I 0, I 0] 37)).cell? ⟨v1.heap.size, 0, none⟩ = some (I 0) := by rw [cell_of_row _ _ _ _ _ _ hg]; rfl
          have HL : Hid (Lies (v1.alloc (.cells #[I 0, I 0] 37)) ⟨v1.heap.size, 0, none⟩ #[I 0, I 0].toList) := Lib.hid (Row.lies_of_block hg)
          clear hb hg
          generalize v1.alloc (.cells #[I 0, I 0] 37) = v2 at *
          generalize v1.heap.size = b1 at *
          go_wp2_with fail
          refine (rlist_any _ _).mono ?_
          rintro e u4 ⟨v, rfl, hown, hb⟩
          rw [OL.out] at hown
          obtain ⟨la, lcap, rfl, hrow⟩ := row_of hown
          have HROW := Lib.hid hrow
          replace C0 : Hid (Below w.heap.size w u4) := Lib.hid (C0.out.trans (hb.mono C0.out.size))
          replace C2 : Hid (u4.heap[w.heap.size + 1]? = some (.cells #[.int .i64 0, .int .i64 0] 37 (0, 0))) := Lib.hid ((hb.block _ (Array.getElem?_eq_some_iff.1 C2.out).1).trans C2.out)
          replace LT := Lib.hid (LT.out.below hb)
          replace PL := Lib.hid (fun k hk => (PL.out k hk).below hb)
          clear hown hrow hb
          go_wp2_with fail
          go_loopw [47] (fun i wr => ∃ q : Nat, q ≤ L.length ∧ i = .int .i64 q ∧ (∀ i, i < q → (confOk T) (L.getD i 0) = true) ∧ Below u4.heap.size u4 wr) (fun i _ => L.length - (intOf i).toNat)
          case atStart => exact ⟨0, by omega, rfl, (fun j h => by omega), Below.refl _ _⟩
          case round =>
            obtain ⟨q, hq, rfl, hall, hB⟩ := hrel
            have HA := Lib.hid hall
            have HB := Lib.hid hB
            have hROW := HROW.out.below hB
            replace C0 : Hid (Below w.heap.size w wr) := Lib.hid (C0.out.trans (hB.mono C0.out.size))
            replace C2 : Hid (wr.heap[w.heap.size + 1]? = some (.cells #[.int .i64 0, .int .i64 0] 37 (0, 0))) := Lib.hid ((hB.block _ (Array.getElem?_eq_some_iff.1 C2.out).1).trans C2.out)
            replace LT := Lib.hid (LT.out.below hB)
            replace PL := Lib.hid (fun k hk => (PL.out k hk).below hB)
            clear hall hB
            by_cases hlt : q < L.length
            · obtain ⟨y, rfl, hcells⟩ := hROW.cells hlt
              have cq := hcells q hlt
              have hmem := getD_mem hlt
              have hbd := BD.out _ hmem
              generalize hz : L.getD q 0 = z at *
              have HZ := Lib.hid hz
              clear hcells hz hmem hROW
              obtain ⟨p, rfl⟩ := Int.eq_ofNat_of_zero_le hbd.1
              have hp8 : ((p : Nat) : Int) < 8 := hbd.2
              have hpn : p < 8 := by omega
              obtain ⟨gd, hgd⟩ : ∃ z, (confOk T) ((p : Nat) : Int) = z := ⟨_, rfl⟩
              have PC := CF.out p wr hpn C0.out
              rw [hgd] at PC
              go_wp2_with (refine Row.wpList_load_g 32 _ rfl (by first | rfl | go_simp) ⟨w.heap.size, 0, none⟩ rfl c _ LT.out Tryz.underlying32 rfl IA.out ?_)
              (try go_wp2_with fail)
              refine PC.mono ?_
              rintro e wq ⟨rfl, hb⟩
              have HBQ := Lib.hid (HB.out.trans (hb.mono HB.out.size))
              replace C0 : Hid (Below w.heap.size w wq) := Lib.hid (C0.out.trans (hb.mono C0.out.size))
              replace C2 : Hid (wq.heap[w.heap.size + 1]? = some (.cells #[.int .i64 0, .int .i64 0] 37 (0, 0))) := Lib.hid ((hb.block _ (Array.getElem?_eq_some_iff.1 C2.out).1).trans C2.out)
              replace LT := Lib.hid (LT.out.below hb)
              replace PL := Lib.hid (fun k hk => (PL.out k hk).below hb)
              clear hb
              cases gd with
              | false =>
                have RO : Hid (ck = (9, ((p : Nat) : Int))) := Lib.hid (by
                  rw [CK.out]
                  refine first_hit (q := 3) ?_ N3.out
                  rw [LL3.out, find_hit hlt (by rw [HZ.out]; simp [hgd]) (fun i hi => by have h1 := HA.out i hi; (try dsimp only at h1 ⊢); rw [h1]; rfl), HZ.out])
                clear hgd
                have HW := Lib.hid (below_setRow C0.out (g := w.heap.size + 1) (by omega) #[.int .i64 9, .int .i64 p])
                have HK := Lib.hid (setRow_heap wq (w.heap.size + 1) _ #[.int .i64 9, .int .i64 p] _ _ C2.out)
                go_wp2_with (first | (refine wpList_store_row rfl 37 _ _ rfl (w.heap.size + 1) #[.int .i64 9, .int .i64 p] rfl rfl 37 _ C2.out infoF rfl (by simp [Value.oneCell']) ?_))
                generalize wq.setRow (w.heap.size + 1) #[.int .i64 9, .int .i64 p] = uz at HW HK ⊢
                (try go_wp2_with fail)
                (try simp only [Exit.inBlock, Exit.then])
                refine bodyPost_ret (v := .agg #[.int .i64 9, .int .i64 p]) ?_ rfl ⟨by rw [RO.out]; rfl, HW.out⟩
                exact results_cell_row rfl _ _ (w.heap.size + 1) 37 _ (0, 0) _ rfl HK.out Tryz.underlying37 rfl infoF
              | true =>
                have HG := Lib.hid hgd
                clear hgd
                go_wp2
                go_roundw
                case rel => exact ⟨q + 1, by omega, by go_num, (fun i hi => by
                  by_cases h1 : i = q
                  · subst h1; rw [HZ.out]; exact HG.out
                  · exact HA.out i (by omega)), HBQ.out⟩
                case measure => simp [intOf]; omega
            · have FM := Lib.hid (find_miss (f := fun p => !(confOk T) p) (L := L) (fun i hi => by have h1 := HA.out i (by omega); (try dsimp only at h1 ⊢); rw [h1]; rfl))
              have N4 : Hid (∀ (j : Nat) x, j < 4 → l[j]? = some x → x.2 = none) := Lib.hid (fun j x hj hx => by
                by_cases hjj : j = 3
                · subst hjj; obtain rfl := Option.some.inj (hx.symm.trans LL3.out); exact FM.out
                · exact N3.out j x (by omega) hx)
              
              rename World => wd
              go_wp2_with fail
              go_loopw [9] (fun i wr => ∃ q : Nat, q ≤ T.dets.length ∧ i = .int .i64 q ∧ (∀ (j : Nat) u, j < q → T.dets[j]? = some u → (detR T) u = false) ∧ Below wd.heap.size wd wr) (fun i _ => T.dets.length - (intOf i).toNat)
              case atStart => exact ⟨0, by omega, rfl, (fun j u h => by omega), Below.refl _ _⟩
              case round =>
                obtain ⟨q, hq, rfl, hall, hB⟩ := hrel
                have HA := Lib.hid hall
                have HB := Lib.hid hB
                replace C0 : Hid (Below w.heap.size w wr) := Lib.hid (C0.out.trans (hB.mono C0.out.size))
                replace C2 : Hid (wr.heap[w.heap.size + 1]? = some (.cells #[.int .i64 0, .int .i64 0] 37 (0, 0))) := Lib.hid ((hB.block _ (Array.getElem?_eq_some_iff.1 C2.out).1).trans C2.out)
                replace LT := Lib.hid (LT.out.below hB)
                replace PL := Lib.hid (fun k hk => (PL.out k hk).below hB)
                clear hall hB
                have qs := lies_at LT.out 113 (by decide) C113.out
                by_cases hlt : q < T.dets.length
                · have hv := List.getElem?_eq_getElem hlt
                  generalize hz : T.dets[q] = v at hv
                  have hmem : v ∈ T.dets := List.mem_of_getElem? hv
                  have HV := Lib.hid hv
                  clear hv hz
                  obtain ⟨y, hy, hc⟩ := (RD.out.below C0.out).at HV.out
                  rw [RDa.out] at hy
                  obtain rfl : da = some y := hy
                  have HC := Lib.hid hc
                  clear hc
                  have DV := Lib.hid (DM.out v hmem)
                  clear hmem
                  obtain ⟨ph, don, doff, ddelay, dextend, dmOn, dmOff⟩ := v
                  have DQ := Lib.hid (DR.out ⟨ph, don, doff, ddelay, dextend, dmOn, dmOff⟩)
                  have ho := Secs.ord_cases doff don DV.out.2.1 DV.out.1
                  have HOC := Lib.hid ho
                  clear ho
                  obtain ⟨hp, hhp⟩ : ∃ z, SetM.has on ph = z := ⟨_, rfl⟩
                  have HHP := Lib.hid hhp
                  clear hhp
                  have hwr := HB.out.size
                  go_upto_region 23 with (first | (refine Row.wpList_load_g 45 _ rfl (by first | rfl | go_simp) (y.add (q * 7)) rfl (Det.cells ⟨ph, don, doff, ddelay, dextend, dmOn, dmOff⟩) _ HC.out Tryz.underlying45 rfl infoD ?_) | (refine Row.wpList_store_new rfl 45 _ _ rfl wr _ (Det.cells ⟨ph, don, doff, ddelay, dextend, dmOn, dmOff⟩).toArray rfl rfl rfl infoD rfl (Det.one _) ?_))
                  have hb : Below wr.heap.size wr (wr.alloc (.cells (Det.cells ⟨ph, don, doff, ddelay, dextend, dmOn, dmOff⟩).toArray 45)) := (Below.refl _ _).alloc (Nat.le_refl _) _
                  have hg := heap_alloc_new wr (.cells (Det.cells ⟨ph, don, doff, ddelay, dextend, dmOn, dmOff⟩).toArray 45)
                  have HBQ := Lib.hid (HB.out.trans (hb.mono HB.out.size))
                  replace C0 : Hid (Below w.heap.size w (wr.alloc (.cells (Det.cells ⟨ph, don, doff, ddelay, dextend, dmOn, dmOff⟩).toArray 45))) := Lib.hid (C0.out.trans (hb.mono C0.out.size))
                  replace C2 : Hid ((wr.alloc (.cells (Det.cells ⟨ph, don, doff, ddelay, dextend, dmOn, dmOff⟩).toArray 45)).heap[w.heap.size + 1]? = some (.cells #[.int .i64 0, .int .i64 0] 37 (0, 0))) := Lib.hid ((hb.block _ (Array.getElem?_eq_some_iff.1 C2.out).1).trans C2.out)
                  replace LT := Lib.hid (LT.out.below hb)
                  replace PL := Lib.hid (fun k hk => (PL.out k hk).below hb)
                  clear hb
                  have d0 : (wr.alloc (.cells (Det.cells ⟨ph, don, doff, ddelay, dextend, dmOn, dmOff⟩).toArray 45)).cell? ⟨wr.heap.size, 0, none⟩ = some (I ph) := by rw [cell_of_row _ _ _ _ _ _ hg]; rfl
                  have d1 : (wr.alloc (.cells (Det.cells ⟨ph, don, doff, ddelay, dextend, dmOn, dmOff⟩).toArray 45)).cell? ⟨wr.heap.size, 1, none⟩ = some (.float .f64 don) := by rw [cell_of_row _ _ _ _ _ _ hg]; rfl
                  have d2 : (wr.alloc (.cells (Det.cells ⟨ph, don, doff, ddelay, dextend, dmOn, dmOff⟩).toArray 45)).cell? ⟨wr.heap.size, 2, none⟩ = some (.float .f64 doff) := by rw [cell_of_row _ _ _ _ _ _ hg]; rfl
                  clear hg HC qs
                  generalize hxc : (Det.cells ⟨ph, don, doff, ddelay, dextend, dmOn, dmOff⟩) = xc at *
                  clear hxc
                  generalize wr.alloc (.cells xc.toArray 45) = wq at *
                  generalize wr.heap.size = b1 at *
                  have D0 := Lib.hid d0
                  rcases HOC.out with ⟨ga, ho⟩ | ⟨ga, ho⟩ | ⟨ga, ho⟩
                  · have GT : Hid (gtF doff don = false) := Lib.hid (by unfold gtF; exact decide_eq_false (by omega))
                    clear ga
                    go_wp2_with fail
                    refine (rhas_any _ _ _).mono ?_
                    rintro e w' ⟨rfl, rfl⟩
                    rw [HHP.out]
                    rename World => wq
                    cases hp with
                    | false =>
                      have BADV : Hid (detR T ⟨ph, don, doff, ddelay, dextend, dmOn, dmOff⟩ = true) := Lib.hid (by rw [DQ.out]; (try dsimp only); rw [GT.out, HHP.out]; rfl)
                      have RO : Hid (ck = (10, ((q : Nat) : Int))) := Lib.hid (by rw [CK.out]; exact first_hit (q := 4) (by rw [LL4.out, idx_hit HV.out BADV.out HA.out]) N4.out)
                      have HW := Lib.hid (below_setRow C0.out (g := w.heap.size + 1) (by omega) #[.int .i64 10, .int .i64 q])
                      have HK := Lib.hid (setRow_heap wq (w.heap.size + 1) _ #[.int .i64 10, .int .i64 q] _ _ C2.out)
                      go_wp2_with (first | (refine wpList_store_row rfl 37 _ _ rfl (w.heap.size + 1) #[.int .i64 10, .int .i64 q] rfl rfl 37 _ C2.out infoF rfl (by simp [Value.oneCell']) ?_))
                      generalize wq.setRow (w.heap.size + 1) #[.int .i64 10, .int .i64 q] = uz at HW HK ⊢
                      (try go_wp2_with fail)
                      (try simp only [Exit.inBlock, Exit.then])
                      refine bodyPost_ret (v := .agg #[.int .i64 10, .int .i64 q]) ?_ rfl ⟨by rw [RO.out]; rfl, HW.out⟩
                      exact results_cell_row rfl _ _ (w.heap.size + 1) 37 _ (0, 0) _ rfl HK.out Tryz.underlying37 rfl infoF
                    | true =>
                      have BADV : Hid (detR T ⟨ph, don, doff, ddelay, dextend, dmOn, dmOff⟩ = false) := Lib.hid (by rw [DQ.out]; (try dsimp only); rw [GT.out, HHP.out]; rfl)
                      have HF := Lib.hid BADV.out
                      go_wp2
                      go_roundw
                      case rel => exact ⟨q + 1, by omega, by go_num, (fun j u hj hu => by
                        by_cases e : j = q
                        · subst e; obtain rfl := Option.some.inj (hu.symm.trans HV.out); exact HF.out
                        · exact HA.out j u (by omega) hu), HBQ.out⟩
                      case measure => simp [intOf]; omega
                  · have GT : Hid (gtF doff don = false) := Lib.hid (by unfold gtF; exact decide_eq_false (by omega))
                    clear ga
                    go_wp2_with fail
                    refine (rhas_any _ _ _).mono ?_
                    rintro e w' ⟨rfl, rfl⟩
                    rw [HHP.out]
                    rename World => wq
                    cases hp with
                    | false =>
                      have BADV : Hid (detR T ⟨ph, don, doff, ddelay, dextend, dmOn, dmOff⟩ = true) := Lib.hid (by rw [DQ.out]; (try dsimp only); rw [GT.out, HHP.out]; rfl)
                      have RO : Hid (ck = (10, ((q : Nat) : Int))) := Lib.hid (by rw [CK.out]; exact first_hit (q := 4) (by rw [LL4.out, idx_hit HV.out BADV.out HA.out]) N4.out)
                      have HW := Lib.hid (below_setRow C0.out (g := w.heap.size + 1) (by omega) #[.int .i64 10, .int .i64 q])
                      have HK := Lib.hid (setRow_heap wq (w.heap.size + 1) _ #[.int .i64 10, .int .i64 q] _ _ C2.out)
                      go_wp2_with (first | (refine wpList_store_row rfl 37 _ _ rfl (w.heap.size + 1) #[.int .i64 10, .int .i64 q] rfl rfl 37 _ C2.out infoF rfl (by simp [Value.oneCell']) ?_))
                      generalize wq.setRow (w.heap.size + 1) #[.int .i64 10, .int .i64 q] = uz at HW HK ⊢
                      (try go_wp2_with fail)
                      (try simp only [Exit.inBlock, Exit.then])
                      refine bodyPost_ret (v := .agg #[.int .i64 10, .int .i64 q]) ?_ rfl ⟨by rw [RO.out]; rfl, HW.out⟩
                      exact results_cell_row rfl _ _ (w.heap.size + 1) 37 _ (0, 0) _ rfl HK.out Tryz.underlying37 rfl infoF
                    | true =>
                      have BADV : Hid (detR T ⟨ph, don, doff, ddelay, dextend, dmOn, dmOff⟩ = false) := Lib.hid (by rw [DQ.out]; (try dsimp only); rw [GT.out, HHP.out]; rfl)
                      have HF := Lib.hid BADV.out
                      go_wp2
                      go_roundw
                      case rel => exact ⟨q + 1, by omega, by go_num, (fun j u hj hu => by
                        by_cases e : j = q
                        · subst e; obtain rfl := Option.some.inj (hu.symm.trans HV.out); exact HF.out
                        · exact HA.out j u (by omega) hu), HBQ.out⟩
                      case measure => simp [intOf]; omega
                  · have BADV : Hid (detR T ⟨ph, don, doff, ddelay, dextend, dmOn, dmOff⟩ = true) := Lib.hid (by rw [DQ.out]; unfold gtF; (try dsimp only); rw [decide_eq_true (by omega)]; rfl)
                    clear ga
                    have RO : Hid (ck = (10, ((q : Nat) : Int))) := Lib.hid (by rw [CK.out]; exact first_hit (q := 4) (by rw [LL4.out, idx_hit HV.out BADV.out HA.out]) N4.out)
                    have HW := Lib.hid (below_setRow C0.out (g := w.heap.size + 1) (by omega) #[.int .i64 10, .int .i64 q])
                    have HK := Lib.hid (setRow_heap wq (w.heap.size + 1) _ #[.int .i64 10, .int .i64 q] _ _ C2.out)
                    go_wp2_with (first | (refine wpList_store_row rfl 37 _ _ rfl (w.heap.size + 1) #[.int .i64 10, .int .i64 q] rfl rfl 37 _ C2.out infoF rfl (by simp [Value.oneCell']) ?_))
                    generalize wq.setRow (w.heap.size + 1) #[.int .i64 10, .int .i64 q] = uz at HW HK ⊢
                    (try go_wp2_with fail)
                    (try simp only [Exit.inBlock, Exit.then])
                    refine bodyPost_ret (v := .agg #[.int .i64 10, .int .i64 q]) ?_ rfl ⟨by rw [RO.out]; rfl, HW.out⟩
                    exact results_cell_row rfl _ _ (w.heap.size + 1) 37 _ (0, 0) _ rfl HK.out Tryz.underlying37 rfl infoF
                · have FM := Lib.hid (idx_miss (f := detR T) (l := T.dets) (fun j u hu => HA.out j u (by have := (List.getElem?_eq_some_iff.1 hu).1; omega) hu))
                  have N5 : Hid (∀ (j : Nat) x, j < 5 → l[j]? = some x → x.2 = none) := Lib.hid (fun j x hj hx => by
                    by_cases hjj : j = 4
                    · subst hjj; obtain rfl := Option.some.inj (hx.symm.trans LL4.out); exact FM.out
                    · exact N4.out j x (by omega) hx)
                  rename World => wd
                  go_wp2_with fail
                  go_loopw [11] (fun i wr => ∃ q : Nat, q ≤ T.rails.length ∧ i = .int .i64 q ∧ (∀ (j : Nat) u, j < q → T.rails[j]? = some u → (fun r => !railOk T r) u = false) ∧ Below wd.heap.size wd wr) (fun i _ => T.rails.length - (intOf i).toNat)
                  case atStart => exact ⟨0, by omega, rfl, (fun j u h => by omega), Below.refl _ _⟩
                  case round =>
                    obtain ⟨q, hq, rfl, hall, hB⟩ := hrel
                    have HA := Lib.hid hall
                    have HB := Lib.hid hB
                    replace C0 : Hid (Below w.heap.size w wr) := Lib.hid (C0.out.trans (hB.mono C0.out.size))
                    replace C2 : Hid (wr.heap[w.heap.size + 1]? = some (.cells #[.int .i64 0, .int .i64 0] 37 (0, 0))) := Lib.hid ((hB.block _ (Array.getElem?_eq_some_iff.1 C2.out).1).trans C2.out)
                    replace LT := Lib.hid (LT.out.below hB)
                    replace PL := Lib.hid (fun k hk => (PL.out k hk).below hB)
                    clear hall hB
                    have qs := lies_at LT.out 114 (by decide) C114.out
                    by_cases hlt : q < T.rails.length
                    · have hv := List.getElem?_eq_getElem hlt
                      generalize hz : T.rails[q] = v at hv
                      have hmem : v ∈ T.rails := List.mem_of_getElem? hv
                      have HV := Lib.hid hv
                      clear hv hz
                      obtain ⟨y, hy, hc⟩ := (RR.out.below C0.out).at HV.out
                      rw [RRa.out] at hy
                      obtain rfl : ra = some y := hy
                      have HC := Lib.hid hc
                      clear hc
                      obtain ⟨gd, hgd⟩ : ∃ z, railOk T v = z := ⟨_, rfl⟩
                      have hne : Nonempty (Ph.S (Row.Old wr)) := ⟨⟨0, wr, Below.refl _ _⟩⟩
                      have QS : ∀ p : Ph.S (Row.Old wr), p.world.cell? ⟨w.heap.size, 114, none⟩ = some (.slice (some y) T.rails.length rcap) := fun p => (p.is.cell (World.block_lt_of_cell? wr _ qs)).trans qs
                      have RLW : Hid (∀ p : Ph.S (Row.Old wr), Calls Tryz.prog 52 #[.agg c.toArray, .agg v.cells.toArray, .int .i64 on] p.world fun e w' => e = .returned (.bool gd) ∧ Below p.world.heap.size p.world w') := Lib.hid (fun p => by have := RL.out v p.world (C0.out.trans (p.is.mono C0.out.size)); rwa [hgd] at this)
                      have hqi : ((q : Nat) : Int) < (T.rails.length : Nat) := by omega
                      have HGD := Lib.hid hgd
                      have IV : Hid ((Tryz.prog.info? 47).map (·.size) = some v.cells.length) := Lib.hid infoR
                      clear hgd hmem
                      generalize hxc : v.cells = xc at *
                      clear hxc
                      go_upto_region 28 with fail
                      clear qs
                      refine Pw.region (Row.Old wr) [] hmx (by kernel_rfl) (Row.Old.drew _) ?_
                      refine Pw.load rfl (by rfl) 32 _ rfl ⟨w.heap.size, 0, none⟩ rfl c _ (fun p => LT.out.below p.is) Tryz.underlying32 rfl IA.out ?_
                      (try dsimp only [Act.put]); (try simp only [List.setIfInBounds_toArray, List.set_cons_zero, List.set_cons_succ])
                      (refine Pw.calm rfl (fun K hK => ?_)
                       go_simp
                       refine hK _ ?_
                       clear hK K)
                      (refine Pw.calm rfl (fun K hK => ?_)
                       go_simp
                       refine hK _ ?_
                       clear hK K)
                      (refine Pw.calm rfl (fun K hK => ?_)
                       go_simp
                       refine hK _ ?_
                       clear hK K)
                      (refine Pw.calm rfl (fun K hK => ?_)
                       go_simp
                       refine hK _ ?_
                       clear hK K)
                      refine Pw.load rfl (by rfl) 47 _ rfl (y.add (q * 11)) rfl xc _ (fun p => HC.out.below p.is) Tryz.underlying47 rfl IV.out ?_
                      (try dsimp only [Act.put]); (try simp only [List.setIfInBounds_toArray, List.set_cons_zero, List.set_cons_succ])
                      (refine Pw.calm rfl (fun K hK => ?_)
                       go_simp
                       refine hK _ ?_
                       clear hK K)
                      (refine Pw.calm rfl (fun K hK => ?_)
                       go_simp
                       refine ⟨_, fun p => Row.Old.call (RLW.out p), hK _ ?_⟩
                       clear hK K)
                      (refine Pw.calm rfl (fun K hK => ?_)
                       go_simp
                       refine hK _ ?_
                       clear hK K)
                      refine Pw.nil ?_
                      intro wq hb
                      have HBQ := Lib.hid (HB.out.trans (hb.mono HB.out.size))
                      replace C0 : Hid (Below w.heap.size w wq) := Lib.hid (C0.out.trans (hb.mono C0.out.size))
                      replace C2 : Hid (wq.heap[w.heap.size + 1]? = some (.cells #[.int .i64 0, .int .i64 0] 37 (0, 0))) := Lib.hid ((hb.block _ (Array.getElem?_eq_some_iff.1 C2.out).1).trans C2.out)
                      replace LT := Lib.hid (LT.out.below hb)
                      replace PL := Lib.hid (fun k hk => (PL.out k hk).below hb)
                      clear hb QS hne RLW
                      cases gd with
                      | false =>
                        have BADV : Hid ((fun r => !railOk T r) v = true) := Lib.hid (by (try dsimp only); rw [HGD.out]; rfl)
                        have RO : Hid (ck = (11, ((q : Nat) : Int))) := Lib.hid (by rw [CK.out]; exact first_hit (q := 5) (by rw [LL5.out, idx_hit HV.out BADV.out HA.out]) N5.out)
                        have HW := Lib.hid (below_setRow C0.out (g := w.heap.size + 1) (by omega) #[.int .i64 11, .int .i64 q])
                        have HK := Lib.hid (setRow_heap wq (w.heap.size + 1) _ #[.int .i64 11, .int .i64 q] _ _ C2.out)
                        go_wp2_with (first | (refine wpList_store_row rfl 37 _ _ rfl (w.heap.size + 1) #[.int .i64 11, .int .i64 q] rfl rfl 37 _ C2.out infoF rfl (by simp [Value.oneCell']) ?_))
                        generalize wq.setRow (w.heap.size + 1) #[.int .i64 11, .int .i64 q] = uz at HW HK ⊢
                        (try go_wp2_with fail)
                        (try simp only [Exit.inBlock, Exit.then])
                        refine bodyPost_ret (v := .agg #[.int .i64 11, .int .i64 q]) ?_ rfl ⟨by rw [RO.out]; rfl, HW.out⟩
                        exact results_cell_row rfl _ _ (w.heap.size + 1) 37 _ (0, 0) _ rfl HK.out Tryz.underlying37 rfl infoF
                      | true =>
                        have BADV : Hid ((fun r => !railOk T r) v = false) := Lib.hid (by (try dsimp only); rw [HGD.out]; rfl)
                        have HF := Lib.hid BADV.out
                        go_wp2
                        go_roundw
                        case rel => exact ⟨q + 1, by omega, by go_num, (fun j u hj hu => by
                          by_cases e : j = q
                          · subst e; obtain rfl := Option.some.inj (hu.symm.trans HV.out); exact HF.out
                          · exact HA.out j u (by omega) hu), HBQ.out⟩
                        case measure => simp [intOf]; omega
                    · have FM := Lib.hid (idx_miss (f := (fun r => !railOk T r)) (l := T.rails) (fun j u hu => HA.out j u (by have := (List.getElem?_eq_some_iff.1 hu).1; omega) hu))
                      have N6 : Hid (∀ (j : Nat) x, j < 6 → l[j]? = some x → x.2 = none) := Lib.hid (fun j x hj hx => by
                        by_cases hjj : j = 5
                        · subst hjj; obtain rfl := Option.some.inj (hx.symm.trans LL5.out); exact FM.out
                        · exact N5.out j x (by omega) hx)
                      rename World => wd
                      go_wp2_with fail
                      go_loopw [12] (fun i wr => ∃ q : Nat, q ≤ T.buses.length ∧ i = .int .i64 q ∧ (∀ (j : Nat) u, j < q → T.buses[j]? = some u → (busR T) u = false) ∧ Below wd.heap.size wd wr) (fun i _ => T.buses.length - (intOf i).toNat)
                      case atStart => exact ⟨0, by omega, rfl, (fun j u h => by omega), Below.refl _ _⟩
                      case round =>
                        obtain ⟨q, hq, rfl, hall, hB⟩ := hrel
                        have HA := Lib.hid hall
                        have HB := Lib.hid hB
                        replace C0 : Hid (Below w.heap.size w wr) := Lib.hid (C0.out.trans (hB.mono C0.out.size))
                        replace C2 : Hid (wr.heap[w.heap.size + 1]? = some (.cells #[.int .i64 0, .int .i64 0] 37 (0, 0))) := Lib.hid ((hB.block _ (Array.getElem?_eq_some_iff.1 C2.out).1).trans C2.out)
                        replace LT := Lib.hid (LT.out.below hB)
                        replace PL := Lib.hid (fun k hk => (PL.out k hk).below hB)
                        clear hall hB
                        have qs := lies_at LT.out 115 (by decide) C115.out
                        by_cases hlt : q < T.buses.length
                        · have hv := List.getElem?_eq_getElem hlt
                          generalize hz : T.buses[q] = v at hv
                          have hmem : v ∈ T.buses := List.mem_of_getElem? hv
                          have HV := Lib.hid hv
                          clear hv hz
                          obtain ⟨y, hy, hc⟩ := (RB.out.below C0.out).at HV.out
                          rw [RBa.out] at hy
                          obtain rfl : ba = some y := hy
                          have HC := Lib.hid hc
                          clear hc
                          clear hmem
                          obtain ⟨bset, block⟩ := v
                          have BQ := Lib.hid (BR.out ⟨bset, block⟩)
                          have hwr := HB.out.size
                          go_upto_region 34 with (first | (refine Row.wpList_load_g 49 _ rfl (by first | rfl | go_simp) (y.add (q * 2)) rfl (Bs.cells ⟨bset, block⟩) _ HC.out Tryz.underlying49 rfl infoB ?_) | (refine Row.wpList_store_new rfl 49 _ _ rfl wr _ (Bs.cells ⟨bset, block⟩).toArray rfl rfl rfl infoB rfl (Bs.one _) ?_))
                          have hb : Below wr.heap.size wr (wr.alloc (.cells (Bs.cells ⟨bset, block⟩).toArray 49)) := (Below.refl _ _).alloc (Nat.le_refl _) _
                          have hg := heap_alloc_new wr (.cells (Bs.cells ⟨bset, block⟩).toArray 49)
                          have HBQ := Lib.hid (HB.out.trans (hb.mono HB.out.size))
                          replace C0 : Hid (Below w.heap.size w (wr.alloc (.cells (Bs.cells ⟨bset, block⟩).toArray 49))) := Lib.hid (C0.out.trans (hb.mono C0.out.size))
                          replace C2 : Hid ((wr.alloc (.cells (Bs.cells ⟨bset, block⟩).toArray 49)).heap[w.heap.size + 1]? = some (.cells #[.int .i64 0, .int .i64 0] 37 (0, 0))) := Lib.hid ((hb.block _ (Array.getElem?_eq_some_iff.1 C2.out).1).trans C2.out)
                          replace LT := Lib.hid (LT.out.below hb)
                          replace PL := Lib.hid (fun k hk => (PL.out k hk).below hb)
                          clear hb
                          have d0 : (wr.alloc (.cells (Bs.cells ⟨bset, block⟩).toArray 49)).cell? ⟨wr.heap.size, 0, none⟩ = some (I bset) := by rw [cell_of_row _ _ _ _ _ _ hg]; rfl
                          have d1 : (wr.alloc (.cells (Bs.cells ⟨bset, block⟩).toArray 49)).cell? ⟨wr.heap.size, 1, none⟩ = some (I block) := by rw [cell_of_row _ _ _ _ _ _ hg]; rfl
                          clear hg HC qs
                          generalize hxc : (Bs.cells ⟨bset, block⟩) = xc at *
                          clear hxc
                          generalize wr.alloc (.cells xc.toArray 49) = wq at *
                          generalize wr.heap.size = b1 at *
                          obtain ⟨hi, hhi⟩ : ∃ z, inR bset on = z := ⟨_, rfl⟩
                          have HHI := Lib.hid hhi
                          clear hhi
                          by_cases hs0 : bset = 0
                          · have BADV : Hid (busR T ⟨bset, block⟩ = true) := Lib.hid (by rw [BQ.out]; (try dsimp only); rw [hs0]; rfl)
                            have hsb : (bset == 0) = true := beq_iff_eq.2 hs0
                            clear hs0
                            have RO : Hid (ck = (12, ((q : Nat) : Int))) := Lib.hid (by rw [CK.out]; exact first_hit (q := 6) (by rw [LL6.out, idx_hit HV.out BADV.out HA.out]) N6.out)
                            have HW := Lib.hid (below_setRow C0.out (g := w.heap.size + 1) (by omega) #[.int .i64 12, .int .i64 q])
                            have HK := Lib.hid (setRow_heap wq (w.heap.size + 1) _ #[.int .i64 12, .int .i64 q] _ _ C2.out)
                            go_wp2_with (first | (refine wpList_store_row rfl 37 _ _ rfl (w.heap.size + 1) #[.int .i64 12, .int .i64 q] rfl rfl 37 _ C2.out infoF rfl (by simp [Value.oneCell']) ?_))
                            generalize wq.setRow (w.heap.size + 1) #[.int .i64 12, .int .i64 q] = uz at HW HK ⊢
                            (try go_wp2_with fail)
                            (try simp only [Exit.inBlock, Exit.then])
                            refine bodyPost_ret (v := .agg #[.int .i64 12, .int .i64 q]) ?_ rfl ⟨by rw [RO.out]; rfl, HW.out⟩
                            exact results_cell_row rfl _ _ (w.heap.size + 1) 37 _ (0, 0) _ rfl HK.out Tryz.underlying37 rfl infoF
                          have hsb : (bset == 0) = false := beq_eq_false_iff_ne.2 hs0
                          have HSB := Lib.hid hsb
                          go_wp2_with fail
                          refine (RkA.in_any _ _ _).mono ?_
                          rintro e w' ⟨rfl, rfl⟩
                          rename World => wq
                          rw [HHI.out]
                          cases hi with
                          | false =>
                            have BADV : Hid (busR T ⟨bset, block⟩ = true) := Lib.hid (by rw [BQ.out]; (try dsimp only); rw [HSB.out, HHI.out]; rfl)
                            have RO : Hid (ck = (12, ((q : Nat) : Int))) := Lib.hid (by rw [CK.out]; exact first_hit (q := 6) (by rw [LL6.out, idx_hit HV.out BADV.out HA.out]) N6.out)
                            have HW := Lib.hid (below_setRow C0.out (g := w.heap.size + 1) (by omega) #[.int .i64 12, .int .i64 q])
                            have HK := Lib.hid (setRow_heap wq (w.heap.size + 1) _ #[.int .i64 12, .int .i64 q] _ _ C2.out)
                            go_wp2_with (first | (refine wpList_store_row rfl 37 _ _ rfl (w.heap.size + 1) #[.int .i64 12, .int .i64 q] rfl rfl 37 _ C2.out infoF rfl (by simp [Value.oneCell']) ?_))
                            generalize wq.setRow (w.heap.size + 1) #[.int .i64 12, .int .i64 q] = uz at HW HK ⊢
                            (try go_wp2_with fail)
                            (try simp only [Exit.inBlock, Exit.then])
                            refine bodyPost_ret (v := .agg #[.int .i64 12, .int .i64 q]) ?_ rfl ⟨by rw [RO.out]; rfl, HW.out⟩
                            exact results_cell_row rfl _ _ (w.heap.size + 1) 37 _ (0, 0) _ rfl HK.out Tryz.underlying37 rfl infoF
                          | true =>
                            by_cases hlk : block < 1
                            · have BADV : Hid (busR T ⟨bset, block⟩ = true) := Lib.hid (by rw [BQ.out]; (try dsimp only); rw [HSB.out, HHI.out, decide_eq_true hlk]; rfl)
                              have RO : Hid (ck = (12, ((q : Nat) : Int))) := Lib.hid (by rw [CK.out]; exact first_hit (q := 6) (by rw [LL6.out, idx_hit HV.out BADV.out HA.out]) N6.out)
                              have HW := Lib.hid (below_setRow C0.out (g := w.heap.size + 1) (by omega) #[.int .i64 12, .int .i64 q])
                              have HK := Lib.hid (setRow_heap wq (w.heap.size + 1) _ #[.int .i64 12, .int .i64 q] _ _ C2.out)
                              go_wp2_with (first | (refine wpList_store_row rfl 37 _ _ rfl (w.heap.size + 1) #[.int .i64 12, .int .i64 q] rfl rfl 37 _ C2.out infoF rfl (by simp [Value.oneCell']) ?_))
                              generalize wq.setRow (w.heap.size + 1) #[.int .i64 12, .int .i64 q] = uz at HW HK ⊢
                              (try go_wp2_with fail)
                              (try simp only [Exit.inBlock, Exit.then])
                              refine bodyPost_ret (v := .agg #[.int .i64 12, .int .i64 q]) ?_ rfl ⟨by rw [RO.out]; rfl, HW.out⟩
                              exact results_cell_row rfl _ _ (w.heap.size + 1) 37 _ (0, 0) _ rfl HK.out Tryz.underlying37 rfl infoF
                            · have BADV : Hid (busR T ⟨bset, block⟩ = false) := Lib.hid (by rw [BQ.out]; (try dsimp only); rw [HSB.out, HHI.out, decide_eq_false hlk]; rfl)
                              have HF := Lib.hid BADV.out
                              go_wp2
                              go_roundw
                              case rel => exact ⟨q + 1, by omega, by go_num, (fun j u hj hu => by
                                by_cases e : j = q
                                · subst e; obtain rfl := Option.some.inj (hu.symm.trans HV.out); exact HF.out
                                · exact HA.out j u (by omega) hu), HBQ.out⟩
                              case measure => simp [intOf]; omega
                        · have FM := Lib.hid (idx_miss (f := busR T) (l := T.buses) (fun j u hu => HA.out j u (by have := (List.getElem?_eq_some_iff.1 hu).1; omega) hu))
                          have N7 : Hid (∀ (j : Nat) x, j < 7 → l[j]? = some x → x.2 = none) := Lib.hid (fun j x hj hx => by
                            by_cases hjj : j = 6
                            · subst hjj; obtain rfl := Option.some.inj (hx.symm.trans LL6.out); exact FM.out
                            · exact N6.out j x (by omega) hx)
                          rename World => wd
                          go_wp2_with fail
                          refine (rlist_any _ _).mono ?_
                          rintro e u9 ⟨v, rfl, hown, hb⟩
                          rw [OL.out] at hown
                          obtain ⟨la, lcap, rfl, hrow⟩ := row_of hown
                          have HROW := Lib.hid hrow
                          replace C0 : Hid (Below w.heap.size w u9) := Lib.hid (C0.out.trans (hb.mono C0.out.size))
                          replace C2 : Hid (u9.heap[w.heap.size + 1]? = some (.cells #[.int .i64 0, .int .i64 0] 37 (0, 0))) := Lib.hid ((hb.block _ (Array.getElem?_eq_some_iff.1 C2.out).1).trans C2.out)
                          replace LT := Lib.hid (LT.out.below hb)
                          replace PL := Lib.hid (fun k hk => (PL.out k hk).below hb)
                          clear hown hrow hb
                          go_wp2_with fail
                          go_loopw [135] (fun i wr => ∃ q : Nat, q ≤ L.length ∧ i = .int .i64 q ∧ (∀ i, i < q → (flashOk T) (L.getD i 0) = true) ∧ Below u9.heap.size u9 wr) (fun i _ => L.length - (intOf i).toNat)
                          case atStart => exact ⟨0, by omega, rfl, (fun j h => by omega), Below.refl _ _⟩
                          case round =>
                            obtain ⟨q, hq, rfl, hall, hB⟩ := hrel
                            have HA := Lib.hid hall
                            have HB := Lib.hid hB
                            have hROW := HROW.out.below hB
                            replace C0 : Hid (Below w.heap.size w wr) := Lib.hid (C0.out.trans (hB.mono C0.out.size))
                            replace C2 : Hid (wr.heap[w.heap.size + 1]? = some (.cells #[.int .i64 0, .int .i64 0] 37 (0, 0))) := Lib.hid ((hB.block _ (Array.getElem?_eq_some_iff.1 C2.out).1).trans C2.out)
                            replace LT := Lib.hid (LT.out.below hB)
                            replace PL := Lib.hid (fun k hk => (PL.out k hk).below hB)
                            clear hall hB
                            by_cases hlt : q < L.length
                            · obtain ⟨y, rfl, hcells⟩ := hROW.cells hlt
                              have cq := hcells q hlt
                              have hmem := getD_mem hlt
                              have hbd := BD.out _ hmem
                              generalize hz : L.getD q 0 = z at *
                              have HZ := Lib.hid hz
                              clear hcells hz hmem hROW
                              obtain ⟨p, rfl⟩ := Int.eq_ofNat_of_zero_le hbd.1
                              have hp8 : ((p : Nat) : Int) < 8 := hbd.2
                              have hpn : p < 8 := by omega
                              obtain ⟨gd, hgd⟩ : ∃ z, (flashOk T) ((p : Nat) : Int) = z := ⟨_, rfl⟩
                              have PC := FL.out p wr hpn C0.out
                              rw [hgd] at PC
                              go_wp2_with (refine Row.wpList_load_g 32 _ rfl (by first | rfl | go_simp) ⟨w.heap.size, 0, none⟩ rfl c _ LT.out Tryz.underlying32 rfl IA.out ?_)
                              (try go_wp2_with fail)
                              refine PC.mono ?_
                              rintro e wq ⟨rfl, hb⟩
                              have HBQ := Lib.hid (HB.out.trans (hb.mono HB.out.size))
                              replace C0 : Hid (Below w.heap.size w wq) := Lib.hid (C0.out.trans (hb.mono C0.out.size))
                              replace C2 : Hid (wq.heap[w.heap.size + 1]? = some (.cells #[.int .i64 0, .int .i64 0] 37 (0, 0))) := Lib.hid ((hb.block _ (Array.getElem?_eq_some_iff.1 C2.out).1).trans C2.out)
                              replace LT := Lib.hid (LT.out.below hb)
                              replace PL := Lib.hid (fun k hk => (PL.out k hk).below hb)
                              clear hb
                              cases gd with
                              | false =>
                                have RO : Hid (ck = (13, ((p : Nat) : Int))) := Lib.hid (by
                                  rw [CK.out]
                                  refine first_hit (q := 7) ?_ N7.out
                                  rw [LL7.out, find_hit hlt (by rw [HZ.out]; simp [hgd]) (fun i hi => by have h1 := HA.out i hi; (try dsimp only at h1 ⊢); rw [h1]; rfl), HZ.out])
                                clear hgd
                                have HW := Lib.hid (below_setRow C0.out (g := w.heap.size + 1) (by omega) #[.int .i64 13, .int .i64 p])
                                have HK := Lib.hid (setRow_heap wq (w.heap.size + 1) _ #[.int .i64 13, .int .i64 p] _ _ C2.out)
                                go_wp2_with (first | (refine wpList_store_row rfl 37 _ _ rfl (w.heap.size + 1) #[.int .i64 13, .int .i64 p] rfl rfl 37 _ C2.out infoF rfl (by simp [Value.oneCell']) ?_))
                                generalize wq.setRow (w.heap.size + 1) #[.int .i64 13, .int .i64 p] = uz at HW HK ⊢
                                (try go_wp2_with fail)
                                (try simp only [Exit.inBlock, Exit.then])
                                refine bodyPost_ret (v := .agg #[.int .i64 13, .int .i64 p]) ?_ rfl ⟨by rw [RO.out]; rfl, HW.out⟩
                                exact results_cell_row rfl _ _ (w.heap.size + 1) 37 _ (0, 0) _ rfl HK.out Tryz.underlying37 rfl infoF
                              | true =>
                                have HG := Lib.hid hgd
                                clear hgd
                                go_wp2
                                go_roundw
                                case rel => exact ⟨q + 1, by omega, by go_num, (fun i hi => by
                                  by_cases h1 : i = q
                                  · subst h1; rw [HZ.out]; exact HG.out
                                  · exact HA.out i (by omega)), HBQ.out⟩
                                case measure => simp [intOf]; omega
                            · have FM := Lib.hid (find_miss (f := fun p => !(flashOk T) p) (L := L) (fun i hi => by have h1 := HA.out i (by omega); (try dsimp only at h1 ⊢); rw [h1]; rfl))
                              have N8 : Hid (∀ (j : Nat) x, j < 8 → l[j]? = some x → x.2 = none) := Lib.hid (fun j x hj hx => by
                                by_cases hjj : j = 7
                                · subst hjj; obtain rfl := Option.some.inj (hx.symm.trans LL7.out); exact FM.out
                                · exact N7.out j x (by omega) hx)
                              have RO : Hid (ck = (0, 0)) := Lib.hid (by
                                rw [CK.out]
                                refine first_miss (fun x hx => ?_)
                                obtain ⟨j, hj, rfl⟩ := List.getElem_of_mem hx
                                exact N8.out j _ (by rw [LE.out] at hj; exact hj) (List.getElem?_eq_getElem hj))
                              have HW := Lib.hid (below_setRow C0.out (g := w.heap.size + 1) (by omega) #[.int .i64 0, .int .i64 0])
                              have HK := Lib.hid (setRow_heap wr (w.heap.size + 1) _ #[.int .i64 0, .int .i64 0] _ _ C2.out)
                              go_wp2_with (first | (refine wpList_store_row rfl 37 _ _ rfl (w.heap.size + 1) #[.int .i64 0, .int .i64 0] rfl rfl 37 _ C2.out infoF rfl (by simp [Value.oneCell']) ?_))
                              generalize wr.setRow (w.heap.size + 1) #[.int .i64 0, .int .i64 0] = uz at HW HK ⊢
                              (try go_wp2_with fail)
                              (try simp only [Exit.inBlock, Exit.then])
                              refine bodyPost_ret (v := .agg #[.int .i64 0, .int .i64 0]) ?_ rfl ⟨by rw [RO.out]; rfl, HW.out⟩
                              exact results_cell_row rfl _ _ (w.heap.size + 1) 37 _ (0, 0) _ rfl HK.out Tryz.underlying37 rfl infoF
end Go.Proofs.YtjolhoilcibdfaaGreat.RkK
/- The contract of the document's All: the bounds of a table without a Fault; the first Fault. -/
namespace Go.Proofs.YtjolhoilcibdfaaGreat.BdR
open Go.ChangeShapes Go.WideShapes Go.ChangeAt Go.RowKit
open Tab Gath OnS RefC Clear
open May (St phases_in infoP infoT row_new)
set_option linter.unusedVariables false
set_option linter.unusedSimpArgs false
open BdB BdN BdT BdL ChkM PlaceM BdS
open FreeS OverS WaitS EntryS
section
variable {P : Program} {ops : Array Oper} {Q : Exit → Act → World → Prop}
theorem wpList_build0 {rest : List Oper} {o : Oper} {a : Act} {w : World} (hgd : o.guard = none) (t : TypeId) (ho : o.op = .build t #[]) (cells : Array Value) (hb : P.built t [] = some cells)
    (h : wpList P ops Q rest (a.put o.dst (.agg cells)) w) : wpList P ops Q (o :: rest) a w :=
  wpList_plain hgd fun _ hK => by
    unfold Oper.wp execOp
    have hb' : P.built t ((#[] : Array (Nat × Operand)).map fun (i, x) => (i, a.eval x)).toList = some cells := by simpa using hb
    simp only [ho, Sem.run_bind, run_build w t _ _ hb', Result.andThen_ok, Sem.run_pure]
    exact hK _ _ h
end
theorem phase_on {T : Tab} (h8 : T.phases.length = 8) {q : Nat} (hq : q < 8) (h : full (waitS T q) = true) : ∃ p, T.phases[q]? = some p ∧ p.on = true := by
  have h1 : SetM.has (onS T : Nat) q = true := wait_on (fun e => by rw [e] at h; exact absurd h (by decide))
  rw [ChkX.has_on h8 (by omega) (by omega)] at h1
  refine ⟨_, List.getElem?_eq_getElem (by omega), ?_⟩
  unfold ChkM.phAt at h1
  rw [Int.toNat_natCast, List.getD_eq_getElem?_getD, List.getElem?_eq_getElem (by omega)] at h1
  exact h1
theorem rail_full {T : Tab} (h : T.rails.length ≤ 4) (hn : ∀ x ∈ (entsL T).take T.rails.length, full x = false) : ∀ x ∈ entsL T, full x = false := by
  intro x hx
  obtain ⟨j, hj, rfl⟩ := List.mem_iff_getElem.1 hx
  have hl := ents_len T
  have hv := ents_at T (i := j) (by omega)
  rw [List.getElem?_eq_getElem hj] at hv
  have hv2 := Option.some.inj hv
  by_cases hk : j < T.rails.length
  · exact hn _ (by rw [List.mem_take_iff_getElem]; exact ⟨j, by omega, rfl⟩)
  · rw [hv2, entry_far (by omega)]; decide
set_option maxRecDepth 100000 in
set_option maxHeartbeats 8000000 in
theorem rall_any (T : Tab) (h : Hd) (w : World) (ht : IsTab w h T) (sm : Few T) :
    Calls Tryz.prog 38 #[.agg (T.cells h).toArray] w fun e w' => e = .returned (.tuple #[.agg ((allB T).map I).toArray, .agg (fcells (allF T))]) ∧ Below w.heap.size w w' := by
  have C := Lib.hid (cells_ok ht)
  have hsz := C.out.size
  have IA : Hid ((Tryz.prog.info? 32).map (·.size) = some (T.cells h).length) := Lib.hid (by rw [List.size_toArray] at hsz; rw [hsz]; exact infoT)
  have CK0 : Hid (∀ W, Below w.heap.size w W → Calls Tryz.prog 15 #[.agg (T.cells h).toArray] W fun e w' => e = .returned (.agg (fcells (chkC T))) ∧ Below W.heap.size W w') := Lib.hid (fun W hb => by rw [ChkZ.chk_eq ht.ph ht.cf]; exact RkK.rcheck_any T h W (ht.below hb) sm)
  have WC0 : Hid (T.rails.length ≤ 4 → ∀ (q : Nat) W, Below w.heap.size w W → Calls Tryz.prog 36 #[.agg (T.cells h).toArray, .int .i64 q] W fun e w' => e = .returned (.int .i64 (waitS T q)) ∧ Below W.heap.size W w') := Lib.hid (fun h4 q W hb => wait_any T h q W (ht.below hb) sm (by omega))
  have EC : Hid (∀ (q : Nat) W, Below w.heap.size w W → Calls Tryz.prog 32 #[.agg (T.cells h).toArray, .int .i64 q] W fun e w' => e = .returned (.int .i64 (entryS T q)) ∧ Below W.heap.size W w') := Lib.hid (fun q W hb => entry_any T h q W (ht.below hb))
  have ONW : Hid (∀ q : Nat, q < 8 → full (waitS T q) = true → (T.cells h)[q * 13]? = some (.bool true)) := Lib.hid (fun q hq hf => by
    obtain ⟨p, hp, ho⟩ := phase_on ht.ph hq hf
    have h1 := C.out.phase q p hp
    have h2 : ((T.cells h).drop (13 * q)).take 13 = p.cells := h1
    have h3 : (((T.cells h).drop (13 * q)).take 13)[0]? = some (.bool p.on) := by rw [h2]; rfl
    rw [List.getElem?_take_of_lt (by omega), List.getElem?_drop, ho, Nat.add_zero, Nat.mul_comm] at h3
    exact h3)
  have q114 := C.out.r
  have q129 := C.out.window
  have C114 := Lib.hid q114
  have C129 := Lib.hid q129
  clear q114 q129
  have WA : Hid (∀ i : Nat, i < 8 → (waitsL T)[i]? = some (waitS T i)) := Lib.hid (fun i hi => waits_at T hi)
  have EA : Hid (∀ i : Nat, i < 4 → (entsL T)[i]? = some (entryS T i)) := Lib.hid (fun i hi => ents_at T hi)
  have EF0 : Hid (∀ k : Nat, T.rails.length ≤ k → entryS T k = 0) := Lib.hid (fun k hk => entry_far hk)
  have WL : Hid ((waitsL T).length = 8) := Lib.hid (waits_len T)
  have EL : Hid ((entsL T).length = 4) := Lib.hid (ents_len T)
  have W0 := Lib.hid (waits_lo T)
  have RF4 : Hid (chkC T = (0, 0) → T.rails.length ≤ 4) := Lib.hid rails_four
  have RFU : Hid (T.rails.length ≤ 4 → (∀ x ∈ (entsL T).take T.rails.length, full x = false) → ∀ x ∈ entsL T, full x = false) := Lib.hid rail_full
  have CZ : Hid ((chkC T).1 = 0 → chkC T = (0, 0)) := Lib.hid chk_zero
  have ST := Lib.hid (laid3 w (T.cells h).toArray ((List.replicate 12 (0 : Int)).map I).toArray #[I 0, I 0] 32 65 37)
  have RS : Hid (allF T = if chkC T = (0, 0) then (if 0 ≤ idxF (waitsL T) then (14, idxF (waitsL T)) else if 0 ≤ idxF (entsL T) then (14, idxF (entsL T)) else if 0 < T.rails.length ∧ T.window < mosts (waitsL T) then (15, 0) else (0, 0)) else chkC T) := Lib.hid rfl
  have RB : Hid (allB T = if allF T = (0, 0) then waitsL T ++ entsL T else List.replicate 12 0) := Lib.hid rfl
  generalize allB T = rb at RB ⊢
  generalize allF T = rf at RS RB ⊢
  generalize waitsL T = wl at *
  generalize entsL T = el at *
  have HA : Hid (∀ (k : Nat) v, (∀ x ∈ wl.take k, full x = false) → wl[k]? = some v → full v = true → idxF wl = k) := Lib.hid (fun k v h1 h2 h3 => idx_at h1 h2 h3)
  have HA0 : Hid ((∀ x ∈ wl, full x = false) → idxF wl = -1) := Lib.hid idx_none
  have HE : Hid (∀ (k : Nat) v, (∀ x ∈ el.take k, full x = false) → el[k]? = some v → full v = true → idxF el = k) := Lib.hid (fun k v h1 h2 h3 => idx_at h1 h2 h3)
  have HE0 : Hid ((∀ x ∈ el, full x = false) → idxF el = -1) := Lib.hid idx_none
  have HM : Hid (∀ a W, IntRow W ⟨a, 8⟩ wl → Calls Tryz.prog 61 #[.slice a (8 : Nat) 8] W fun e w' => e = .returned (.int .i64 (mosts wl)) ∧ W = w') := Lib.hid (fun a W hr => ServeS.most_len a 8 wl 8 WL.out W hr)
  generalize idxF wl = i1 at *
  generalize idxF el = i2 at *
  generalize mosts wl = mw at *
  obtain ⟨⟨f1, f2⟩, hf⟩ : ∃ x, chkC T = x := ⟨_, rfl⟩
  rw [hf] at RS CK0 RF4 CZ
  have CK : Hid (∀ W, Below w.heap.size w W → Calls Tryz.prog 15 #[.agg (T.cells h).toArray] W fun e w' => e = .returned (.agg #[I f1, I f2]) ∧ Below W.heap.size W w') := Lib.hid CK0.out
  have CZ2 : Hid (f1 = 0 → f2 = 0) := Lib.hid (fun e => by have := CZ.out e; injection this)
  obtain ⟨sg, sd, ⟨ra, rcap⟩, sb⟩ := h
  clear hf CK0 ht sm CZ C
  generalize T.cells _ = c at *
  generalize T.rails.length = n at *
  generalize T.window = wd at *
  have hz := (zero_of_info infoBz).1
  have ZI : Hid ((Tryz.prog.info? 65).map (·.size) = some ((List.replicate 12 (0 : Int)).map I).toArray.size) := Lib.hid infoB
  have ZO : Hid (((List.replicate 12 (0 : Int)).map I).toArray.all (·.oneCell') = true) := Lib.hid (bone (zeros 8) (zeros 4))
  have BZ := Lib.hid builtB
  have ZE : bcells (zeros 8) (zeros 4) = ((List.replicate 12 (0 : Int)).map I).toArray := rfl
  rw [ZE] at hz
  clear ZE
  have RZ : Hid (∀ L : List Int, L = List.replicate 12 0 → (L.map I).toArray = ((List.replicate 12 (0 : Int)).map I).toArray) := Lib.hid (fun L e => by rw [e])
  have Z12 : Hid (((List.replicate 12 (0 : Int)).map I).toArray.size = 12) := Lib.hid rfl
  have ZU : Hid (((List.replicate 12 (0 : Int)).map I).toArray = bcells (upTo wl 8 0) (upTo el 4 0)) := Lib.hid rfl
  generalize ((List.replicate 12 (0 : Int)).map I).toArray = Z at *
  go_enter Tryz.func38, Tryz.ntmps38
  go_upto_region 1 with fail
  generalize ((w.alloc (.cells c.toArray 32)).alloc (.cells Z 65)).alloc (.cells #[I 0, I 0] 37) = w1 at ST ⊢
  clear hsz
  have LT : Hid (∀ u, Below w1.heap.size w1 u → Lies u ⟨w.heap.size, 0, none⟩ c) := Lib.hid (fun u hu => by have := bks_lies (ST.out.step hu) (x := (w.heap.size, c.toArray, 32)) (by simp); simpa using this)
  have SZ : Hid (w.heap.size + 3 ≤ w1.heap.size) := Lib.hid (by
    have := (Array.getElem?_eq_some_iff.1 (ST.out.blk (w.heap.size + 2, #[I 0, I 0], 37) (by simp))).1
    exact this)
  go_wp2_with (refine Row.wpList_load_g 32 _ rfl (by first | rfl | go_simp) ⟨w.heap.size, 0, none⟩ rfl c _ (LT.out _ (Below.refl _ _)) Tryz.underlying32 rfl IA.out ?_)
  refine (CK.out _ ST.out.bel).mono ?_
  rintro e u1 ⟨rfl, hb⟩
  have W1 : Hid (Below w1.heap.size w1 (u1.alloc (.cells #[I f1, I f2] 37))) := Lib.hid (hb.alloc hb.size _)
  have NE : Hid (u1.heap.size ≠ w.heap.size + 1 ∧ u1.heap.size ≠ w.heap.size + 2) := Lib.hid (by have := hb.size; have := SZ.out; omega)
  clear hb CK LT
  go_upto_region 2 with (refine Row.wpList_store_new rfl 37 _ _ rfl u1 _ #[I f1, I f2] rfl rfl rfl infoF rfl (by simp [Value.oneCell']) ?_)
  have KF : Hid ((u1.alloc (.cells #[I f1, I f2] 37)).heap[u1.heap.size]? = some (.cells #[I f1, I f2] 37 (0, 0))) := Lib.hid (heap_alloc_new _ _)
  generalize u1.alloc (.cells #[I f1, I f2] 37) = u2 at W1 KF ⊢
  generalize u1.heap.size = m1 at NE KF ⊢
  have S2 := Lib.hid (ST.out.step W1.out)
  have BF := Lib.hid S2.out.bel
  have K1 : Hid (u2.heap[w.heap.size + 1]? = some (.cells Z 65 (0, 0))) := Lib.hid (S2.out.blk (w.heap.size + 1, Z, 65) (by simp))
  have K2 : Hid (u2.heap[w.heap.size + 2]? = some (.cells #[I 0, I 0] 37 (0, 0))) := Lib.hid (S2.out.blk (w.heap.size + 2, #[I 0, I 0], 37) (by simp))
  have k0 : u2.cell? ⟨m1, 0, none⟩ = some (I f1) := by rw [cell_of_row _ _ _ _ _ _ KF.out]; rfl
  by_cases hf : f1 = 0
  rotate_left
  · have hfb : (f1 != 0) = true := by simpa using hf
    have RR : Hid (Value.tuple #[.agg Z, .agg #[I f1, I f2]] = .tuple #[.agg (rb.map I).toArray, .agg (fcells rf)]) := Lib.hid (by
      have h1 : rf = (f1, f2) := by rw [RS.out, if_neg (fun e => hf (by injection e))]
      have h2 : rb = List.replicate 12 0 := by rw [RB.out, if_neg (by rw [h1]; exact fun e => hf (by injection e))]
      rw [RZ.out rb h2, h1]; rfl)
    clear RS RB RF4 RFU WC0 EC ONW WA EA HA HA0 HE HE0 HM ST
    go_upto_region 3 with fail
    have D0 : Hid (Below w.heap.size w { u2 with drawn := u2.drawn + 1 }) := Lib.hid BF.out.drew
    have D1 : Hid (({ u2 with drawn := u2.drawn + 1 } : World).heap[w.heap.size + 1]? = some (.cells Z 65 (0, 0))) := Lib.hid K1.out
    have D2 : Hid (({ u2 with drawn := u2.drawn + 1 } : World).heap[w.heap.size + 2]? = some (.cells #[I 0, I 0] 37 (0, 0))) := Lib.hid K2.out
    refine wp_region_held (S := fun v => v.heap[m1]? = some (.cells #[I f1, I f2] 37 (0, 0))) (by kernel_rfl) ?_
    have hS : ({ u2 with drawn := u2.drawn + 1 } : World).heap[m1]? = some (.cells #[I f1, I f2] 37 (0, 0)) := KF.out
    generalize ({ u2 with drawn := u2.drawn + 1 } : World) = v at hS D0 D1 D2 ⊢
    refine Held.take_build (i := 0) (some 13) rfl 65 #[] Z rfl rfl (by kernel_rfl) (by kernel_rfl) (by kernel_rfl) (fun _ _ _ h => h) (by rfl) hS (by simpa using BZ.out) ?_
    (try dsimp only [Act.put]); (try simp only [List.setIfInBounds_toArray, List.set_cons_zero, List.set_cons_succ])
    refine Held.take_load (i := 1) (some 14) rfl 37 _ ⟨m1, 0, none⟩ [I f1, I f2] _ rfl rfl (by kernel_rfl) (by kernel_rfl) (by kernel_rfl) (fun _ _ _ h => h) (by rfl) hS rfl (fun w' hw' => by have := Row.lies_of_block hw'; simpa using this) Tryz.underlying37 rfl infoF ?_
    (try dsimp only [Act.put]); (try simp only [List.setIfInBounds_toArray, List.set_cons_zero, List.set_cons_succ])
    refine wpAnyH_ready (rs := [2]) (by kernel_rfl) (by simp) (AllReadyH.cons rfl (fun K hK => ?_) AllReadyH.nil)
    rw [if_pos (by rfl)]
    refine wp_store_row 65 _ _ rfl (w.heap.size + 1) Z rfl rfl 65 _ D1.out ZI.out rfl ZO.out ?_
    have hS2 : (v.setRow (w.heap.size + 1) Z).heap[m1]? = some (.cells #[I f1, I f2] 37 (0, 0)) := (setRow_other _ _ _ _ NE.out.1).trans hS
    have E0 := Lib.hid (Same.below_setRow D0.out (g := (w.heap.size + 1)) (by omega) Z)
    have E1 := Lib.hid (setRow_heap v (w.heap.size + 1) _ Z _ _ D1.out)
    have E2 : Hid ((v.setRow (w.heap.size + 1) Z).heap[w.heap.size + 2]? = some (.cells #[I 0, I 0] 37 (0, 0))) := Lib.hid ((setRow_other _ _ _ _ (by omega)).trans D2.out)
    generalize v.setRow (w.heap.size + 1) Z = v2 at hS2 E0 E1 E2 ⊢
    refine hK.out _ _ hS2 (fun hS => ?_)
    clear hK K hS2 D0 D1 D2
    (try dsimp only [Act.put]); (try simp only [List.setIfInBounds_toArray, List.set_cons_zero, List.set_cons_succ])
    refine wpAnyH_ready (rs := [3]) (by kernel_rfl) (by simp) (AllReadyH.cons rfl (fun K hK => ?_) AllReadyH.nil)
    rw [if_pos (by rfl)]
    refine wp_store_row 37 _ _ rfl (w.heap.size + 2) #[I f1, I f2] rfl rfl 37 _ E2.out infoF rfl (by simp [Value.oneCell']) ?_
    have hS3 : (v2.setRow (w.heap.size + 2) #[I f1, I f2]).heap[m1]? = some (.cells #[I f1, I f2] 37 (0, 0)) := (setRow_other _ _ _ _ NE.out.2).trans hS
    have F0 := Lib.hid (Same.below_setRow E0.out (g := (w.heap.size + 2)) (by omega) #[I f1, I f2])
    have F2 := Lib.hid (setRow_heap v2 (w.heap.size + 2) _ #[I f1, I f2] _ _ E2.out)
    have F1 : Hid ((v2.setRow (w.heap.size + 2) #[I f1, I f2]).heap[w.heap.size + 1]? = some (.cells Z 65 (0, 0))) := Lib.hid ((setRow_other _ _ _ _ (by omega)).trans E1.out)
    generalize v2.setRow (w.heap.size + 2) #[I f1, I f2] = v3 at hS3 F0 F1 F2 ⊢
    refine hK.out _ _ hS3 (fun hS => ?_)
    clear hK K hS3 E0 E1 E2
    refine wpAnyH_done (by kernel_rfl) ?_ _
    (try go_wp2_with fail)
    (try simp only [Exit.inBlock, Exit.then])
    refine bodyPost_ret (v := .tuple #[.agg Z, .agg #[I f1, I f2]]) ?_ rfl ⟨by rw [RR.out], F0.out⟩
    exact results_two rfl _ _ (w.heap.size + 1) (w.heap.size + 2) 65 37 Z #[I f1, I f2] _ _ rfl rfl F1.out F2.out Tryz.underlying65 rfl ZI.out Tryz.underlying37 rfl infoF
  obtain rfl := CZ2.out hf
  subst hf
  have HN4 := Lib.hid (RF4.out rfl)
  have RFU2 := Lib.hid (RFU.out HN4.out)
  have WC := Lib.hid (WC0.out HN4.out)
  clear WC0
  have RS2 : Hid (rf = if 0 ≤ i1 then (14, i1) else if 0 ≤ i2 then (14, i2) else if 0 < n ∧ wd < mw then (15, 0) else (0, 0)) := Lib.hid (by rw [RS.out, if_pos rfl])
  have RN : Hid (∀ f : Int × Int, rf = f → f.1 ≠ 0 → Value.tuple #[.agg Z, .agg #[I f.1, I f.2]] = .tuple #[.agg (rb.map I).toArray, .agg (fcells rf)]) := Lib.hid (fun f e h0 => by
    have h2 : rb = List.replicate 12 0 := by rw [RB.out, if_neg (by rw [e]; exact fun q => h0 (by rw [q]))]
    rw [RZ.out rb h2, e]; rfl)
  have RY : Hid (rf = (0, 0) → Value.tuple #[.agg ((wl ++ el).map I).toArray, .agg #[I 0, I 0]] = .tuple #[.agg (rb.map I).toArray, .agg (fcells rf)]) := Lib.hid (fun e => by
    have h2 : rb = wl ++ el := by rw [RB.out, if_pos e]
    rw [h2, e]; rfl)
  clear RS RB RF4 RFU RZ KF NE BF K1 K2 CZ2
  go_upto_region 5 with fail
  clear k0 hz
  have SB : Hid (Bks w [(u2.heap.size, bcells (upTo wl 8 0) (upTo el 4 0), 65), (w.heap.size + 2, #[I 0, I 0], 37), (w.heap.size + 1, Z, 65), (w.heap.size, c.toArray, 32)] (u2.alloc (.cells Z 65))) := Lib.hid (by
    have hb : Below u2.heap.size u2 (u2.alloc (.cells Z 65)) := (Below.refl _ _).alloc (Nat.le_refl _) _
    have h1 := S2.out.step hb
    refine ⟨h1.bel, ?_, ?_⟩
    · intro x hx
      rcases List.mem_cons.1 hx with rfl | hx
      · exact S2.out.bel.size
      · exact h1.own x hx
    · intro x hx
      rcases List.mem_cons.1 hx with rfl | hx
      · rw [← ZU.out]; exact heap_alloc_new _ _
      · exact h1.blk x hx)
  have NM : Hid (u2.heap.size ≠ w.heap.size + 2 ∧ u2.heap.size ≠ w.heap.size + 1 ∧ u2.heap.size ≠ w.heap.size) := Lib.hid (by have := W1.out.size; have := SZ.out; omega)
  clear W1 SZ S2 ST ZU
  generalize u2.alloc (.cells Z 65) = u3 at SB ⊢
  generalize u2.heap.size = m2 at SB NM ⊢
  go_wp2_with fail
  go_loopw [6] (fun i wr => ∃ q : Nat, q ≤ 8 ∧ i = .int .i64 q ∧ (∀ x ∈ wl.take q, full x = false) ∧ Bks w [(m2, bcells (upTo wl 8 q) (upTo el 4 0), 65), (w.heap.size + 2, #[I 0, I 0], 37), (w.heap.size + 1, Z, 65), (w.heap.size, c.toArray, 32)] wr) (fun i _ => 8 - (intOf i).toNat)
  case atStart => exact ⟨0, by omega, rfl, by simp, SB.out⟩
  case round =>
    obtain ⟨q, hq, rfl, hn, hB⟩ := hrel
    have HB := Lib.hid hB
    have HN := Lib.hid hn
    clear hB hn
    by_cases hlt : q < 8
    · skip
      have hv := WA.out q (by omega)
      have UP : Hid ((upTo wl 8 q).set q (waitS T q) = upTo wl 8 (q + 1)) := Lib.hid (upTo_succ WL.out hv)
      have CQ := Lib.hid (WC.out q)
      have HT : Hid (full (waitS T q) = true → i1 = q) := Lib.hid (fun e => HA.out q _ HN.out hv e)
      have HN2 : Hid (full (waitS T q) = false → ∀ x ∈ wl.take (q + 1), full x = false) := Lib.hid (fun e => take_all HN.out hv e)
      have HO := Lib.hid (ONW.out q hlt)
      generalize waitS T q = x at UP CQ HT HN2 HO
      clear hv
      have LTW : Hid (Lies wr ⟨w.heap.size, 0, none⟩ c) := Lib.hid (by have := bks_lies HB.out (x := (w.heap.size, c.toArray, 32)) (by simp); simpa using this)
      go_wp2_with (refine Row.wpList_load_g 32 _ rfl (by first | rfl | go_simp) ⟨w.heap.size, 0, none⟩ rfl c _ LTW.out Tryz.underlying32 rfl IA.out ?_)
      refine (CQ.out _ HB.out.bel).mono ?_
      rintro e u5 ⟨rfl, hb⟩
      have HB5 := Lib.hid (HB.out.step hb)
      clear hb LTW CQ HB
      obtain ⟨v0, hv0⟩ : ∃ v0, (bcells (upTo wl 8 q) (upTo el 4 0))[q]? = some v0 := ⟨_, Array.getElem?_eq_getElem (by rw [bsize]; first | (rw [upTo_len WL.out (by omega), upTo_len EL.out (by omega)]; omega) | (rw [WL.out, upTo_len EL.out (by omega)]; omega))⟩
      have c5 : u5.cell? ⟨m2, q, none⟩ = some v0 := bks_cell HB5.out (x := (m2, bcells (upTo wl 8 q) (upTo el 4 0), 65)) (by simp) hv0
      have f5 : u5.frozen? ⟨m2, q, none⟩ = false := bks_frozen HB5.out (x := (m2, bcells (upTo wl 8 q) (upTo el 4 0), 65)) (by simp) (q)
      have HB6 : Hid (Bks w [(m2, bcells (upTo wl 8 (q + 1)) (upTo el 4 0), 65), (w.heap.size + 2, #[I 0, I 0], 37), (w.heap.size + 1, Z, 65), (w.heap.size, c.toArray, 32)] (u5.setCell ⟨m2, q, none⟩ (I x))) := Lib.hid (by
        have := HB5.out.set (by intro y hy; simp only [List.mem_cons, List.not_mem_nil, or_false] at hy; obtain ⟨n1, n2, n3⟩ := NM.out; rcases hy with rfl | rfl | rfl <;> simp only <;> omega) (q) (I x)
        rwa [setA x (by rw [upTo_len WL.out hq]; exact hlt), UP.out] at this)
      clear hv0
      have c8 : (u5.setCell ⟨m2, q, none⟩ (I x)).cell? ⟨m2, q, none⟩ = some (I x) := by
        have hx : (upTo wl 8 (q + 1))[q]? = some x := by
          rw [← UP.out, List.getElem?_set_self (by rw [upTo_len WL.out hq]; exact hlt)]
        exact bks_cell HB6.out (x := (m2, bcells (upTo wl 8 (q + 1)) (upTo el 4 0), 65)) (by simp) (batA hx)
      clear HB5
      cases hx : full x with
      | true =>
        have hge : 2147483647 ≤ x := by simpa [full] using hx
        have c9 : (u5.setCell ⟨m2, q, none⟩ (I x)).cell? ⟨w.heap.size, q * 13, none⟩ = some (.bool true) := bks_cell HB6.out (x := (w.heap.size, c.toArray, 32)) (by simp) (by have := HO.out hx; simpa using this)
        have hi : i1 = q := HT.out hx
        have RR := Lib.hid (RN.out (14, (q : Int)) (by rw [RS2.out, hi, if_pos (by omega)]) (by simp))
        clear HT HN2 HO UP hi RN RY RS2 HN WC EC ONW WA EA HA HA0 HE HE0 HM
        go_upto_region 10 with fail
        clear c5 f5 c8 c9
        generalize u5.setCell ⟨m2, q, none⟩ (I x) = u6 at HB6 ⊢
        have BF := Lib.hid HB6.out.bel
        have K1 : Hid (u6.heap[w.heap.size + 1]? = some (.cells Z 65 (0, 0))) := Lib.hid (HB6.out.blk (w.heap.size + 1, Z, 65) (by simp))
        have K2 : Hid (u6.heap[w.heap.size + 2]? = some (.cells #[I 0, I 0] 37 (0, 0))) := Lib.hid (HB6.out.blk (w.heap.size + 2, #[I 0, I 0], 37) (by simp))
        have E0 := Lib.hid (Same.below_setRow BF.out (g := w.heap.size + 1) (by omega) Z)
        have E1 := Lib.hid (setRow_heap u6 (w.heap.size + 1) _ Z _ _ K1.out)
        have E2 : Hid ((u6.setRow (w.heap.size + 1) Z).heap[w.heap.size + 2]? = some (.cells #[I 0, I 0] 37 (0, 0))) := Lib.hid ((setRow_other _ _ _ _ (by omega)).trans K2.out)
        have F0 := Lib.hid (Same.below_setRow E0.out (g := w.heap.size + 2) (by omega) #[I 14, I (q : Int)])
        have F2 := Lib.hid (setRow_heap (u6.setRow (w.heap.size + 1) Z) (w.heap.size + 2) _ #[I 14, I (q : Int)] _ _ E2.out)
        have F1 : Hid (((u6.setRow (w.heap.size + 1) Z).setRow (w.heap.size + 2) #[I 14, I (q : Int)]).heap[w.heap.size + 1]? = some (.cells Z 65 (0, 0))) := Lib.hid ((setRow_other _ _ _ _ (by omega)).trans E1.out)
        go_wp2_with (first | (refine wpList_build0 rfl 65 rfl Z BZ.out ?_) | (refine wpList_store_row rfl 65 _ _ rfl (w.heap.size + 1) Z rfl rfl 65 _ K1.out ZI.out rfl ZO.out ?_) | (refine wpList_store_row rfl 37 _ _ rfl (w.heap.size + 2) #[I 14, I (q : Int)] rfl rfl 37 _ E2.out infoF rfl (by simp [Value.oneCell']) ?_))
        generalize (u6.setRow (w.heap.size + 1) Z).setRow (w.heap.size + 2) #[I 14, I (q : Int)] = v3 at F0 F1 F2 ⊢
        (try go_wp2_with fail)
        (try simp only [Exit.inBlock, Exit.then])
        refine bodyPost_ret (v := .tuple #[.agg Z, .agg #[I 14, I (q : Int)]]) ?_ rfl ⟨by rw [RR.out], F0.out⟩
        exact results_two rfl _ _ (w.heap.size + 1) (w.heap.size + 2) 65 37 Z #[I 14, I (q : Int)] _ _ rfl rfl F1.out F2.out Tryz.underlying65 rfl ZI.out Tryz.underlying37 rfl infoF
      | false =>
        have hlt2 : ¬ 2147483647 ≤ x := by simpa [full] using hx
        have HNN := Lib.hid (HN2.out hx)
        clear HT HN2 HO UP HN hx
        go_wp2
        go_roundw
        case rel => exact ⟨q + 1, by omega, by go_num, HNN.out, HB6.out⟩
        case measure => simp [intOf]; omega
    · obtain rfl : q = 8 := by omega
      have HI1 : Hid (i1 = -1) := Lib.hid (HA0.out (by have := HN.out; rwa [List.take_of_length_le (by rw [WL.out]; omega)] at this))
      have HB2 : Hid (Bks w [(m2, bcells wl (upTo el 4 0), 65), (w.heap.size + 2, #[I 0, I 0], 37), (w.heap.size + 1, Z, 65), (w.heap.size, c.toArray, 32)] wr) := Lib.hid (by have := HB.out; rwa [upTo_full WL.out] at this)
      clear HB SB WC WA hq hlt HA HA0 HN ONW
      rw [show ((8 : Nat) : Int) = (8 : Int) from rfl]
      go_upto_region 12 with fail
      go_loopw [7] (fun i wr => ∃ q : Nat, q ≤ n ∧ i = .int .i64 q ∧ (∀ x ∈ el.take q, full x = false) ∧ Bks w [(m2, bcells wl (upTo el 4 q), 65), (w.heap.size + 2, #[I 0, I 0], 37), (w.heap.size + 1, Z, 65), (w.heap.size, c.toArray, 32)] wr) (fun i _ => n - (intOf i).toNat)
      case atStart => exact ⟨0, by omega, rfl, by simp, HB2.out⟩
      case round =>
        obtain ⟨q, hq, rfl, hn, hB⟩ := hrel
        have HB := Lib.hid hB
        have HN := Lib.hid hn
        have hn4 := HN4.out
        clear hB hn HB2
        have q114 : wr.cell? ⟨w.heap.size, 114, none⟩ = some (.slice ra n rcap) := bks_cell HB.out (x := (w.heap.size, c.toArray, 32)) (by simp) C114.out
        by_cases hlt : q < n
        · skip
          have hv := EA.out q (by omega)
          have UP : Hid ((upTo el 4 q).set q (entryS T q) = upTo el 4 (q + 1)) := Lib.hid (upTo_succ EL.out hv)
          have CQ := Lib.hid (EC.out q)
          have HT : Hid (full (entryS T q) = true → i2 = q) := Lib.hid (fun e => HE.out q _ HN.out hv e)
          have HN2 : Hid (full (entryS T q) = false → ∀ x ∈ el.take (q + 1), full x = false) := Lib.hid (fun e => take_all HN.out hv e)
          generalize entryS T q = x at UP CQ HT HN2
          clear hv
          have LTW : Hid (Lies wr ⟨w.heap.size, 0, none⟩ c) := Lib.hid (by have := bks_lies HB.out (x := (w.heap.size, c.toArray, 32)) (by simp); simpa using this)
          go_wp2_with (refine Row.wpList_load_g 32 _ rfl (by first | rfl | go_simp) ⟨w.heap.size, 0, none⟩ rfl c _ LTW.out Tryz.underlying32 rfl IA.out ?_)
          refine (CQ.out _ HB.out.bel).mono ?_
          rintro e u5 ⟨rfl, hb⟩
          have HB5 := Lib.hid (HB.out.step hb)
          clear hb LTW CQ HB
          obtain ⟨v0, hv0⟩ : ∃ v0, (bcells wl (upTo el 4 q))[8 + q]? = some v0 := ⟨_, Array.getElem?_eq_getElem (by rw [bsize]; first | (rw [upTo_len WL.out (by omega), upTo_len EL.out (by omega)]; omega) | (rw [WL.out, upTo_len EL.out (by omega)]; omega))⟩
          have c5 : u5.cell? ⟨m2, 8 + q, none⟩ = some v0 := bks_cell HB5.out (x := (m2, bcells wl (upTo el 4 q), 65)) (by simp) hv0
          have f5 : u5.frozen? ⟨m2, 8 + q, none⟩ = false := bks_frozen HB5.out (x := (m2, bcells wl (upTo el 4 q), 65)) (by simp) (8 + q)
          have HB6 : Hid (Bks w [(m2, bcells wl (upTo el 4 (q + 1)), 65), (w.heap.size + 2, #[I 0, I 0], 37), (w.heap.size + 1, Z, 65), (w.heap.size, c.toArray, 32)] (u5.setCell ⟨m2, 8 + q, none⟩ (I x))) := Lib.hid (by
            have := HB5.out.set (by intro y hy; simp only [List.mem_cons, List.not_mem_nil, or_false] at hy; obtain ⟨n1, n2, n3⟩ := NM.out; rcases hy with rfl | rfl | rfl <;> simp only <;> omega) (8 + q) (I x)
            rw [← WL.out, setE x (by rw [upTo_len EL.out (by omega)]; omega), UP.out, WL.out] at this; exact this)
          clear hv0
          have c8 : (u5.setCell ⟨m2, 8 + q, none⟩ (I x)).cell? ⟨m2, 8 + q, none⟩ = some (I x) := by
            have hx : (upTo el 4 (q + 1))[q]? = some x := by
              rw [← UP.out, List.getElem?_set_self (by rw [upTo_len EL.out (by omega)]; omega)]
            have := batE (A := wl) hx
            rw [WL.out] at this
            exact bks_cell HB6.out (x := (m2, bcells wl (upTo el 4 (q + 1)), 65)) (by simp) this
          clear HB5 q114
          cases hx : full x with
          | true =>
            have hge : 2147483647 ≤ x := by simpa [full] using hx
            have hi : i2 = q := HT.out hx
            have RR := Lib.hid (RN.out (14, (q : Int)) (by rw [RS2.out, HI1.out, hi, if_neg (by omega), if_pos (by omega)]) (by simp))
            clear HT HN2 UP hi RN RY RS2 HN EC EA HE HE0 HM
            go_upto_region 16 with fail
            clear c5 f5 c8
            generalize u5.setCell ⟨m2, 8 + q, none⟩ (I x) = u6 at HB6 ⊢
            have BF := Lib.hid HB6.out.bel
            have K1 : Hid (u6.heap[w.heap.size + 1]? = some (.cells Z 65 (0, 0))) := Lib.hid (HB6.out.blk (w.heap.size + 1, Z, 65) (by simp))
            have K2 : Hid (u6.heap[w.heap.size + 2]? = some (.cells #[I 0, I 0] 37 (0, 0))) := Lib.hid (HB6.out.blk (w.heap.size + 2, #[I 0, I 0], 37) (by simp))
            have E0 := Lib.hid (Same.below_setRow BF.out (g := w.heap.size + 1) (by omega) Z)
            have E1 := Lib.hid (setRow_heap u6 (w.heap.size + 1) _ Z _ _ K1.out)
            have E2 : Hid ((u6.setRow (w.heap.size + 1) Z).heap[w.heap.size + 2]? = some (.cells #[I 0, I 0] 37 (0, 0))) := Lib.hid ((setRow_other _ _ _ _ (by omega)).trans K2.out)
            have F0 := Lib.hid (Same.below_setRow E0.out (g := w.heap.size + 2) (by omega) #[I 14, I (q : Int)])
            have F2 := Lib.hid (setRow_heap (u6.setRow (w.heap.size + 1) Z) (w.heap.size + 2) _ #[I 14, I (q : Int)] _ _ E2.out)
            have F1 : Hid (((u6.setRow (w.heap.size + 1) Z).setRow (w.heap.size + 2) #[I 14, I (q : Int)]).heap[w.heap.size + 1]? = some (.cells Z 65 (0, 0))) := Lib.hid ((setRow_other _ _ _ _ (by omega)).trans E1.out)
            go_wp2_with (first | (refine wpList_build0 rfl 65 rfl Z BZ.out ?_) | (refine wpList_store_row rfl 65 _ _ rfl (w.heap.size + 1) Z rfl rfl 65 _ K1.out ZI.out rfl ZO.out ?_) | (refine wpList_store_row rfl 37 _ _ rfl (w.heap.size + 2) #[I 14, I (q : Int)] rfl rfl 37 _ E2.out infoF rfl (by simp [Value.oneCell']) ?_))
            generalize (u6.setRow (w.heap.size + 1) Z).setRow (w.heap.size + 2) #[I 14, I (q : Int)] = v3 at F0 F1 F2 ⊢
            (try go_wp2_with fail)
            (try simp only [Exit.inBlock, Exit.then])
            refine bodyPost_ret (v := .tuple #[.agg Z, .agg #[I 14, I (q : Int)]]) ?_ rfl ⟨by rw [RR.out], F0.out⟩
            exact results_two rfl _ _ (w.heap.size + 1) (w.heap.size + 2) 65 37 Z #[I 14, I (q : Int)] _ _ rfl rfl F1.out F2.out Tryz.underlying65 rfl ZI.out Tryz.underlying37 rfl infoF
          | false =>
            have hlt2 : ¬ 2147483647 ≤ x := by simpa [full] using hx
            have HNN := Lib.hid (HN2.out hx)
            clear HT HN2 UP HN hx
            go_wp2
            go_roundw
            case rel => exact ⟨q + 1, by omega, by go_num, HNN.out, HB6.out⟩
            case measure => simp [intOf]; omega
        · obtain rfl : q = n := by omega
          have HI2 : Hid (i2 = -1) := Lib.hid (HE0.out (RFU2.out HN.out))
          have RS3 : Hid (rf = if 0 < q ∧ wd < mw then (15, 0) else (0, 0)) := Lib.hid (by rw [RS2.out, HI1.out, HI2.out]; rfl)
          have HF : Hid (Bks w [(m2, bcells wl el, 65), (w.heap.size + 2, #[I 0, I 0], 37), (w.heap.size + 1, Z, 65), (w.heap.size, c.toArray, 32)] wr) := Lib.hid (by
            have := HB.out
            rwa [upTo_same EL.out hn4 (fun j h1 h2 => by rw [EA.out j h2, EF0.out j h1])] at this)
          have HM1 : Hid (∀ u, Below wr.heap.size wr u → Calls Tryz.prog 61 #[.slice (some ⟨m2, 0, none⟩) (8 : Nat) 8] u fun e w' => e = .returned (.int .i64 mw) ∧ u = w') := Lib.hid (fun u hu => HM.out (some ⟨m2, 0, none⟩) u (by
            have := row_A ((HF.out.step hu).blk (m2, bcells wl el, 65) (by simp)) (by rw [WL.out]; decide)
            rwa [WL.out] at this))
          have QR : Hid (∀ u, Below wr.heap.size wr u → u.cell? ⟨w.heap.size, 114, none⟩ = some (.slice ra q rcap)) := Lib.hid (fun u hu => bks_cell (HF.out.step hu) (x := (w.heap.size, c.toArray, 32)) (by simp) C114.out)
          have QW : Hid (∀ u, Below wr.heap.size wr u → u.cell? ⟨w.heap.size, 129, none⟩ = some (I wd)) := Lib.hid (fun u hu => bks_cell (HF.out.step hu) (x := (w.heap.size, c.toArray, 32)) (by simp) C129.out)
          have LB : Hid ((wl ++ el).length = 12) := Lib.hid (by rw [List.length_append, WL.out, EL.out])
          have BL : Hid ((Tryz.prog.info? 65).map (·.size) = some ((wl ++ el).map I).length) := Lib.hid (by rw [List.length_map, LB.out]; exact infoB)
          have BO : Hid (((wl ++ el).map I).toArray.all (·.oneCell') = true) := Lib.hid (by simp [Value.oneCell'])
          have BL12 : Hid (((wl ++ el).map I).length = 12) := Lib.hid (by rw [List.length_map, LB.out])
          have HFB : Hid (Bks w [(m2, ((wl ++ el).map I).toArray, 65), (w.heap.size + 2, #[I 0, I 0], 37), (w.heap.size + 1, Z, 65), (w.heap.size, c.toArray, 32)] wr) := Lib.hid HF.out
          clear HB HN HF HM EC EA HE HE0 RFU2 RS2 HI1 HI2 LB
          generalize (wl ++ el).map I = bc at *
          go_upto_region 17 with fail
          clear q114
          by_cases hn : q = 0
          · have RR := Lib.hid (RY.out (by rw [RS3.out, if_neg (by omega)]))
            subst hn
            clear RS3 RY RN
            refine wp_region_held (S := fun w' => Below wr.heap.size wr w') (by kernel_rfl) ?_
            have hS : Below wr.heap.size wr { wr with drawn := wr.drawn + 1 } := (Below.refl _ _).drew
            generalize ({ wr with drawn := wr.drawn + 1 } : World) = v at hS ⊢
            refine Held.take (i := 0) (some 61) rfl (v := ?_) rfl (by kernel_rfl) (by kernel_rfl) (by kernel_rfl) (fun _ _ _ h => h) (Or.inl ⟨by rfl, ?_⟩) hS ?_
            rotate_left
            · intro w' hw'
              go_simp
              try with_reducible rfl
            (try dsimp only [Act.put]); (try simp only [List.setIfInBounds_toArray, List.set_cons_zero, List.set_cons_succ])
            refine Held.take (i := 1) (some 62) rfl (v := ?_) rfl (by kernel_rfl) (by kernel_rfl) (by kernel_rfl) (fun _ _ _ h => h) (Or.inl ⟨by rfl, ?_⟩) hS ?_
            rotate_left
            · intro w' hw'
              have cf := QR.out w' hw'
              go_simp
              try with_reducible rfl
            (try dsimp only [Act.put]); (try simp only [List.setIfInBounds_toArray, List.set_cons_zero, List.set_cons_succ])
            refine Held.take (i := 2) (some 63) rfl (v := ?_) rfl (by kernel_rfl) (by kernel_rfl) (by kernel_rfl) (fun _ _ _ h => h) (Or.inl ⟨by rfl, ?_⟩) hS ?_
            rotate_left
            · intro w' hw'
              go_simp
              try with_reducible rfl
            (try dsimp only [Act.put]); (try simp only [List.setIfInBounds_toArray, List.set_cons_zero, List.set_cons_succ])
            refine Held.take (i := 3) (some 64) rfl (v := .bool false) rfl (by kernel_rfl) (by kernel_rfl) (by kernel_rfl) (fun _ _ _ h => h) (Or.inl ⟨by rfl, ?_⟩) hS ?_
            · intro w' hw'
              go_simp
              try with_reducible rfl
            (try dsimp only [Act.put]); (try simp only [List.setIfInBounds_toArray, List.set_cons_zero, List.set_cons_succ])
            refine Held.take (i := 4) (some 65) rfl (v := .bool false) rfl (by kernel_rfl) (by kernel_rfl) (by kernel_rfl) (fun _ _ _ h => h) (Or.inl ⟨by rfl, ?_⟩) hS ?_
            · intro w' hw'
              go_simp
              try with_reducible rfl
            (try dsimp only [Act.put]); (try simp only [List.setIfInBounds_toArray, List.set_cons_zero, List.set_cons_succ])
            refine Held.take_skip (i := 5) (some 66) rfl rfl (by kernel_rfl) (by kernel_rfl) (by kernel_rfl) (fun _ _ _ h => h) (by rfl) hS ?_
            (try dsimp only [Act.put]); (try simp only [List.setIfInBounds_toArray, List.set_cons_zero, List.set_cons_succ])
            refine Held.take_skip (i := 6) (some 67) rfl rfl (by kernel_rfl) (by kernel_rfl) (by kernel_rfl) (fun _ _ _ h => h) (by rfl) hS ?_
            (try dsimp only [Act.put]); (try simp only [List.setIfInBounds_toArray, List.set_cons_zero, List.set_cons_succ])
            refine Held.take_skip (i := 7) (some 68) rfl rfl (by kernel_rfl) (by kernel_rfl) (by kernel_rfl) (fun _ _ _ h => h) (by rfl) hS ?_
            (try dsimp only [Act.put]); (try simp only [List.setIfInBounds_toArray, List.set_cons_zero, List.set_cons_succ])
            refine Held.take_skip (i := 8) (some 69) rfl rfl (by kernel_rfl) (by kernel_rfl) (by kernel_rfl) (fun _ _ _ h => h) (by rfl) hS ?_
            (try dsimp only [Act.put]); (try simp only [List.setIfInBounds_toArray, List.set_cons_zero, List.set_cons_succ])
            refine Held.take_skip (i := 9) (some 70) rfl rfl (by kernel_rfl) (by kernel_rfl) (by kernel_rfl) (fun _ _ _ h => h) (by rfl) hS ?_
            (try dsimp only [Act.put]); (try simp only [List.setIfInBounds_toArray, List.set_cons_zero, List.set_cons_succ])
            refine Held.take_skip (i := 10) (some 71) rfl rfl (by kernel_rfl) (by kernel_rfl) (by kernel_rfl) (fun _ _ _ h => h) (by rfl) hS ?_
            (try dsimp only [Act.put]); (try simp only [List.setIfInBounds_toArray, List.set_cons_zero, List.set_cons_succ])
            refine Held.take (i := 11) (some 72) rfl (v := ?_) rfl (by kernel_rfl) (by kernel_rfl) (by kernel_rfl) (fun _ _ _ h => h) (Or.inl ⟨by rfl, ?_⟩) hS ?_
            rotate_left
            · intro w' hw'
              go_simp
              try with_reducible rfl
            (try dsimp only [Act.put]); (try simp only [List.setIfInBounds_toArray, List.set_cons_zero, List.set_cons_succ])
            refine wpAnyH_done (by kernel_rfl) ?_ _
            have HV := Lib.hid (HFB.out.step hS)
            have HL : Hid (Lies v ⟨m2, 0, none⟩ bc) := Lib.hid (by have := bks_lies HV.out (x := (m2, bc.toArray, 65)) (by simp); simpa using this)
            clear hS
            go_upto_region 19 with fail
            have BF := Lib.hid HV.out.bel
            have K1 : Hid (v.heap[w.heap.size + 1]? = some (.cells Z 65 (0, 0))) := Lib.hid (HV.out.blk (w.heap.size + 1, Z, 65) (by simp))
            have K2 : Hid (v.heap[w.heap.size + 2]? = some (.cells #[I 0, I 0] 37 (0, 0))) := Lib.hid (HV.out.blk (w.heap.size + 2, #[I 0, I 0], 37) (by simp))
            have E0 := Lib.hid (Same.below_setRow BF.out (g := w.heap.size + 1) (by omega) bc.toArray)
            have E1 := Lib.hid (setRow_heap v (w.heap.size + 1) _ bc.toArray _ _ K1.out)
            have E2 : Hid ((v.setRow (w.heap.size + 1) bc.toArray).heap[w.heap.size + 2]? = some (.cells #[I 0, I 0] 37 (0, 0))) := Lib.hid ((setRow_other _ _ _ _ (by omega)).trans K2.out)
            have F0 := Lib.hid (Same.below_setRow E0.out (g := w.heap.size + 2) (by omega) #[I 0, I 0])
            have F2 := Lib.hid (setRow_heap (v.setRow (w.heap.size + 1) bc.toArray) (w.heap.size + 2) _ #[I 0, I 0] _ _ E2.out)
            have F1 : Hid (((v.setRow (w.heap.size + 1) bc.toArray).setRow (w.heap.size + 2) #[I 0, I 0]).heap[w.heap.size + 1]? = some (.cells bc.toArray 65 (0, 0))) := Lib.hid ((setRow_other _ _ _ _ (by omega)).trans E1.out)
            go_wp2_with (first | (refine Row.wpList_load_g 65 _ rfl (by first | rfl | go_simp) ⟨m2, 0, none⟩ rfl bc _ HL.out Tryz.underlying65 rfl BL.out ?_) | (refine wpList_store_row rfl 65 _ _ rfl (w.heap.size + 1) bc.toArray rfl rfl 65 _ K1.out (by rw [List.size_toArray]; exact BL.out) (by rw [Z12.out, List.size_toArray, BL12.out]) BO.out ?_) | (refine wpList_store_row rfl 37 _ _ rfl (w.heap.size + 2) #[I 0, I 0] rfl rfl 37 _ E2.out infoF rfl (by simp [Value.oneCell']) ?_))
            generalize (v.setRow (w.heap.size + 1) bc.toArray).setRow (w.heap.size + 2) #[I 0, I 0] = v3 at F0 F1 F2 ⊢
            (try go_wp2_with fail)
            (try simp only [Exit.inBlock, Exit.then])
            refine bodyPost_ret (v := .tuple #[.agg bc.toArray, .agg #[I 0, I 0]]) ?_ rfl ⟨by rw [RR.out], F0.out⟩
            exact results_two rfl _ _ (w.heap.size + 1) (w.heap.size + 2) 65 37 bc.toArray #[I 0, I 0] _ _ rfl rfl F1.out F2.out Tryz.underlying65 rfl (by rw [List.size_toArray]; exact BL.out) Tryz.underlying37 rfl infoF
          · have NP := Lib.hid (Nat.pos_of_ne_zero hn)
            clear hn
            refine wp_region_held (S := fun w' => Below wr.heap.size wr w') (by kernel_rfl) ?_
            have hS : Below wr.heap.size wr { wr with drawn := wr.drawn + 1 } := (Below.refl _ _).drew
            generalize ({ wr with drawn := wr.drawn + 1 } : World) = v at hS ⊢
            refine Held.take (i := 0) (some 61) rfl (v := ?_) rfl (by kernel_rfl) (by kernel_rfl) (by kernel_rfl) (fun _ _ _ h => h) (Or.inl ⟨by rfl, ?_⟩) hS ?_
            rotate_left
            · intro w' hw'
              go_simp
              try with_reducible rfl
            (try dsimp only [Act.put]); (try simp only [List.setIfInBounds_toArray, List.set_cons_zero, List.set_cons_succ])
            refine Held.take (i := 1) (some 62) rfl (v := ?_) rfl (by kernel_rfl) (by kernel_rfl) (by kernel_rfl) (fun _ _ _ h => h) (Or.inl ⟨by rfl, ?_⟩) hS ?_
            rotate_left
            · intro w' hw'
              have cf := QR.out w' hw'
              go_simp
              try with_reducible rfl
            (try dsimp only [Act.put]); (try simp only [List.setIfInBounds_toArray, List.set_cons_zero, List.set_cons_succ])
            refine Held.take (i := 2) (some 63) rfl (v := ?_) rfl (by kernel_rfl) (by kernel_rfl) (by kernel_rfl) (fun _ _ _ h => h) (Or.inl ⟨by rfl, ?_⟩) hS ?_
            rotate_left
            · intro w' hw'
              go_simp
              try with_reducible rfl
            (try dsimp only [Act.put]); (try simp only [List.setIfInBounds_toArray, List.set_cons_zero, List.set_cons_succ])
            refine Held.take (i := 3) (some 64) rfl (v := .bool true) rfl (by kernel_rfl) (by kernel_rfl) (by kernel_rfl) (fun _ _ _ h => h) (Or.inl ⟨by rfl, ?_⟩) hS ?_
            · intro w' hw'
              have cf := NP.out
              go_simp
              try omega
              try with_reducible rfl
            (try dsimp only [Act.put]); (try simp only [List.setIfInBounds_toArray, List.set_cons_zero, List.set_cons_succ])
            refine Held.take (i := 4) (some 65) rfl (v := .bool true) rfl (by kernel_rfl) (by kernel_rfl) (by kernel_rfl) (fun _ _ _ h => h) (Or.inl ⟨by rfl, ?_⟩) hS ?_
            · intro w' hw'
              go_simp
              try with_reducible rfl
            (try dsimp only [Act.put]); (try simp only [List.setIfInBounds_toArray, List.set_cons_zero, List.set_cons_succ])
            refine Held.take (i := 5) (some 66) rfl (v := ?_) rfl (by kernel_rfl) (by kernel_rfl) (by kernel_rfl) (fun _ _ _ h => h) (Or.inl ⟨by rfl, ?_⟩) hS ?_
            rotate_left
            · intro w' hw'
              go_simp
              try with_reducible rfl
            (try dsimp only [Act.put]); (try simp only [List.setIfInBounds_toArray, List.set_cons_zero, List.set_cons_succ])
            refine Held.take (i := 6) (some 67) rfl (v := ?_) rfl (by kernel_rfl) (by kernel_rfl) (by kernel_rfl) (fun _ _ _ h => h) (Or.inl ⟨by rfl, ?_⟩) hS ?_
            rotate_left
            · intro w' hw'
              have cf := QW.out w' hw'
              go_simp
              try with_reducible rfl
            (try dsimp only [Act.put]); (try simp only [List.setIfInBounds_toArray, List.set_cons_zero, List.set_cons_succ])
            refine Held.take (i := 7) (some 68) rfl (v := ?_) rfl (by kernel_rfl) (by kernel_rfl) (by kernel_rfl) (fun _ _ _ h => h) (Or.inl ⟨by rfl, ?_⟩) hS ?_
            rotate_left
            · intro w' hw'
              go_simp
              try with_reducible rfl
            (try dsimp only [Act.put]); (try simp only [List.setIfInBounds_toArray, List.set_cons_zero, List.set_cons_succ])
            refine Held.take (i := 8) (some 69) rfl (v := ?_) rfl (by kernel_rfl) (by kernel_rfl) (by kernel_rfl) (fun _ _ _ h => h) (Or.inl ⟨by rfl, ?_⟩) hS ?_
            rotate_left
            · intro w' hw'
              go_simp
              try with_reducible rfl
            (try dsimp only [Act.put]); (try simp only [List.setIfInBounds_toArray, List.set_cons_zero, List.set_cons_succ])
            refine wpAnyH_ready (rs := [9]) (by kernel_rfl) (by simp) (AllReadyH.cons rfl (fun K hK => ?_) AllReadyH.nil)
            go_simp
            refine (HM1.out _ hS).mono ?_
            rintro e w' ⟨rfl, rfl⟩
            go_simp
            refine hK.out _ _ hS (fun hS => ?_)
            clear hK K
            refine Held.take (i := 10) (some 71) rfl (v := .bool (decide (wd < mw))) rfl (by kernel_rfl) (by kernel_rfl) (by kernel_rfl) (fun _ _ _ h => h) (Or.inl ⟨by rfl, ?_⟩) hS ?_
            · intro w' hw'
              go_simp
              try with_reducible rfl
            (try dsimp only [Act.put]); (try simp only [List.setIfInBounds_toArray, List.set_cons_zero, List.set_cons_succ])
            refine Held.take (i := 11) (some 72) rfl (v := ?_) rfl (by kernel_rfl) (by kernel_rfl) (by kernel_rfl) (fun _ _ _ h => h) (Or.inl ⟨by rfl, ?_⟩) hS ?_
            rotate_left
            · intro w' hw'
              go_simp
              try with_reducible rfl
            (try dsimp only [Act.put]); (try simp only [List.setIfInBounds_toArray, List.set_cons_zero, List.set_cons_succ])
            refine wpAnyH_done (by kernel_rfl) ?_ _
            by_cases hw : wd < mw
            · have RR := Lib.hid (RN.out (15, 0) (by rw [RS3.out, if_pos ⟨NP.out, hw⟩]) (by simp))
              have HV := Lib.hid (HFB.out.step hS)
              clear RS3 RY RN hS
              go_upto_region 18 with fail
              clear hw
              have BF := Lib.hid HV.out.bel
              have K1 : Hid (v.heap[w.heap.size + 1]? = some (.cells Z 65 (0, 0))) := Lib.hid (HV.out.blk (w.heap.size + 1, Z, 65) (by simp))
              have K2 : Hid (v.heap[w.heap.size + 2]? = some (.cells #[I 0, I 0] 37 (0, 0))) := Lib.hid (HV.out.blk (w.heap.size + 2, #[I 0, I 0], 37) (by simp))
              have E0 := Lib.hid (Same.below_setRow BF.out (g := w.heap.size + 1) (by omega) Z)
              have E1 := Lib.hid (setRow_heap v (w.heap.size + 1) _ Z _ _ K1.out)
              have E2 : Hid ((v.setRow (w.heap.size + 1) Z).heap[w.heap.size + 2]? = some (.cells #[I 0, I 0] 37 (0, 0))) := Lib.hid ((setRow_other _ _ _ _ (by omega)).trans K2.out)
              have F0 := Lib.hid (Same.below_setRow E0.out (g := w.heap.size + 2) (by omega) #[I 15, I 0])
              have F2 := Lib.hid (setRow_heap (v.setRow (w.heap.size + 1) Z) (w.heap.size + 2) _ #[I 15, I 0] _ _ E2.out)
              have F1 : Hid (((v.setRow (w.heap.size + 1) Z).setRow (w.heap.size + 2) #[I 15, I 0]).heap[w.heap.size + 1]? = some (.cells Z 65 (0, 0))) := Lib.hid ((setRow_other _ _ _ _ (by omega)).trans E1.out)
              go_wp2_with (first | (refine wpList_build0 rfl 65 rfl Z BZ.out ?_) | (refine wpList_store_row rfl 65 _ _ rfl (w.heap.size + 1) Z rfl rfl 65 _ K1.out ZI.out rfl ZO.out ?_) | (refine wpList_store_row rfl 37 _ _ rfl (w.heap.size + 2) #[I 15, I 0] rfl rfl 37 _ E2.out infoF rfl (by simp [Value.oneCell']) ?_))
              generalize (v.setRow (w.heap.size + 1) Z).setRow (w.heap.size + 2) #[I 15, I 0] = v3 at F0 F1 F2 ⊢
              (try go_wp2_with fail)
              (try simp only [Exit.inBlock, Exit.then])
              refine bodyPost_ret (v := .tuple #[.agg Z, .agg #[I 15, I 0]]) ?_ rfl ⟨by rw [RR.out], F0.out⟩
              exact results_two rfl _ _ (w.heap.size + 1) (w.heap.size + 2) 65 37 Z #[I 15, I 0] _ _ rfl rfl F1.out F2.out Tryz.underlying65 rfl ZI.out Tryz.underlying37 rfl infoF
            · have RR := Lib.hid (RY.out (by rw [RS3.out, if_neg (fun e => hw e.2)]))
              clear RS3 RY RN
              have HV := Lib.hid (HFB.out.step hS)
              have HL : Hid (Lies v ⟨m2, 0, none⟩ bc) := Lib.hid (by have := bks_lies HV.out (x := (m2, bc.toArray, 65)) (by simp); simpa using this)
              clear hS
              go_upto_region 19 with fail
              clear hw
              have BF := Lib.hid HV.out.bel
              have K1 : Hid (v.heap[w.heap.size + 1]? = some (.cells Z 65 (0, 0))) := Lib.hid (HV.out.blk (w.heap.size + 1, Z, 65) (by simp))
              have K2 : Hid (v.heap[w.heap.size + 2]? = some (.cells #[I 0, I 0] 37 (0, 0))) := Lib.hid (HV.out.blk (w.heap.size + 2, #[I 0, I 0], 37) (by simp))
              have E0 := Lib.hid (Same.below_setRow BF.out (g := w.heap.size + 1) (by omega) bc.toArray)
              have E1 := Lib.hid (setRow_heap v (w.heap.size + 1) _ bc.toArray _ _ K1.out)
              have E2 : Hid ((v.setRow (w.heap.size + 1) bc.toArray).heap[w.heap.size + 2]? = some (.cells #[I 0, I 0] 37 (0, 0))) := Lib.hid ((setRow_other _ _ _ _ (by omega)).trans K2.out)
              have F0 := Lib.hid (Same.below_setRow E0.out (g := w.heap.size + 2) (by omega) #[I 0, I 0])
              have F2 := Lib.hid (setRow_heap (v.setRow (w.heap.size + 1) bc.toArray) (w.heap.size + 2) _ #[I 0, I 0] _ _ E2.out)
              have F1 : Hid (((v.setRow (w.heap.size + 1) bc.toArray).setRow (w.heap.size + 2) #[I 0, I 0]).heap[w.heap.size + 1]? = some (.cells bc.toArray 65 (0, 0))) := Lib.hid ((setRow_other _ _ _ _ (by omega)).trans E1.out)
              go_wp2_with (first | (refine Row.wpList_load_g 65 _ rfl (by first | rfl | go_simp) ⟨m2, 0, none⟩ rfl bc _ HL.out Tryz.underlying65 rfl BL.out ?_) | (refine wpList_store_row rfl 65 _ _ rfl (w.heap.size + 1) bc.toArray rfl rfl 65 _ K1.out (by rw [List.size_toArray]; exact BL.out) (by rw [Z12.out, List.size_toArray, BL12.out]) BO.out ?_) | (refine wpList_store_row rfl 37 _ _ rfl (w.heap.size + 2) #[I 0, I 0] rfl rfl 37 _ E2.out infoF rfl (by simp [Value.oneCell']) ?_))
              generalize (v.setRow (w.heap.size + 1) bc.toArray).setRow (w.heap.size + 2) #[I 0, I 0] = v3 at F0 F1 F2 ⊢
              (try go_wp2_with fail)
              (try simp only [Exit.inBlock, Exit.then])
              refine bodyPost_ret (v := .tuple #[.agg bc.toArray, .agg #[I 0, I 0]]) ?_ rfl ⟨by rw [RR.out], F0.out⟩
              exact results_two rfl _ _ (w.heap.size + 1) (w.heap.size + 2) 65 37 bc.toArray #[I 0, I 0] _ _ rfl rfl F1.out F2.out Tryz.underlying65 rfl (by rw [List.size_toArray]; exact BL.out) Tryz.underlying37 rfl infoF
end Go.Proofs.YtjolhoilcibdfaaGreat.BdR
