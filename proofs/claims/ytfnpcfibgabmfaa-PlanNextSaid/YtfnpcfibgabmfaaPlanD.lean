/- The contracts of the document's Next and Members. -/
import Derived.Test.YtfnpcfibgabmfaaRows
import Derived.Test.YtfnpcfibgabmfaaPlanM
import Derived.Test.YtfnpcfibgabmfaaSpots
import Derived.Test.YtfnpcfibgabmfaaOn
import Derived.Test.YtfnpcfibgabmfaaRow
import Derived.Test.YtfnpcfibgabmfaaWhere
namespace Go.Proofs.Ytfnpcfibgabmfaa.PlanD
open Go.ChangeShapes Go.WideShapes Go.ChangeAt Go.RowKit
open Tab PlaceM PlanM Gath
open RefS (rhas_any rof_any info3)
open May (infoT)
open Where (infoS)
set_option linter.unusedVariables false
set_option linter.unusedSimpArgs false
theorem ret_int {k : IntKind} {a b : Int} (h : a = b) : Ending.returned (.int k a) = .returned (.int k b) := by rw [h]
set_option maxRecDepth 100000 in
set_option maxHeartbeats 4000000 in
theorem rnext_any (T : Tab) (h : Hd) (g r a want : Int) (w : World) (ht : IsTab w h T) (sm : Few T) :
    Calls Try.prog 30 #[.agg (T.cells h).toArray, .int .i64 g, .int .i64 r, .int .i64 a, .int .i64 want] w fun e w' => e = .returned (.int .i64 (nextS T g r a want)) ∧ Below w.heap.size w w' := by
  have hsz := (cells_ok ht).size
  have IA : Hid ((Try.prog.info? 33).map (·.size) = some (T.cells h).length) := Lib.hid (by rw [List.size_toArray] at hsz; rw [hsz]; exact infoT)
  have SPC : Hid (∀ W, Below w.heap.size w W → Calls Try.prog 76 #[.agg (T.cells h).toArray] W fun e w' => ∃ s : Sl, e = .returned (s.val (spots T).length) ∧ RowOf 4 Spt.cells w' s (spots T) ∧ Below W.heap.size W w') := Lib.hid (fun W hb => Spots.spots_any T h W (ht.below hb) sm)
  have A0 : Hid (Below w.heap.size w (w.alloc (.cells (T.cells h).toArray 33))) := Lib.hid ((Below.refl _ _).alloc (Nat.le_refl _) _)
  have A1 : Hid (Lies (w.alloc (.cells (T.cells h).toArray 33)) ⟨w.heap.size, 0, none⟩ (T.cells h)) := Lib.hid (Row.lies_new w _ _)
  obtain ⟨res, hres⟩ : ∃ v, nextS T g r a want = v := ⟨_, rfl⟩
  have NS : Hid (nextO ((spots T).find? (nextC g r a want)) = res) := Lib.hid (by rw [next_spots, hres])
  rw [hres]
  clear ht sm hres
  generalize T.cells h = c at *
  go_enter Try.func30, Try.ntmps30
  go_upto_region 1 with fail
  generalize w.alloc (.cells c.toArray 33) = u at A0 A1 ⊢
  clear hsz
  go_wp2_with (refine Row.wpList_load_g 33 _ rfl (by first | rfl | go_simp) ⟨w.heap.size, 0, none⟩ rfl c _ A1.out Try.underlying33 rfl IA.out ?_)
  refine (SPC.out _ A0.out).mono ?_
  rintro e u1 ⟨⟨sa, scap⟩, rfl, hrow, hb⟩
  rw [show (Sl.val ⟨sa, scap⟩ (spots T).length) = .slice sa (spots T).length scap from rfl]
  have B0 : Hid (Below w.heap.size w u1) := Lib.hid (A0.out.trans (hb.mono A0.out.size))
  have HR := Lib.hid hrow
  have K := hrow.len
  unfold maxLen at K
  clear hrow hb A0 A1 SPC IA
  generalize spots T = S at HR K NS ⊢
  go_wp2_with fail
  go_loopw [12] (fun i wr => ∃ j : Nat, j ≤ S.length ∧ i = .int .i64 j ∧ (∀ x ∈ S.take j, nextC g r a want x = false) ∧ Below u1.heap.size u1 wr) (fun i _ => S.length - (intOf i).toNat)
  case atStart => exact ⟨0, by omega, rfl, (fun x hx => by simp at hx), Below.refl _ _⟩
  case round =>
    obtain ⟨j, hj, rfl, hall, hbel⟩ := hrel
    have HA := Lib.hid hall
    have HB := Lib.hid hbel
    clear hall hbel
    by_cases hlt : j < S.length
    · have hv := List.getElem?_eq_getElem hlt
      generalize S[j] = x at hv
      obtain ⟨y, hy, hc⟩ := (HR.out.below HB.out).at hv
      obtain rfl : sa = some y := hy
      have HV := Lib.hid hv
      have HC := Lib.hid hc
      clear hv hc
      have hwr := HB.out.size
      go_upto_region 6 with (first | (refine Row.wpList_load_g 53 _ rfl (by first | rfl | go_simp) (y.add (j * 4)) rfl x.cells _ HC.out Try.underlying53 rfl infoS ?_) | (refine Row.wpList_store_new rfl 53 _ _ rfl wr _ x.cells.toArray rfl rfl rfl infoS rfl (Spt.one _) ?_))
      have hbn : Below u1.heap.size u1 (wr.alloc (.cells x.cells.toArray 53)) := HB.out.alloc hwr _
      have hg := Row.lies_of_block (heap_alloc_new wr (.cells x.cells.toArray 53))
      have HL := Lib.hid hg
      have HB2 := Lib.hid hbn
      clear hg hbn HC HB
      generalize wr.alloc (.cells x.cells.toArray 53) = w4 at HL HB2 ⊢
      generalize wr.heap.size = b4 at HL ⊢
      have c0 : w4.cell? ⟨b4, 0, none⟩ = some (I x.g) := by have := HL.out 0 _ rfl; rwa [Tab.add_zero] at this
      have c1 : w4.cell? ⟨b4, 1, none⟩ = some (I x.k) := by have := HL.out 1 _ rfl; rwa [Addr.add_mid] at this
      have c2 : w4.cell? ⟨b4, 2, none⟩ = some (I x.i) := by have := HL.out 2 _ rfl; rwa [Addr.add_mid] at this
      have c3 : w4.cell? ⟨b4, 3, none⟩ = some (I x.p) := by have := HL.out 3 _ rfl; rwa [Addr.add_mid] at this
      have NC : Hid (nextC g r a want x = true ↔ (x.g : Int) = g ∧ (x.k : Int) = r ∧ a < (x.i : Int) ∧ SetM.has want x.p = true) := Lib.hid nextC_true
      clear HL
      by_cases e0 : (x.g : Int) = g
      rotate_left
      · have FC : Hid (nextC g r a want x = false) := Lib.hid (by rw [← Bool.not_eq_true, NC.out]; exact fun e => e0 e.1)
        have b0 : ((x.g : Int) == g) = false := by simpa using e0
        clear e0
        go_wp2
        go_roundw
        case rel => exact ⟨j + 1, by omega, by go_num, (fun z hz => by
          rw [PlaceM.take_succ HV.out] at hz
          rcases List.mem_append.1 hz with hz | hz
          · exact HA.out z hz
          · obtain rfl : z = x := by simpa using hz
            exact FC.out), HB2.out⟩
        case measure => simp [intOf]; omega
      have b0 : ((x.g : Int) == g) = true := by simpa using e0
      have E0 := Lib.hid e0
      clear e0
      by_cases e1 : (x.k : Int) = r
      rotate_left
      · have FC : Hid (nextC g r a want x = false) := Lib.hid (by rw [← Bool.not_eq_true, NC.out]; exact fun e => e1 e.2.1)
        have b1 : ((x.k : Int) == r) = false := by simpa using e1
        clear e1
        go_wp2
        go_roundw
        case rel => exact ⟨j + 1, by omega, by go_num, (fun z hz => by
          rw [PlaceM.take_succ HV.out] at hz
          rcases List.mem_append.1 hz with hz | hz
          · exact HA.out z hz
          · obtain rfl : z = x := by simpa using hz
            exact FC.out), HB2.out⟩
        case measure => simp [intOf]; omega
      have b1 : ((x.k : Int) == r) = true := by simpa using e1
      have E1 := Lib.hid e1
      clear e1
      by_cases e2 : a < (x.i : Int)
      rotate_left
      · have FC : Hid (nextC g r a want x = false) := Lib.hid (by rw [← Bool.not_eq_true, NC.out]; exact fun e => e2 e.2.2.1)
        go_wp2
        go_roundw
        case rel => exact ⟨j + 1, by omega, by go_num, (fun z hz => by
          rw [PlaceM.take_succ HV.out] at hz
          rcases List.mem_append.1 hz with hz | hz
          · exact HA.out z hz
          · obtain rfl : z = x := by simpa using hz
            exact FC.out), HB2.out⟩
        case measure => simp [intOf]; omega
      have E2 := Lib.hid e2
      cases hh : SetM.has want x.p with
      | false =>
        have FC : Hid (nextC g r a want x = false) := Lib.hid (by rw [← Bool.not_eq_true, NC.out, hh]; simp)
        go_wp2_with fail
        refine (rhas_any want x.p _).mono ?_
        rintro e w' ⟨rfl, rfl⟩
        rw [hh]
        go_wp2
        go_roundw
        case rel => exact ⟨j + 1, by omega, by go_num, (fun z hz => by
          rw [PlaceM.take_succ HV.out] at hz
          rcases List.mem_append.1 hz with hz | hz
          · exact HA.out z hz
          · obtain rfl : z = x := by simpa using hz
            exact FC.out), HB2.out⟩
        case measure => simp [intOf]; omega
      | true =>
        have HF : Hid ((x.i : Int) = res) := Lib.hid (by
          rw [← NS.out]
          have hc := NC.out.2 ⟨E0.out, E1.out, E2.out, hh⟩
          have : S.find? (nextC g r a want) = some x := by
            have e : S = S.take j ++ x :: S.drop (j + 1) := by
              have h2 : S.drop j = x :: S.drop (j + 1) := by
                rw [List.drop_eq_getElem_cons hlt]; congr 1; exact (List.getElem?_eq_some_iff.1 HV.out).2
              rw [← h2, List.take_append_drop]
            rw [e, List.find?_append, find_miss HA.out]
            simp [hc]
          rw [this]; rfl)
        go_wp2_with fail
        refine (rhas_any want x.p _).mono ?_
        rintro e w' ⟨rfl, rfl⟩
        rw [hh]
        go_wp2
        go_ret
        exact ⟨ret_int HF.out, B0.out.trans (HB2.out.mono B0.out.size)⟩
    · have HF : Hid (-1 = res) := Lib.hid (by
        rw [← NS.out]
        have := HA.out
        rw [List.take_of_length_le (by omega)] at this
        rw [find_miss this]; rfl)
      go_wp2
      go_ret
      exact ⟨ret_int HF.out, B0.out.trans (HB.out.mono B0.out.size)⟩
abbrev OwnsI (B : Nat) (w : World) (v : Value) (l : List Int) : Prop := Owns (fun n => [I n]) 1 B w 3 v l
def inG (g : Int) (l : List Spt) : List Int := (l.filter fun x => decide ((x.g : Int) = g)).map Spt.p
theorem inG_step {g : Int} {l : List Spt} {j : Nat} {x : Spt} (h : l[j]? = some x) : inG g (l.take (j + 1)) = inG g (l.take j) ++ (if (x.g : Int) = g then [x.p] else []) := by
  unfold inG
  rw [PlaceM.take_succ h, List.filter_append, List.map_append]
  congr 1
  by_cases e : (x.g : Int) = g
  · simp [e]
  · simp [e]
theorem inG_len (g : Int) (l : List Spt) : (inG g l).length ≤ l.length := by
  unfold inG
  rw [List.length_map]
  exact List.length_filter_le _ _
set_option maxRecDepth 100000 in
set_option maxHeartbeats 4000000 in
theorem rmembers_any (T : Tab) (h : Hd) (g : Int) (w : World) (ht : IsTab w h T) (sm : Few T) :
    Calls Try.prog 26 #[.agg (T.cells h).toArray, .int .i64 g] w fun e w' => e = .returned (.int .i64 (membS T g : Nat)) ∧ Below w.heap.size w w' := by
  have hsz := (cells_ok ht).size
  have IA : Hid ((Try.prog.info? 33).map (·.size) = some (T.cells h).length) := Lib.hid (by rw [List.size_toArray] at hsz; rw [hsz]; exact infoT)
  have SPC : Hid (∀ W, Below w.heap.size w W → Calls Try.prog 76 #[.agg (T.cells h).toArray] W fun e w' => ∃ s : Sl, e = .returned (s.val (spots T).length) ∧ RowOf 4 Spt.cells w' s (spots T) ∧ Below W.heap.size W w') := Lib.hid (fun W hb => Spots.spots_any T h W (ht.below hb) sm)
  have A0 : Hid (Below w.heap.size w (w.alloc (.cells (T.cells h).toArray 33))) := Lib.hid ((Below.refl _ _).alloc (Nat.le_refl _) _)
  have A1 : Hid (Lies (w.alloc (.cells (T.cells h).toArray 33)) ⟨w.heap.size, 0, none⟩ (T.cells h)) := Lib.hid (Row.lies_new w _ _)
  have SL : Hid ((spots T).length ≤ 2000000) := Lib.hid (small_len sm.groups sm.rows)
  obtain ⟨res, hres⟩ : ∃ v, membS T g = v := ⟨_, rfl⟩
  have NS : Hid (SetM.of (inG g (spots T)) = res) := Lib.hid (by rw [← hres]; exact memb_spots T g)
  rw [hres]
  obtain ⟨i0, hi, hz0, hz1, hz2⟩ := info_parts info3
  clear ht sm hres
  generalize T.cells h = c at *
  go_enter Try.func26, Try.ntmps26
  go_upto_region 1 with fail
  generalize w.alloc (.cells c.toArray 33) = u at A0 A1 ⊢
  clear hsz
  go_wp2_with (refine Row.wpList_load_g 33 _ rfl (by first | rfl | go_simp) ⟨w.heap.size, 0, none⟩ rfl c _ A1.out Try.underlying33 rfl IA.out ?_)
  refine (SPC.out _ A0.out).mono ?_
  rintro e u1 ⟨⟨sa, scap⟩, rfl, hrow, hb⟩
  rw [show (Sl.val ⟨sa, scap⟩ (spots T).length) = .slice sa (spots T).length scap from rfl]
  have B0 : Hid (Below w.heap.size w u1) := Lib.hid (A0.out.trans (hb.mono A0.out.size))
  have HR := Lib.hid hrow
  have K := hrow.len
  unfold maxLen at K
  clear hrow hb A0 A1 SPC IA
  generalize spots T = S at HR K NS SL ⊢
  go_wp2_with fail
  go_loopw [5, 11] (fun v i wr => ∃ j : Nat, j ≤ S.length ∧ i = .int .i64 j ∧ OwnsI u1.heap.size wr v (inG g (S.take j)) ∧ Below u1.heap.size u1 wr) (fun _ i _ => S.length - (intOf i).toNat)
  case atStart => exact ⟨0, by omega, rfl, Owns.nil, Below.refl _ _⟩
  case round =>
    obtain ⟨j, hj, rfl, hown, hbel⟩ := hrel
    have HO := Lib.hid hown
    have HB := Lib.hid hbel
    clear hown hbel
    by_cases hlt : j < S.length
    · have hv := List.getElem?_eq_getElem hlt
      generalize S[j] = x at hv
      obtain ⟨y, hy, hc⟩ := (HR.out.below HB.out).at hv
      obtain rfl : sa = some y := hy
      have HS := Lib.hid (inG_step (g := g) hv)
      have HC := Lib.hid hc
      have hlen : (inG g (S.take j)).length ≤ 2000000 := by have := inG_len g (S.take j); rw [List.length_take] at this; have := SL.out; omega
      clear hv hc
      have hwr := HB.out.size
      go_upto_region 5 with (first | (refine Row.wpList_load_g 53 _ rfl (by first | rfl | go_simp) (y.add (j * 4)) rfl x.cells _ HC.out Try.underlying53 rfl infoS ?_) | (refine Row.wpList_store_new rfl 53 _ _ rfl wr _ x.cells.toArray rfl rfl rfl infoS rfl (Spt.one _) ?_))
      have hbn : Below u1.heap.size u1 (wr.alloc (.cells x.cells.toArray 53)) := HB.out.alloc hwr _
      have hbo : Below wr.heap.size wr (wr.alloc (.cells x.cells.toArray 53)) := (Below.refl _ _).alloc (Nat.le_refl _) _
      have hg := Row.lies_of_block (heap_alloc_new wr (.cells x.cells.toArray 53))
      have HL := Lib.hid hg
      have HB2 := Lib.hid hbn
      have HO2 := Lib.hid (HO.out.below hbo)
      clear hg hbn hbo HC HB HO
      generalize wr.alloc (.cells x.cells.toArray 53) = w4 at HL HB2 HO2 ⊢
      generalize wr.heap.size = b4 at HL ⊢
      have c0 : w4.cell? ⟨b4, 0, none⟩ = some (I x.g) := by have := HL.out 0 _ rfl; rwa [Tab.add_zero] at this
      have c3 : w4.cell? ⟨b4, 3, none⟩ = some (I x.p) := by have := HL.out 3 _ rfl; rwa [Addr.add_mid] at this
      have hsz := HB2.out.size
      clear HL
      generalize inG g (S.take j) = P1 at HO2 HS hlen
      by_cases e0 : (x.g : Int) = g
      · have b0 : ((x.g : Int) == g) = true := by simpa using e0
        have HS2 : Hid (inG g (S.take (j + 1)) = P1 ++ [x.p]) := Lib.hid (by rw [HS.out, if_pos e0])
        have hown2 : w4.ownsRow u1.heap.size 3 1 u5 P1.length (P1.flatMap (fun n => [I n])) := HO2.out
        clear e0 HO2
        generalize x.p = p at *
        go_wp2_with (at_builtin; refine wpList_append_own _ rfl _ _ 22 rfl u1.heap.size 3 i0 (.int .i64 0) 1 8 Try.underlying22 hi hz0 hz1 hz2 rfl (by decide) _ _ _ rfl (hown2.alloc _) ⟨w4.heap.size, 0, none⟩ 1 1 [.int .i64 p] rfl rfl ?c1 ?c2 ?c3 ?c4 ?c5 ?_)
        case c1 =>
          intro m q hm
          match m, hm with
          | 0, hm => simp at hm; subst hm; simp [Addr.add]
        case c2 => intro q hq; simp at hq; subst hq; rfl
        case c3 => unfold maxLen; omega
        case c4 => omega
        case c5 => simp; omega
        intro v' w2 hown' hgrow hnil'
        have HB3 : Hid (Below u1.heap.size u1 w2) := Lib.hid ((HB2.out.alloc hsz _).grown hgrow (by simp; omega) fun m hm => (show OwnsI u1.heap.size w4 u5 P1 from hown2).blk m hm)
        have HO3 : Hid (OwnsI u1.heap.size w2 v' (P1 ++ [p])) := Lib.hid (Owns.snoc hown')
        clear hown' hgrow hown2 hnil'
        go_wp2
        go_roundw
        case rel => exact ⟨j + 1, by omega, by go_num, by rw [HS2.out]; exact HO3.out, HB3.out⟩
        case measure => simp [intOf]; omega
      · have b0 : ((x.g : Int) == g) = false := by simpa using e0
        have HS2 : Hid (inG g (S.take (j + 1)) = P1) := Lib.hid (by rw [HS.out, if_neg e0, List.append_nil])
        clear e0
        go_wp2
        go_roundw
        case rel => exact ⟨j + 1, by omega, by go_num, by rw [HS2.out]; exact HO2.out, HB2.out⟩
        case measure => simp [intOf]; omega
    · have HE : Hid (inG g (S.take j) = inG g S) := Lib.hid (by rw [List.take_of_length_le (by omega)])
      obtain ⟨⟨sa', sc⟩, hs, hrow⟩ := HO.out.row (enc := fun n => [I n]) (fun _ => rfl)
      rw [HE.out] at hs hrow
      have HR2 := Lib.hid (OnS.row_of_int hrow)
      have HF : Hid (Below w.heap.size w wr) := Lib.hid (B0.out.trans (HB.out.mono B0.out.size))
      clear hrow HE
      subst hs
      generalize inG g S = P2 at NS HR2 ⊢
      show Code.wp _ _ _ _ _
      rw [show (Sl.val ⟨sa', sc⟩ P2.length) = .slice sa' P2.length sc from rfl]
      go_wp2_with fail
      refine (rof_any sa' sc P2 _ HR2.out).mono ?_
      rintro e w' ⟨rfl, rfl⟩
      rw [NS.out]
      go_wp2
      go_ret
      exact ⟨rfl, HF.out⟩
end Go.Proofs.Ytfnpcfibgabmfaa.PlanD
