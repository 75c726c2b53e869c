/- 6 texts in one file, in build order. -/
import Derived.Test.YtfnpcfibgabmfaaRows
import Derived.Test.YtfnpcfibgabmfaaPart09
import Derived.Test.YtfnpcfibgabmfaaPart07
import Derived.Test.YtfnpcfibgabmfaaPart02
import Derived.Deep.Cut
import Derived.WalkMore
import Derived.Test.YtfnpcfibgabmfaaPart01
import Derived.Great.BuildSlice
import Derived.Test.YtfnpcfibgabmfaaPart03
import Derived.Test.YtfnpcfibgabmfaaPart04
import Derived.Laws.ResultCell
import Derived.Laws.Rows
import Derived.Test.YtfnpcfibgabmfaaPart06
set_option linter.unusedVariables false
set_option linter.unusedSimpArgs false
set_option linter.unusedSectionVars false
/- The contracts of plan.Where and plan.Beside: what the document's own find. -/
namespace Go.Proofs.Ytfnpcfibgabmfaa.PlanW
open Go.ChangeShapes Go.WideShapes Go.ChangeAt Go.RowKit
open Tab PlaceM PlanM
open May (ret_bool chain infoP infoG St)
open SetP (of_any has_any)
set_option linter.unusedVariables false
set_option linter.unusedSimpArgs false
theorem info2 : (Try.prog.info? 42).map (·.size) = some 2 := by kernel_rfl
theorem infoT : (Try.prog.info? 33).map (·.size) = some 131 := by kernel_rfl
theorem row_one (w : World) (p : Int) (t : TypeId) (b : Nat) (hb : w.heap.size = b) : RefS.Row (w.alloc (.cells #[.int .i64 p] t)) (some ⟨b, 0, none⟩) [p] := by
  subst hb
  refine ⟨by simp [maxLen], .inr ⟨_, rfl, fun i hi => ?_⟩⟩
  obtain rfl : i = 0 := by simpa using hi
  rw [RefS.add_zero, cell_of_row _ _ _ _ _ _ (heap_alloc_new w _)]
  rfl
theorem idx0 (v0 v1 : Value) (w : World) : Sem.run Try.prog (Instr.index 42 (.agg #[v0, v1]) (.int .i64 0)) w = .ok v0 w := by kernel_rfl
theorem idx1 (v0 v1 : Value) (w : World) : Sem.run Try.prog (Instr.index 42 (.agg #[v0, v1]) (.int .i64 1)) w = .ok v1 w := by kernel_rfl
theorem has_one (p q : Int) : SetM.has ((SetM.of [p] : Nat) : Int) q = (decide (0 ≤ p ∧ p < 8) && decide (q = p)) := by
  unfold SetM.has
  rw [SetM.low_nat _ (SetM.of_lt _), SetM.of_test]
  by_cases h0 : 0 ≤ q
  · obtain ⟨k, rfl⟩ := Int.eq_ofNat_of_zero_le h0
    simp only [Int.toNat_natCast, List.mem_singleton, h0, decide_true, Bool.true_and]
    rw [Bool.eq_iff_iff]
    simp only [Bool.and_eq_true, decide_eq_true_eq]
    omega
  · rw [decide_eq_false h0, Bool.false_and]
    symm
    rw [Bool.and_eq_false_iff, decide_eq_false_iff_not, decide_eq_false_iff_not]
    omega
theorem results_tmp4 {P : Program} {fn : Func} {t u v x : Tmp} (h : fn.results = #[.tmp t, .tmp u, .tmp v, .tmp x]) (tmps : Array Value) (w : World) :
    (results fn tmps).run P w = .ok (.tuple #[tmps.getD t undef, tmps.getD u undef, tmps.getD v undef, tmps.getD x undef]) w := by
  simp [results, h]
def wG : Option Spt → Int | some x => x.g | none => 0
def wK : Option Spt → Int | some x => x.k | none => 0
def wI : Option Spt → Int | some x => x.i | none => 0
/-- Nothing that is looked for before a place. -/
theorem where_none {T : Tab} {p : Int} (h : ∀ x ∈ spots T, x.p ≠ p) : where_ T p = none := find_none h
theorem where_some {T : Tab} {p : Int} {x : Spt} (hx : x ∈ spots T) (hp : x.p = p) (hn : ∀ y ∈ spots T, Lt y x → y.p ≠ p) : where_ T p = some x := by
  unfold where_ find
  exact find_hit (spots_sorted T) hx (by simpa using hp) (fun y hy hl => by simpa using hn y hy hl)
def Tup (o : Option Spt) : Value := .tuple #[I (wG o), I (wK o), I (wI o), .bool o.isSome]
set_option maxRecDepth 100000 in
set_option maxHeartbeats 4000000 in
theorem pwhere_any (T : Tab) (h : Hd) (p : Int) (w : World) (ht : IsTab w h T) :
    Calls Try.prog 21 #[.agg (T.cells h).toArray, .int .i64 p] w fun e w' => e = .returned (.tuple #[I (wG (where_ T p)), I (wK (where_ T p)), I (wI (where_ T p)), .bool (where_ T p).isSome]) ∧ Below w.heap.size w w' := by
  obtain ⟨⟨ga, gcap⟩, sd, sr, sb⟩ := h
  have C := Lib.hid (cells_ok ht)
  generalize (T.cells ⟨⟨ga, gcap⟩, sd, sr, sb⟩).toArray = cs at C ⊢
  obtain ⟨gs, hgd, hgr⟩ := ht.groups
  have Hgr := Lib.hid hgr
  have Hgd := Lib.hid hgd
  have hsz := C.out.size
  have S0 := Lib.hid (St.box (cs := cs) ht)
  have Hgl := Lib.hid (show T.groups.length = gs.length by rw [← hgd, List.length_map])
  have Kg := hgr.1.len
  unfold maxLen at Kg
  have HS : Hid (∀ q, SetM.has ((SetM.of [p] : Nat) : Int) q = (decide (0 ≤ p ∧ p < 8) && decide (q = p))) := Lib.hid (has_one p)
  have WN : Hid ((∀ x ∈ spots T, x.p ≠ p) → where_ T p = none) := Lib.hid where_none
  have WS : Hid (∀ x, x ∈ spots T → x.p = p → (∀ y ∈ spots T, Lt y x → y.p ≠ p) → where_ T p = some x) := Lib.hid (fun x => where_some)
  generalize where_ T p = o at WN WS ⊢
  clear ht hgr hgd
  go_enter Try.func21, Try.ntmps21
  go_upto_region 1 with fail
  generalize w.alloc (.cells cs 33) = w1 at S0 ⊢
  clear hsz
  go_step3
  go_wp2_with fail
  have hb1 : Below w1.heap.size w1 (w1.alloc (.cells #[.int .i64 p] 3)) := (Below.refl _ _).alloc (Nat.le_refl _) _
  have hr := row_one w1 p 3 _ rfl
  have S2 := Lib.hid (S0.out.step hb1)
  have HR := Lib.hid hr
  clear hb1 hr S0
  generalize w1.alloc (.cells #[.int .i64 p] 3) = w2 at S2 HR ⊢
  refine (of_any _ _ [p] _ HR.out).mono ?_
  rintro e w' ⟨rfl, rfl⟩
  generalize ((SetM.of [p] : Nat) : Int) = s0 at HS ⊢
  clear HR
  have q104 := S2.out.cell C.out.g
  rw [Hgl.out] at q104
  have Q104 : Hid (w2.cell? ⟨w.heap.size, 104, none⟩ = some (.slice ga gs.length gcap)) := Lib.hid q104
  clear q104
  have q104 := Q104.out
  have LIFT : Hid (∀ W, Below w2.heap.size w2 W → ∀ (z : Addr) (c : Value), w2.cell? z = some c → W.cell? z = some c) := Lib.hid (fun W hb z c hc => (hb.cell (World.block_lt_of_cell? w2 _ hc)).trans hc)
  go_wp2_with fail
  go_step3
  go_wp2_with fail
  clear q104
  go_loopw [4, 5, 6, 7, 21] (fun a b c d g wr => ∃ q : Nat, q ≤ gs.length ∧ a = .int .i64 0 ∧ b = .int .i64 0 ∧ c = .int .i64 0 ∧ d = .bool false ∧ g = .int .i64 q ∧ (∀ x ∈ spots T, x.g < q → x.p ≠ p) ∧ Below w2.heap.size w2 wr) (fun _ _ _ _ g _ => gs.length - (intOf g).toNat)
  case atStart => exact ⟨0, by omega, rfl, rfl, rfl, rfl, rfl, (fun x _ h => by omega), Below.refl _ _⟩
  case round =>
    obtain ⟨q, hq, rfl, rfl, rfl, rfl, rfl, hall, hbel⟩ := hrel
    have HA := Lib.hid hall
    have HB := Lib.hid hbel
    clear hall hbel
    by_cases hlt : q < gs.length
    · have hv := List.getElem?_eq_getElem hlt
      generalize gs[q] = u at hv
      obtain ⟨x, hx, hc⟩ := (Hgr.out.1.below (S2.out.bel.trans (HB.out.mono S2.out.bel.size))).at hv
      have hok := (Hgr.out.2 u (List.mem_of_getElem? hv)).below (S2.out.bel.trans (HB.out.mono S2.out.bel.size))
      have HD : Hid (T.groups[q]? = some u.data) := Lib.hid (by rw [← Hgd.out, List.getElem?_map, hv]; rfl)
      obtain rfl : ga = some x := hx
      obtain ⟨l0, l1, ⟨a0, cap0⟩, ⟨a1, cap1⟩⟩ := u
      have HC : Hid (Lies wr (x.add (q * 2)) [.slice a0 l0.length cap0, .slice a1 l1.length cap1]) := Lib.hid hc
      have HO := Lib.hid hok
      clear hv hc hok
      have hwr := HB.out.size
      go_upto_region 5 with (first | (refine Row.wpList_load_g 42 _ rfl (by first | rfl | go_simp) (x.add (q * 2)) rfl [.slice a0 l0.length cap0, .slice a1 l1.length cap1] _ HC.out Try.underlying42 rfl info2 ?_) | (refine Row.wpList_store_new rfl 42 _ _ rfl wr #[.slice none 0 0, .slice none 0 0] #[.slice a0 l0.length cap0, .slice a1 l1.length cap1] rfl rfl rfl info2 rfl (by simp [Value.oneCell']) ?_))
      have hbn : Below w2.heap.size w2 (wr.alloc (.cells #[.slice a0 l0.length cap0, .slice a1 l1.length cap1] 42)) := HB.out.alloc hwr _
      have hbo : Below wr.heap.size wr (wr.alloc (.cells #[.slice a0 l0.length cap0, .slice a1 l1.length cap1] 42)) := (Below.refl _ _).alloc (Nat.le_refl _) _
      have hg := Row.lies_of_block (heap_alloc_new wr (.cells #[.slice a0 l0.length cap0, .slice a1 l1.length cap1] 42))
      have HL := Lib.hid hg
      have HO2 := Lib.hid (HO.out.below hbo)
      have HN := Lib.hid hbn
      clear hg hbn hbo HC HO
      generalize wr.alloc (.cells #[.slice a0 l0.length cap0, .slice a1 l1.length cap1] 42) = w4 at HL HO2 HN ⊢
      generalize wr.heap.size = b4 at HL ⊢
      go_wp2_with (first | (refine Row.wpList_load_g 42 _ rfl (by first | rfl | go_simp) ⟨b4, 0, none⟩ rfl [.slice a0 l0.length cap0, .slice a1 l1.length cap1] _ HL.out Try.underlying42 rfl info2 ?_))
      go_loopw [4, 5, 6, 7, 27] (fun a b c d k wk => ∃ r : Nat, r ≤ 2 ∧ a = .int .i64 0 ∧ b = .int .i64 0 ∧ c = .int .i64 0 ∧ d = .bool false ∧ k = .int .i64 r ∧ (∀ x ∈ spots T, x.g = q → x.k < r → x.p ≠ p) ∧ wk = w4) (fun _ _ _ _ k _ => 2 - (intOf k).toNat)
      case atStart => exact ⟨0, by omega, rfl, rfl, rfl, rfl, rfl, (fun x _ _ h => by omega), rfl⟩
      case round =>
        obtain ⟨r, hr, rfl, rfl, rfl, rfl, rfl, hall, rfl⟩ := hrel
        have HA2 := Lib.hid hall
        clear hall
        by_cases hr2 : r < 2
        · obtain ⟨l, a, cap, hidx, hrow, hring⟩ : ∃ (l : List Int) (a : Option Addr) (cap : Nat), (∀ W, Sem.run Try.prog (Instr.index 42 (.agg #[.slice a0 l0.length cap0, .slice a1 l1.length cap1]) (.int .i64 r)) W = .ok (.slice a l.length cap) W) ∧ IntRow wr ⟨a, cap⟩ l ∧ ringOf (l0, l1) r = l := by
            have : r = 0 ∨ r = 1 := by omega
            rcases this with rfl | rfl
            · exact ⟨l0, a0, cap0, fun W => idx0 _ _ W, HO2.out.1, rfl⟩
            · exact ⟨l1, a1, cap1, fun W => idx1 _ _ W, HO2.out.2, rfl⟩
          have HROW := Lib.hid hrow
          have HRING := Lib.hid hring
          have K := hrow.len
          unfold maxLen at K
          clear hrow hring
          go_wp2_with fail
          clear hidx
          go_loopw [4, 5, 6, 7, 33] (fun a0' b c d k wk => ∃ j : Nat, j ≤ l.length ∧ a0' = .int .i64 0 ∧ b = .int .i64 0 ∧ c = .int .i64 0 ∧ d = .bool false ∧ k = .int .i64 j ∧ (∀ i, i < j → SetM.has s0 (l.getD i 0) = false) ∧ wk = wr) (fun _ _ _ _ k _ => l.length - (intOf k).toNat)
          case atStart => exact ⟨0, by omega, rfl, rfl, rfl, rfl, rfl, (fun i h => by omega), rfl⟩
          case round =>
            obtain ⟨j, hj, rfl, rfl, rfl, rfl, rfl, hall, rfl⟩ := hrel
            have HA3 := Lib.hid hall
            clear hall
            by_cases hjl : j < l.length
            · have hv := List.getElem?_eq_getElem hjl
              generalize hz : l[j] = z at hv
              obtain ⟨y, hy, hp⟩ := IntRow.at HROW.out hv
              obtain rfl : a = some y := hy
              have HV := Lib.hid hv
              have hgd : l.getD j 0 = z := by rw [List.getD_eq_getElem?_getD, hv]; rfl
              have HGD := Lib.hid hgd
              clear hv hz hgd
              cases hh : SetM.has s0 z with
              | true =>
                have HF : Hid (o = some ⟨q, r, j, p⟩) := Lib.hid (by
                  have h1 := HS.out z
                  rw [hh] at h1
                  simp only [Eq.comm (a := true), Bool.and_eq_true, decide_eq_true_eq] at h1
                  obtain ⟨⟨p0, p8⟩, rfl⟩ := h1
                  refine WS.out _ (mem_spots.2 ⟨(l0, l1), HD.out, by rw [HRING.out]; exact HV.out, p0, p8⟩) rfl fun y hy hl => ?_
                  unfold Lt at hl
                  simp only at hl
                  rcases hl with hl | ⟨hl, hl2 | ⟨hl2, hl3⟩⟩
                  · exact HA.out y hy hl
                  · exact HA2.out y hy hl hl2
                  · intro e
                    obtain ⟨z, h2, h3, _⟩ := mem_spots.1 hy
                    rw [hl, HD.out] at h2
                    obtain rfl := Option.some.inj h2
                    have h4 : l[y.i]? = some y.p := by have := h3; rw [hl2] at this; rw [← HRING.out]; exact this
                    have h5 := HA3.out y.i hl3
                    rw [List.getD_eq_getElem?_getD, h4] at h5
                    have h6 := HS.out y.p
                    rw [show SetM.has s0 y.p = false from h5, e] at h6
                    simp [p0, p8] at h6)
                go_wp2_with (go_at_call 75; refine (has_any _ _ _).mono ?_; rintro e w' ⟨rfl, rfl⟩; rw [hh])
                (try rw [Exit.noGoto_ret])
                (try simp only [Exit.inBlock, Exit.then])
                refine bodyPost_ret (v := .tuple #[I q, I r, I j, .bool true]) ?_ rfl ⟨?_, ?_⟩
                · exact results_tmp4 (fn := Try.f21) (t := 4) (u := 5) (v := 6) (x := 7) rfl _ _
                · rw [HF.out]; rfl
                · exact S2.out.bel.trans (HN.out.mono S2.out.bel.size)
              | false =>
                go_wp2_with (go_at_call 75; refine (has_any _ _ _).mono ?_; rintro e w' ⟨rfl, rfl⟩; rw [hh])
                go_roundw
                case rel => exact ⟨j + 1, by omega, rfl, rfl, rfl, rfl, by go_num, (fun i hi => by
                  by_cases e : i = j
                  · subst e; rw [HGD.out]; exact hh
                  · exact HA3.out i (by omega)), trivial⟩
                case measure => simp [intOf]; omega
            · have HN : Hid (∀ x ∈ spots T, x.g = q → x.k < r + 1 → x.p ≠ p) := Lib.hid (fun y hy h1 h2 e => by
                by_cases h3 : y.k < r
                · exact HA2.out y hy h1 h3 e
                · obtain ⟨z, h4, h5, h6, h7⟩ := mem_spots.1 hy
                  rw [h1, HD.out] at h4
                  obtain rfl := Option.some.inj h4
                  have hk : y.k = r := by omega
                  have h8 : l[y.i]? = some y.p := by rw [hk] at h5; rw [← HRING.out]; exact h5
                  have h9 := HA3.out y.i (by have := (List.getElem?_eq_some_iff.1 h8).1; omega)
                  rw [List.getD_eq_getElem?_getD, h8] at h9
                  have h10 := HS.out y.p
                  rw [show SetM.has s0 y.p = false from h9, e] at h10
                  rw [e] at h6 h7
                  simp [h6, h7] at h10)
              go_wp2
              go_roundw
              case rel => exact ⟨r + 1, by omega, rfl, rfl, rfl, rfl, by go_num, HN.out, trivial⟩
              case measure => simp [intOf]; omega
        · have HN3 : Hid (∀ x ∈ spots T, x.g < q + 1 → x.p ≠ p) := Lib.hid (fun y hy h1 e => by
            by_cases h3 : y.g < q
            · exact HA.out y hy h3 e
            · obtain ⟨z, h4, h5, _⟩ := mem_spots.1 hy
              refine HA2.out y hy (by omega) ?_ e
              unfold ringOf at h5
              by_cases h6 : y.k = 0
              · omega
              · by_cases h7 : y.k = 1
                · omega
                · rw [if_neg h6, if_neg h7] at h5; simp at h5)
          go_wp2
          go_roundw
          case rel => exact ⟨q + 1, by omega, rfl, rfl, rfl, rfl, by go_num, HN3.out, HN.out⟩
          case measure => simp [intOf]; omega
    · have HF : Hid (o = none) := Lib.hid (WN.out (fun y hy => by
        refine HA.out y hy ?_
        obtain ⟨z, h4, _⟩ := mem_spots.1 hy
        have := (List.getElem?_eq_some_iff.1 h4).1
        rw [Hgl.out] at this
        omega))
      go_wp2
      (try rw [Exit.noGoto_ret])
      (try simp only [Exit.inBlock, Exit.then])
      refine bodyPost_ret (v := .tuple #[I 0, I 0, I 0, .bool false]) ?_ rfl ⟨?_, ?_⟩
      · exact results_tmp4 (fn := Try.f21) (t := 4) (u := 5) (v := 6) (x := 7) rfl _ _
      · rw [HF.out]; rfl
      · exact S2.out.bel.trans (HB.out.mono S2.out.bel.size)
set_option maxRecDepth 100000 in
set_option maxHeartbeats 4000000 in
theorem pbeside_raw (c : List Value) (p q g1 k1 i1 g2 k2 i2 : Int) (ok1 ok2 : Bool) (w : World) (hc : c.length = 131)
    (V1 : Hid (∀ W, Below w.heap.size w W → Calls Try.prog 21 #[.agg c.toArray, .int .i64 p] W fun e w' => e = .returned (.tuple #[I g1, I k1, I i1, .bool ok1]) ∧ Below W.heap.size W w'))
    (V2 : Hid (∀ W, Below w.heap.size w W → Calls Try.prog 21 #[.agg c.toArray, .int .i64 q] W fun e w' => e = .returned (.tuple #[I g2, I k2, I i2, .bool ok2]) ∧ Below W.heap.size W w')) :
    Calls Try.prog 23 #[.agg c.toArray, .int .i64 p, .int .i64 q] w fun e w' => e = .returned (.bool (ok1 && ok2 && g1 == g2 && k1 != k2)) ∧ Below w.heap.size w w' := by
  have hsz : c.toArray.size = 131 := by simpa using hc
  have IA : Hid ((Try.prog.info? 33).map (·.size) = some c.length) := Lib.hid (by rw [hc]; exact infoT)
  have A0 : Hid (Below w.heap.size w (w.alloc (.cells c.toArray 33))) := Lib.hid ((Below.refl _ _).alloc (Nat.le_refl _) _)
  have A1 : Hid (Lies (w.alloc (.cells c.toArray 33)) ⟨w.heap.size, 0, none⟩ c) := Lib.hid (Row.lies_new w _ _)
  generalize hr : (ok1 && ok2 && g1 == g2 && k1 != k2) = r
  have HR := Lib.hid hr
  clear hr hc
  go_enter Try.func23, Try.ntmps23
  go_upto_region 1 with fail
  generalize w.alloc (.cells c.toArray 33) = u at A0 A1 ⊢
  clear hsz
  go_wp2_with (refine Row.wpList_load_g 33 _ rfl (by first | rfl | go_simp) ⟨w.heap.size, 0, none⟩ rfl c _ A1.out Try.underlying33 rfl IA.out ?_)
  refine (V1.out _ A0.out).mono ?_
  rintro e u1 ⟨rfl, hb⟩
  have B0 : Hid (Below w.heap.size w u1) := Lib.hid (A0.out.trans (hb.mono A0.out.size))
  have B1 := Lib.hid (A1.out.below hb)
  clear hb A0 A1 V1
  go_wp2_with (refine Row.wpList_load_g 33 _ rfl (by first | rfl | go_simp) ⟨w.heap.size, 0, none⟩ rfl c _ B1.out Try.underlying33 rfl IA.out ?_)
  refine (V2.out _ B0.out).mono ?_
  rintro e u3 ⟨rfl, hb⟩
  have HF : Hid (Below w.heap.size w u3) := Lib.hid (B0.out.trans (hb.mono B0.out.size))
  clear hb B0 B1 V2 IA
  cases ok1
  · go_wp2
    go_ret
    exact ⟨ret_bool (by rw [← HR.out]; simp), HF.out⟩
  cases ok2
  · go_wp2
    go_ret
    exact ⟨ret_bool (by rw [← HR.out]; simp), HF.out⟩
  by_cases hg : g1 = g2
  · have e1 : (g1 == g2) = true := by simpa using hg
    have E1 := Lib.hid e1
    clear hg
    go_wp2
    go_ret
    exact ⟨ret_bool (by rw [← HR.out, E1.out]; simp), HF.out⟩
  · have e1 : (g1 == g2) = false := by simpa using hg
    have E1 := Lib.hid e1
    clear hg
    go_wp2
    go_ret
    exact ⟨ret_bool (by rw [← HR.out, E1.out]; simp), HF.out⟩
theorem pbeside_any (T : Tab) (h : Hd) (p q : Int) (w : World) (ht : IsTab w h T) :
    Calls Try.prog 23 #[.agg (T.cells h).toArray, .int .i64 p, .int .i64 q] w fun e w' => e = .returned (.bool (beside T p q)) ∧ Below w.heap.size w w' := by
  have hsz := (cells_ok ht).size
  rw [List.size_toArray] at hsz
  have V := fun r W (hb : Below w.heap.size w W) => pwhere_any T h r W (ht.below hb)
  have V1 := V p
  have V2 := V q
  have hB : beside T p q = match where_ T p, where_ T q with
    | some a, some b => a.g == b.g && a.k != b.k
    | _, _ => false := rfl
  rw [hB]
  generalize where_ T p = o1 at V1 ⊢
  generalize where_ T q = o2 at V2 ⊢
  have e0 : ∀ a b : Nat, ((a : Int) == (b : Int)) = (a == b) := fun a b => by
    by_cases h : a = b
    · subst h; simp
    · rw [beq_eq_false_iff_ne.2 h, beq_eq_false_iff_ne.2 (by omega)]
  have e1 : ∀ a b : Nat, ((a : Int) != (b : Int)) = (a != b) := fun a b => by unfold bne; rw [e0]
  cases o1 with
  | none =>
    cases o2 with
    | none => exact pbeside_raw _ p q 0 0 0 0 0 0 false false w hsz (Lib.hid V1) (Lib.hid V2)
    | some b => exact pbeside_raw _ p q 0 0 0 b.g b.k b.i false true w hsz (Lib.hid V1) (Lib.hid V2)
  | some a =>
    cases o2 with
    | none => exact pbeside_raw _ p q a.g a.k a.i 0 0 0 true false w hsz (Lib.hid V1) (Lib.hid V2)
    | some b =>
      have := pbeside_raw _ p q a.g a.k a.i b.g b.k b.i true true w hsz (Lib.hid V1) (Lib.hid V2)
      rw [e0, e1] at this
      simpa using this
end Go.Proofs.Ytfnpcfibgabmfaa.PlanW
/- The contracts of plan.hasGroup, rowsOf, Members, On, Next and Following. -/
namespace Go.Proofs.Ytfnpcfibgabmfaa.PlanC
open Go.ChangeShapes Go.WideShapes Go.ChangeAt Go.RowKit
open Tab PlaceM PlanM
open May (ret_bool chain infoP infoG St phases_in)
open SetP (of_any has_any)
open Same (below_setRow)
set_option linter.unusedVariables false
set_option linter.unusedSimpArgs false
theorem ret_int {k : IntKind} {a b : Int} (h : a = b) : Ending.returned (.int k a) = .returned (.int k b) := by rw [h]
theorem infoZ : (Try.prog.info? 42).map (fun i => (i.zero, i.size)) = some (some (.agg #[.slice none 0 0, .slice none 0 0]), 2) := by kernel_rfl
theorem infoT : (Try.prog.info? 33).map (·.size) = some 131 := by kernel_rfl
theorem info2 : (Try.prog.info? 42).map (·.size) = some 2 := by kernel_rfl
theorem builtG : Try.prog.built 42 [] = some #[.slice none 0 0, .slice none 0 0] := by kernel_rfl
theorem idx0 (v0 v1 : Value) (w : World) : Sem.run Try.prog (Instr.index 42 (.agg #[v0, v1]) (.int .i64 0)) w = .ok v0 w := by kernel_rfl
theorem idx1 (v0 v1 : Value) (w : World) : Sem.run Try.prog (Instr.index 42 (.agg #[v0, v1]) (.int .i64 1)) w = .ok v1 w := by kernel_rfl
theorem row_of_int {w : World} {a : Option Addr} {cap : Nat} {L : List Int} (h : IntRow w ⟨a, cap⟩ L) : RefS.Row w a L := by
  have hl := h.len
  refine ⟨by omega, ?_⟩
  by_cases h0 : L = []
  · exact .inl h0
  · have hp : 0 < L.length := List.length_pos_iff.2 h0
    obtain ⟨x, hx, _⟩ := IntRow.at h (List.getElem?_eq_getElem hp)
    refine .inr ⟨x, hx, fun i hi => ?_⟩
    obtain ⟨y, hy, hc⟩ := IntRow.at h (List.getElem?_eq_getElem hi)
    obtain rfl : x = y := Option.some.inj (hx.symm.trans hy)
    rw [hc, List.getD_eq_getElem?_getD, List.getElem?_eq_getElem hi]
    rfl
set_option maxRecDepth 100000 in
set_option maxHeartbeats 4000000 in
theorem hasGroup_any (T : Tab) (h : Hd) (g : Int) (w : World) (ht : IsTab w h T) :
    Calls Try.prog 80 #[.agg (T.cells h).toArray, .int .i64 g] w fun e w' => e = .returned (.bool (decide (0 ≤ g ∧ g < T.groups.length))) ∧ Below w.heap.size w w' := by
  have C := Lib.hid (cells_ok ht)
  generalize (T.cells h).toArray = cs at C ⊢
  have hsz := C.out.size
  have S0 := Lib.hid (St.box (cs := cs) ht)
  clear ht
  have q104 := S0.out.cell C.out.g
  generalize hr : decide (0 ≤ g ∧ g < T.groups.length) = r
  have HR := Lib.hid hr
  clear hr
  generalize T.groups.length = n at *
  have Q104 := Lib.hid q104
  clear q104
  go_enter Try.func80, Try.ntmps80
  go_upto_region 1 with fail
  generalize w.alloc (.cells cs 33) = w1 at S0 Q104 ⊢
  clear hsz
  have q104 := Q104.out
  by_cases h0 : 0 ≤ g
  · by_cases h1 : g < n
    · go_wp2
      go_ret
      exact ⟨ret_bool (by rw [← HR.out]; simp [h0, h1]), S0.out.bel⟩
    · go_wp2
      go_ret
      exact ⟨ret_bool (by rw [← HR.out]; simp [h0, h1]), S0.out.bel⟩
  · go_wp2
    go_ret
    exact ⟨ret_bool (by rw [← HR.out]; symm; rw [decide_eq_false_iff_not]; omega), S0.out.bel⟩
/-- A group's two rows as a value. -/
def Pair (w : World) (y : List Int × List Int) (s0 s1 : Sl) : Prop := IntRow w s0 y.1 ∧ IntRow w s1 y.2
set_option maxRecDepth 100000 in
set_option maxHeartbeats 4000000 in
theorem rowsOf_any (T : Tab) (h : Hd) (g : Int) (w : World) (ht : IsTab w h T) :
    Calls Try.prog 77 #[.agg (T.cells h).toArray, .int .i64 g] w fun e w' => ∃ s0 s1 : Sl, e = .returned (.agg #[s0.val (rowsAt T g).1.length, s1.val (rowsAt T g).2.length]) ∧ Pair w' (rowsAt T g) s0 s1 ∧ Below w.heap.size w w' := by
  have hsz := (cells_ok ht).size
  have C := Lib.hid (cells_ok ht)
  have IA : Hid ((Try.prog.info? 33).map (·.size) = some (T.cells h).length) := Lib.hid (by rw [List.size_toArray] at hsz; rw [hsz]; exact infoT)
  have HG : Hid (∀ W, Below w.heap.size w W → Calls Try.prog 80 #[.agg (T.cells h).toArray, .int .i64 g] W fun e w' => e = .returned (.bool (decide (0 ≤ g ∧ g < T.groups.length))) ∧ Below W.heap.size W w') := Lib.hid (fun W hb => hasGroup_any T h g W (ht.below hb))
  obtain ⟨gs, hgd, hgr⟩ := ht.groups
  have Hgr := Lib.hid hgr
  have Hgd := Lib.hid hgd
  have Hgl := Lib.hid (show T.groups.length = gs.length by rw [← hgd, List.length_map])
  have Kg := hgr.1.len
  unfold maxLen at Kg
  have A0 : Hid (Below w.heap.size w ((w.alloc (.cells (T.cells h).toArray 33)).alloc (.cells #[.slice none 0 0, .slice none 0 0] 42))) := Lib.hid (((Below.refl _ _).alloc (Nat.le_refl _) _).alloc (by simp) _)
  have A1 : Hid (((w.alloc (.cells (T.cells h).toArray 33)).alloc (.cells #[.slice none 0 0, .slice none 0 0] 42)).heap[w.heap.size]? = some (.cells (T.cells h).toArray 33 (0, 0))) := Lib.hid (heap_alloc2_old w _ _)
  have A2 : Hid (((w.alloc (.cells (T.cells h).toArray 33)).alloc (.cells #[.slice none 0 0, .slice none 0 0] 42)).heap[w.heap.size + 1]? = some (.cells #[.slice none 0 0, .slice none 0 0] 42 (0, 0))) := Lib.hid (heap_alloc2_new w _ _)
  have hz := (zero_of_info infoZ).1
  clear ht hgr hgd
  generalize T.cells h = c at *
  go_enter Try.func77, Try.ntmps77
  go_upto_region 1 with fail
  generalize ((w.alloc (.cells c.toArray 33)).alloc (.cells #[.slice none 0 0, .slice none 0 0] 42)) = u at A0 A1 A2 ⊢
  clear hsz hz
  have LT : Hid (Lies u ⟨w.heap.size, 0, none⟩ c) := Lib.hid (by have := Row.lies_of_block A1.out; simpa using this)
  go_wp2_with (refine Row.wpList_load_g 33 _ rfl (by first | rfl | go_simp) ⟨w.heap.size, 0, none⟩ rfl c _ LT.out Try.underlying33 rfl IA.out ?_)
  refine (HG.out _ A0.out).mono ?_
  rintro e u1 ⟨rfl, hb⟩
  have B0 : Hid (Below w.heap.size w u1) := Lib.hid (A0.out.trans (hb.mono A0.out.size))
  have B1 : Hid (u1.heap[w.heap.size]? = some (.cells c.toArray 33 (0, 0))) := Lib.hid ((hb.block _ (Array.getElem?_eq_some_iff.1 A1.out).1).trans A1.out)
  have B2 : Hid (u1.heap[w.heap.size + 1]? = some (.cells #[.slice none 0 0, .slice none 0 0] 42 (0, 0))) := Lib.hid ((hb.block _ (Array.getElem?_eq_some_iff.1 A2.out).1).trans A2.out)
  clear hb A0 A1 A2 LT HG
  by_cases hg : 0 ≤ g ∧ g < T.groups.length
  · rw [decide_eq_true hg]
    obtain ⟨g0, g1⟩ := hg
    obtain ⟨q, rfl⟩ := Int.eq_ofNat_of_zero_le g0
    have hlt : q < gs.length := by have := Hgl.out; omega
    have hv := List.getElem?_eq_getElem hlt
    generalize gs[q] = v at hv
    have HR : Hid (rowsAt T q = v.data) := Lib.hid (rows_in (by rw [← Hgd.out, List.getElem?_map, hv]; rfl))
    obtain ⟨x, hx, hc⟩ := (Hgr.out.1.below B0.out).at hv
    have hok := (Hgr.out.2 v (List.mem_of_getElem? hv)).below B0.out
    have q104 : u1.cell? ⟨w.heap.size, 104, none⟩ = some (.slice (some x) gs.length h.g.cap) := by
      rw [cell_of_row _ _ _ _ _ _ B1.out, C.out.g, Hgl.out]; simp only [Sl.val, hx]
    have HC := Lib.hid hc
    have HM := Lib.hid (List.mem_of_getElem? hv)
    have HW := Lib.hid (below_setRow B0.out (g := w.heap.size + 1) (by omega) v.cells.toArray)
    have HK := Lib.hid (setRow_heap u1 (w.heap.size + 1) _ v.cells.toArray _ _ B2.out)
    have V1 : Hid (v.cells.toArray.all (·.oneCell') = true) := Lib.hid (Gr.one v)
    clear hv hc hok hx g1
    go_wp2_with (first | (refine Row.wpList_load_g 42 _ rfl (by first | rfl | go_simp) (x.add (q * 2)) rfl v.cells _ HC.out Try.underlying42 rfl info2 ?_) | (refine wpList_store_row rfl 42 _ _ rfl (w.heap.size + 1) v.cells.toArray rfl rfl 42 _ B2.out info2 rfl V1.out ?_))
    have HO2 : Hid (v.ok (u1.setRow (w.heap.size + 1) v.cells.toArray)) := Lib.hid ((Hgr.out.2 v HM.out).below HW.out)
    generalize u1.setRow (w.heap.size + 1) v.cells.toArray = u2 at HW HK HO2 ⊢
    go_wp2_with fail
    (try simp only [Exit.inBlock, Exit.then])
    refine bodyPost_ret (v := .agg v.cells.toArray) ?_ rfl ⟨v.s0, v.s1, by rw [HR.out]; rfl, by rw [HR.out]; exact HO2.out, HW.out⟩
    exact results_cell_row rfl _ _ (w.heap.size + 1) 42 _ (0, 0) _ rfl HK.out Try.underlying42 rfl info2
  · rw [decide_eq_false hg]
    have HR : Hid (rowsAt T g = ([], [])) := Lib.hid (rows_out hg)
    have HW := Lib.hid (below_setRow B0.out (g := w.heap.size + 1) (by omega) #[.slice none 0 0, .slice none 0 0])
    have HK := Lib.hid (setRow_heap u1 (w.heap.size + 1) _ #[.slice none 0 0, .slice none 0 0] _ _ B2.out)
    clear hg
    go_wp2_with (first | (refine wpList_store_row rfl 42 _ _ rfl (w.heap.size + 1) #[.slice none 0 0, .slice none 0 0] rfl rfl 42 _ B2.out info2 rfl (by simp [Value.oneCell']) ?_))
    generalize u1.setRow (w.heap.size + 1) #[.slice none 0 0, .slice none 0 0] = u2 at HW HK ⊢
    go_wp2_with fail
    (try simp only [Exit.inBlock, Exit.then])
    refine bodyPost_ret (v := .agg #[.slice none 0 0, .slice none 0 0]) ?_ rfl ⟨⟨none, 0⟩, ⟨none, 0⟩, by rw [HR.out]; rfl, by rw [HR.out]; exact ⟨RowOf.nil _, RowOf.nil _⟩, HW.out⟩
    exact results_cell_row rfl _ _ (w.heap.size + 1) 42 _ (0, 0) _ rfl HK.out Try.underlying42 rfl info2
theorem of_len (a : Option Addr) (cap : Nat) (l : List Int) (w : World) (h : IntRow w ⟨a, cap⟩ l) : Calls Try.prog 74 #[.slice a l.length cap] w fun e w' => e = .returned (.int .i64 (SetM.of l : Nat)) ∧ w = w' := of_any a cap l w (row_of_int h)
theorem or0 (m : Nat) (h : m < 256) : bits .or .i64 0 (m : Int) = (m : Int) := by
  have := RefS.or_small 0 m (by decide) h
  simpa using this
set_option maxRecDepth 100000 in
set_option maxHeartbeats 4000000 in
theorem members_any (T : Tab) (h : Hd) (g : Int) (w : World) (ht : IsTab w h T) :
    Calls Try.prog 25 #[.agg (T.cells h).toArray, .int .i64 g] w fun e w' => e = .returned (.int .i64 (membS T g : Nat)) ∧ Below w.heap.size w w' := by
  have hsz := (cells_ok ht).size
  have C := Lib.hid (cells_ok ht)
  have IA : Hid ((Try.prog.info? 33).map (·.size) = some (T.cells h).length) := Lib.hid (by rw [List.size_toArray] at hsz; rw [hsz]; exact infoT)
  have RO : Hid (∀ W, Below w.heap.size w W → Calls Try.prog 77 #[.agg (T.cells h).toArray, .int .i64 g] W fun e w' => ∃ s0 s1 : Sl, e = .returned (.agg #[s0.val (rowsAt T g).1.length, s1.val (rowsAt T g).2.length]) ∧ Pair w' (rowsAt T g) s0 s1 ∧ Below W.heap.size W w') := Lib.hid (fun W hb => rowsOf_any T h g W (ht.below hb))
  have A0 : Hid (Below w.heap.size w (w.alloc (.cells (T.cells h).toArray 33))) := Lib.hid ((Below.refl _ _).alloc (Nat.le_refl _) _)
  have A1 : Hid (Lies (w.alloc (.cells (T.cells h).toArray 33)) ⟨w.heap.size, 0, none⟩ (T.cells h)) := Lib.hid (Row.lies_new w _ _)
  have MS : Hid (membS T g = SetM.of (rowsAt T g).1 ||| SetM.of (rowsAt T g).2) := Lib.hid rfl
  generalize membS T g = m at MS ⊢
  generalize rowsAt T g = y at MS RO
  obtain ⟨l0, l1⟩ := y
  clear ht
  generalize T.cells h = c at *
  go_enter Try.func25, Try.ntmps25
  go_upto_region 1 with fail
  generalize w.alloc (.cells c.toArray 33) = u at A0 A1 ⊢
  clear hsz
  go_wp2_with (refine Row.wpList_load_g 33 _ rfl (by first | rfl | go_simp) ⟨w.heap.size, 0, none⟩ rfl c _ A1.out Try.underlying33 rfl IA.out ?_)
  refine (RO.out _ A0.out).mono ?_
  rintro e u1 ⟨⟨a0, cap0⟩, ⟨a1, cap1⟩, rfl, hpair, hb⟩
  have B0 : Hid (Below w.heap.size w u1) := Lib.hid (A0.out.trans (hb.mono A0.out.size))
  have HP := Lib.hid hpair
  clear hb A0 A1 RO hpair IA
  rw [show (Value.agg #[Sl.val ⟨a0, cap0⟩ (l0, l1).fst.length, Sl.val ⟨a1, cap1⟩ (l0, l1).snd.length]) = .agg #[.slice a0 l0.length cap0, .slice a1 l1.length cap1] from rfl]
  have i0 := idx0 (.slice a0 l0.length cap0) (.slice a1 l1.length cap1)
  have i1 := idx1 (.slice a0 l0.length cap0) (.slice a1 l1.length cap1)
  have I0 := Lib.hid i0
  have I1 := Lib.hid i1
  clear i0 i1
  go_wp2_with fail
  go_loopw [5, 11] (fun t i wr => ∃ r : Nat, r ≤ 2 ∧ i = .int .i64 r ∧ t = .int .i64 ((if r = 0 then 0 else if r = 1 then SetM.of l0 else m : Nat) : Int) ∧ wr = u1) (fun _ i _ => 2 - (intOf i).toNat)
  case atStart => exact ⟨0, by omega, rfl, rfl, rfl⟩
  case round =>
    obtain ⟨r, hr, rfl, rfl, rfl⟩ := hrel
    have hr2 : r = 0 ∨ r = 1 ∨ r = 2 := by omega
    rcases hr2 with rfl | rfl | rfl
    · rw [show ((0 : Nat) : Int) = (0 : Int) from rfl]
      have i0 := I0.out
      have HS := Lib.hid (or0 (SetM.of l0) (SetM.of_lt l0))
      simp only [if_true]
      go_wp2_with fail
      refine (of_len a0 cap0 l0 _ HP.out.1).mono ?_
      rintro e w' ⟨rfl, rfl⟩
      generalize hs : SetM.of l0 = s at HS MS ⊢
      have HQ := Lib.hid hs
      clear hs
      go_wp2
      go_roundw
      case rel => exact ⟨1, by omega, by go_num, by rw [HS.out, ← HQ.out]; rfl, trivial⟩
      case measure => simp [intOf]
    · rw [show ((1 : Nat) : Int) = (1 : Int) from rfl]
      have i1 := I1.out
      have HS : Hid (bits .or .i64 (SetM.of l0 : Nat) (SetM.of l1 : Nat) = (m : Nat)) := Lib.hid (by rw [RefS.or_small _ _ (SetM.of_lt _) (SetM.of_lt _), MS.out])
      simp only [Nat.one_ne_zero, if_false, if_true]
      go_wp2_with fail
      refine (of_len a1 cap1 l1 _ HP.out.2).mono ?_
      rintro e w' ⟨rfl, rfl⟩
      generalize SetM.of l0 = s at HS MS ⊢
      generalize SetM.of l1 = s' at HS MS ⊢
      go_wp2
      go_roundw
      case rel => exact ⟨2, by omega, by go_num, by rw [HS.out]; rfl, trivial⟩
      case measure => simp [intOf]
    · rw [show ((2 : Nat) : Int) = (2 : Int) from rfl]
      simp only [show ¬ (2 = 0) by decide, show ¬ (2 = 1) by decide, if_false]
      go_wp2
      go_ret
      exact ⟨rfl, B0.out⟩
/-- The value of an array of phases, at one of its places. -/
theorem infoPs : (Try.prog.info? 26).map (·.size) = some 104 := by kernel_rfl
theorem cellsP : Try.prog.cellsOf 25 = 13 := by kernel_rfl
theorem rowP : Flat.rowT Try.prog 25 = true := by kernel_rfl
theorem infoPz : ∃ i, Try.prog.info? 25 = some i ∧ i.size = 13 := by
  have := infoP
  cases h : Try.prog.info? 25 with
  | none => rw [h] at this; simp at this
  | some i => rw [h] at this; exact ⟨i, rfl, by simpa using this⟩
theorem flat_take : ∀ {l : List Ph} {q : Nat} {u : Ph}, l[q]? = some u → ((l.flatMap Ph.cells).drop (q * 13)).take 13 = u.cells
  | [], q, u, h => by simp at h
  | p :: l, 0, u, h => by
    obtain rfl : p = u := by simpa using h
    rw [Nat.zero_mul, List.drop_zero, List.flatMap_cons]
    exact List.take_left' rfl
  | p :: l, q + 1, u, h => by
    rw [List.flatMap_cons, Nat.add_mul, Nat.one_mul, Nat.add_comm, List.drop_append, List.drop_of_length_le (by simp [Ph.cells]), List.nil_append, show 13 + q * 13 - p.cells.length = q * 13 by simp [Ph.cells]]
    exact flat_take (by simpa using h)
theorem idx_phase {l : List Ph} {q : Nat} {u : Ph} (hl : l.length = 8) (hu : l[q]? = some u) (w : World) :
    Sem.run Try.prog (Instr.index 26 (.agg (l.flatMap Ph.cells).toArray) (.int .i64 q)) w = .ok (.agg u.cells.toArray) w := by
  have hq : q < l.length := (List.getElem?_eq_some_iff.1 hu).1
  obtain ⟨i, hi, hs⟩ := infoPz
  have hp := Flat.run_part (P := Try.prog) w (t := 25) (d := _) Try.underlying25 (by rw [rowP]; simp) (l.flatMap Ph.cells) (q * 13) (by rw [cellsP, phases_len]; omega)
  rw [cellsP, Flat.vOf, if_pos rowP, flat_take hu] at hp
  unfold Instr.index
  have hc : 0 ≤ (q : Int) ∧ (q : Int) < 8 := by omega
  simp [run_underlying Try.underlying26, asIntOf]
  rw [if_pos (by omega)]
  first | exact hp | (rw [cellsP]; exact hp)
theorem lies_take {w : World} {b : Nat} {cs : Array Value} {t : TypeId} {fr : Nat × Nat} (hb : w.heap[b]? = some (.cells cs t fr)) (n : Nat) (l : List Value) (h : cs.toList.take n = l) : Lies w ⟨b, 0, none⟩ l := by
  intro j v hv
  rw [Addr.add_mid, Nat.zero_add, cell_of_row _ _ _ _ _ _ hb]
  subst h
  rw [List.getElem?_take] at hv
  split at hv
  · rwa [Array.getElem?_toList] at hv
  · cases hv
end Go.Proofs.Ytfnpcfibgabmfaa.PlanC
/- The contracts of plan.Next and plan.Following. -/
namespace Go.Proofs.Ytfnpcfibgabmfaa.PlanN
open Go.ChangeShapes Go.WideShapes Go.ChangeAt Go.RowKit
open Tab PlaceM PlanM PlanC
open May (infoP St)
open SetP (has_any)
set_option linter.unusedVariables false
set_option linter.unusedSimpArgs false
theorem ringAt_eq (T : Tab) (g r : Int) : ringAt T g r = if r = 0 then (rowsAt T g).1 else if r = 1 then (rowsAt T g).2 else [] := rfl
set_option maxRecDepth 100000 in
set_option maxHeartbeats 4000000 in
theorem next_any (T : Tab) (h : Hd) (g r a want : Int) (w : World) (ht : IsTab w h T) :
    Calls Try.prog 29 #[.agg (T.cells h).toArray, .int .i64 g, .int .i64 r, .int .i64 a, .int .i64 want] w fun e w' => e = .returned (.int .i64 (nextS T g r a want)) ∧ Below w.heap.size w w' := by
  have hsz := (cells_ok ht).size
  have C := Lib.hid (cells_ok ht)
  have IA : Hid ((Try.prog.info? 33).map (·.size) = some (T.cells h).length) := Lib.hid (by rw [List.size_toArray] at hsz; rw [hsz]; exact infoT)
  have RO : Hid (∀ W, Below w.heap.size w W → Calls Try.prog 77 #[.agg (T.cells h).toArray, .int .i64 g] W fun e w' => ∃ s0 s1 : Sl, e = .returned (.agg #[s0.val (rowsAt T g).1.length, s1.val (rowsAt T g).2.length]) ∧ Pair w' (rowsAt T g) s0 s1 ∧ Below W.heap.size W w') := Lib.hid (fun W hb => rowsOf_any T h g W (ht.below hb))
  have A0 : Hid (Below w.heap.size w (w.alloc (.cells (T.cells h).toArray 33))) := Lib.hid ((Below.refl _ _).alloc (Nat.le_refl _) _)
  have A1 : Hid (Lies (w.alloc (.cells (T.cells h).toArray 33)) ⟨w.heap.size, 0, none⟩ (T.cells h)) := Lib.hid (Row.lies_new w _ _)
  have NS : Hid (nextS T g r a want = nextIn (ringAt T g r) a want) := Lib.hid rfl
  generalize nextS T g r a want = res at NS ⊢
  have RA := Lib.hid (ringAt_eq T g r)
  generalize ringAt T g r = row at NS RA
  generalize rowsAt T g = y at RA RO
  obtain ⟨l0, l1⟩ := y
  clear ht
  generalize T.cells h = c at *
  go_enter Try.func29, Try.ntmps29
  go_upto_region 1 with fail
  generalize w.alloc (.cells c.toArray 33) = u at A0 A1 ⊢
  clear hsz
  go_wp2_with (refine Row.wpList_load_g 33 _ rfl (by first | rfl | go_simp) ⟨w.heap.size, 0, none⟩ rfl c _ A1.out Try.underlying33 rfl IA.out ?_)
  refine (RO.out _ A0.out).mono ?_
  rintro e u1 ⟨⟨a0, cap0⟩, ⟨a1, cap1⟩, rfl, hpair, hb⟩
  have B0 : Hid (Below w.heap.size w u1) := Lib.hid (A0.out.trans (hb.mono A0.out.size))
  have HP := Lib.hid hpair
  clear hb A0 A1 RO hpair IA
  rw [show (Value.agg #[Sl.val ⟨a0, cap0⟩ (l0, l1).fst.length, Sl.val ⟨a1, cap1⟩ (l0, l1).snd.length]) = .agg #[.slice a0 l0.length cap0, .slice a1 l1.length cap1] from rfl]
  go_upto_region 2 with (refine Row.wpList_store_new rfl 42 _ _ rfl u1 #[.slice none 0 0, .slice none 0 0] #[.slice a0 l0.length cap0, .slice a1 l1.length cap1] rfl rfl rfl info2 rfl (by simp [Value.oneCell']) ?_)
  have hbo : Below u1.heap.size u1 (u1.alloc (.cells #[.slice a0 l0.length cap0, .slice a1 l1.length cap1] 42)) := (Below.refl _ _).alloc (Nat.le_refl _) _
  have hg := Row.lies_of_block (heap_alloc_new u1 (.cells #[.slice a0 l0.length cap0, .slice a1 l1.length cap1] 42))
  have HL : Hid (Lies (u1.alloc (.cells #[.slice a0 l0.length cap0, .slice a1 l1.length cap1] 42)) ⟨u1.heap.size, 0, none⟩ [.slice a0 l0.length cap0, .slice a1 l1.length cap1]) := Lib.hid hg
  have HQ : Hid (IntRow (u1.alloc (.cells #[.slice a0 l0.length cap0, .slice a1 l1.length cap1] 42)) ⟨a0, cap0⟩ l0 ∧ IntRow (u1.alloc (.cells #[.slice a0 l0.length cap0, .slice a1 l1.length cap1] 42)) ⟨a1, cap1⟩ l1) := Lib.hid ⟨RowOf.below HP.out.1 hbo, RowOf.below HP.out.2 hbo⟩
  have HN : Hid (Below w.heap.size w (u1.alloc (.cells #[.slice a0 l0.length cap0, .slice a1 l1.length cap1] 42))) := Lib.hid (B0.out.trans (hbo.mono B0.out.size))
  clear hg hbo HP B0
  generalize u1.alloc (.cells #[.slice a0 l0.length cap0, .slice a1 l1.length cap1] 42) = w4 at HL HQ HN ⊢
  generalize u1.heap.size = b4 at HL ⊢
  by_cases hr : r = 0 ∨ r = 1
  rotate_left
  · have HF : Hid (-1 = res) := Lib.hid (by rw [NS.out, RA.out, if_neg (by omega), if_neg (by omega)]; exact (next_nil a want).symm)
    have hr' : r < 0 ∨ 2 ≤ r := by omega
    clear hr
    rcases hr' with hr' | hr'
    · go_wp2
      go_ret
      exact ⟨ret_int HF.out, HN.out⟩
    · go_wp2
      go_ret
      exact ⟨ret_int HF.out, HN.out⟩
  obtain ⟨l, sa, cap, k, rfl, hk2, hcell, hrow, hrl⟩ : ∃ (l : List Int) (sa : Option Addr) (cap k : Nat), r = (k : Int) ∧ k < 2 ∧ w4.cell? ⟨b4, 0 + k, none⟩ = some (.slice sa l.length cap) ∧ IntRow w4 ⟨sa, cap⟩ l ∧ row = l := by
    have h0 := HL.out 0 _ rfl
    have h1 := HL.out 1 _ rfl
    rw [Addr.add_mid] at h0 h1
    rcases hr with rfl | rfl
    · exact ⟨l0, a0, cap0, 0, rfl, by omega, h0, HQ.out.1, RA.out⟩
    · exact ⟨l1, a1, cap1, 1, rfl, by omega, h1, HQ.out.2, RA.out⟩
  have HR := Lib.hid hrow
  have K := hrow.len
  unfold maxLen at K
  subst hrl
  clear hr hrow RA HQ HL
  rw [Nat.zero_add] at hcell
  go_wp2_with fail
  clear hcell
  go_loopw [27] (fun i wr => ∃ j : Nat, j ≤ row.length ∧ i = .int .i64 j ∧ (∀ i, i < j → ¬ (a < (i : Int) ∧ SetM.has want (row.getD i 0) = true)) ∧ wr = w4) (fun i _ => row.length - (intOf i).toNat)
  case atStart => exact ⟨0, by omega, rfl, (fun i h => by omega), rfl⟩
  case round =>
    obtain ⟨j, hj, rfl, hall, rfl⟩ := hrel
    have HA := Lib.hid hall
    clear hall
    by_cases hjl : j < row.length
    · have hv := List.getElem?_eq_getElem hjl
      generalize hz : row[j] = z at hv
      obtain ⟨y, hy, hp⟩ := IntRow.at HR.out hv
      obtain rfl : sa = some y := hy
      have hgd : row.getD j 0 = z := by rw [List.getD_eq_getElem?_getD, hv]; rfl
      have HGD := Lib.hid hgd
      clear hv hz hgd
      by_cases haj : a < (j : Int)
      · cases hh : SetM.has want z with
        | true =>
          have HF : Hid ((j : Int) = res) := Lib.hid (by rw [NS.out]; exact (next_hit hjl haj (by rw [HGD.out]; exact hh) HA.out).symm)
          go_wp2_with (go_at_call 75; refine (has_any _ _ _).mono ?_; rintro e w' ⟨rfl, rfl⟩; rw [hh])
          go_ret
          exact ⟨ret_int HF.out, HN.out⟩
        | false =>
          go_wp2_with (go_at_call 75; refine (has_any _ _ _).mono ?_; rintro e w' ⟨rfl, rfl⟩; rw [hh])
          go_roundw
          case rel => exact ⟨j + 1, by omega, by go_num, (fun i hi e => by
            by_cases e2 : i = j
            · subst e2; rw [HGD.out, hh] at e; simp at e
            · exact HA.out i (by omega) e), trivial⟩
          case measure => simp [intOf]; omega
      · go_wp2
        go_roundw
        case rel => exact ⟨j + 1, by omega, by go_num, (fun i hi e => by
          by_cases e2 : i = j
          · subst e2; exact haj e.1
          · exact HA.out i (by omega) e), trivial⟩
        case measure => simp [intOf]; omega
    · have HF : Hid (-1 = res) := Lib.hid (by rw [NS.out]; exact (next_miss (fun i hi => HA.out i (by omega))).symm)
      go_wp2
      go_ret
      exact ⟨ret_int HF.out, HN.out⟩
end Go.Proofs.Ytfnpcfibgabmfaa.PlanN
/- The chapter's examples hold (stage 8): the statement's own awake returns true. -/
namespace Go.Proofs.Ytfnpcfibgabmfaa.Wa8
open Go.ChangeShapes Go.WideShapes Go.ChangeAt Go.RowKit
open Tab Clone PlaceM PlanM PlanC
open May (chain row_new)
set_option linter.unusedVariables false
set_option linter.unusedSimpArgs false
def aTab : Tab := { zTab with groups := [([0, 1], [4, 5])] }
def aHd (b : Nat) : Hd := { zHd with g := ⟨some ⟨b, 0, none⟩, 1⟩ }
def aGr (b0 b1 : Nat) : Gr := ⟨[0, 1], [4, 5], ⟨some ⟨b0, 0, none⟩, 2⟩, ⟨some ⟨b1, 0, none⟩, 2⟩⟩
set_option maxRecDepth 10000 in
theorem a_cells (b : Nat) : (zTab.cells zHd).set 104 (.slice (some ⟨b, 0, none⟩) 1 1) = aTab.cells (aHd b) := rfl
theorem builtA (a : Option Addr) (n c : Nat) : Try.prog.built 33 [(1, .slice a n c)] = some ((zTab.cells zHd).set 104 (.slice a n c)).toArray := by kernel_rfl
theorem a_b0 : beside aTab 0 5 = true := by decide
theorem a_b1 : beside aTab 0 1 = false := by decide
theorem a_m : membS aTab 0 = 51 := by decide
theorem a_n : nextS aTab 0 0 (-1) 2 = 1 := by decide +kernel
theorem a_few : Few aTab := ⟨by decide, fun g hg => by simp [aTab] at hg; subst hg; decide⟩
abbrev W1 (w : World) : World := w.alloc (.cells #[I 0, I 1] 3)
abbrev W2 (w : World) : World := (W1 w).alloc (.cells #[I 4, I 5] 3)
abbrev W3 (w : World) : World := (W2 w).alloc (.cells #[.slice (some ⟨w.heap.size, 0, none⟩) 2 2, .slice (some ⟨w.heap.size + 1, 0, none⟩) 2 2] 42)
theorem below3 (w : World) : Below w.heap.size w (W3 w) := (((Below.refl _ _).alloc (Nat.le_refl _) _).alloc (by simp) _).alloc (by simp; omega) _
theorem size2 (w : World) : (W2 w).heap.size = w.heap.size + 1 + 1 := by simp
theorem a_is (w : World) : IsTab (W3 w) (aHd (w.heap.size + 1 + 1)) aTab := by
  have s1 : (W1 w).heap.size = w.heap.size + 1 := by simp
  have b1 : Below (W1 w).heap.size (W1 w) (W2 w) := (Below.refl _ _).alloc (Nat.le_refl _) _
  have b2 : Below (W2 w).heap.size (W2 w) (W3 w) := (Below.refl _ _).alloc (Nat.le_refl _) _
  have r0 : IntRow (W1 w) ⟨some ⟨w.heap.size, 0, none⟩, 2⟩ [0, 1] := row_new w 3 [0, 1] 2 rfl (by decide) _ rfl
  have r1 : IntRow (W2 w) ⟨some ⟨(W1 w).heap.size, 0, none⟩, 2⟩ [4, 5] := row_new (W1 w) 3 [4, 5] 2 rfl (by decide) _ rfl
  rw [s1] at r1
  have hl := Row.lies_of_block (heap_alloc_new (W2 w) (.cells #[.slice (some ⟨w.heap.size, 0, none⟩) 2 2, .slice (some ⟨w.heap.size + 1, 0, none⟩) 2 2] 42))
  rw [size2] at hl
  refine ⟨rfl, rfl, rfl, ⟨[aGr w.heap.size (w.heap.size + 1)], rfl, .inr ⟨⟨w.heap.size + 1 + 1, 0, none⟩, rfl, Nat.le_refl _, (show 1 ≤ maxLen by decide), fun i v hv => ?_⟩, fun g hg => ?_⟩, RowOf.nil _, RowOf.nil _, RowOf.nil _⟩
  · match i, hv with
    | 0, hv =>
      obtain rfl := Option.some.inj hv
      rw [Nat.zero_mul, Tab.add_zero]
      exact hl
  · obtain rfl : g = aGr w.heap.size (w.heap.size + 1) := by simpa using hg
    exact ⟨RowOf.below (RowOf.below r0 b1) b2, RowOf.below r1 b2⟩
set_option maxRecDepth 10000 in
set_option maxHeartbeats 4000000 in
theorem awake_any (w : World) : Calls Try.prog 20 #[] w fun e w' => e = .returned (.bool true) ∧ Below w.heap.size w w' := by
  have hz := (zero_of_info info31).1
  have IT := Lib.hid (a_is w)
  have B3 := Lib.hid (below3 w)
  have hsz : (aTab.cells (aHd (w.heap.size + 1 + 1))).toArray.size = 131 := (cells_ok (a_is w)).size
  rw [List.size_toArray] at hsz
  have HSZ := Lib.hid hsz
  have HB : Hid (Try.prog.built 33 [(1, .slice (some ⟨w.heap.size + 1 + 1, 0, none⟩) 1 1)] = some (aTab.cells (aHd (w.heap.size + 1 + 1))).toArray) := Lib.hid (by rw [builtA, a_cells])
  have HO := Lib.hid (cells_ok (a_is w)).one
  have ZS : Hid ((zTab.cells zHd).toArray.size = 131) := Lib.hid (cells_ok (z_is w)).size
  have V1 : Hid (∀ W, Below (W3 w).heap.size (W3 w) W → Calls Try.prog 23 #[.agg (aTab.cells (aHd (w.heap.size + 1 + 1))).toArray, .int .i64 0, .int .i64 5] W fun e w' => e = .returned (.bool true) ∧ Below W.heap.size W w') := Lib.hid (fun W hb => by have := PlanW.pbeside_any aTab _ 0 5 W ((a_is w).below hb); rwa [a_b0] at this)
  have V2 : Hid (∀ W, Below (W3 w).heap.size (W3 w) W → Calls Try.prog 23 #[.agg (aTab.cells (aHd (w.heap.size + 1 + 1))).toArray, .int .i64 0, .int .i64 1] W fun e w' => e = .returned (.bool false) ∧ Below W.heap.size W w') := Lib.hid (fun W hb => by have := PlanW.pbeside_any aTab _ 0 1 W ((a_is w).below hb); rwa [a_b1] at this)
  have V3 : Hid (∀ W, Below (W3 w).heap.size (W3 w) W → Calls Try.prog 25 #[.agg (aTab.cells (aHd (w.heap.size + 1 + 1))).toArray, .int .i64 0] W fun e w' => e = .returned (.int .i64 51) ∧ Below W.heap.size W w') := Lib.hid (fun W hb => by have := members_any aTab _ 0 W ((a_is w).below hb); rwa [a_m] at this)
  have V4 : Hid (∀ W, Below (W3 w).heap.size (W3 w) W → Calls Try.prog 29 #[.agg (aTab.cells (aHd (w.heap.size + 1 + 1))).toArray, .int .i64 0, .int .i64 0, .int .i64 (-1), .int .i64 2] W fun e w' => e = .returned (.int .i64 1) ∧ Below W.heap.size W w') := Lib.hid (fun W hb => by have := PlanN.next_any aTab _ 0 0 (-1) 2 W ((a_is w).below hb); rwa [a_n] at this)
  generalize hA : aTab.cells (aHd (w.heap.size + 1 + 1)) = A at HSZ HB HO V1 V2 V3 V4
  generalize hZ : zTab.cells zHd = Z at hz ZS
  have ZA : Hid (Z.toArray.size = A.toArray.size) := Lib.hid (by rw [ZS.out, List.size_toArray, HSZ.out])
  clear hA hZ hsz
  go_enter Try.func20, Try.ntmps20
  go_upto_region 1 with fail
  go_upto_region 2 with (first | (refine Held.wpList_build1 rfl 33 1 _ rfl _ rfl A.toArray HB.out ?_) | (refine Row.wpList_store_new rfl 33 _ _ rfl _ Z.toArray A.toArray rfl (show Value.pointer (some ⟨w.heap.size + 1 + 1 + 1, 0, none⟩) = _ by simp) rfl (by rw [List.size_toArray, HSZ.out]; exact infoT) ZA.out HO.out ?_))
  have hb4 : Below (W3 w).heap.size (W3 w) ((W3 w).alloc (.cells A.toArray 33)) := (Below.refl _ _).alloc (Nat.le_refl _) _
  have hl := Row.lies_new (W3 w) A.toArray 33
  have hs3 : (W3 w).heap.size = w.heap.size + 1 + 1 + 1 := by simp
  rw [hs3] at hl
  have B4 : Hid (Below (W3 w).heap.size (W3 w) ((W3 w).alloc (.cells A.toArray 33))) := Lib.hid hb4
  have L4 : Hid (Lies ((W3 w).alloc (.cells A.toArray 33)) ⟨w.heap.size + 1 + 1 + 1, 0, none⟩ A) := Lib.hid (by simpa using hl)
  have IA : Hid ((Try.prog.info? 33).map (·.size) = some A.length) := Lib.hid (by rw [HSZ.out]; exact infoT)
  clear hb4 hl hs3 hz IT HB HO ZS HSZ ZA
  (try dsimp only [Act.put])
  generalize (W3 w).alloc (.cells A.toArray 33) = w4 at B4 L4 ⊢
  have LL : Hid (∀ W, Below w4.heap.size w4 W → Lies W ⟨w.heap.size + 1 + 1 + 1, 0, none⟩ A) := Lib.hid (fun W hb => L4.out.below hb)
  have C0 : Hid (Below w4.heap.size w4 w4) := Lib.hid (Below.refl _ _)
  go_wp2_with (refine Row.wpList_load_g 33 _ rfl (by first | rfl | go_simp) ⟨w.heap.size + 1 + 1 + 1, 0, none⟩ rfl A _ (LL.out _ C0.out) Try.underlying33 rfl IA.out ?_)
  refine (V1.out _ (B4.out.trans (C0.out.mono B4.out.size))).mono ?_
  rintro e u1 ⟨rfl, hb⟩
  have C1 : Hid (Below w4.heap.size w4 u1) := Lib.hid (C0.out.trans (hb.mono C0.out.size))
  clear hb
  go_wp2_with (refine Row.wpList_load_g 33 _ rfl (by first | rfl | go_simp) ⟨w.heap.size + 1 + 1 + 1, 0, none⟩ rfl A _ (LL.out _ C1.out) Try.underlying33 rfl IA.out ?_)
  refine (V2.out _ (B4.out.trans (C1.out.mono B4.out.size))).mono ?_
  rintro e u2 ⟨rfl, hb⟩
  have C2 : Hid (Below w4.heap.size w4 u2) := Lib.hid (C1.out.trans (hb.mono C1.out.size))
  clear hb
  go_wp2_with (refine Row.wpList_load_g 33 _ rfl (by first | rfl | go_simp) ⟨w.heap.size + 1 + 1 + 1, 0, none⟩ rfl A _ (LL.out _ C2.out) Try.underlying33 rfl IA.out ?_)
  refine (V3.out _ (B4.out.trans (C2.out.mono B4.out.size))).mono ?_
  rintro e u3 ⟨rfl, hb⟩
  have C3 : Hid (Below w4.heap.size w4 u3) := Lib.hid (C2.out.trans (hb.mono C2.out.size))
  clear hb
  go_wp2_with (refine Row.wpList_load_g 33 _ rfl (by first | rfl | go_simp) ⟨w.heap.size + 1 + 1 + 1, 0, none⟩ rfl A _ (LL.out _ C3.out) Try.underlying33 rfl IA.out ?_)
  refine (V4.out _ (B4.out.trans (C3.out.mono B4.out.size))).mono ?_
  rintro e u4 ⟨rfl, hb⟩
  have C4 : Hid (Below w4.heap.size w4 u4) := Lib.hid (C3.out.trans (hb.mono C3.out.size))
  clear hb
  have E := Lib.hid (B3.out.trans ((B4.out.trans (C4.out.mono B4.out.size)).mono B3.out.size))
  go_wp2
  go_ret
  exact ⟨rfl, E.out⟩
end Go.Proofs.Ytfnpcfibgabmfaa.Wa8
/- The contract of plan.Following. -/
namespace Go.Proofs.Ytfnpcfibgabmfaa.PlanF
open Go.ChangeShapes Go.WideShapes Go.ChangeAt Go.RowKit
open Tab PlaceM PlanM PlanC
open May (infoP St)
set_option linter.unusedVariables false
set_option linter.unusedSimpArgs false
set_option maxRecDepth 100000 in
set_option maxHeartbeats 4000000 in
theorem follow_any (T : Tab) (h : Hd) (g want : Int) (w : World) (ht : IsTab w h T) (few : T.groups.length ≤ 1000) :
    Calls Try.prog 31 #[.agg (T.cells h).toArray, .int .i64 g, .int .i64 want] w fun e w' => e = .returned (.int .i64 (followS T g want)) ∧ Below w.heap.size w w' := by
  have hsz := (cells_ok ht).size
  have C := Lib.hid (cells_ok ht)
  have IA : Hid ((Try.prog.info? 33).map (·.size) = some (T.cells h).length) := Lib.hid (by rw [List.size_toArray] at hsz; rw [hsz]; exact infoT)
  have MB : Hid (∀ z W, Below w.heap.size w W → Calls Try.prog 25 #[.agg (T.cells h).toArray, .int .i64 z] W fun e w' => e = .returned (.int .i64 (membS T z : Nat)) ∧ Below W.heap.size W w') := Lib.hid (fun z W hb => members_any T h z W (ht.below hb))
  have HG : Hid (∀ W, Below w.heap.size w W → Calls Try.prog 80 #[.agg (T.cells h).toArray, .int .i64 g] W fun e w' => e = .returned (.bool (decide (0 ≤ g ∧ g < T.groups.length))) ∧ Below W.heap.size W w') := Lib.hid (fun W hb => hasGroup_any T h g W (ht.below hb))
  obtain ⟨gs, hgd, hgr⟩ := ht.groups
  have Hgl := Lib.hid (show T.groups.length = gs.length by rw [← hgd, List.length_map])
  have K : gs.length ≤ 1000 := by have := Hgl.out; omega
  have A0 : Hid (Below w.heap.size w (w.alloc (.cells (T.cells h).toArray 33))) := Lib.hid ((Below.refl _ _).alloc (Nat.le_refl _) _)
  have A1 : Hid ((w.alloc (.cells (T.cells h).toArray 33)).heap[w.heap.size]? = some (.cells (T.cells h).toArray 33 (0, 0))) := Lib.hid (heap_alloc_new _ _)
  obtain ⟨res, hres⟩ : ∃ r, followS T g want = r := ⟨_, rfl⟩
  have NS : Hid (res = followS T g want) := Lib.hid hres.symm
  rw [hres]
  clear ht hgr hgd hres few
  generalize T.cells h = c at *
  go_enter Try.func31, Try.ntmps31
  go_upto_region 1 with fail
  generalize w.alloc (.cells c.toArray 33) = u at A0 A1 ⊢
  clear hsz
  have q104 : u.cell? ⟨w.heap.size, 104, none⟩ = some (.slice h.g.a gs.length h.g.cap) := by
    rw [cell_of_row _ _ _ _ _ _ A1.out, C.out.g, Hgl.out]
  have LT : Hid (Lies u ⟨w.heap.size, 0, none⟩ c) := Lib.hid (by have := Row.lies_of_block A1.out; simpa using this)
  go_upto_region 2 with fail
  clear q104
  go_wp2_with (refine Row.wpList_load_g 33 _ rfl (by first | rfl | go_simp) ⟨w.heap.size, 0, none⟩ rfl c _ LT.out Try.underlying33 rfl IA.out ?_)
  refine (HG.out _ A0.out).mono ?_
  rintro e u1 ⟨rfl, hb⟩
  have B0 : Hid (Below w.heap.size w u1) := Lib.hid (A0.out.trans (hb.mono A0.out.size))
  have B1 : Hid (u1.heap[w.heap.size]? = some (.cells c.toArray 33 (0, 0))) := Lib.hid ((hb.block _ (Array.getElem?_eq_some_iff.1 A1.out).1).trans A1.out)
  clear hb A0 A1 LT HG
  by_cases hg : 0 ≤ g ∧ g < T.groups.length
  · rw [decide_eq_true hg]
    obtain ⟨f, hf⟩ : ∃ f, f = g := ⟨_, rfl⟩
    have FE : Hid (fromG T g = f) := Lib.hid (by unfold fromG; rw [if_pos hg, hf])
    have FB : Hid (0 < gs.length → 0 ≤ f ∧ f < gs.length) := Lib.hid (fun _ => by rw [hf, ← Hgl.out]; exact hg)
    have HFG := Lib.hid hf
    clear hg
    go_wp2_with fail
    rw [show (Value.int .i64 g) = .int .i64 f by rw [hf]]
    clear hf
    go_loopw [20] (fun i wr => ∃ j : Nat, j ≤ gs.length ∧ i = .int .i64 j ∧ (∀ i, i < j → folC T g want i = false) ∧ Below w.heap.size w wr ∧ wr.heap[w.heap.size]? = some (.cells c.toArray 33 (0, 0))) (fun i _ => gs.length - (intOf i).toNat)
    case atStart => exact ⟨0, by omega, rfl, (fun i h => by omega), B0.out, B1.out⟩
    case round =>
      obtain ⟨j, hj, rfl, hall, hbel, hblk⟩ := hrel
      have HA := Lib.hid hall
      have HB := Lib.hid hbel
      have LT : Hid (Lies wr ⟨w.heap.size, 0, none⟩ c) := Lib.hid (by have := Row.lies_of_block hblk; simpa using this)
      have HK := Lib.hid hblk
      clear hall hbel hblk
      by_cases hjl : j < gs.length
      · obtain ⟨kf, hkf, hkl⟩ : ∃ kf : Nat, f = (kf : Int) ∧ kf < gs.length := by
          have := FB.out (by omega)
          exact ⟨f.toNat, by omega, by omega⟩
        have htm : ((kf : Int) + 1 + (j : Int)).tmod (gs.length : Int) = ((kf : Int) + 1 + (j : Int)) % (gs.length : Int) := Int.tmod_eq_emod_of_nonneg (by omega)
        have HZ : Hid (((kf : Int) + 1 + (j : Int)) % (gs.length : Int) = (fromG T g + 1 + j) % T.groups.length) := Lib.hid (by rw [FE.out, hkf, Hgl.out])
        have hz0 : 0 ≤ ((kf : Int) + 1 + (j : Int)) % (gs.length : Int) := Int.emod_nonneg _ (by omega)
        have hz1 : ((kf : Int) + 1 + (j : Int)) % (gs.length : Int) < (gs.length : Int) := Int.emod_lt_of_pos _ (by omega)
        generalize hzz : ((kf : Int) + 1 + (j : Int)) % (gs.length : Int) = z at htm HZ hz0 hz1
        clear hzz
        have HKF := Lib.hid hkf
        subst hkf
        have hn0 : (gs.length : Int) ≠ 0 := by omega
        go_wp2_with (refine Row.wpList_load_g 33 _ rfl (by first | rfl | go_simp) ⟨w.heap.size, 0, none⟩ rfl c _ LT.out Try.underlying33 rfl IA.out ?_)
        refine (MB.out z _ HB.out).mono ?_
        rintro e u2 ⟨rfl, hb⟩
        have HB2 : Hid (Below w.heap.size w u2) := Lib.hid (HB.out.trans (hb.mono HB.out.size))
        have HK2 : Hid (u2.heap[w.heap.size]? = some (.cells c.toArray 33 (0, 0))) := Lib.hid ((hb.block _ (Array.getElem?_eq_some_iff.1 HK.out).1).trans HK.out)
        have FC : Hid (folC T g want j = decide (bits .and .i64 (membS T z : Nat) want ≠ 0)) := Lib.hid (by unfold folC; rw [HZ.out])
        clear hb LT HK htm
        generalize ((membS T z : Nat) : Int) = m at FC ⊢
        by_cases hm : bits .and .i64 m want = 0
        · have FC2 : Hid (folC T g want j = false) := Lib.hid (by rw [FC.out, hm]; rfl)
          go_wp2
          go_roundw
          case rel => exact ⟨j + 1, by omega, by go_num, (fun i hi => by
            by_cases e2 : i = j
            · subst e2; exact FC2.out
            · exact HA.out i (by omega)), HB2.out, HK2.out⟩
          case measure => simp [intOf]; omega
        · have FC2 : Hid (folC T g want j = true) := Lib.hid (by rw [FC.out]; exact decide_eq_true hm)
          have HF : Hid (z = res) := Lib.hid (by rw [NS.out, HZ.out]; exact (follow_hit (by rw [Hgl.out]; exact hjl) FC2.out HA.out).symm)
          go_wp2
          go_ret
          exact ⟨ret_int HF.out, HB2.out⟩
      · have HF : Hid (-1 = res) := Lib.hid (by rw [NS.out]; exact (follow_miss (fun i hi => HA.out i (by rw [Hgl.out] at hi; omega))).symm)
        go_wp2
        go_ret
        exact ⟨ret_int HF.out, HB.out⟩
  · rw [decide_eq_false hg]
    obtain ⟨f, hf⟩ : ∃ f : Int, f = (gs.length : Int) - 1 := ⟨_, rfl⟩
    have FE : Hid (fromG T g = f) := Lib.hid (by unfold fromG; rw [if_neg hg, hf, Hgl.out])
    have FB : Hid (0 < gs.length → 0 ≤ f ∧ f < gs.length) := Lib.hid (fun _ => by omega)
    clear hg
    have hfs := hf.symm
    have HFS := Lib.hid hf
    clear hf
    go_wp2_with fail
    clear hfs
    go_loopw [20] (fun i wr => ∃ j : Nat, j ≤ gs.length ∧ i = .int .i64 j ∧ (∀ i, i < j → folC T g want i = false) ∧ Below w.heap.size w wr ∧ wr.heap[w.heap.size]? = some (.cells c.toArray 33 (0, 0))) (fun i _ => gs.length - (intOf i).toNat)
    case atStart => exact ⟨0, by omega, rfl, (fun i h => by omega), B0.out, B1.out⟩
    case round =>
      obtain ⟨j, hj, rfl, hall, hbel, hblk⟩ := hrel
      have HA := Lib.hid hall
      have HB := Lib.hid hbel
      have LT : Hid (Lies wr ⟨w.heap.size, 0, none⟩ c) := Lib.hid (by have := Row.lies_of_block hblk; simpa using this)
      have HK := Lib.hid hblk
      clear hall hbel hblk
      by_cases hjl : j < gs.length
      · obtain ⟨kf, hkf, hkl⟩ : ∃ kf : Nat, f = (kf : Int) ∧ kf < gs.length := by
          have := FB.out (by omega)
          exact ⟨f.toNat, by omega, by omega⟩
        have htm : ((kf : Int) + 1 + (j : Int)).tmod (gs.length : Int) = ((kf : Int) + 1 + (j : Int)) % (gs.length : Int) := Int.tmod_eq_emod_of_nonneg (by omega)
        have HZ : Hid (((kf : Int) + 1 + (j : Int)) % (gs.length : Int) = (fromG T g + 1 + j) % T.groups.length) := Lib.hid (by rw [FE.out, hkf, Hgl.out])
        have hz0 : 0 ≤ ((kf : Int) + 1 + (j : Int)) % (gs.length : Int) := Int.emod_nonneg _ (by omega)
        have hz1 : ((kf : Int) + 1 + (j : Int)) % (gs.length : Int) < (gs.length : Int) := Int.emod_lt_of_pos _ (by omega)
        generalize hzz : ((kf : Int) + 1 + (j : Int)) % (gs.length : Int) = z at htm HZ hz0 hz1
        clear hzz
        have HKF := Lib.hid hkf
        subst hkf
        have hn0 : (gs.length : Int) ≠ 0 := by omega
        go_wp2_with (refine Row.wpList_load_g 33 _ rfl (by first | rfl | go_simp) ⟨w.heap.size, 0, none⟩ rfl c _ LT.out Try.underlying33 rfl IA.out ?_)
        refine (MB.out z _ HB.out).mono ?_
        rintro e u2 ⟨rfl, hb⟩
        have HB2 : Hid (Below w.heap.size w u2) := Lib.hid (HB.out.trans (hb.mono HB.out.size))
        have HK2 : Hid (u2.heap[w.heap.size]? = some (.cells c.toArray 33 (0, 0))) := Lib.hid ((hb.block _ (Array.getElem?_eq_some_iff.1 HK.out).1).trans HK.out)
        have FC : Hid (folC T g want j = decide (bits .and .i64 (membS T z : Nat) want ≠ 0)) := Lib.hid (by unfold folC; rw [HZ.out])
        clear hb LT HK htm
        generalize ((membS T z : Nat) : Int) = m at FC ⊢
        by_cases hm : bits .and .i64 m want = 0
        · have FC2 : Hid (folC T g want j = false) := Lib.hid (by rw [FC.out, hm]; rfl)
          go_wp2
          go_roundw
          case rel => exact ⟨j + 1, by omega, by go_num, (fun i hi => by
            by_cases e2 : i = j
            · subst e2; exact FC2.out
            · exact HA.out i (by omega)), HB2.out, HK2.out⟩
          case measure => simp [intOf]; omega
        · have FC2 : Hid (folC T g want j = true) := Lib.hid (by rw [FC.out]; exact decide_eq_true hm)
          have HF : Hid (z = res) := Lib.hid (by rw [NS.out, HZ.out]; exact (follow_hit (by rw [Hgl.out]; exact hjl) FC2.out HA.out).symm)
          go_wp2
          go_ret
          exact ⟨ret_int HF.out, HB2.out⟩
      · have HF : Hid (-1 = res) := Lib.hid (by rw [NS.out]; exact (follow_miss (fun i hi => HA.out i (by rw [Hgl.out] at hi; omega))).symm)
        go_wp2
        go_ret
        exact ⟨ret_int HF.out, HB.out⟩
end Go.Proofs.Ytfnpcfibgabmfaa.PlanF
/- The contract of plan.On. -/
namespace Go.Proofs.Ytfnpcfibgabmfaa.PlanO
open Go.ChangeShapes Go.WideShapes Go.ChangeAt Go.RowKit
open Tab PlaceM PlanM OnS PlanC
open May (infoP St)
open SetP (with_any)
set_option linter.unusedVariables false
set_option linter.unusedSimpArgs false
theorem on_with {l : List Ph} {q : Nat} {p : Ph} (h : l[q]? = some p) (hp : p.on = true) : SetM.withN (SetM.of (onTo 0 (l.take q)) : Nat) q = SetM.of (onTo 0 (l.take (q + 1))) := by
  rw [on_step h, hp, if_pos rfl, SetM.with_of]
theorem on_skip {l : List Ph} {q : Nat} {p : Ph} (h : l[q]? = some p) (hp : p.on = false) : SetM.of (onTo 0 (l.take (q + 1))) = SetM.of (onTo 0 (l.take q)) := by
  rw [on_step h, hp]; simp
set_option maxRecDepth 100000 in
set_option maxHeartbeats 4000000 in
theorem pon_any (T : Tab) (h : Hd) (w : World) (ht : IsTab w h T) :
    Calls Try.prog 27 #[.agg (T.cells h).toArray] w fun e w' => e = .returned (.int .i64 (onS T : Nat)) ∧ Below w.heap.size w w' := by
  have C := Lib.hid (cells_ok ht)
  generalize (T.cells h).toArray = cs at C ⊢
  have hsz := C.out.size
  have L8 := Lib.hid ht.ph
  have S0 := Lib.hid (St.box (cs := cs) ht)
  have RS : Hid ((onS T : Nat) = SetM.of (onTo 0 T.phases)) := Lib.hid rfl
  have IX : Hid (∀ (q : Nat) u, T.phases[q]? = some u → ∀ W, Sem.run Try.prog (Instr.index 26 (.agg (T.phases.flatMap Ph.cells).toArray) (.int .i64 q)) W = .ok (.agg u.cells.toArray) W) := Lib.hid (fun q u hu W => idx_phase L8.out hu W)
  have LI : Hid ((Try.prog.info? 26).map (·.size) = some (T.phases.flatMap Ph.cells).length) := Lib.hid (by rw [phases_len, L8.out]; exact infoPs)
  generalize onS T = r at RS ⊢
  clear ht
  go_enter Try.func27, Try.ntmps27
  go_upto_region 1 with fail
  generalize w.alloc (.cells cs 33) = w1 at S0 ⊢
  clear hsz
  have LT : Hid (Lies w1 ⟨w.heap.size, 0, none⟩ (T.phases.flatMap Ph.cells)) := Lib.hid (lies_take S0.out.blk 104 _ C.out.phases)
  generalize T.phases.flatMap Ph.cells = fl at IX LI LT
  go_wp2_with (refine Row.wpList_load_g 26 _ rfl (by first | rfl | go_simp) ⟨w.heap.size, 0, none⟩ rfl fl _ LT.out Try.underlying26 rfl LI.out ?_)
  go_loopw [3, 8] (fun v g wr => ∃ q : Nat, q ≤ 8 ∧ g = .int .i64 q ∧ v = .int .i64 (SetM.of (onTo 0 (T.phases.take q)) : Nat) ∧ Below w1.heap.size w1 wr) (fun _ g _ => 8 - (intOf g).toNat)
  case atStart => exact ⟨0, by omega, rfl, rfl, Below.refl _ _⟩
  case round =>
    obtain ⟨q, hq, rfl, rfl, hbel⟩ := hrel
    have HB := Lib.hid hbel
    clear hbel
    by_cases hlt : q < 8
    · have hv : T.phases[q]? = some (T.phases[q]'(by rw [L8.out]; exact hlt)) := List.getElem?_eq_getElem _
      generalize T.phases[q]'(by rw [L8.out]; exact hlt) = u at hv
      have HV := Lib.hid hv
      have hidx := IX.out q u hv
      clear hv
      have hsz := HB.out.size
      go_upto_region 5 with (refine Row.wpList_store_new rfl 25 _ _ rfl wr _ u.cells.toArray rfl rfl rfl infoP rfl (Ph.one _) ?_)
      clear hidx
      have hbn : Below w1.heap.size w1 (wr.alloc (.cells u.cells.toArray 25)) := HB.out.alloc hsz _
      have hg := Row.lies_of_block (heap_alloc_new wr (.cells u.cells.toArray 25))
      have HL := Lib.hid hg
      have HN := Lib.hid hbn
      clear hg hbn HB
      generalize wr.alloc (.cells u.cells.toArray 25) = w4 at HL HN ⊢
      generalize wr.heap.size = b4 at HL ⊢
      have c0 : w4.cell? ⟨b4, 0, none⟩ = some (.bool u.on) := by
        have := HL.out 0 _ rfl
        rwa [Tab.add_zero] at this
      cases hon : u.on with
      | true =>
        rw [hon] at c0
        have HS := Lib.hid (on_with HV.out hon)
        clear hon
        generalize SetM.of (onTo 0 (T.phases.take q)) = s0 at HS ⊢
        go_wp2_with (go_at_call 79; refine (with_any _ _ _).mono ?_; rintro e w' ⟨rfl, rfl⟩)
        go_roundw
        case rel => exact ⟨q + 1, by omega, by go_num, by rw [← HS.out], HN.out⟩
        case measure => simp [intOf]; omega
      | false =>
        rw [hon] at c0
        have HS := Lib.hid (on_skip HV.out hon)
        clear hon
        generalize SetM.of (onTo 0 (T.phases.take q)) = s0 at HS ⊢
        go_wp2
        go_roundw
        case rel => exact ⟨q + 1, by omega, by go_num, by rw [← HS.out], HN.out⟩
        case measure => simp [intOf]; omega
    · have HE : Hid (SetM.of (onTo 0 (T.phases.take q)) = r) := Lib.hid (by rw [RS.out, List.take_of_length_le (by rw [L8.out]; omega)])
      have HF : Hid (Below w.heap.size w wr) := Lib.hid (S0.out.bel.trans (HB.out.mono S0.out.bel.size))
      generalize SetM.of (onTo 0 (T.phases.take q)) = s0 at HE ⊢
      go_wp2
      go_ret
      exact ⟨ret_int (by rw [HE.out]), HF.out⟩
end Go.Proofs.Ytfnpcfibgabmfaa.PlanO
