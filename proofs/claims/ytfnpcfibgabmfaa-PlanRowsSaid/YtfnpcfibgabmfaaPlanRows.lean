/- PlanRows returns true at any numbers: from place to place of a row of the table by numbers all phases of a set come, in order, each once. No condition. -/
import Derived.Test.YtfnpcfibgabmfaaRows
import Derived.Test.YtfnpcfibgabmfaaPart09
import Derived.Test.YtfnpcfibgabmfaaPart10
import Derived.Test.YtfnpcfibgabmfaaPart05
import Derived.Deep.Cut
import Derived.LoopTactic
import Derived.WalkKit
import Derived.WalkLawsBesides
import Derived.ProofKit
import Derived.OpenShut
import Derived.ShutString
import Derived.ChangeOld
import Derived.Below
set_option linter.unusedVariables false
set_option linter.unusedSimpArgs false
set_option linter.unusedSectionVars false
namespace Go.Proofs.Ytfnpcfibgabmfaa.planRows
open Go.ChangeShapes Go.WideShapes Go.ChangeAt Go.RowKit
open Tab PlaceM PlanM GenT GenG
open May (infoT)
set_option linter.unusedVariables false
set_option linter.unusedSimpArgs false

theorem own : ownKnob Try.prog.godebug = none := by kernel_rfl
theorem laidOut : laidOutB Try.prog = true := by kernel_rfl

/-- WHAT THE WALK IS TOLD OF A SLICE OF INTEGERS THAT CAME IN: it is nil; or it leads to a row of 'cap' cells, the numbers 'zs' (the first 'len' are its elements, the rest its spare room), each fitting its kind. -/
def IsRow (k : IntKind) (w : World) (a : Option Addr) (len cap : Nat) (zs : List Int) : Prop :=
  (a = none ∧ len = 0 ∧ cap = 0 ∧ zs = []) ∨
  ∃ x, a = some x ∧ len ≤ cap ∧ cap ≤ maxLen ∧ zs.length = cap ∧ (∀ i, i < zs.length → w.cell? (x.add i) = some (.int k (zs.getD i 0))) ∧ ∀ n ∈ zs, (Lit.int k n).wf = true

theorem isRow_int {w : World} {a : Option Addr} {len cap : Nat} {zs : List Int} (h : IsRow .i64 w a len cap zs) : (zs.take len).length = len ∧ Tab.IntRow w ⟨a, cap⟩ (zs.take len) := by
  rcases h with ⟨rfl, rfl, rfl, rfl⟩ | ⟨x, rfl, h1, h2, h3, h4, _⟩
  · exact ⟨rfl, .inl ⟨rfl, rfl, rfl⟩⟩
  · have hl : (zs.take len).length = len := by rw [List.length_take]; omega
    refine ⟨hl, .inr ⟨x, rfl, by rw [hl]; exact h1, h2, fun i v hv j u hu => ?_⟩⟩
    have hi : i < len := by have := (List.getElem?_eq_some_iff.1 hv).1; omega
    match j, hu with
    | 0, hu =>
      simp at hu
      subst hu
      rw [List.getElem?_take, if_pos hi] at hv
      have := h4 i (by omega)
      rw [List.getD_eq_getElem?_getD, hv] at this
      rw [Nat.mul_one, Tab.add_two, Nat.add_zero]
      exact this
    | j + 1, hu => simp at hu

/-! ### the walk -/
set_option maxRecDepth 10000 in
set_option maxHeartbeats 8000000 in
theorem walk (a0 : Option Addr) (len0 cap0 : Nat) (z0 : List Int) (a1 : Int) (a2 : Int) (a3 : Int) (w : World) (w0 : IsRow .i64 w a0 len0 cap0 z0) (w1 : (Lit.int .i64 a1).wf = true) (w2 : (Lit.int .i64 a2).wf = true) (w3 : (Lit.int .i64 a3).wf = true) :
    Calls Try.prog 7 #[.slice a0 len0 cap0, .int .i64 a1, .int .i64 a2, .int .i64 a3] w fun e w' => e = .returned (.bool true) ∧ Below w.heap.size w w' := by
  obtain ⟨hlen, hrow⟩ := isRow_int w0
  obtain ⟨L, hL⟩ : ∃ L, L = z0.take len0 := ⟨_, rfl⟩
  rw [← hL] at hlen hrow
  clear hL w0
  subst hlen
  have hz := (zero_of_info GenT.infoTz).1
  have hZs : (Clone.zTab.cells Clone.zHd).length = 131 := rfl
  generalize hZ : GenT.zTab.cells GenT.zHd = Z at *
  have ZS : Z.toArray.size = 131 := by rw [← hZ]; rfl
  clear hZ hZs
  have G8 := Lib.hid (GenT.genTab_few L)
  go_enter Try.func7, Try.ntmps7
  go_wp2_with fail
  refine (GenT.table_any a0 cap0 L w hrow).mono ?_
  rintro e u0 ⟨hd, rfl, ht, hb⟩
  have CS := GenT.cells_cut hd ht.ph ht.cf ht.fl
  have ON := (cells_ok ht).one
  have HT : Hid (∀ W, Below u0.heap.size u0 W → IsTab W hd (genTab L)) := Lib.hid (fun W hb => ht.below hb)
  have B0 := Lib.hid hb
  have IA : Hid ((Try.prog.info? 33).map (·.size) = some ((genTab L).cells hd).length) := Lib.hid (by rw [CS]; exact infoT)
  clear hb ht
  generalize hc : (genTab L).cells hd = c at *
  have HC := Lib.hid hc
  clear hc
  go_upto_region 2 with (refine Row.wpList_store_new rfl 33 _ _ rfl u0 Z.toArray c.toArray rfl rfl rfl (by rw [List.size_toArray]; exact IA.out) (by rw [ZS, List.size_toArray, CS]) ON ?_)
  have hb2 : Below u0.heap.size u0 (u0.alloc (.cells c.toArray 33)) := (Below.refl _ _).alloc (Nat.le_refl _) _
  have hl : Lies (u0.alloc (.cells c.toArray 33)) ⟨u0.heap.size, 0, none⟩ c := Row.lies_new _ _ _
  have hs : u0.heap.size < (u0.alloc (.cells c.toArray 33)).heap.size := by simp
  have TB0 : Hid (∀ W, Below (u0.alloc (.cells c.toArray 33)).heap.size (u0.alloc (.cells c.toArray 33)) W → IsTab W hd (genTab L)) := Lib.hid (fun W hb => HT.out W (hb2.trans (hb.mono hb2.size)))
  generalize u0.alloc (.cells c.toArray 33) = u at hb2 hl hs TB0 ⊢
  have TB : Hid (∀ W, Below u.heap.size u W → IsTab W hd (genTab L)) := TB0
  have A0 : Hid (Below w.heap.size w u) := Lib.hid (B0.out.trans (hb2.mono B0.out.size))
  have A1 : Hid (∀ W, Below u.heap.size u W → Lies W ⟨u0.heap.size, 0, none⟩ c) := Lib.hid (fun W hb => Lies.below hl hb)
  clear hb2 hl hs TB0 HT B0 hrow hz ZS ON CS
  generalize u0.heap.size = tb at *
  obtain ⟨gs, hgd, hgr⟩ := (TB.out u (Below.refl _ _)).groups
  have GL : Hid (gs.length = genG L) := Lib.hid (by have := congrArg List.length hgd; rw [List.length_map, genTab_groups, genGs_len] at this; exact this)
  obtain ⟨G1, G3⟩ := genG_range L
  have c104 : u.cell? ⟨tb, 104, none⟩ = some (hd.g.val (genTab L).groups.length) := by
    have := A1.out u (Below.refl _ _) 104 (hd.g.val (genTab L).groups.length) (by rw [← HC.out, ← List.getElem?_toArray]; exact (cells_ok (TB.out u (Below.refl _ _))).g)
    rwa [Addr.add_mid, Nat.zero_add] at this
  rw [genTab_groups, genGs_len] at c104
  have HGR := Lib.hid hgr
  have HGD := Lib.hid hgd
  clear hgr hgd
  obtain ⟨⟨ga, gc⟩, hdd, hdr, hdb⟩ := hd
  generalize hn : genG L = n at *
  have c104' : u.cell? ⟨tb, 104, none⟩ = some (.slice ga n gc) := c104
  clear hn c104
  go_wp2_with fail
  refine (RefS.place_any a1 n u (by omega) (by omega)).mono ?_
  rintro e w' ⟨rfl, rfl⟩
  obtain ⟨g, hg⟩ := Int.eq_ofNat_of_zero_le (Int.emod_nonneg a1 (show (n : Int) ≠ 0 by omega))
  have hgn : g < n := by have := Int.emod_lt_of_pos a1 (show (0 : Int) < n by omega); omega
  rw [hg]
  clear hg
  go_wp2_with fail
  refine (RefS.place_any a2 2 u (by omega) (by omega)).mono ?_
  rintro e w' ⟨rfl, rfl⟩
  have hk : a2 % 2 = 0 ∨ a2 % 2 = 1 := by omega
  have hv := List.getElem?_eq_getElem (show g < gs.length by rw [GL.out]; exact hgn)
  obtain ⟨x, hx, hcc⟩ := HGR.out.1.at hv
  have hok := HGR.out.2 _ (List.getElem_mem (show g < gs.length by rw [GL.out]; exact hgn))
  have HD : Hid ((genTab L).groups[g]? = some (gs[g]'(by rw [GL.out]; exact hgn)).data) := Lib.hid (by rw [← HGD.out, List.getElem?_map, hv]; rfl)
  generalize gs[g]'(by rw [GL.out]; exact hgn) = gr at *
  obtain ⟨l0, l1, ⟨r0, p0⟩, ⟨r1, p1⟩⟩ := gr
  have hx' : ga = some x := hx
  subst hx'
  have c0 := hcc 0 _ rfl
  have c1 := hcc 1 _ rfl
  rw [Tab.add_zero] at c0
  rw [Tab.add_one] at c1
  have R0 : Hid (IntRow u ⟨r0, p0⟩ l0) := Lib.hid hok.1
  have R1 : Hid (IntRow u ⟨r1, p1⟩ l1) := Lib.hid hok.2
  have C0 : Hid (u.cell? (x.add (g * 2)) = some (.slice r0 l0.length p0)) := Lib.hid c0
  have C1 : Hid (u.cell? ⟨(x.add (g * 2)).block, (x.add (g * 2)).off + 1, none⟩ = some (.slice r1 l1.length p1)) := Lib.hid c1
  clear hcc hok hv hx c0 c1 HGR HGD GL
  rcases hk with hk | hk
  · rw [hk]
    clear hk
    have RA : Hid (ringAt (genTab L) g 0 = l0) := Lib.hid (by unfold ringAt; rw [rows_in HD.out]; rfl)
    have NC : Hid (∀ (at_ : Int) W, Below u.heap.size u W → Calls Try.prog 29 #[.agg c.toArray, .int .i64 g, .int .i64 0, .int .i64 at_, .int .i64 a3] W fun e w' => e = .returned (.int .i64 (nextIn l0 at_ a3)) ∧ Below W.heap.size W w') := Lib.hid (fun at_ W hb => by
      have := PlanN.next_any (genTab L) ⟨⟨some x, gc⟩, hdd, hdr, hdb⟩ g 0 at_ a3 W (TB.out W hb)
      rw [HC.out, nextS, RA.out] at this
      exact this)
    have K := R0.out.len
    unfold maxLen at K
    have c0 := C0.out
    clear TB HC HD RA
    go_upto_region 7 with fail
    go_loopw [8, 13, 14] (fun s8 s13 i wr => ∃ q : Nat, q ≤ l0.length ∧ i = .int .i64 q ∧ s8 = .bool false ∧ Below u.heap.size u wr ∧ ∃ at_ : Int, s13 = .int .i64 at_ ∧ -1 ≤ at_ ∧ at_ < q ∧ ∀ j : Nat, at_ < j → j < q → SetM.has a3 (l0.getD j 0) = false) (fun _ _ i _ => l0.length - (intOf i).toNat)
    case atStart => exact ⟨0, by omega, rfl, rfl, Below.refl _ _, -1, rfl, by omega, by omega, fun j _ h => by omega⟩
    case round =>
      obtain ⟨q, hq, rfl, rfl, hb, at_, rfl, ha0, ha1, han⟩ := hrel
      have HB := Lib.hid hb
      have HN := Lib.hid han
      clear hb han
      by_cases hlt : q < l0.length
      · obtain ⟨y, hy, hcy⟩ := IntRow.at (R0.out.below HB.out) (i := q) (v := l0.getD q 0) (by rw [List.getD_eq_getElem?_getD, List.getElem?_eq_getElem hlt]; rfl)
        have hy' : r0 = some y := hy
        subst hy'
        generalize hp : l0.getD q 0 = p at hcy
        have HP := Lib.hid hp
        clear hp hy
        go_wp2_with fail
        refine (RefS.rhas_any a3 p wr).mono ?_
        rintro e w' ⟨rfl, rfl⟩
        by_cases hh : SetM.has a3 p = true
        · have NX : Hid (nextIn l0 at_ a3 = q) := Lib.hid (next_hit hlt ha1 (by rw [HP.out]; exact hh) (fun j hj e => by have := HN.out j e.1 hj; rw [this] at e; exact absurd e.2 (by simp)))
          rw [hh]
          clear hh
          go_wp2_with (refine Row.wpList_load_g 33 _ rfl (by first | rfl | go_simp) ⟨tb, 0, none⟩ rfl c _ (A1.out _ HB.out) Try.underlying33 rfl IA.out ?_)
          refine (NC.out at_ _ HB.out).mono ?_
          rintro e w2 ⟨rfl, hb⟩
          rw [NX.out]
          have HB2 := Lib.hid (HB.out.trans (hb.mono HB.out.size))
          clear hb HB NX
          go_wp2
          go_roundw
          case rel => exact ⟨q + 1, by omega, by go_num, rfl, HB2.out, q, rfl, by omega, by omega, fun j h1 h2 => by omega⟩
          case measure => simp [intOf]; omega
        · have hf : SetM.has a3 p = false := by simpa using hh
          have HF := Lib.hid hf
          rw [hf]
          clear hh hf
          go_wp2
          go_roundw
          case rel => exact ⟨q + 1, by omega, by go_num, rfl, HB.out, at_, rfl, ha0, by omega, fun j h1 h2 => by
            by_cases e : j < q
            · exact HN.out j h1 e
            · obtain rfl : j = q := by omega
              rw [HP.out]; exact HF.out⟩
          case measure => simp [intOf]; omega
      · have NX : Hid (nextIn l0 at_ a3 = -1) := Lib.hid (next_miss (fun j hj e => by have := HN.out j e.1 (by omega); rw [this] at e; exact absurd e.2 (by simp)))
        have NC2 : Hid (∀ W, Below u.heap.size u W → Calls Try.prog 29 #[.agg c.toArray, .int .i64 g, .int .i64 0, .int .i64 at_, .int .i64 a3] W fun e w' => e = .returned (.int .i64 (-1)) ∧ Below W.heap.size W w') := Lib.hid (by rw [← NX.out]; exact NC.out at_)
        clear NX NC HN
        go_wp2_with (refine Row.wpList_load_g 33 _ rfl (by first | rfl | go_simp) ⟨tb, 0, none⟩ rfl c _ (A1.out _ HB.out) Try.underlying33 rfl IA.out ?_)
        refine (NC2.out _ HB.out).mono ?_
        rintro e w2 ⟨rfl, hb⟩
        have HB2 := Lib.hid (HB.out.trans (hb.mono HB.out.size))
        clear hb HB NC2
        go_wp2_with fail
        refine (Wa8.awake_any _).mono ?_
        rintro e w3 ⟨rfl, hb⟩
        have E := Lib.hid (A0.out.trans ((HB2.out.trans (hb.mono HB2.out.size)).mono A0.out.size))
        clear hb HB2
        go_wp2
        go_ret
        exact ⟨rfl, E.out⟩
  · rw [hk]
    clear hk
    have RA : Hid (ringAt (genTab L) g 1 = l1) := Lib.hid (by unfold ringAt; rw [rows_in HD.out]; rfl)
    have NC : Hid (∀ (at_ : Int) W, Below u.heap.size u W → Calls Try.prog 29 #[.agg c.toArray, .int .i64 g, .int .i64 1, .int .i64 at_, .int .i64 a3] W fun e w' => e = .returned (.int .i64 (nextIn l1 at_ a3)) ∧ Below W.heap.size W w') := Lib.hid (fun at_ W hb => by
      have := PlanN.next_any (genTab L) ⟨⟨some x, gc⟩, hdd, hdr, hdb⟩ g 1 at_ a3 W (TB.out W hb)
      rw [HC.out, nextS, RA.out] at this
      exact this)
    have K := R1.out.len
    unfold maxLen at K
    have c1 := C1.out
    clear TB HC HD RA
    go_upto_region 7 with fail
    go_loopw [8, 13, 14] (fun s8 s13 i wr => ∃ q : Nat, q ≤ l1.length ∧ i = .int .i64 q ∧ s8 = .bool false ∧ Below u.heap.size u wr ∧ ∃ at_ : Int, s13 = .int .i64 at_ ∧ -1 ≤ at_ ∧ at_ < q ∧ ∀ j : Nat, at_ < j → j < q → SetM.has a3 (l1.getD j 0) = false) (fun _ _ i _ => l1.length - (intOf i).toNat)
    case atStart => exact ⟨0, by omega, rfl, rfl, Below.refl _ _, -1, rfl, by omega, by omega, fun j _ h => by omega⟩
    case round =>
      obtain ⟨q, hq, rfl, rfl, hb, at_, rfl, ha0, ha1, han⟩ := hrel
      have HB := Lib.hid hb
      have HN := Lib.hid han
      clear hb han
      by_cases hlt : q < l1.length
      · obtain ⟨y, hy, hcy⟩ := IntRow.at (R1.out.below HB.out) (i := q) (v := l1.getD q 0) (by rw [List.getD_eq_getElem?_getD, List.getElem?_eq_getElem hlt]; rfl)
        have hy' : r1 = some y := hy
        subst hy'
        generalize hp : l1.getD q 0 = p at hcy
        have HP := Lib.hid hp
        clear hp hy
        go_wp2_with fail
        refine (RefS.rhas_any a3 p wr).mono ?_
        rintro e w' ⟨rfl, rfl⟩
        by_cases hh : SetM.has a3 p = true
        · have NX : Hid (nextIn l1 at_ a3 = q) := Lib.hid (next_hit hlt ha1 (by rw [HP.out]; exact hh) (fun j hj e => by have := HN.out j e.1 hj; rw [this] at e; exact absurd e.2 (by simp)))
          rw [hh]
          clear hh
          go_wp2_with (refine Row.wpList_load_g 33 _ rfl (by first | rfl | go_simp) ⟨tb, 0, none⟩ rfl c _ (A1.out _ HB.out) Try.underlying33 rfl IA.out ?_)
          refine (NC.out at_ _ HB.out).mono ?_
          rintro e w2 ⟨rfl, hb⟩
          rw [NX.out]
          have HB2 := Lib.hid (HB.out.trans (hb.mono HB.out.size))
          clear hb HB NX
          go_wp2
          go_roundw
          case rel => exact ⟨q + 1, by omega, by go_num, rfl, HB2.out, q, rfl, by omega, by omega, fun j h1 h2 => by omega⟩
          case measure => simp [intOf]; omega
        · have hf : SetM.has a3 p = false := by simpa using hh
          have HF := Lib.hid hf
          rw [hf]
          clear hh hf
          go_wp2
          go_roundw
          case rel => exact ⟨q + 1, by omega, by go_num, rfl, HB.out, at_, rfl, ha0, by omega, fun j h1 h2 => by
            by_cases e : j < q
            · exact HN.out j h1 e
            · obtain rfl : j = q := by omega
              rw [HP.out]; exact HF.out⟩
          case measure => simp [intOf]; omega
      · have NX : Hid (nextIn l1 at_ a3 = -1) := Lib.hid (next_miss (fun j hj e => by have := HN.out j e.1 (by omega); rw [this] at e; exact absurd e.2 (by simp)))
        have NC2 : Hid (∀ W, Below u.heap.size u W → Calls Try.prog 29 #[.agg c.toArray, .int .i64 g, .int .i64 1, .int .i64 at_, .int .i64 a3] W fun e w' => e = .returned (.int .i64 (-1)) ∧ Below W.heap.size W w') := Lib.hid (by rw [← NX.out]; exact NC.out at_)
        clear NX NC HN
        go_wp2_with (refine Row.wpList_load_g 33 _ rfl (by first | rfl | go_simp) ⟨tb, 0, none⟩ rfl c _ (A1.out _ HB.out) Try.underlying33 rfl IA.out ?_)
        refine (NC2.out _ HB.out).mono ?_
        rintro e w2 ⟨rfl, hb⟩
        have HB2 := Lib.hid (HB.out.trans (hb.mono HB.out.size))
        clear hb HB NC2
        go_wp2_with fail
        refine (Wa8.awake_any _).mono ?_
        rintro e w3 ⟨rfl, hb⟩
        have E := Lib.hid (A0.out.trans ((HB2.out.trans (hb.mono HB2.out.size)).mono A0.out.size))
        clear hb HB2
        go_wp2
        go_ret
        exact ⟨rfl, E.out⟩

/-! ### the row's step -/
set_option maxRecDepth 100000 in
theorem lifted (os : Os) (started : os.Started) (H : Type) (enc : TypeId × Value → H) :
    ReturnsInHanded {} Try.checked os 7 .any (Rows.planRowsSpec.pre6 enc Try.prog Try.f7 Rows.planRowsRow.domain false) (Rows.planRowsSpec.post enc Try.prog Try.f7 false true false false) := by
  refine returnsInHanded_of_change (C := Try.checked) own started (by kernel_rfl) Try.func7
    (ChangeSpec.witness6 (enc := enc) (C := Try.checked) false ⟨#[], #[.slice none 0 0, .int .i64 0, .int .i64 0, .int .i64 0], []⟩ 8 (by kernel_rfl) (by kernel_rfl) (by kernel_rfl) (by kernel_rfl)) ?_
  intro W base args ds gs before hval0 hW hcnd _
  have hval : ∀ (j : Nat) t v, Try.f7.params[j]? = some t → args[j]? = some v → Value.okWide Try.prog W .any base t v := hval0
  have hW' := hW
  obtain ⟨p, q, hA0, hV, rfl, hfz, hnd⟩ := hW
  have hA : DataW.TrodAll enc Try.prog W 0 (fun _ => true) true Try.f7.params.toList args.toList ds p := hA0
  rw [Try.params7] at hA hval
  obtain ⟨v0, vs0, d0, ds0, p0, q0, hargs, rfl, rfl, h0, r0⟩ := trodAll_cons hA
  obtain ⟨v1, vs1, d1, ds1, p1, q1, rfl, rfl, rfl, h1, r1⟩ := trodAll_cons r0
  obtain ⟨v2, vs2, d2, ds2, p2, q2, rfl, rfl, rfl, h2, r2⟩ := trodAll_cons r1
  obtain ⟨v3, vs3, d3, ds3, p3, q3, rfl, rfl, rfl, h3, r3⟩ := trodAll_cons r2
  obtain ⟨rfl, rfl, rfl⟩ := trodAll_nil r3
  obtain rfl : args = #[v0, v1, v2, v3] := by cases args; simp_all
  obtain ⟨rfl, rfl⟩ := trodVars_none hV
  obtain ⟨a0, len0, cap0, rfl⟩ := okWide_slice Try.underlying22 (hval 0 22 v0 rfl rfl)
  have k0 := h0
  have lt0 : ∀ x ∈ p0, x.block < W.heap.size := by obtain ⟨m, hm⟩ := k0; exact DataW.trod_lt m _ _ _ hm
  obtain ⟨z0, w0⟩ : ∃ zs, IsRow .i64 W a0 len0 cap0 zs := by
    obtain ⟨fuel, hf⟩ := h0
    rcases open_ints Try.underlying22 Try.underlying3 (by kernel_rfl) hf with ⟨hcs, _⟩ | ⟨x, l, c, zs, hcs, _, hl, hm, hz, _, hcell, hwz⟩
    · simp [Value.cells] at hcs
      obtain ⟨rfl, rfl, rfl⟩ := hcs
      exact ⟨[], .inl ⟨rfl, rfl, rfl, rfl⟩⟩
    · simp [Value.cells] at hcs
      obtain ⟨rfl, rfl, rfl⟩ := hcs
      exact ⟨zs, .inr ⟨_, rfl, hl, hm, by simpa using hz, hcell, hwz⟩⟩
  obtain ⟨a1, rfl, rfl, rfl, w1⟩ := open_int Try.underlying3 (hval 1 3 v1 rfl rfl) h1
  obtain ⟨a2, rfl, rfl, rfl, w2⟩ := open_int Try.underlying3 (hval 2 3 v2 rfl rfl) h2
  obtain ⟨a3, rfl, rfl, rfl, w3⟩ := open_int Try.underlying3 (hval 3 3 v3 rfl rfl) h3
  clear hA0 hval0
  refine (walk a0 len0 cap0 z0 a1 a2 a3 W w0 w1 w2 w3).mono fun e W' ⟨he, bel⟩ => ?_
  subst he
  exact ⟨_, rfl, _, _, _, [], _, [], hW', trodAll_mk1 (shut_bool Try.underlying4 _), (trodAll_cons_mk (Below.trod laidOut (by kernel_rfl) (of_decide_eq_true (by kernel_rfl)) k0 bel lt0) (trodAll_cons_mk (shut_int Try.underlying3 w1) (trodAll_cons_mk (shut_int Try.underlying3 w2) (trodAll_cons_mk (shut_int Try.underlying3 w3) trodAll_mk0)))), rfl, bel.frame _, fun h => by cases h⟩

theorem over : Rows.planRowsRow.holds Try.pinned (OpenSpec.ofChange Rows.planRowsSpec) :=
  OpenClaim.holds_of_wide 7 Try.f7 rfl rfl rfl rfl rfl rfl rfl ⟨rfl, rfl, rfl, rfl, rfl⟩ rfl rfl rfl rfl rfl (by kernel_rfl) Try.func7 (by kernel_rfl)
    (of_decide_eq_true (by kernel_rfl)) (by unfold Func.isWrapper; first | (rw [if_pos (by decide +kernel)]; kernel_rfl) | (rw [if_neg (by decide +kernel)]; exact ⟨rfl, rfl⟩))
    (fun os started H enc _ => lifted os started H enc)

/-- the statement -/
theorem proved : Rows.PlanRowsSaid :=
  over
#print axioms proved
end Go.Proofs.Ytfnpcfibgabmfaa.planRows
