/- PlanRounds returns true at any numbers: from group to group all of the table by numbers that have a phase of a set come, in order, and then the first of them again. No condition. -/
import Derived.Test.YtfnpcfibgabmfaaRows
import Derived.Test.YtfnpcfibgabmfaaPart09
import Derived.Test.YtfnpcfibgabmfaaPart10
import Derived.Test.YtfnpcfibgabmfaaPart05
import Derived.Deep.Cut
import Derived.LoopTactic
import Derived.WalkKit
import Derived.WalkLawsBesides
import Derived.ProofKit
import Derived.OpenShut
import Derived.ShutString
import Derived.ChangeOld
import Derived.Below
set_option linter.unusedVariables false
set_option linter.unusedSimpArgs false
set_option linter.unusedSectionVars false
namespace Go.Proofs.Ytfnpcfibgabmfaa.planRounds
open Go.ChangeShapes Go.WideShapes Go.ChangeAt Go.RowKit
open Tab PlaceM PlanM GenT GenG
open May (infoT)
open Gath
open OnS (OwnsI)
set_option linter.unusedVariables false
set_option linter.unusedSimpArgs false

theorem own : ownKnob Try.prog.godebug = none := by kernel_rfl
theorem laidOut : laidOutB Try.prog = true := by kernel_rfl

/-- WHAT THE WALK IS TOLD OF A SLICE OF INTEGERS THAT CAME IN: it is nil; or it leads to a row of 'cap' cells, the numbers 'zs' (the first 'len' are its elements, the rest its spare room), each fitting its kind. -/
def IsRow (k : IntKind) (w : World) (a : Option Addr) (len cap : Nat) (zs : List Int) : Prop :=
  (a = none ∧ len = 0 ∧ cap = 0 ∧ zs = []) ∨
  ∃ x, a = some x ∧ len ≤ cap ∧ cap ≤ maxLen ∧ zs.length = cap ∧ (∀ i, i < zs.length → w.cell? (x.add i) = some (.int k (zs.getD i 0))) ∧ ∀ n ∈ zs, (Lit.int k n).wf = true

theorem isRow_int {w : World} {a : Option Addr} {len cap : Nat} {zs : List Int} (h : IsRow .i64 w a len cap zs) : (zs.take len).length = len ∧ Tab.IntRow w ⟨a, cap⟩ (zs.take len) := by
  rcases h with ⟨rfl, rfl, rfl, rfl⟩ | ⟨x, rfl, h1, h2, h3, h4, _⟩
  · exact ⟨rfl, .inl ⟨rfl, rfl, rfl⟩⟩
  · have hl : (zs.take len).length = len := by rw [List.length_take]; omega
    refine ⟨hl, .inr ⟨x, rfl, by rw [hl]; exact h1, h2, fun i v hv j u hu => ?_⟩⟩
    have hi : i < len := by have := (List.getElem?_eq_some_iff.1 hv).1; omega
    match j, hu with
    | 0, hu =>
      simp at hu
      subst hu
      rw [List.getElem?_take, if_pos hi] at hv
      have := h4 i (by omega)
      rw [List.getD_eq_getElem?_getD, hv] at this
      rw [Nat.mul_one, Tab.add_two, Nat.add_zero]
      exact this
    | j + 1, hu => simp at hu

/-! ### the walk -/
set_option maxRecDepth 10000 in
set_option maxHeartbeats 8000000 in
theorem walk (a0 : Option Addr) (len0 cap0 : Nat) (z0 : List Int) (a1 : Int) (a2 : Int) (w : World) (w0 : IsRow .i64 w a0 len0 cap0 z0) (w1 : (Lit.int .i64 a1).wf = true) (w2 : (Lit.int .i64 a2).wf = true) :
    Calls Try.prog 8 #[.slice a0 len0 cap0, .int .i64 a1, .int .i64 a2] w fun e w' => e = .returned (.bool true) ∧ Below w.heap.size w w' := by
  obtain ⟨hlen, hrow⟩ := isRow_int w0
  obtain ⟨L, hL⟩ : ∃ L, L = z0.take len0 := ⟨_, rfl⟩
  rw [← hL] at hlen hrow
  clear hL w0
  subst hlen
  have hz := (zero_of_info GenT.infoTz).1
  have hZs : (Clone.zTab.cells Clone.zHd).length = 131 := rfl
  generalize hZ : GenT.zTab.cells GenT.zHd = Z at *
  have ZS : Z.toArray.size = 131 := by rw [← hZ]; rfl
  clear hZ hZs
  have G8 := Lib.hid (GenT.genTab_few L)
  go_enter Try.func8, Try.ntmps8
  go_wp2_with fail
  refine (GenT.table_any a0 cap0 L w hrow).mono ?_
  rintro e u0 ⟨hd, rfl, ht, hb⟩
  have CS := GenT.cells_cut hd ht.ph ht.cf ht.fl
  have ON := (cells_ok ht).one
  have HT : Hid (∀ W, Below u0.heap.size u0 W → IsTab W hd (genTab L)) := Lib.hid (fun W hb => ht.below hb)
  have B0 := Lib.hid hb
  have IA : Hid ((Try.prog.info? 33).map (·.size) = some ((genTab L).cells hd).length) := Lib.hid (by rw [CS]; exact infoT)
  clear hb ht
  generalize hc : (genTab L).cells hd = c at *
  have HC := Lib.hid hc
  clear hc
  go_upto_region 2 with (refine Row.wpList_store_new rfl 33 _ _ rfl u0 Z.toArray c.toArray rfl rfl rfl (by rw [List.size_toArray]; exact IA.out) (by rw [ZS, List.size_toArray, CS]) ON ?_)
  have hb2 : Below u0.heap.size u0 (u0.alloc (.cells c.toArray 33)) := (Below.refl _ _).alloc (Nat.le_refl _) _
  have hl : Lies (u0.alloc (.cells c.toArray 33)) ⟨u0.heap.size, 0, none⟩ c := Row.lies_new _ _ _
  have hs : u0.heap.size < (u0.alloc (.cells c.toArray 33)).heap.size := by simp
  have TB0 : Hid (∀ W, Below (u0.alloc (.cells c.toArray 33)).heap.size (u0.alloc (.cells c.toArray 33)) W → IsTab W hd (genTab L)) := Lib.hid (fun W hb => HT.out W (hb2.trans (hb.mono hb2.size)))
  generalize u0.alloc (.cells c.toArray 33) = u at hb2 hl hs TB0 ⊢
  have TB : Hid (∀ W, Below u.heap.size u W → IsTab W hd (genTab L)) := TB0
  have A0 : Hid (Below w.heap.size w u) := Lib.hid (B0.out.trans (hb2.mono B0.out.size))
  have A1 : Hid (∀ W, Below u.heap.size u W → Lies W ⟨u0.heap.size, 0, none⟩ c) := Lib.hid (fun W hb => Lies.below hl hb)
  clear hb2 hl hs TB0 HT B0 hrow hz ZS ON CS
  generalize u0.heap.size = tb at *
  have GL : Hid ((genTab L).groups.length = genG L) := Lib.hid (by rw [genTab_groups, genGs_len])
  obtain ⟨G1, G3⟩ := genG_range L
  have c104 : u.cell? ⟨tb, 104, none⟩ = some (hd.g.val (genTab L).groups.length) := by
    have := A1.out u (Below.refl _ _) 104 (hd.g.val (genTab L).groups.length) (by rw [← HC.out, ← List.getElem?_toArray]; exact (cells_ok (TB.out u (Below.refl _ _))).g)
    rwa [Addr.add_mid, Nat.zero_add] at this
  rw [GL.out] at c104
  obtain ⟨i0, hi, hz0, hz1, hz2⟩ := info_parts RefS.info3
  obtain ⟨⟨ga, gc⟩, hdd, hdr, hdb⟩ := hd
  generalize genG L = n at *
  have Q104 : Hid (∀ W, Below u.heap.size u W → W.cell? ⟨tb, 104, none⟩ = some (.slice ga n gc)) := Lib.hid (fun W hb => (hb.cell (World.block_lt_of_cell? u _ c104)).trans c104)
  have MC : Hid (∀ (j : Nat) W, Below u.heap.size u W → Calls Try.prog 25 #[.agg c.toArray, .int .i64 j] W fun e w' => e = .returned (.int .i64 (membS (genTab L) j : Nat)) ∧ Below W.heap.size W w') := Lib.hid (fun j W hb => by rw [← HC.out]; exact PlanC.members_any (genTab L) _ j W (TB.out W hb))
  have BD : Hid (∀ j : Nat, PlanR.bOf (genTab L) a1 j = decide (bits .and .i64 (membS (genTab L) j : Nat) a1 ≠ 0)) := Lib.hid (fun j => rfl)
  have FC : Hid (∀ (x : Nat) W, x < n → Below u.heap.size u W → Calls Try.prog 31 #[.agg c.toArray, .int .i64 x, .int .i64 a1] W fun e w' => e = .returned (.int .i64 (PlanR.fol n (PlanR.bOf (genTab L) a1) x)) ∧ Below W.heap.size W w') := Lib.hid (fun x W hx hb => by
    have := PlanF.follow_any (genTab L) _ x a1 W (TB.out W hb) (by rw [GL.out]; omega)
    rw [HC.out, PlanR.follow_fol (genTab L) a1 GL.out hx] at this
    exact this)
  generalize PlanR.bOf (genTab L) a1 = b at *
  clear c104 TB HC GL G8
  have WS : Hid (∀ j, (PlanR.wl b (j + 1)).map (fun x : Nat => (x : Int)) = (PlanR.wl b j).map (fun x : Nat => (x : Int)) ++ (if b j = true then [(j : Int)] else [])) := Lib.hid (fun j => by rw [PlanR.wl_succ, List.map_append]; split <;> rfl)
  have WL : Hid (∀ j, ((PlanR.wl b j).map (fun x : Nat => (x : Int))).length ≤ j) := Lib.hid (fun j => by rw [List.length_map]; exact PlanR.wl_len b j)
  have W0' : Hid ((PlanR.wl b 0).map (fun x : Nat => (x : Int)) = []) := Lib.hid rfl
  obtain ⟨wi, WI⟩ : ∃ wi : Nat → List Int, Hid (∀ j, wi j = (PlanR.wl b j).map (fun x : Nat => (x : Int))) := ⟨_, Lib.hid (fun _ => rfl)⟩
  simp only [← WI.out] at WS WL W0'
  go_wp2_with fail
  go_loopw [8, 9] (fun v i wr => ∃ j : Nat, j ≤ n ∧ i = .int .i64 j ∧ OwnsI u.heap.size wr v (wi j) ∧ Below u.heap.size u wr) (fun _ i _ => n - (intOf i).toNat)
  case atStart => exact ⟨0, by omega, rfl, by rw [W0'.out]; exact Owns.nil, Below.refl _ _⟩
  case round =>
    obtain ⟨j, hj, rfl, hown, hbel⟩ := hrel
    have HO := Lib.hid hown
    have HB := Lib.hid hbel
    clear hown hbel
    have q104 := Q104.out _ HB.out
    by_cases hlt : j < n
    · have HS := Lib.hid (WS.out j)
      have hlen := WL.out j
      have HD := Lib.hid (BD.out j)
      generalize wi j = P1 at HO hlen HS
      go_wp2_with (refine Row.wpList_load_g 33 _ rfl (by first | rfl | go_simp) ⟨tb, 0, none⟩ rfl c _ (A1.out _ HB.out) Try.underlying33 rfl IA.out ?_)
      refine (MC.out j _ HB.out).mono ?_
      rintro e w5 ⟨rfl, hb⟩
      generalize membS (genTab L) j = m at *
      have HB5 := Lib.hid (HB.out.trans (hb.mono HB.out.size))
      have HO5 := Lib.hid (HO.out.below hb)
      have hsz5 := HB5.out.size
      clear hb HB HO q104
      by_cases hz : bits .and .i64 ((m : Nat) : Int) a1 = 0
      · have HS2 : Hid (wi (j + 1) = P1) := Lib.hid (by rw [HS.out, HD.out, if_neg (by simp [hz]), List.append_nil])
        have hzb : (bits .and .i64 ((m : Nat) : Int) a1 != 0) = false := by simp [hz]
        clear hz HD
        go_wp2
        go_roundw
        case rel => exact ⟨j + 1, by omega, by go_num, by rw [HS2.out]; exact HO5.out, HB5.out⟩
        case measure => simp [intOf]; omega
      · have HS2 : Hid (wi (j + 1) = P1 ++ [(j : Int)]) := Lib.hid (by rw [HS.out, HD.out, if_pos (by simp [hz])])
        have hzb : (bits .and .i64 ((m : Nat) : Int) a1 != 0) = true := by simpa using hz
        have hown2 : w5.ownsRow u.heap.size 3 1 u8 P1.length (P1.flatMap (fun n => [I n])) := HO5.out
        clear hz
        go_wp2_with (at_builtin; refine wpList_append_own _ rfl _ _ 22 rfl u.heap.size 3 i0 (.int .i64 0) 1 8 Try.underlying22 hi hz0 hz1 hz2 rfl (by decide) _ _ _ rfl (hown2.alloc _) ⟨w5.heap.size, 0, none⟩ 1 1 [.int .i64 j] rfl rfl ?c1 ?c2 ?c3 ?c4 ?c5 ?_)
        case c1 =>
          intro m q hm
          match m, hm with
          | 0, hm => simp at hm; subst hm; simp [Addr.add]
        case c2 => intro q hq; simp at hq; subst hq; rfl
        case c3 => unfold maxLen; omega
        case c4 => omega
        case c5 => simp; omega
        intro v' w6 hown' hgrow hnil'
        have HB6 : Hid (Below u.heap.size u w6) := Lib.hid ((HB5.out.alloc hsz5 _).grown hgrow (by simp; omega) fun m hm => (show OwnsI u.heap.size w5 u8 P1 from hown2).blk m hm)
        have HO6 : Hid (OwnsI u.heap.size w6 v' (P1 ++ [(j : Int)])) := Lib.hid (Owns.snoc hown')
        clear hown' hgrow hown2 hnil'
        go_wp2
        go_roundw
        case rel => exact ⟨j + 1, by omega, by go_num, by rw [HS2.out]; exact HO6.out, HB6.out⟩
        case measure => simp [intOf]; omega
    · have hje : j = n := by omega
      subst hje
      obtain ⟨⟨sa, sc⟩, hs, hrow⟩ := HO.out.row (enc := fun n => [I n]) (fun _ => rfl)
      have HR := Lib.hid hrow
      have hlen := WL.out j
      have EW : Hid (wi j = (PlanR.wl b j).map (fun x : Nat => (x : Int))) := Lib.hid (WI.out j)
      have KA : Hid (∀ g k : Nat, g < j → k ≤ (wi j).length → (∀ q, q < k → (wi j).getD q 0 ≤ g) → (k < (wi j).length → (g : Int) < (wi j).getD k 0) → (wi j).length ≠ 0 → PlanR.fol j b g = (wi j).getD (k % (wi j).length) 0) := Lib.hid (fun g k hg h1 h2 h3 h4 => by
        rw [EW.out] at h1 h2 h3 h4 ⊢
        have hq : ∀ q, ((PlanR.wl b j).map (fun x : Nat => (x : Int))).getD q 0 = (((PlanR.wl b j).getD q 0 : Nat) : Int) := fun q => by
          rw [List.getD_eq_getElem?_getD, List.getD_eq_getElem?_getD, List.getElem?_map]
          cases (PlanR.wl b j)[q]? <;> rfl
        rw [hq]
        rw [List.length_map] at h1 h3 h4 ⊢
        exact PlanR.folA b (by omega) (by omega) hg h1 (fun q hq' => by have := h2 q hq'; rw [hq] at this; omega) (fun e => by have := h3 e; rw [hq] at this; omega) h4)
      have KB : Hid (∀ m : Nat, m < (wi j).length → ∃ x : Nat, (wi j).getD m 0 = (x : Int) ∧ x < j ∧ PlanR.fol j b x = (wi j).getD ((m + 1) % (wi j).length) 0) := Lib.hid (fun m hm => by
        rw [EW.out] at hm ⊢
        have hq : ∀ q, ((PlanR.wl b j).map (fun x : Nat => (x : Int))).getD q 0 = (((PlanR.wl b j).getD q 0 : Nat) : Int) := fun q => by
          rw [List.getD_eq_getElem?_getD, List.getD_eq_getElem?_getD, List.getElem?_map]
          cases (PlanR.wl b j)[q]? <;> rfl
        rw [List.length_map] at hm ⊢
        refine ⟨(PlanR.wl b j).getD m 0, hq m, ?_, by rw [hq]; exact PlanR.folB b (by omega) (by omega) hm⟩
        refine PlanR.wl_lt b j _ ?_
        rw [List.getD_eq_getElem?_getD, List.getElem?_eq_getElem hm]
        exact List.getElem_mem hm)
      have KC : Hid (∀ g : Nat, g < j → (wi j).length = 0 → PlanR.fol j b g = -1) := Lib.hid (fun g hg e => PlanR.folC' b (by omega) (by omega) hg (by rw [EW.out, List.length_map] at e; exact e))
      clear WS WL W0' WI BD MC HO hrow EW
      generalize wi j = P at *
      subst hs
      generalize hln : P.length = ln at *
      have HLN := Lib.hid hln
      clear hln
      obtain ⟨g, hg⟩ := Int.eq_ofNat_of_zero_le (Int.emod_nonneg a2 (show (j : Int) ≠ 0 by omega))
      have hgn : g < j := by have := Int.emod_lt_of_pos a2 (show (0 : Int) < j by omega); omega
      go_wp2_with fail
      refine (RefS.place_any a2 j wr (by omega) (by omega)).mono ?_
      rintro e w' ⟨rfl, rfl⟩
      rw [hg]
      clear hg q104
      rw [show (Sl.val ⟨sa, sc⟩ ln) = .slice sa ln sc from rfl]
      by_cases hl0 : ln = 0
      · have NX : Hid (∀ W, Below u.heap.size u W → Calls Try.prog 31 #[.agg c.toArray, .int .i64 g, .int .i64 a1] W fun e w' => e = .returned (.int .i64 (-1)) ∧ Below W.heap.size W w') := Lib.hid (fun W hb => by have := FC.out g W hgn hb; rw [KC.out g hgn hl0] at this; exact this)
        subst hl0
        clear KA KB KC FC
        go_wp2_with (refine Row.wpList_load_g 33 _ rfl (by first | rfl | go_simp) ⟨tb, 0, none⟩ rfl c _ (A1.out _ HB.out) Try.underlying33 rfl IA.out ?_)
        refine (NX.out _ HB.out).mono ?_
        rintro e w2 ⟨rfl, hb⟩
        have HB2 := Lib.hid (HB.out.trans (hb.mono HB.out.size))
        clear hb HB NX
        go_wp2_with fail
        refine (Wa8.awake_any _).mono ?_
        rintro e w3 ⟨rfl, hb⟩
        have E := Lib.hid (A0.out.trans ((HB2.out.trans (hb.mono HB2.out.size)).mono A0.out.size))
        clear hb HB2
        go_wp2
        go_ret
        exact ⟨rfl, E.out⟩
      · have hlb : ((ln : Int) == 0) = false := by rw [beq_eq_false_iff_ne]; omega
        clear KC
        rename World => wx
        go_wp2_with fail
        clear hlb
        go_loopw [11] (fun s wr => ∃ k : Nat, k ≤ ln ∧ s = .int .i64 k ∧ wr = wx ∧ ∀ q : Nat, q < k → P.getD q 0 ≤ (g : Int)) (fun s _ => ln - (intOf s).toNat)
        case atStart => exact ⟨0, by omega, rfl, rfl, fun q hq => by omega⟩
        case round =>
          obtain ⟨k, hk, rfl, rfl, hle⟩ := hrel
          have HLE := Lib.hid hle
          clear hle
          have AT : Hid (∀ (m : Nat) W, m < ln → Below u.heap.size u W → Below wr.heap.size wr W → ∃ y, sa = some y ∧ W.cell? (y.add m) = some (I (P.getD m 0))) := Lib.hid (fun m W hm _ hb => IntRow.at (HR.out.below hb) (i := m) (v := P.getD m 0) (by rw [List.getD_eq_getElem?_getD, List.getElem?_eq_getElem (show m < P.length by rw [HLN.out]; exact hm)]; rfl))
          by_cases hlt : k < ln
          · obtain ⟨y, hy, hcy⟩ := AT.out k wr hlt HB.out (Below.refl _ _)
            subst hy
            generalize hp : P.getD k 0 = p at hcy
            have HP := Lib.hid hp
            clear hp
            by_cases hpg : p ≤ (g : Int)
            · go_wp2
              go_roundw
              case rel => exact ⟨k + 1, by omega, by go_num, (by first | trivial | rfl), fun q hq => by
                by_cases e : q < k
                · exact HLE.out q e
                · obtain rfl : q = k := by omega
                  rw [HP.out]; exact hpg⟩
              case measure => simp [intOf]; omega
            · have F0 : Hid (PlanR.fol j b g = P.getD ((k + 0) % ln) 0) := Lib.hid (KA.out g k hgn hk HLE.out (fun _ => by rw [HP.out]; omega) hl0)
              have BX : Hid (Below u.heap.size u wr) := HB
              rename World => wq
              clear HLE HB
              go_wp2_with fail
              go_loopw [6, 10, 12] (fun s6 s10 s12 wk => ∃ i : Nat, i ≤ 2 * ln ∧ s12 = .int .i64 i ∧ s6 = .bool false ∧ Below wq.heap.size wq wk ∧ ∃ cur : Nat, s10 = .int .i64 cur ∧ cur < j ∧ PlanR.fol j b cur = P.getD ((k + i) % ln) 0) (fun _ _ s _ => 2 * ln - (intOf s).toNat)
              case atStart => exact ⟨0, by omega, rfl, rfl, Below.refl _ _, g, rfl, hgn, F0.out⟩
              case round =>
                obtain ⟨i, hi, rfl, rfl, hb, cur, rfl, hcur, hf⟩ := hrel
                have HQ := Lib.hid hb
                have HF := Lib.hid hf
                have HB : Hid (Below u.heap.size u wr) := Lib.hid (BX.out.trans (hb.mono BX.out.size))
                clear hb hf F0
                by_cases hlt3 : i < 2 * ln
                · obtain ⟨m, HM⟩ : ∃ m, Hid (m = (k + i) % ln) := ⟨_, Lib.hid rfl⟩
                  have hml : m < ln := by rw [HM.out]; exact Nat.mod_lt _ (by omega)
                  obtain ⟨x, hx, hxj, hxf⟩ := KB.out m hml
                  have HX : Hid (PlanR.fol j b cur = (x : Int)) := Lib.hid (by rw [HF.out, ← HM.out, hx])
                  have HXF : Hid (PlanR.fol j b x = P.getD ((k + (i + 1)) % ln) 0) := Lib.hid (by rw [hxf, HM.out, Nat.mod_add_mod, Nat.add_assoc])
                  have hrem : ((k : Int) + i).tmod (ln : Int) = (m : Int) := by
                    rw [Int.tmod_eq_emod_of_nonneg (by omega), HM.out]; norm_cast
                  clear hxf HF
                  go_wp2_with (refine Row.wpList_load_g 33 _ rfl (by first | rfl | go_simp) ⟨tb, 0, none⟩ rfl c _ (A1.out _ HB.out) Try.underlying33 rfl IA.out ?_)
                  refine (FC.out cur _ hcur HB.out).mono ?_
                  rintro e w2 ⟨rfl, hb⟩
                  rw [HX.out]
                  have HQ2 := Lib.hid (HQ.out.trans (hb.mono HQ.out.size))
                  obtain ⟨y2, hy2, hcy2⟩ := AT.out m w2 hml (BX.out.trans (HQ2.out.mono BX.out.size)) HQ2.out
                  rw [hx] at hcy2
                  clear hb HQ HB HX hx
                  obtain rfl : y = y2 := Option.some.inj hy2
                  go_wp2
                  go_roundw
                  case rel => exact ⟨i + 1, by omega, by go_num, rfl, HQ2.out, x, rfl, hxj, HXF.out⟩
                  case measure => simp [intOf]; omega
                · go_wp2_with fail
                  refine (Wa8.awake_any _).mono ?_
                  rintro e w3 ⟨rfl, hb⟩
                  have E := Lib.hid (A0.out.trans ((HB.out.trans (hb.mono HB.out.size)).mono A0.out.size))
                  clear hb HB
                  go_wp2
                  go_ret
                  exact ⟨rfl, E.out⟩
          · have F0 : Hid (PlanR.fol j b g = P.getD ((k + 0) % ln) 0) := Lib.hid (KA.out g k hgn hk HLE.out (fun e => absurd e hlt) hl0)
            have BX : Hid (Below u.heap.size u wr) := HB
            rename World => wq
            clear HLE HB
            go_wp2_with fail
            go_loopw [6, 10, 12] (fun s6 s10 s12 wk => ∃ i : Nat, i ≤ 2 * ln ∧ s12 = .int .i64 i ∧ s6 = .bool false ∧ Below wq.heap.size wq wk ∧ ∃ cur : Nat, s10 = .int .i64 cur ∧ cur < j ∧ PlanR.fol j b cur = P.getD ((k + i) % ln) 0) (fun _ _ s _ => 2 * ln - (intOf s).toNat)
            case atStart => exact ⟨0, by omega, rfl, rfl, Below.refl _ _, g, rfl, hgn, F0.out⟩
            case round =>
              obtain ⟨i, hi, rfl, rfl, hb, cur, rfl, hcur, hf⟩ := hrel
              have HQ := Lib.hid hb
              have HF := Lib.hid hf
              have HB : Hid (Below u.heap.size u wr) := Lib.hid (BX.out.trans (hb.mono BX.out.size))
              clear hb hf F0
              by_cases hlt3 : i < 2 * ln
              · obtain ⟨m, HM⟩ : ∃ m, Hid (m = (k + i) % ln) := ⟨_, Lib.hid rfl⟩
                have hml : m < ln := by rw [HM.out]; exact Nat.mod_lt _ (by omega)
                obtain ⟨x, hx, hxj, hxf⟩ := KB.out m hml
                have HX : Hid (PlanR.fol j b cur = (x : Int)) := Lib.hid (by rw [HF.out, ← HM.out, hx])
                have HXF : Hid (PlanR.fol j b x = P.getD ((k + (i + 1)) % ln) 0) := Lib.hid (by rw [hxf, HM.out, Nat.mod_add_mod, Nat.add_assoc])
                have hrem : ((k : Int) + i).tmod (ln : Int) = (m : Int) := by
                  rw [Int.tmod_eq_emod_of_nonneg (by omega), HM.out]; norm_cast
                clear hxf HF
                go_wp2_with (refine Row.wpList_load_g 33 _ rfl (by first | rfl | go_simp) ⟨tb, 0, none⟩ rfl c _ (A1.out _ HB.out) Try.underlying33 rfl IA.out ?_)
                refine (FC.out cur _ hcur HB.out).mono ?_
                rintro e w2 ⟨rfl, hb⟩
                rw [HX.out]
                have HQ2 := Lib.hid (HQ.out.trans (hb.mono HQ.out.size))
                obtain ⟨y2, hy2, hcy2⟩ := AT.out m w2 hml (BX.out.trans (HQ2.out.mono BX.out.size)) HQ2.out
                rw [hx] at hcy2
                clear hb HQ HB HX hx
                subst hy2
                go_wp2
                go_roundw
                case rel => exact ⟨i + 1, by omega, by go_num, rfl, HQ2.out, x, rfl, hxj, HXF.out⟩
                case measure => simp [intOf]; omega
              · go_wp2_with fail
                refine (Wa8.awake_any _).mono ?_
                rintro e w3 ⟨rfl, hb⟩
                have E := Lib.hid (A0.out.trans ((HB.out.trans (hb.mono HB.out.size)).mono A0.out.size))
                clear hb HB
                go_wp2
                go_ret
                exact ⟨rfl, E.out⟩

/-! ### the row's step -/
set_option maxRecDepth 100000 in
theorem lifted (os : Os) (started : os.Started) (H : Type) (enc : TypeId × Value → H) :
    ReturnsInHanded {} Try.checked os 8 .any (Rows.planRoundsSpec.pre6 enc Try.prog Try.f8 Rows.planRoundsRow.domain false) (Rows.planRoundsSpec.post enc Try.prog Try.f8 false true false false) := by
  refine returnsInHanded_of_change (C := Try.checked) own started (by kernel_rfl) Try.func8
    (ChangeSpec.witness6 (enc := enc) (C := Try.checked) false ⟨#[], #[.slice none 0 0, .int .i64 0, .int .i64 0], []⟩ 8 (by kernel_rfl) (by kernel_rfl) (by kernel_rfl) (by kernel_rfl)) ?_
  intro W base args ds gs before hval0 hW hcnd _
  have hval : ∀ (j : Nat) t v, Try.f8.params[j]? = some t → args[j]? = some v → Value.okWide Try.prog W .any base t v := hval0
  have hW' := hW
  obtain ⟨p, q, hA0, hV, rfl, hfz, hnd⟩ := hW
  have hA : DataW.TrodAll enc Try.prog W 0 (fun _ => true) true Try.f8.params.toList args.toList ds p := hA0
  rw [Try.params8] at hA hval
  obtain ⟨v0, vs0, d0, ds0, p0, q0, hargs, rfl, rfl, h0, r0⟩ := trodAll_cons hA
  obtain ⟨v1, vs1, d1, ds1, p1, q1, rfl, rfl, rfl, h1, r1⟩ := trodAll_cons r0
  obtain ⟨v2, vs2, d2, ds2, p2, q2, rfl, rfl, rfl, h2, r2⟩ := trodAll_cons r1
  obtain ⟨rfl, rfl, rfl⟩ := trodAll_nil r2
  obtain rfl : args = #[v0, v1, v2] := by cases args; simp_all
  obtain ⟨rfl, rfl⟩ := trodVars_none hV
  obtain ⟨a0, len0, cap0, rfl⟩ := okWide_slice Try.underlying22 (hval 0 22 v0 rfl rfl)
  have k0 := h0
  have lt0 : ∀ x ∈ p0, x.block < W.heap.size := by obtain ⟨m, hm⟩ := k0; exact DataW.trod_lt m _ _ _ hm
  obtain ⟨z0, w0⟩ : ∃ zs, IsRow .i64 W a0 len0 cap0 zs := by
    obtain ⟨fuel, hf⟩ := h0
    rcases open_ints Try.underlying22 Try.underlying3 (by kernel_rfl) hf with ⟨hcs, _⟩ | ⟨x, l, c, zs, hcs, _, hl, hm, hz, _, hcell, hwz⟩
    · simp [Value.cells] at hcs
      obtain ⟨rfl, rfl, rfl⟩ := hcs
      exact ⟨[], .inl ⟨rfl, rfl, rfl, rfl⟩⟩
    · simp [Value.cells] at hcs
      obtain ⟨rfl, rfl, rfl⟩ := hcs
      exact ⟨zs, .inr ⟨_, rfl, hl, hm, by simpa using hz, hcell, hwz⟩⟩
  obtain ⟨a1, rfl, rfl, rfl, w1⟩ := open_int Try.underlying3 (hval 1 3 v1 rfl rfl) h1
  obtain ⟨a2, rfl, rfl, rfl, w2⟩ := open_int Try.underlying3 (hval 2 3 v2 rfl rfl) h2
  clear hA0 hval0
  refine (walk a0 len0 cap0 z0 a1 a2 W w0 w1 w2).mono fun e W' ⟨he, bel⟩ => ?_
  subst he
  exact ⟨_, rfl, _, _, _, [], _, [], hW', trodAll_mk1 (shut_bool Try.underlying4 _), (trodAll_cons_mk (Below.trod laidOut (by kernel_rfl) (of_decide_eq_true (by kernel_rfl)) k0 bel lt0) (trodAll_cons_mk (shut_int Try.underlying3 w1) (trodAll_cons_mk (shut_int Try.underlying3 w2) trodAll_mk0))), rfl, bel.frame _, fun h => by cases h⟩

theorem over : Rows.planRoundsRow.holds Try.pinned (OpenSpec.ofChange Rows.planRoundsSpec) :=
  OpenClaim.holds_of_wide 8 Try.f8 rfl rfl rfl rfl rfl rfl rfl ⟨rfl, rfl, rfl, rfl, rfl⟩ rfl rfl rfl rfl rfl (by kernel_rfl) Try.func8 (by kernel_rfl)
    (of_decide_eq_true (by kernel_rfl)) (by unfold Func.isWrapper; first | (rw [if_pos (by decide +kernel)]; kernel_rfl) | (rw [if_neg (by decide +kernel)]; exact ⟨rfl, rfl⟩))
    (fun os started H enc _ => lifted os started H enc)

/-- the statement -/
theorem proved : Rows.PlanRoundsSaid :=
  over
#print axioms proved
end Go.Proofs.Ytfnpcfibgabmfaa.planRounds
