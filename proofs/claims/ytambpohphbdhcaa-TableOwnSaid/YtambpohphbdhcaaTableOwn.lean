/- TableOwn returns true at any numbers: what is written to a clone of a table changes neither the table nor another clone. No condition. -/
import Derived.Test.YtambpohphbdhcaaRows
import Derived.Test.YtambpohphbdhcaaPart08
import Derived.Test.YtambpohphbdhcaaPart09
import Derived.Test.YtambpohphbdhcaaPart10
import Derived.Test.YtambpohphbdhcaaPart04
import Derived.Deep.Cut
import Derived.Deep.RegionLawGrows
import Derived.WalkKit
import Derived.WalkLawsBesides
import Derived.ProofKit
import Derived.OpenShut
import Derived.ShutString
import Derived.ChangeOld
import Derived.Below
set_option linter.unusedVariables false
set_option linter.unusedSimpArgs false
set_option linter.unusedSectionVars false
set_option maxHeartbeats 8000000
set_option maxRecDepth 100000
namespace Go.Proofs.Ytambpohphbdhcaa
namespace tableOwn
open Go.ChangeShapes Go.WideShapes Go.ChangeAt Go.RowKit
open Tab PlaceM GenT GenG
open May (infoT)
theorem own : ownKnob Try.prog.godebug = none := by kernel_rfl
theorem laidOut : laidOutB Try.prog = true := by kernel_rfl
/-- WHAT THE WALK IS TOLD OF A SLICE OF INTEGERS THAT CAME IN: it is nil; or it leads to a row of 'cap' cells, the numbers 'zs' (the first 'len' are its elements, the rest its spare room), each fitting its kind. -/
def IsRow (k : IntKind) (w : World) (a : Option Addr) (len cap : Nat) (zs : List Int) : Prop :=
  (a = none ∧ len = 0 ∧ cap = 0 ∧ zs = []) ∨
  ∃ x, a = some x ∧ len ≤ cap ∧ cap ≤ maxLen ∧ zs.length = cap ∧ (∀ i, i < zs.length → w.cell? (x.add i) = some (.int k (zs.getD i 0))) ∧ ∀ n ∈ zs, (Lit.int k n).wf = true
theorem isRow_int {w : World} {a : Option Addr} {len cap : Nat} {zs : List Int} (h : IsRow .i64 w a len cap zs) : (zs.take len).length = len ∧ Tab.IntRow w ⟨a, cap⟩ (zs.take len) := by
  rcases h with ⟨rfl, rfl, rfl, rfl⟩ | ⟨x, rfl, h1, h2, h3, h4, _⟩
  · exact ⟨rfl, .inl ⟨rfl, rfl, rfl⟩⟩
  · have hl : (zs.take len).length = len := by rw [List.length_take]; omega
    refine ⟨hl, .inr ⟨x, rfl, by rw [hl]; exact h1, h2, fun i v hv j u hu => ?_⟩⟩
    have hi : i < len := by have := (List.getElem?_eq_some_iff.1 hv).1; omega
    match j, hu with
    | 0, hu =>
      simp at hu
      subst hu
      rw [List.getElem?_take, if_pos hi] at hv
      have := h4 i (by omega)
      rw [List.getD_eq_getElem?_getD, hv] at this
      rw [Nat.mul_one, Tab.add_two, Nat.add_zero]
      exact this
    | j + 1, hu => simp at hu
theorem gen_small (L : List Int) : Clone.Small (GenT.genTab L) := by
  have d9 := RefS.num_range L 175 9 (by omega)
  have r4 := RefS.num_range L 176 4 (by omega)
  have b3 := RefS.num_range L 177 3 (by omega)
  have hD : (GenT.genTab L).dets.length = (RefS.num L 175 9).toNat := by unfold GenT.genTab; split <;> exact GenT.down_len _ _ _
  have hR : (GenT.genTab L).rails.length = (RefS.num L 176 4 % 3).toNat := by unfold GenT.genTab; split <;> exact GenT.down_len _ _ _
  have hB : (GenT.genTab L).buses.length = (RefS.num L 177 3).toNat := by unfold GenT.genTab; split <;> exact GenT.down_len _ _ _
  exact ⟨(GenT.genTab_few L).groups, (GenT.genTab_few L).rows, by rw [hD]; omega, by rw [hR]; omega, by rw [hB]; omega⟩
/-! ### the walk -/
theorem walk (a0 : Option Addr) (len0 cap0 : Nat) (z0 : List Int) (w : World) (w0 : IsRow .i64 w a0 len0 cap0 z0) :
    Calls Try.prog 3 #[.slice a0 len0 cap0] w fun e w' => e = .returned (.bool true) ∧ Below w.heap.size w w' := by
  obtain ⟨hlen, hrow⟩ := isRow_int w0
  obtain ⟨L, hL⟩ : ∃ L, L = z0.take len0 := ⟨_, rfl⟩
  rw [← hL] at hlen hrow
  clear hL w0
  subst hlen
  have hz := (zero_of_info GenT.infoTz).1
  have hZs : (Clone.zTab.cells Clone.zHd).length = 131 := rfl
  generalize hZ : GenT.zTab.cells GenT.zHd = Z at *
  have ZS : Z.toArray.size = 131 := by rw [← hZ]; rfl
  clear hZ hZs
  have G8 := Lib.hid (GenT.genTab_few L)
  go_enter Try.func3, Try.ntmps3
  go_wp2_with fail
  refine (GenT.table_any a0 cap0 L w hrow).mono ?_
  rintro e u0 ⟨hd, rfl, ht, hb⟩
  have CS := GenT.cells_cut hd ht.ph ht.cf ht.fl
  have ON := (cells_ok ht).one
  have HT : Hid (∀ W, Below u0.heap.size u0 W → IsTab W hd (genTab L)) := Lib.hid (fun W hb => ht.below hb)
  have B0 := Lib.hid hb
  have IA : Hid ((Try.prog.info? 32).map (·.size) = some ((genTab L).cells hd).length) := Lib.hid (by rw [CS]; exact infoT)
  clear hb ht
  generalize hc : (genTab L).cells hd = c at *
  have HC := Lib.hid hc
  clear hc
  go_upto_region 2 with (refine Row.wpList_store_new rfl 32 _ _ rfl u0 Z.toArray c.toArray rfl rfl rfl (by rw [List.size_toArray]; exact IA.out) (by rw [ZS, List.size_toArray, CS]) ON ?_)
  have hb2 : Below u0.heap.size u0 (u0.alloc (.cells c.toArray 32)) := (Below.refl _ _).alloc (Nat.le_refl _) _
  have hl : Lies (u0.alloc (.cells c.toArray 32)) ⟨u0.heap.size, 0, none⟩ c := Row.lies_new _ _ _
  have hs : u0.heap.size < (u0.alloc (.cells c.toArray 32)).heap.size := by simp
  have TB0 : Hid (∀ W, Below (u0.alloc (.cells c.toArray 32)).heap.size (u0.alloc (.cells c.toArray 32)) W → IsTab W hd (genTab L)) := Lib.hid (fun W hb => HT.out W (hb2.trans (hb.mono hb2.size)))
  generalize u0.alloc (.cells c.toArray 32) = u at hb2 hl hs TB0 ⊢
  have TB : Hid (∀ W, Below u.heap.size u W → IsTab W hd (genTab L)) := TB0
  have A0 : Hid (Below w.heap.size w u) := Lib.hid (B0.out.trans (hb2.mono B0.out.size))
  have A1 : Hid (∀ W, Below u.heap.size u W → Lies W ⟨u0.heap.size, 0, none⟩ c) := Lib.hid (fun W hb => Lies.below hl hb)
  clear hb2 hl hs TB0 HT B0 hrow hz ZS ON CS
  generalize u0.heap.size = tb at *
  have LTB : Hid (∀ W, Below u.heap.size u W → Lies W ⟨tb, 0, none⟩ c) := A1
  have SMT : Hid (Clone.Small (genTab L)) := Lib.hid (gen_small L)
  have K8 := Lib.hid (TB.out u (Below.refl _ _))
  have hz := (zero_of_info GenT.infoTz).1
  generalize hZ : GenT.zTab.cells GenT.zHd = Z at *
  have ZS : Z.toArray.size = 131 := by rw [← hZ]; rfl
  clear hZ G8
  go_wp2_with (refine Row.wpList_load_g 32 _ rfl (by first | rfl | go_simp) ⟨tb, 0, none⟩ rfl c _ (A1.out _ (Below.refl _ _)) Try.underlying32 rfl IA.out ?_)
  have hcl := Clone.clone_any (genTab L) hd u K8.out SMT.out
  rw [HC.out] at hcl
  refine hcl.mono ?_
  rintro e u1 ⟨ns, G, D, R, S, rfl, hnd, hown, hb⟩
  have kt := Clone.is_tab K8.out.ph K8.out.cf K8.out.fl SMT.out hnd hown
  have CS := GenT.cells_cut (Clone.hd (genTab L) G D R S) kt.ph kt.cf kt.fl
  have ON := (cells_ok kt).one
  generalize hd2 : Clone.hd (genTab L) G D R S = hq at *
  generalize hc2 : (genTab L).cells hq = c2 at *
  have HB1 := Lib.hid hb
  have HO := Lib.hid hown
  clear hcl hb hown kt
  go_upto_region 3 with (refine Row.wpList_store_new rfl 32 _ _ rfl u1 Z.toArray c2.toArray rfl rfl rfl (by rw [List.size_toArray, CS]; exact infoT) (by rw [ZS, List.size_toArray, CS]) ON ?_)
  have hb2 : Below u1.heap.size u1 (u1.alloc (.cells c2.toArray 32)) := (Below.refl _ _).alloc (Nat.le_refl _) _
  have hux : BendU.Ux u u1.heap.size hq (genTab L) (u1.alloc (.cells c2.toArray 32)) := by
    rw [← hd2]
    exact BendU.of_clone K8.out.ph K8.out.cf K8.out.fl SMT.out hnd (HO.out.step hb2) (HB1.out.trans (hb2.mono HB1.out.size)) HB1.out.size (by rw [hd2, hc2]; exact heap_alloc_new u1 _)
  have HUX := Lib.hid hux
  have HOW := Lib.hid (HO.out.add hb2 (heap_alloc_new u1 (.cells c2.toArray 32)) (Nat.le_refl _) HB1.out.size)
  have HND := Lib.hid hnd
  have HQ := Lib.hid hd2
  have HC2 := Lib.hid hc2
  clear hux hb2 hz ZS ON CS hnd hc2 hd2 HO HB1
  generalize u1.alloc (.cells c2.toArray 32) = u2 at HUX HOW ⊢
  generalize u1.heap.size = ub at HUX HOW ⊢
  have LB : Hid (∀ W, Below u2.heap.size u2 W → Lies W ⟨ub, 0, none⟩ c2) := Lib.hid (fun W hb => by have := Row.lies_of_block ((HUX.out.step hb).blk); rw [HC2.out] at this; simpa using this)
  have IB : Hid ((Try.prog.info? 32).map (·.size) = some c2.length) := Lib.hid (by rw [← HC2.out, GenT.cells_cut hq K8.out.ph K8.out.cf K8.out.fl]; exact infoT)
  go_wp2_with (first | refine Row.wpList_load_g 32 _ rfl (by first | rfl | go_simp) ⟨tb, 0, none⟩ rfl c _ (A1.out _ HUX.out.bel) Try.underlying32 rfl IA.out ?_ | refine Row.wpList_load_g 32 _ rfl (by first | rfl | go_simp) ⟨ub, 0, none⟩ rfl c2 _ (LB.out _ (Below.refl _ _)) Try.underlying32 rfl IB.out ?_)
  have hsm := Same.same_any (genTab L) (genTab L) hd hq u2 (TB.out _ HUX.out.bel) HUX.out.tab
  rw [HC.out, HC2.out] at hsm
  refine hsm.mono ?_
  rintro e u3 ⟨rfl, hb⟩
  rw [show decide (genTab L = genTab L) = true from decide_eq_true rfl]
  have X3 := Lib.hid (HUX.out.step hb)
  have HO3 := Lib.hid (HOW.out.step hb)
  clear HOW
  have Y3 := Lib.hid (fun W (hw : Below u3.heap.size u3 W) => A1.out W (X3.out.bel.trans (hw.mono X3.out.bel.size)))
  have Z3 := Lib.hid (fun W (hw : Below u3.heap.size u3 W) => LB.out W (hb.trans (hw.mono hb.size)))
  clear hsm hb
  have ct : ∀ i v, c[i]? = some v → u3.cell? ⟨tb, i, none⟩ = some v := fun i v h => by have := Y3.out u3 (Below.refl _ _) i v h; by_cases e : i = 0 <;> simp_all [Addr.add]
  have t104 : u3.cell? ⟨tb, 104, none⟩ = some (.slice hd.g.a (genTab L).groups.length hd.g.cap) := ct 104 _ (by rw [← HC.out]; exact ClR.at_g _ K8.out.ph K8.out.cf)
  have t113 : u3.cell? ⟨tb, 113, none⟩ = some (.slice hd.d.a (genTab L).dets.length hd.d.cap) := ct 113 _ (by rw [← HC.out]; exact ClR.at_d _ K8.out.ph K8.out.cf)
  have t114 : u3.cell? ⟨tb, 114, none⟩ = some (.slice hd.r.a (genTab L).rails.length hd.r.cap) := ct 114 _ (by rw [← HC.out]; exact ClR.at_r _ K8.out.ph K8.out.cf)
  have t115 : u3.cell? ⟨tb, 115, none⟩ = some (.slice hd.b.a (genTab L).buses.length hd.b.cap) := ct 115 _ (by rw [← HC.out]; exact ClR.at_b _ K8.out.ph K8.out.cf)
  clear ct
  have cb : ∀ i v, c2[i]? = some v → u3.cell? ⟨ub, i, none⟩ = some v := fun i v h => by have := Z3.out u3 (Below.refl _ _) i v h; by_cases e : i = 0 <;> simp_all [Addr.add]
  have b104 : u3.cell? ⟨ub, 104, none⟩ = some (.slice hq.g.a (genTab L).groups.length hq.g.cap) := cb 104 _ (by rw [← HC2.out]; exact ClR.at_g _ K8.out.ph K8.out.cf)
  have b113 : u3.cell? ⟨ub, 113, none⟩ = some (.slice hq.d.a (genTab L).dets.length hq.d.cap) := cb 113 _ (by rw [← HC2.out]; exact ClR.at_d _ K8.out.ph K8.out.cf)
  have b114 : u3.cell? ⟨ub, 114, none⟩ = some (.slice hq.r.a (genTab L).rails.length hq.r.cap) := cb 114 _ (by rw [← HC2.out]; exact ClR.at_r _ K8.out.ph K8.out.cf)
  have b115 : u3.cell? ⟨ub, 115, none⟩ = some (.slice hq.b.a (genTab L).buses.length hq.b.cap) := cb 115 _ (by rw [← HC2.out]; exact ClR.at_b _ K8.out.ph K8.out.cf)
  clear cb
  go_upto_region 5 with fail
  clear t104 t113 t114 t115 b104 b113 b114 b115
  go_wp2_with (refine Row.wpList_load_g 32 _ rfl (by first | rfl | go_simp) ⟨tb, 0, none⟩ rfl c _ (Y3.out _ (Below.refl _ _)) Try.underlying32 rfl IA.out ?_)
  have hcl := ClR.rclone_any (genTab L) hd u3 (TB.out _ X3.out.bel) SMT.out
  rw [HC.out] at hcl
  refine hcl.mono ?_
  rintro e u4 ⟨hw, rfl, kt, how, hgl, hb⟩
  have hz := (zero_of_info GenT.infoTz).1
  generalize hZ : GenT.zTab.cells GenT.zHd = Z at *
  have ZS : Z.toArray.size = 131 := by rw [← hZ]; rfl
  clear hZ hcl
  have CS := GenT.cells_cut hw kt.ph kt.cf kt.fl
  have ON := (cells_ok kt).one
  generalize hc3 : (genTab L).cells hw = c3 at *
  go_upto_region 6 with (refine Row.wpList_store_new rfl 32 _ _ rfl u4 Z.toArray c3.toArray rfl rfl rfl (by rw [List.size_toArray, CS]; exact infoT) (by rw [ZS, List.size_toArray, CS]) ON ?_)
  have HC3 := Lib.hid hc3
  clear hc3
  have C104 : Hid (c2[104]? = some (.slice (some ⟨G, 0, none⟩) (genTab L).groups.length (genTab L).groups.length)) := Lib.hid (by rw [← HC2.out, ClR.at_g _ K8.out.ph K8.out.cf, ← HQ.out]; rfl)
  have C113 : Hid (c2[113]? = some (.slice (some ⟨D, 0, none⟩) (genTab L).dets.length (genTab L).dets.length)) := Lib.hid (by rw [← HC2.out, ClR.at_d _ K8.out.ph K8.out.cf, ← HQ.out]; rfl)
  have C114 : Hid (c2[114]? = some (.slice (some ⟨R, 0, none⟩) (genTab L).rails.length (genTab L).rails.length)) := Lib.hid (by rw [← HC2.out, ClR.at_r _ K8.out.ph K8.out.cf, ← HQ.out]; rfl)
  have C115 : Hid (c2[115]? = some (.slice (some ⟨S, 0, none⟩) (genTab L).buses.length (genTab L).buses.length)) := Lib.hid (by rw [← HC2.out, ClR.at_b _ K8.out.ph K8.out.cf, ← HQ.out]; rfl)
  have hb5 : Below u4.heap.size u4 (u4.alloc (.cells c3.toArray 32)) := (Below.refl _ _).alloc (Nat.le_refl _) _
  have HU0 := Lib.hid (UO.start SMT.out HND.out HO3.out (hb.trans (hb5.mono hb.size)))
  have HS0 := Lib.hid (UO.Sh.start SMT.out HND.out)
  have WBK : Hid (∀ W, (∀ j, u3.heap.size ≤ j → j < (u4.alloc (.cells c3.toArray 32)).heap.size → W.heap[j]? = (u4.alloc (.cells c3.toArray 32)).heap[j]?) → IsTab W hw (genTab L) ∧ Lies W ⟨u4.heap.size, 0, none⟩ c3) := Lib.hid (fun W hW => by
    refine ⟨UO.was_tab kt how hgl (fun j h1 h2 => (hW j h1 (Nat.lt_of_lt_of_le h2 hb5.size)).trans (hb5.block j h2)), ?_⟩
    have h := heap_alloc_new u4 (.cells c3.toArray 32)
    have h2 := (hW u4.heap.size hb.size (Array.getElem?_eq_some_iff.1 h).1).trans h
    have := Row.lies_of_block h2
    simpa using this)
  have BS : Hid (u.heap.size ≤ (u4.alloc (.cells c3.toArray 32)).heap.size) := Lib.hid (Nat.le_trans (X3.out.step hb).bel.size hb5.size)
  have TU : Hid (∀ W, Below u.heap.size (u4.alloc (.cells c3.toArray 32)) W → Below u.heap.size u W) := Lib.hid (fun W hw => ((X3.out.step hb).bel.trans (hb5.mono (X3.out.step hb).bel.size)).trans hw)
  have I3 : Hid ((Try.prog.info? 32).map (·.size) = some c3.length) := Lib.hid (by rw [CS]; exact infoT)
  clear hb kt how hgl CS ON ZS hz hb5 HO3 X3 Y3 Z3 HUX LB A1 HND
  generalize u4.alloc (.cells c3.toArray 32) = u5 at HU0 WBK BS TU ⊢
  generalize u4.heap.size = wb at WBK ⊢
  generalize u3.heap.size = lo at HU0 WBK
  have T8 := K8
  have GR := Lib.hid (genG_range L)
  have GL : Hid (0 < (genTab L).groups.length) := Lib.hid (by rw [genTab_groups]; have := genG_range L; unfold genGs; rw [up_len]; omega)
  clear K8 GR
  have SG := SMT.out.groups
  have SD := SMT.out.dets
  have SR := SMT.out.rails
  have SB := SMT.out.buses
  generalize hT : genTab L = T at *
  clear hT
  generalize hn : T.groups.length = n at *
  have HN := Lib.hid hn
  generalize hnd : T.dets.length = nd at *
  have HND := Lib.hid hnd
  generalize hnr : T.rails.length = nr at *
  have HNR := Lib.hid hnr
  generalize hnb : T.buses.length = nb at *
  have HNB := Lib.hid hnb
  clear hn hnd hnr hnb
  go_wp2_with fail
  go_loopw [6] (fun v wr => ∃ (g : Nat) (ns : List UO.G2), g ≤ n ∧ v = .int .i64 (g : Int) ∧ UO.Sh T g ns ∧ UO.Uo u.heap.size lo u5.heap.size u5 ub c2 G D R S wr ns T.dets T.rails T.buses) (fun v _ => n - (intOf v).toNat)
  case atStart => exact ⟨0, _, by omega, rfl, HS0.out, HU0.out⟩
  case round =>
    clear HS0 HU0
    obtain ⟨g, ns, hg, rfl, hsh, hu⟩ := hrel
    have HS := Lib.hid hsh
    have HU := Lib.hid hu
    clear hsh hu
    have k104 : wr.cell? ⟨ub, 104, none⟩ = some (.slice (some ⟨G, 0, none⟩) n n) := (HU.out.box 104).trans C104.out
    by_cases hlt : g < n
    · rename World => wg
      go_wp2_with fail
      go_loopw [7] (fun v wr => ∃ (k : Nat) (ns : List UO.G2), k ≤ 2 ∧ v = .int .i64 (k : Int) ∧ UO.Sh T g ns ∧ UO.Uo u.heap.size lo u5.heap.size u5 ub c2 G D R S wr ns T.dets T.rails T.buses) (fun v _ => 2 - (intOf v).toNat)
      case atStart => exact ⟨0, ns, by omega, rfl, HS.out, HU.out⟩
      case round =>
        clear HS HU k104
        obtain ⟨k, ns, hk, rfl, hsh, hu⟩ := hrel
        have HS := Lib.hid hsh
        have HU := Lib.hid hu
        clear hsh hu
        by_cases hk2 : k < 2
        · rename World => wk
          go_wp2_with fail
          go_loopw [8] (fun v wr => ∃ (i : Nat) (ns : List UO.G2), i ≤ 1000 ∧ v = .int .i64 (i : Int) ∧ UO.Sh T g ns ∧ UO.Uo u.heap.size lo u5.heap.size u5 ub c2 G D R S wr ns T.dets T.rails T.buses) (fun v _ => 1000 - (intOf v).toNat)
          case atStart => exact ⟨0, ns, by omega, rfl, HS.out, HU.out⟩
          case round =>
            clear HS HU
            obtain ⟨i, ns, hi, rfl, hsh, hu⟩ := hrel
            have HS := Lib.hid hsh
            have HU := Lib.hid hu
            clear hsh hu
            obtain ⟨m, hm⟩ : ∃ m, ns[g]? = some m := ⟨_, List.getElem?_eq_getElem (by rw [HS.out.len, HN.out]; exact hlt)⟩
            have HM := Lib.hid hm
            have k104 : wr.cell? ⟨ub, 104, none⟩ = some (.slice (some ⟨G, 0, none⟩) n n) := (HU.out.box 104).trans C104.out
            have ks : wr.cell? ⟨G, g * 2 + k, none⟩ = some (.slice (some ⟨(m.row k).b, 0, none⟩) (m.row k).r.length (m.row k).cur.length) := (HU.out.slice hm hk2).1
            have hrl : (m.row k).r.length ≤ 1000 := by
              have h1 := HS.out.row g m hm
              have h2 : (T.groups.getD g ([], [])).1.length ≤ 1000 := by
                rw [List.getD_eq_getElem?_getD]
                cases hx : T.groups[g]? with
                | none => simp
                | some y => exact (SMT.out.rows y (List.mem_of_getElem? hx)).1
              unfold UO.G2.row
              split
              · rw [h1.1, if_neg (by omega)]; omega
              · exact h1.2.2
            have hok := ((HU.out.ok m (List.mem_of_getElem? hm)).row k)
            have hcl := hok.len
            have hcm := hok.most
            unfold maxLen at hcm
            clear hok hm
            obtain ⟨rb, hrb⟩ : ∃ x, (m.row k).b = x := ⟨_, rfl⟩
            obtain ⟨rl, hrl2⟩ : ∃ x, (m.row k).r.length = x := ⟨_, rfl⟩
            obtain ⟨rc, hrc⟩ : ∃ x, (m.row k).cur.length = x := ⟨_, rfl⟩
            rw [hrb, hrl2, hrc] at ks
            rw [hrl2] at hrl
            rw [hrl2, hrc] at hcl
            rw [hrc] at hcm
            have HRB := Lib.hid hrb
            have HRL := Lib.hid hrl2
            clear hrb hrl2 hrc
            by_cases hil : i < rl
            · obtain ⟨z, hz⟩ : ∃ z, (m.row k).r[i]? = some z := ⟨_, List.getElem?_eq_getElem (by rw [HRL.out]; exact hil)⟩
              obtain ⟨kz, fz⟩ := HU.out.num HM.out hk2 hz
              rw [HRB.out] at kz fz
              clear hz
              go_upto_region 14 with fail
              have h1 := HU.out.inc HM.out hk2 (i := i) (wrap64 (z + 1))
              rw [HRB.out] at h1
              have h2 := HS.out.inc HM.out (k := k) (i := i) (wrap64 (z + 1))
              generalize wrap64 (z + 1) = z' at h1 h2 ⊢
              generalize World.setCell wr _ _ = W1 at h1 ⊢
              have H1 := Lib.hid h1
              have H2 := Lib.hid h2
              clear h1 h2 kz fz ks k104 HU HS
              go_wp2
              go_roundw
              case rel => exact ⟨i + 1, _, by omega, by go_num, H2.out, H1.out⟩
              case measure => simp [intOf]; omega
            · go_wp2
              go_roundw
              case rel => exact ⟨k + 1, ns, by omega, by go_num, HS.out, HU.out⟩
              case measure => simp [intOf]; omega
        · obtain rfl : k = 2 := by omega
          obtain ⟨m, hm⟩ : ∃ m, ns[g]? = some m := ⟨_, List.getElem?_eq_getElem (by rw [HS.out.len, HN.out]; exact hlt)⟩
          have HM := Lib.hid hm
          have ks : wr.cell? ⟨G, g * 2, none⟩ = some (.slice (some ⟨m.x.b, 0, none⟩) m.x.r.length m.x.cur.length) := (HU.out.slice hm (k := 0) (by decide)).1
          have FS : Hid (∀ i, wr.frozen? ⟨G, i, none⟩ = false) := Lib.hid (fun i => HU.out.own.frozen (x := ⟨G, ns.flatMap UO.G2.cells, 36⟩) (List.mem_of_getElem? (i := 1) rfl) i)
          have hfu := (HS.out.row g m hm).2.1 (Nat.le_refl _)
          have hrl : m.x.r.length ≤ 1000 := by
            have h1 := HS.out.row g m hm
            have h2 : (T.groups.getD g ([], [])).1.length ≤ 1000 := by
              rw [List.getD_eq_getElem?_getD]
              cases hx : T.groups[g]? with
              | none => simp
              | some y => exact (SMT.out.rows y (List.mem_of_getElem? hx)).1
            rw [h1.1, if_neg (by omega)]; omega
          have RC : Hid (∀ j u, (m.x.r.map I)[j]? = some u → wr.cell? ⟨m.x.b, j, none⟩ = some u) := Lib.hid (fun j u hj => by
            rw [List.getElem?_map] at hj
            obtain ⟨z, hz, rfl⟩ := Option.map_eq_some_iff.1 hj
            exact (HU.out.num hm (k := 0) (by decide) hz).1)
          have k104 : wr.cell? ⟨ub, 104, none⟩ = some (.slice (some ⟨G, 0, none⟩) n n) := (HU.out.box 104).trans C104.out
          have kb := (Array.getElem?_eq_some_iff.1 HU.out.blk).1
          have kg := (Array.getElem?_eq_some_iff.1 (HU.out.own.get (x := ⟨G, ns.flatMap UO.G2.cells, 36⟩) (List.mem_of_getElem? (i := 1) rfl))).1
          rw [hfu] at ks
          obtain ⟨rl, hrl2⟩ : ∃ x, m.x.r.length = x := ⟨_, rfl⟩
          obtain ⟨rb, hrb⟩ : ∃ x, m.x.b = x := ⟨_, rfl⟩
          rw [hrl2, hrb] at ks
          rw [hrl2] at hrl
          rw [hrb] at RC
          have HRL := Lib.hid hrl2
          have CB : Hid (∀ w', Below wr.heap.size wr w' → w'.cell? ⟨ub, 104, none⟩ = some (.slice (some ⟨G, 0, none⟩) n n)) := Lib.hid (fun w' hb => (hb.cell (p := ⟨ub, 104, none⟩) kb).trans k104)
          have CS : Hid (∀ w', Below wr.heap.size wr w' → w'.cell? ⟨G, g * 2, none⟩ = some (.slice (some ⟨rb, 0, none⟩) rl rl)) := Lib.hid (fun w' hb => (hb.cell (p := ⟨G, g * 2, none⟩) kg).trans ks)
          have CF : Hid (∀ w', Below wr.heap.size wr w' → w'.frozen? ⟨G, g * 2, none⟩ = false) := Lib.hid (fun w' hb => by
            have hx := HU.out.own.get (x := ⟨G, ns.flatMap UO.G2.cells, 36⟩) (List.mem_of_getElem? (i := 1) rfl)
            exact frozen_of_row _ _ _ _ _ ((hb.block G kg).trans hx))
          have hgi : (g : Int) < n := by omega
          obtain ⟨i0, hi0, hz0, hz1, hz2⟩ := info_parts RefS.info3
          have BW : Hid (u.heap.size ≤ wr.heap.size) := Lib.hid (Nat.le_trans BS.out HU.out.bel.size)
          clear hm ks k104 hfu hrl2 hrb FS
          go_upto_region 16 with fail
          refine wp_region_held (S := fun w' => w'.cell? ⟨ub, 104, none⟩ = some (.slice (some ⟨G, 0, none⟩) n n)) (by kernel_rfl) ?_
          have hV : Below wr.heap.size wr { wr with drawn := wr.drawn + 1 } := (Below.refl _ _).drew
          have hS := CB.out _ hV
          generalize ({ wr with drawn := wr.drawn + 1 } : World) = v at hV hS ⊢
          refine Held.take (i := 0) (some 93) rfl (v := ?_) rfl (by kernel_rfl) (by kernel_rfl) (by kernel_rfl) (fun _ _ _ h => h) (Or.inl ⟨by rfl, ?_⟩) hS ?_
          rotate_left
          · intro w' hw'
            go_simp
            try with_reducible rfl
          (try dsimp only [Act.put]); (try simp only [List.setIfInBounds_toArray, List.set_cons_zero, List.set_cons_succ])
          refine Held.take (i := 1) (some 94) rfl (v := ?_) rfl (by kernel_rfl) (by kernel_rfl) (by kernel_rfl) (fun _ _ _ h => h) (Or.inl ⟨by rfl, ?_⟩) hS ?_
          rotate_left
          · intro w' hw'
            have cf := hw'
            go_simp
            try with_reducible rfl
          (try dsimp only [Act.put]); (try simp only [List.setIfInBounds_toArray, List.set_cons_zero, List.set_cons_succ])
          refine Held.take (i := 2) (some 95) rfl (v := ?_) rfl (by kernel_rfl) (by kernel_rfl) (by kernel_rfl) (fun _ _ _ h => h) (Or.inl ⟨by rfl, ?_⟩) hS ?_
          rotate_left
          · intro w' hw'
            go_simp
            try with_reducible rfl
          (try dsimp only [Act.put]); (try simp only [List.setIfInBounds_toArray, List.set_cons_zero, List.set_cons_succ])
          refine Held.take (i := 3) (some 96) rfl (v := ?_) rfl (by kernel_rfl) (by kernel_rfl) (by kernel_rfl) (fun _ _ _ h => h) (Or.inl ⟨by rfl, ?_⟩) hS ?_
          rotate_left
          · intro w' hw'
            go_simp
            try with_reducible rfl
          (try dsimp only [Act.put]); (try simp only [List.setIfInBounds_toArray, List.set_cons_zero, List.set_cons_succ])
          refine Held.take (i := 4) (some 97) rfl (v := ?_) rfl (by kernel_rfl) (by kernel_rfl) (by kernel_rfl) (fun _ _ _ h => h) (Or.inl ⟨by rfl, ?_⟩) hS ?_
          rotate_left
          · intro w' hw'
            have cf := hw'
            go_simp
            try with_reducible rfl
          (try dsimp only [Act.put]); (try simp only [List.setIfInBounds_toArray, List.set_cons_zero, List.set_cons_succ])
          refine Held.take (i := 5) (some 98) rfl (v := ?_) rfl (by kernel_rfl) (by kernel_rfl) (by kernel_rfl) (fun _ _ _ h => h) (Or.inl ⟨by rfl, ?_⟩) hS ?_
          rotate_left
          · intro w' hw'
            go_simp
            try with_reducible rfl
          (try dsimp only [Act.put]); (try simp only [List.setIfInBounds_toArray, List.set_cons_zero, List.set_cons_succ])
          refine Held.take (i := 6) (some 99) rfl (v := ?_) rfl (by kernel_rfl) (by kernel_rfl) (by kernel_rfl) (fun _ _ _ h => h) (Or.inl ⟨by rfl, ?_⟩) hS ?_
          rotate_left
          · intro w' hw'
            go_simp
            try with_reducible rfl
          (try dsimp only [Act.put]); (try simp only [List.setIfInBounds_toArray, List.set_cons_zero, List.set_cons_succ])
          refine Held.take (i := 7) (some 100) rfl (v := ?_) rfl (by kernel_rfl) (by kernel_rfl) (by kernel_rfl) (fun _ _ _ h => h) (Or.inl ⟨by rfl, ?_⟩) hS ?_
          rotate_left
          · intro w' hw'
            go_simp
            try with_reducible rfl
          (try dsimp only [Act.put]); (try simp only [List.setIfInBounds_toArray, List.set_cons_zero, List.set_cons_succ])
          refine Held.take (i := 11) (some 104) rfl (v := ?_) rfl (by kernel_rfl) (by kernel_rfl) (by kernel_rfl) (fun _ _ _ h => h) (Or.inl ⟨by rfl, ?_⟩) hS ?_
          rotate_left
          · intro w' hw'
            go_simp
            try with_reducible rfl
          (try dsimp only [Act.put]); (try simp only [List.setIfInBounds_toArray, List.set_cons_zero, List.set_cons_succ])
          refine wpAnyH_ready (rs := [8, 9]) (by kernel_rfl) (by simp) (AllReadyH.cons rfl (fun K hK => ?_) (AllReadyH.cons rfl (fun K hK => ?_) AllReadyH.nil))
          · have cf := CS.out _ hV
            go_simp
            refine hK.out _ _ hS (fun hS => ?_)
            clear hK K cf
            (try dsimp only [Act.put]); (try simp only [List.setIfInBounds_toArray, List.set_cons_zero, List.set_cons_succ])
            refine wpAnyH_ready (rs := [9]) (by kernel_rfl) (by simp) (AllReadyH.cons rfl (fun K hK => ?_) AllReadyH.nil)
            go_simp
            have hf := heap_alloc_new v (.cells #[I 7] 3)
            have hq := hV.alloc hV.size (.cells #[I 7] 3)
            generalize v.heap.size = gs at hf ⊢
            generalize World.alloc v _ = v2 at hf hq ⊢
            clear hS
            refine hK.out _ _ (CB.out _ hq) (fun hS => ?_)
            clear hK K hV
            have hV := hq
            clear hq
            (try dsimp only [Act.put]); (try simp only [List.setIfInBounds_toArray, List.set_cons_zero, List.set_cons_succ])
            refine wpAnyH_ready (rs := [10]) (by kernel_rfl) (by simp) (AllReadyH.cons rfl (fun K hK => ?_) AllReadyH.nil)
            refine step_append_grows rfl (.tmp 101) (.tmp 102) 22 rfl 3 i0 (.int .i64 0) 1 8 Try.underlying22 hi0 hz0 hz1 hz2 rfl (by decide) (some ⟨rb, 0, none⟩) rl rl (m.x.r.map I) rfl (fun h => by cases h) (by rw [List.length_map, HRL.out, Nat.mul_one]) ?ca1 ⟨gs, 0, none⟩ 1 1 [I 7] rfl rfl ?cb1 (by simp [Value.oneCell']) (by omega) (by unfold maxLen; omega) (by omega) ?_
            case ca1 =>
              intro x hx j e hj
              obtain rfl := Option.some.inj hx
              have h := RC.out j e hj
              have h2 := (hV.cell (World.block_lt_of_cell? wr _ h)).trans h
              rwa [Addr.add_mid, Nat.zero_add]
            case cb1 =>
              intro j e hj
              cases j with
              | zero => simp at hj; subst hj; rw [Tab.add_zero, cell_of_row _ _ _ _ _ _ hf]; rfl
              | succ j => simp at hj
            intro v' v3 hown hgr
            have HU2 := HU.out.step BW.out hV
            have hex := HU2.grow (Nat.le_trans BW.out hV.size) HM.out (v' := v') (z := 7) (by rw [HRL.out]; exact hown) hgr
            have hV3 := hV.trans ((UO.grown_below hgr).mono hV.size)
            obtain ⟨x', hx1, hx2, hx3⟩ := hex
            subst hx2
            rw [HRL.out] at hx3
            have HX := Lib.hid hx3
            have HG := Lib.hid (HS.out.grow HM.out hx1)
            clear hx3 hx1 hown hgr HU2 hf hS HU HS
            rw [HRL.out]
            refine hK.out _ _ (CB.out _ hV3) (fun hS => ?_)
            clear hK K hV
            (try dsimp only [Act.put]); (try simp only [List.setIfInBounds_toArray, List.set_cons_zero, List.set_cons_succ])
            refine Held.take (i := 12) (some 105) rfl (v := ?_) rfl (by kernel_rfl) (by kernel_rfl) (by kernel_rfl) (fun _ _ _ h => h) (Or.inl ⟨by rfl, ?_⟩) hS ?_
            rotate_left
            · intro w' hw'
              go_simp
              try with_reducible rfl
            (try dsimp only [Act.put]); (try simp only [List.setIfInBounds_toArray, List.set_cons_zero, List.set_cons_succ])
            refine wpAnyH_ready (rs := [13]) (by kernel_rfl) (by simp) (AllReadyH.cons rfl (fun K hK => ?_) AllReadyH.nil)
            have c5 := CS.out v3 hV3
            have f5 := CF.out v3 hV3
            go_simp
            have HX4 : Hid (UO.Uo u.heap.size lo u5.heap.size u5 ub c2 G D R S (v3.setCell ⟨G, g * 2, none⟩ (.slice (some ⟨x'.b, 0, none⟩) (rl + 1) x'.cur.length)) (ns.set g (m.put 0 x')) T.dets T.rails T.buses) := HX
            clear HX c5 f5
            generalize World.setCell v3 _ _ = v4 at HX4 ⊢
            refine hK.out _ _ ((HX4.out.box 104).trans C104.out) (fun hS => ?_)
            clear hK K
            refine wpAnyH_done (by kernel_rfl) ?_ _
            clear hS
            (try dsimp only [Act.put]); (try simp only [List.setIfInBounds_toArray, List.set_cons_zero, List.set_cons_succ])
            go_wp2
            go_roundw
            case rel => exact ⟨g + 1, _, by omega, by go_num, HG.out, HX4.out⟩
            case measure => simp [intOf]; omega
          · go_simp
            have hf := heap_alloc_new v (.cells #[I 7] 3)
            have hq := hV.alloc hV.size (.cells #[I 7] 3)
            generalize v.heap.size = gs at hf ⊢
            generalize World.alloc v _ = v2 at hf hq ⊢
            clear hS
            refine hK.out _ _ (CB.out _ hq) (fun hS => ?_)
            clear hK K hV
            have hV := hq
            clear hq
            (try dsimp only [Act.put]); (try simp only [List.setIfInBounds_toArray, List.set_cons_zero, List.set_cons_succ])
            refine wpAnyH_ready (rs := [8]) (by kernel_rfl) (by simp) (AllReadyH.cons rfl (fun K hK => ?_) AllReadyH.nil)
            have cf := CS.out _ hV
            go_simp
            refine hK.out _ _ hS (fun hS => ?_)
            clear hK K cf
            (try dsimp only [Act.put]); (try simp only [List.setIfInBounds_toArray, List.set_cons_zero, List.set_cons_succ])
            refine wpAnyH_ready (rs := [10]) (by kernel_rfl) (by simp) (AllReadyH.cons rfl (fun K hK => ?_) AllReadyH.nil)
            refine step_append_grows rfl (.tmp 101) (.tmp 102) 22 rfl 3 i0 (.int .i64 0) 1 8 Try.underlying22 hi0 hz0 hz1 hz2 rfl (by decide) (some ⟨rb, 0, none⟩) rl rl (m.x.r.map I) rfl (fun h => by cases h) (by rw [List.length_map, HRL.out, Nat.mul_one]) ?ca2 ⟨gs, 0, none⟩ 1 1 [I 7] rfl rfl ?cb2 (by simp [Value.oneCell']) (by omega) (by unfold maxLen; omega) (by omega) ?_
            case ca2 =>
              intro x hx j e hj
              obtain rfl := Option.some.inj hx
              have h := RC.out j e hj
              have h2 := (hV.cell (World.block_lt_of_cell? wr _ h)).trans h
              rwa [Addr.add_mid, Nat.zero_add]
            case cb2 =>
              intro j e hj
              cases j with
              | zero => simp at hj; subst hj; rw [Tab.add_zero, cell_of_row _ _ _ _ _ _ hf]; rfl
              | succ j => simp at hj
            intro v' v3 hown hgr
            have HU2 := HU.out.step BW.out hV
            have hex := HU2.grow (Nat.le_trans BW.out hV.size) HM.out (v' := v') (z := 7) (by rw [HRL.out]; exact hown) hgr
            have hV3 := hV.trans ((UO.grown_below hgr).mono hV.size)
            obtain ⟨x', hx1, hx2, hx3⟩ := hex
            subst hx2
            rw [HRL.out] at hx3
            have HX := Lib.hid hx3
            have HG := Lib.hid (HS.out.grow HM.out hx1)
            clear hx3 hx1 hown hgr HU2 hf hS HU HS
            rw [HRL.out]
            refine hK.out _ _ (CB.out _ hV3) (fun hS => ?_)
            clear hK K hV
            (try dsimp only [Act.put]); (try simp only [List.setIfInBounds_toArray, List.set_cons_zero, List.set_cons_succ])
            refine Held.take (i := 12) (some 105) rfl (v := ?_) rfl (by kernel_rfl) (by kernel_rfl) (by kernel_rfl) (fun _ _ _ h => h) (Or.inl ⟨by rfl, ?_⟩) hS ?_
            rotate_left
            · intro w' hw'
              go_simp
              try with_reducible rfl
            (try dsimp only [Act.put]); (try simp only [List.setIfInBounds_toArray, List.set_cons_zero, List.set_cons_succ])
            refine wpAnyH_ready (rs := [13]) (by kernel_rfl) (by simp) (AllReadyH.cons rfl (fun K hK => ?_) AllReadyH.nil)
            have c5 := CS.out v3 hV3
            have f5 := CF.out v3 hV3
            go_simp
            have HX4 : Hid (UO.Uo u.heap.size lo u5.heap.size u5 ub c2 G D R S (v3.setCell ⟨G, g * 2, none⟩ (.slice (some ⟨x'.b, 0, none⟩) (rl + 1) x'.cur.length)) (ns.set g (m.put 0 x')) T.dets T.rails T.buses) := HX
            clear HX c5 f5
            generalize World.setCell v3 _ _ = v4 at HX4 ⊢
            refine hK.out _ _ ((HX4.out.box 104).trans C104.out) (fun hS => ?_)
            clear hK K
            refine wpAnyH_done (by kernel_rfl) ?_ _
            clear hS
            (try dsimp only [Act.put]); (try simp only [List.setIfInBounds_toArray, List.set_cons_zero, List.set_cons_succ])
            go_wp2
            go_roundw
            case rel => exact ⟨g + 1, _, by omega, by go_num, HG.out, HX4.out⟩
            case measure => simp [intOf]; omega
    · obtain rfl : n = g := by omega
      clear hlt hg
      go_wp2_with fail
      clear k104
      rename World => wo
      go_loopw [9] (fun v wr => ∃ (q : Nat) (ds : List Det), q ≤ nd ∧ v = .int .i64 (q : Int) ∧ ds.length = nd ∧ UO.Uo u.heap.size lo u5.heap.size u5 ub c2 G D R S wr ns ds T.rails T.buses) (fun v _ => nd - (intOf v).toNat)
      case atStart => exact ⟨0, _, by omega, rfl, HND.out, HU.out⟩
      case round =>
        clear HU
        obtain ⟨q, ds, hqq, rfl, hln, hu⟩ := hrel
        have HU := Lib.hid hu
        have LD := Lib.hid hln
        clear hu hln
        have kc : wr.cell? ⟨ub, 113, none⟩ = some (.slice (some ⟨D, 0, none⟩) nd nd) := (HU.out.box 113).trans C113.out
        by_cases hlt : q < nd
        · obtain ⟨d, hdd⟩ : ∃ d, ds[q]? = some d := ⟨_, List.getElem?_eq_getElem (by rw [LD.out]; exact hlt)⟩
          obtain ⟨kz0, fz⟩ := HU.out.detc (j := 5) hdd (by decide)
          obtain ⟨z, hz⟩ : ∃ z, d.maxOn = z := ⟨_, rfl⟩
          have kz : wr.cell? ⟨D, q * 7 + 5, none⟩ = some (I z) := by rw [kz0, ← hz]; rfl
          clear kz0 hz
          go_upto_region 19 with fail
          have h1 := HU.out.det (j := 5) (d' := { d with maxOn := wrap64 (z + 1) }) hdd (by decide) (I (wrap64 (z + 1))) rfl
          generalize wrap64 (z + 1) = z' at h1 ⊢
          generalize World.setCell wr _ _ = W1 at h1 ⊢
          have H1 := Lib.hid h1
          clear h1 kz fz kc HU hdd
          go_wp2
          go_roundw
          case rel => exact ⟨q + 1, _, by omega, by go_num, by rw [List.length_set]; exact LD.out, H1.out⟩
          case measure => simp [intOf]; omega
        · obtain rfl : nd = q := by omega
          clear hlt hqq
          go_wp2_with fail
          rename World => wo
          go_loopw [10] (fun v wr => ∃ (q : Nat) (rs : List Rl), q ≤ nr ∧ v = .int .i64 (q : Int) ∧ rs.length = nr ∧ UO.Uo u.heap.size lo u5.heap.size u5 ub c2 G D R S wr ns ds rs T.buses) (fun v _ => nr - (intOf v).toNat)
          case atStart => exact ⟨0, _, by omega, rfl, HNR.out, HU.out⟩
          case round =>
            clear HU
            obtain ⟨q, rs, hqq, rfl, hln, hu⟩ := hrel
            have HU := Lib.hid hu
            have LR := Lib.hid hln
            clear hu hln
            have kc : wr.cell? ⟨ub, 114, none⟩ = some (.slice (some ⟨R, 0, none⟩) nr nr) := (HU.out.box 114).trans C114.out
            by_cases hlt : q < nr
            · obtain ⟨d, hdd⟩ : ∃ d, rs[q]? = some d := ⟨_, List.getElem?_eq_getElem (by rw [LR.out]; exact hlt)⟩
              obtain ⟨kz0, fz⟩ := HU.out.railc (j := 8) hdd (by decide)
              obtain ⟨z, hz⟩ : ∃ z, d.stay = z := ⟨_, rfl⟩
              have kz : wr.cell? ⟨R, q * 11 + 8, none⟩ = some (I z) := by rw [kz0, ← hz]; rfl
              clear kz0 hz
              go_upto_region 23 with fail
              have h1 := HU.out.rail (j := 8) (d' := { d with stay := wrap64 (z + 1) }) hdd (by decide) (I (wrap64 (z + 1))) rfl
              generalize wrap64 (z + 1) = z' at h1 ⊢
              generalize World.setCell wr _ _ = W1 at h1 ⊢
              have H1 := Lib.hid h1
              clear h1 kz fz kc HU hdd
              go_wp2
              go_roundw
              case rel => exact ⟨q + 1, _, by omega, by go_num, by rw [List.length_set]; exact LR.out, H1.out⟩
              case measure => simp [intOf]; omega
            · obtain rfl : nr = q := by omega
              clear hlt hqq
              go_wp2_with fail
              rename World => wo
              go_loopw [11] (fun v wr => ∃ (q : Nat) (bs : List Bs), q ≤ nb ∧ v = .int .i64 (q : Int) ∧ bs.length = nb ∧ UO.Uo u.heap.size lo u5.heap.size u5 ub c2 G D R S wr ns ds rs bs) (fun v _ => nb - (intOf v).toNat)
              case atStart => exact ⟨0, _, by omega, rfl, HNB.out, HU.out⟩
              case round =>
                clear HU
                obtain ⟨q, bs, hqq, rfl, hln, hu⟩ := hrel
                have HU := Lib.hid hu
                have LB := Lib.hid hln
                clear hu hln
                have kc : wr.cell? ⟨ub, 115, none⟩ = some (.slice (some ⟨S, 0, none⟩) nb nb) := (HU.out.box 115).trans C115.out
                by_cases hlt : q < nb
                · obtain ⟨d, hdd⟩ : ∃ d, bs[q]? = some d := ⟨_, List.getElem?_eq_getElem (by rw [LB.out]; exact hlt)⟩
                  obtain ⟨kz0, fz⟩ := HU.out.busc (j := 1) hdd (by decide)
                  obtain ⟨z, hz⟩ : ∃ z, d.lock = z := ⟨_, rfl⟩
                  have kz : wr.cell? ⟨S, q * 2 + 1, none⟩ = some (I z) := by rw [kz0, ← hz]; rfl
                  clear kz0 hz
                  go_upto_region 27 with fail
                  have h1 := HU.out.bus (j := 1) (d' := { d with lock := wrap64 (z + 1) }) hdd (by decide) (I (wrap64 (z + 1))) rfl
                  generalize wrap64 (z + 1) = z' at h1 ⊢
                  generalize World.setCell wr _ _ = W1 at h1 ⊢
                  have H1 := Lib.hid h1
                  clear h1 kz fz kc HU hdd
                  go_wp2
                  go_roundw
                  case rel => exact ⟨q + 1, _, by omega, by go_num, by rw [List.length_set]; exact LB.out, H1.out⟩
                  case measure => simp [intOf]; omega
                · obtain rfl : nb = q := by omega
                  clear hlt hqq
                  go_upto_region 29 with fail
                  clear kc
                  have HF := Lib.hid (TU.out _ HU.out.bel)
                  have TT := Lib.hid (TB.out _ HF.out)
                  have LT := Lib.hid (LTB.out _ HF.out)
                  obtain ⟨wt, wl⟩ := WBK.out _ (fun j h1 h2 => HU.out.mid j h1 h2)
                  have WT := Lib.hid wt
                  have WL := Lib.hid wl
                  have UT := Lib.hid (HU.out.tab T8.out.ph T8.out.cf T8.out.fl SMT.out HS.out.len (by rw [LD.out, HND.out]) (by rw [LR.out, HNR.out]) (by rw [LB.out, HNB.out]))
                  have UL : Hid (Lies wr ⟨ub, 0, none⟩ c2) := Lib.hid (by have := Row.lies_of_block HU.out.blk; simpa using this)
                  have HO := Lib.hid (HS.out.other (g := n) GL.out (by rw [HN.out]; exact GL.out) ds rs bs)
                  have UC : Hid (({ T with groups := ns.map (fun n => (n.x.r, n.y.r)), dets := ds, rails := rs, buses := bs } : Tab).cells hq = c2) := Lib.hid (by
                    rw [← HC2.out]
                    unfold Tab.cells
                    rw [List.length_map, HS.out.len, LD.out, LR.out, LB.out, HND.out, HNR.out, HNB.out])
                  rw [HQ.out] at UT
                  clear wt wl WBK TU HU HS LD LR LB SMT HND HNR HNB HN C104 C113 C114 C115
                  generalize ({ T with groups := ns.map (fun n => (n.x.r, n.y.r)), dets := ds, rails := rs, buses := bs } : Tab) = U at UT HO UC
                  have r1 := Same.rsame_any T T hd hw wr TT.out WT.out
                  rw [HC.out, HC3.out, decide_eq_true rfl] at r1
                  have R1 := Lib.hid r1
                  clear r1
                  go_wp2_with (first | (refine Row.wpList_load_g 32 _ rfl (by first | rfl | go_simp) ⟨tb, 0, none⟩ rfl c _ LT.out Try.underlying32 rfl IA.out ?_) | (refine Row.wpList_load_g 32 _ rfl (by first | rfl | go_simp) ⟨wb, 0, none⟩ rfl c3 _ WL.out Try.underlying32 rfl I3.out ?_))
                  refine R1.out.mono ?_
                  rintro e v1 ⟨rfl, hb1⟩
                  have LT1 := Lib.hid (LT.out.below hb1)
                  have UL1 := Lib.hid (UL.out.below hb1)
                  have r2 := Same.same_any T U hd hq v1 (TT.out.below hb1) (UT.out.below hb1)
                  rw [HC.out, UC.out, decide_eq_false HO.out] at r2
                  have R2 := Lib.hid r2
                  have HF1 := Lib.hid (HF.out.trans (hb1.mono HF.out.size))
                  clear r2 hb1 HF LT WL UL TT WT UT
                  go_wp2_with (first | (refine Row.wpList_load_g 32 _ rfl (by first | rfl | go_simp) ⟨tb, 0, none⟩ rfl c _ LT1.out Try.underlying32 rfl IA.out ?_) | (refine Row.wpList_load_g 32 _ rfl (by first | rfl | go_simp) ⟨ub, 0, none⟩ rfl c2 _ UL1.out Try.underlying32 rfl IB.out ?_))
                  refine R2.out.mono ?_
                  rintro e v2 ⟨rfl, hb2⟩
                  have HF2 := Lib.hid (HF1.out.trans (hb2.mono HF1.out.size))
                  clear hb2
                  go_wp2_with fail
                  refine (Wa.awake_any _).mono ?_
                  rintro e v3 ⟨rfl, hb3⟩
                  have HF3 := Lib.hid (A0.out.trans ((HF2.out.trans (hb3.mono HF2.out.size)).mono A0.out.size))
                  clear hb3
                  go_wp2
                  go_ret
                  exact ⟨rfl, HF3.out⟩
/-! ### the row's step -/
theorem lifted (os : Os) (started : os.Started) (H : Type) (enc : TypeId × Value → H) :
    ReturnsInHanded {} Try.checked os 3 .any (Rows.tableOwnSpec.pre6 enc Try.prog Try.f3 Rows.tableOwnRow.domain false) (Rows.tableOwnSpec.post enc Try.prog Try.f3 false true false false) := by
  refine returnsInHanded_of_change (C := Try.checked) own started (by kernel_rfl) Try.func3
    (ChangeSpec.witness6 (enc := enc) (C := Try.checked) false ⟨#[], #[.slice none 0 0], []⟩ 8 (by kernel_rfl) (by kernel_rfl) (by kernel_rfl) (by kernel_rfl)) ?_
  intro W base args ds gs before hval0 hW hcnd _
  have hval : ∀ (j : Nat) t v, Try.f3.params[j]? = some t → args[j]? = some v → Value.okWide Try.prog W .any base t v := hval0
  have hW' := hW
  obtain ⟨p, q, hA0, hV, rfl, hfz, hnd⟩ := hW
  have hA : DataW.TrodAll enc Try.prog W 0 (fun _ => true) true Try.f3.params.toList args.toList ds p := hA0
  rw [Try.params3] at hA hval
  obtain ⟨v0, vs0, d0, ds0, p0, q0, hargs, rfl, rfl, h0, r0⟩ := trodAll_cons hA
  obtain ⟨rfl, rfl, rfl⟩ := trodAll_nil r0
  obtain rfl : args = #[v0] := by cases args; simp_all
  obtain ⟨rfl, rfl⟩ := trodVars_none hV
  obtain ⟨a0, len0, cap0, rfl⟩ := okWide_slice Try.underlying22 (hval 0 22 v0 rfl rfl)
  have k0 := h0
  have lt0 : ∀ x ∈ p0, x.block < W.heap.size := by obtain ⟨m, hm⟩ := k0; exact DataW.trod_lt m _ _ _ hm
  obtain ⟨z0, w0⟩ : ∃ zs, IsRow .i64 W a0 len0 cap0 zs := by
    obtain ⟨fuel, hf⟩ := h0
    rcases open_ints Try.underlying22 Try.underlying3 (by kernel_rfl) hf with ⟨hcs, _⟩ | ⟨x, l, c, zs, hcs, _, hl, hm, hz, _, hcell, hwz⟩
    · simp [Value.cells] at hcs
      obtain ⟨rfl, rfl, rfl⟩ := hcs
      exact ⟨[], .inl ⟨rfl, rfl, rfl, rfl⟩⟩
    · simp [Value.cells] at hcs
      obtain ⟨rfl, rfl, rfl⟩ := hcs
      exact ⟨zs, .inr ⟨_, rfl, hl, hm, by simpa using hz, hcell, hwz⟩⟩
  clear hA0 hval0
  refine (walk a0 len0 cap0 z0 W w0).mono fun e W' ⟨he, bel⟩ => ?_
  subst he
  exact ⟨_, rfl, _, _, _, [], _, [], hW', trodAll_mk1 (shut_bool Try.underlying4 _), (trodAll_cons_mk (Below.trod laidOut (by kernel_rfl) (of_decide_eq_true (by kernel_rfl)) k0 bel lt0) trodAll_mk0), rfl, bel.frame _, fun h => by cases h⟩
theorem over : Rows.tableOwnRow.holds Try.pinned (OpenSpec.ofChange Rows.tableOwnSpec) :=
  OpenClaim.holds_of_wide 3 Try.f3 rfl rfl rfl rfl rfl rfl rfl ⟨rfl, rfl, rfl, rfl, rfl⟩ rfl rfl rfl rfl rfl (by kernel_rfl) Try.func3 (by kernel_rfl)
    (of_decide_eq_true (by kernel_rfl)) (by unfold Func.isWrapper; first | (rw [if_pos (by decide +kernel)]; kernel_rfl) | (rw [if_neg (by decide +kernel)]; exact ⟨rfl, rfl⟩))
    (fun os started H enc _ => lifted os started H enc)
/-- the statement -/
theorem proved : Rows.TableOwnSaid :=
  over
#print axioms proved
end tableOwn
end Go.Proofs.Ytambpohphbdhcaa
