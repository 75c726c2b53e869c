/- The contract of table.Clone: the walk. -/
import Derived.Test.YtfnpcfibgabmfaaRows
import Derived.Test.YtfnpcfibgabmfaaCloneA
import Derived.Test.YtfnpcfibgabmfaaRow
import Derived.Deep.Cut
import Derived.LoopTactic
namespace Go.Proofs.Ytfnpcfibgabmfaa.Clone
open Go.ChangeShapes Go.WideShapes Go.ChangeAt Go.RowKit
open Tab Copy Owned
open May (chain infoP infoG infoD infoR infoB infoT take_succ')
set_option linter.unusedVariables false
set_option linter.unusedSimpArgs false

/-- The groups' block while it is being filled. -/
def mix (ns : List NG) (gs : List Gr) (k : Nat) : List Gr := ns.map NG.gr ++ gs.drop k
theorem mix_at {ns : List NG} {gs : List Gr} {k : Nat} {v : Gr} (hn : ns.length = k) (hv : gs[k]? = some v) : (mix ns gs k)[k]? = some v := by
  unfold mix
  rw [List.getElem?_append_right (by rw [List.length_map]; omega), List.length_map, hn, Nat.sub_self, List.getElem?_drop, Nat.add_zero, hv]
theorem mix_next {ns : List NG} {gs : List Gr} {k : Nat} {v : Gr} (n : NG) (hn : ns.length = k) (hv : gs[k]? = some v) :
    ((mix ns gs k).flatMap Gr.cells).take (k * 2) ++ n.gr.cells ++ ((mix ns gs k).flatMap Gr.cells).drop (k * 2 + 2) = (mix (ns ++ [n]) gs (k + 1)).flatMap Gr.cells := by
  have hk : k < gs.length := (List.getElem?_eq_some_iff.1 hv).1
  have hl : ((ns.map NG.gr).flatMap Gr.cells).length = k * 2 := by rw [flat_len (n := 2) (enc := Gr.cells) (fun _ => rfl), List.length_map, hn]
  have hd : gs.drop k = v :: gs.drop (k + 1) := by
    rw [List.drop_eq_getElem_cons hk]; congr 1
    exact (List.getElem?_eq_some_iff.1 hv).2
  unfold mix
  rw [hd, List.flatMap_append, List.flatMap_cons, List.take_left' hl, List.map_append, List.flatMap_append, List.flatMap_append]
  rw [show k * 2 + 2 = ((ns.map NG.gr).flatMap Gr.cells).length + v.cells.length by rw [hl]; rfl, ← List.append_assoc, List.drop_left' (by rw [List.length_append])]
  simp
def LL (T : Tab) (h1 : Hd) (N G : Nat) (zs : List Value) (ns : List NG) (gs : List Gr) (k : Nat) : List Blk :=
  ⟨G, (mix ns gs k).flatMap Gr.cells, 42⟩ :: ⟨N, T.cells h1, 33⟩ :: ⟨N + 1, zs, 33⟩ :: ns.flatMap NG.blks
theorem perm_next {T : Tab} {h1 : Hd} {N G : Nat} {zs : List Value} {ns : List NG} {gs : List Gr} {k : Nat} {cs : List Value} (n : NG) (e : cs = (mix (ns ++ [n]) gs (k + 1)).flatMap Gr.cells) :
    (LL T h1 N G zs (ns ++ [n]) gs (k + 1)).Perm (⟨G, cs, 42⟩ :: ⟨n.b1, n.r1.flatMap (fun n => [I n]), 3⟩ :: ⟨n.b0, n.r0.flatMap (fun n => [I n]), 3⟩ :: ⟨N, T.cells h1, 33⟩ :: ⟨N + 1, zs, 33⟩ :: ns.flatMap NG.blks) := by
  subst e
  unfold LL
  rw [List.flatMap_append, show List.flatMap NG.blks [n] = [⟨n.b0, n.r0.flatMap (fun n => [I n]), 3⟩, ⟨n.b1, n.r1.flatMap (fun n => [I n]), 3⟩] from rfl]
  refine List.Perm.cons _ ?_
  generalize (⟨n.b0, _, _⟩ : Blk) = x0
  generalize (⟨n.b1, _, _⟩ : Blk) = x1
  generalize (⟨N, _, _⟩ : Blk) = y0
  generalize (⟨N + 1, _, _⟩ : Blk) = y1
  generalize ns.flatMap NG.blks = L
  have a1 : (y0 :: y1 :: (L ++ [x0, x1])).Perm ([x0, x1] ++ (y0 :: y1 :: L)) := (List.perm_append_comm (l₁ := y0 :: y1 :: L) (l₂ := [x0, x1]))
  exact a1.trans (List.Perm.swap _ _ _)
/-- The phases of the region that fills one group. -/
def D5 (w : World) (B M : Nat) (L0 L1 L2 L3 : List Blk) (q : Nat) (w' : World) : Prop :=
  Below B w w' ∧ match q with
    | 0 => Own B w' L0 ∧ w'.heap.size = M + 1
    | 1 => Own B w' L1 ∧ w'.heap.size = M + 1 + 1
    | 2 => Own B w' L2 ∧ w'.heap.size = M + 1 + 1 + 1
    | _ => Own B w' L3
theorem D5.get {w w' : World} {B M q : Nat} {L0 L1 L2 L3 : List Blk} {x : Blk} (h : D5 w B M L0 L1 L2 L3 q w') (h0 : x ∈ L0) (h1 : x ∈ L1) (h2 : x ∈ L2) (h3 : x ∈ L3) : w'.heap[x.at_]? = some (.cells x.cells.toArray x.type (0, 0)) := by
  match q, h with
  | 0, ⟨_, h, _⟩ => exact h.get h0
  | 1, ⟨_, h, _⟩ => exact h.get h1
  | 2, ⟨_, h, _⟩ => exact h.get h2
  | _ + 3, ⟨_, h⟩ => exact h.get h3
theorem fresh_link {w w' : World} {sz : Nat} {L : List Blk} {a : Option Addr} {cap : Nat} {l : List Int} (hb : Below w.heap.size w w') (ho : Own w.heap.size w' L) (hs : w'.heap.size = sz) (hr : IntRow w ⟨a, cap⟩ l) (hl : l.length ≤ 1000) :
    Calls Try.prog 43 #[.slice a l.length cap] w' fun e w'' => e = .returned (.slice (some ⟨sz, 0, none⟩) l.length l.length) ∧ Below w.heap.size w w'' ∧ Own w.heap.size w'' (⟨sz, l.flatMap (fun n => [I n]), 3⟩ :: L) ∧ w''.heap.size = sz + 1 := by
  subst hs
  refine (freshI_any a cap l w' (hr.below hb) hl).mono ?_
  rintro e w'' ⟨rfl, hg, hb2, hz⟩
  exact ⟨rfl, hb.trans (hb2.mono hb.size), ho.add hb2 hg (Nat.le_refl _) hb.size, hz⟩
theorem mix_len {ns : List NG} {gs : List Gr} {k : Nat} (hn : ns.length = k) (hk : k ≤ gs.length) : ((mix ns gs k).flatMap Gr.cells).length = gs.length * 2 := by
  rw [flat_len (n := 2) (enc := Gr.cells) (fun _ => rfl)]
  unfold mix
  rw [List.length_append, List.length_map, List.length_drop]
  omega
theorem store_link {w w' : World} {L : List Blk} {G k : Nat} {ns : List NG} {gs : List Gr} {v : Gr} (hb : Below w.heap.size w w') (ho : Own w.heap.size w' L) (hx : L[3]? = some ⟨G, (mix ns gs k).flatMap Gr.cells, 42⟩) (hn : ns.length = k) (hv : gs[k]? = some v) (n : NG) :
    ∃ w'', (Instr.storeAt 42 (.pointer (some ⟨G, k * 2, none⟩)) (.agg n.gr.cells.toArray)).run Try.prog w' = .ok () w'' ∧ Below w.heap.size w w'' ∧ Own w.heap.size w'' (L.set 3 ⟨G, (mix (ns ++ [n]) gs (k + 1)).flatMap Gr.cells, 42⟩) := by
  have hk : k < gs.length := (List.getElem?_eq_some_iff.1 hv).1
  have h1 := Row.run_storeAt_at (P := Try.prog) w' G (k * 2) 42 42 _ n.gr.cells.toArray (ho.get (List.mem_of_getElem? hx)) infoG (by rw [List.size_toArray]; show k * 2 + 2 ≤ ((mix ns gs k).flatMap Gr.cells).length; rw [mix_len hn (by omega)]; omega) (Gr.one _)
  have h2 := mix_next n hn hv
  rw [show (k * 2 + n.gr.cells.toArray.size) = k * 2 + 2 from rfl] at h1
  dsimp only at h1
  rw [h2] at h1
  exact ⟨_, h1, below_setRow hb (ho.base (List.mem_of_getElem? hx)) _, ho.row_at hx _⟩
set_option maxRecDepth 10000 in
set_option maxHeartbeats 8000000 in
theorem clone_any (T : Tab) (h : Hd) (w : World) (kt : IsTab w h T) (sm : Small T) :
    Calls Try.prog 11 #[.agg (T.cells h).toArray] w fun e w' => ∃ (ns : List NG) (G D R S : Nat), e = .returned (.agg (T.cells (hd T G D R S)).toArray) ∧ ns.map (fun g => (g.r0, g.r1)) = T.groups ∧ Own w.heap.size w' (own T ns G D R S) ∧ Below w.heap.size w w' := by
  have K8 := Lib.hid (Eights.mk kt.ph kt.cf kt.fl)
  have hz := (zero_of_info info31).1
  have hzs : (zTab.cells zHd).toArray.size = 131 := (cells_ok (z_is w)).size
  have HZ1 := Lib.hid hzs
  obtain ⟨gs, hgd, hgr⟩ := kt.groups
  have Hgd := Lib.hid hgd
  have hgl : gs.length = T.groups.length := by rw [← hgd, List.length_map]
  have Hgl := Lib.hid hgl
  have Kg := hgr.1.len
  have C := Lib.hid (cells_ok kt)
  have hcz := C.out.size
  unfold maxLen at Kg
  have SM := Lib.hid sm
  have hlg : gs.length ≤ 1000 := by rw [hgl]; exact sm.groups
  have Hkt := Lib.hid kt
  have Hgr := Lib.hid hgr
  clear hgr sm kt hgd hzs hgl
  generalize hzz : (zTab.cells zHd).toArray = Z at hz HZ1
  go_enter Try.func11, Try.ntmps11
  go_upto_region 1 with fail
  have b0 : Below w.heap.size w ((w.alloc (.cells (T.cells h).toArray 33)).alloc (.cells Z 33)) := ((Below.refl _ _).alloc (Nat.le_refl _) _).alloc (by simp) _
  have o0 : Own w.heap.size ((w.alloc (.cells (T.cells h).toArray 33)).alloc (.cells Z 33)) [⟨w.heap.size, T.cells h, 33⟩, ⟨w.heap.size + 1, Z.toList, 33⟩] :=
    ⟨by simp, fun x hx => by
      simp only [List.mem_cons, List.not_mem_nil, or_false] at hx
      rcases hx with rfl | rfl
      · exact ⟨Nat.le_refl _, heap_alloc2_old w _ _⟩
      · exact ⟨Nat.le_succ _, heap_alloc2_new w _ _⟩⟩
  have O0 := Lib.hid o0
  have B0 := Lib.hid b0
  clear o0 b0
  generalize (w.alloc (.cells (T.cells h).toArray 33)).alloc (.cells Z 33) = w1 at O0 B0 ⊢
  generalize (T.cells h).toArray = cs0 at C hcz ⊢
  clear hz hcz
  have c104 : w1.cell? ⟨w.heap.size, 104, none⟩ = some (.slice h.g.a gs.length h.g.cap) := by
    have e1 := (K8.out.tab h w).g
    rw [List.getElem?_toArray] at e1
    rw [O0.out.cell (x := ⟨w.heap.size, T.cells h, 33⟩) (List.mem_cons_self ..), Hgl.out]
    exact e1
  go_wp2_with fail
  refine (freshG_any h.g.a h.g.cap gs _ (Hgr.out.1.below B0.out) hlg).mono ?_
  rintro e w2 ⟨rfl, hg, hb, hsz⟩
  have O1 := Lib.hid (O0.out.add hb hg (Nat.le_refl _) B0.out.size)
  have B1 := Lib.hid (B0.out.trans (hb.mono B0.out.size))
  have c2 : w2.cell? ⟨w.heap.size, 104, none⟩ = some (.slice h.g.a gs.length h.g.cap) := (hb.cell (World.block_lt_of_cell? _ _ c104)).trans c104
  have f2 : w2.frozen? ⟨w.heap.size, 104, none⟩ = false := O1.out.frozen (x := ⟨w.heap.size, T.cells h, 33⟩) (List.mem_cons_of_mem _ (List.mem_cons_self ..)) 104
  clear hg hb hsz c104 O0
  generalize hG : w1.heap.size = G at O1 ⊢
  have HG := Lib.hid hG
  clear hG
  go_wp2_with fail
  have hset := set_g K8.out h (at0 G gs.length)
  rw [← Hgl.out] at hset
  have O3 := O1.out.cell_at (i := 1) (x := ⟨w.heap.size, T.cells h, 33⟩) rfl 104 (.slice (some ⟨G, 0, none⟩) gs.length gs.length)
  have B3 := Lib.hid (below_write B1.out (Nat.le_refl _) (i := 104) (.slice (some ⟨G, 0, none⟩) gs.length gs.length))
  dsimp only [List.set_cons_succ, List.set_cons_zero] at O3
  rw [hset] at O3
  have O3 : Hid (Own w.heap.size _ (LL T { h with g := at0 G gs.length } w.heap.size G Z.toList [] gs 0)) := O3
  generalize World.setCell w2 _ _ = w3 at O3 B3 ⊢
  clear hset c2 f2 O1 B1
  have hc1 := (K8.out.tab { h with g := at0 G gs.length } w)
  have H104 : Hid ((T.cells { h with g := at0 G gs.length })[104]? = some (.slice (some ⟨G, 0, none⟩) gs.length gs.length)) := by have := hc1.g; rw [List.getElem?_toArray] at this; rw [this]; show some (Value.slice (some ⟨G, 0, none⟩) T.groups.length gs.length) = _; rw [← Hgl.out]
  have H113 : Hid ((T.cells { h with g := at0 G gs.length })[113]? = some (h.d.val T.dets.length)) := by have := hc1.d; rwa [List.getElem?_toArray] at this
  clear hc1
  generalize hh1 : ({ h with g := at0 G gs.length } : Hd) = h1 at O3 H104 H113
  have Hh1 := Lib.hid hh1
  clear hh1
  go_loopw [12] (fun i wr => ∃ (k : Nat) (ns : List NG), k ≤ gs.length ∧ i = .int .i64 k ∧ ns.length = k ∧ ns.map (fun g => (g.r0, g.r1)) = (gs.take k).map Gr.data ∧ Own w.heap.size wr (LL T h1 w.heap.size G Z.toList ns gs k) ∧ Below w.heap.size w wr) (fun i _ => gs.length - (intOf i).toNat)
  case atStart => exact ⟨0, [], Nat.zero_le _, rfl, rfl, rfl, O3.out, B3.out⟩
  case round =>
    clear O3 B3
    obtain ⟨k, ns, hk, rfl, hnl, hnd, ho, hb⟩ := hrel
    have O3 := Lib.hid ho
    have B3 := Lib.hid hb
    have ND := Lib.hid hnd
    have NL := Lib.hid hnl
    clear ho hb hnd hnl
    by_cases hlt : k < gs.length
    · have hv := List.getElem?_eq_getElem hlt
      generalize gs[k] = v at hv
      have HV := Lib.hid hv
      have hok := Hgr.out.2 v (List.mem_of_getElem? hv)
      have hsm := SM.out.rows v.data (by rw [← Hgd.out]; exact List.mem_map.2 ⟨v, List.mem_of_getElem? hv, rfl⟩)
      have HC : Hid (Lies wr ⟨G, k * 2, none⟩ v.cells) := fun j u hu => by
        rw [Addr.add_mid, cell_of_row _ _ _ _ _ _ (O3.out.get (List.mem_cons_self ..)), List.getElem?_toArray]
        exact flat_at (n := 2) (enc := Gr.cells) (fun _ => rfl) _ k v j u (mix_at NL.out hv) hu
      obtain ⟨l0, l1, ⟨a0, cap0⟩, ⟨a1, cap1⟩⟩ := v
      have H0 := Lib.hid hok.1
      have H1 := Lib.hid hok.2
      have S0 := Lib.hid hsm.1
      have S1 := Lib.hid hsm.2
      clear hv hok hsm
      go_wp2_with (first | (refine Row.wpList_load_lies rfl 42 _ rfl ⟨G, k * 2, none⟩ rfl (Gr.mk l0 l1 ⟨a0, cap0⟩ ⟨a1, cap1⟩).cells _ HC.out Try.underlying42 rfl infoG ?_) | (refine Row.wpList_store_new rfl 42 _ _ rfl _ _ (Gr.mk l0 l1 ⟨a0, cap0⟩ ⟨a1, cap1⟩).cells.toArray rfl rfl rfl infoG rfl (Gr.one _) ?_))
      have hbw : Below wr.heap.size wr (wr.alloc (.cells (Gr.mk l0 l1 ⟨a0, cap0⟩ ⟨a1, cap1⟩).cells.toArray 42)) := (Below.refl _ _).alloc (Nat.le_refl _) _
      have B4 := Lib.hid (B3.out.trans (hbw.mono B3.out.size))
      have O4 := Lib.hid (O3.out.add hbw (heap_alloc_new wr _) (Nat.le_refl _) B3.out.size)
      have HZ4 : Hid ((wr.alloc (.cells (Gr.mk l0 l1 ⟨a0, cap0⟩ ⟨a1, cap1⟩).cells.toArray 42)).heap.size = wr.heap.size + 1) := by show _ = _; simp
      clear hbw
      generalize wr.alloc (.cells (Gr.mk l0 l1 ⟨a0, cap0⟩ ⟨a1, cap1⟩).cells.toArray 42) = w4 at B4 O4 HZ4 ⊢
      generalize wr.heap.size = M at O4 HZ4 ⊢
      clear O3 B3 HC
      have HB5 : Hid (D5 w w.heap.size M (⟨M, (Gr.mk l0 l1 ⟨a0, cap0⟩ ⟨a1, cap1⟩).cells, 42⟩ :: LL T h1 w.heap.size G Z.toList ns gs k) (⟨M + 1, l0.flatMap (fun n => [I n]), 3⟩ :: ⟨M, (Gr.mk l0 l1 ⟨a0, cap0⟩ ⟨a1, cap1⟩).cells, 42⟩ :: LL T h1 w.heap.size G Z.toList ns gs k) (⟨M + 1 + 1, l1.flatMap (fun n => [I n]), 3⟩ :: ⟨M + 1, l0.flatMap (fun n => [I n]), 3⟩ :: ⟨M, (Gr.mk l0 l1 ⟨a0, cap0⟩ ⟨a1, cap1⟩).cells, 42⟩ :: LL T h1 w.heap.size G Z.toList ns gs k) (⟨M + 1 + 1, l1.flatMap (fun n => [I n]), 3⟩ :: ⟨M + 1, l0.flatMap (fun n => [I n]), 3⟩ :: ⟨M, (Gr.mk l0 l1 ⟨a0, cap0⟩ ⟨a1, cap1⟩).cells, 42⟩ :: ⟨G, (mix (ns ++ [⟨l0, l1, M + 1, M + 1 + 1⟩]) gs (k + 1)).flatMap Gr.cells, 42⟩ :: ⟨w.heap.size, T.cells h1, 33⟩ :: ⟨w.heap.size + 1, Z.toList, 33⟩ :: ns.flatMap NG.blks) 0 w4.drew) := ⟨B4.out.drew, O4.out.same rfl, HZ4.out⟩
      generalize hD : D5 w w.heap.size M (⟨M, (Gr.mk l0 l1 ⟨a0, cap0⟩ ⟨a1, cap1⟩).cells, 42⟩ :: LL T h1 w.heap.size G Z.toList ns gs k) (⟨M + 1, l0.flatMap (fun n => [I n]), 3⟩ :: ⟨M, (Gr.mk l0 l1 ⟨a0, cap0⟩ ⟨a1, cap1⟩).cells, 42⟩ :: LL T h1 w.heap.size G Z.toList ns gs k) (⟨M + 1 + 1, l1.flatMap (fun n => [I n]), 3⟩ :: ⟨M + 1, l0.flatMap (fun n => [I n]), 3⟩ :: ⟨M, (Gr.mk l0 l1 ⟨a0, cap0⟩ ⟨a1, cap1⟩).cells, 42⟩ :: LL T h1 w.heap.size G Z.toList ns gs k) (⟨M + 1 + 1, l1.flatMap (fun n => [I n]), 3⟩ :: ⟨M + 1, l0.flatMap (fun n => [I n]), 3⟩ :: ⟨M, (Gr.mk l0 l1 ⟨a0, cap0⟩ ⟨a1, cap1⟩).cells, 42⟩ :: ⟨G, (mix (ns ++ [⟨l0, l1, M + 1, M + 1 + 1⟩]) gs (k + 1)).flatMap Gr.cells, 42⟩ :: ⟨w.heap.size, T.cells h1, 33⟩ :: ⟨w.heap.size + 1, Z.toList, 33⟩ :: ns.flatMap NG.blks) = D at HB5
      have HD := Lib.hid hD
      have HM : Hid (∀ p : Ph.S D, p.world.heap[M]? = some (.cells (Gr.mk l0 l1 ⟨a0, cap0⟩ ⟨a1, cap1⟩).cells.toArray 42 (0, 0))) := by
        intro p
        have hp := Eq.mpr (congrFun (congrFun hD p.ph) p.world) p.is
        exact D5.get (x := ⟨M, (Gr.mk l0 l1 ⟨a0, cap0⟩ ⟨a1, cap1⟩).cells, 42⟩) hp (List.mem_cons_self ..) (List.mem_cons_of_mem _ (List.mem_cons_self ..)) (List.mem_cons_of_mem _ (List.mem_cons_of_mem _ (List.mem_cons_self ..))) (List.mem_cons_of_mem _ (List.mem_cons_of_mem _ (List.mem_cons_self ..)))
      have hn104 : ∀ p : Ph.S D, p.world.cell? ⟨w.heap.size, 104, none⟩ = some (.slice (some ⟨G, 0, none⟩) gs.length gs.length) := by
        intro p
        have hp := Eq.mpr (congrFun (congrFun hD p.ph) p.world) p.is
        have h2 : (⟨w.heap.size, T.cells h1, 33⟩ : Blk) ∈ LL T h1 w.heap.size G Z.toList ns gs k := List.mem_cons_of_mem _ (List.mem_cons_self ..)
        have h3 := D5.get (x := ⟨w.heap.size, T.cells h1, 33⟩) hp (List.mem_cons_of_mem _ h2) (List.mem_cons_of_mem _ (List.mem_cons_of_mem _ h2)) (List.mem_cons_of_mem _ (List.mem_cons_of_mem _ (List.mem_cons_of_mem _ h2))) (List.mem_cons_of_mem _ (List.mem_cons_of_mem _ (List.mem_cons_of_mem _ (List.mem_cons_of_mem _ (List.mem_cons_self ..)))))
        rw [cell_of_row _ _ _ _ _ _ h3, List.getElem?_toArray]
        exact H104.out
      have hm0 : ∀ p : Ph.S D, p.world.cell? ⟨M, 0, none⟩ = some (.slice a0 l0.length cap0) := fun p => by rw [cell_of_row _ _ _ _ _ _ (HM.out p)]; rfl
      have hm1 : ∀ p : Ph.S D, p.world.cell? ⟨M, 1, none⟩ = some (.slice a1 l1.length cap1) := fun p => by rw [cell_of_row _ _ _ _ _ _ (HM.out p)]; rfl
      have hne : Nonempty (Ph.S D) := ⟨⟨0, _, HB5.out⟩⟩
      clear hD
      refine Ph.wp_region_ph D [5, 8, 11] (by kernel_rfl) (by kernel_rfl) HB5.out ?_
      iterate 5
        (refine Ph.wpPh_calm rfl (fun K hK => ?_)
         go_simp
         refine hK _ ?_
         clear hK K)
      refine Ph.wpPh_link (p := 0) rfl (fun K hK => ?_)
      go_simp
      refine ⟨_, fun w' hd => (by rw [← HD.out] at hd ⊢; exact fresh_link hd.1 hd.2.1 hd.2.2 H0.out S0.out), hK _ ?_⟩
      clear hK K
      iterate 2
        (refine Ph.wpPh_calm rfl (fun K hK => ?_)
         go_simp
         refine hK _ ?_
         clear hK K)
      refine Ph.wpPh_link (p := 1) rfl (fun K hK => ?_)
      go_simp
      refine ⟨_, fun w' hd => (by rw [← HD.out] at hd ⊢; exact fresh_link hd.1 hd.2.1 hd.2.2 H1.out S1.out), hK _ ?_⟩
      clear hK K
      iterate 2
        (refine Ph.wpPh_calm rfl (fun K hK => ?_)
         go_simp
         refine hK _ ?_
         clear hK K)
      refine Row.wpPh_store (p := 2) rfl rfl 42 _ _ rfl (.pointer (some ⟨G, k * 2, none⟩)) (.agg (NG.mk l0 l1 (M + 1) (M + 1 + 1)).gr.cells.toArray) rfl rfl (fun w' hd => ?_) ?_
      · rw [← HD.out] at hd ⊢
        exact store_link hd.1 hd.2.1 rfl NL.out HV.out (NG.mk l0 l1 (M + 1) (M + 1 + 1))
      refine Ph.wpPh_nil ?_
      intro w5 hd5
      have B5 : Hid (Below w.heap.size w w5 ∧ Own w.heap.size w5 (LL T h1 w.heap.size G Z.toList (ns ++ [NG.mk l0 l1 (M + 1) (M + 1 + 1)]) gs (k + 1))) := by
        rw [← HD.out] at hd5
        refine ⟨hd5.1, ?_⟩
        have ho : Own w.heap.size w5 _ := hd5.2
        refine (ho.perm (M := ⟨M, (Gr.mk l0 l1 ⟨a0, cap0⟩ ⟨a1, cap1⟩).cells, 42⟩ :: _) (List.Perm.trans ?_ (List.perm_middle (l₁ := [_, _]) (l₂ := _)).symm)).tail
        exact List.Perm.cons _ ((perm_next (NG.mk l0 l1 (M + 1) (M + 1 + 1)) rfl).trans (List.perm_middle (l₁ := [_, _])).symm)
      clear hd5 hne hm0 hm1 hn104 HM HD HB5
      clear D
      go_wp2
      go_roundw
      case rel =>
        refine ⟨k + 1, ns ++ [NG.mk l0 l1 (M + 1) (M + 1 + 1)], by omega, by go_num, by rw [List.length_append, NL.out]; rfl, ?_, B5.out.2, B5.out.1⟩
        rw [List.map_append, ND.out, take_succ' gs k _ HV.out, List.map_append]
        rfl
      case measure => simp [intOf]; omega
    · have hkn : k = gs.length := by omega
      have hmix : mix ns gs k = ns.map NG.gr := by unfold mix; rw [List.drop_of_length_le (by omega), List.append_nil]
      have O5 : Hid (Own w.heap.size wr (⟨G, (ns.map NG.gr).flatMap Gr.cells, 42⟩ :: ⟨w.heap.size, T.cells h1, 33⟩ :: ⟨w.heap.size + 1, Z.toList, 33⟩ :: ns.flatMap NG.blks)) := by
        have := O3.out
        unfold LL at this
        rwa [hmix] at this
      have ND2 : Hid (ns.map (fun g => (g.r0, g.r1)) = T.groups) := by
        have := ND.out
        rwa [List.take_of_length_le (by omega), Hgd.out] at this
      clear hkn hmix O3 ND H104
      have c113 : wr.cell? ⟨w.heap.size, 113, none⟩ = some (.slice h.d.a T.dets.length h.d.cap) := by rw [O5.out.cell (x := ⟨w.heap.size, T.cells h1, 33⟩) (List.mem_cons_of_mem _ (List.mem_cons_self ..))]; exact H113.out
      go_wp2_with fail
      refine (freshD_any h.d.a h.d.cap T.dets _ (Hkt.out.dets.below B3.out) SM.out.dets).mono ?_
      rintro e v1 ⟨rfl, hg, hb, hsz⟩
      have P1 := Lib.hid (O5.out.add hb hg (Nat.le_refl _) B3.out.size)
      have C1 := Lib.hid (B3.out.trans (hb.mono B3.out.size))
      have d113 : v1.cell? ⟨w.heap.size, 113, none⟩ = some (.slice h.d.a T.dets.length h.d.cap) := (hb.cell (World.block_lt_of_cell? _ _ c113)).trans c113
      have f113 : v1.frozen? ⟨w.heap.size, 113, none⟩ = false := P1.out.frozen (x := ⟨w.heap.size, T.cells h1, 33⟩) (by simp only [List.mem_cons, true_or, or_true]) 113
      clear hg hb hsz c113 O5
      generalize hL : (World.heap wr).size = D at P1 ⊢
      clear hL
      go_upto_region 8 with fail
      have hset := set_d K8.out h1 (at0 D T.dets.length)
      have q1 := P1.out.cell_at (i := 2) (x := ⟨w.heap.size, T.cells h1, 33⟩) rfl 113 (.slice (some ⟨D, 0, none⟩) T.dets.length T.dets.length)
      have E1 := Lib.hid (below_write C1.out (Nat.le_refl _) (i := 113) (.slice (some ⟨D, 0, none⟩) T.dets.length T.dets.length))
      dsimp only [List.set_cons_succ, List.set_cons_zero] at q1
      rw [show (T.cells h1).set 113 (Value.slice (some ⟨D, 0, none⟩) T.dets.length T.dets.length) = T.cells (Hd.mk h1.g (at0 D T.dets.length) h1.r h1.b) from hset] at q1
      have Q1 := Lib.hid q1
      clear q1 hset d113 f113 P1 C1
      generalize World.setCell v1 _ _ = x1 at Q1 E1 ⊢
      have c114 : x1.cell? ⟨w.heap.size, 114, none⟩ = some (.slice h.r.a T.rails.length h.r.cap) := by
        have e1 := (K8.out.tab (Hd.mk h1.g (at0 D T.dets.length) h1.r h1.b) w).r
        rw [List.getElem?_toArray] at e1
        rw [Q1.out.cell (x := ⟨w.heap.size, T.cells (Hd.mk h1.g (at0 D T.dets.length) h1.r h1.b), 33⟩) (by simp only [List.mem_cons, true_or, or_true])]
        rw [show (T.cells (Hd.mk h1.g (at0 D T.dets.length) h1.r h1.b))[114]? = _ from e1, ← Hh1.out]
      go_wp2_with fail
      refine (freshR_any h.r.a h.r.cap T.rails _ (Hkt.out.rails.below E1.out) SM.out.rails).mono ?_
      rintro e v2 ⟨rfl, hg, hb, hsz⟩
      have P2 := Lib.hid (Q1.out.add hb hg (Nat.le_refl _) E1.out.size)
      have C2 := Lib.hid (E1.out.trans (hb.mono E1.out.size))
      have d114 : v2.cell? ⟨w.heap.size, 114, none⟩ = some (.slice h.r.a T.rails.length h.r.cap) := (hb.cell (World.block_lt_of_cell? _ _ c114)).trans c114
      have f114 : v2.frozen? ⟨w.heap.size, 114, none⟩ = false := P2.out.frozen (x := ⟨w.heap.size, T.cells (Hd.mk h1.g (at0 D T.dets.length) h1.r h1.b), 33⟩) (by simp only [List.mem_cons, true_or, or_true]) 114
      clear hg hb hsz c114 Q1
      generalize hL : (World.heap x1).size = R at P2 ⊢
      clear hL
      go_upto_region 9 with fail
      have hset := set_r K8.out (Hd.mk h1.g (at0 D T.dets.length) h1.r h1.b) (at0 R T.rails.length)
      have q2 := P2.out.cell_at (i := 3) (x := ⟨w.heap.size, T.cells (Hd.mk h1.g (at0 D T.dets.length) h1.r h1.b), 33⟩) rfl 114 (.slice (some ⟨R, 0, none⟩) T.rails.length T.rails.length)
      have E2 := Lib.hid (below_write C2.out (Nat.le_refl _) (i := 114) (.slice (some ⟨R, 0, none⟩) T.rails.length T.rails.length))
      dsimp only [List.set_cons_succ, List.set_cons_zero] at q2
      rw [show (T.cells (Hd.mk h1.g (at0 D T.dets.length) h1.r h1.b)).set 114 (Value.slice (some ⟨R, 0, none⟩) T.rails.length T.rails.length) = T.cells (Hd.mk h1.g (at0 D T.dets.length) (at0 R T.rails.length) h1.b) from hset] at q2
      have Q2 := Lib.hid q2
      clear q2 hset d114 f114 P2 C2
      generalize World.setCell v2 _ _ = x2 at Q2 E2 ⊢
      have c115 : x2.cell? ⟨w.heap.size, 115, none⟩ = some (.slice h.b.a T.buses.length h.b.cap) := by
        have e1 := (K8.out.tab (Hd.mk h1.g (at0 D T.dets.length) (at0 R T.rails.length) h1.b) w).b
        rw [List.getElem?_toArray] at e1
        rw [Q2.out.cell (x := ⟨w.heap.size, T.cells (Hd.mk h1.g (at0 D T.dets.length) (at0 R T.rails.length) h1.b), 33⟩) (by simp only [List.mem_cons, true_or, or_true])]
        rw [show (T.cells (Hd.mk h1.g (at0 D T.dets.length) (at0 R T.rails.length) h1.b))[115]? = _ from e1, ← Hh1.out]
      go_wp2_with fail
      refine (freshB_any h.b.a h.b.cap T.buses _ (Hkt.out.buses.below E2.out) SM.out.buses).mono ?_
      rintro e v3 ⟨rfl, hg, hb, hsz⟩
      have P3 := Lib.hid (Q2.out.add hb hg (Nat.le_refl _) E2.out.size)
      have C3 := Lib.hid (E2.out.trans (hb.mono E2.out.size))
      have d115 : v3.cell? ⟨w.heap.size, 115, none⟩ = some (.slice h.b.a T.buses.length h.b.cap) := (hb.cell (World.block_lt_of_cell? _ _ c115)).trans c115
      have f115 : v3.frozen? ⟨w.heap.size, 115, none⟩ = false := P3.out.frozen (x := ⟨w.heap.size, T.cells (Hd.mk h1.g (at0 D T.dets.length) (at0 R T.rails.length) h1.b), 33⟩) (by simp only [List.mem_cons, true_or, or_true]) 115
      clear hg hb hsz c115 Q2
      generalize hL : (World.heap x2).size = S at P3 ⊢
      clear hL
      go_upto_region 10 with fail
      have hset := set_b K8.out (Hd.mk h1.g (at0 D T.dets.length) (at0 R T.rails.length) h1.b) (at0 S T.buses.length)
      have q3 := P3.out.cell_at (i := 4) (x := ⟨w.heap.size, T.cells (Hd.mk h1.g (at0 D T.dets.length) (at0 R T.rails.length) h1.b), 33⟩) rfl 115 (.slice (some ⟨S, 0, none⟩) T.buses.length T.buses.length)
      have E3 := Lib.hid (below_write C3.out (Nat.le_refl _) (i := 115) (.slice (some ⟨S, 0, none⟩) T.buses.length T.buses.length))
      dsimp only [List.set_cons_succ, List.set_cons_zero] at q3
      rw [show (T.cells (Hd.mk h1.g (at0 D T.dets.length) (at0 R T.rails.length) h1.b)).set 115 (Value.slice (some ⟨S, 0, none⟩) T.buses.length T.buses.length) = T.cells (Hd.mk h1.g (at0 D T.dets.length) (at0 R T.rails.length) (at0 S T.buses.length)) from hset] at q3
      have Q3 := Lib.hid q3
      clear q3 hset d115 f115 P3 C3
      generalize World.setCell v3 _ _ = x3 at Q3 E3 ⊢
      have c4 := K8.out.tab (Hd.mk h1.g (at0 D T.dets.length) (at0 R T.rails.length) (at0 S T.buses.length)) w
      have HN := Lib.hid (Q3.out.get (x := ⟨w.heap.size, T.cells (Hd.mk h1.g (at0 D T.dets.length) (at0 R T.rails.length) (at0 S T.buses.length)), 33⟩) (by simp only [List.mem_cons, true_or, or_true]))
      have HN1 := Lib.hid (Q3.out.get (x := ⟨w.heap.size + 1, Z.toList, 33⟩) (by simp only [List.mem_cons, true_or, or_true]))
      have SZ := Lib.hid c4.size
      have ON := Lib.hid c4.one
      clear c4
      have QW := Lib.hid (Q3.out.row_at (i := 5) (x := ⟨w.heap.size + 1, Z.toList, 33⟩) rfl (T.cells (Hd.mk h1.g (at0 D T.dets.length) (at0 R T.rails.length) (at0 S T.buses.length))))
      have EW := Lib.hid (below_setRow E3.out (Nat.le_succ w.heap.size) (T.cells (Hd.mk h1.g (at0 D T.dets.length) (at0 R T.rails.length) (at0 S T.buses.length))).toArray)
      have hfin : (hd T G D R S) = (Hd.mk h1.g (at0 D T.dets.length) (at0 R T.rails.length) (at0 S T.buses.length)) := by rw [← Hh1.out]; unfold hd; rw [← Hgl.out]
      have HF := Lib.hid hfin
      clear hfin Q3 E3
      generalize hcs4 : T.cells (Hd.mk h1.g (at0 D T.dets.length) (at0 R T.rails.length) (at0 S T.buses.length)) = cs4 at HN SZ ON QW EW
      have HC4 := Lib.hid hcs4
      clear hcs4
      go_wp2_with (first | (refine wpList_load_row rfl 33 _ rfl w.heap.size rfl _ _ _ _ HN.out Try.underlying33 rfl (by rw [SZ.out]; exact infoT) ?_) | (refine wpList_store_row rfl 33 _ _ rfl (w.heap.size + 1) cs4.toArray rfl rfl 33 _ HN1.out (by rw [SZ.out]; exact infoT) (by rw [SZ.out]; show Z.toList.toArray.size = 131; rw [List.size_toArray, Array.length_toList]; exact HZ1.out) ON.out ?_))
      (try dsimp only at QW)
      (try dsimp only at EW)
      generalize World.setRow x3 _ _ = x4 at QW EW ⊢
      go_wp2_with fail
      (try simp only [Exit.inBlock, Exit.then])
      refine bodyPost_ret (v := .agg cs4.toArray) ?_ rfl ⟨ns, G, D, R, S, by rw [HF.out, HC4.out], ND2.out, ?_, EW.out⟩
      · exact results_cell_row rfl _ _ (w.heap.size + 1) 33 cs4.toArray (0, 0) _ rfl (QW.out.get (x := ⟨w.heap.size + 1, cs4, 33⟩) (by simp only [List.set_cons_succ, List.set_cons_zero, List.mem_cons, true_or, or_true])) Try.underlying33 rfl (by rw [SZ.out]; exact infoT)
      · have hq := QW.out
        try dsimp only [List.set_cons_succ, List.set_cons_zero] at hq
        exact (hq.perm (M := [_, _, _, _, _, _].reverse ++ _) (List.Perm.append_right _ (List.reverse_perm _))).tail.tail
end Go.Proofs.Ytfnpcfibgabmfaa.Clone
