/- 14 texts in one file, in build order. -/
import Derived.Test.YtjolhoilcibdfaaGreatRows
import Derived.Test.YtjolhoilcibdfaaGreatPart01
import Derived.Test.YtjolhoilcibdfaaGreatPart02
import Derived.Deep.Cut
import Derived.Laws.ResultCell
import Derived.Laws.Rows
import Derived.OwnWalk
import Derived.Laws.CopyOwn
import Derived.LoopTactic
import Derived.Deep.RegionHeld
set_option linter.unusedVariables false
set_option linter.unusedSimpArgs false
set_option linter.unusedSectionVars false
/- The contracts of plan.hasGroup, rowsOf, Members, On, Next and Following. -/
namespace Go.Proofs.YtjolhoilcibdfaaGreat.PlanC
open Go.ChangeShapes Go.WideShapes Go.ChangeAt Go.RowKit
open Tab PlaceM PlanM
open May (ret_bool chain infoP infoG St phases_in)
open SetP (of_any has_any)
open Same (below_setRow)
set_option linter.unusedVariables false
set_option linter.unusedSimpArgs false
theorem ret_int {k : IntKind} {a b : Int} (h : a = b) : Ending.returned (.int k a) = .returned (.int k b) := by rw [h]
theorem infoZ : (Tryz.prog.info? 41).map (fun i => (i.zero, i.size)) = some (some (.agg #[.slice none 0 0, .slice none 0 0]), 2) := by kernel_rfl
theorem infoT : (Tryz.prog.info? 32).map (·.size) = some 131 := by kernel_rfl
theorem info2 : (Tryz.prog.info? 41).map (·.size) = some 2 := by kernel_rfl
theorem idx0 (v0 v1 : Value) (w : World) : Sem.run Tryz.prog (Instr.index 41 (.agg #[v0, v1]) (.int .i64 0)) w = .ok v0 w := by kernel_rfl
theorem idx1 (v0 v1 : Value) (w : World) : Sem.run Tryz.prog (Instr.index 41 (.agg #[v0, v1]) (.int .i64 1)) w = .ok v1 w := by kernel_rfl
theorem row_of_int {w : World} {a : Option Addr} {cap : Nat} {L : List Int} (h : IntRow w ⟨a, cap⟩ L) : RefS.Row w a L := by
  have hl := h.len
  refine ⟨by omega, ?_⟩
  by_cases h0 : L = []
  · exact .inl h0
  · have hp : 0 < L.length := List.length_pos_iff.2 h0
    obtain ⟨x, hx, _⟩ := IntRow.at h (List.getElem?_eq_getElem hp)
    refine .inr ⟨x, hx, fun i hi => ?_⟩
    obtain ⟨y, hy, hc⟩ := IntRow.at h (List.getElem?_eq_getElem hi)
    obtain rfl : x = y := Option.some.inj (hx.symm.trans hy)
    rw [hc, List.getD_eq_getElem?_getD, List.getElem?_eq_getElem hi]
    rfl
set_option maxRecDepth 100000 in
set_option maxHeartbeats 4000000 in
theorem hasGroup_any (T : Tab) (h : Hd) (g : Int) (w : World) (ht : IsTab w h T) :
    Calls Tryz.prog 147 #[.agg (T.cells h).toArray, .int .i64 g] w fun e w' => e = .returned (.bool (decide (0 ≤ g ∧ g < T.groups.length))) ∧ Below w.heap.size w w' := by
  have C := Lib.hid (cells_ok ht)
  generalize (T.cells h).toArray = cs at C ⊢
  have hsz := C.out.size
  have S0 := Lib.hid (St.box (cs := cs) ht)
  clear ht
  have q104 := S0.out.cell C.out.g
  generalize hr : decide (0 ≤ g ∧ g < T.groups.length) = r
  have HR := Lib.hid hr
  clear hr
  generalize T.groups.length = n at *
  have Q104 := Lib.hid q104
  clear q104
  go_enter Tryz.func147, Tryz.ntmps147
  go_upto_region 1 with fail
  generalize w.alloc (.cells cs 32) = w1 at S0 Q104 ⊢
  clear hsz
  have q104 := Q104.out
  by_cases h0 : 0 ≤ g
  · by_cases h1 : g < n
    · go_wp2
      go_ret
      exact ⟨ret_bool (by rw [← HR.out]; simp [h0, h1]), S0.out.bel⟩
    · go_wp2
      go_ret
      exact ⟨ret_bool (by rw [← HR.out]; simp [h0, h1]), S0.out.bel⟩
  · go_wp2
    go_ret
    exact ⟨ret_bool (by rw [← HR.out]; symm; rw [decide_eq_false_iff_not]; omega), S0.out.bel⟩
/-- A group's two rows as a value. -/
def Pair (w : World) (y : List Int × List Int) (s0 s1 : Sl) : Prop := IntRow w s0 y.1 ∧ IntRow w s1 y.2
set_option maxRecDepth 100000 in
set_option maxHeartbeats 4000000 in
theorem rowsOf_any (T : Tab) (h : Hd) (g : Int) (w : World) (ht : IsTab w h T) :
    Calls Tryz.prog 140 #[.agg (T.cells h).toArray, .int .i64 g] w fun e w' => ∃ s0 s1 : Sl, e = .returned (.agg #[s0.val (rowsAt T g).1.length, s1.val (rowsAt T g).2.length]) ∧ Pair w' (rowsAt T g) s0 s1 ∧ Below w.heap.size w w' := by
  have hsz := (cells_ok ht).size
  have C := Lib.hid (cells_ok ht)
  have IA : Hid ((Tryz.prog.info? 32).map (·.size) = some (T.cells h).length) := Lib.hid (by rw [List.size_toArray] at hsz; rw [hsz]; exact infoT)
  have HG : Hid (∀ W, Below w.heap.size w W → Calls Tryz.prog 147 #[.agg (T.cells h).toArray, .int .i64 g] W fun e w' => e = .returned (.bool (decide (0 ≤ g ∧ g < T.groups.length))) ∧ Below W.heap.size W w') := Lib.hid (fun W hb => hasGroup_any T h g W (ht.below hb))
  obtain ⟨gs, hgd, hgr⟩ := ht.groups
  have Hgr := Lib.hid hgr
  have Hgd := Lib.hid hgd
  have Hgl := Lib.hid (show T.groups.length = gs.length by rw [← hgd, List.length_map])
  have Kg := hgr.1.len
  unfold maxLen at Kg
  have A0 : Hid (Below w.heap.size w ((w.alloc (.cells (T.cells h).toArray 32)).alloc (.cells #[.slice none 0 0, .slice none 0 0] 41))) := Lib.hid (((Below.refl _ _).alloc (Nat.le_refl _) _).alloc (by simp) _)
  have A1 : Hid (((w.alloc (.cells (T.cells h).toArray 32)).alloc (.cells #[.slice none 0 0, .slice none 0 0] 41)).heap[w.heap.size]? = some (.cells (T.cells h).toArray 32 (0, 0))) := Lib.hid (heap_alloc2_old w _ _)
  have A2 : Hid (((w.alloc (.cells (T.cells h).toArray 32)).alloc (.cells #[.slice none 0 0, .slice none 0 0] 41)).heap[w.heap.size + 1]? = some (.cells #[.slice none 0 0, .slice none 0 0] 41 (0, 0))) := Lib.hid (heap_alloc2_new w _ _)
  have hz := (zero_of_info infoZ).1
  clear ht hgr hgd
  generalize T.cells h = c at *
  go_enter Tryz.func140, Tryz.ntmps140
  go_upto_region 1 with fail
  generalize ((w.alloc (.cells c.toArray 32)).alloc (.cells #[.slice none 0 0, .slice none 0 0] 41)) = u at A0 A1 A2 ⊢
  clear hsz hz
  have LT : Hid (Lies u ⟨w.heap.size, 0, none⟩ c) := Lib.hid (by have := Row.lies_of_block A1.out; simpa using this)
  go_wp2_with (refine Row.wpList_load_g 32 _ rfl (by first | rfl | go_simp) ⟨w.heap.size, 0, none⟩ rfl c _ LT.out Tryz.underlying32 rfl IA.out ?_)
  refine (HG.out _ A0.out).mono ?_
  rintro e u1 ⟨rfl, hb⟩
  have B0 : Hid (Below w.heap.size w u1) := Lib.hid (A0.out.trans (hb.mono A0.out.size))
  have B1 : Hid (u1.heap[w.heap.size]? = some (.cells c.toArray 32 (0, 0))) := Lib.hid ((hb.block _ (Array.getElem?_eq_some_iff.1 A1.out).1).trans A1.out)
  have B2 : Hid (u1.heap[w.heap.size + 1]? = some (.cells #[.slice none 0 0, .slice none 0 0] 41 (0, 0))) := Lib.hid ((hb.block _ (Array.getElem?_eq_some_iff.1 A2.out).1).trans A2.out)
  clear hb A0 A1 A2 LT HG
  by_cases hg : 0 ≤ g ∧ g < T.groups.length
  · rw [decide_eq_true hg]
    obtain ⟨g0, g1⟩ := hg
    obtain ⟨q, rfl⟩ := Int.eq_ofNat_of_zero_le g0
    have hlt : q < gs.length := by have := Hgl.out; omega
    have hv := List.getElem?_eq_getElem hlt
    generalize gs[q] = v at hv
    have HR : Hid (rowsAt T q = v.data) := Lib.hid (rows_in (by rw [← Hgd.out, List.getElem?_map, hv]; rfl))
    obtain ⟨x, hx, hc⟩ := (Hgr.out.1.below B0.out).at hv
    have hok := (Hgr.out.2 v (List.mem_of_getElem? hv)).below B0.out
    have q104 : u1.cell? ⟨w.heap.size, 104, none⟩ = some (.slice (some x) gs.length h.g.cap) := by
      rw [cell_of_row _ _ _ _ _ _ B1.out, C.out.g, Hgl.out]; simp only [Sl.val, hx]
    have HC := Lib.hid hc
    have HM := Lib.hid (List.mem_of_getElem? hv)
    have HW := Lib.hid (below_setRow B0.out (g := w.heap.size + 1) (by omega) v.cells.toArray)
    have HK := Lib.hid (setRow_heap u1 (w.heap.size + 1) _ v.cells.toArray _ _ B2.out)
    have V1 : Hid (v.cells.toArray.all (·.oneCell') = true) := Lib.hid (Gr.one v)
    clear hv hc hok hx g1
    go_wp2_with (first | (refine Row.wpList_load_g 41 _ rfl (by first | rfl | go_simp) (x.add (q * 2)) rfl v.cells _ HC.out Tryz.underlying41 rfl info2 ?_) | (refine wpList_store_row rfl 41 _ _ rfl (w.heap.size + 1) v.cells.toArray rfl rfl 41 _ B2.out info2 rfl V1.out ?_))
    have HO2 : Hid (v.ok (u1.setRow (w.heap.size + 1) v.cells.toArray)) := Lib.hid ((Hgr.out.2 v HM.out).below HW.out)
    generalize u1.setRow (w.heap.size + 1) v.cells.toArray = u2 at HW HK HO2 ⊢
    go_wp2_with fail
    (try simp only [Exit.inBlock, Exit.then])
    refine bodyPost_ret (v := .agg v.cells.toArray) ?_ rfl ⟨v.s0, v.s1, by rw [HR.out]; rfl, by rw [HR.out]; exact HO2.out, HW.out⟩
    exact results_cell_row rfl _ _ (w.heap.size + 1) 41 _ (0, 0) _ rfl HK.out Tryz.underlying41 rfl info2
  · rw [decide_eq_false hg]
    have HR : Hid (rowsAt T g = ([], [])) := Lib.hid (rows_out hg)
    have HW := Lib.hid (below_setRow B0.out (g := w.heap.size + 1) (by omega) #[.slice none 0 0, .slice none 0 0])
    have HK := Lib.hid (setRow_heap u1 (w.heap.size + 1) _ #[.slice none 0 0, .slice none 0 0] _ _ B2.out)
    clear hg
    go_wp2_with (first | (refine wpList_store_row rfl 41 _ _ rfl (w.heap.size + 1) #[.slice none 0 0, .slice none 0 0] rfl rfl 41 _ B2.out info2 rfl (by simp [Value.oneCell']) ?_))
    generalize u1.setRow (w.heap.size + 1) #[.slice none 0 0, .slice none 0 0] = u2 at HW HK ⊢
    go_wp2_with fail
    (try simp only [Exit.inBlock, Exit.then])
    refine bodyPost_ret (v := .agg #[.slice none 0 0, .slice none 0 0]) ?_ rfl ⟨⟨none, 0⟩, ⟨none, 0⟩, by rw [HR.out]; rfl, by rw [HR.out]; exact ⟨RowOf.nil _, RowOf.nil _⟩, HW.out⟩
    exact results_cell_row rfl _ _ (w.heap.size + 1) 41 _ (0, 0) _ rfl HK.out Tryz.underlying41 rfl info2
theorem of_len (a : Option Addr) (cap : Nat) (l : List Int) (w : World) (h : IntRow w ⟨a, cap⟩ l) : Calls Tryz.prog 100 #[.slice a l.length cap] w fun e w' => e = .returned (.int .i64 (SetM.of l : Nat)) ∧ w = w' := of_any a cap l w (row_of_int h)
theorem or0 (m : Nat) (h : m < 256) : bits .or .i64 0 (m : Int) = (m : Int) := by
  have := RefS.or_small 0 m (by decide) h
  simpa using this
set_option maxRecDepth 100000 in
set_option maxHeartbeats 4000000 in
theorem members_any (T : Tab) (h : Hd) (g : Int) (w : World) (ht : IsTab w h T) :
    Calls Tryz.prog 111 #[.agg (T.cells h).toArray, .int .i64 g] w fun e w' => e = .returned (.int .i64 (membS T g : Nat)) ∧ Below w.heap.size w w' := by
  have hsz := (cells_ok ht).size
  have C := Lib.hid (cells_ok ht)
  have IA : Hid ((Tryz.prog.info? 32).map (·.size) = some (T.cells h).length) := Lib.hid (by rw [List.size_toArray] at hsz; rw [hsz]; exact infoT)
  have RO : Hid (∀ W, Below w.heap.size w W → Calls Tryz.prog 140 #[.agg (T.cells h).toArray, .int .i64 g] W fun e w' => ∃ s0 s1 : Sl, e = .returned (.agg #[s0.val (rowsAt T g).1.length, s1.val (rowsAt T g).2.length]) ∧ Pair w' (rowsAt T g) s0 s1 ∧ Below W.heap.size W w') := Lib.hid (fun W hb => rowsOf_any T h g W (ht.below hb))
  have A0 : Hid (Below w.heap.size w (w.alloc (.cells (T.cells h).toArray 32))) := Lib.hid ((Below.refl _ _).alloc (Nat.le_refl _) _)
  have A1 : Hid (Lies (w.alloc (.cells (T.cells h).toArray 32)) ⟨w.heap.size, 0, none⟩ (T.cells h)) := Lib.hid (Row.lies_new w _ _)
  have MS : Hid (membS T g = SetM.of (rowsAt T g).1 ||| SetM.of (rowsAt T g).2) := Lib.hid rfl
  generalize membS T g = m at MS ⊢
  generalize rowsAt T g = y at MS RO
  obtain ⟨l0, l1⟩ := y
  clear ht
  generalize T.cells h = c at *
  go_enter Tryz.func111, Tryz.ntmps111
  go_upto_region 1 with fail
  generalize w.alloc (.cells c.toArray 32) = u at A0 A1 ⊢
  clear hsz
  go_wp2_with (refine Row.wpList_load_g 32 _ rfl (by first | rfl | go_simp) ⟨w.heap.size, 0, none⟩ rfl c _ A1.out Tryz.underlying32 rfl IA.out ?_)
  refine (RO.out _ A0.out).mono ?_
  rintro e u1 ⟨⟨a0, cap0⟩, ⟨a1, cap1⟩, rfl, hpair, hb⟩
  have B0 : Hid (Below w.heap.size w u1) := Lib.hid (A0.out.trans (hb.mono A0.out.size))
  have HP := Lib.hid hpair
  clear hb A0 A1 RO hpair IA
  rw [show (Value.agg #[Sl.val ⟨a0, cap0⟩ (l0, l1).fst.length, Sl.val ⟨a1, cap1⟩ (l0, l1).snd.length]) = .agg #[.slice a0 l0.length cap0, .slice a1 l1.length cap1] from rfl]
  have i0 := idx0 (.slice a0 l0.length cap0) (.slice a1 l1.length cap1)
  have i1 := idx1 (.slice a0 l0.length cap0) (.slice a1 l1.length cap1)
  have I0 := Lib.hid i0
  have I1 := Lib.hid i1
  clear i0 i1
  go_wp2_with fail
  go_loopw [5, 11] (fun t i wr => ∃ r : Nat, r ≤ 2 ∧ i = .int .i64 r ∧ t = .int .i64 ((if r = 0 then 0 else if r = 1 then SetM.of l0 else m : Nat) : Int) ∧ wr = u1) (fun _ i _ => 2 - (intOf i).toNat)
  case atStart => exact ⟨0, by omega, rfl, rfl, rfl⟩
  case round =>
    obtain ⟨r, hr, rfl, rfl, rfl⟩ := hrel
    have hr2 : r = 0 ∨ r = 1 ∨ r = 2 := by omega
    rcases hr2 with rfl | rfl | rfl
    · rw [show ((0 : Nat) : Int) = (0 : Int) from rfl]
      have i0 := I0.out
      have HS := Lib.hid (or0 (SetM.of l0) (SetM.of_lt l0))
      simp only [if_true]
      go_wp2_with fail
      refine (of_len a0 cap0 l0 _ HP.out.1).mono ?_
      rintro e w' ⟨rfl, rfl⟩
      generalize hs : SetM.of l0 = s at HS MS ⊢
      have HQ := Lib.hid hs
      clear hs
      go_wp2
      go_roundw
      case rel => exact ⟨1, by omega, by go_num, by rw [HS.out, ← HQ.out]; rfl, trivial⟩
      case measure => simp [intOf]
    · rw [show ((1 : Nat) : Int) = (1 : Int) from rfl]
      have i1 := I1.out
      have HS : Hid (bits .or .i64 (SetM.of l0 : Nat) (SetM.of l1 : Nat) = (m : Nat)) := Lib.hid (by rw [RefS.or_small _ _ (SetM.of_lt _) (SetM.of_lt _), MS.out])
      simp only [Nat.one_ne_zero, if_false, if_true]
      go_wp2_with fail
      refine (of_len a1 cap1 l1 _ HP.out.2).mono ?_
      rintro e w' ⟨rfl, rfl⟩
      generalize SetM.of l0 = s at HS MS ⊢
      generalize SetM.of l1 = s' at HS MS ⊢
      go_wp2
      go_roundw
      case rel => exact ⟨2, by omega, by go_num, by rw [HS.out]; rfl, trivial⟩
      case measure => simp [intOf]
    · rw [show ((2 : Nat) : Int) = (2 : Int) from rfl]
      simp only [show ¬ (2 = 0) by decide, show ¬ (2 = 1) by decide, if_false]
      go_wp2
      go_ret
      exact ⟨rfl, B0.out⟩
/-- The value of an array of phases, at one of its places. -/
theorem infoPs : (Tryz.prog.info? 25).map (·.size) = some 104 := by kernel_rfl
theorem cellsP : Tryz.prog.cellsOf 24 = 13 := by kernel_rfl
theorem rowP : Flat.rowT Tryz.prog 24 = true := by kernel_rfl
theorem infoPz : ∃ i, Tryz.prog.info? 24 = some i ∧ i.size = 13 := by
  have := infoP
  cases h : Tryz.prog.info? 24 with
  | none => rw [h] at this; simp at this
  | some i => rw [h] at this; exact ⟨i, rfl, by simpa using this⟩
theorem flat_take : ∀ {l : List Ph} {q : Nat} {u : Ph}, l[q]? = some u → ((l.flatMap Ph.cells).drop (q * 13)).take 13 = u.cells
  | [], q, u, h => by simp at h
  | p :: l, 0, u, h => by
    obtain rfl : p = u := by simpa using h
    rw [Nat.zero_mul, List.drop_zero, List.flatMap_cons]
    exact List.take_left' rfl
  | p :: l, q + 1, u, h => by
    rw [List.flatMap_cons, Nat.add_mul, Nat.one_mul, Nat.add_comm, List.drop_append, List.drop_of_length_le (by simp [Ph.cells]), List.nil_append, show 13 + q * 13 - p.cells.length = q * 13 by simp [Ph.cells]]
    exact flat_take (by simpa using h)
theorem idx_phase {l : List Ph} {q : Nat} {u : Ph} (hl : l.length = 8) (hu : l[q]? = some u) (w : World) :
    Sem.run Tryz.prog (Instr.index 25 (.agg (l.flatMap Ph.cells).toArray) (.int .i64 q)) w = .ok (.agg u.cells.toArray) w := by
  have hq : q < l.length := (List.getElem?_eq_some_iff.1 hu).1
  obtain ⟨i, hi, hs⟩ := infoPz
  have hp := Flat.run_part (P := Tryz.prog) w (t := 24) (d := _) Tryz.underlying24 (by rw [rowP]; simp) (l.flatMap Ph.cells) (q * 13) (by rw [cellsP, phases_len]; omega)
  rw [cellsP, Flat.vOf, if_pos rowP, flat_take hu] at hp
  unfold Instr.index
  have hc : 0 ≤ (q : Int) ∧ (q : Int) < 8 := by omega
  simp [run_underlying Tryz.underlying25, asIntOf]
  rw [if_pos (by omega)]
  first | exact hp | (rw [cellsP]; exact hp)
theorem lies_take {w : World} {b : Nat} {cs : Array Value} {t : TypeId} {fr : Nat × Nat} (hb : w.heap[b]? = some (.cells cs t fr)) (n : Nat) (l : List Value) (h : cs.toList.take n = l) : Lies w ⟨b, 0, none⟩ l := by
  intro j v hv
  rw [Addr.add_mid, Nat.zero_add, cell_of_row _ _ _ _ _ _ hb]
  subst h
  rw [List.getElem?_take] at hv
  split at hv
  · rwa [Array.getElem?_toList] at hv
  · cases hv
end Go.Proofs.YtjolhoilcibdfaaGreat.PlanC
/- Slices of one's own that are gathered element by element (append in a loop), elements of n cells. No program in it. -/
namespace Go.Proofs.YtjolhoilcibdfaaGreat.Gath
open Go Go.RowKit
open Tab
section
variable {α : Type} {enc : α → List Value} {size : Nat} {B : Nat} {w w' : World} {e : TypeId} {v : Value} {l : List α}
/-- A slice of its own memory (laid since B) that holds the elements l. -/
def Owns (enc : α → List Value) (size B : Nat) (w : World) (e : TypeId) (v : Value) (l : List α) : Prop := w.ownsRow B e size v l.length (l.flatMap enc)
theorem Owns.nil : Owns enc size B w e (.slice none 0 0) ([] : List α) := World.ownsRow_nil _ _ _ _
theorem Owns.snoc {x : α} {v' : Value} (h : w.ownsRow B e size v' (l.length + 1) (l.flatMap enc ++ enc x)) : Owns enc size B w e v' (l ++ [x]) := by
  unfold Owns
  rw [List.length_append, List.flatMap_append, List.flatMap_cons, List.flatMap_nil, List.append_nil]
  exact h
theorem Owns.below (h : Owns enc size B w e v l) (hb : Below w.heap.size w w') : Owns enc size B w' e v l :=
  World.ownsRow.kept (row := none) h ⟨hb.os, hb.tape, hb.output, hb.size, fun j hj _ => hb.block j hj⟩ (by cases hv : v.ownBlock <;> simp)
theorem Owns.mono {B' : Nat} (h : Owns enc size B w e v l) (hb : B' ≤ B) : Owns enc size B' w e v l := by
  refine ⟨h.1, ?_⟩
  rcases h.2 with hn | ⟨g, cap, cur, rfl, h1, h2⟩
  · exact .inl hn
  · exact .inr ⟨g, cap, cur, rfl, by omega, h2⟩
theorem Owns.blk (h : Owns enc size B w e v l) (j : Nat) (hj : v.ownBlock = some j) : B ≤ j := by
  rcases h.2 with ⟨rfl, _⟩ | ⟨g, cap, cur, rfl, hb, _, _⟩
  · simp [Value.ownBlock] at hj
  · obtain rfl : g = j := by simpa [Value.ownBlock] using hj
    exact hb
theorem flat_at (henc : ∀ x, (enc x).length = size) : ∀ (l : List α) (i : Nat) (x : α), l[i]? = some x → ((l.flatMap enc).drop (i * size)).take size = enc x
  | [], i, x, h => by simp at h
  | y :: l, 0, x, h => by
    obtain rfl : y = x := by simpa using h
    rw [Nat.zero_mul, List.drop_zero, List.flatMap_cons, ← henc y, List.take_left]
  | y :: l, i + 1, x, h => by
    rw [List.flatMap_cons, Nat.add_mul, Nat.one_mul, Nat.add_comm, ← henc y, List.drop_append, List.drop_of_length_le (by omega), List.nil_append, Nat.add_sub_cancel_left, henc y]
    exact flat_at henc l i x (by simpa using h)
/-- What was gathered reads as a row. -/
theorem Owns.row (h : Owns enc size B w e v l) (henc : ∀ x, (enc x).length = size) : ∃ s : Sl, v = s.val l.length ∧ RowOf size enc w s l := by
  rcases h.2 with ⟨rfl, h0⟩ | ⟨g, cap, cur, rfl, h1, h2, h3, h4, h5, h6⟩
  · have : l = [] := List.eq_nil_of_length_eq_zero h0
    subst this
    exact ⟨⟨none, 0⟩, rfl, RowOf.nil w⟩
  · refine ⟨⟨some ⟨g, 0, none⟩, cap⟩, rfl, .inr ⟨_, rfl, h3, h4, fun i x hx j u hu => ?_⟩⟩
    have hi : i < l.length := (List.getElem?_eq_some_iff.1 hx).1
    have hj : j < size := by rw [← henc x]; exact (List.getElem?_eq_some_iff.1 hu).1
    rw [Addr.add_mid, Nat.zero_add, Addr.add_mid, cell_of_row _ _ _ _ _ _ h2]
    have hf := flat_at henc l i x hx
    rw [← h6] at hf
    rw [← hf] at hu
    have hlt : i * size + j < l.length * size := by
      have : (i + 1) * size ≤ l.length * size := Nat.mul_le_mul_right _ hi
      rw [Nat.add_mul, Nat.one_mul] at this
      omega
    rw [List.getElem?_take, if_pos hj, List.getElem?_drop, List.getElem?_take, if_pos hlt, Array.getElem?_toList] at hu
    exact hu
end
end Go.Proofs.YtjolhoilcibdfaaGreat.Gath
/- The contract of the document's May, at any table: it answers as table.May does. -/
namespace Go.Proofs.YtjolhoilcibdfaaGreat.May
open Go.ChangeShapes Go.WideShapes Go.ChangeAt Go.RowKit
open Tab
set_option linter.unusedVariables false
set_option linter.unusedSimpArgs false

/-- The document's order. -/
def tabRmay (T : Tab) : Bool :=
  ((((allIn 9999 [T.extend, T.budget, T.start, T.revert, T.least] && allIn 2147483647 [T.window, T.share]) && allIn 255 T.conflict) && allIn 2 T.flash) && T.phases.all Ph.may)
theorem may_lens {T : Tab} (h : 4 < T.groups.length ∨ 16 < T.dets.length ∨ 4 < T.rails.length ∨ 4 < T.buses.length) : tabMay T = false := by
  unfold tabMay listMay
  rcases h with h | h | h | h
  · rw [decide_eq_false (p := (T.groups.length : Int) ≤ 4) (by omega)]; simp
  · rw [decide_eq_false (p := (T.dets.length : Int) ≤ 16) (by omega)]; simp
  · rw [decide_eq_false (p := (T.rails.length : Int) ≤ 4) (by omega)]; simp
  · rw [decide_eq_false (p := (T.buses.length : Int) ≤ 4) (by omega)]; simp
theorem may_group {T : Tab} {g : List Int × List Int} (h : g ∈ T.groups) (hg : groupMay g = false) : tabMay T = false := by
  have : T.groups.all groupMay = false := by rw [List.all_eq_false]; exact ⟨g, h, by simp [hg]⟩
  unfold tabMay listMay
  rw [this]; simp
theorem may_order {T : Tab} (h8 : T.phases.length = 8) (hg : ¬ 4 < T.groups.length) (hd : ¬ 16 < T.dets.length) (hr : ¬ 4 < T.rails.length) (hb : ¬ 4 < T.buses.length) (hall : T.groups.all groupMay = true) :
    tabMay T = (((tabRmay T && T.dets.all Det.may) && T.rails.all Rl.may) && T.buses.all Bs.may) := by
  unfold tabMay listMay tabRmay
  rw [hall, decide_eq_true (p := (T.phases.length : Int) ≤ 8) (by omega), decide_eq_true (p := (T.groups.length : Int) ≤ 4) (by omega), decide_eq_true (p := (T.dets.length : Int) ≤ 16) (by omega), decide_eq_true (p := (T.rails.length : Int) ≤ 4) (by omega), decide_eq_true (p := (T.buses.length : Int) ≤ 4) (by omega)]
  simp only [Bool.true_and]
  generalize T.phases.all Ph.may = p
  generalize T.dets.all Det.may = d
  generalize T.rails.all Rl.may = r
  generalize T.buses.all Bs.may = b
  generalize allIn 255 T.conflict = c
  generalize allIn 2 T.flash = f
  generalize allIn 9999 _ = x
  generalize allIn 2147483647 _ = y
  revert p d r b c f x y
  decide
theorem acc_step {α : Type} {f : α → Bool} {l : List α} {k : Nat} {v : α} {b c : Bool} (h : l[k]? = some v) (hv : f v = c) : (b && (l.take (k + 1)).all f) = ((b && (l.take k).all f) && c) := by
  rw [take_succ' l k v h, List.all_append]; simp [hv, Bool.and_assoc]
theorem acc_end {α : Type} {f : α → Bool} {l : List α} {k : Nat} {b : Bool} (h : ¬ k < l.length) : (b && (l.take k).all f) = (b && l.all f) := by
  rw [List.take_of_length_le (by omega)]

def GAll (l : List Gr) : Prop := l.all (fun v => groupMay v.data) = true
theorem GAll.step {l : List Gr} {k : Nat} {v : Gr} (h : l[k]? = some v) (hk : GAll (l.take k)) (hv : groupMay v.data = true) : GAll (l.take (k + 1)) := all_step (f := fun v : Gr => groupMay v.data) h hk hv
theorem GAll.fin {l : List Gr} {k : Nat} (hk : GAll (l.take k)) (h : ¬ k < l.length) : l.all (fun v => groupMay v.data) = true := all_end (f := fun v : Gr => groupMay v.data) hk h
theorem infoT : (Tryz.prog.info? 32).map (·.size) = some 131 := by kernel_rfl
set_option maxRecDepth 10000 in
set_option maxHeartbeats 4000000 in
theorem rmay_any (T : Tab) (h : Hd) (w : World) (k : IsTab w h T) :
    Calls Tryz.prog 48 #[.agg (T.cells h).toArray] w fun e w' => e = .returned (.bool (tabMay T)) ∧ Below w.heap.size w w' := by
  have C := Lib.hid (cells_ok k)
  have L8 := Lib.hid k.ph
  have Lc := Lib.hid k.cf
  have Lf := Lib.hid k.fl
  have Kd := (k.dets).len
  have Kr := (k.rails).len
  have Kb := (k.buses).len
  generalize (T.cells h).toArray = cs at C ⊢
  have hsz := C.out.size
  obtain ⟨gs, hgd, hgr⟩ := k.groups
  have Kg := hgr.1.len
  unfold maxLen at Kd Kr Kb Kg
  have Hgr := Lib.hid hgr
  clear hgr
  have S0 := Lib.hid (St.box (cs := cs) k)
  clear k
  have Hgd := Lib.hid hgd
  have hgl : T.groups.length = gs.length := by rw [← hgd, List.length_map]
  have Hgl := Lib.hid hgl
  clear hgd
  clear hgl
  go_enter Tryz.func48, Tryz.ntmps48
  go_upto_region 1 with fail
  generalize hw1 : w.alloc (.cells cs 32) = w1 at S0 ⊢
  clear hw1
  have c104 := S0.out.cell C.out.g
  rw [Hgl.out] at c104
  have c113 := S0.out.cell C.out.d
  have c114 := S0.out.cell C.out.r
  have c115 := S0.out.cell C.out.b
  clear hsz
  by_cases hG : 4 < gs.length
  · go_wp2
    go_ret
    exact ⟨ret_bool (may_lens (.inl (by rw [Hgl.out]; omega))).symm, S0.out.bel⟩
  by_cases hD : 16 < T.dets.length
  · go_wp2
    go_ret
    exact ⟨ret_bool (may_lens (.inr (.inl (by omega)))).symm, S0.out.bel⟩
  by_cases hR : 4 < T.rails.length
  · go_wp2
    go_ret
    exact ⟨ret_bool (may_lens (.inr (.inr (.inl (by omega))))).symm, S0.out.bel⟩
  by_cases hB : 4 < T.buses.length
  · go_wp2
    go_ret
    exact ⟨ret_bool (may_lens (.inr (.inr (.inr (by omega))))).symm, S0.out.bel⟩
  have HG := Lib.hid (show ¬ 4 < T.groups.length by rw [Hgl.out]; exact hG)
  have HD := Lib.hid hD
  have HR := Lib.hid hR
  have HB := Lib.hid hB
  have dG : decide ((4 : Int) < (gs.length : Int)) = false := decide_eq_false (by omega)
  have dD : decide ((16 : Int) < (T.dets.length : Int)) = false := decide_eq_false (by omega)
  have dR : decide ((4 : Int) < (T.rails.length : Int)) = false := decide_eq_false (by omega)
  have dB : decide ((4 : Int) < (T.buses.length : Int)) = false := decide_eq_false (by omega)
  clear hG hD hR hB
  go_upto_region 3 with fail
  clear c104 c113 c114 c115 dG dD dR dB
  go_cut [3] from 32 (fun t3 wx => t3 = .bool (((allIn 9999 [T.extend, T.budget, T.start, T.revert, T.least] && allIn 2147483647 [T.window, T.share]) && allIn 255 T.conflict) && allIn 2 T.flash) ∧ St w w.heap.size cs h T wx)
  case first =>
    have c116 := S0.out.cell C.out.extend
    have c117 := S0.out.cell C.out.budget
    have c118 := S0.out.cell C.out.start
    have c119 := S0.out.cell C.out.revert
    have c120 := S0.out.cell C.out.least
    go_wp2_with fail
    refine (times_any _ _ [T.extend, T.budget, T.start, T.revert, T.least] _ (row_new _ _ [T.extend, T.budget, T.start, T.revert, T.least] 5 rfl (by decide) _ rfl)).mono ?_
    rintro e w2 ⟨rfl, hw⟩
    have hb2 : Below w1.heap.size w1 w2 := hw ▸ (Below.refl _ _).alloc (Nat.le_refl _) _
    have S2 := Lib.hid (S0.out.step hb2)
    clear hb2 hw c116 c117 c118 c119 c120
    generalize hv : allIn 9999 [T.extend, T.budget, T.start, T.revert, T.least] = b1
    have V1 := Lib.hid hv
    clear hv
    cases b1
    · go_wp2_with fail
      go_meet
      exact ⟨by simp only [V1.out, Bool.true_and, Bool.false_and, Bool.and_false], S2.out⟩
    have c129 := S2.out.cell C.out.window
    have c130 := S2.out.cell C.out.share
    go_wp2_with fail
    refine (upto_any 2147483647 _ _ [T.window, T.share] _ (row_new _ _ [T.window, T.share] 2 rfl (by decide) _ rfl)).mono ?_
    rintro e w3 ⟨rfl, hw⟩
    have hb3 : Below w2.heap.size w2 w3 := hw ▸ (Below.refl _ _).alloc (Nat.le_refl _) _
    have S3 := Lib.hid (S2.out.step hb3)
    clear hb3 hw c129 c130
    generalize hv : allIn 2147483647 [T.window, T.share] = b2
    have V2 := Lib.hid hv
    clear hv
    cases b2
    · go_wp2_with fail
      go_meet
      exact ⟨by simp only [V1.out, V2.out, Bool.true_and, Bool.false_and, Bool.and_false], S3.out⟩
    go_wp2_with fail
    refine (upto_len 255 (some ⟨w.heap.size, 105, none⟩) 8 T.conflict 8 Lc.out _ (ints_in S3.out.blk 105 8 _ C.out.conflict Lc.out (by decide))).mono ?_
    rintro e w4 ⟨rfl, rfl⟩
    generalize hv : allIn 255 T.conflict = b3
    have V3 := Lib.hid hv
    clear hv
    cases b3
    · go_wp2_with fail
      go_meet
      exact ⟨by simp only [V1.out, V2.out, V3.out, Bool.true_and, Bool.false_and, Bool.and_false], S3.out⟩
    go_wp2_with fail
    refine (upto_len 2 (some ⟨w.heap.size, 121, none⟩) 8 T.flash 8 Lf.out _ (ints_in S3.out.blk 121 8 _ C.out.flash Lf.out (by decide))).mono ?_
    rintro e w5 ⟨rfl, rfl⟩
    go_wp2_with fail
    go_meet
    exact ⟨by simp only [V1.out, V2.out, V3.out, Bool.true_and], S3.out⟩
  case rest =>
  obtain ⟨rfl, hs⟩ := hcut
  clear S0
  generalize hok : (((allIn 9999 [T.extend, T.budget, T.start, T.revert, T.least] && allIn 2147483647 [T.window, T.share]) && allIn 255 T.conflict) && allIn 2 T.flash) = ok
  have HOK := Lib.hid hok
  have S1 := Lib.hid hs
  clear hok hs
  go_wp2_with fail
  go_loopw [3, 4] (fun b i wr => ∃ q : Nat, q ≤ 8 ∧ i = .int .i64 q ∧ b = .bool (ok && (T.phases.take q).all Ph.may) ∧ St w w.heap.size cs h T wr) (fun _ i _ => 8 - (intOf i).toNat)
  case atStart => exact ⟨0, by omega, rfl, by simp, S1.out⟩
  case round =>
    clear S1
    obtain ⟨q, hq, rfl, rfl, hs⟩ := hrel
    have S1 := Lib.hid hs
    clear hs
    by_cases hlt : q < 8
    · have hv : T.phases[q]? = some (T.phases[q]'(by rw [L8.out]; exact hlt)) := List.getElem?_eq_getElem _
      generalize T.phases[q]'(by rw [L8.out]; exact hlt) = v at hv
      have HV := Lib.hid hv
      obtain ⟨x, hx, hc⟩ := (phases_in S1.out.blk C.out L8.out).at hv
      obtain rfl := Option.some.inj hx
      have HC := Lib.hid (show Lies wr ⟨w.heap.size, q * 13, none⟩ v.cells by have := hc; rwa [Addr.add_mid, Nat.zero_add] at this)
      clear hv hc hx
      generalize hacc : (ok && (T.phases.take q).all Ph.may) = acc
      have HA := Lib.hid hacc
      clear hacc
      cases acc
      · go_wp2
        go_roundw
        case rel => exact ⟨q + 1, by omega, by go_num, by rw [acc_step HV.out rfl, HA.out]; rfl, S1.out⟩
        case measure => simp [intOf]; omega
      · go_wp2_with (first | (refine Row.wpList_load_g 24 _ rfl (by first | rfl | go_simp) ⟨w.heap.size, q * 13, none⟩ rfl v.cells _ HC.out Tryz.underlying24 rfl infoP ?_))
        refine (rphase_any v _).mono ?_
        rintro e w2 ⟨rfl, hb2⟩
        have S2 := Lib.hid (S1.out.step hb2)
        clear hb2
        go_wp2
        go_roundw
        case rel => exact ⟨q + 1, by omega, by go_num, by rw [acc_step HV.out rfl, HA.out, Bool.true_and], S2.out⟩
        case measure => simp [intOf]; omega
    · have hend : (ok && (T.phases.take q).all Ph.may) = (ok && T.phases.all Ph.may) := acc_end (by rw [L8.out]; omega)
      rw [hend]
      generalize hok1 : (ok && T.phases.all Ph.may) = ok1
      have HOK1 := Lib.hid hok1
      clear hok1 hend
      go_wp2_with fail
      go_loopw [5] (fun i wr => ∃ q : Nat, q ≤ gs.length ∧ i = .int .i64 q ∧ GAll (gs.take q) ∧ St w w.heap.size cs h T wr) (fun i _ => gs.length - (intOf i).toNat)
      case atStart => exact ⟨0, by omega, rfl, (rfl : GAll []), S1.out⟩
      case round =>
        clear S1
        obtain ⟨q, hq, rfl, hall, hs⟩ := hrel
        have S1 := Lib.hid hs
        have Hall := Lib.hid hall
        clear hs hall
        have c104 := S1.out.cell C.out.g
        rw [Hgl.out] at c104
        by_cases hlt : q < gs.length
        · have hv := List.getElem?_eq_getElem hlt
          generalize gs[q] = v at hv
          obtain ⟨x, hx, hc⟩ := (Hgr.out.1.below S1.out.bel).at hv
          have hok := Hgr.out.2 v (List.mem_of_getElem? hv)
          have HV := Lib.hid hv
          obtain ⟨l0, l1, ⟨a0, cap0⟩, ⟨a1, cap1⟩⟩ := v
          have HC := Lib.hid hc
          have H0 := Lib.hid hok.1
          have H1 := Lib.hid hok.2
          have K0 := hok.1.len
          have K1 := hok.2.len
          unfold maxLen at K0 K1
          clear hv hc hok
          go_wp2_with fail
          go_loopw [6] (fun i wr => ∃ r : Nat, r ≤ 2 ∧ i = .int .i64 r ∧ (0 < r → rowMay l0 = true) ∧ (1 < r → rowMay l1 = true) ∧ St w w.heap.size cs h T wr) (fun i _ => 2 - (intOf i).toNat)
          case atStart => exact ⟨0, by omega, rfl, fun h => absurd h (by omega), fun h => absurd h (by omega), S1.out⟩
          case round =>
            clear S1 c104
            obtain ⟨r, hr, rfl, hr0, hr1, hs⟩ := hrel
            have S1 := Lib.hid hs
            have R0 := Lib.hid hr0
            have R1 := Lib.hid hr1
            clear hs hr0 hr1
            have c104 := S1.out.cell C.out.g
            simp only [Sl.val, Hgl.out, hx] at c104
            obtain ⟨x', hx', hc⟩ := (Hgr.out.1.below S1.out.bel).at HV.out
            obtain rfl : x' = x := Option.some.inj (hx'.symm.trans hx)
            have e0 := hc 0 _ rfl
            have e1 := hc 1 _ rfl
            rw [add_zero] at e0
            rw [add_one] at e1
            clear hc hx'
            have hr2 : r = 0 ∨ r = 1 ∨ r = 2 := by omega
            rcases hr2 with rfl | rfl | rfl
            · by_cases h8 : 8 < l0.length
              · go_wp2
                go_ret
                exact ⟨ret_bool (may_group (T := T) (g := (l0, l1)) (by rw [← Hgd.out]; exact List.mem_map.2 ⟨_, List.mem_of_getElem? HV.out, rfl⟩) (by unfold groupMay rowMay; simp only []; rw [decide_eq_false (p := l0.length ≤ 8) (by omega)]; simp)).symm, S1.out.bel⟩
              · have H8 := Lib.hid h8
                go_wp2_with (go_at_call 89; refine (upto_any 7 a0 cap0 l0 _ (H0.out.below S1.out.bel)).mono ?_; rintro e w2 ⟨rfl, rfl⟩; generalize hrow : allIn 7 l0 = b; have HR2 := Lib.hid hrow; clear hrow; cases b)
                · go_wp2
                  go_ret
                  exact ⟨ret_bool (may_group (T := T) (g := (l0, l1)) (by rw [← Hgd.out]; exact List.mem_map.2 ⟨_, List.mem_of_getElem? HV.out, rfl⟩) (by unfold groupMay rowMay; simp only []; rw [HR2.out]; simp)).symm, S1.out.bel⟩
                · go_wp2
                  go_roundw
                  case rel => exact ⟨0 + 1, by omega, by go_num, fun _ => by unfold rowMay; rw [HR2.out, decide_eq_true (by have := H8.out; omega)]; rfl, fun h => absurd h (by omega), S1.out⟩
                  case measure => simp [intOf]
            · by_cases h8 : 8 < l1.length
              · go_wp2
                go_ret
                exact ⟨ret_bool (may_group (T := T) (g := (l0, l1)) (by rw [← Hgd.out]; exact List.mem_map.2 ⟨_, List.mem_of_getElem? HV.out, rfl⟩) (by unfold groupMay rowMay; simp only []; rw [decide_eq_false (p := l1.length ≤ 8) (by omega)]; simp)).symm, S1.out.bel⟩
              · have H8 := Lib.hid h8
                go_wp2_with (go_at_call 89; refine (upto_any 7 a1 cap1 l1 _ (H1.out.below S1.out.bel)).mono ?_; rintro e w2 ⟨rfl, rfl⟩; generalize hrow : allIn 7 l1 = b; have HR2 := Lib.hid hrow; clear hrow; cases b)
                · go_wp2
                  go_ret
                  exact ⟨ret_bool (may_group (T := T) (g := (l0, l1)) (by rw [← Hgd.out]; exact List.mem_map.2 ⟨_, List.mem_of_getElem? HV.out, rfl⟩) (by unfold groupMay rowMay; simp only []; rw [HR2.out]; simp)).symm, S1.out.bel⟩
                · go_wp2
                  go_roundw
                  case rel => exact ⟨1 + 1, by omega, by go_num, fun _ => R0.out (by omega), fun _ => by unfold rowMay; rw [HR2.out, decide_eq_true (by have := H8.out; omega)]; rfl, S1.out⟩
                  case measure => simp [intOf]
            · have Hrow := Lib.hid (And.intro (R0.out (by omega)) (R1.out (by omega)))
              go_wp2
              go_roundw
              case rel => exact ⟨q + 1, by omega, by go_num, (Hall.out.step HV.out (by show (rowMay l0 && rowMay l1) = true; rw [Hrow.out.1, Hrow.out.2]; rfl)), S1.out⟩
              case measure => simp [intOf]; omega
        · have hall2 : T.groups.all groupMay = true := by
            have := Hall.out.fin hlt
            rw [← Hgd.out, List.all_map]; exact this
          have HALL := Lib.hid hall2
          clear hall2 Hall
          have c113 := S1.out.cell C.out.d
          go_wp2_with fail
          go_loopw [3, 7] (fun b i wr => ∃ q : Nat, q ≤ T.dets.length ∧ i = .int .i64 q ∧ b = .bool (ok1 && (T.dets.take q).all Det.may) ∧ St w w.heap.size cs h T wr) (fun _ i _ => T.dets.length - (intOf i).toNat)
          case atStart => exact ⟨0, by omega, rfl, by simp, S1.out⟩
          case round =>
            clear S1
            obtain ⟨q, hq, rfl, rfl, hs⟩ := hrel
            have S1 := Lib.hid hs
            clear hs
            have c113 := S1.out.cell C.out.d
            by_cases hlt : q < T.dets.length
            · have hv := List.getElem?_eq_getElem hlt
              generalize T.dets[q] = v at hv
              obtain ⟨x, hx, hc⟩ := (S1.out.tab.dets).at hv
              simp only [Sl.val, hx] at c113
              have HV := Lib.hid hv
              have HC := Lib.hid hc
              clear hv hc
              generalize hacc : (ok1 && (T.dets.take q).all Det.may) = acc
              have HA := Lib.hid hacc
              clear hacc
              cases acc
              · go_wp2
                go_roundw
                case rel => exact ⟨q + 1, by omega, by go_num, by rw [acc_step HV.out rfl, HA.out]; rfl, S1.out⟩
                case measure => simp [intOf]; omega
              · go_wp2_with (first | (refine Row.wpList_load_g 45 _ rfl (by first | rfl | go_simp) (x.add (q * 7)) rfl v.cells _ HC.out Tryz.underlying45 rfl infoD ?_))
                refine (rdetector_any v _).mono ?_
                rintro e w2 ⟨rfl, hb2⟩
                have S2 := Lib.hid (S1.out.step hb2)
                clear hb2
                go_wp2
                go_roundw
                case rel => exact ⟨q + 1, by omega, by go_num, by rw [acc_step HV.out rfl, HA.out, Bool.true_and], S2.out⟩
                case measure => simp [intOf]; omega
            · have hend : (ok1 && (T.dets.take q).all Det.may) = (ok1 && T.dets.all Det.may) := acc_end hlt
              rw [hend]
              generalize hok1 : (ok1 && T.dets.all Det.may) = ok2
              have HOK2 := Lib.hid hok1
              clear hok1 hend
              have c114 := S1.out.cell C.out.r
              go_wp2_with fail
              go_loopw [3, 8] (fun b i wr => ∃ q : Nat, q ≤ T.rails.length ∧ i = .int .i64 q ∧ b = .bool (ok2 && (T.rails.take q).all Rl.may) ∧ St w w.heap.size cs h T wr) (fun _ i _ => T.rails.length - (intOf i).toNat)
              case atStart => exact ⟨0, by omega, rfl, by simp, S1.out⟩
              case round =>
                clear S1
                obtain ⟨q, hq, rfl, rfl, hs⟩ := hrel
                have S1 := Lib.hid hs
                clear hs
                have c114 := S1.out.cell C.out.r
                by_cases hlt : q < T.rails.length
                · have hv := List.getElem?_eq_getElem hlt
                  generalize T.rails[q] = v at hv
                  obtain ⟨x, hx, hc⟩ := (S1.out.tab.rails).at hv
                  simp only [Sl.val, hx] at c114
                  have HV := Lib.hid hv
                  have HC := Lib.hid hc
                  clear hv hc
                  generalize hacc : (ok2 && (T.rails.take q).all Rl.may) = acc
                  have HA := Lib.hid hacc
                  clear hacc
                  cases acc
                  · go_wp2
                    go_roundw
                    case rel => exact ⟨q + 1, by omega, by go_num, by rw [acc_step HV.out rfl, HA.out]; rfl, S1.out⟩
                    case measure => simp [intOf]; omega
                  · go_wp2_with (first | (refine Row.wpList_load_g 47 _ rfl (by first | rfl | go_simp) (x.add (q * 11)) rfl v.cells _ HC.out Tryz.underlying47 rfl infoR ?_))
                    refine (rrail_any v _).mono ?_
                    rintro e w2 ⟨rfl, hb2⟩
                    have S2 := Lib.hid (S1.out.step hb2)
                    clear hb2
                    go_wp2
                    go_roundw
                    case rel => exact ⟨q + 1, by omega, by go_num, by rw [acc_step HV.out rfl, HA.out, Bool.true_and], S2.out⟩
                    case measure => simp [intOf]; omega
                · have hend : (ok2 && (T.rails.take q).all Rl.may) = (ok2 && T.rails.all Rl.may) := acc_end hlt
                  rw [hend]
                  generalize hok1 : (ok2 && T.rails.all Rl.may) = ok3
                  have HOK3 := Lib.hid hok1
                  clear hok1 hend
                  have c115 := S1.out.cell C.out.b
                  go_wp2_with fail
                  go_loopw [3, 9] (fun b i wr => ∃ q : Nat, q ≤ T.buses.length ∧ i = .int .i64 q ∧ b = .bool (ok3 && (T.buses.take q).all Bs.may) ∧ St w w.heap.size cs h T wr) (fun _ i _ => T.buses.length - (intOf i).toNat)
                  case atStart => exact ⟨0, by omega, rfl, by simp, S1.out⟩
                  case round =>
                    clear S1
                    obtain ⟨q, hq, rfl, rfl, hs⟩ := hrel
                    have S1 := Lib.hid hs
                    clear hs
                    have c115 := S1.out.cell C.out.b
                    by_cases hlt : q < T.buses.length
                    · have hv := List.getElem?_eq_getElem hlt
                      generalize T.buses[q] = v at hv
                      obtain ⟨x, hx, hc⟩ := (S1.out.tab.buses).at hv
                      simp only [Sl.val, hx] at c115
                      have HV := Lib.hid hv
                      have e0 := hc 0 _ rfl
                      have e1 := hc 1 _ rfl
                      rw [add_zero] at e0
                      rw [add_one] at e1
                      obtain ⟨set, lock⟩ := v
                      have HC := Lib.hid hc
                      clear hv hc
                      generalize hacc : (ok3 && (T.buses.take q).all Bs.may) = acc
                      have HA := Lib.hid hacc
                      clear hacc
                      cases acc
                      · go_wp2
                        go_roundw
                        case rel => exact ⟨q + 1, by omega, by go_num, by rw [acc_step HV.out rfl, HA.out]; rfl, S1.out⟩
                        case measure => simp [intOf]; omega
                      · go_wp2_with fail
                        refine (upto_any 255 _ _ [set] _ (row_new _ _ [set] 1 rfl (by decide) _ rfl)).mono ?_
                        rintro e w2 ⟨rfl, hw⟩
                        have hb2 : Below wr.heap.size wr w2 := hw ▸ (Below.refl _ _).alloc (Nat.le_refl _) _
                        clear hw
                        have S2 := Lib.hid (S1.out.step hb2)
                        have HC2 := Lib.hid (HC.out.below hb2)
                        clear hb2 e0 e1 c115
                        generalize hv : allIn 255 [set] = b1
                        have V1 := Lib.hid hv
                        clear hv
                        cases b1
                        · go_wp2
                          go_roundw
                          case rel => exact ⟨q + 1, by omega, by go_num, by rw [acc_step HV.out rfl, HA.out, Bool.true_and]; unfold Bs.may; rw [V1.out]; rfl, S2.out⟩
                          case measure => simp [intOf]; omega
                        · have c115 := S2.out.cell C.out.b
                          simp only [Sl.val, hx] at c115
                          have e0 := HC2.out 0 _ rfl
                          have e1 := HC2.out 1 _ rfl
                          rw [add_zero] at e0
                          rw [add_one] at e1
                          go_wp2_with fail
                          refine (times_any _ _ [lock] _ (row_new _ _ [lock] 1 rfl (by decide) _ rfl)).mono ?_
                          rintro e w3 ⟨rfl, hw⟩
                          have hb3 : Below w2.heap.size w2 w3 := hw ▸ (Below.refl _ _).alloc (Nat.le_refl _) _
                          clear hw
                          have S3 := Lib.hid (S2.out.step hb3)
                          clear hb3 e0 e1 c115
                          go_wp2
                          go_roundw
                          case rel => exact ⟨q + 1, by omega, by go_num, by rw [acc_step HV.out rfl, HA.out, Bool.true_and]; unfold Bs.may; rw [V1.out, Bool.true_and], S3.out⟩
                          case measure => simp [intOf]; omega
                    · have hend : (ok3 && (T.buses.take q).all Bs.may) = (ok3 && T.buses.all Bs.may) := acc_end hlt
                      rw [hend]
                      go_wp2
                      go_ret
                      exact ⟨ret_bool (by rw [may_order L8.out HG.out HD.out HR.out HB.out HALL.out, ← HOK3.out, ← HOK2.out, ← HOK1.out, ← HOK.out]; rfl), S1.out.bel⟩
end Go.Proofs.YtjolhoilcibdfaaGreat.May
/- make and copy for elements of several cells: the walk's laws; a list's elements as one row of cells. No program in it. -/
namespace Go.Proofs.YtjolhoilcibdfaaGreat.Copy
open Go Go.RowKit
open Tab

section
variable {P : Program}
end

/-! ### a list's elements as one row -/
section
variable {α : Type} {n : Nat} {enc : α → List Value}
theorem lies_flat (he : ∀ v, (enc v).length = n) {w : World} {x : Addr} : ∀ (l : List α) (k : Nat), (∀ i v, l[i]? = some v → Lies w (x.add ((k + i) * n)) (enc v)) → Lies w (x.add (k * n)) (l.flatMap enc)
  | [], _, _ => fun j v hv => by simp at hv
  | u :: l, k, h => by
    have ih := lies_flat he l (k + 1) (fun i v hv => by have := h (i + 1) v (by simpa using hv); rwa [show k + (i + 1) = k + 1 + i by omega] at this)
    intro j v hv
    rw [List.flatMap_cons, List.getElem?_append] at hv
    split at hv
    · exact h 0 u rfl j v hv
    · rename_i hj
      have := ih (j - (enc u).length) v hv
      rw [add_two, he u, Nat.add_mul, Nat.one_mul, show k * n + n + (j - n) = k * n + j by rw [he u] at hj; omega] at this
      rw [add_two]; exact this
theorem RowOf.flat (he : ∀ v, (enc v).length = n) {w : World} {s : Sl} {l : List α} (h : RowOf n enc w s l) (h0 : 0 < l.length) : ∃ x, s.a = some x ∧ Lies w x (l.flatMap enc) := by
  rcases h with ⟨_, _, rfl⟩ | ⟨x, h1, h2, h3, h4⟩
  · simp at h0
  · refine ⟨x, h1, ?_⟩
    have := lies_flat (x := x) he l 0 (fun i v hv => by rw [Nat.zero_add]; exact h4 i v hv)
    rwa [Nat.zero_mul, add_zero] at this
end
end Go.Proofs.YtjolhoilcibdfaaGreat.Copy
/- The contracts of table.fresh at its five types of element: a copy in new memory. -/
namespace Go.Proofs.YtjolhoilcibdfaaGreat.Clone
open Go.ChangeShapes Go.WideShapes Go.ChangeAt Go.RowKit
open Tab Copy
open May (chain infoP infoG infoD infoR infoB)
set_option linter.unusedVariables false
set_option linter.unusedSimpArgs false
end Go.Proofs.YtjolhoilcibdfaaGreat.Clone
/- Blocks of a call's own, each known whole, no two the same. No program in it. -/
namespace Go.Proofs.YtjolhoilcibdfaaGreat.Owned
open Go Go.RowKit
open Tab Copy
structure Blk where
  at_ : Nat
  cells : List Value
  type : TypeId
def Own (B : Nat) (w : World) (L : List Blk) : Prop := (L.map Blk.at_).Nodup ∧ ∀ x ∈ L, B ≤ x.at_ ∧ w.heap[x.at_]? = some (.cells x.cells.toArray x.type (0, 0))
variable {B : Nat} {w w' : World} {L M : List Blk} {x : Blk}
theorem Own.nil : Own B w [] := ⟨by simp, fun x h => by simp at h⟩
theorem Own.get (h : Own B w L) (hx : x ∈ L) : w.heap[x.at_]? = some (.cells x.cells.toArray x.type (0, 0)) := (h.2 x hx).2
theorem Own.base (h : Own B w L) (hx : x ∈ L) : B ≤ x.at_ := (h.2 x hx).1
theorem Own.lt (h : Own B w L) (hx : x ∈ L) : x.at_ < w.heap.size := (Array.getElem?_eq_some_iff.1 (h.get hx)).1
theorem Own.step (h : Own B w L) (hb : Below w.heap.size w w') : Own B w' L := ⟨h.1, fun x hx => ⟨h.base hx, by rw [hb.block _ (h.lt hx)]; exact h.get hx⟩⟩
theorem Own.same (h : Own B w L) (hs : w'.heap = w.heap) : Own B w' L := ⟨h.1, fun x hx => ⟨h.base hx, by rw [hs]; exact h.get hx⟩⟩
/-- A new block. -/
theorem Own.add (h : Own B w L) (hb : Below w.heap.size w w') {g : Nat} {cs : List Value} {t : TypeId} (hg : w'.heap[g]? = some (.cells cs.toArray t (0, 0))) (hn : w.heap.size ≤ g) (hB : B ≤ w.heap.size) : Own B w' (⟨g, cs, t⟩ :: L) := by
  refine ⟨List.nodup_cons.2 ⟨fun hm => ?_, h.1⟩, fun y hy => ?_⟩
  · obtain ⟨y, hy, e⟩ := List.mem_map.1 hm
    have := h.lt hy
    have e' : y.at_ = g := e
    omega
  · rcases List.mem_cons.1 hy with rfl | hy
    · exact ⟨Nat.le_trans hB hn, hg⟩
    · exact (h.step hb).2 y hy
/-- The first block is written. -/
theorem Own.write (h : Own B w (x :: L)) {cs : List Value} (hg : w'.heap[x.at_]? = some (.cells cs.toArray x.type (0, 0))) (ho : ∀ j, j ≠ x.at_ → w'.heap[j]? = w.heap[j]?) : Own B w' (⟨x.at_, cs, x.type⟩ :: L) := by
  have hx := (List.nodup_cons.1 h.1).1
  refine ⟨List.nodup_cons.2 ⟨hx, (List.nodup_cons.1 h.1).2⟩, fun y hy => ?_⟩
  rcases List.mem_cons.1 hy with rfl | hy
  · exact ⟨(h.base (x := x) (List.mem_cons_self ..) : B ≤ x.at_), hg⟩
  · have hne : y.at_ ≠ x.at_ := fun e => hx (List.mem_map.2 ⟨y, hy, e⟩)
    exact ⟨h.base (List.mem_cons_of_mem _ hy), by rw [ho _ hne]; exact h.get (List.mem_cons_of_mem _ hy)⟩
theorem Own.cell (h : Own B w L) (hx : x ∈ L) (i : Nat) : w.cell? ⟨x.at_, i, none⟩ = x.cells[i]? := by
  rw [cell_of_row _ _ _ _ _ _ (h.get hx)]; simp
theorem Own.frozen (h : Own B w L) (hx : x ∈ L) (i : Nat) : w.frozen? ⟨x.at_, i, none⟩ = false := frozen_of_row _ _ _ _ _ (h.get hx)
end Go.Proofs.YtjolhoilcibdfaaGreat.Owned
/- The contract of table.Clone, at any table whose lists are not beyond measure: the same data, in blocks of its own. -/
namespace Go.Proofs.YtjolhoilcibdfaaGreat.Clone
open Go.ChangeShapes Go.WideShapes Go.ChangeAt Go.RowKit
open Tab Copy Owned
open May (chain infoP infoG infoD infoR infoB infoT)
set_option linter.unusedVariables false
set_option linter.unusedSimpArgs false

/-- A group whose rows are blocks of their own. -/
structure NG where
  r0 : List Int
  r1 : List Int
  b0 : Nat
  b1 : Nat
def NG.gr (g : NG) : Gr := ⟨g.r0, g.r1, ⟨some ⟨g.b0, 0, none⟩, g.r0.length⟩, ⟨some ⟨g.b1, 0, none⟩, g.r1.length⟩⟩
def NG.blks (g : NG) : List Blk := [⟨g.b0, g.r0.flatMap (fun n => [I n]), 3⟩, ⟨g.b1, g.r1.flatMap (fun n => [I n]), 3⟩]
abbrev at0 (g n : Nat) : Sl := ⟨some ⟨g, 0, none⟩, n⟩
/-- Where a clone's parts lie. -/
def own (T : Tab) (ns : List NG) (G D R S : Nat) : List Blk :=
  ⟨G, (ns.map NG.gr).flatMap Gr.cells, 41⟩ :: ⟨D, T.dets.flatMap Det.cells, 45⟩ :: ⟨R, T.rails.flatMap Rl.cells, 47⟩ :: ⟨S, T.buses.flatMap Bs.cells, 49⟩ :: ns.flatMap NG.blks
def hd (T : Tab) (G D R S : Nat) : Hd := ⟨at0 G T.groups.length, at0 D T.dets.length, at0 R T.rails.length, at0 S T.buses.length⟩

section
variable {T : Tab} {ns : List NG} {G D R S : Nat}
end
/-! ### a table's cells, with a list moved -/
structure Eights (T : Tab) : Prop where
  p : T.phases.length = 8
  c : T.conflict.length = 8
  f : T.flash.length = 8
set_option maxRecDepth 10000 in
theorem Eights.tab {T : Tab} (k : Eights T) (h : Hd) (w : World) : CellsOk T h (T.cells h).toArray := by
  have h0 : IsTab w ⟨⟨none, 0⟩, ⟨none, 0⟩, ⟨none, 0⟩, ⟨none, 0⟩⟩ { T with groups := [], dets := [], rails := [], buses := [] } :=
    ⟨k.p, k.c, k.f, ⟨[], rfl, RowOf.nil w, fun g hg => by simp at hg⟩, RowOf.nil w, RowOf.nil w, RowOf.nil w⟩
  have := cells_ok h0
  obtain ⟨p0, p1, p2, p3, p4, p5, p6, p7, hp⟩ := eight k.p
  obtain ⟨c0, c1, c2, c3, c4, c5, c6, c7, hc⟩ := eight k.c
  obtain ⟨f0, f1, f2, f3, f4, f5, f6, f7, hf⟩ := eight k.f
  clear k
  obtain ⟨phases, groups, conflict, dets, rails, buses, extend, budget, start, revert, least, flash, window, share⟩ := T
  simp only at hp hc hf
  subst hp hc hf
  clear this h0
  constructor
  all_goals try rfl
  case one => simp [Tab.cells, Ph.cells, Value.oneCell']
  intro i p hp
  match i, hp with
  | 0, hp | 1, hp | 2, hp | 3, hp | 4, hp | 5, hp | 6, hp | 7, hp =>
    obtain rfl := Option.some.inj hp
    rfl
  | i + 8, hp => cases hp
/-- The zero table. -/
def zPh : Ph := ⟨false, 0, 0, 0, 0, 0, 0, 0, 0, 0, 0, false, false⟩
def zTab : Tab := ⟨List.replicate 8 zPh, [], List.replicate 8 0, [], [], [], 0, 0, 0, 0, 0, List.replicate 8 0, 0, 0⟩
def zHd : Hd := ⟨⟨none, 0⟩, ⟨none, 0⟩, ⟨none, 0⟩, ⟨none, 0⟩⟩
theorem info31 : (Tryz.prog.info? 32).map (fun i => (i.zero, i.size)) = some (some (.agg (zTab.cells zHd).toArray), 131) := by kernel_rfl
theorem z_is (w : World) : IsTab w zHd zTab := ⟨rfl, rfl, rfl, ⟨[], rfl, RowOf.nil w, fun g hg => by simp at hg⟩, RowOf.nil w, RowOf.nil w, RowOf.nil w⟩
end Go.Proofs.YtjolhoilcibdfaaGreat.Clone
/- The contract of table.Clone: the walk. -/
namespace Go.Proofs.YtjolhoilcibdfaaGreat.Clone
open Go.ChangeShapes Go.WideShapes Go.ChangeAt Go.RowKit
open Tab Copy Owned
open May (chain infoP infoG infoD infoR infoB infoT take_succ')
set_option linter.unusedVariables false
set_option linter.unusedSimpArgs false

/-- The phases of the region that fills one group. -/
def D5 (w : World) (B M : Nat) (L0 L1 L2 L3 : List Blk) (q : Nat) (w' : World) : Prop :=
  Below B w w' ∧ match q with
    | 0 => Owned.Own B w' L0 ∧ w'.heap.size = M + 1
    | 1 => Owned.Own B w' L1 ∧ w'.heap.size = M + 1 + 1
    | 2 => Owned.Own B w' L2 ∧ w'.heap.size = M + 1 + 1 + 1
    | _ => Owned.Own B w' L3
theorem D5.get {w w' : World} {B M q : Nat} {L0 L1 L2 L3 : List Blk} {x : Blk} (h : D5 w B M L0 L1 L2 L3 q w') (h0 : x ∈ L0) (h1 : x ∈ L1) (h2 : x ∈ L2) (h3 : x ∈ L3) : w'.heap[x.at_]? = some (.cells x.cells.toArray x.type (0, 0)) := by
  match q, h with
  | 0, ⟨_, h, _⟩ => exact h.get h0
  | 1, ⟨_, h, _⟩ => exact h.get h1
  | 2, ⟨_, h, _⟩ => exact h.get h2
  | _ + 3, ⟨_, h⟩ => exact h.get h3
end Go.Proofs.YtjolhoilcibdfaaGreat.Clone
/- The contract of the document's On: the set of the phases that are On. -/
namespace Go.Proofs.YtjolhoilcibdfaaGreat.OnS
open Go.ChangeShapes Go.WideShapes Go.ChangeAt Go.RowKit
open Tab Gath RefS
open May (St phases_in infoP)
set_option linter.unusedVariables false
set_option linter.unusedSimpArgs false
/-- A row, as set.Of's contract wants it. -/
theorem row_of_int {w : World} {a : Option Addr} {cap : Nat} {L : List Int} (h : IntRow w ⟨a, cap⟩ L) : RefS.Row w a L := by
  have hl := h.len
  refine ⟨by omega, ?_⟩
  by_cases h0 : L = []
  · exact .inl h0
  · have hp : 0 < L.length := List.length_pos_iff.2 h0
    obtain ⟨x, hx, _⟩ := IntRow.at h (List.getElem?_eq_getElem hp)
    refine .inr ⟨x, hx, fun i hi => ?_⟩
    obtain ⟨y, hy, hc⟩ := IntRow.at h (List.getElem?_eq_getElem hi)
    obtain rfl : x = y := Option.some.inj (hx.symm.trans hy)
    rw [hc, List.getD_eq_getElem?_getD, List.getElem?_eq_getElem hi]
    rfl
def onTo : Nat → List Ph → List Int
  | _, [] => []
  | i, p :: l => (if p.on then [(i : Int)] else []) ++ onTo (i + 1) l
theorem onTo_append : ∀ (i : Nat) (l m : List Ph), onTo i (l ++ m) = onTo i l ++ onTo (i + l.length) m
  | i, [], m => rfl
  | i, p :: l, m => by
    rw [List.cons_append, onTo, onTo, onTo_append (i + 1) l m, List.append_assoc, List.length_cons, show i + 1 + l.length = i + (l.length + 1) by omega]
theorem on_step {l : List Ph} {q : Nat} {p : Ph} (h : l[q]? = some p) : onTo 0 (l.take (q + 1)) = onTo 0 (l.take q) ++ (if p.on then [(q : Int)] else []) := by
  have hi : q < l.length := (List.getElem?_eq_some_iff.1 h).1
  rw [PlaceM.take_succ h, onTo_append, List.length_take, Nat.min_eq_left (by omega), Nat.zero_add]
  simp [onTo]
theorem on_len : ∀ (i : Nat) (l : List Ph), (onTo i l).length ≤ l.length
  | i, [] => Nat.le_refl _
  | i, p :: l => by
    rw [onTo, List.length_append, List.length_cons]
    have := on_len (i + 1) l
    split <;> simp <;> omega
/-- The phases that are On, and their set. -/
def onL (T : Tab) : List Int := onTo 0 T.phases
def onS (T : Tab) : Nat := SetM.of (onL T)
abbrev OwnsI (B : Nat) (w : World) (v : Value) (l : List Int) : Prop := Owns (fun n => [I n]) 1 B w 3 v l
set_option maxRecDepth 100000 in
set_option maxHeartbeats 4000000 in
theorem on_any (T : Tab) (h : Hd) (w : World) (ht : IsTab w h T) :
    Calls Tryz.prog 22 #[.agg (T.cells h).toArray] w fun e w' => e = .returned (.int .i64 (onS T : Nat)) ∧ Below w.heap.size w w' := by
  have C := Lib.hid (cells_ok ht)
  generalize (T.cells h).toArray = cs at C ⊢
  have hsz := C.out.size
  have L8 := Lib.hid ht.ph
  have S0 := Lib.hid (St.box (cs := cs) ht)
  obtain ⟨i0, hi, hz0, hz1, hz2⟩ := info_parts info3
  have RS : Hid ((onS T : Nat) = SetM.of (onTo 0 T.phases)) := Lib.hid rfl
  generalize onS T = r at RS ⊢
  clear ht
  go_enter Tryz.func22, Tryz.ntmps22
  go_upto_region 1 with fail
  generalize w.alloc (.cells cs 32) = w1 at S0 ⊢
  clear hsz
  go_wp2_with fail
  go_loopw [3, 4] (fun v g wr => ∃ q : Nat, q ≤ 8 ∧ g = .int .i64 q ∧ OwnsI w1.heap.size wr v (onTo 0 (T.phases.take q)) ∧ Below w1.heap.size w1 wr) (fun _ g _ => 8 - (intOf g).toNat)
  case atStart => exact ⟨0, by omega, rfl, Owns.nil, Below.refl _ _⟩
  case round =>
    obtain ⟨q, hq, rfl, hown, hbel⟩ := hrel
    have HO := Lib.hid hown
    have HB := Lib.hid hbel
    clear hown hbel
    have S1 := Lib.hid (S0.out.step HB.out)
    by_cases hlt : q < 8
    · have hv : T.phases[q]? = some (T.phases[q]'(by rw [L8.out]; exact hlt)) := List.getElem?_eq_getElem _
      generalize T.phases[q]'(by rw [L8.out]; exact hlt) = u at hv
      obtain ⟨x, hx, hc⟩ := (phases_in S1.out.blk C.out L8.out).at hv
      obtain rfl := Option.some.inj hx
      have c0 : wr.cell? ⟨w.heap.size, q * 13, none⟩ = some (.bool u.on) := by
        have := hc 0 _ rfl
        rwa [Addr.add_mid, Nat.zero_add, Tab.add_zero] at this
      have HS := Lib.hid (on_step hv)
      have hlen : (onTo 0 (T.phases.take q)).length ≤ 8 := by have := on_len 0 (T.phases.take q); rw [List.length_take] at this; omega
      have hsz := HB.out.size
      clear hv hc hx
      generalize onTo 0 (T.phases.take q) = P1 at HO HS hlen
      cases hon : u.on
      · rw [hon] at c0 HS
        have HS2 : Hid (onTo 0 (T.phases.take (q + 1)) = P1) := Lib.hid (by rw [HS.out]; simp)
        go_wp2
        go_roundw
        case rel => exact ⟨q + 1, by omega, by go_num, by rw [HS2.out]; exact HO.out, HB.out⟩
        case measure => simp [intOf]; omega
      · rw [hon] at c0 HS
        have HS2 : Hid (onTo 0 (T.phases.take (q + 1)) = P1 ++ [(q : Int)]) := Lib.hid (by rw [HS.out]; simp)
        have hown2 : wr.ownsRow w1.heap.size 3 1 u3 P1.length (P1.flatMap (fun n => [I n])) := HO.out
        clear HO
        go_wp2_with (at_builtin; refine wpList_append_own _ rfl _ _ 22 rfl w1.heap.size 3 i0 (.int .i64 0) 1 8 Tryz.underlying22 hi hz0 hz1 hz2 rfl (by decide) _ _ _ rfl (hown2.alloc _) ⟨wr.heap.size, 0, none⟩ 1 1 [.int .i64 (q : Int)] rfl rfl ?c1 ?c2 ?c3 ?c4 ?c5 ?_)
        case c2 => rfl
        case c3 => unfold maxLen; omega
        case c4 => omega
        case c5 => omega
        intro v' w2 hown' hgrow hnil'
        have HB2 : Hid (Below w1.heap.size w1 w2) := Lib.hid ((HB.out.alloc hsz _).grown hgrow (by simp; omega) fun m hm => (show OwnsI w1.heap.size wr u3 P1 from hown2).blk m hm)
        have HO2 : Hid (OwnsI w1.heap.size w2 v' (P1 ++ [(q : Int)])) := Lib.hid (Owns.snoc hown')
        clear hown' hgrow hown2 hnil'
        go_wp2
        go_roundw
        case rel => exact ⟨q + 1, by omega, by go_num, by rw [HS2.out]; exact HO2.out, HB2.out⟩
        case measure => simp [intOf]; omega
    · have HE : Hid (onTo 0 (T.phases.take q) = onTo 0 T.phases) := Lib.hid (by rw [List.take_of_length_le (by rw [L8.out]; omega)])
      obtain ⟨⟨sa, sc⟩, hs, hrow⟩ := HO.out.row (enc := fun n => [I n]) (fun _ => rfl)
      rw [HE.out] at hs hrow
      have HR := Lib.hid (row_of_int hrow)
      have HF : Hid (Below w.heap.size w wr) := Lib.hid (S1.out.bel)
      clear hrow HE
      subst hs
      generalize onTo 0 T.phases = P2 at RS HR ⊢
      show Code.wp _ _ _ _ _
      rw [show (Sl.val ⟨sa, sc⟩ P2.length) = .slice sa P2.length sc from rfl]
      go_wp2_with fail
      refine (rof_any sa sc P2 _ HR.out).mono ?_
      rintro e w' ⟨rfl, rfl⟩
      rw [← RS.out]
      go_wp2
      go_ret
      exact ⟨rfl, HF.out⟩
end Go.Proofs.YtjolhoilcibdfaaGreat.OnS
/- The contract of plan.On. -/
namespace Go.Proofs.YtjolhoilcibdfaaGreat.PlanO
open Go.ChangeShapes Go.WideShapes Go.ChangeAt Go.RowKit
open Tab PlaceM PlanM OnS PlanC
open May (infoP St)
open SetP (with_any)
set_option linter.unusedVariables false
set_option linter.unusedSimpArgs false
theorem on_with {l : List Ph} {q : Nat} {p : Ph} (h : l[q]? = some p) (hp : p.on = true) : SetM.withN (SetM.of (onTo 0 (l.take q)) : Nat) q = SetM.of (onTo 0 (l.take (q + 1))) := by
  rw [on_step h, hp, if_pos rfl, SetM.with_of]
theorem on_skip {l : List Ph} {q : Nat} {p : Ph} (h : l[q]? = some p) (hp : p.on = false) : SetM.of (onTo 0 (l.take (q + 1))) = SetM.of (onTo 0 (l.take q)) := by
  rw [on_step h, hp]; simp
set_option maxRecDepth 100000 in
set_option maxHeartbeats 4000000 in
theorem pon_any (T : Tab) (h : Hd) (w : World) (ht : IsTab w h T) :
    Calls Tryz.prog 96 #[.agg (T.cells h).toArray] w fun e w' => e = .returned (.int .i64 (onS T : Nat)) ∧ Below w.heap.size w w' := by
  have C := Lib.hid (cells_ok ht)
  generalize (T.cells h).toArray = cs at C ⊢
  have hsz := C.out.size
  have L8 := Lib.hid ht.ph
  have S0 := Lib.hid (St.box (cs := cs) ht)
  have RS : Hid ((onS T : Nat) = SetM.of (onTo 0 T.phases)) := Lib.hid rfl
  have IX : Hid (∀ (q : Nat) u, T.phases[q]? = some u → ∀ W, Sem.run Tryz.prog (Instr.index 25 (.agg (T.phases.flatMap Ph.cells).toArray) (.int .i64 q)) W = .ok (.agg u.cells.toArray) W) := Lib.hid (fun q u hu W => idx_phase L8.out hu W)
  have LI : Hid ((Tryz.prog.info? 25).map (·.size) = some (T.phases.flatMap Ph.cells).length) := Lib.hid (by rw [phases_len, L8.out]; exact infoPs)
  generalize onS T = r at RS ⊢
  clear ht
  go_enter Tryz.func96, Tryz.ntmps96
  go_upto_region 1 with fail
  generalize w.alloc (.cells cs 32) = w1 at S0 ⊢
  clear hsz
  have LT : Hid (Lies w1 ⟨w.heap.size, 0, none⟩ (T.phases.flatMap Ph.cells)) := Lib.hid (lies_take S0.out.blk 104 _ C.out.phases)
  generalize T.phases.flatMap Ph.cells = fl at IX LI LT
  go_wp2_with (refine Row.wpList_load_g 25 _ rfl (by first | rfl | go_simp) ⟨w.heap.size, 0, none⟩ rfl fl _ LT.out Tryz.underlying25 rfl LI.out ?_)
  go_loopw [3, 8] (fun v g wr => ∃ q : Nat, q ≤ 8 ∧ g = .int .i64 q ∧ v = .int .i64 (SetM.of (onTo 0 (T.phases.take q)) : Nat) ∧ Below w1.heap.size w1 wr) (fun _ g _ => 8 - (intOf g).toNat)
  case atStart => exact ⟨0, by omega, rfl, rfl, Below.refl _ _⟩
  case round =>
    obtain ⟨q, hq, rfl, rfl, hbel⟩ := hrel
    have HB := Lib.hid hbel
    clear hbel
    by_cases hlt : q < 8
    · have hv : T.phases[q]? = some (T.phases[q]'(by rw [L8.out]; exact hlt)) := List.getElem?_eq_getElem _
      generalize T.phases[q]'(by rw [L8.out]; exact hlt) = u at hv
      have HV := Lib.hid hv
      have hidx := IX.out q u hv
      clear hv
      have hsz := HB.out.size
      go_upto_region 5 with (refine Row.wpList_store_new rfl 24 _ _ rfl wr _ u.cells.toArray rfl rfl rfl infoP rfl (Ph.one _) ?_)
      clear hidx
      have hbn : Below w1.heap.size w1 (wr.alloc (.cells u.cells.toArray 24)) := HB.out.alloc hsz _
      have hg := Row.lies_of_block (heap_alloc_new wr (.cells u.cells.toArray 24))
      have HL := Lib.hid hg
      have HN := Lib.hid hbn
      clear hg hbn HB
      generalize wr.alloc (.cells u.cells.toArray 24) = w4 at HL HN ⊢
      generalize wr.heap.size = b4 at HL ⊢
      have c0 : w4.cell? ⟨b4, 0, none⟩ = some (.bool u.on) := by
        have := HL.out 0 _ rfl
        rwa [Tab.add_zero] at this
      cases hon : u.on with
      | true =>
        rw [hon] at c0
        have HS := Lib.hid (on_with HV.out hon)
        clear hon
        generalize SetM.of (onTo 0 (T.phases.take q)) = s0 at HS ⊢
        go_wp2_with (go_at_call 124; refine (with_any _ _ _).mono ?_; rintro e w' ⟨rfl, rfl⟩)
        go_roundw
        case rel => exact ⟨q + 1, by omega, by go_num, by rw [← HS.out], HN.out⟩
        case measure => simp [intOf]; omega
      | false =>
        rw [hon] at c0
        have HS := Lib.hid (on_skip HV.out hon)
        clear hon
        generalize SetM.of (onTo 0 (T.phases.take q)) = s0 at HS ⊢
        go_wp2
        go_roundw
        case rel => exact ⟨q + 1, by omega, by go_num, by rw [← HS.out], HN.out⟩
        case measure => simp [intOf]; omega
    · have HE : Hid (SetM.of (onTo 0 (T.phases.take q)) = r) := Lib.hid (by rw [RS.out, List.take_of_length_le (by rw [L8.out]; omega)])
      have HF : Hid (Below w.heap.size w wr) := Lib.hid (S0.out.bel.trans (HB.out.mono S0.out.bel.size))
      generalize SetM.of (onTo 0 (T.phases.take q)) = s0 at HE ⊢
      go_wp2
      go_ret
      exact ⟨ret_int (by rw [HE.out]), HF.out⟩
end Go.Proofs.YtjolhoilcibdfaaGreat.PlanO
/- A region that draws its order of evaluation, walked by taking first what reads, and then its calls one by one: wrappers of OrdersHeld's laws. No program in it. -/
namespace Go.Proofs.YtjolhoilcibdfaaGreat.Held
open Go Go.RowKit
open Tab
section
variable {P : Program} {ops : Array Oper} {Q : Exit → Act → World → Prop} {md : Region.Mode} {S : World → Prop}
theorem take {i : Nat} {oi : Oper} (d0 : Option Tmp) (hd0 : oi.dst = d0) {fuel : Nat} {listed : Array Bool} {a : Act} {w : World} {v : Value} (hi : ops[i]? = some oi) (hs : Region.noSelect ops = true) (hf : Region.free md ops listed i = true) (hr : (Region.ready md ops listed).contains i = true)
    (hQ : ∀ c a w, Q (.panic c) (a.put d0 v) w → Q (.panic c) a w) (hy : YieldsIf P ops S oi v a) (hS : S w)
    (h : wpAnyH P md ops Q S fuel (listed.setIfInBounds i true) (a.put d0 v) w) : wpAnyH P md ops Q S (fuel + 1) listed a w :=
  by
  subst hd0
  exact wpAnyH_take hi hs hf hr hQ hy hS h
theorem take_skip {i : Nat} {oi : Oper} (d0 : Option Tmp) (hd0 : oi.dst = d0) {fuel : Nat} {listed : Array Bool} {a : Act} {w : World} (hi : ops[i]? = some oi) (hs : Region.noSelect ops = true) (hf : Region.free md ops listed i = true) (hr : (Region.ready md ops listed).contains i = true)
    (hQ : ∀ c a w, Q (.panic c) (a.put d0 undef) w → Q (.panic c) a w) (hw : Region.wanted oi (yielded ops a.tmps) = false) (hS : S w)
    (h : wpAnyH P md ops Q S fuel (listed.setIfInBounds i true) (a.put d0 undef) w) : wpAnyH P md ops Q S (fuel + 1) listed a w :=
  by
  subst hd0
  exact wpAnyH_take hi hs hf hr hQ (.inr ⟨hw, rfl⟩) hS h
theorem take_load {i : Nat} {oi : Oper} (d0 : Option Tmp) (hd0 : oi.dst = d0) {fuel : Nat} {listed : Array Bool} {a : Act} {w : World} (ty : TypeId) (x : Operand) (y : Addr) (cs : List Value) (d : TypeDesc) (hi : ops[i]? = some oi) (ho : oi.op = .load ty x) (hs : Region.noSelect ops = true) (hf : Region.free md ops listed i = true) (hr : (Region.ready md ops listed).contains i = true)
    (hQ : ∀ c a w, Q (.panic c) (a.put d0 (.agg cs.toArray)) w → Q (.panic c) a w) (hw : Region.wanted oi (yielded ops a.tmps) = true) (hS : S w) (hx : a.eval x = .pointer (some y)) (hc : ∀ w, S w → Lies w y cs) (hu : P.underlying ty = some d) (hd : d.isRow = true) (hz : (P.info? ty).map (·.size) = some cs.length)
    (h : wpAnyH P md ops Q S fuel (listed.setIfInBounds i true) (a.put d0 (.agg cs.toArray)) w) : wpAnyH P md ops Q S (fuel + 1) listed a w :=
  by
  subst hd0
  exact wpAnyH_take hi hs hf hr hQ (.inl ⟨hw, fun w' hw' => by
    unfold execOp
    simp only [ho, hx, Instr.loadAt, Instr.sureAddr, Sem.run_bind, Sem.run_pure, Result.andThen_ok, Row.run_loadVar_lies w' y ty cs d (hc w' hw') hu hd hz]⟩) hS h
theorem take_build {i : Nat} {oi : Oper} (d0 : Option Tmp) (hd0 : oi.dst = d0) {fuel : Nat} {listed : Array Bool} {a : Act} {w : World} (t : TypeId) (parts : Array (Nat × Operand)) (cells : Array Value) (hi : ops[i]? = some oi) (ho : oi.op = .build t parts) (hs : Region.noSelect ops = true) (hf : Region.free md ops listed i = true) (hr : (Region.ready md ops listed).contains i = true)
    (hQ : ∀ c a w, Q (.panic c) (a.put d0 (.agg cells)) w → Q (.panic c) a w) (hw : Region.wanted oi (yielded ops a.tmps) = true) (hS : S w) (hb : P.built t (parts.map fun (i, x) => (i, a.eval x)).toList = some cells)
    (h : wpAnyH P md ops Q S fuel (listed.setIfInBounds i true) (a.put d0 (.agg cells)) w) : wpAnyH P md ops Q S (fuel + 1) listed a w :=
  by
  subst hd0
  exact wpAnyH_take hi hs hf hr hQ (.inl ⟨hw, fun w' _ => by
    unfold execOp
    simp only [ho, Sem.run_bind, run_build w' t _ _ hb, Result.andThen_ok, Sem.run_pure]⟩) hS h
end
end Go.Proofs.YtjolhoilcibdfaaGreat.Held
/- The contract of the document's clear: the longest clearance of the phases that are On. -/
namespace Go.Proofs.YtjolhoilcibdfaaGreat.Clear
open Go.ChangeShapes Go.WideShapes Go.ChangeAt Go.RowKit
open Tab Gath RefS OnS RefC
open May (St phases_in infoP infoT row_new)
set_option linter.unusedVariables false
set_option linter.unusedSimpArgs false
def phAt (T : Tab) (p : Int) : Ph := T.phases.getD p.toNat default
def clr (T : Tab) (p : Int) : Int := sums [(phAt T p).yellow, (phAt T p).red]
def clearS (T : Tab) : Int := mosts ((SetM.list (onS T : Nat)).map (clr T))
theorem sum_len (a : Option Addr) (cap : Nat) (L : List Int) (n : Nat) (hn : L.length = n) (w : World) (h : IntRow w ⟨a, cap⟩ L) :
    Calls Tryz.prog 60 #[.slice a n cap] w fun e w' => e = .returned (.int .i64 (sums L)) ∧ w = w' := by
  subst hn; exact sum_row a cap L w h
set_option maxRecDepth 100000 in
set_option maxHeartbeats 8000000 in
theorem clear_any (T : Tab) (h : Hd) (w : World) (ht : IsTab w h T) :
    Calls Tryz.prog 66 #[.agg (T.cells h).toArray] w fun e w' => e = .returned (.int .i64 (clearS T)) ∧ Below w.heap.size w w' := by
  have C := Lib.hid (cells_ok ht)
  have hsz := C.out.size
  have IA : Hid ((Tryz.prog.info? 32).map (·.size) = some (T.cells h).length) := Lib.hid (by rw [List.size_toArray] at hsz; rw [hsz]; exact infoT)
  have ON : Hid (∀ W, Below w.heap.size w W → Calls Tryz.prog 22 #[.agg (T.cells h).toArray] W fun e w' => e = .returned (.int .i64 (onS T : Nat)) ∧ Below W.heap.size W w') := Lib.hid (fun W hb => on_any T h W (ht.below hb))
  have L8 := Lib.hid ht.ph
  have S0 := Lib.hid (St.box (cs := (T.cells h).toArray) ht)
  have RS : Hid (clearS T = mosts ((SetM.list (onS T : Nat)).map (clr T))) := Lib.hid rfl
  generalize clearS T = r at RS ⊢
  generalize ((onS T : Nat) : Int) = os at RS ON
  obtain ⟨i0, hi, hz0, hz1, hz2⟩ := info_parts info3
  clear ht
  generalize T.cells h = c at *
  go_enter Tryz.func66, Tryz.ntmps66
  go_upto_region 1 with fail
  generalize w.alloc (.cells c.toArray 32) = w1 at S0 ⊢
  clear hsz
  have LT : Hid (Lies w1 ⟨w.heap.size, 0, none⟩ c) := Lib.hid (by have := Row.lies_of_block S0.out.blk; simpa using this)
  go_wp2_with (refine Row.wpList_load_g 32 _ rfl (by first | rfl | go_simp) ⟨w.heap.size, 0, none⟩ rfl c _ LT.out Tryz.underlying32 rfl IA.out ?_)
  refine (ON.out _ S0.out.bel).mono ?_
  rintro e w2 ⟨rfl, hb⟩
  have S2 := Lib.hid (S0.out.step hb)
  clear hb S0 LT ON IA
  go_wp2_with fail
  refine (rlist_any os _).mono ?_
  rintro e w3 ⟨v0, rfl, hown, hb⟩
  have S3 := Lib.hid (S2.out.step hb)
  obtain ⟨sa, sc, rfl, hrow⟩ := row_of hown
  have HR := Lib.hid hrow
  have hl8 := SetM.list_len os
  have BD := Lib.hid (SetM.list_bd os)
  clear hown hrow hb S2
  generalize SetM.list os = M at RS HR hl8 BD ⊢
  go_wp2_with fail
  go_loopw [3, 10] (fun v i wr => ∃ q : Nat, q ≤ M.length ∧ i = .int .i64 q ∧ OwnsI w3.heap.size wr v ((M.take q).map (clr T)) ∧ Below w3.heap.size w3 wr) (fun _ i _ => M.length - (intOf i).toNat)
  case atStart => exact ⟨0, by omega, rfl, Owns.nil, Below.refl _ _⟩
  case round =>
    obtain ⟨q, hq, rfl, hown, hbel⟩ := hrel
    have HO := Lib.hid hown
    have HB := Lib.hid hbel
    clear hown hbel
    by_cases hlt : q < M.length
    · obtain ⟨x, hx, hc⟩ := (HR.out.below HB.out).cells hlt
      obtain rfl : sa = some x := hx
      have c0 := hc q hlt
      have hmem : M.getD q 0 ∈ M := by rw [List.getD_eq_getElem?_getD, List.getElem?_eq_getElem hlt]; exact List.getElem_mem hlt
      have hbd := BD.out _ hmem
      have MS : Hid ((M.take (q + 1)).map (clr T) = (M.take q).map (clr T) ++ [clr T (M.getD q 0)]) := Lib.hid (by rw [RefS.take_succ M q hlt, List.map_append]; rfl)
      clear hc hmem
      generalize M.getD q 0 = p at c0 hbd MS
      obtain ⟨p0, p8⟩ := hbd
      obtain ⟨k, rfl⟩ := Int.eq_ofNat_of_zero_le p0
      have hk : k < 8 := by omega
      have hv : T.phases[k]? = some (phAt T k) := by
        unfold phAt
        rw [Int.toNat_natCast, List.getD_eq_getElem?_getD, List.getElem?_eq_getElem (by rw [L8.out]; exact hk)]; rfl
      have CL : Hid (clr T k = sums [(phAt T k).yellow, (phAt T k).red]) := Lib.hid rfl
      generalize phAt T k = u at hv CL
      obtain ⟨y, hy, hcc⟩ := (phases_in (S3.out.step HB.out).blk C.out L8.out).at hv
      obtain rfl := Option.some.inj hy
      have d6 : wr.cell? ⟨w.heap.size, k * 13 + 6, none⟩ = some (I u.yellow) := by have := hcc 6 _ rfl; rwa [Addr.add_mid, Nat.zero_add, Addr.add_mid] at this
      have d7 : wr.cell? ⟨w.heap.size, k * 13 + 7, none⟩ = some (I u.red) := by have := hcc 7 _ rfl; rwa [Addr.add_mid, Nat.zero_add, Addr.add_mid] at this
      have hl3 : w.heap.size < w3.heap.size := (Array.getElem?_eq_some_iff.1 S3.out.blk).1
      have CY : Hid (∀ w', Below w3.heap.size wr w' → w'.cell? ⟨w.heap.size, k * 13 + 6, none⟩ = some (I u.yellow)) := Lib.hid (fun w' hb => (hb.cell (show w.heap.size < _ from hl3)).trans d6)
      have CR : Hid (∀ w', Below w3.heap.size wr w' → w'.cell? ⟨w.heap.size, k * 13 + 7, none⟩ = some (I u.red)) := Lib.hid (fun w' hb => (hb.cell (show w.heap.size < _ from hl3)).trans d7)
      clear hv hcc hy d6 d7
      have hwr := HB.out.size
      have hlen : ((M.take q).map (clr T)).length ≤ 8 := by rw [List.length_map, List.length_take]; omega
      go_upto_region 5 with fail
      refine wp_region_held (S := fun w' => Below w3.heap.size wr w') (by kernel_rfl) ?_
      have hO : OwnsI w3.heap.size { wr with drawn := wr.drawn + 1 } u3 ((M.take q).map (clr T)) := HO.out
      have hS : Below w3.heap.size wr { wr with drawn := wr.drawn + 1 } := (Below.refl _ _).drew
      have hv3 : w3.heap.size ≤ ({ wr with drawn := wr.drawn + 1 } : World).heap.size := hwr
      generalize ({ wr with drawn := wr.drawn + 1 } : World) = v at hS hO hv3 ⊢
      generalize (M.take q).map (clr T) = P1 at hO hlen MS HO
      refine Held.take (i := 0) (some 14) rfl (v := ?_) rfl (by kernel_rfl) (by kernel_rfl) (by kernel_rfl) (fun _ _ _ h => h) (Or.inl ⟨by rfl, ?_⟩) hS ?_
      rotate_left
      · intro w' hw'
        have c6 := CY.out w' hw'
        have c7 := CR.out w' hw'
        go_simp
        try with_reducible rfl
      (try dsimp only [Act.put]); (try simp only [List.setIfInBounds_toArray, List.set_cons_zero, List.set_cons_succ])
      refine Held.take (i := 1) (some 15) rfl (v := ?_) rfl (by kernel_rfl) (by kernel_rfl) (by kernel_rfl) (fun _ _ _ h => h) (Or.inl ⟨by rfl, ?_⟩) hS ?_
      rotate_left
      · intro w' hw'
        have c6 := CY.out w' hw'
        have c7 := CR.out w' hw'
        go_simp
        try with_reducible rfl
      (try dsimp only [Act.put]); (try simp only [List.setIfInBounds_toArray, List.set_cons_zero, List.set_cons_succ])
      refine Held.take (i := 2) (some 16) rfl (v := ?_) rfl (by kernel_rfl) (by kernel_rfl) (by kernel_rfl) (fun _ _ _ h => h) (Or.inl ⟨by rfl, ?_⟩) hS ?_
      rotate_left
      · intro w' hw'
        have c6 := CY.out w' hw'
        have c7 := CR.out w' hw'
        go_simp
        try with_reducible rfl
      (try dsimp only [Act.put]); (try simp only [List.setIfInBounds_toArray, List.set_cons_zero, List.set_cons_succ])
      refine Held.take (i := 3) (some 17) rfl (v := ?_) rfl (by kernel_rfl) (by kernel_rfl) (by kernel_rfl) (fun _ _ _ h => h) (Or.inl ⟨by rfl, ?_⟩) hS ?_
      rotate_left
      · intro w' hw'
        have c6 := CY.out w' hw'
        have c7 := CR.out w' hw'
        go_simp
        try with_reducible rfl
      (try dsimp only [Act.put]); (try simp only [List.setIfInBounds_toArray, List.set_cons_zero, List.set_cons_succ])
      refine Held.take (i := 4) (some 18) rfl (v := ?_) rfl (by kernel_rfl) (by kernel_rfl) (by kernel_rfl) (fun _ _ _ h => h) (Or.inl ⟨by rfl, ?_⟩) hS ?_
      rotate_left
      · intro w' hw'
        have c6 := CY.out w' hw'
        have c7 := CR.out w' hw'
        go_simp
        try with_reducible rfl
      (try dsimp only [Act.put]); (try simp only [List.setIfInBounds_toArray, List.set_cons_zero, List.set_cons_succ])
      refine Held.take (i := 5) (some 19) rfl (v := ?_) rfl (by kernel_rfl) (by kernel_rfl) (by kernel_rfl) (fun _ _ _ h => h) (Or.inl ⟨by rfl, ?_⟩) hS ?_
      rotate_left
      · intro w' hw'
        have c6 := CY.out w' hw'
        have c7 := CR.out w' hw'
        go_simp
        try with_reducible rfl
      (try dsimp only [Act.put]); (try simp only [List.setIfInBounds_toArray, List.set_cons_zero, List.set_cons_succ])
      refine Held.take (i := 6) (some 20) rfl (v := ?_) rfl (by kernel_rfl) (by kernel_rfl) (by kernel_rfl) (fun _ _ _ h => h) (Or.inl ⟨by rfl, ?_⟩) hS ?_
      rotate_left
      · intro w' hw'
        have c6 := CY.out w' hw'
        have c7 := CR.out w' hw'
        go_simp
        try with_reducible rfl
      (try dsimp only [Act.put]); (try simp only [List.setIfInBounds_toArray, List.set_cons_zero, List.set_cons_succ])
      refine Held.take (i := 7) (some 21) rfl (v := ?_) rfl (by kernel_rfl) (by kernel_rfl) (by kernel_rfl) (fun _ _ _ h => h) (Or.inl ⟨by rfl, ?_⟩) hS ?_
      rotate_left
      · intro w' hw'
        have c6 := CY.out w' hw'
        have c7 := CR.out w' hw'
        go_simp
        try with_reducible rfl
      (try dsimp only [Act.put]); (try simp only [List.setIfInBounds_toArray, List.set_cons_zero, List.set_cons_succ])
      refine Held.take (i := 8) (some 22) rfl (v := ?_) rfl (by kernel_rfl) (by kernel_rfl) (by kernel_rfl) (fun _ _ _ h => h) (Or.inl ⟨by rfl, ?_⟩) hS ?_
      rotate_left
      · intro w' hw'
        have c6 := CY.out w' hw'
        have c7 := CR.out w' hw'
        go_simp
        try with_reducible rfl
      (try dsimp only [Act.put]); (try simp only [List.setIfInBounds_toArray, List.set_cons_zero, List.set_cons_succ])
      refine Held.take (i := 9) (some 23) rfl (v := ?_) rfl (by kernel_rfl) (by kernel_rfl) (by kernel_rfl) (fun _ _ _ h => h) (Or.inl ⟨by rfl, ?_⟩) hS ?_
      rotate_left
      · intro w' hw'
        have c6 := CY.out w' hw'
        have c7 := CR.out w' hw'
        go_simp
        try with_reducible rfl
      (try dsimp only [Act.put]); (try simp only [List.setIfInBounds_toArray, List.set_cons_zero, List.set_cons_succ])
      refine Held.take (i := 10) (some 24) rfl (v := ?_) rfl (by kernel_rfl) (by kernel_rfl) (by kernel_rfl) (fun _ _ _ h => h) (Or.inl ⟨by rfl, ?_⟩) hS ?_
      rotate_left
      · intro w' hw'
        have c6 := CY.out w' hw'
        have c7 := CR.out w' hw'
        go_simp
        try with_reducible rfl
      (try dsimp only [Act.put]); (try simp only [List.setIfInBounds_toArray, List.set_cons_zero, List.set_cons_succ])
      clear CY CR
      refine wpAnyH_ready (rs := [11]) (by kernel_rfl) (by simp) (AllReadyH.cons rfl (fun K hK => ?_) AllReadyH.nil)
      go_simp
      have r1 : Hid (IntRow (v.alloc (.cells #[I u.yellow, I u.red] 3)) ⟨some ⟨v.heap.size, 0, none⟩, 2⟩ [u.yellow, u.red]) := Lib.hid (row_new v 3 [u.yellow, u.red] 2 rfl (by decide) _ rfl)
      have o1 := hO.below ((Below.refl v.heap.size v).alloc (Nat.le_refl _) (.cells #[I u.yellow, I u.red] 3))
      have s1 := hS.alloc hv3 (.cells #[I u.yellow, I u.red] 3)
      have z1 : (v.alloc (.cells #[I u.yellow, I u.red] 3)).heap.size = v.heap.size + 1 := by simp
      have v1 : w3.heap.size ≤ (v.alloc (.cells #[I u.yellow, I u.red] 3)).heap.size := by rw [z1]; omega
      clear hS hO z1
      generalize v.heap.size = b1 at r1 ⊢
      generalize World.alloc v _ = v at r1 o1 s1 v1 ⊢
      refine hK.out _ _ s1 (fun hS => ?_)
      clear hK K s1
      refine wpAnyH_ready (rs := [12]) (by kernel_rfl) (by simp) (AllReadyH.cons rfl (fun K hK => ?_) AllReadyH.nil)
      go_simp
      refine (sum_len (some ⟨b1, 0, none⟩) 2 [u.yellow, u.red] 2 rfl _ r1.out).mono ?_
      rintro e w' ⟨rfl, hq⟩
      subst w'
      rw [← CL.out]
      go_simp
      refine hK.out _ _ hS (fun hS => ?_)
      clear hK K r1
      generalize clr T ((k : Nat) : Int) = z at MS ⊢
      refine wpAnyH_ready (rs := [13]) (by kernel_rfl) (by simp) (AllReadyH.cons rfl (fun K hK => ?_) AllReadyH.nil)
      go_simp
      have c1 : (v.alloc (.cells #[I z] 3)).cell? ⟨v.heap.size, 0, none⟩ = some (I z) := by rw [cell_of_row _ _ _ _ _ _ (heap_alloc_new v _)]; rfl
      have o2 := o1.below ((Below.refl v.heap.size v).alloc (Nat.le_refl _) (.cells #[I z] 3))
      have s2 := hS.alloc v1 (.cells #[I z] 3)
      have z2 : (v.alloc (.cells #[I z] 3)).heap.size = v.heap.size + 1 := by simp
      have v2 : w3.heap.size ≤ (v.alloc (.cells #[I z] 3)).heap.size := by rw [z2]; omega
      clear hS o1 v1 z2
      generalize v.heap.size = b2 at c1 ⊢
      generalize World.alloc v _ = v at c1 o2 s2 v2 ⊢
      refine hK.out _ _ s2 (fun hS => ?_)
      clear hK K s2
      refine wpAnyH_ready (rs := [14]) (by kernel_rfl) (by simp) (AllReadyH.cons rfl (fun K hK => ?_) AllReadyH.nil)
      rw [if_pos (by rfl)]
      refine wp_append_own _ _ _ _ rfl w3.heap.size 3 i0 (.int .i64 0) 1 8 Tryz.underlying22 hi hz0 hz1 hz2 rfl (by decide) u3 P1.length _ rfl o2 ⟨b2, 0, none⟩ 1 1 [I z] rfl rfl ?c1 ?c2 ?c3 ?c4 v2 ?_
      case c1 =>
        intro j e hj
        match j, hj with
        | 0, hj => simp at hj; subst hj; rw [Tab.add_zero]; exact c1
      case c2 => intro e he; simp at he; subst he; rfl
      case c3 => unfold maxLen; omega
      case c4 => omega
      intro v' w5 hown' hgrow hnil'
      have s3 : Below w3.heap.size wr w5 := hS.grown hgrow (by omega) (fun m hm => (show OwnsI w3.heap.size v u3 P1 from o2).blk m hm)
      have HO2 : Hid (OwnsI w3.heap.size w5 v' (P1 ++ [z])) := Lib.hid (Owns.snoc hown')
      clear hown' hgrow hnil' hS o2 c1 v2
      refine hK.out _ _ s3 (fun hS => ?_)
      clear hK K s3
      refine Held.take (i := 15) (some 3) rfl (v := ?_) rfl (by kernel_rfl) (by kernel_rfl) (by kernel_rfl) (fun _ _ _ h => h) (Or.inl ⟨by rfl, ?_⟩) hS ?_
      rotate_left
      · intro w' hw'
        go_simp
        try with_reducible rfl
      (try dsimp only [Act.put]); (try simp only [List.setIfInBounds_toArray, List.set_cons_zero, List.set_cons_succ])
      refine wpAnyH_done (by kernel_rfl) ?_ _
      have HB2 := Lib.hid (HB.out.trans hS)
      clear hS
      go_wp2
      go_roundw
      case rel => exact ⟨q + 1, by omega, by go_num, by rw [MS.out]; exact HO2.out, HB2.out⟩
      case measure => simp [intOf]; omega
    · have HE : Hid ((M.take q).map (clr T) = M.map (clr T)) := Lib.hid (by rw [List.take_of_length_le (by omega)])
      obtain ⟨⟨ea, ec⟩, hs, hrow⟩ := HO.out.row (enc := fun n => [I n]) (fun _ => rfl)
      rw [HE.out] at hs hrow
      have HRR := Lib.hid hrow
      have HF : Hid (Below w.heap.size w wr) := Lib.hid ((S3.out.step HB.out).bel)
      clear hrow HE
      subst hs
      generalize M.map (clr T) = P2 at RS HRR ⊢
      rw [show (Sl.val ⟨ea, ec⟩ P2.length) = .slice ea P2.length ec from rfl]
      go_wp2_with fail
      refine (most_row ea ec P2 _ HRR.out).mono ?_
      rintro e w' ⟨rfl, rfl⟩
      rw [← RS.out]
      go_wp2
      go_ret
      exact ⟨rfl, HF.out⟩
end Go.Proofs.YtjolhoilcibdfaaGreat.Clear
/- The contracts of package bound's isOn, needed and the clearance of one phase. -/
namespace Go.Proofs.YtjolhoilcibdfaaGreat.BdA
open Go.ChangeShapes Go.WideShapes Go.ChangeAt Go.RowKit
open Tab Gath OnS RefC Clear
open May (St phases_in infoP infoT row_new)
set_option linter.unusedVariables false
set_option linter.unusedSimpArgs false
def neededP (u : Ph) : Int := max u.min (sums [u.walk, u.blinks])
def clrP (u : Ph) : Int := sums [u.yellow, u.red]
set_option maxRecDepth 100000 in
set_option maxHeartbeats 8000000 in
theorem isOn_any (T : Tab) (h : Hd) (p : Int) (w : World) (ht : IsTab w h T) :
    Calls Tryz.prog 57 #[.agg (T.cells h).toArray, .int .i64 p] w fun e w' => e = .returned (.bool (SetM.has (onS T : Nat) p)) ∧ Below w.heap.size w w' := by
  have C := Lib.hid (cells_ok ht)
  have hsz := C.out.size
  have IA : Hid ((Tryz.prog.info? 32).map (·.size) = some (T.cells h).length) := Lib.hid (by rw [List.size_toArray] at hsz; rw [hsz]; exact infoT)
  have ON : Hid (∀ W, Below w.heap.size w W → Calls Tryz.prog 96 #[.agg (T.cells h).toArray] W fun e w' => e = .returned (.int .i64 (onS T : Nat)) ∧ Below W.heap.size W w') := Lib.hid (fun W hb => PlanO.pon_any T h W (ht.below hb))
  have S0 := Lib.hid (St.box (cs := (T.cells h).toArray) ht)
  generalize ((onS T : Nat) : Int) = os at ON
  clear ht
  generalize T.cells h = c at *
  go_enter Tryz.func57, Tryz.ntmps57
  go_upto_region 1 with fail
  generalize w.alloc (.cells c.toArray 32) = w1 at S0 ⊢
  clear hsz
  have LT : Hid (Lies w1 ⟨w.heap.size, 0, none⟩ c) := Lib.hid (by have := Row.lies_of_block S0.out.blk; simpa using this)
  go_wp2_with (refine Row.wpList_load_g 32 _ rfl (by first | rfl | go_simp) ⟨w.heap.size, 0, none⟩ rfl c _ LT.out Tryz.underlying32 rfl IA.out ?_)
  refine (ON.out _ S0.out.bel).mono ?_
  rintro e w2 ⟨rfl, hb⟩
  have S2 := Lib.hid (S0.out.step hb)
  clear hb S0 LT ON IA
  go_wp2_with fail
  refine (SetP.has_any os p _).mono ?_
  rintro e w' ⟨rfl, rfl⟩
  go_wp2
  go_ret
  exact ⟨rfl, S2.out.bel⟩
set_option maxRecDepth 100000 in
set_option maxHeartbeats 8000000 in
theorem needed_any (u : Ph) (w : World) :
    Calls Tryz.prog 59 #[.agg u.cells.toArray] w fun e w' => e = .returned (.int .i64 (neededP u)) ∧ Below w.heap.size w w' := by
  have RS : Hid (neededP u = max u.min (sums [u.walk, u.blinks])) := Lib.hid rfl
  generalize neededP u = r at RS ⊢
  have B0 := Lib.hid ((Below.refl w.heap.size w).alloc (Nat.le_refl _) (.cells u.cells.toArray 24))
  have hg := heap_alloc_new w (.cells u.cells.toArray 24)
  go_enter Tryz.func59, Tryz.ntmps59
  go_upto_region 1 with fail
  generalize World.alloc w _ = w1 at hg B0 ⊢
  have HL : Hid (Lies w1 ⟨w.heap.size, 0, none⟩ u.cells) := Lib.hid (by have := Row.lies_of_block hg; simpa using this)
  clear hg
  have M1 : Hid (∀ w', Below w1.heap.size w1 w' → w'.cell? ⟨w.heap.size, 1, none⟩ = some (I u.min)) := Lib.hid (fun w' hb => by have := (HL.out.below hb) 1 _ rfl; rwa [Addr.add_mid, Nat.zero_add] at this)
  have M8 : Hid (∀ w', Below w1.heap.size w1 w' → w'.cell? ⟨w.heap.size, 8, none⟩ = some (I u.walk)) := Lib.hid (fun w' hb => by have := (HL.out.below hb) 8 _ rfl; rwa [Addr.add_mid, Nat.zero_add] at this)
  have M9 : Hid (∀ w', Below w1.heap.size w1 w' → w'.cell? ⟨w.heap.size, 9, none⟩ = some (I u.blinks)) := Lib.hid (fun w' hb => by have := (HL.out.below hb) 9 _ rfl; rwa [Addr.add_mid, Nat.zero_add] at this)
  refine wp_region_held (S := fun w' => Below w1.heap.size w1 w') (by kernel_rfl) ?_
  have hS : Below w1.heap.size w1 { w1 with drawn := w1.drawn + 1 } := (Below.refl _ _).drew
  generalize ({ w1 with drawn := w1.drawn + 1 } : World) = v at hS ⊢
  refine Held.take (i := 0) (some 3) rfl (v := ?_) rfl (by kernel_rfl) (by kernel_rfl) (by kernel_rfl) (fun _ _ _ h => h) (Or.inl ⟨by rfl, ?_⟩) hS ?_
  rotate_left
  · intro w' hw'
    go_simp
    try with_reducible rfl
  (try dsimp only [Act.put]); (try simp only [List.setIfInBounds_toArray, List.set_cons_zero, List.set_cons_succ])
  refine Held.take (i := 1) (some 4) rfl (v := ?_) rfl (by kernel_rfl) (by kernel_rfl) (by kernel_rfl) (fun _ _ _ h => h) (Or.inl ⟨by rfl, ?_⟩) hS ?_
  rotate_left
  · intro w' hw'
    have cf := M1.out w' hw'
    go_simp
    try with_reducible rfl
  (try dsimp only [Act.put]); (try simp only [List.setIfInBounds_toArray, List.set_cons_zero, List.set_cons_succ])
  refine Held.take (i := 2) (some 5) rfl (v := ?_) rfl (by kernel_rfl) (by kernel_rfl) (by kernel_rfl) (fun _ _ _ h => h) (Or.inl ⟨by rfl, ?_⟩) hS ?_
  rotate_left
  · intro w' hw'
    go_simp
    try with_reducible rfl
  (try dsimp only [Act.put]); (try simp only [List.setIfInBounds_toArray, List.set_cons_zero, List.set_cons_succ])
  refine Held.take (i := 3) (some 6) rfl (v := ?_) rfl (by kernel_rfl) (by kernel_rfl) (by kernel_rfl) (fun _ _ _ h => h) (Or.inl ⟨by rfl, ?_⟩) hS ?_
  rotate_left
  · intro w' hw'
    have cf := M8.out w' hw'
    go_simp
    try with_reducible rfl
  (try dsimp only [Act.put]); (try simp only [List.setIfInBounds_toArray, List.set_cons_zero, List.set_cons_succ])
  refine Held.take (i := 4) (some 7) rfl (v := ?_) rfl (by kernel_rfl) (by kernel_rfl) (by kernel_rfl) (fun _ _ _ h => h) (Or.inl ⟨by rfl, ?_⟩) hS ?_
  rotate_left
  · intro w' hw'
    go_simp
    try with_reducible rfl
  (try dsimp only [Act.put]); (try simp only [List.setIfInBounds_toArray, List.set_cons_zero, List.set_cons_succ])
  refine Held.take (i := 5) (some 8) rfl (v := ?_) rfl (by kernel_rfl) (by kernel_rfl) (by kernel_rfl) (fun _ _ _ h => h) (Or.inl ⟨by rfl, ?_⟩) hS ?_
  rotate_left
  · intro w' hw'
    have cf := M9.out w' hw'
    go_simp
    try with_reducible rfl
  (try dsimp only [Act.put]); (try simp only [List.setIfInBounds_toArray, List.set_cons_zero, List.set_cons_succ])
  refine wpAnyH_ready (rs := [6]) (by kernel_rfl) (by simp) (AllReadyH.cons rfl (fun K hK => ?_) AllReadyH.nil)
  go_simp
  have R1 : Hid (IntRow (v.alloc (.cells #[I u.walk, I u.blinks] 3)) ⟨some ⟨v.heap.size, 0, none⟩, 2⟩ [u.walk, u.blinks]) := Lib.hid (row_new v 3 [u.walk, u.blinks] 2 rfl (by decide) _ rfl)
  have hq := hS.alloc hS.size (.cells #[I u.walk, I u.blinks] 3)
  clear hS
  generalize v.heap.size = b1 at R1 ⊢
  generalize World.alloc v _ = v at R1 hq ⊢
  refine hK.out _ _ hq (fun hS => ?_)
  clear hK K hq
  refine wpAnyH_ready (rs := [7]) (by kernel_rfl) (by simp) (AllReadyH.cons rfl (fun K hK => ?_) AllReadyH.nil)
  go_simp
  refine (BdS.sum_row (some ⟨b1, 0, none⟩) 2 [u.walk, u.blinks] 2 rfl _ R1.out).mono ?_
  rintro e w' ⟨rfl, rfl⟩
  go_simp
  refine hK.out _ _ hS (fun hS => ?_)
  clear hK K
  clear R1
  generalize sums [u.walk, u.blinks] = z at RS ⊢
  refine Held.take (i := 8) (some 11) rfl (v := .int .i64 (max u.min z)) rfl (by kernel_rfl) (by kernel_rfl) (by kernel_rfl) (fun _ _ _ h => h) (Or.inl ⟨by rfl, ?_⟩) hS ?_
  · intro w' hw'
    go_simp
    try (first | rfl | (simp only [Int.max_def]; split <;> split <;> omega))
  (try dsimp only [Act.put]); (try simp only [List.setIfInBounds_toArray, List.set_cons_zero, List.set_cons_succ])
  rw [← RS.out]
  refine Held.take (i := 9) (some 2) rfl (v := ?_) rfl (by kernel_rfl) (by kernel_rfl) (by kernel_rfl) (fun _ _ _ h => h) (Or.inl ⟨by rfl, ?_⟩) hS ?_
  rotate_left
  · intro w' hw'
    go_simp
    try with_reducible rfl
  (try dsimp only [Act.put]); (try simp only [List.setIfInBounds_toArray, List.set_cons_zero, List.set_cons_succ])
  refine wpAnyH_done (by kernel_rfl) ?_ _
  have HF := Lib.hid (B0.out.trans (hS.mono B0.out.size))
  clear hS
  go_wp2
  go_ret
  exact ⟨rfl, HF.out⟩
set_option maxRecDepth 100000 in
set_option maxHeartbeats 8000000 in
theorem clr_any (u : Ph) (w : World) :
    Calls Tryz.prog 103 #[.agg u.cells.toArray] w fun e w' => e = .returned (.int .i64 (clrP u)) ∧ Below w.heap.size w w' := by
  have RS : Hid (clrP u = sums [u.yellow, u.red]) := Lib.hid rfl
  generalize clrP u = r at RS ⊢
  have B0 := Lib.hid ((Below.refl w.heap.size w).alloc (Nat.le_refl _) (.cells u.cells.toArray 24))
  have hg := heap_alloc_new w (.cells u.cells.toArray 24)
  go_enter Tryz.func103, Tryz.ntmps103
  go_upto_region 1 with fail
  generalize World.alloc w _ = w1 at hg B0 ⊢
  have HL : Hid (Lies w1 ⟨w.heap.size, 0, none⟩ u.cells) := Lib.hid (by have := Row.lies_of_block hg; simpa using this)
  clear hg
  have M6 : Hid (∀ w', Below w1.heap.size w1 w' → w'.cell? ⟨w.heap.size, 6, none⟩ = some (I u.yellow)) := Lib.hid (fun w' hb => by have := (HL.out.below hb) 6 _ rfl; rwa [Addr.add_mid, Nat.zero_add] at this)
  have M7 : Hid (∀ w', Below w1.heap.size w1 w' → w'.cell? ⟨w.heap.size, 7, none⟩ = some (I u.red)) := Lib.hid (fun w' hb => by have := (HL.out.below hb) 7 _ rfl; rwa [Addr.add_mid, Nat.zero_add] at this)
  have c6 := M6.out _ (Below.refl _ _)
  have c7 := M7.out _ (Below.refl _ _)
  go_wp2_with fail
  have R1 : Hid (IntRow (w1.alloc (.cells #[I u.yellow, I u.red] 3)) ⟨some ⟨w1.heap.size, 0, none⟩, 2⟩ [u.yellow, u.red]) := Lib.hid (row_new w1 3 [u.yellow, u.red] 2 rfl (by decide) _ rfl)
  have HF : Hid (Below w.heap.size w (w1.alloc (.cells #[I u.yellow, I u.red] 3))) := Lib.hid (B0.out.alloc B0.out.size _)
  clear M6 M7 c6 c7 HL
  generalize w1.heap.size = b1 at R1 ⊢
  generalize World.alloc w1 _ = v at R1 HF ⊢
  refine (BdS.sum_row (some ⟨b1, 0, none⟩) 2 [u.yellow, u.red] 2 rfl _ R1.out).mono ?_
  rintro e w' ⟨rfl, rfl⟩
  rw [← RS.out]
  go_wp2
  go_ret
  exact ⟨rfl, HF.out⟩
end Go.Proofs.YtjolhoilcibdfaaGreat.BdA
/- The contract of the document's Entry. -/
namespace Go.Proofs.YtjolhoilcibdfaaGreat.EntryS
open Go.ChangeShapes Go.WideShapes Go.ChangeAt Go.RowKit
open Tab Gath RefS OnS RefC Clear
open May (St phases_in infoP infoT infoR row_new)
set_option linter.unusedVariables false
set_option linter.unusedSimpArgs false
def entryR (T : Tab) (r : Rl) : Int := sums [r.delay, r.hold, r.green, r.green, r.foot, r.foot, r.foot, clearS T, clearS T, clearS T, clearS T, clearS T, T.revert, T.revert, T.revert, 60]
def entryS (T : Tab) (k : Int) : Int := if k < 0 then 0 else match T.rails[k.toNat]? with
  | some r => entryR T r
  | none => 0
set_option maxRecDepth 100000 in
set_option maxHeartbeats 8000000 in
theorem entry_any (T : Tab) (h : Hd) (k : Int) (w : World) (ht : IsTab w h T) :
    Calls Tryz.prog 32 #[.agg (T.cells h).toArray, .int .i64 k] w fun e w' => e = .returned (.int .i64 (entryS T k)) ∧ Below w.heap.size w w' := by
  have C := Lib.hid (cells_ok ht)
  have hsz := C.out.size
  have IA : Hid ((Tryz.prog.info? 32).map (·.size) = some (T.cells h).length) := Lib.hid (by rw [List.size_toArray] at hsz; rw [hsz]; exact infoT)
  have CC : Hid (∀ W, Below w.heap.size w W → Calls Tryz.prog 66 #[.agg (T.cells h).toArray] W fun e w' => e = .returned (.int .i64 (clearS T)) ∧ Below W.heap.size W w') := Lib.hid (fun W hb => clear_any T h W (ht.below hb))
  have S0 := Lib.hid (St.box (cs := (T.cells h).toArray) ht)
  have Kr := ht.rails.len
  unfold maxLen at Kr
  have RS : Hid (entryS T k = if k < 0 then 0 else match T.rails[k.toNat]? with
    | some r => entryR T r
    | none => 0) := Lib.hid rfl
  have ER : Hid (∀ r, entryR T r = sums [r.delay, r.hold, r.green, r.green, r.foot, r.foot, r.foot, clearS T, clearS T, clearS T, clearS T, clearS T, T.revert, T.revert, T.revert, 60]) := Lib.hid (fun r => rfl)
  generalize entryS T k = e0 at RS ⊢
  generalize clearS T = cl at CC ER
  clear ht
  generalize T.cells h = c at *
  go_enter Tryz.func32, Tryz.ntmps32
  go_upto_region 1 with fail
  generalize w.alloc (.cells c.toArray 32) = w1 at S0 ⊢
  clear hsz
  have q114 := S0.out.cell C.out.r
  by_cases h0 : k < 0
  · have HE : Hid (0 = e0) := Lib.hid (by rw [RS.out, if_pos h0])
    go_wp2
    go_ret
    exact ⟨RefC.ret_int HE.out, S0.out.bel⟩
  obtain ⟨m, rfl⟩ := Int.eq_ofNat_of_zero_le (show 0 ≤ k by omega)
  by_cases h1 : T.rails.length ≤ m
  · have HE : Hid (0 = e0) := Lib.hid (by rw [RS.out, if_neg h0, Int.toNat_natCast, List.getElem?_eq_none h1])
    go_wp2
    go_ret
    exact ⟨RefC.ret_int HE.out, S0.out.bel⟩
  have hlt : m < T.rails.length := by omega
  have hv := List.getElem?_eq_getElem hlt
  generalize T.rails[m] = r at hv
  have HE : Hid (entryR T r = e0) := Lib.hid (by rw [RS.out, if_neg h0, Int.toNat_natCast, hv])
  obtain ⟨x, hx, hc⟩ := S0.out.tab.rails.at hv
  have HC := Lib.hid hc
  have qq : Hid (w1.cell? ⟨w.heap.size, 114, none⟩ = some (.slice (some x) T.rails.length h.r.cap)) := by have := q114; simp only [Sl.val, hx] at this; exact this
  clear hv hc hx q114 h0 h1 RS
  have q114 := qq.out
  go_upto_region 3 with fail
  go_upto_region 4 with (first | (refine Row.wpList_load_g 47 _ rfl (by first | rfl | go_simp) (x.add (m * 11)) rfl r.cells _ HC.out Tryz.underlying47 rfl infoR ?_) | (refine Row.wpList_store_new rfl 47 _ _ rfl w1 _ r.cells.toArray rfl rfl rfl infoR rfl (Rl.one _) ?_))
  have hb2 : Below w1.heap.size w1 (w1.alloc (.cells r.cells.toArray 47)) := (Below.refl _ _).alloc (Nat.le_refl _) _
  have hg := heap_alloc_new w1 (.cells r.cells.toArray 47)
  (try dsimp only [Act.put])
  have S1 := Lib.hid (S0.out.step hb2)
  clear q114 qq HC
  generalize World.alloc w1 _ = w2 at hg S1 ⊢
  generalize w1.heap.size = b at hg ⊢
  have HG := Lib.hid hg
  clear hg hb2 S0
  have LT : Hid (Lies w2 ⟨w.heap.size, 0, none⟩ c) := Lib.hid (by have := Row.lies_of_block S1.out.blk; simpa using this)
  go_wp2_with (refine Row.wpList_load_g 32 _ rfl (by first | rfl | go_simp) ⟨w.heap.size, 0, none⟩ rfl c _ LT.out Tryz.underlying32 rfl IA.out ?_)
  refine (CC.out _ S1.out.bel).mono ?_
  rintro e w3 ⟨rfl, hb⟩
  have S2 := Lib.hid (S1.out.step hb)
  have hg3 := (hb.block _ (Array.getElem?_eq_some_iff.1 HG.out).1).trans HG.out
  have HL : Hid (Lies w3 ⟨b, 0, none⟩ r.cells) := Lib.hid (by have := Row.lies_of_block hg3; simpa using this)
  clear hb hg3 HG S1 LT CC IA
  have c4 : w3.cell? ⟨b, 4, none⟩ = some (I r.delay) := by have := HL.out 4 _ rfl; rwa [Addr.add_mid, Nat.zero_add] at this
  have c5 : w3.cell? ⟨b, 5, none⟩ = some (I r.green) := by have := HL.out 5 _ rfl; rwa [Addr.add_mid, Nat.zero_add] at this
  have c6 : w3.cell? ⟨b, 6, none⟩ = some (I r.foot) := by have := HL.out 6 _ rfl; rwa [Addr.add_mid, Nat.zero_add] at this
  have c7 : w3.cell? ⟨b, 7, none⟩ = some (I r.hold) := by have := HL.out 7 _ rfl; rwa [Addr.add_mid, Nat.zero_add] at this
  have c119 := S2.out.cell C.out.revert
  go_wp2_with fail
  have hrow := row_new w3 3 [r.delay, r.hold, r.green, r.green, r.foot, r.foot, r.foot, cl, cl, cl, cl, cl, T.revert, T.revert, T.revert, 60] 16 rfl (by decide) _ rfl
  have HF : Hid (Below w.heap.size w (w3.alloc (.cells #[I r.delay, I r.hold, I r.green, I r.green, I r.foot, I r.foot, I r.foot, I cl, I cl, I cl, I cl, I cl, I T.revert, I T.revert, I T.revert, I 60] 3))) := Lib.hid (S2.out.bel.alloc S2.out.bel.size _)
  refine (sum_len (some ⟨w3.heap.size, 0, none⟩) 16 [r.delay, r.hold, r.green, r.green, r.foot, r.foot, r.foot, cl, cl, cl, cl, cl, T.revert, T.revert, T.revert, 60] 16 rfl _ hrow).mono ?_
  rintro e w' ⟨rfl, rfl⟩
  rw [← ER.out r, HE.out]
  clear hrow c4 c5 c6 c7 c119
  go_wp2
  go_ret
  exact ⟨rfl, HF.out⟩
end Go.Proofs.YtjolhoilcibdfaaGreat.EntryS
