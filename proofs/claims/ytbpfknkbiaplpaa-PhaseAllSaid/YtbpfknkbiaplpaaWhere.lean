/- The contracts of the document's Where and Beside. -/
import Derived.Test.YtbpfknkbiaplpaaRows
import Derived.Test.YtbpfknkbiaplpaaSpots
import Derived.Test.YtbpfknkbiaplpaaRow
import Derived.Test.YtbpfknkbiaplpaaSameD
import Derived.Laws.ResultCell
import Derived.Laws.Rows
import Derived.Deep.Cut
namespace Go.Proofs.Ytbpfknkbiaplpaa.Where
open Go.ChangeShapes Go.WideShapes Go.ChangeAt Go.RowKit
open Tab Clone PlaceM
open May (ret_bool chain infoP infoG infoD infoR infoB infoT St)
open Same (below_setRow)
set_option linter.unusedVariables false
set_option linter.unusedSimpArgs false
theorem infoS : (Try.prog.info? 93).map (·.size) = some 4 := by kernel_rfl
theorem infoZ : (Try.prog.info? 93).map (fun i => (i.zero, i.size)) = some (some (.agg #[I 0, I 0, I 0, I 0]), 4) := by kernel_rfl
theorem builtS : Try.prog.built 93 [] = some #[I 0, I 0, I 0, I 0] := by kernel_rfl
theorem results_row_tmp {P : Program} {fn : Func} {p u : Tmp} {ty : TypeId} (h : fn.results = #[.cell p ty, .tmp u]) (tmps : Array Value) (w : World) (g : Nat) (t : TypeId) (cs : Array Value) (fr : Nat × Nat) (d : TypeDesc)
    (hp : tmps.getD p undef = .pointer (some ⟨g, 0, none⟩)) (hg : w.heap[g]? = some (.cells cs t fr))
    (hu : P.underlying ty = some d) (hd : (match d with | .struct _ | .array _ _ => true | _ => false) = true) (hi : (P.info? ty).map (·.size) = some cs.size) :
    (results fn tmps).run P w = .ok (.tuple #[.agg cs, tmps.getD u undef]) w := by
  rw [results_cell_tmp h, hp]
  simp [asAddr, run_loadVar_row w g t ty cs fr d hg hu hd hi]
def oCells : Option Spt → List Value
  | some x => x.cells
  | none => [I 0, I 0, I 0, I 0]
theorem find_some {p : Int} {l : List Spt} {j : Nat} {x : Spt} (h : ∀ y ∈ l.take j, y.p ≠ p) (hx : l[j]? = some x) (hp : x.p = p) : find p l = some x := by
  have hj : j < l.length := (List.getElem?_eq_some_iff.1 hx).1
  have e : l = l.take j ++ x :: l.drop (j + 1) := by
    have h2 : l.drop j = x :: l.drop (j + 1) := by
      rw [List.drop_eq_getElem_cons hj]; congr 1; exact (List.getElem?_eq_some_iff.1 hx).2
    rw [← h2, List.take_append_drop]
  have h1 := find_none h
  unfold find at h1 ⊢
  rw [e, List.find?_append, h1]
  simp [hp]
set_option maxRecDepth 100000 in
set_option maxHeartbeats 4000000 in
theorem where_any (T : Tab) (h : Hd) (p : Int) (w : World) (ht : IsTab w h T) (sm : Few T) :
    Calls Try.prog 58 #[.agg (T.cells h).toArray, .int .i64 p] w fun e w' => e = .returned (.tuple #[.agg (oCells (where_ T p)).toArray, .bool (where_ T p).isSome]) ∧ Below w.heap.size w w' := by
  have hsz := (cells_ok ht).size
  have IA : Hid ((Try.prog.info? 45).map (·.size) = some (T.cells h).length) := Lib.hid (by rw [List.size_toArray] at hsz; rw [hsz]; exact infoT)
  have SPC : Hid (∀ W, Below w.heap.size w W → Calls Try.prog 76 #[.agg (T.cells h).toArray] W fun e w' => ∃ s : Sl, e = .returned (s.val (spots T).length) ∧ RowOf 4 Spt.cells w' s (spots T) ∧ Below W.heap.size W w') := Lib.hid (fun W hb => Spots.spots_any T h W (ht.below hb) sm)
  have A0 : Hid (Below w.heap.size w ((w.alloc (.cells (T.cells h).toArray 45)).alloc (.cells #[I 0, I 0, I 0, I 0] 93))) := Lib.hid (((Below.refl _ _).alloc (Nat.le_refl _) _).alloc (by simp) _)
  have A1 : Hid (Lies ((w.alloc (.cells (T.cells h).toArray 45)).alloc (.cells #[I 0, I 0, I 0, I 0] 93)) ⟨w.heap.size, 0, none⟩ (T.cells h)) := Lib.hid (Row.lies_of_block (heap_alloc2_old w _ _))
  have A2 : Hid (((w.alloc (.cells (T.cells h).toArray 45)).alloc (.cells #[I 0, I 0, I 0, I 0] 93)).heap[w.heap.size + 1]? = some (.cells #[I 0, I 0, I 0, I 0] 93 (0, 0))) := Lib.hid (heap_alloc2_new w _ _)
  have hz := (zero_of_info infoZ).1
  have W0 : Hid (where_ T p = find p (spots T)) := Lib.hid rfl
  generalize where_ T p = o at W0 ⊢
  clear ht sm
  generalize T.cells h = c at *
  go_enter Try.func58, Try.ntmps58
  go_upto_region 1 with fail
  generalize ((w.alloc (.cells c.toArray 45)).alloc (.cells #[I 0, I 0, I 0, I 0] 93)) = u at A0 A1 A2 ⊢
  clear hsz hz
  go_wp2_with (refine Row.wpList_load_g 45 _ rfl (by first | rfl | go_simp) ⟨w.heap.size, 0, none⟩ rfl c _ A1.out Try.underlying45 rfl IA.out ?_)
  refine (SPC.out _ A0.out).mono ?_
  rintro e u1 ⟨⟨sa, scap⟩, rfl, hrow, hb⟩
  rw [show (Sl.val ⟨sa, scap⟩ (spots T).length) = .slice sa (spots T).length scap from rfl]
  have B0 : Hid (Below w.heap.size w u1) := Lib.hid (A0.out.trans (hb.mono A0.out.size))
  have B2 : Hid (u1.heap[w.heap.size + 1]? = some (.cells #[I 0, I 0, I 0, I 0] 93 (0, 0))) := Lib.hid ((hb.block _ (Array.getElem?_eq_some_iff.1 A2.out).1).trans A2.out)
  have HR := Lib.hid hrow
  have K := hrow.len
  unfold maxLen at K
  clear hrow hb A0 A1 A2 SPC IA
  generalize spots T = S at HR K W0 ⊢
  go_wp2_with fail
  go_loopw [7] (fun i wr => ∃ j : Nat, j ≤ S.length ∧ i = .int .i64 j ∧ (∀ x ∈ S.take j, x.p ≠ p) ∧ wr = u1) (fun i _ => S.length - (intOf i).toNat)
  case atStart => exact ⟨0, by omega, rfl, (fun x hx => by simp at hx), rfl⟩
  case round =>
    obtain ⟨j, hj, rfl, hall, rfl⟩ := hrel
    have Hall := Lib.hid hall
    clear hall
    by_cases hlt : j < S.length
    · have hv := List.getElem?_eq_getElem hlt
      generalize S[j] = x at hv
      obtain ⟨y, hy, hc⟩ := HR.out.at hv
      obtain rfl : sa = some y := hy
      have HV := Lib.hid hv
      have HC := Lib.hid hc
      have c3 := hc 3 _ rfl
      have c3' : wr.cell? ⟨(y.add (j * 4)).block, (y.add (j * 4)).off + 3, none⟩ = some (I x.p) := by simpa [Addr.add] using c3
      clear hv hc c3
      by_cases hp : x.p = p
      · have HF : Hid (o = some x) := Lib.hid (by rw [W0.out]; exact find_some Hall.out HV.out hp)
        have hb : (x.p == p) = true := by simpa using hp
        have HG := Lib.hid (below_setRow B0.out (g := w.heap.size + 1) (by omega) x.cells.toArray)
        have HK := Lib.hid (setRow_heap wr (w.heap.size + 1) _ x.cells.toArray _ _ B2.out)
        clear hp
        go_wp2_with (first | (refine Row.wpList_load_g 93 _ rfl (by first | rfl | go_simp) (y.add (j * 4)) rfl x.cells _ HC.out Try.underlying93 rfl infoS ?_) | (refine wpList_store_row rfl 93 _ _ rfl (w.heap.size + 1) x.cells.toArray rfl rfl 93 _ B2.out infoS rfl (Spt.one _) ?_))
        generalize wr.setRow (w.heap.size + 1) x.cells.toArray = w5 at HG HK ⊢
        go_wp2_with fail
        (try simp only [Exit.inBlock, Exit.then])
        refine bodyPost_ret (v := .tuple #[.agg x.cells.toArray, .bool true]) ?_ rfl ⟨?_, HG.out⟩
        · exact results_row_tmp (fn := Try.f58) (p := 4) (u := 5) (ty := 93) rfl _ _ (w.heap.size + 1) 93 _ (0, 0) _ rfl HK.out Try.underlying93 rfl infoS
        · rw [HF.out]; rfl
      · have HN : Hid (∀ y ∈ S.take (j + 1), y.p ≠ p) := Lib.hid (by
          intro y hy
          rw [take_succ HV.out] at hy
          rcases List.mem_append.1 hy with hy | hy
          · exact Hall.out y hy
          · obtain rfl : y = x := by simpa using hy
            exact hp)
        have hb : (x.p == p) = false := by simpa using hp
        clear hp
        go_wp2
        go_roundw
        case rel => exact ⟨j + 1, by omega, by go_num, HN.out, trivial⟩
        case measure => simp [intOf]; omega
    · have HF : Hid (o = none) := Lib.hid (by
        rw [W0.out]; refine find_none ?_
        have := Hall.out
        rwa [List.take_of_length_le (by omega)] at this)
      have HG := Lib.hid (below_setRow B0.out (g := w.heap.size + 1) (by omega) #[I 0, I 0, I 0, I 0])
      have HK := Lib.hid (setRow_heap wr (w.heap.size + 1) _ #[I 0, I 0, I 0, I 0] _ _ B2.out)
      go_wp2_with (first | (refine wpList_store_row rfl 93 _ _ rfl (w.heap.size + 1) #[I 0, I 0, I 0, I 0] rfl rfl 93 _ B2.out infoS rfl (by simp [Value.oneCell']) ?_))
      generalize wr.setRow (w.heap.size + 1) #[I 0, I 0, I 0, I 0] = w5 at HG HK ⊢
      go_wp2_with fail
      (try simp only [Exit.inBlock, Exit.then])
      refine bodyPost_ret (v := .tuple #[.agg #[I 0, I 0, I 0, I 0], .bool false]) ?_ rfl ⟨?_, HG.out⟩
      · exact results_row_tmp (fn := Try.f58) (p := 4) (u := 5) (ty := 93) rfl _ _ (w.heap.size + 1) 93 _ (0, 0) _ rfl HK.out Try.underlying93 rfl infoS
      · rw [HF.out]; rfl
theorem lies4 {w : World} {b : Nat} {g k i p : Int} {t : TypeId} (h : w.heap[b]? = some (.cells #[I g, I k, I i, I p] t (0, 0))) : w.cell? ⟨b, 0, none⟩ = some (I g) ∧ w.cell? ⟨b, 1, none⟩ = some (I k) := ⟨by rw [cell_of_row _ _ _ _ _ _ h]; rfl, by rw [cell_of_row _ _ _ _ _ _ h]; rfl⟩
set_option maxRecDepth 100000 in
set_option maxHeartbeats 4000000 in
theorem beside_raw (c : List Value) (p q g1 k1 i1 p1 g2 k2 i2 p2 : Int) (ok1 ok2 : Bool) (w : World) (hc : c.length = 131) (hone : c.toArray.all (·.oneCell') = true)
    (V1 : Hid (∀ W, Below w.heap.size w W → Calls Try.prog 58 #[.agg c.toArray, .int .i64 p] W fun e w' => e = .returned (.tuple #[.agg #[I g1, I k1, I i1, I p1], .bool ok1]) ∧ Below W.heap.size W w'))
    (V2 : Hid (∀ W, Below w.heap.size w W → Calls Try.prog 58 #[.agg c.toArray, .int .i64 q] W fun e w' => e = .returned (.tuple #[.agg #[I g2, I k2, I i2, I p2], .bool ok2]) ∧ Below W.heap.size W w')) :
    Calls Try.prog 32 #[.agg c.toArray, .int .i64 p, .int .i64 q] w fun e w' => e = .returned (.bool (ok1 && ok2 && g1 == g2 && k1 != k2)) ∧ Below w.heap.size w w' := by
  have hsz : c.toArray.size = 131 := by simpa using hc
  have IA : Hid ((Try.prog.info? 45).map (·.size) = some c.length) := Lib.hid (by rw [hc]; exact infoT)
  have A0 : Hid (Below w.heap.size w (w.alloc (.cells c.toArray 45))) := Lib.hid ((Below.refl _ _).alloc (Nat.le_refl _) _)
  have A1 : Hid (Lies (w.alloc (.cells c.toArray 45)) ⟨w.heap.size, 0, none⟩ c) := Lib.hid (Row.lies_new w _ _)
  generalize hr : (ok1 && ok2 && g1 == g2 && k1 != k2) = r
  have HR := Lib.hid hr
  clear hr hc hone
  go_enter Try.func32, Try.ntmps32
  go_upto_region 1 with fail
  generalize w.alloc (.cells c.toArray 45) = u at A0 A1 ⊢
  clear hsz
  go_wp2_with (refine Row.wpList_load_g 45 _ rfl (by first | rfl | go_simp) ⟨w.heap.size, 0, none⟩ rfl c _ A1.out Try.underlying45 rfl IA.out ?_)
  refine (V1.out _ A0.out).mono ?_
  rintro e u1 ⟨rfl, hb⟩
  have B0 : Hid (Below w.heap.size w u1) := Lib.hid (A0.out.trans (hb.mono A0.out.size))
  have B1 := Lib.hid (A1.out.below hb)
  clear hb A0 A1 V1
  go_upto_region 2 with (refine Row.wpList_store_new rfl 93 _ _ rfl u1 #[I 0, I 0, I 0, I 0] #[I g1, I k1, I i1, I p1] rfl rfl rfl infoS rfl (by simp [Value.oneCell']) ?_)
  have hb2 : Below u1.heap.size u1 (u1.alloc (.cells #[I g1, I k1, I i1, I p1] 93)) := (Below.refl _ _).alloc (Nat.le_refl _) _
  have hg1 := heap_alloc_new u1 (.cells #[I g1, I k1, I i1, I p1] 93)
  generalize u1.alloc (.cells #[I g1, I k1, I i1, I p1] 93) = u2 at hb2 hg1 ⊢
  generalize u1.heap.size = b1 at hg1 ⊢
  have A0 : Hid (Below w.heap.size w u2) := Lib.hid (B0.out.trans (hb2.mono B0.out.size))
  have A1 := Lib.hid (B1.out.below hb2)
  have G1 := Lib.hid hg1
  clear hb2 hg1 B0 B1
  go_wp2_with (refine Row.wpList_load_g 45 _ rfl (by first | rfl | go_simp) ⟨w.heap.size, 0, none⟩ rfl c _ A1.out Try.underlying45 rfl IA.out ?_)
  refine (V2.out _ A0.out).mono ?_
  rintro e u3 ⟨rfl, hb⟩
  have B0 : Hid (Below w.heap.size w u3) := Lib.hid (A0.out.trans (hb.mono A0.out.size))
  have G2 := Lib.hid ((hb.block _ (Array.getElem?_eq_some_iff.1 G1.out).1).trans G1.out)
  clear hb A0 A1 V2 G1
  go_upto_region 3 with (refine Row.wpList_store_new rfl 93 _ _ rfl u3 #[I 0, I 0, I 0, I 0] #[I g2, I k2, I i2, I p2] rfl rfl rfl infoS rfl (by simp [Value.oneCell']) ?_)
  have hb2 : Below u3.heap.size u3 (u3.alloc (.cells #[I g2, I k2, I i2, I p2] 93)) := (Below.refl _ _).alloc (Nat.le_refl _) _
  have hg2 := heap_alloc_new u3 (.cells #[I g2, I k2, I i2, I p2] 93)
  have hg1 := (hb2.block _ (Array.getElem?_eq_some_iff.1 G2.out).1).trans G2.out
  generalize u3.alloc (.cells #[I g2, I k2, I i2, I p2] 93) = u4 at hb2 hg1 hg2 ⊢
  generalize u3.heap.size = b2 at hg2 ⊢
  have HF : Hid (Below w.heap.size w u4) := Lib.hid (B0.out.trans (hb2.mono B0.out.size))
  obtain ⟨q0, q1⟩ := lies4 hg1
  obtain ⟨r0, r1⟩ := lies4 hg2
  clear hb2 hg1 hg2 B0 G2 IA
  cases ok1
  · go_wp2
    go_ret
    exact ⟨ret_bool (by rw [← HR.out]; simp), HF.out⟩
  cases ok2
  · go_wp2
    go_ret
    exact ⟨ret_bool (by rw [← HR.out]; simp), HF.out⟩
  by_cases hg : g1 = g2
  · have e1 : (g1 == g2) = true := by simpa using hg
    have E1 := Lib.hid e1
    clear hg
    go_wp2
    go_ret
    exact ⟨ret_bool (by rw [← HR.out, E1.out]; simp), HF.out⟩
  · have e1 : (g1 == g2) = false := by simpa using hg
    have E1 := Lib.hid e1
    clear hg
    go_wp2
    go_ret
    exact ⟨ret_bool (by rw [← HR.out, E1.out]; simp), HF.out⟩
theorem beside_any (T : Tab) (h : Hd) (p q : Int) (w : World) (ht : IsTab w h T) (sm : Few T) :
    Calls Try.prog 32 #[.agg (T.cells h).toArray, .int .i64 p, .int .i64 q] w fun e w' => e = .returned (.bool (beside T p q)) ∧ Below w.heap.size w w' := by
  have hsz := (cells_ok ht).size
  rw [List.size_toArray] at hsz
  have hone := (cells_ok ht).one
  have V : ∀ r W, Below w.heap.size w W → Calls Try.prog 58 #[.agg (T.cells h).toArray, .int .i64 r] W fun e w' => e = .returned (.tuple #[.agg (oCells (where_ T r)).toArray, .bool (where_ T r).isSome]) ∧ Below W.heap.size W w' := fun r W hb => where_any T h r W (ht.below hb) sm
  have V1 := V p
  have V2 := V q
  have hB : beside T p q = match where_ T p, where_ T q with
    | some a, some b => a.g == b.g && a.k != b.k
    | _, _ => false := rfl
  rw [hB]
  generalize where_ T p = o1 at V1 ⊢
  generalize where_ T q = o2 at V2 ⊢
  have e0 : ∀ a b : Nat, ((a : Int) == (b : Int)) = (a == b) := fun a b => by
    by_cases h : a = b
    · subst h; simp
    · rw [beq_eq_false_iff_ne.2 h, beq_eq_false_iff_ne.2 (by omega)]
  have e1 : ∀ a b : Nat, ((a : Int) != (b : Int)) = (a != b) := fun a b => by unfold bne; rw [e0]
  cases o1 with
  | none =>
    cases o2 with
    | none => exact beside_raw _ p q 0 0 0 0 0 0 0 0 false false w hsz hone (Lib.hid V1) (Lib.hid V2)
    | some b => exact beside_raw _ p q 0 0 0 0 b.g b.k b.i b.p false true w hsz hone (Lib.hid V1) (Lib.hid V2)
  | some a =>
    cases o2 with
    | none => exact beside_raw _ p q a.g a.k a.i a.p 0 0 0 0 true false w hsz hone (Lib.hid V1) (Lib.hid V2)
    | some b =>
      have := beside_raw _ p q a.g a.k a.i a.p b.g b.k b.i b.p true true w hsz hone (Lib.hid V1) (Lib.hid V2)
      rw [e0, e1] at this
      simpa using this
end Go.Proofs.Ytbpfknkbiaplpaa.Where
