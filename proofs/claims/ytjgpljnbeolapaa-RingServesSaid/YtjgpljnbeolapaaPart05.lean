/- 10 texts in one file, in build order. -/
import Derived.Test.YtjgpljnbeolapaaRows
import Derived.Test.YtjgpljnbeolapaaPart04
import Derived.Test.YtjgpljnbeolapaaPart01
import Derived.Test.YtjgpljnbeolapaaPart03
import Derived.Laws.ResultCell
import Derived.Laws.Rows
import Derived.Deep.Cut
import Derived.Test.YtjgpljnbeolapaaPart02
import Derived.Great.BuildSlice
import Derived.WalkKit
import Derived.Deep.CutRange
import Derived.StillTailTactics
set_option linter.unusedVariables false
set_option linter.unusedSimpArgs false
set_option linter.unusedSectionVars false
set_option maxHeartbeats 8000000
set_option maxRecDepth 100000
namespace Go.Proofs.Ytjgpljnbeolapaa
namespace Where
open Go.ChangeShapes Go.WideShapes Go.ChangeAt Go.RowKit
open Tab Clone PlaceM
open May (ret_bool chain infoP infoG infoD infoR infoB infoT St)
open Same (below_setRow)
theorem infoS : (Try.prog.info? 87).map (·.size) = some 4 := by kernel_rfl
theorem infoZ : (Try.prog.info? 87).map (fun i => (i.zero, i.size)) = some (some (.agg #[I 0, I 0, I 0, I 0]), 4) := by kernel_rfl
theorem results_row_tmp {P : Program} {fn : Func} {p u : Tmp} {ty : TypeId} (h : fn.results = #[.cell p ty, .tmp u]) (tmps : Array Value) (w : World) (g : Nat) (t : TypeId) (cs : Array Value) (fr : Nat × Nat) (d : TypeDesc)
    (hp : tmps.getD p undef = .pointer (some ⟨g, 0, none⟩)) (hg : w.heap[g]? = some (.cells cs t fr))
    (hu : P.underlying ty = some d) (hd : (match d with | .struct _ | .array _ _ => true | _ => false) = true) (hi : (P.info? ty).map (·.size) = some cs.size) :
    (results fn tmps).run P w = .ok (.tuple #[.agg cs, tmps.getD u undef]) w := by
  rw [results_cell_tmp h, hp]
  simp [asAddr, run_loadVar_row w g t ty cs fr d hg hu hd hi]
def oCells : Option Spt → List Value
  | some x => x.cells
  | none => [I 0, I 0, I 0, I 0]
theorem find_some {p : Int} {l : List Spt} {j : Nat} {x : Spt} (h : ∀ y ∈ l.take j, y.p ≠ p) (hx : l[j]? = some x) (hp : x.p = p) : find p l = some x := by
  have hj : j < l.length := (List.getElem?_eq_some_iff.1 hx).1
  have e : l = l.take j ++ x :: l.drop (j + 1) := by
    have h2 : l.drop j = x :: l.drop (j + 1) := by
      rw [List.drop_eq_getElem_cons hj]; congr 1; exact (List.getElem?_eq_some_iff.1 hx).2
    rw [← h2, List.take_append_drop]
  have h1 := find_none h
  unfold find at h1 ⊢
  rw [e, List.find?_append, h1]
  simp [hp]
theorem where_any (T : Tab) (h : Hd) (p : Int) (w : World) (ht : IsTab w h T) (sm : Few T) :
    Calls Try.prog 34 #[.agg (T.cells h).toArray, .int .i64 p] w fun e w' => e = .returned (.tuple #[.agg (oCells (where_ T p)).toArray, .bool (where_ T p).isSome]) ∧ Below w.heap.size w w' := by
  have hsz := (cells_ok ht).size
  have IA : Hid ((Try.prog.info? 32).map (·.size) = some (T.cells h).length) := Lib.hid (by rw [List.size_toArray] at hsz; rw [hsz]; exact infoT)
  have SPC : Hid (∀ W, Below w.heap.size w W → Calls Try.prog 61 #[.agg (T.cells h).toArray] W fun e w' => ∃ s : Sl, e = .returned (s.val (spots T).length) ∧ RowOf 4 Spt.cells w' s (spots T) ∧ Below W.heap.size W w') := Lib.hid (fun W hb => Spots.spots_any T h W (ht.below hb) sm)
  have A0 : Hid (Below w.heap.size w ((w.alloc (.cells (T.cells h).toArray 32)).alloc (.cells #[I 0, I 0, I 0, I 0] 87))) := Lib.hid (((Below.refl _ _).alloc (Nat.le_refl _) _).alloc (by simp) _)
  have A1 : Hid (Lies ((w.alloc (.cells (T.cells h).toArray 32)).alloc (.cells #[I 0, I 0, I 0, I 0] 87)) ⟨w.heap.size, 0, none⟩ (T.cells h)) := Lib.hid (Row.lies_of_block (heap_alloc2_old w _ _))
  have A2 : Hid (((w.alloc (.cells (T.cells h).toArray 32)).alloc (.cells #[I 0, I 0, I 0, I 0] 87)).heap[w.heap.size + 1]? = some (.cells #[I 0, I 0, I 0, I 0] 87 (0, 0))) := Lib.hid (heap_alloc2_new w _ _)
  have hz := (zero_of_info infoZ).1
  have W0 : Hid (where_ T p = find p (spots T)) := Lib.hid rfl
  generalize where_ T p = o at W0 ⊢
  clear ht sm
  generalize T.cells h = c at *
  go_enter Try.func34, Try.ntmps34
  go_upto_region 1 with fail
  generalize ((w.alloc (.cells c.toArray 32)).alloc (.cells #[I 0, I 0, I 0, I 0] 87)) = u at A0 A1 A2 ⊢
  clear hsz hz
  go_wp2_with (refine Row.wpList_load_g 32 _ rfl (by first | rfl | go_simp) ⟨w.heap.size, 0, none⟩ rfl c _ A1.out Try.underlying32 rfl IA.out ?_)
  refine (SPC.out _ A0.out).mono ?_
  rintro e u1 ⟨⟨sa, scap⟩, rfl, hrow, hb⟩
  rw [show (Sl.val ⟨sa, scap⟩ (spots T).length) = .slice sa (spots T).length scap from rfl]
  have B0 : Hid (Below w.heap.size w u1) := Lib.hid (A0.out.trans (hb.mono A0.out.size))
  have B2 : Hid (u1.heap[w.heap.size + 1]? = some (.cells #[I 0, I 0, I 0, I 0] 87 (0, 0))) := Lib.hid ((hb.block _ (Array.getElem?_eq_some_iff.1 A2.out).1).trans A2.out)
  have HR := Lib.hid hrow
  have K := hrow.len
  unfold maxLen at K
  clear hrow hb A0 A1 A2 SPC IA
  generalize spots T = S at HR K W0 ⊢
  go_wp2_with fail
  go_loopw [7] (fun i wr => ∃ j : Nat, j ≤ S.length ∧ i = .int .i64 j ∧ (∀ x ∈ S.take j, x.p ≠ p) ∧ wr = u1) (fun i _ => S.length - (intOf i).toNat)
  case atStart => exact ⟨0, by omega, rfl, (fun x hx => by simp at hx), rfl⟩
  case round =>
    obtain ⟨j, hj, rfl, hall, rfl⟩ := hrel
    have Hall := Lib.hid hall
    clear hall
    by_cases hlt : j < S.length
    · have hv := List.getElem?_eq_getElem hlt
      generalize S[j] = x at hv
      obtain ⟨y, hy, hc⟩ := HR.out.at hv
      obtain rfl : sa = some y := hy
      have HV := Lib.hid hv
      have HC := Lib.hid hc
      have c3 := hc 3 _ rfl
      have c3' : wr.cell? ⟨(y.add (j * 4)).block, (y.add (j * 4)).off + 3, none⟩ = some (I x.p) := by simpa [Addr.add] using c3
      clear hv hc c3
      by_cases hp : x.p = p
      · have HF : Hid (o = some x) := Lib.hid (by rw [W0.out]; exact find_some Hall.out HV.out hp)
        have hb : (x.p == p) = true := by simpa using hp
        have HG := Lib.hid (below_setRow B0.out (g := w.heap.size + 1) (by omega) x.cells.toArray)
        have HK := Lib.hid (setRow_heap wr (w.heap.size + 1) _ x.cells.toArray _ _ B2.out)
        clear hp
        go_wp2_with (first | (refine Row.wpList_load_g 87 _ rfl (by first | rfl | go_simp) (y.add (j * 4)) rfl x.cells _ HC.out Try.underlying87 rfl infoS ?_) | (refine wpList_store_row rfl 87 _ _ rfl (w.heap.size + 1) x.cells.toArray rfl rfl 87 _ B2.out infoS rfl (Spt.one _) ?_))
        generalize wr.setRow (w.heap.size + 1) x.cells.toArray = w5 at HG HK ⊢
        go_wp2_with fail
        (try simp only [Exit.inBlock, Exit.then])
        refine bodyPost_ret (v := .tuple #[.agg x.cells.toArray, .bool true]) ?_ rfl ⟨?_, HG.out⟩
        · exact results_row_tmp (fn := Try.f34) (p := 4) (u := 5) (ty := 87) rfl _ _ (w.heap.size + 1) 87 _ (0, 0) _ rfl HK.out Try.underlying87 rfl infoS
        · rw [HF.out]; rfl
      · have HN : Hid (∀ y ∈ S.take (j + 1), y.p ≠ p) := Lib.hid (by
          intro y hy
          rw [take_succ HV.out] at hy
          rcases List.mem_append.1 hy with hy | hy
          · exact Hall.out y hy
          · obtain rfl : y = x := by simpa using hy
            exact hp)
        have hb : (x.p == p) = false := by simpa using hp
        clear hp
        go_wp2
        go_roundw
        case rel => exact ⟨j + 1, by omega, by go_num, HN.out, trivial⟩
        case measure => simp [intOf]; omega
    · have HF : Hid (o = none) := Lib.hid (by
        rw [W0.out]; refine find_none ?_
        have := Hall.out
        rwa [List.take_of_length_le (by omega)] at this)
      have HG := Lib.hid (below_setRow B0.out (g := w.heap.size + 1) (by omega) #[I 0, I 0, I 0, I 0])
      have HK := Lib.hid (setRow_heap wr (w.heap.size + 1) _ #[I 0, I 0, I 0, I 0] _ _ B2.out)
      go_wp2_with (first | (refine wpList_store_row rfl 87 _ _ rfl (w.heap.size + 1) #[I 0, I 0, I 0, I 0] rfl rfl 87 _ B2.out infoS rfl (by simp [Value.oneCell']) ?_))
      generalize wr.setRow (w.heap.size + 1) #[I 0, I 0, I 0, I 0] = w5 at HG HK ⊢
      go_wp2_with fail
      (try simp only [Exit.inBlock, Exit.then])
      refine bodyPost_ret (v := .tuple #[.agg #[I 0, I 0, I 0, I 0], .bool false]) ?_ rfl ⟨?_, HG.out⟩
      · exact results_row_tmp (fn := Try.f34) (p := 4) (u := 5) (ty := 87) rfl _ _ (w.heap.size + 1) 87 _ (0, 0) _ rfl HK.out Try.underlying87 rfl infoS
      · rw [HF.out]; rfl
theorem lies4 {w : World} {b : Nat} {g k i p : Int} {t : TypeId} (h : w.heap[b]? = some (.cells #[I g, I k, I i, I p] t (0, 0))) : w.cell? ⟨b, 0, none⟩ = some (I g) ∧ w.cell? ⟨b, 1, none⟩ = some (I k) := ⟨by rw [cell_of_row _ _ _ _ _ _ h]; rfl, by rw [cell_of_row _ _ _ _ _ _ h]; rfl⟩
theorem beside_raw (c : List Value) (p q g1 k1 i1 p1 g2 k2 i2 p2 : Int) (ok1 ok2 : Bool) (w : World) (hc : c.length = 131) (hone : c.toArray.all (·.oneCell') = true)
    (V1 : Hid (∀ W, Below w.heap.size w W → Calls Try.prog 34 #[.agg c.toArray, .int .i64 p] W fun e w' => e = .returned (.tuple #[.agg #[I g1, I k1, I i1, I p1], .bool ok1]) ∧ Below W.heap.size W w'))
    (V2 : Hid (∀ W, Below w.heap.size w W → Calls Try.prog 34 #[.agg c.toArray, .int .i64 q] W fun e w' => e = .returned (.tuple #[.agg #[I g2, I k2, I i2, I p2], .bool ok2]) ∧ Below W.heap.size W w')) :
    Calls Try.prog 17 #[.agg c.toArray, .int .i64 p, .int .i64 q] w fun e w' => e = .returned (.bool (ok1 && ok2 && g1 == g2 && k1 != k2)) ∧ Below w.heap.size w w' := by
  have hsz : c.toArray.size = 131 := by simpa using hc
  have IA : Hid ((Try.prog.info? 32).map (·.size) = some c.length) := Lib.hid (by rw [hc]; exact infoT)
  have A0 : Hid (Below w.heap.size w (w.alloc (.cells c.toArray 32))) := Lib.hid ((Below.refl _ _).alloc (Nat.le_refl _) _)
  have A1 : Hid (Lies (w.alloc (.cells c.toArray 32)) ⟨w.heap.size, 0, none⟩ c) := Lib.hid (Row.lies_new w _ _)
  generalize hr : (ok1 && ok2 && g1 == g2 && k1 != k2) = r
  have HR := Lib.hid hr
  clear hr hc hone
  go_enter Try.func17, Try.ntmps17
  go_upto_region 1 with fail
  generalize w.alloc (.cells c.toArray 32) = u at A0 A1 ⊢
  clear hsz
  go_wp2_with (refine Row.wpList_load_g 32 _ rfl (by first | rfl | go_simp) ⟨w.heap.size, 0, none⟩ rfl c _ A1.out Try.underlying32 rfl IA.out ?_)
  refine (V1.out _ A0.out).mono ?_
  rintro e u1 ⟨rfl, hb⟩
  have B0 : Hid (Below w.heap.size w u1) := Lib.hid (A0.out.trans (hb.mono A0.out.size))
  have B1 := Lib.hid (A1.out.below hb)
  clear hb A0 A1 V1
  go_upto_region 2 with (refine Row.wpList_store_new rfl 87 _ _ rfl u1 #[I 0, I 0, I 0, I 0] #[I g1, I k1, I i1, I p1] rfl rfl rfl infoS rfl (by simp [Value.oneCell']) ?_)
  have hb2 : Below u1.heap.size u1 (u1.alloc (.cells #[I g1, I k1, I i1, I p1] 87)) := (Below.refl _ _).alloc (Nat.le_refl _) _
  have hg1 := heap_alloc_new u1 (.cells #[I g1, I k1, I i1, I p1] 87)
  generalize u1.alloc (.cells #[I g1, I k1, I i1, I p1] 87) = u2 at hb2 hg1 ⊢
  generalize u1.heap.size = b1 at hg1 ⊢
  have A0 : Hid (Below w.heap.size w u2) := Lib.hid (B0.out.trans (hb2.mono B0.out.size))
  have A1 := Lib.hid (B1.out.below hb2)
  have G1 := Lib.hid hg1
  clear hb2 hg1 B0 B1
  go_wp2_with (refine Row.wpList_load_g 32 _ rfl (by first | rfl | go_simp) ⟨w.heap.size, 0, none⟩ rfl c _ A1.out Try.underlying32 rfl IA.out ?_)
  refine (V2.out _ A0.out).mono ?_
  rintro e u3 ⟨rfl, hb⟩
  have B0 : Hid (Below w.heap.size w u3) := Lib.hid (A0.out.trans (hb.mono A0.out.size))
  have G2 := Lib.hid ((hb.block _ (Array.getElem?_eq_some_iff.1 G1.out).1).trans G1.out)
  clear hb A0 A1 V2 G1
  go_upto_region 3 with (refine Row.wpList_store_new rfl 87 _ _ rfl u3 #[I 0, I 0, I 0, I 0] #[I g2, I k2, I i2, I p2] rfl rfl rfl infoS rfl (by simp [Value.oneCell']) ?_)
  have hb2 : Below u3.heap.size u3 (u3.alloc (.cells #[I g2, I k2, I i2, I p2] 87)) := (Below.refl _ _).alloc (Nat.le_refl _) _
  have hg2 := heap_alloc_new u3 (.cells #[I g2, I k2, I i2, I p2] 87)
  have hg1 := (hb2.block _ (Array.getElem?_eq_some_iff.1 G2.out).1).trans G2.out
  generalize u3.alloc (.cells #[I g2, I k2, I i2, I p2] 87) = u4 at hb2 hg1 hg2 ⊢
  generalize u3.heap.size = b2 at hg2 ⊢
  have HF : Hid (Below w.heap.size w u4) := Lib.hid (B0.out.trans (hb2.mono B0.out.size))
  obtain ⟨q0, q1⟩ := lies4 hg1
  obtain ⟨r0, r1⟩ := lies4 hg2
  clear hb2 hg1 hg2 B0 G2 IA
  cases ok1
  · go_wp2
    go_ret
    exact ⟨ret_bool (by rw [← HR.out]; simp), HF.out⟩
  cases ok2
  · go_wp2
    go_ret
    exact ⟨ret_bool (by rw [← HR.out]; simp), HF.out⟩
  by_cases hg : g1 = g2
  · have e1 : (g1 == g2) = true := by simpa using hg
    have E1 := Lib.hid e1
    clear hg
    go_wp2
    go_ret
    exact ⟨ret_bool (by rw [← HR.out, E1.out]; simp), HF.out⟩
  · have e1 : (g1 == g2) = false := by simpa using hg
    have E1 := Lib.hid e1
    clear hg
    go_wp2
    go_ret
    exact ⟨ret_bool (by rw [← HR.out, E1.out]; simp), HF.out⟩
theorem beside_any (T : Tab) (h : Hd) (p q : Int) (w : World) (ht : IsTab w h T) (sm : Few T) :
    Calls Try.prog 17 #[.agg (T.cells h).toArray, .int .i64 p, .int .i64 q] w fun e w' => e = .returned (.bool (beside T p q)) ∧ Below w.heap.size w w' := by
  have hsz := (cells_ok ht).size
  rw [List.size_toArray] at hsz
  have hone := (cells_ok ht).one
  have V : ∀ r W, Below w.heap.size w W → Calls Try.prog 34 #[.agg (T.cells h).toArray, .int .i64 r] W fun e w' => e = .returned (.tuple #[.agg (oCells (where_ T r)).toArray, .bool (where_ T r).isSome]) ∧ Below W.heap.size W w' := fun r W hb => where_any T h r W (ht.below hb) sm
  have V1 := V p
  have V2 := V q
  have hB : beside T p q = match where_ T p, where_ T q with
    | some a, some b => a.g == b.g && a.k != b.k
    | _, _ => false := rfl
  rw [hB]
  generalize where_ T p = o1 at V1 ⊢
  generalize where_ T q = o2 at V2 ⊢
  have e0 : ∀ a b : Nat, ((a : Int) == (b : Int)) = (a == b) := fun a b => by
    by_cases h : a = b
    · subst h; simp
    · rw [beq_eq_false_iff_ne.2 h, beq_eq_false_iff_ne.2 (by omega)]
  have e1 : ∀ a b : Nat, ((a : Int) != (b : Int)) = (a != b) := fun a b => by unfold bne; rw [e0]
  cases o1 with
  | none =>
    cases o2 with
    | none => exact beside_raw _ p q 0 0 0 0 0 0 0 0 false false w hsz hone (Lib.hid V1) (Lib.hid V2)
    | some b => exact beside_raw _ p q 0 0 0 0 b.g b.k b.i b.p false true w hsz hone (Lib.hid V1) (Lib.hid V2)
  | some a =>
    cases o2 with
    | none => exact beside_raw _ p q a.g a.k a.i a.p 0 0 0 0 true false w hsz hone (Lib.hid V1) (Lib.hid V2)
    | some b =>
      have := beside_raw _ p q a.g a.k a.i a.p b.g b.k b.i b.p true true w hsz hone (Lib.hid V1) (Lib.hid V2)
      rw [e0, e1] at this
      simpa using this
end Where
namespace GenW
open Go.ChangeShapes Go.WideShapes Go.ChangeAt Go.RowKit
open Tab Clone RefS Where
open PlaceM (where_ beside)
open May (infoT)
def withS (T : Tab) (p q : Int) : Int := if beside T p q then ((SetM.withN (SetM.of [p] : Nat) q : Nat) : Int) else ((SetM.of [p] : Nat) : Int)
theorem row_one (w : World) (p : Int) (t : TypeId) (b : Nat) (hb : w.heap.size = b) : RefS.Row (w.alloc (.cells #[.int .i64 p] t)) (some ⟨b, 0, none⟩) [p] := by
  subst hb
  refine ⟨by simp [maxLen], .inr ⟨_, rfl, fun i hi => ?_⟩⟩
  obtain rfl : i = 0 := by simpa using hi
  rw [RefS.add_zero, cell_of_row _ _ _ _ _ _ (heap_alloc_new w _)]
  rfl
theorem with_any (T : Tab) (h : Hd) (p q : Int) (w : World) (ht : IsTab w h T) (sm : PlaceM.Few T) :
    Calls Try.prog 55 #[.agg (T.cells h).toArray, .int .i64 p, .int .i64 q] w fun e w' => e = .returned (.int .i64 (withS T p q)) ∧ Below w.heap.size w w' := by
  have hsz := (cells_ok ht).size
  have IA : Hid ((Try.prog.info? 32).map (·.size) = some (T.cells h).length) := Lib.hid (by rw [List.size_toArray] at hsz; rw [hsz]; exact infoT)
  have A0 : Hid (Below w.heap.size w (w.alloc (.cells (T.cells h).toArray 32))) := Lib.hid ((Below.refl _ _).alloc (Nat.le_refl _) _)
  have A1 : Hid (Lies (w.alloc (.cells (T.cells h).toArray 32)) ⟨w.heap.size, 0, none⟩ (T.cells h)) := Lib.hid (Row.lies_new w _ _)
  have BC : Hid (∀ W, Below w.heap.size w W → Calls Try.prog 17 #[.agg (T.cells h).toArray, .int .i64 p, .int .i64 q] W fun e w' => e = .returned (.bool (beside T p q)) ∧ Below W.heap.size W w') := Lib.hid (fun W hb => beside_any T h p q W (ht.below hb) sm)
  have RS : Hid (withS T p q = if beside T p q then ((SetM.withN (SetM.of [p] : Nat) q : Nat) : Int) else ((SetM.of [p] : Nat) : Int)) := Lib.hid rfl
  generalize withS T p q = r at RS ⊢
  generalize beside T p q = b at RS BC
  clear ht sm
  generalize T.cells h = c at *
  go_enter Try.func55, Try.ntmps55
  go_upto_region 1 with fail
  generalize w.alloc (.cells c.toArray 32) = u at A0 A1 ⊢
  clear hsz
  go_wp2_with fail
  have hb1 : Below u.heap.size u (u.alloc (.cells #[.int .i64 p] 3)) := (Below.refl _ _).alloc (Nat.le_refl _) _
  have hr := row_one u p 3 _ rfl
  have B0 : Hid (Below w.heap.size w (u.alloc (.cells #[.int .i64 p] 3))) := Lib.hid (A0.out.trans (hb1.mono A0.out.size))
  have B1 := Lib.hid (A1.out.below hb1)
  have HR := Lib.hid hr
  clear hb1 hr A0 A1
  generalize u.alloc (.cells #[.int .i64 p] 3) = u1 at B0 B1 HR ⊢
  refine (rof_any _ _ [p] _ HR.out).mono ?_
  rintro e w' ⟨rfl, rfl⟩
  generalize hs : ((SetM.of [p] : Nat) : Int) = s0 at RS ⊢
  have HS := Lib.hid hs
  clear hs HR
  go_wp2_with (refine Row.wpList_load_g 32 _ rfl (by first | rfl | go_simp) ⟨w.heap.size, 0, none⟩ rfl c _ B1.out Try.underlying32 rfl IA.out ?_)
  refine (BC.out _ B0.out).mono ?_
  rintro e u2 ⟨rfl, hb⟩
  have A0 : Hid (Below w.heap.size w u2) := Lib.hid (B0.out.trans (hb.mono B0.out.size))
  clear hb B0 B1 BC
  cases b
  · have HF : Hid (s0 = r) := Lib.hid (by rw [RS.out]; simp)
    go_wp2
    go_ret
    exact ⟨ret_int HF.out, A0.out⟩
  · go_wp2_with fail
    refine (rwith_any s0 q _).mono ?_
    rintro e u3 ⟨rfl, hb⟩
    have HF : Hid (((SetM.withN s0 q : Nat) : Int) = r) := Lib.hid (by rw [RS.out]; simp)
    have E := Lib.hid (A0.out.trans (hb.mono A0.out.size))
    clear hb
    generalize ((SetM.withN s0 q : Nat) : Int) = r2 at HF ⊢
    go_wp2
    go_ret
    exact ⟨ret_int HF.out, E.out⟩
end GenW
namespace CodeAt
open Go
def findR (id : Nat) : Code → Option Code
  | .region i ops d => if i = id then some (.region i ops d) else none
  | .seq a b => (findR id a).or (findR id b)
  | .cond _ a b => (findR id a).or (findR id b)
  | .block _ b => findR id b
  | .loop b => findR id b
  | .scope b => findR id b
  | _ => none
/-- Region number id of a function. -/
def rg (id : Nat) (f : Func) : Code := ((f.body.bind (findR id)).getD .skip)
end CodeAt
namespace Same
open Go.ChangeShapes Go.WideShapes Go.ChangeAt Go.RowKit
open Tab
open May (ret_bool chain take_succ' infoP infoG infoD infoR infoB infoT row_new St)
end Same
namespace Same
open Go.ChangeShapes Go.WideShapes Go.ChangeAt Go.RowKit
open Tab
open May (ret_bool chain take_succ' infoP infoG infoD infoR infoB infoT row_new St)
end Same
namespace Pw
open Go Go.RowKit
open Tab
structure W (P : Program) (ops : Array Oper) (D : Nat → World → Prop) (cs : List Nat) (Q : Act → Prop) (k : Nat) (l : List Oper) (a : Act) : Prop where
  out : Ph.wpPh P ops D cs Q k l a
section
variable {P : Program} {D : Nat → World → Prop} {ns : List Nat} {ops : Array Oper} {Q : Act → Prop} {k : Nat} {a : Act} {o : Oper} {rest : List Oper}
theorem region {id : Nat} {Q : Exit → Act → World → Prop} {a : Act} {w : World} {l : List Oper} (D : Nat → World → Prop) (cs : List Nat) (hm : P.follows .mixedOrders = true) (hB : Ph.okB .any l.toArray cs = true) (hD : D 0 w.drew)
    (h : W P l.toArray D cs (fun a' => ∀ w', D cs.length w' → Q .normal a' w') 0 l a) : (Code.region id l.toArray true).wp P Q a w := Ph.wp_region_ph D cs hm hB hD h.out
end
end Pw
namespace Same
open Go.ChangeShapes Go.WideShapes Go.ChangeAt Go.RowKit
open Tab Owned CodeAt
open May (ret_bool chain take_succ' infoP infoG infoD infoR infoB infoT row_new St)
theorem wp_store_whole {P : Program} {o : Oper} {a : Act} {w : World} {K : Act → World → Prop} {Q : Exit → Act → World → Prop} (ty : TypeId) (x y : Operand) (ho : o.op = .store ty x y) (g : Nat) (cells : Array Value) (hx : a.eval x = .pointer (some ⟨g, 0, none⟩)) (hy : a.eval y = .agg cells)
    (t : TypeId) (old : Array Value) (hg : w.heap[g]? = some (.cells old t (0, 0))) (hi : (P.info? ty).map (·.size) = some cells.size) (hs : old.size = cells.size) (h1 : cells.all (·.oneCell') = true) (hd : o.dst = none) (h : K a (w.setRow g cells)) : o.wp P a w K Q := by
  have hr := Row.run_storeAt_at (P := P) w g 0 t ty old cells hg hi (by omega) h1
  have e : (old.toList.take 0 ++ cells.toList ++ old.toList.drop (0 + cells.size)).toArray = cells := by
    rw [List.drop_of_length_le (by simp; omega)]; simp
  rw [e] at hr
  unfold Oper.wp execOp
  simp only [ho, hx, hy, Sem.run_bind, hr, Result.andThen_ok, Sem.run_pure]
  show K (a.put o.dst undef) _
  rw [hd]
  exact h
end Same
namespace GenR
open Go.ChangeShapes Go.WideShapes Go.ChangeAt Go.RowKit
open Tab Clone RefS CodeAt
open May (infoR infoT)
open Same (below_setRow)
open GenW Where
abbrev FromC (a : Option Addr) (cap : Nat) (L : List Int) (w : World) (i n x : Int) : Prop := ∀ W, Below w.heap.size w W → Calls Try.prog 27 #[.slice a L.length cap, .int .i64 i, .int .i64 n] W fun e w' => e = .returned (.int .i64 x) ∧ w' = W
theorem rail1_rg {Q : Exit → Act → World → Prop} (hP : ∀ c (a a' : Act) w, a.defers = a'.defers → Q (.panic c) a w → Q (.panic c) a' w) (T : Tab) (c : List Value) (a : Option Addr) (cap : Nat) (L : List Int) (i n x0 x1 x2 x3 : Int) (w u : World) (h0 : 0 ≤ i) (h1 : i ≤ 100000)
    (IA : Hid ((Try.prog.info? 32).map (·.size) = some c.length)) (HB : Hid (Below w.heap.size w u)) (HS : Hid (u.heap.size = w.heap.size + 2)) (LT : Hid (∀ w', Below u.heap.size u w' → Lies w' ⟨w.heap.size, 0, none⟩ c))
    (F0 : Hid (FromC a cap L w i n x0)) (F1 : Hid (FromC a cap L w (i + 1) n x1)) (F2 : Hid (FromC a cap L w (i + 2) n x2)) (F3 : Hid (FromC a cap L w (i + 3) n x3))
    (WC : Hid (∀ (p q : Int) W, Below w.heap.size w W → Calls Try.prog 55 #[.agg c.toArray, .int .i64 p, .int .i64 q] W fun e w' => e = .returned (.int .i64 (withS T p q)) ∧ Below W.heap.size W w')) (f0 f5 f6 f7 f8 f9 f10 f11 f12 f13 f14 f15 f16 f17 f18 f19 f20 f21 f22 f23 f24 f25 f26 f27 f28 f29 f30 f31 f32 f33 f34 f35 f36 f37 f38 f39 f40 f41 f42 f43 f44 f45 f46 f47 f48 f49 f50 f51 f52 f53 f54 f55 f56 f57 f58 f59 f60 f61 f62 f63 f64 f65 f66 f67 f68 f69 f70 f71 f72 f73 f74 f75 f76 f77 f78 f79 f80 f81 f82 f83 f84 f85 f86 f87 f88 f89 f90 f91 f92 f93 f94 f95 f96 f97 f98 f99 f100 f101 f102 f103 f104 f105 f106 f107 f108 f109 f110 f111 f112 f113 f114 f115 f116 f117 f118 : Value)
    (HQ : Hid (∀ (x_11 x_12 x_13 x_14 x_15 x_16 x_17 x_18 x_19 x_20 x_21 x_22 x_23 x_24 x_25 x_26 x_27 x_28 x_29 x_30 x_31 x_32 x_33 x_34 : Value) (b5 : Nat) (wx : World), w.heap.size + 1 < b5 → wx.heap[b5]? = some (.cells #[I 0, I 0, I (withS T x0 x1), I (withS T x2 x3), I 0, I 0, I 0, I 0, I 0, I 0, I 0] 76 (0, 0)) → Below u.heap.size u wx → Q .normal ⟨#[f0, .slice a L.length cap, .int .i64 i, .int .i64 n, .pointer (some ⟨w.heap.size, 0, none⟩), f5, f6, f7, f8, .pointer (some ⟨b5, 0, none⟩), f10, x_11, x_12, x_13, x_14, x_15, x_16, x_17, x_18, x_19, x_20, x_21, x_22, x_23, x_24, x_25, x_26, x_27, x_28, x_29, x_30, x_31, x_32, x_33, x_34, f35, f36, f37, f38, f39, f40, f41, f42, f43, f44, f45, f46, f47, f48, f49, f50, f51, f52, f53, f54, f55, f56, f57, f58, f59, f60, f61, f62, f63, f64, f65, f66, f67, f68, f69, f70, f71, f72, f73, f74, f75, f76, f77, f78, f79, f80, f81, f82, f83, f84, f85, f86, f87, f88, f89, f90, f91, f92, f93, f94, f95, f96, f97, f98, f99, f100, f101, f102, f103, f104, f105, f106, f107, f108, f109, f110, f111, f112, f113, f114, f115, f116, f117, f118], []⟩ wx)) :
    (rg 1 Try.f29).wp Try.prog Q ⟨#[f0, .slice a L.length cap, .int .i64 i, .int .i64 n, .pointer (some ⟨w.heap.size, 0, none⟩), f5, f6, f7, f8, f9, f10, f11, f12, f13, f14, f15, f16, f17, f18, f19, f20, f21, f22, f23, f24, f25, f26, f27, f28, f29, f30, f31, f32, f33, f34, f35, f36, f37, f38, f39, f40, f41, f42, f43, f44, f45, f46, f47, f48, f49, f50, f51, f52, f53, f54, f55, f56, f57, f58, f59, f60, f61, f62, f63, f64, f65, f66, f67, f68, f69, f70, f71, f72, f73, f74, f75, f76, f77, f78, f79, f80, f81, f82, f83, f84, f85, f86, f87, f88, f89, f90, f91, f92, f93, f94, f95, f96, f97, f98, f99, f100, f101, f102, f103, f104, f105, f106, f107, f108, f109, f110, f111, f112, f113, f114, f115, f116, f117, f118], []⟩ u := by
  conv => arg 2; whnf
  have e1 : IntKind.i64.wrap (i + 1) = i + 1 := by rw [IntKind.wrap_i64]; omega
  have e2 : IntKind.i64.wrap (i + 2) = i + 2 := by rw [IntKind.wrap_i64]; omega
  have e3 : IntKind.i64.wrap (i + 3) = i + 3 := by rw [IntKind.wrap_i64]; omega
  refine wp_region_held (S := fun w' => Below u.heap.size u w') (by kernel_rfl) ?_
  have hS : Below u.heap.size u { u with drawn := u.drawn + 1 } := (Below.refl _ _).drew
  generalize ({ u with drawn := u.drawn + 1 } : World) = v at hS ⊢
  refine Held.take_load (i := 0) (some 11) rfl 32 _ ⟨w.heap.size, 0, none⟩ c _ rfl rfl (by kernel_rfl) (by kernel_rfl) (by kernel_rfl) (fun c a w h => hP c _ a w (by rfl) h) (by rfl) hS rfl (LT.out) Try.underlying32 rfl IA.out ?_
  (try dsimp only [Act.put]); (try simp only [List.setIfInBounds_toArray, List.set_cons_zero, List.set_cons_succ])
  refine Held.take (i := 1) (some 12) rfl (v := ?_) rfl (by kernel_rfl) (by kernel_rfl) (by kernel_rfl) (fun c a w h => hP c _ a w (by rfl) h) (Or.inl ⟨by rfl, ?_⟩) hS ?_
  rotate_left
  · intro w' hw'
    go_simp
    try with_reducible rfl
  (try dsimp only [Act.put]); (try simp only [List.setIfInBounds_toArray, List.set_cons_zero, List.set_cons_succ])
  refine Held.take (i := 2) (some 13) rfl (v := ?_) rfl (by kernel_rfl) (by kernel_rfl) (by kernel_rfl) (fun c a w h => hP c _ a w (by rfl) h) (Or.inl ⟨by rfl, ?_⟩) hS ?_
  rotate_left
  · intro w' hw'
    go_simp
    try with_reducible rfl
  (try dsimp only [Act.put]); (try simp only [List.setIfInBounds_toArray, List.set_cons_zero, List.set_cons_succ])
  refine Held.take (i := 3) (some 14) rfl (v := ?_) rfl (by kernel_rfl) (by kernel_rfl) (by kernel_rfl) (fun c a w h => hP c _ a w (by rfl) h) (Or.inl ⟨by rfl, ?_⟩) hS ?_
  rotate_left
  · intro w' hw'
    go_simp
    try with_reducible rfl
  (try dsimp only [Act.put]); (try simp only [List.setIfInBounds_toArray, List.set_cons_zero, List.set_cons_succ])
  refine Held.take (i := 5) (some 16) rfl (v := ?_) rfl (by kernel_rfl) (by kernel_rfl) (by kernel_rfl) (fun c a w h => hP c _ a w (by rfl) h) (Or.inl ⟨by rfl, ?_⟩) hS ?_
  rotate_left
  · intro w' hw'
    go_simp
    try with_reducible rfl
  (try dsimp only [Act.put]); (try simp only [List.setIfInBounds_toArray, List.set_cons_zero, List.set_cons_succ])
  refine Held.take (i := 6) (some 17) rfl (v := ?_) rfl (by kernel_rfl) (by kernel_rfl) (by kernel_rfl) (fun c a w h => hP c _ a w (by rfl) h) (Or.inl ⟨by rfl, ?_⟩) hS ?_
  rotate_left
  · intro w' hw'
    go_simp
    try with_reducible rfl
  (try dsimp only [Act.put]); (try simp only [List.setIfInBounds_toArray, List.set_cons_zero, List.set_cons_succ])
  refine Held.take (i := 7) (some 18) rfl (v := ?_) rfl (by kernel_rfl) (by kernel_rfl) (by kernel_rfl) (fun c a w h => hP c _ a w (by rfl) h) (Or.inl ⟨by rfl, ?_⟩) hS ?_
  rotate_left
  · intro w' hw'
    go_simp
    try with_reducible rfl
  (try dsimp only [Act.put]); (try simp only [List.setIfInBounds_toArray, List.set_cons_zero, List.set_cons_succ])
  refine Held.take (i := 8) (some 19) rfl (v := ?_) rfl (by kernel_rfl) (by kernel_rfl) (by kernel_rfl) (fun c a w h => hP c _ a w (by rfl) h) (Or.inl ⟨by rfl, ?_⟩) hS ?_
  rotate_left
  · intro w' hw'
    go_simp
    try with_reducible rfl
  (try dsimp only [Act.put]); (try simp only [List.setIfInBounds_toArray, List.set_cons_zero, List.set_cons_succ])
  refine Held.take_load (i := 11) (some 22) rfl 32 _ ⟨w.heap.size, 0, none⟩ c _ rfl rfl (by kernel_rfl) (by kernel_rfl) (by kernel_rfl) (fun c a w h => hP c _ a w (by rfl) h) (by rfl) hS rfl (LT.out) Try.underlying32 rfl IA.out ?_
  (try dsimp only [Act.put]); (try simp only [List.setIfInBounds_toArray, List.set_cons_zero, List.set_cons_succ])
  refine Held.take (i := 12) (some 23) rfl (v := ?_) rfl (by kernel_rfl) (by kernel_rfl) (by kernel_rfl) (fun c a w h => hP c _ a w (by rfl) h) (Or.inl ⟨by rfl, ?_⟩) hS ?_
  rotate_left
  · intro w' hw'
    go_simp
    try with_reducible rfl
  (try dsimp only [Act.put]); (try simp only [List.setIfInBounds_toArray, List.set_cons_zero, List.set_cons_succ])
  refine Held.take (i := 13) (some 24) rfl (v := ?_) rfl (by kernel_rfl) (by kernel_rfl) (by kernel_rfl) (fun c a w h => hP c _ a w (by rfl) h) (Or.inl ⟨by rfl, ?_⟩) hS ?_
  rotate_left
  · intro w' hw'
    go_simp
    try with_reducible rfl
  (try dsimp only [Act.put]); (try simp only [List.setIfInBounds_toArray, List.set_cons_zero, List.set_cons_succ])
  refine Held.take (i := 14) (some 25) rfl (v := ?_) rfl (by kernel_rfl) (by kernel_rfl) (by kernel_rfl) (fun c a w h => hP c _ a w (by rfl) h) (Or.inl ⟨by rfl, ?_⟩) hS ?_
  rotate_left
  · intro w' hw'
    go_simp
    try with_reducible rfl
  (try dsimp only [Act.put]); (try simp only [List.setIfInBounds_toArray, List.set_cons_zero, List.set_cons_succ])
  refine Held.take (i := 15) (some 26) rfl (v := ?_) rfl (by kernel_rfl) (by kernel_rfl) (by kernel_rfl) (fun c a w h => hP c _ a w (by rfl) h) (Or.inl ⟨by rfl, ?_⟩) hS ?_
  rotate_left
  · intro w' hw'
    go_simp
    try with_reducible rfl
  (try dsimp only [Act.put]); (try simp only [List.setIfInBounds_toArray, List.set_cons_zero, List.set_cons_succ])
  refine Held.take (i := 17) (some 28) rfl (v := ?_) rfl (by kernel_rfl) (by kernel_rfl) (by kernel_rfl) (fun c a w h => hP c _ a w (by rfl) h) (Or.inl ⟨by rfl, ?_⟩) hS ?_
  rotate_left
  · intro w' hw'
    go_simp
    try with_reducible rfl
  (try dsimp only [Act.put]); (try simp only [List.setIfInBounds_toArray, List.set_cons_zero, List.set_cons_succ])
  refine Held.take (i := 18) (some 29) rfl (v := ?_) rfl (by kernel_rfl) (by kernel_rfl) (by kernel_rfl) (fun c a w h => hP c _ a w (by rfl) h) (Or.inl ⟨by rfl, ?_⟩) hS ?_
  rotate_left
  · intro w' hw'
    go_simp
    try with_reducible rfl
  (try dsimp only [Act.put]); (try simp only [List.setIfInBounds_toArray, List.set_cons_zero, List.set_cons_succ])
  refine Held.take (i := 19) (some 30) rfl (v := ?_) rfl (by kernel_rfl) (by kernel_rfl) (by kernel_rfl) (fun c a w h => hP c _ a w (by rfl) h) (Or.inl ⟨by rfl, ?_⟩) hS ?_
  rotate_left
  · intro w' hw'
    go_simp
    try with_reducible rfl
  (try dsimp only [Act.put]); (try simp only [List.setIfInBounds_toArray, List.set_cons_zero, List.set_cons_succ])
  refine Held.take (i := 20) (some 31) rfl (v := ?_) rfl (by kernel_rfl) (by kernel_rfl) (by kernel_rfl) (fun c a w h => hP c _ a w (by rfl) h) (Or.inl ⟨by rfl, ?_⟩) hS ?_
  rotate_left
  · intro w' hw'
    go_simp
    try with_reducible rfl
  (try dsimp only [Act.put]); (try simp only [List.setIfInBounds_toArray, List.set_cons_zero, List.set_cons_succ])
  refine wpAnyH_ready (rs := [4, 24]) (by kernel_rfl) (by simp) (AllReadyH.cons rfl (fun K hK => ?_) (AllReadyH.cons rfl (fun K hK => ?_) AllReadyH.nil))
  · go_simp
    refine (F0.out _ (HB.out.trans (hS.mono HB.out.size))).mono ?_
    rintro e w' ⟨rfl, hq⟩
    subst w'
    go_simp
    refine hK.out _ _ hS (fun hS => ?_)
    clear hK K
    refine wpAnyH_ready (rs := [9, 24]) (by kernel_rfl) (by simp) (AllReadyH.cons rfl (fun K hK => ?_) (AllReadyH.cons rfl (fun K hK => ?_) AllReadyH.nil))
    · go_simp
      refine (F1.out _ (HB.out.trans (hS.mono HB.out.size))).mono ?_
      rintro e w' ⟨rfl, hq⟩
      subst w'
      go_simp
      refine hK.out _ _ hS (fun hS => ?_)
      clear hK K
      refine wpAnyH_ready (rs := [10, 24]) (by kernel_rfl) (by simp) (AllReadyH.cons rfl (fun K hK => ?_) (AllReadyH.cons rfl (fun K hK => ?_) AllReadyH.nil))
      · go_simp
        refine (WC.out x0 x1 _ (HB.out.trans (hS.mono HB.out.size))).mono ?_
        rintro e v ⟨rfl, hb⟩
        go_simp
        refine hK.out _ _ (Below.trans hS (hb.mono hS.size)) (fun hS => ?_)
        clear hK K hb
        refine wpAnyH_ready (rs := [16, 24]) (by kernel_rfl) (by simp) (AllReadyH.cons rfl (fun K hK => ?_) (AllReadyH.cons rfl (fun K hK => ?_) AllReadyH.nil))
        · go_simp
          refine (F2.out _ (HB.out.trans (hS.mono HB.out.size))).mono ?_
          rintro e w' ⟨rfl, hq⟩
          subst w'
          go_simp
          refine hK.out _ _ hS (fun hS => ?_)
          clear hK K
          refine wpAnyH_ready (rs := [21, 24]) (by kernel_rfl) (by simp) (AllReadyH.cons rfl (fun K hK => ?_) (AllReadyH.cons rfl (fun K hK => ?_) AllReadyH.nil))
          · go_simp
            refine (F3.out _ (HB.out.trans (hS.mono HB.out.size))).mono ?_
            rintro e w' ⟨rfl, hq⟩
            subst w'
            go_simp
            refine hK.out _ _ hS (fun hS => ?_)
            clear hK K
            refine wpAnyH_ready (rs := [22, 24]) (by kernel_rfl) (by simp) (AllReadyH.cons rfl (fun K hK => ?_) (AllReadyH.cons rfl (fun K hK => ?_) AllReadyH.nil))
            · go_simp
              refine (WC.out x2 x3 _ (HB.out.trans (hS.mono HB.out.size))).mono ?_
              rintro e v ⟨rfl, hb⟩
              go_simp
              refine hK.out _ _ (Below.trans hS (hb.mono hS.size)) (fun hS => ?_)
              clear hK K hb
              refine Held.take (i := 23) (some 34) rfl (v := ?_) rfl (by kernel_rfl) (by kernel_rfl) (by kernel_rfl) (fun c a w h => hP c _ a w (by rfl) h) (Or.inl ⟨by rfl, ?_⟩) hS ?_
              rotate_left
              · intro w' hw'
                go_simp
                try with_reducible rfl
              (try dsimp only [Act.put]); (try simp only [List.setIfInBounds_toArray, List.set_cons_zero, List.set_cons_succ])
              refine wpAnyH_ready (rs := [24]) (by kernel_rfl) (by simp) (AllReadyH.cons rfl (fun K hK => ?_) AllReadyH.nil)
              go_simp
              have g5 := heap_alloc_new v (.cells #[I 0, I 0, I 0, I 0, I 0, I 0, I 0, I 0, I 0, I 0, I 0] 76)
              have b5lt : w.heap.size + 1 < v.heap.size := by have := HS.out; have := hS.size; omega
              have b5u : u.heap.size ≤ v.heap.size := hS.size
              refine hK.out _ _ (hS.alloc hS.size _) (fun hS => ?_)
              clear hK K
              generalize v.heap.size = b5 at g5 b5lt b5u ⊢
              generalize World.alloc v _ = v at g5 hS ⊢
              have G5 := Lib.hid g5
              clear g5
              refine wpAnyH_ready (rs := [25]) (by kernel_rfl) (by simp) (AllReadyH.cons rfl (fun K hK => ?_) AllReadyH.nil)
              rw [if_pos (by rfl)]
              refine Same.wp_store_whole 76 _ _ rfl b5 #[I 0, I 0, I (withS T x0 x1), I (withS T x2 x3), I 0, I 0, I 0, I 0, I 0, I 0, I 0] rfl rfl 76 _ G5.out infoR rfl (by simp [Value.oneCell']) rfl ?_
              have hS2 := below_setRow hS (g := b5) (by omega) #[I 0, I 0, I (withS T x0 x1), I (withS T x2 x3), I 0, I 0, I 0, I 0, I 0, I 0, I 0]
              have g5 := setRow_heap v b5 _ #[I 0, I 0, I (withS T x0 x1), I (withS T x2 x3), I 0, I 0, I 0, I 0, I 0, I 0, I 0] _ _ G5.out
              clear G5 hS
              generalize v.setRow _ _ = v at hS2 g5 ⊢
              refine hK.out _ _ hS2 (fun hS => ?_)
              clear hK K hS2
              refine wpAnyH_done (by kernel_rfl) ?_ _
              exact HQ.out _ _ _ _ _ _ _ _ _ _ _ _ _ _ _ _ _ _ _ _ _ _ _ _ b5 _ b5lt g5 hS
            · go_simp
              have g5 := heap_alloc_new v (.cells #[I 0, I 0, I 0, I 0, I 0, I 0, I 0, I 0, I 0, I 0, I 0] 76)
              have b5lt : w.heap.size + 1 < v.heap.size := by have := HS.out; have := hS.size; omega
              have b5u : u.heap.size ≤ v.heap.size := hS.size
              refine hK.out _ _ (hS.alloc hS.size _) (fun hS => ?_)
              clear hK K
              generalize v.heap.size = b5 at g5 b5lt b5u ⊢
              generalize World.alloc v _ = v at g5 hS ⊢
              have G5 := Lib.hid g5
              clear g5
              refine wpAnyH_ready (rs := [22]) (by kernel_rfl) (by simp) (AllReadyH.cons rfl (fun K hK => ?_) AllReadyH.nil)
              go_simp
              refine (WC.out x2 x3 _ (HB.out.trans (hS.mono HB.out.size))).mono ?_
              rintro e v ⟨rfl, hb⟩
              go_simp
              have G5b := Lib.hid ((hb.block _ (Array.getElem?_eq_some_iff.1 G5.out).1).trans G5.out)
              clear G5
              have G5 := G5b
              clear G5b
              refine hK.out _ _ (Below.trans hS (hb.mono hS.size)) (fun hS => ?_)
              clear hK K hb
              refine Held.take (i := 23) (some 34) rfl (v := ?_) rfl (by kernel_rfl) (by kernel_rfl) (by kernel_rfl) (fun c a w h => hP c _ a w (by rfl) h) (Or.inl ⟨by rfl, ?_⟩) hS ?_
              rotate_left
              · intro w' hw'
                go_simp
                try with_reducible rfl
              (try dsimp only [Act.put]); (try simp only [List.setIfInBounds_toArray, List.set_cons_zero, List.set_cons_succ])
              refine wpAnyH_ready (rs := [25]) (by kernel_rfl) (by simp) (AllReadyH.cons rfl (fun K hK => ?_) AllReadyH.nil)
              rw [if_pos (by rfl)]
              refine Same.wp_store_whole 76 _ _ rfl b5 #[I 0, I 0, I (withS T x0 x1), I (withS T x2 x3), I 0, I 0, I 0, I 0, I 0, I 0, I 0] rfl rfl 76 _ G5.out infoR rfl (by simp [Value.oneCell']) rfl ?_
              have hS2 := below_setRow hS (g := b5) (by omega) #[I 0, I 0, I (withS T x0 x1), I (withS T x2 x3), I 0, I 0, I 0, I 0, I 0, I 0, I 0]
              have g5 := setRow_heap v b5 _ #[I 0, I 0, I (withS T x0 x1), I (withS T x2 x3), I 0, I 0, I 0, I 0, I 0, I 0, I 0] _ _ G5.out
              clear G5 hS
              generalize v.setRow _ _ = v at hS2 g5 ⊢
              refine hK.out _ _ hS2 (fun hS => ?_)
              clear hK K hS2
              refine wpAnyH_done (by kernel_rfl) ?_ _
              exact HQ.out _ _ _ _ _ _ _ _ _ _ _ _ _ _ _ _ _ _ _ _ _ _ _ _ b5 _ b5lt g5 hS
          · go_simp
            have g5 := heap_alloc_new v (.cells #[I 0, I 0, I 0, I 0, I 0, I 0, I 0, I 0, I 0, I 0, I 0] 76)
            have b5lt : w.heap.size + 1 < v.heap.size := by have := HS.out; have := hS.size; omega
            have b5u : u.heap.size ≤ v.heap.size := hS.size
            refine hK.out _ _ (hS.alloc hS.size _) (fun hS => ?_)
            clear hK K
            generalize v.heap.size = b5 at g5 b5lt b5u ⊢
            generalize World.alloc v _ = v at g5 hS ⊢
            have G5 := Lib.hid g5
            clear g5
            refine wpAnyH_ready (rs := [21]) (by kernel_rfl) (by simp) (AllReadyH.cons rfl (fun K hK => ?_) AllReadyH.nil)
            go_simp
            refine (F3.out _ (HB.out.trans (hS.mono HB.out.size))).mono ?_
            rintro e w' ⟨rfl, hq⟩
            subst w'
            go_simp
            refine hK.out _ _ hS (fun hS => ?_)
            clear hK K
            refine wpAnyH_ready (rs := [22]) (by kernel_rfl) (by simp) (AllReadyH.cons rfl (fun K hK => ?_) AllReadyH.nil)
            go_simp
            refine (WC.out x2 x3 _ (HB.out.trans (hS.mono HB.out.size))).mono ?_
            rintro e v ⟨rfl, hb⟩
            go_simp
            have G5b := Lib.hid ((hb.block _ (Array.getElem?_eq_some_iff.1 G5.out).1).trans G5.out)
            clear G5
            have G5 := G5b
            clear G5b
            refine hK.out _ _ (Below.trans hS (hb.mono hS.size)) (fun hS => ?_)
            clear hK K hb
            refine Held.take (i := 23) (some 34) rfl (v := ?_) rfl (by kernel_rfl) (by kernel_rfl) (by kernel_rfl) (fun c a w h => hP c _ a w (by rfl) h) (Or.inl ⟨by rfl, ?_⟩) hS ?_
            rotate_left
            · intro w' hw'
              go_simp
              try with_reducible rfl
            (try dsimp only [Act.put]); (try simp only [List.setIfInBounds_toArray, List.set_cons_zero, List.set_cons_succ])
            refine wpAnyH_ready (rs := [25]) (by kernel_rfl) (by simp) (AllReadyH.cons rfl (fun K hK => ?_) AllReadyH.nil)
            rw [if_pos (by rfl)]
            refine Same.wp_store_whole 76 _ _ rfl b5 #[I 0, I 0, I (withS T x0 x1), I (withS T x2 x3), I 0, I 0, I 0, I 0, I 0, I 0, I 0] rfl rfl 76 _ G5.out infoR rfl (by simp [Value.oneCell']) rfl ?_
            have hS2 := below_setRow hS (g := b5) (by omega) #[I 0, I 0, I (withS T x0 x1), I (withS T x2 x3), I 0, I 0, I 0, I 0, I 0, I 0, I 0]
            have g5 := setRow_heap v b5 _ #[I 0, I 0, I (withS T x0 x1), I (withS T x2 x3), I 0, I 0, I 0, I 0, I 0, I 0, I 0] _ _ G5.out
            clear G5 hS
            generalize v.setRow _ _ = v at hS2 g5 ⊢
            refine hK.out _ _ hS2 (fun hS => ?_)
            clear hK K hS2
            refine wpAnyH_done (by kernel_rfl) ?_ _
            exact HQ.out _ _ _ _ _ _ _ _ _ _ _ _ _ _ _ _ _ _ _ _ _ _ _ _ b5 _ b5lt g5 hS
        · go_simp
          have g5 := heap_alloc_new v (.cells #[I 0, I 0, I 0, I 0, I 0, I 0, I 0, I 0, I 0, I 0, I 0] 76)
          have b5lt : w.heap.size + 1 < v.heap.size := by have := HS.out; have := hS.size; omega
          have b5u : u.heap.size ≤ v.heap.size := hS.size
          refine hK.out _ _ (hS.alloc hS.size _) (fun hS => ?_)
          clear hK K
          generalize v.heap.size = b5 at g5 b5lt b5u ⊢
          generalize World.alloc v _ = v at g5 hS ⊢
          have G5 := Lib.hid g5
          clear g5
          refine wpAnyH_ready (rs := [16]) (by kernel_rfl) (by simp) (AllReadyH.cons rfl (fun K hK => ?_) AllReadyH.nil)
          go_simp
          refine (F2.out _ (HB.out.trans (hS.mono HB.out.size))).mono ?_
          rintro e w' ⟨rfl, hq⟩
          subst w'
          go_simp
          refine hK.out _ _ hS (fun hS => ?_)
          clear hK K
          refine wpAnyH_ready (rs := [21]) (by kernel_rfl) (by simp) (AllReadyH.cons rfl (fun K hK => ?_) AllReadyH.nil)
          go_simp
          refine (F3.out _ (HB.out.trans (hS.mono HB.out.size))).mono ?_
          rintro e w' ⟨rfl, hq⟩
          subst w'
          go_simp
          refine hK.out _ _ hS (fun hS => ?_)
          clear hK K
          refine wpAnyH_ready (rs := [22]) (by kernel_rfl) (by simp) (AllReadyH.cons rfl (fun K hK => ?_) AllReadyH.nil)
          go_simp
          refine (WC.out x2 x3 _ (HB.out.trans (hS.mono HB.out.size))).mono ?_
          rintro e v ⟨rfl, hb⟩
          go_simp
          have G5b := Lib.hid ((hb.block _ (Array.getElem?_eq_some_iff.1 G5.out).1).trans G5.out)
          clear G5
          have G5 := G5b
          clear G5b
          refine hK.out _ _ (Below.trans hS (hb.mono hS.size)) (fun hS => ?_)
          clear hK K hb
          refine Held.take (i := 23) (some 34) rfl (v := ?_) rfl (by kernel_rfl) (by kernel_rfl) (by kernel_rfl) (fun c a w h => hP c _ a w (by rfl) h) (Or.inl ⟨by rfl, ?_⟩) hS ?_
          rotate_left
          · intro w' hw'
            go_simp
            try with_reducible rfl
          (try dsimp only [Act.put]); (try simp only [List.setIfInBounds_toArray, List.set_cons_zero, List.set_cons_succ])
          refine wpAnyH_ready (rs := [25]) (by kernel_rfl) (by simp) (AllReadyH.cons rfl (fun K hK => ?_) AllReadyH.nil)
          rw [if_pos (by rfl)]
          refine Same.wp_store_whole 76 _ _ rfl b5 #[I 0, I 0, I (withS T x0 x1), I (withS T x2 x3), I 0, I 0, I 0, I 0, I 0, I 0, I 0] rfl rfl 76 _ G5.out infoR rfl (by simp [Value.oneCell']) rfl ?_
          have hS2 := below_setRow hS (g := b5) (by omega) #[I 0, I 0, I (withS T x0 x1), I (withS T x2 x3), I 0, I 0, I 0, I 0, I 0, I 0, I 0]
          have g5 := setRow_heap v b5 _ #[I 0, I 0, I (withS T x0 x1), I (withS T x2 x3), I 0, I 0, I 0, I 0, I 0, I 0, I 0] _ _ G5.out
          clear G5 hS
          generalize v.setRow _ _ = v at hS2 g5 ⊢
          refine hK.out _ _ hS2 (fun hS => ?_)
          clear hK K hS2
          refine wpAnyH_done (by kernel_rfl) ?_ _
          exact HQ.out _ _ _ _ _ _ _ _ _ _ _ _ _ _ _ _ _ _ _ _ _ _ _ _ b5 _ b5lt g5 hS
      · go_simp
        have g5 := heap_alloc_new v (.cells #[I 0, I 0, I 0, I 0, I 0, I 0, I 0, I 0, I 0, I 0, I 0] 76)
        have b5lt : w.heap.size + 1 < v.heap.size := by have := HS.out; have := hS.size; omega
        have b5u : u.heap.size ≤ v.heap.size := hS.size
        refine hK.out _ _ (hS.alloc hS.size _) (fun hS => ?_)
        clear hK K
        generalize v.heap.size = b5 at g5 b5lt b5u ⊢
        generalize World.alloc v _ = v at g5 hS ⊢
        have G5 := Lib.hid g5
        clear g5
        refine wpAnyH_ready (rs := [10]) (by kernel_rfl) (by simp) (AllReadyH.cons rfl (fun K hK => ?_) AllReadyH.nil)
        go_simp
        refine (WC.out x0 x1 _ (HB.out.trans (hS.mono HB.out.size))).mono ?_
        rintro e v ⟨rfl, hb⟩
        go_simp
        have G5b := Lib.hid ((hb.block _ (Array.getElem?_eq_some_iff.1 G5.out).1).trans G5.out)
        clear G5
        have G5 := G5b
        clear G5b
        refine hK.out _ _ (Below.trans hS (hb.mono hS.size)) (fun hS => ?_)
        clear hK K hb
        refine wpAnyH_ready (rs := [16]) (by kernel_rfl) (by simp) (AllReadyH.cons rfl (fun K hK => ?_) AllReadyH.nil)
        go_simp
        refine (F2.out _ (HB.out.trans (hS.mono HB.out.size))).mono ?_
        rintro e w' ⟨rfl, hq⟩
        subst w'
        go_simp
        refine hK.out _ _ hS (fun hS => ?_)
        clear hK K
        refine wpAnyH_ready (rs := [21]) (by kernel_rfl) (by simp) (AllReadyH.cons rfl (fun K hK => ?_) AllReadyH.nil)
        go_simp
        refine (F3.out _ (HB.out.trans (hS.mono HB.out.size))).mono ?_
        rintro e w' ⟨rfl, hq⟩
        subst w'
        go_simp
        refine hK.out _ _ hS (fun hS => ?_)
        clear hK K
        refine wpAnyH_ready (rs := [22]) (by kernel_rfl) (by simp) (AllReadyH.cons rfl (fun K hK => ?_) AllReadyH.nil)
        go_simp
        refine (WC.out x2 x3 _ (HB.out.trans (hS.mono HB.out.size))).mono ?_
        rintro e v ⟨rfl, hb⟩
        go_simp
        have G5b := Lib.hid ((hb.block _ (Array.getElem?_eq_some_iff.1 G5.out).1).trans G5.out)
        clear G5
        have G5 := G5b
        clear G5b
        refine hK.out _ _ (Below.trans hS (hb.mono hS.size)) (fun hS => ?_)
        clear hK K hb
        refine Held.take (i := 23) (some 34) rfl (v := ?_) rfl (by kernel_rfl) (by kernel_rfl) (by kernel_rfl) (fun c a w h => hP c _ a w (by rfl) h) (Or.inl ⟨by rfl, ?_⟩) hS ?_
        rotate_left
        · intro w' hw'
          go_simp
          try with_reducible rfl
        (try dsimp only [Act.put]); (try simp only [List.setIfInBounds_toArray, List.set_cons_zero, List.set_cons_succ])
        refine wpAnyH_ready (rs := [25]) (by kernel_rfl) (by simp) (AllReadyH.cons rfl (fun K hK => ?_) AllReadyH.nil)
        rw [if_pos (by rfl)]
        refine Same.wp_store_whole 76 _ _ rfl b5 #[I 0, I 0, I (withS T x0 x1), I (withS T x2 x3), I 0, I 0, I 0, I 0, I 0, I 0, I 0] rfl rfl 76 _ G5.out infoR rfl (by simp [Value.oneCell']) rfl ?_
        have hS2 := below_setRow hS (g := b5) (by omega) #[I 0, I 0, I (withS T x0 x1), I (withS T x2 x3), I 0, I 0, I 0, I 0, I 0, I 0, I 0]
        have g5 := setRow_heap v b5 _ #[I 0, I 0, I (withS T x0 x1), I (withS T x2 x3), I 0, I 0, I 0, I 0, I 0, I 0, I 0] _ _ G5.out
        clear G5 hS
        generalize v.setRow _ _ = v at hS2 g5 ⊢
        refine hK.out _ _ hS2 (fun hS => ?_)
        clear hK K hS2
        refine wpAnyH_done (by kernel_rfl) ?_ _
        exact HQ.out _ _ _ _ _ _ _ _ _ _ _ _ _ _ _ _ _ _ _ _ _ _ _ _ b5 _ b5lt g5 hS
    · go_simp
      have g5 := heap_alloc_new v (.cells #[I 0, I 0, I 0, I 0, I 0, I 0, I 0, I 0, I 0, I 0, I 0] 76)
      have b5lt : w.heap.size + 1 < v.heap.size := by have := HS.out; have := hS.size; omega
      have b5u : u.heap.size ≤ v.heap.size := hS.size
      refine hK.out _ _ (hS.alloc hS.size _) (fun hS => ?_)
      clear hK K
      generalize v.heap.size = b5 at g5 b5lt b5u ⊢
      generalize World.alloc v _ = v at g5 hS ⊢
      have G5 := Lib.hid g5
      clear g5
      refine wpAnyH_ready (rs := [9]) (by kernel_rfl) (by simp) (AllReadyH.cons rfl (fun K hK => ?_) AllReadyH.nil)
      go_simp
      refine (F1.out _ (HB.out.trans (hS.mono HB.out.size))).mono ?_
      rintro e w' ⟨rfl, hq⟩
      subst w'
      go_simp
      refine hK.out _ _ hS (fun hS => ?_)
      clear hK K
      refine wpAnyH_ready (rs := [10]) (by kernel_rfl) (by simp) (AllReadyH.cons rfl (fun K hK => ?_) AllReadyH.nil)
      go_simp
      refine (WC.out x0 x1 _ (HB.out.trans (hS.mono HB.out.size))).mono ?_
      rintro e v ⟨rfl, hb⟩
      go_simp
      have G5b := Lib.hid ((hb.block _ (Array.getElem?_eq_some_iff.1 G5.out).1).trans G5.out)
      clear G5
      have G5 := G5b
      clear G5b
      refine hK.out _ _ (Below.trans hS (hb.mono hS.size)) (fun hS => ?_)
      clear hK K hb
      refine wpAnyH_ready (rs := [16]) (by kernel_rfl) (by simp) (AllReadyH.cons rfl (fun K hK => ?_) AllReadyH.nil)
      go_simp
      refine (F2.out _ (HB.out.trans (hS.mono HB.out.size))).mono ?_
      rintro e w' ⟨rfl, hq⟩
      subst w'
      go_simp
      refine hK.out _ _ hS (fun hS => ?_)
      clear hK K
      refine wpAnyH_ready (rs := [21]) (by kernel_rfl) (by simp) (AllReadyH.cons rfl (fun K hK => ?_) AllReadyH.nil)
      go_simp
      refine (F3.out _ (HB.out.trans (hS.mono HB.out.size))).mono ?_
      rintro e w' ⟨rfl, hq⟩
      subst w'
      go_simp
      refine hK.out _ _ hS (fun hS => ?_)
      clear hK K
      refine wpAnyH_ready (rs := [22]) (by kernel_rfl) (by simp) (AllReadyH.cons rfl (fun K hK => ?_) AllReadyH.nil)
      go_simp
      refine (WC.out x2 x3 _ (HB.out.trans (hS.mono HB.out.size))).mono ?_
      rintro e v ⟨rfl, hb⟩
      go_simp
      have G5b := Lib.hid ((hb.block _ (Array.getElem?_eq_some_iff.1 G5.out).1).trans G5.out)
      clear G5
      have G5 := G5b
      clear G5b
      refine hK.out _ _ (Below.trans hS (hb.mono hS.size)) (fun hS => ?_)
      clear hK K hb
      refine Held.take (i := 23) (some 34) rfl (v := ?_) rfl (by kernel_rfl) (by kernel_rfl) (by kernel_rfl) (fun c a w h => hP c _ a w (by rfl) h) (Or.inl ⟨by rfl, ?_⟩) hS ?_
      rotate_left
      · intro w' hw'
        go_simp
        try with_reducible rfl
      (try dsimp only [Act.put]); (try simp only [List.setIfInBounds_toArray, List.set_cons_zero, List.set_cons_succ])
      refine wpAnyH_ready (rs := [25]) (by kernel_rfl) (by simp) (AllReadyH.cons rfl (fun K hK => ?_) AllReadyH.nil)
      rw [if_pos (by rfl)]
      refine Same.wp_store_whole 76 _ _ rfl b5 #[I 0, I 0, I (withS T x0 x1), I (withS T x2 x3), I 0, I 0, I 0, I 0, I 0, I 0, I 0] rfl rfl 76 _ G5.out infoR rfl (by simp [Value.oneCell']) rfl ?_
      have hS2 := below_setRow hS (g := b5) (by omega) #[I 0, I 0, I (withS T x0 x1), I (withS T x2 x3), I 0, I 0, I 0, I 0, I 0, I 0, I 0]
      have g5 := setRow_heap v b5 _ #[I 0, I 0, I (withS T x0 x1), I (withS T x2 x3), I 0, I 0, I 0, I 0, I 0, I 0, I 0] _ _ G5.out
      clear G5 hS
      generalize v.setRow _ _ = v at hS2 g5 ⊢
      refine hK.out _ _ hS2 (fun hS => ?_)
      clear hK K hS2
      refine wpAnyH_done (by kernel_rfl) ?_ _
      exact HQ.out _ _ _ _ _ _ _ _ _ _ _ _ _ _ _ _ _ _ _ _ _ _ _ _ b5 _ b5lt g5 hS
  · go_simp
    have g5 := heap_alloc_new v (.cells #[I 0, I 0, I 0, I 0, I 0, I 0, I 0, I 0, I 0, I 0, I 0] 76)
    have b5lt : w.heap.size + 1 < v.heap.size := by have := HS.out; have := hS.size; omega
    have b5u : u.heap.size ≤ v.heap.size := hS.size
    refine hK.out _ _ (hS.alloc hS.size _) (fun hS => ?_)
    clear hK K
    generalize v.heap.size = b5 at g5 b5lt b5u ⊢
    generalize World.alloc v _ = v at g5 hS ⊢
    have G5 := Lib.hid g5
    clear g5
    refine wpAnyH_ready (rs := [4]) (by kernel_rfl) (by simp) (AllReadyH.cons rfl (fun K hK => ?_) AllReadyH.nil)
    go_simp
    refine (F0.out _ (HB.out.trans (hS.mono HB.out.size))).mono ?_
    rintro e w' ⟨rfl, hq⟩
    subst w'
    go_simp
    refine hK.out _ _ hS (fun hS => ?_)
    clear hK K
    refine wpAnyH_ready (rs := [9]) (by kernel_rfl) (by simp) (AllReadyH.cons rfl (fun K hK => ?_) AllReadyH.nil)
    go_simp
    refine (F1.out _ (HB.out.trans (hS.mono HB.out.size))).mono ?_
    rintro e w' ⟨rfl, hq⟩
    subst w'
    go_simp
    refine hK.out _ _ hS (fun hS => ?_)
    clear hK K
    refine wpAnyH_ready (rs := [10]) (by kernel_rfl) (by simp) (AllReadyH.cons rfl (fun K hK => ?_) AllReadyH.nil)
    go_simp
    refine (WC.out x0 x1 _ (HB.out.trans (hS.mono HB.out.size))).mono ?_
    rintro e v ⟨rfl, hb⟩
    go_simp
    have G5b := Lib.hid ((hb.block _ (Array.getElem?_eq_some_iff.1 G5.out).1).trans G5.out)
    clear G5
    have G5 := G5b
    clear G5b
    refine hK.out _ _ (Below.trans hS (hb.mono hS.size)) (fun hS => ?_)
    clear hK K hb
    refine wpAnyH_ready (rs := [16]) (by kernel_rfl) (by simp) (AllReadyH.cons rfl (fun K hK => ?_) AllReadyH.nil)
    go_simp
    refine (F2.out _ (HB.out.trans (hS.mono HB.out.size))).mono ?_
    rintro e w' ⟨rfl, hq⟩
    subst w'
    go_simp
    refine hK.out _ _ hS (fun hS => ?_)
    clear hK K
    refine wpAnyH_ready (rs := [21]) (by kernel_rfl) (by simp) (AllReadyH.cons rfl (fun K hK => ?_) AllReadyH.nil)
    go_simp
    refine (F3.out _ (HB.out.trans (hS.mono HB.out.size))).mono ?_
    rintro e w' ⟨rfl, hq⟩
    subst w'
    go_simp
    refine hK.out _ _ hS (fun hS => ?_)
    clear hK K
    refine wpAnyH_ready (rs := [22]) (by kernel_rfl) (by simp) (AllReadyH.cons rfl (fun K hK => ?_) AllReadyH.nil)
    go_simp
    refine (WC.out x2 x3 _ (HB.out.trans (hS.mono HB.out.size))).mono ?_
    rintro e v ⟨rfl, hb⟩
    go_simp
    have G5b := Lib.hid ((hb.block _ (Array.getElem?_eq_some_iff.1 G5.out).1).trans G5.out)
    clear G5
    have G5 := G5b
    clear G5b
    refine hK.out _ _ (Below.trans hS (hb.mono hS.size)) (fun hS => ?_)
    clear hK K hb
    refine Held.take (i := 23) (some 34) rfl (v := ?_) rfl (by kernel_rfl) (by kernel_rfl) (by kernel_rfl) (fun c a w h => hP c _ a w (by rfl) h) (Or.inl ⟨by rfl, ?_⟩) hS ?_
    rotate_left
    · intro w' hw'
      go_simp
      try with_reducible rfl
    (try dsimp only [Act.put]); (try simp only [List.setIfInBounds_toArray, List.set_cons_zero, List.set_cons_succ])
    refine wpAnyH_ready (rs := [25]) (by kernel_rfl) (by simp) (AllReadyH.cons rfl (fun K hK => ?_) AllReadyH.nil)
    rw [if_pos (by rfl)]
    refine Same.wp_store_whole 76 _ _ rfl b5 #[I 0, I 0, I (withS T x0 x1), I (withS T x2 x3), I 0, I 0, I 0, I 0, I 0, I 0, I 0] rfl rfl 76 _ G5.out infoR rfl (by simp [Value.oneCell']) rfl ?_
    have hS2 := below_setRow hS (g := b5) (by omega) #[I 0, I 0, I (withS T x0 x1), I (withS T x2 x3), I 0, I 0, I 0, I 0, I 0, I 0, I 0]
    have g5 := setRow_heap v b5 _ #[I 0, I 0, I (withS T x0 x1), I (withS T x2 x3), I 0, I 0, I 0, I 0, I 0, I 0, I 0] _ _ G5.out
    clear G5 hS
    generalize v.setRow _ _ = v at hS2 g5 ⊢
    refine hK.out _ _ hS2 (fun hS => ?_)
    clear hK K hS2
    refine wpAnyH_done (by kernel_rfl) ?_ _
    exact HQ.out _ _ _ _ _ _ _ _ _ _ _ _ _ _ _ _ _ _ _ _ _ _ _ _ b5 _ b5lt g5 hS
end GenR
namespace GenR
open Go.ChangeShapes Go.WideShapes Go.ChangeAt Go.RowKit
open Tab Clone RefS
open May (infoR infoT)
open GenW Where
open Same (below_setRow)
theorem infoRz : (Try.prog.info? 76).map (fun i => (i.zero, i.size)) = some (some (.agg #[I 0, I 0, I 0, I 0, I 0, I 0, I 0, I 0, I 0, I 0, I 0]), 11) := by kernel_rfl
def maskV (n : Int) : Int := IntKind.i64.wrap (IntKind.i64.wrap (2 ^ min (IntKind.u64.wrap n).toNat 64) - 1)
def barsV (x d n : Int) : Int := bits .andNot .i64 (bits .and .i64 x (maskV n)) d
def limTab (x : Int) : Int := [10000, 400, 20].getD x.toNat 0
theorem lim_range (x : Int) : 0 ≤ limTab x ∧ limTab x ≤ 10000 := by
  unfold limTab
  match x.toNat with
  | 0 | 1 | 2 => decide
  | _ + 3 => exact ⟨show (0 : Int) ≤ 0 from by decide, show (0 : Int) ≤ 10000 from by decide⟩
theorem lim_0 (w : World) : Sem.run Try.prog (Instr.index 115 (.agg #[I 10000, I 400, I 20]) (.int .i64 0)) w = .ok (I (limTab 0)) w := by kernel_rfl
theorem lim_1 (w : World) : Sem.run Try.prog (Instr.index 115 (.agg #[I 10000, I 400, I 20]) (.int .i64 1)) w = .ok (I (limTab 1)) w := by kernel_rfl
theorem lim_2 (w : World) : Sem.run Try.prog (Instr.index 115 (.agg #[I 10000, I 400, I 20]) (.int .i64 2)) w = .ok (I (limTab 2)) w := by kernel_rfl
theorem lim_at (x : Int) (h0 : 0 ≤ x) (h1 : x < 3) (w : World) : Sem.run Try.prog (Instr.index 115 (.agg #[I 10000, I 400, I 20]) (.int .i64 x)) w = .ok (I (limTab x)) w := by
  have : x = 0 ∨ x = 1 ∨ x = 2 := by omega
  rcases this with rfl | rfl | rfl
  · exact lim_0 w
  · exact lim_1 w
  · exact lim_2 w
/-- A rail by sixteen numbers, among n phases. -/
def genRl (T : Tab) (L : List Int) (i n : Int) : Rl :=
  let dwell := withS T (num L i n) (num L (i + 1) n)
  let p := num L (i + 4) (n + 1)
  let stay := 1 + num L (i + 11) 15
  ⟨barsV (num L (i + 7) 256) dwell n, if p < n then withS T p (num L (i + 5) n) else 0, dwell, withS T (num L (i + 2) n) (num L (i + 3) n),
    num L (i + 8) 4, 1 + num L (i + 9) 6, num L (i + 10) 6, if p < n then 1 + num L (i + 6) 10 else 0, stay, if num L (i + 12) 3 = 1 then stay + num L (i + 13) 30 else 0, num L (i + 8) 4 + 1 + limTab (num L (i + 14) 3)⟩
theorem rail_any (T : Tab) (hd : Hd) (a : Option Addr) (cap : Nat) (L : List Int) (i n : Int) (w : World) (ht : IsTab w hd T) (sm : PlaceM.Few T) (h : IntRow w ⟨a, cap⟩ L) (h0 : 0 ≤ i) (h1 : i ≤ 100000) (n0 : 0 < n) (n8 : n ≤ 8) :
    Calls Try.prog 29 #[.agg (T.cells hd).toArray, .slice a L.length cap, .int .i64 i, .int .i64 n] w fun e w' => e = .returned (.agg (genRl T L i n).cells.toArray) ∧ Below w.heap.size w w' := by
  obtain ⟨x0, hx0, ⟨r0, s0⟩, F0⟩ : ∃ x : Int, x = num L i n ∧ (0 ≤ x ∧ x < n) ∧ Hid (∀ W, Below w.heap.size w W → Calls Try.prog 27 #[.slice a L.length cap, .int .i64 i, .int .i64 n] W fun e w' => e = .returned (.int .i64 x) ∧ w' = W) := ⟨_, rfl, num_range _ _ _ (by omega), Lib.hid (fun W hb => (from_any a cap L _ _ W (h.below hb) (by omega) (by omega) (by omega)).mono fun _ _ ⟨e, q⟩ => ⟨e, q.symm⟩)⟩
  obtain ⟨x1, hx1, ⟨r1, s1⟩, F1⟩ : ∃ x : Int, x = num L (i + 1) n ∧ (0 ≤ x ∧ x < n) ∧ Hid (∀ W, Below w.heap.size w W → Calls Try.prog 27 #[.slice a L.length cap, .int .i64 (i + 1), .int .i64 n] W fun e w' => e = .returned (.int .i64 x) ∧ w' = W) := ⟨_, rfl, num_range _ _ _ (by omega), Lib.hid (fun W hb => (from_any a cap L _ _ W (h.below hb) (by omega) (by omega) (by omega)).mono fun _ _ ⟨e, q⟩ => ⟨e, q.symm⟩)⟩
  obtain ⟨x2, hx2, ⟨r2, s2⟩, F2⟩ : ∃ x : Int, x = num L (i + 2) n ∧ (0 ≤ x ∧ x < n) ∧ Hid (∀ W, Below w.heap.size w W → Calls Try.prog 27 #[.slice a L.length cap, .int .i64 (i + 2), .int .i64 n] W fun e w' => e = .returned (.int .i64 x) ∧ w' = W) := ⟨_, rfl, num_range _ _ _ (by omega), Lib.hid (fun W hb => (from_any a cap L _ _ W (h.below hb) (by omega) (by omega) (by omega)).mono fun _ _ ⟨e, q⟩ => ⟨e, q.symm⟩)⟩
  obtain ⟨x3, hx3, ⟨r3, s3⟩, F3⟩ : ∃ x : Int, x = num L (i + 3) n ∧ (0 ≤ x ∧ x < n) ∧ Hid (∀ W, Below w.heap.size w W → Calls Try.prog 27 #[.slice a L.length cap, .int .i64 (i + 3), .int .i64 n] W fun e w' => e = .returned (.int .i64 x) ∧ w' = W) := ⟨_, rfl, num_range _ _ _ (by omega), Lib.hid (fun W hb => (from_any a cap L _ _ W (h.below hb) (by omega) (by omega) (by omega)).mono fun _ _ ⟨e, q⟩ => ⟨e, q.symm⟩)⟩
  obtain ⟨x4, hx4, ⟨r4, s4⟩, F4⟩ : ∃ x : Int, x = num L (i + 4) (n + 1) ∧ (0 ≤ x ∧ x < (n + 1)) ∧ Hid (∀ W, Below w.heap.size w W → Calls Try.prog 27 #[.slice a L.length cap, .int .i64 (i + 4), .int .i64 (n + 1)] W fun e w' => e = .returned (.int .i64 x) ∧ w' = W) := ⟨_, rfl, num_range _ _ _ (by omega), Lib.hid (fun W hb => (from_any a cap L _ _ W (h.below hb) (by omega) (by omega) (by omega)).mono fun _ _ ⟨e, q⟩ => ⟨e, q.symm⟩)⟩
  obtain ⟨x5, hx5, ⟨r5, s5⟩, F5⟩ : ∃ x : Int, x = num L (i + 5) n ∧ (0 ≤ x ∧ x < n) ∧ Hid (∀ W, Below w.heap.size w W → Calls Try.prog 27 #[.slice a L.length cap, .int .i64 (i + 5), .int .i64 n] W fun e w' => e = .returned (.int .i64 x) ∧ w' = W) := ⟨_, rfl, num_range _ _ _ (by omega), Lib.hid (fun W hb => (from_any a cap L _ _ W (h.below hb) (by omega) (by omega) (by omega)).mono fun _ _ ⟨e, q⟩ => ⟨e, q.symm⟩)⟩
  obtain ⟨x6, hx6, ⟨r6, s6⟩, F6⟩ : ∃ x : Int, x = num L (i + 6) 10 ∧ (0 ≤ x ∧ x < 10) ∧ Hid (∀ W, Below w.heap.size w W → Calls Try.prog 27 #[.slice a L.length cap, .int .i64 (i + 6), .int .i64 10] W fun e w' => e = .returned (.int .i64 x) ∧ w' = W) := ⟨_, rfl, num_range _ _ _ (by omega), Lib.hid (fun W hb => (from_any a cap L _ _ W (h.below hb) (by omega) (by omega) (by omega)).mono fun _ _ ⟨e, q⟩ => ⟨e, q.symm⟩)⟩
  obtain ⟨x7, hx7, ⟨r7, s7⟩, F7⟩ : ∃ x : Int, x = num L (i + 7) 256 ∧ (0 ≤ x ∧ x < 256) ∧ Hid (∀ W, Below w.heap.size w W → Calls Try.prog 27 #[.slice a L.length cap, .int .i64 (i + 7), .int .i64 256] W fun e w' => e = .returned (.int .i64 x) ∧ w' = W) := ⟨_, rfl, num_range _ _ _ (by omega), Lib.hid (fun W hb => (from_any a cap L _ _ W (h.below hb) (by omega) (by omega) (by omega)).mono fun _ _ ⟨e, q⟩ => ⟨e, q.symm⟩)⟩
  obtain ⟨x8, hx8, ⟨r8, s8⟩, F8⟩ : ∃ x : Int, x = num L (i + 8) 4 ∧ (0 ≤ x ∧ x < 4) ∧ Hid (∀ W, Below w.heap.size w W → Calls Try.prog 27 #[.slice a L.length cap, .int .i64 (i + 8), .int .i64 4] W fun e w' => e = .returned (.int .i64 x) ∧ w' = W) := ⟨_, rfl, num_range _ _ _ (by omega), Lib.hid (fun W hb => (from_any a cap L _ _ W (h.below hb) (by omega) (by omega) (by omega)).mono fun _ _ ⟨e, q⟩ => ⟨e, q.symm⟩)⟩
  obtain ⟨x9, hx9, ⟨r9, s9⟩, F9⟩ : ∃ x : Int, x = num L (i + 9) 6 ∧ (0 ≤ x ∧ x < 6) ∧ Hid (∀ W, Below w.heap.size w W → Calls Try.prog 27 #[.slice a L.length cap, .int .i64 (i + 9), .int .i64 6] W fun e w' => e = .returned (.int .i64 x) ∧ w' = W) := ⟨_, rfl, num_range _ _ _ (by omega), Lib.hid (fun W hb => (from_any a cap L _ _ W (h.below hb) (by omega) (by omega) (by omega)).mono fun _ _ ⟨e, q⟩ => ⟨e, q.symm⟩)⟩
  obtain ⟨xa, hxa, ⟨ra, sa⟩, Fa⟩ : ∃ x : Int, x = num L (i + 10) 6 ∧ (0 ≤ x ∧ x < 6) ∧ Hid (∀ W, Below w.heap.size w W → Calls Try.prog 27 #[.slice a L.length cap, .int .i64 (i + 10), .int .i64 6] W fun e w' => e = .returned (.int .i64 x) ∧ w' = W) := ⟨_, rfl, num_range _ _ _ (by omega), Lib.hid (fun W hb => (from_any a cap L _ _ W (h.below hb) (by omega) (by omega) (by omega)).mono fun _ _ ⟨e, q⟩ => ⟨e, q.symm⟩)⟩
  obtain ⟨xb, hxb, ⟨rb, sb⟩, Fb⟩ : ∃ x : Int, x = num L (i + 11) 15 ∧ (0 ≤ x ∧ x < 15) ∧ Hid (∀ W, Below w.heap.size w W → Calls Try.prog 27 #[.slice a L.length cap, .int .i64 (i + 11), .int .i64 15] W fun e w' => e = .returned (.int .i64 x) ∧ w' = W) := ⟨_, rfl, num_range _ _ _ (by omega), Lib.hid (fun W hb => (from_any a cap L _ _ W (h.below hb) (by omega) (by omega) (by omega)).mono fun _ _ ⟨e, q⟩ => ⟨e, q.symm⟩)⟩
  obtain ⟨xc, hxc, ⟨rc, sc⟩, Fc⟩ : ∃ x : Int, x = num L (i + 12) 3 ∧ (0 ≤ x ∧ x < 3) ∧ Hid (∀ W, Below w.heap.size w W → Calls Try.prog 27 #[.slice a L.length cap, .int .i64 (i + 12), .int .i64 3] W fun e w' => e = .returned (.int .i64 x) ∧ w' = W) := ⟨_, rfl, num_range _ _ _ (by omega), Lib.hid (fun W hb => (from_any a cap L _ _ W (h.below hb) (by omega) (by omega) (by omega)).mono fun _ _ ⟨e, q⟩ => ⟨e, q.symm⟩)⟩
  obtain ⟨xd, hxd, ⟨rd, sd⟩, Fd⟩ : ∃ x : Int, x = num L (i + 13) 30 ∧ (0 ≤ x ∧ x < 30) ∧ Hid (∀ W, Below w.heap.size w W → Calls Try.prog 27 #[.slice a L.length cap, .int .i64 (i + 13), .int .i64 30] W fun e w' => e = .returned (.int .i64 x) ∧ w' = W) := ⟨_, rfl, num_range _ _ _ (by omega), Lib.hid (fun W hb => (from_any a cap L _ _ W (h.below hb) (by omega) (by omega) (by omega)).mono fun _ _ ⟨e, q⟩ => ⟨e, q.symm⟩)⟩
  obtain ⟨xg, hxg, ⟨rg, sg⟩, Fg⟩ : ∃ x : Int, x = num L (i + 14) 3 ∧ (0 ≤ x ∧ x < 3) ∧ Hid (∀ W, Below w.heap.size w W → Calls Try.prog 27 #[.slice a L.length cap, .int .i64 (i + 14), .int .i64 3] W fun e w' => e = .returned (.int .i64 x) ∧ w' = W) := ⟨_, rfl, num_range _ _ _ (by omega), Lib.hid (fun W hb => (from_any a cap L _ _ W (h.below hb) (by omega) (by omega) (by omega)).mono fun _ _ ⟨e, q⟩ => ⟨e, q.symm⟩)⟩
  have hsz := (cells_ok ht).size
  have IA : Hid ((Try.prog.info? 32).map (·.size) = some (T.cells hd).length) := Lib.hid (by rw [List.size_toArray] at hsz; rw [hsz]; exact infoT)
  have WC : Hid (∀ (p q : Int) W, Below w.heap.size w W → Calls Try.prog 55 #[.agg (T.cells hd).toArray, .int .i64 p, .int .i64 q] W fun e w' => e = .returned (.int .i64 (withS T p q)) ∧ Below W.heap.size W w') := Lib.hid (fun p q W hb => with_any T hd p q W (ht.below hb) sm)
  generalize T.cells hd = c at *
  clear ht sm h
  obtain ⟨bv, hbv, EB⟩ : ∃ v : Int, v = barsV x7 (withS T x0 x1) n ∧ Hid (bits .andNot .i64 (bits .and .i64 x7 (IntKind.i64.wrap (IntKind.i64.wrap (2 ^ min (IntKind.u64.wrap n).toNat 64) - 1))) (withS T x0 x1) = v) := ⟨_, rfl, Lib.hid rfl⟩
  obtain ⟨vg, hvg, ⟨rv, sv⟩, EG⟩ : ∃ v : Int, v = limTab xg ∧ (0 ≤ v ∧ v ≤ 10000) ∧ Hid (∀ w, Sem.run Try.prog (Instr.index 115 (.agg #[I 10000, I 400, I 20]) (.int .i64 xg)) w = .ok (.int .i64 v) w) := ⟨_, rfl, lim_range xg, Lib.hid (fun w => lim_at xg rg sg w)⟩
  have RES : Hid (genRl T L i n = ⟨bv, if x4 < n then withS T x4 x5 else 0, withS T x0 x1, withS T x2 x3, x8, 1 + x9, xa, if x4 < n then 1 + x6 else 0, 1 + xb, if xc = 1 then 1 + xb + xd else 0, x8 + 1 + vg⟩) := Lib.hid (by subst hbv hvg hx0 hx1 hx2 hx3 hx4 hx5 hx6 hx7 hx8 hx9 hxa hxb hxc hxd hxg; rfl)
  generalize genRl T L i n = R at RES ⊢
  clear hbv hvg
  clear hx0 hx1 hx2 hx3 hx4 hx5 hx6 hx7 hx8 hx9 hxa hxb hxc hxd hxg
  have hz := (zero_of_info infoRz).1
  have hb := ((Below.refl w.heap.size w).alloc (Nat.le_refl _) (.cells c.toArray 32)).alloc (by simp) (.cells #[I 0, I 0, I 0, I 0, I 0, I 0, I 0, I 0, I 0, I 0, I 0] 76)
  have g0 := heap_alloc2_old w (.cells c.toArray 32) (.cells #[I 0, I 0, I 0, I 0, I 0, I 0, I 0, I 0, I 0, I 0, I 0] 76)
  have g4 := heap_alloc2_new w (.cells c.toArray 32) (.cells #[I 0, I 0, I 0, I 0, I 0, I 0, I 0, I 0, I 0, I 0, I 0] 76)
  have hs : ((w.alloc (.cells c.toArray 32)).alloc (.cells #[I 0, I 0, I 0, I 0, I 0, I 0, I 0, I 0, I 0, I 0, I 0] 76)).heap.size = w.heap.size + 2 := by simp
  have HB := Lib.hid hb
  have G0 := Lib.hid g0
  have G4 := Lib.hid g4
  have HS := Lib.hid hs
  clear hb g0 g4 hs
  go_enter Try.func29, Try.ntmps29
  go_upto_region 1 with fail
  generalize (World.alloc (World.alloc w _) _) = u at HB G0 G4 HS ⊢
  clear hsz hz
  have LT : Hid (∀ w', Below u.heap.size u w' → Lies w' ⟨w.heap.size, 0, none⟩ c) := Lib.hid (fun w' hb => by
    have := (Row.lies_of_block G0.out)
    exact Lies.below this hb)
  refine rail1_rg (fun c a a' w e h => by cases a; cases a'; cases e; exact h) T c a cap L i n x0 x1 x2 x3 w u h0 h1 IA HB HS LT F0 F1 F2 F3 WC _ _ _ _ _ _ _ _ _ _ _ _ _ _ _ _ _ _ _ _ _ _ _ _ _ _ _ _ _ _ _ _ _ _ _ _ _ _ _ _ _ _ _ _ _ _ _ _ _ _ _ _ _ _ _ _ _ _ _ _ _ _ _ _ _ _ _ _ _ _ _ _ _ _ _ _ _ _ _ _ _ _ _ _ _ _ _ _ _ _ _ _ _ _ _ _ _ _ _ _ _ _ _ _ _ _ _ _ _ _ _ _ _ _ _ (Lib.hid ?_)
  intro x_11 x_12 x_13 x_14 x_15 x_16 x_17 x_18 x_19 x_20 x_21 x_22 x_23 x_24 x_25 x_26 x_27 x_28 x_29 x_30 x_31 x_32 x_33 x_34 b5 wx b5lt g5 hbx
  have hb := HB.out.trans (hbx.mono HB.out.size)
  have gG0 := (hbx.block _ (by have := HS.out; omega)).trans G0.out
  have gG4 := (hbx.block _ (by have := HS.out; omega)).trans G4.out
  clear HB G0 G4 HS LT hbx
  generalize wx = u0 at gG0 gG4 g5 hb ⊢
  have G0 := Lib.hid gG0
  have G4 := Lib.hid gG4
  have G5 := Lib.hid g5
  have HB := Lib.hid hb
  clear gG0 gG4 g5 hb
  go_wp2_with fail
  refine (F4.out _ HB.out).mono ?_
  rintro e w' ⟨rfl, hq⟩
  subst w'
  by_cases h4 : x4 < n
  · have H4 := Lib.hid h4
    go_upto_region 4 with fail
    clear h4
    have LT : Hid (∀ w', Below b5 u0 w' → Lies w' ⟨w.heap.size, 0, none⟩ c) := Lib.hid (fun w' hb => by
      have g := (hb.block w.heap.size (by omega)).trans G0.out
      have := Row.lies_of_block g
      simpa using this)
    have e5 : IntKind.i64.wrap (i + 5) = i + 5 := by rw [IntKind.wrap_i64]; omega
    refine wp_region_held (S := fun w' => Below b5 u0 w') (by kernel_rfl) ?_
    have hS : Below b5 u0 { u0 with drawn := u0.drawn + 1 } := (Below.refl _ _).drew
    have G5v : Hid (({ u0 with drawn := u0.drawn + 1 } : World).heap[b5]? = some (.cells #[I 0, I 0, I (withS T x0 x1), I (withS T x2 x3), I 0, I 0, I 0, I 0, I 0, I 0, I 0] 76 (0, 0))) := Lib.hid G5.out
    generalize ({ u0 with drawn := u0.drawn + 1 } : World) = v at hS G5v ⊢
    refine Held.take_load (i := 0) (some 44) rfl 32 _ ⟨w.heap.size, 0, none⟩ c _ rfl rfl (by kernel_rfl) (by kernel_rfl) (by kernel_rfl) (fun _ _ _ h => h) (by rfl) hS rfl (LT.out) Try.underlying32 rfl IA.out ?_
    (try dsimp only [Act.put]); (try simp only [List.setIfInBounds_toArray, List.set_cons_zero, List.set_cons_succ])
    refine Held.take (i := 1) (some 45) rfl (v := ?_) rfl (by kernel_rfl) (by kernel_rfl) (by kernel_rfl) (fun _ _ _ h => h) (Or.inl ⟨by rfl, ?_⟩) hS ?_
    rotate_left
    · intro w' hw'
      go_simp
      try with_reducible rfl
    (try dsimp only [Act.put]); (try simp only [List.setIfInBounds_toArray, List.set_cons_zero, List.set_cons_succ])
    refine Held.take (i := 2) (some 46) rfl (v := ?_) rfl (by kernel_rfl) (by kernel_rfl) (by kernel_rfl) (fun _ _ _ h => h) (Or.inl ⟨by rfl, ?_⟩) hS ?_
    rotate_left
    · intro w' hw'
      go_simp
      try with_reducible rfl
    (try dsimp only [Act.put]); (try simp only [List.setIfInBounds_toArray, List.set_cons_zero, List.set_cons_succ])
    refine Held.take (i := 3) (some 47) rfl (v := ?_) rfl (by kernel_rfl) (by kernel_rfl) (by kernel_rfl) (fun _ _ _ h => h) (Or.inl ⟨by rfl, ?_⟩) hS ?_
    rotate_left
    · intro w' hw'
      go_simp
      try with_reducible rfl
    (try dsimp only [Act.put]); (try simp only [List.setIfInBounds_toArray, List.set_cons_zero, List.set_cons_succ])
    refine Held.take (i := 4) (some 48) rfl (v := ?_) rfl (by kernel_rfl) (by kernel_rfl) (by kernel_rfl) (fun _ _ _ h => h) (Or.inl ⟨by rfl, ?_⟩) hS ?_
    rotate_left
    · intro w' hw'
      go_simp
      try with_reducible rfl
    (try dsimp only [Act.put]); (try simp only [List.setIfInBounds_toArray, List.set_cons_zero, List.set_cons_succ])
    refine Held.take (i := 5) (some 49) rfl (v := ?_) rfl (by kernel_rfl) (by kernel_rfl) (by kernel_rfl) (fun _ _ _ h => h) (Or.inl ⟨by rfl, ?_⟩) hS ?_
    rotate_left
    · intro w' hw'
      go_simp
      try with_reducible rfl
    (try dsimp only [Act.put]); (try simp only [List.setIfInBounds_toArray, List.set_cons_zero, List.set_cons_succ])
    refine wpAnyH_ready (rs := [6]) (by kernel_rfl) (by simp) (AllReadyH.cons rfl (fun K hK => ?_) AllReadyH.nil)
    go_simp
    refine (F5.out _ (HB.out.trans (hS.mono (by omega)))).mono ?_
    rintro e w' ⟨rfl, hq⟩
    subst w'
    go_simp
    refine hK.out _ _ hS (fun hS => ?_)
    clear hK K
    refine wpAnyH_ready (rs := [7]) (by kernel_rfl) (by simp) (AllReadyH.cons rfl (fun K hK => ?_) AllReadyH.nil)
    go_simp
    refine (WC.out x4 x5 _ (HB.out.trans (hS.mono (by omega)))).mono ?_
    rintro e v ⟨rfl, hb⟩
    go_simp
    have hlt := (Array.getElem?_eq_some_iff.1 G5v.out).1
    have G5w := Lib.hid ((hb.block _ hlt).trans G5v.out)
    refine hK.out _ _ (hS.trans (hb.mono (by omega))) (fun hS => ?_)
    clear hK K hb hlt G5v
    refine Held.take (i := 8) (some 52) rfl (v := ?_) rfl (by kernel_rfl) (by kernel_rfl) (by kernel_rfl) (fun _ _ _ h => h) (Or.inl ⟨by rfl, ?_⟩) hS ?_
    rotate_left
    · intro w' hw'
      go_simp
      try with_reducible rfl
    (try dsimp only [Act.put]); (try simp only [List.setIfInBounds_toArray, List.set_cons_zero, List.set_cons_succ])
    have c1 : v.cell? ⟨b5, 1, none⟩ = some (I 0) := by rw [cell_of_row _ _ _ _ _ _ G5w.out]; rfl
    have f1 : v.frozen? ⟨b5, 1, none⟩ = false := frozen_of_row _ _ _ _ _ G5w.out
    refine wpAnyH_ready (rs := [9]) (by kernel_rfl) (by simp) (AllReadyH.cons rfl (fun K hK => ?_) AllReadyH.nil)
    go_simp
    have hS2 := Owned.below_write hS (Nat.le_refl b5) (i := 1) (.int .i64 (withS T x4 x5))
    have g5 := heap_setCell_same v b5 1 _ _ (.int .i64 (withS T x4 x5)) G5w.out
    simp only [List.setIfInBounds_toArray, List.set_cons_succ, List.set_cons_zero] at g5
    clear c1 f1 G5w hS
    generalize World.setCell v ⟨b5, 1, none⟩ _ = v at hS2 g5 ⊢
    refine hK.out _ _ hS2 (fun hS => ?_)
    clear hK K
    refine wpAnyH_done (by kernel_rfl) ?_ _
    have hb := HB.out.trans (hS2.mono (by omega))
    have gG0 := (hS2.block w.heap.size (by omega)).trans G0.out
    have gG4 := (hS2.block (w.heap.size + 1) (by omega)).trans G4.out
    clear HB G0 G4 G5 hS hS2 LT e5
    generalize v = u1 at gG0 gG4 g5 hb ⊢
    have G0 := Lib.hid gG0
    have G4 := Lib.hid gG4
    have G5 := Lib.hid g5
    have HB := Lib.hid hb
    clear gG0 gG4 g5 hb
    go_upto_region 5 with fail
    have c7 : u1.cell? ⟨b5, 7, none⟩ = some (I 0) := by rw [cell_of_row _ _ _ _ _ _ G5.out]; rfl
    have f7 : u1.frozen? ⟨b5, 7, none⟩ = false := frozen_of_row _ _ _ _ _ G5.out
    go_wp2_with fail
    refine (F6.out _ HB.out).mono ?_
    rintro e w' ⟨rfl, hq⟩
    subst w'
    go_upto_region 6 with fail
    have g5 := heap_setCell_same u1 b5 7 _ _ (I (1 + x6)) G5.out
    simp only [List.setIfInBounds_toArray, List.set_cons_succ, List.set_cons_zero] at g5
    have gG0 := (Below.heap_setCell u1 ⟨b5, 7, none⟩ (I (1 + x6)) w.heap.size (by simp; omega)).trans G0.out
    have gG4 := (Below.heap_setCell u1 ⟨b5, 7, none⟩ (I (1 + x6)) (w.heap.size + 1) (by simp; omega)).trans G4.out
    have hb := Owned.below_write HB.out (g := b5) (i := 7) (by omega) (I (1 + x6))
    clear c7 f7 G0 G4 G5 HB
    generalize World.setCell u1 ⟨b5, 7, none⟩ (I (1 + x6)) = u2 at gG0 gG4 g5 hb ⊢
    have G0 := Lib.hid gG0
    have G4 := Lib.hid gG4
    have G5 := Lib.hid g5
    have HB := Lib.hid hb
    clear gG0 gG4 g5 hb
    have e0 : IntKind.i64.wrap (i + 7) = i + 7 := by rw [IntKind.wrap_i64]; omega
    have eb := EB.out
    have gG0 : u2.drew.heap[w.heap.size]? = some (.cells c.toArray 32 (0, 0)) := G0.out
    have gG4 : u2.drew.heap[(w.heap.size + 1)]? = some (.cells #[I 0, I 0, I 0, I 0, I 0, I 0, I 0, I 0, I 0, I 0, I 0] 76 (0, 0)) := G4.out
    have g5 : u2.drew.heap[b5]? = some (.cells #[I 0, I (withS T x4 x5), I (withS T x0 x1), I (withS T x2 x3), I 0, I 0, I 0, I (1 + x6), I 0, I 0, I 0] 76 (0, 0)) := G5.out
    have hb : Below w.heap.size w u2.drew := HB.out.drew
    clear G0 G4 G5 HB
    refine QB.region_tail 13 (by kernel_rfl) (by kernel_rfl) ?_
    generalize World.drew u2 = u3 at gG0 gG4 g5 hb ⊢
    have G0 := Lib.hid gG0
    have G4 := Lib.hid gG4
    have G5 := Lib.hid g5
    have HB := Lib.hid hb
    clear gG0 gG4 g5 hb
    have c0 : u3.cell? ⟨b5, 0, none⟩ = some (I 0) := by rw [cell_of_row _ _ _ _ _ _ G5.out]; rfl
    have c2 : u3.cell? ⟨b5, 2, none⟩ = some (I (withS T x0 x1)) := by rw [cell_of_row _ _ _ _ _ _ G5.out]; rfl
    have f0 : u3.frozen? ⟨b5, 0, none⟩ = false := frozen_of_row _ _ _ _ _ G5.out
    simp only [List.take_succ_cons, List.take_zero, List.drop_succ_cons, List.drop_zero]
    repeat still_step
    still_call (F7.out _ HB.out)
    repeat still_step
    refine wpStill_nil ?_
    go_upto_region 7 with fail
    clear e0 eb
    have g5 := heap_setCell_same u3 b5 0 _ _ (I bv) G5.out
    simp only [List.setIfInBounds_toArray, List.set_cons_succ, List.set_cons_zero] at g5
    have gG0 := (Below.heap_setCell u3 ⟨b5, 0, none⟩ (I bv) w.heap.size (by simp; omega)).trans G0.out
    have gG4 := (Below.heap_setCell u3 ⟨b5, 0, none⟩ (I bv) (w.heap.size + 1) (by simp; omega)).trans G4.out
    have hb := Owned.below_write HB.out (g := b5) (i := 0) (by omega) (I bv)
    clear c0 c2 f0 G0 G4 G5 HB
    generalize World.setCell u3 ⟨b5, 0, none⟩ (I bv) = u4 at gG0 gG4 g5 hb ⊢
    have G0 := Lib.hid gG0
    have G4 := Lib.hid gG4
    have G5 := Lib.hid g5
    have HB := Lib.hid hb
    clear gG0 gG4 g5 hb
    have c4 : u4.cell? ⟨b5, 4, none⟩ = some (I 0) := by rw [cell_of_row _ _ _ _ _ _ G5.out]; rfl
    have f4 : u4.frozen? ⟨b5, 4, none⟩ = false := frozen_of_row _ _ _ _ _ G5.out
    go_wp2_with fail
    refine (F8.out _ HB.out).mono ?_
    rintro e w' ⟨rfl, hq⟩
    subst w'
    go_upto_region 8 with fail
    have g5 := heap_setCell_same u4 b5 4 _ _ (I x8) G5.out
    simp only [List.setIfInBounds_toArray, List.set_cons_succ, List.set_cons_zero] at g5
    have gG0 := (Below.heap_setCell u4 ⟨b5, 4, none⟩ (I x8) w.heap.size (by simp; omega)).trans G0.out
    have gG4 := (Below.heap_setCell u4 ⟨b5, 4, none⟩ (I x8) (w.heap.size + 1) (by simp; omega)).trans G4.out
    have hb := Owned.below_write HB.out (g := b5) (i := 4) (by omega) (I x8)
    clear c4 f4 G0 G4 G5 HB
    generalize World.setCell u4 ⟨b5, 4, none⟩ (I x8) = u5 at gG0 gG4 g5 hb ⊢
    have G0 := Lib.hid gG0
    have G4 := Lib.hid gG4
    have G5 := Lib.hid g5
    have HB := Lib.hid hb
    clear gG0 gG4 g5 hb
    have c5 : u5.cell? ⟨b5, 5, none⟩ = some (I 0) := by rw [cell_of_row _ _ _ _ _ _ G5.out]; rfl
    have f5 : u5.frozen? ⟨b5, 5, none⟩ = false := frozen_of_row _ _ _ _ _ G5.out
    go_wp2_with fail
    refine (F9.out _ HB.out).mono ?_
    rintro e w' ⟨rfl, hq⟩
    subst w'
    go_upto_region 9 with fail
    have g5 := heap_setCell_same u5 b5 5 _ _ (I (1 + x9)) G5.out
    simp only [List.setIfInBounds_toArray, List.set_cons_succ, List.set_cons_zero] at g5
    have gG0 := (Below.heap_setCell u5 ⟨b5, 5, none⟩ (I (1 + x9)) w.heap.size (by simp; omega)).trans G0.out
    have gG4 := (Below.heap_setCell u5 ⟨b5, 5, none⟩ (I (1 + x9)) (w.heap.size + 1) (by simp; omega)).trans G4.out
    have hb := Owned.below_write HB.out (g := b5) (i := 5) (by omega) (I (1 + x9))
    clear c5 f5 G0 G4 G5 HB
    generalize World.setCell u5 ⟨b5, 5, none⟩ (I (1 + x9)) = u6 at gG0 gG4 g5 hb ⊢
    have G0 := Lib.hid gG0
    have G4 := Lib.hid gG4
    have G5 := Lib.hid g5
    have HB := Lib.hid hb
    clear gG0 gG4 g5 hb
    have c6 : u6.cell? ⟨b5, 6, none⟩ = some (I 0) := by rw [cell_of_row _ _ _ _ _ _ G5.out]; rfl
    have f6 : u6.frozen? ⟨b5, 6, none⟩ = false := frozen_of_row _ _ _ _ _ G5.out
    go_wp2_with fail
    refine (Fa.out _ HB.out).mono ?_
    rintro e w' ⟨rfl, hq⟩
    subst w'
    go_upto_region 10 with fail
    have g5 := heap_setCell_same u6 b5 6 _ _ (I xa) G5.out
    simp only [List.setIfInBounds_toArray, List.set_cons_succ, List.set_cons_zero] at g5
    have gG0 := (Below.heap_setCell u6 ⟨b5, 6, none⟩ (I xa) w.heap.size (by simp; omega)).trans G0.out
    have gG4 := (Below.heap_setCell u6 ⟨b5, 6, none⟩ (I xa) (w.heap.size + 1) (by simp; omega)).trans G4.out
    have hb := Owned.below_write HB.out (g := b5) (i := 6) (by omega) (I xa)
    clear c6 f6 G0 G4 G5 HB
    generalize World.setCell u6 ⟨b5, 6, none⟩ (I xa) = u7 at gG0 gG4 g5 hb ⊢
    have G0 := Lib.hid gG0
    have G4 := Lib.hid gG4
    have G5 := Lib.hid g5
    have HB := Lib.hid hb
    clear gG0 gG4 g5 hb
    have c8 : u7.cell? ⟨b5, 8, none⟩ = some (I 0) := by rw [cell_of_row _ _ _ _ _ _ G5.out]; rfl
    have f8 : u7.frozen? ⟨b5, 8, none⟩ = false := frozen_of_row _ _ _ _ _ G5.out
    go_wp2_with fail
    refine (Fb.out _ HB.out).mono ?_
    rintro e w' ⟨rfl, hq⟩
    subst w'
    go_upto_region 11 with fail
    have g5 := heap_setCell_same u7 b5 8 _ _ (I (1 + xb)) G5.out
    simp only [List.setIfInBounds_toArray, List.set_cons_succ, List.set_cons_zero] at g5
    have gG0 := (Below.heap_setCell u7 ⟨b5, 8, none⟩ (I (1 + xb)) w.heap.size (by simp; omega)).trans G0.out
    have gG4 := (Below.heap_setCell u7 ⟨b5, 8, none⟩ (I (1 + xb)) (w.heap.size + 1) (by simp; omega)).trans G4.out
    have hb := Owned.below_write HB.out (g := b5) (i := 8) (by omega) (I (1 + xb))
    clear c8 f8 G0 G4 G5 HB
    generalize World.setCell u7 ⟨b5, 8, none⟩ (I (1 + xb)) = u8 at gG0 gG4 g5 hb ⊢
    have G0 := Lib.hid gG0
    have G4 := Lib.hid gG4
    have G5 := Lib.hid g5
    have HB := Lib.hid hb
    clear gG0 gG4 g5 hb
    go_wp2_with fail
    refine (Fc.out _ HB.out).mono ?_
    rintro e w' ⟨rfl, hq⟩
    subst w'
    by_cases hc : xc = 1
    · have HC := Lib.hid hc
      have ec : (xc == 1) = true := by simpa using hc
      clear hc
      go_upto_region 12 with fail
      have e0 : IntKind.i64.wrap (i + 13) = i + 13 := by rw [IntKind.wrap_i64]; omega
      have e1 : IntKind.i64.wrap (1 + xb + xd) = 1 + xb + xd := by rw [IntKind.wrap_i64]; omega
      have gG0 : u8.drew.heap[w.heap.size]? = some (.cells c.toArray 32 (0, 0)) := G0.out
      have gG4 : u8.drew.heap[(w.heap.size + 1)]? = some (.cells #[I 0, I 0, I 0, I 0, I 0, I 0, I 0, I 0, I 0, I 0, I 0] 76 (0, 0)) := G4.out
      have g5 : u8.drew.heap[b5]? = some (.cells #[I bv, I (withS T x4 x5), I (withS T x0 x1), I (withS T x2 x3), I x8, I (1 + x9), I xa, I (1 + x6), I (1 + xb), I 0, I 0] 76 (0, 0)) := G5.out
      have hb : Below w.heap.size w u8.drew := HB.out.drew
      clear G0 G4 G5 HB
      refine QB.region_tail 8 (by kernel_rfl) (by kernel_rfl) ?_
      generalize World.drew u8 = u9 at gG0 gG4 g5 hb ⊢
      have G0 := Lib.hid gG0
      have G4 := Lib.hid gG4
      have G5 := Lib.hid g5
      have HB := Lib.hid hb
      clear gG0 gG4 g5 hb
      have c8 : u9.cell? ⟨b5, 8, none⟩ = some (I (1 + xb)) := by rw [cell_of_row _ _ _ _ _ _ G5.out]; rfl
      have c9 : u9.cell? ⟨b5, 9, none⟩ = some (I 0) := by rw [cell_of_row _ _ _ _ _ _ G5.out]; rfl
      have f9 : u9.frozen? ⟨b5, 9, none⟩ = false := frozen_of_row _ _ _ _ _ G5.out
      simp only [List.take_succ_cons, List.take_zero, List.drop_succ_cons, List.drop_zero]
      repeat still_step
      still_call (Fd.out _ HB.out)
      repeat still_step
      refine wpStill_nil ?_
      go_upto_region 13 with fail
      clear e0 e1
      have g5 := heap_setCell_same u9 b5 9 _ _ (I (1 + xb + xd)) G5.out
      simp only [List.setIfInBounds_toArray, List.set_cons_succ, List.set_cons_zero] at g5
      have gG0 := (Below.heap_setCell u9 ⟨b5, 9, none⟩ (I (1 + xb + xd)) w.heap.size (by simp; omega)).trans G0.out
      have gG4 := (Below.heap_setCell u9 ⟨b5, 9, none⟩ (I (1 + xb + xd)) (w.heap.size + 1) (by simp; omega)).trans G4.out
      have hb := Owned.below_write HB.out (g := b5) (i := 9) (by omega) (I (1 + xb + xd))
      clear c8 c9 f9 G0 G4 G5 HB
      generalize World.setCell u9 ⟨b5, 9, none⟩ (I (1 + xb + xd)) = u10 at gG0 gG4 g5 hb ⊢
      have G0 := Lib.hid gG0
      have G4 := Lib.hid gG4
      have G5 := Lib.hid g5
      have HB := Lib.hid hb
      clear gG0 gG4 g5 hb
      have e0 : IntKind.i64.wrap (x8 + 1) = x8 + 1 := by rw [IntKind.wrap_i64]; omega
      have e1 : IntKind.i64.wrap (i + 14) = i + 14 := by rw [IntKind.wrap_i64]; omega
      have e2 : IntKind.i64.wrap (x8 + 1 + vg) = x8 + 1 + vg := by rw [IntKind.wrap_i64]; omega
      have eg := EG.out
      have gG0 : u10.drew.heap[w.heap.size]? = some (.cells c.toArray 32 (0, 0)) := G0.out
      have gG4 : u10.drew.heap[(w.heap.size + 1)]? = some (.cells #[I 0, I 0, I 0, I 0, I 0, I 0, I 0, I 0, I 0, I 0, I 0] 76 (0, 0)) := G4.out
      have g5 : u10.drew.heap[b5]? = some (.cells #[I bv, I (withS T x4 x5), I (withS T x0 x1), I (withS T x2 x3), I x8, I (1 + x9), I xa, I (1 + x6), I (1 + xb), I (1 + xb + xd), I 0] 76 (0, 0)) := G5.out
      have hb : Below w.heap.size w u10.drew := HB.out.drew
      clear G0 G4 G5 HB
      refine QB.region_tail 11 (by kernel_rfl) (by kernel_rfl) ?_
      generalize World.drew u10 = u11 at gG0 gG4 g5 hb ⊢
      have G0 := Lib.hid gG0
      have G4 := Lib.hid gG4
      have G5 := Lib.hid g5
      have HB := Lib.hid hb
      clear gG0 gG4 g5 hb
      have c4 : u11.cell? ⟨b5, 4, none⟩ = some (I x8) := by rw [cell_of_row _ _ _ _ _ _ G5.out]; rfl
      have c10 : u11.cell? ⟨b5, 10, none⟩ = some (I 0) := by rw [cell_of_row _ _ _ _ _ _ G5.out]; rfl
      have f10 : u11.frozen? ⟨b5, 10, none⟩ = false := frozen_of_row _ _ _ _ _ G5.out
      simp only [List.take_succ_cons, List.take_zero, List.drop_succ_cons, List.drop_zero]
      repeat still_step
      still_call (Fg.out _ HB.out)
      repeat still_step
      refine wpStill_nil ?_
      go_upto_region 14 with fail
      clear e0 e1 e2 eg
      have g5 := heap_setCell_same u11 b5 10 _ _ (I (x8 + 1 + vg)) G5.out
      simp only [List.setIfInBounds_toArray, List.set_cons_succ, List.set_cons_zero] at g5
      have gG0 := (Below.heap_setCell u11 ⟨b5, 10, none⟩ (I (x8 + 1 + vg)) w.heap.size (by simp; omega)).trans G0.out
      have gG4 := (Below.heap_setCell u11 ⟨b5, 10, none⟩ (I (x8 + 1 + vg)) (w.heap.size + 1) (by simp; omega)).trans G4.out
      have hb := Owned.below_write HB.out (g := b5) (i := 10) (by omega) (I (x8 + 1 + vg))
      clear c4 c10 f10 G0 G4 G5 HB
      generalize World.setCell u11 ⟨b5, 10, none⟩ (I (x8 + 1 + vg)) = u12 at gG0 gG4 g5 hb ⊢
      have G0 := Lib.hid gG0
      have G4 := Lib.hid gG4
      have G5 := Lib.hid g5
      have HB := Lib.hid hb
      clear gG0 gG4 g5 hb
      have FIN : Hid (R.cells.toArray = #[I bv, I (withS T x4 x5), I (withS T x0 x1), I (withS T x2 x3), I x8, I (1 + x9), I xa, I (1 + x6), I (1 + xb), I (1 + xb + xd), I (x8 + 1 + vg)]) := Lib.hid (by rw [RES.out]; simp only [Rl.cells, if_pos H4.out, if_pos HC.out])
      have LV : Hid (Lies u12 ⟨b5, 0, none⟩ #[I bv, I (withS T x4 x5), I (withS T x0 x1), I (withS T x2 x3), I x8, I (1 + x9), I xa, I (1 + x6), I (1 + xb), I (1 + xb + xd), I (x8 + 1 + vg)].toList) := Lib.hid (Row.lies_of_block G5.out)
      have HG := Lib.hid (below_setRow HB.out (g := w.heap.size + 1) (by omega) #[I bv, I (withS T x4 x5), I (withS T x0 x1), I (withS T x2 x3), I x8, I (1 + x9), I xa, I (1 + x6), I (1 + xb), I (1 + xb + xd), I (x8 + 1 + vg)])
      have HK := Lib.hid (setRow_heap u12 (w.heap.size + 1) _ #[I bv, I (withS T x4 x5), I (withS T x0 x1), I (withS T x2 x3), I x8, I (1 + x9), I xa, I (1 + x6), I (1 + xb), I (1 + xb + xd), I (x8 + 1 + vg)] _ _ G4.out)
      go_wp2_with (first | (refine Row.wpList_load_g 76 _ rfl (by first | rfl | go_simp) ⟨b5, 0, none⟩ rfl #[I bv, I (withS T x4 x5), I (withS T x0 x1), I (withS T x2 x3), I x8, I (1 + x9), I xa, I (1 + x6), I (1 + xb), I (1 + xb + xd), I (x8 + 1 + vg)].toList _ LV.out Try.underlying76 rfl infoR ?_) | (refine wpList_store_row rfl 76 _ _ rfl (w.heap.size + 1) #[I bv, I (withS T x4 x5), I (withS T x0 x1), I (withS T x2 x3), I x8, I (1 + x9), I xa, I (1 + x6), I (1 + xb), I (1 + xb + xd), I (x8 + 1 + vg)] rfl rfl 76 _ G4.out infoR rfl (by simp [Value.oneCell']) ?_))
      generalize u12.setRow (w.heap.size + 1) #[I bv, I (withS T x4 x5), I (withS T x0 x1), I (withS T x2 x3), I x8, I (1 + x9), I xa, I (1 + x6), I (1 + xb), I (1 + xb + xd), I (x8 + 1 + vg)] = uz at HG HK ⊢
      go_wp2_with fail
      (try simp only [Exit.inBlock, Exit.then])
      refine bodyPost_ret (v := .agg #[I bv, I (withS T x4 x5), I (withS T x0 x1), I (withS T x2 x3), I x8, I (1 + x9), I xa, I (1 + x6), I (1 + xb), I (1 + xb + xd), I (x8 + 1 + vg)]) ?_ rfl ⟨by rw [FIN.out], HG.out⟩
      exact results_cell_row rfl _ _ (w.heap.size + 1) 76 _ (0, 0) _ rfl HK.out Try.underlying76 rfl infoR
    · have HC := Lib.hid hc
      have ec : (xc == 1) = false := by simpa using hc
      clear hc
      go_upto_region 13 with fail
      have e0 : IntKind.i64.wrap (x8 + 1) = x8 + 1 := by rw [IntKind.wrap_i64]; omega
      have e1 : IntKind.i64.wrap (i + 14) = i + 14 := by rw [IntKind.wrap_i64]; omega
      have e2 : IntKind.i64.wrap (x8 + 1 + vg) = x8 + 1 + vg := by rw [IntKind.wrap_i64]; omega
      have eg := EG.out
      have gG0 : u8.drew.heap[w.heap.size]? = some (.cells c.toArray 32 (0, 0)) := G0.out
      have gG4 : u8.drew.heap[(w.heap.size + 1)]? = some (.cells #[I 0, I 0, I 0, I 0, I 0, I 0, I 0, I 0, I 0, I 0, I 0] 76 (0, 0)) := G4.out
      have g5 : u8.drew.heap[b5]? = some (.cells #[I bv, I (withS T x4 x5), I (withS T x0 x1), I (withS T x2 x3), I x8, I (1 + x9), I xa, I (1 + x6), I (1 + xb), I 0, I 0] 76 (0, 0)) := G5.out
      have hb : Below w.heap.size w u8.drew := HB.out.drew
      clear G0 G4 G5 HB
      refine QB.region_tail 11 (by kernel_rfl) (by kernel_rfl) ?_
      generalize World.drew u8 = u9 at gG0 gG4 g5 hb ⊢
      have G0 := Lib.hid gG0
      have G4 := Lib.hid gG4
      have G5 := Lib.hid g5
      have HB := Lib.hid hb
      clear gG0 gG4 g5 hb
      have c4 : u9.cell? ⟨b5, 4, none⟩ = some (I x8) := by rw [cell_of_row _ _ _ _ _ _ G5.out]; rfl
      have c10 : u9.cell? ⟨b5, 10, none⟩ = some (I 0) := by rw [cell_of_row _ _ _ _ _ _ G5.out]; rfl
      have f10 : u9.frozen? ⟨b5, 10, none⟩ = false := frozen_of_row _ _ _ _ _ G5.out
      simp only [List.take_succ_cons, List.take_zero, List.drop_succ_cons, List.drop_zero]
      repeat still_step
      still_call (Fg.out _ HB.out)
      repeat still_step
      refine wpStill_nil ?_
      go_upto_region 14 with fail
      clear e0 e1 e2 eg
      have g5 := heap_setCell_same u9 b5 10 _ _ (I (x8 + 1 + vg)) G5.out
      simp only [List.setIfInBounds_toArray, List.set_cons_succ, List.set_cons_zero] at g5
      have gG0 := (Below.heap_setCell u9 ⟨b5, 10, none⟩ (I (x8 + 1 + vg)) w.heap.size (by simp; omega)).trans G0.out
      have gG4 := (Below.heap_setCell u9 ⟨b5, 10, none⟩ (I (x8 + 1 + vg)) (w.heap.size + 1) (by simp; omega)).trans G4.out
      have hb := Owned.below_write HB.out (g := b5) (i := 10) (by omega) (I (x8 + 1 + vg))
      clear c4 c10 f10 G0 G4 G5 HB
      generalize World.setCell u9 ⟨b5, 10, none⟩ (I (x8 + 1 + vg)) = u10 at gG0 gG4 g5 hb ⊢
      have G0 := Lib.hid gG0
      have G4 := Lib.hid gG4
      have G5 := Lib.hid g5
      have HB := Lib.hid hb
      clear gG0 gG4 g5 hb
      have FIN : Hid (R.cells.toArray = #[I bv, I (withS T x4 x5), I (withS T x0 x1), I (withS T x2 x3), I x8, I (1 + x9), I xa, I (1 + x6), I (1 + xb), I 0, I (x8 + 1 + vg)]) := Lib.hid (by rw [RES.out]; simp only [Rl.cells, if_pos H4.out, if_neg HC.out])
      have LV : Hid (Lies u10 ⟨b5, 0, none⟩ #[I bv, I (withS T x4 x5), I (withS T x0 x1), I (withS T x2 x3), I x8, I (1 + x9), I xa, I (1 + x6), I (1 + xb), I 0, I (x8 + 1 + vg)].toList) := Lib.hid (Row.lies_of_block G5.out)
      have HG := Lib.hid (below_setRow HB.out (g := w.heap.size + 1) (by omega) #[I bv, I (withS T x4 x5), I (withS T x0 x1), I (withS T x2 x3), I x8, I (1 + x9), I xa, I (1 + x6), I (1 + xb), I 0, I (x8 + 1 + vg)])
      have HK := Lib.hid (setRow_heap u10 (w.heap.size + 1) _ #[I bv, I (withS T x4 x5), I (withS T x0 x1), I (withS T x2 x3), I x8, I (1 + x9), I xa, I (1 + x6), I (1 + xb), I 0, I (x8 + 1 + vg)] _ _ G4.out)
      go_wp2_with (first | (refine Row.wpList_load_g 76 _ rfl (by first | rfl | go_simp) ⟨b5, 0, none⟩ rfl #[I bv, I (withS T x4 x5), I (withS T x0 x1), I (withS T x2 x3), I x8, I (1 + x9), I xa, I (1 + x6), I (1 + xb), I 0, I (x8 + 1 + vg)].toList _ LV.out Try.underlying76 rfl infoR ?_) | (refine wpList_store_row rfl 76 _ _ rfl (w.heap.size + 1) #[I bv, I (withS T x4 x5), I (withS T x0 x1), I (withS T x2 x3), I x8, I (1 + x9), I xa, I (1 + x6), I (1 + xb), I 0, I (x8 + 1 + vg)] rfl rfl 76 _ G4.out infoR rfl (by simp [Value.oneCell']) ?_))
      generalize u10.setRow (w.heap.size + 1) #[I bv, I (withS T x4 x5), I (withS T x0 x1), I (withS T x2 x3), I x8, I (1 + x9), I xa, I (1 + x6), I (1 + xb), I 0, I (x8 + 1 + vg)] = uz at HG HK ⊢
      go_wp2_with fail
      (try simp only [Exit.inBlock, Exit.then])
      refine bodyPost_ret (v := .agg #[I bv, I (withS T x4 x5), I (withS T x0 x1), I (withS T x2 x3), I x8, I (1 + x9), I xa, I (1 + x6), I (1 + xb), I 0, I (x8 + 1 + vg)]) ?_ rfl ⟨by rw [FIN.out], HG.out⟩
      exact results_cell_row rfl _ _ (w.heap.size + 1) 76 _ (0, 0) _ rfl HK.out Try.underlying76 rfl infoR
  · have H4 := Lib.hid h4
    go_upto_region 6 with fail
    clear h4
    have e0 : IntKind.i64.wrap (i + 7) = i + 7 := by rw [IntKind.wrap_i64]; omega
    have eb := EB.out
    have gG0 : u0.drew.heap[w.heap.size]? = some (.cells c.toArray 32 (0, 0)) := G0.out
    have gG4 : u0.drew.heap[(w.heap.size + 1)]? = some (.cells #[I 0, I 0, I 0, I 0, I 0, I 0, I 0, I 0, I 0, I 0, I 0] 76 (0, 0)) := G4.out
    have g5 : u0.drew.heap[b5]? = some (.cells #[I 0, I 0, I (withS T x0 x1), I (withS T x2 x3), I 0, I 0, I 0, I 0, I 0, I 0, I 0] 76 (0, 0)) := G5.out
    have hb : Below w.heap.size w u0.drew := HB.out.drew
    clear G0 G4 G5 HB
    refine QB.region_tail 13 (by kernel_rfl) (by kernel_rfl) ?_
    generalize World.drew u0 = u1 at gG0 gG4 g5 hb ⊢
    have G0 := Lib.hid gG0
    have G4 := Lib.hid gG4
    have G5 := Lib.hid g5
    have HB := Lib.hid hb
    clear gG0 gG4 g5 hb
    have c0 : u1.cell? ⟨b5, 0, none⟩ = some (I 0) := by rw [cell_of_row _ _ _ _ _ _ G5.out]; rfl
    have c2 : u1.cell? ⟨b5, 2, none⟩ = some (I (withS T x0 x1)) := by rw [cell_of_row _ _ _ _ _ _ G5.out]; rfl
    have f0 : u1.frozen? ⟨b5, 0, none⟩ = false := frozen_of_row _ _ _ _ _ G5.out
    simp only [List.take_succ_cons, List.take_zero, List.drop_succ_cons, List.drop_zero]
    repeat still_step
    still_call (F7.out _ HB.out)
    repeat still_step
    refine wpStill_nil ?_
    go_upto_region 7 with fail
    clear e0 eb
    have g5 := heap_setCell_same u1 b5 0 _ _ (I bv) G5.out
    simp only [List.setIfInBounds_toArray, List.set_cons_succ, List.set_cons_zero] at g5
    have gG0 := (Below.heap_setCell u1 ⟨b5, 0, none⟩ (I bv) w.heap.size (by simp; omega)).trans G0.out
    have gG4 := (Below.heap_setCell u1 ⟨b5, 0, none⟩ (I bv) (w.heap.size + 1) (by simp; omega)).trans G4.out
    have hb := Owned.below_write HB.out (g := b5) (i := 0) (by omega) (I bv)
    clear c0 c2 f0 G0 G4 G5 HB
    generalize World.setCell u1 ⟨b5, 0, none⟩ (I bv) = u2 at gG0 gG4 g5 hb ⊢
    have G0 := Lib.hid gG0
    have G4 := Lib.hid gG4
    have G5 := Lib.hid g5
    have HB := Lib.hid hb
    clear gG0 gG4 g5 hb
    have c4 : u2.cell? ⟨b5, 4, none⟩ = some (I 0) := by rw [cell_of_row _ _ _ _ _ _ G5.out]; rfl
    have f4 : u2.frozen? ⟨b5, 4, none⟩ = false := frozen_of_row _ _ _ _ _ G5.out
    go_wp2_with fail
    refine (F8.out _ HB.out).mono ?_
    rintro e w' ⟨rfl, hq⟩
    subst w'
    go_upto_region 8 with fail
    have g5 := heap_setCell_same u2 b5 4 _ _ (I x8) G5.out
    simp only [List.setIfInBounds_toArray, List.set_cons_succ, List.set_cons_zero] at g5
    have gG0 := (Below.heap_setCell u2 ⟨b5, 4, none⟩ (I x8) w.heap.size (by simp; omega)).trans G0.out
    have gG4 := (Below.heap_setCell u2 ⟨b5, 4, none⟩ (I x8) (w.heap.size + 1) (by simp; omega)).trans G4.out
    have hb := Owned.below_write HB.out (g := b5) (i := 4) (by omega) (I x8)
    clear c4 f4 G0 G4 G5 HB
    generalize World.setCell u2 ⟨b5, 4, none⟩ (I x8) = u3 at gG0 gG4 g5 hb ⊢
    have G0 := Lib.hid gG0
    have G4 := Lib.hid gG4
    have G5 := Lib.hid g5
    have HB := Lib.hid hb
    clear gG0 gG4 g5 hb
    have c5 : u3.cell? ⟨b5, 5, none⟩ = some (I 0) := by rw [cell_of_row _ _ _ _ _ _ G5.out]; rfl
    have f5 : u3.frozen? ⟨b5, 5, none⟩ = false := frozen_of_row _ _ _ _ _ G5.out
    go_wp2_with fail
    refine (F9.out _ HB.out).mono ?_
    rintro e w' ⟨rfl, hq⟩
    subst w'
    go_upto_region 9 with fail
    have g5 := heap_setCell_same u3 b5 5 _ _ (I (1 + x9)) G5.out
    simp only [List.setIfInBounds_toArray, List.set_cons_succ, List.set_cons_zero] at g5
    have gG0 := (Below.heap_setCell u3 ⟨b5, 5, none⟩ (I (1 + x9)) w.heap.size (by simp; omega)).trans G0.out
    have gG4 := (Below.heap_setCell u3 ⟨b5, 5, none⟩ (I (1 + x9)) (w.heap.size + 1) (by simp; omega)).trans G4.out
    have hb := Owned.below_write HB.out (g := b5) (i := 5) (by omega) (I (1 + x9))
    clear c5 f5 G0 G4 G5 HB
    generalize World.setCell u3 ⟨b5, 5, none⟩ (I (1 + x9)) = u4 at gG0 gG4 g5 hb ⊢
    have G0 := Lib.hid gG0
    have G4 := Lib.hid gG4
    have G5 := Lib.hid g5
    have HB := Lib.hid hb
    clear gG0 gG4 g5 hb
    have c6 : u4.cell? ⟨b5, 6, none⟩ = some (I 0) := by rw [cell_of_row _ _ _ _ _ _ G5.out]; rfl
    have f6 : u4.frozen? ⟨b5, 6, none⟩ = false := frozen_of_row _ _ _ _ _ G5.out
    go_wp2_with fail
    refine (Fa.out _ HB.out).mono ?_
    rintro e w' ⟨rfl, hq⟩
    subst w'
    go_upto_region 10 with fail
    have g5 := heap_setCell_same u4 b5 6 _ _ (I xa) G5.out
    simp only [List.setIfInBounds_toArray, List.set_cons_succ, List.set_cons_zero] at g5
    have gG0 := (Below.heap_setCell u4 ⟨b5, 6, none⟩ (I xa) w.heap.size (by simp; omega)).trans G0.out
    have gG4 := (Below.heap_setCell u4 ⟨b5, 6, none⟩ (I xa) (w.heap.size + 1) (by simp; omega)).trans G4.out
    have hb := Owned.below_write HB.out (g := b5) (i := 6) (by omega) (I xa)
    clear c6 f6 G0 G4 G5 HB
    generalize World.setCell u4 ⟨b5, 6, none⟩ (I xa) = u5 at gG0 gG4 g5 hb ⊢
    have G0 := Lib.hid gG0
    have G4 := Lib.hid gG4
    have G5 := Lib.hid g5
    have HB := Lib.hid hb
    clear gG0 gG4 g5 hb
    have c8 : u5.cell? ⟨b5, 8, none⟩ = some (I 0) := by rw [cell_of_row _ _ _ _ _ _ G5.out]; rfl
    have f8 : u5.frozen? ⟨b5, 8, none⟩ = false := frozen_of_row _ _ _ _ _ G5.out
    go_wp2_with fail
    refine (Fb.out _ HB.out).mono ?_
    rintro e w' ⟨rfl, hq⟩
    subst w'
    go_upto_region 11 with fail
    have g5 := heap_setCell_same u5 b5 8 _ _ (I (1 + xb)) G5.out
    simp only [List.setIfInBounds_toArray, List.set_cons_succ, List.set_cons_zero] at g5
    have gG0 := (Below.heap_setCell u5 ⟨b5, 8, none⟩ (I (1 + xb)) w.heap.size (by simp; omega)).trans G0.out
    have gG4 := (Below.heap_setCell u5 ⟨b5, 8, none⟩ (I (1 + xb)) (w.heap.size + 1) (by simp; omega)).trans G4.out
    have hb := Owned.below_write HB.out (g := b5) (i := 8) (by omega) (I (1 + xb))
    clear c8 f8 G0 G4 G5 HB
    generalize World.setCell u5 ⟨b5, 8, none⟩ (I (1 + xb)) = u6 at gG0 gG4 g5 hb ⊢
    have G0 := Lib.hid gG0
    have G4 := Lib.hid gG4
    have G5 := Lib.hid g5
    have HB := Lib.hid hb
    clear gG0 gG4 g5 hb
    go_wp2_with fail
    refine (Fc.out _ HB.out).mono ?_
    rintro e w' ⟨rfl, hq⟩
    subst w'
    by_cases hc : xc = 1
    · have HC := Lib.hid hc
      have ec : (xc == 1) = true := by simpa using hc
      clear hc
      go_upto_region 12 with fail
      have e0 : IntKind.i64.wrap (i + 13) = i + 13 := by rw [IntKind.wrap_i64]; omega
      have e1 : IntKind.i64.wrap (1 + xb + xd) = 1 + xb + xd := by rw [IntKind.wrap_i64]; omega
      have gG0 : u6.drew.heap[w.heap.size]? = some (.cells c.toArray 32 (0, 0)) := G0.out
      have gG4 : u6.drew.heap[(w.heap.size + 1)]? = some (.cells #[I 0, I 0, I 0, I 0, I 0, I 0, I 0, I 0, I 0, I 0, I 0] 76 (0, 0)) := G4.out
      have g5 : u6.drew.heap[b5]? = some (.cells #[I bv, I 0, I (withS T x0 x1), I (withS T x2 x3), I x8, I (1 + x9), I xa, I 0, I (1 + xb), I 0, I 0] 76 (0, 0)) := G5.out
      have hb : Below w.heap.size w u6.drew := HB.out.drew
      clear G0 G4 G5 HB
      refine QB.region_tail 8 (by kernel_rfl) (by kernel_rfl) ?_
      generalize World.drew u6 = u7 at gG0 gG4 g5 hb ⊢
      have G0 := Lib.hid gG0
      have G4 := Lib.hid gG4
      have G5 := Lib.hid g5
      have HB := Lib.hid hb
      clear gG0 gG4 g5 hb
      have c8 : u7.cell? ⟨b5, 8, none⟩ = some (I (1 + xb)) := by rw [cell_of_row _ _ _ _ _ _ G5.out]; rfl
      have c9 : u7.cell? ⟨b5, 9, none⟩ = some (I 0) := by rw [cell_of_row _ _ _ _ _ _ G5.out]; rfl
      have f9 : u7.frozen? ⟨b5, 9, none⟩ = false := frozen_of_row _ _ _ _ _ G5.out
      simp only [List.take_succ_cons, List.take_zero, List.drop_succ_cons, List.drop_zero]
      repeat still_step
      still_call (Fd.out _ HB.out)
      repeat still_step
      refine wpStill_nil ?_
      go_upto_region 13 with fail
      clear e0 e1
      have g5 := heap_setCell_same u7 b5 9 _ _ (I (1 + xb + xd)) G5.out
      simp only [List.setIfInBounds_toArray, List.set_cons_succ, List.set_cons_zero] at g5
      have gG0 := (Below.heap_setCell u7 ⟨b5, 9, none⟩ (I (1 + xb + xd)) w.heap.size (by simp; omega)).trans G0.out
      have gG4 := (Below.heap_setCell u7 ⟨b5, 9, none⟩ (I (1 + xb + xd)) (w.heap.size + 1) (by simp; omega)).trans G4.out
      have hb := Owned.below_write HB.out (g := b5) (i := 9) (by omega) (I (1 + xb + xd))
      clear c8 c9 f9 G0 G4 G5 HB
      generalize World.setCell u7 ⟨b5, 9, none⟩ (I (1 + xb + xd)) = u8 at gG0 gG4 g5 hb ⊢
      have G0 := Lib.hid gG0
      have G4 := Lib.hid gG4
      have G5 := Lib.hid g5
      have HB := Lib.hid hb
      clear gG0 gG4 g5 hb
      have e0 : IntKind.i64.wrap (x8 + 1) = x8 + 1 := by rw [IntKind.wrap_i64]; omega
      have e1 : IntKind.i64.wrap (i + 14) = i + 14 := by rw [IntKind.wrap_i64]; omega
      have e2 : IntKind.i64.wrap (x8 + 1 + vg) = x8 + 1 + vg := by rw [IntKind.wrap_i64]; omega
      have eg := EG.out
      have gG0 : u8.drew.heap[w.heap.size]? = some (.cells c.toArray 32 (0, 0)) := G0.out
      have gG4 : u8.drew.heap[(w.heap.size + 1)]? = some (.cells #[I 0, I 0, I 0, I 0, I 0, I 0, I 0, I 0, I 0, I 0, I 0] 76 (0, 0)) := G4.out
      have g5 : u8.drew.heap[b5]? = some (.cells #[I bv, I 0, I (withS T x0 x1), I (withS T x2 x3), I x8, I (1 + x9), I xa, I 0, I (1 + xb), I (1 + xb + xd), I 0] 76 (0, 0)) := G5.out
      have hb : Below w.heap.size w u8.drew := HB.out.drew
      clear G0 G4 G5 HB
      refine QB.region_tail 11 (by kernel_rfl) (by kernel_rfl) ?_
      generalize World.drew u8 = u9 at gG0 gG4 g5 hb ⊢
      have G0 := Lib.hid gG0
      have G4 := Lib.hid gG4
      have G5 := Lib.hid g5
      have HB := Lib.hid hb
      clear gG0 gG4 g5 hb
      have c4 : u9.cell? ⟨b5, 4, none⟩ = some (I x8) := by rw [cell_of_row _ _ _ _ _ _ G5.out]; rfl
      have c10 : u9.cell? ⟨b5, 10, none⟩ = some (I 0) := by rw [cell_of_row _ _ _ _ _ _ G5.out]; rfl
      have f10 : u9.frozen? ⟨b5, 10, none⟩ = false := frozen_of_row _ _ _ _ _ G5.out
      simp only [List.take_succ_cons, List.take_zero, List.drop_succ_cons, List.drop_zero]
      repeat still_step
      still_call (Fg.out _ HB.out)
      repeat still_step
      refine wpStill_nil ?_
      go_upto_region 14 with fail
      clear e0 e1 e2 eg
      have g5 := heap_setCell_same u9 b5 10 _ _ (I (x8 + 1 + vg)) G5.out
      simp only [List.setIfInBounds_toArray, List.set_cons_succ, List.set_cons_zero] at g5
      have gG0 := (Below.heap_setCell u9 ⟨b5, 10, none⟩ (I (x8 + 1 + vg)) w.heap.size (by simp; omega)).trans G0.out
      have gG4 := (Below.heap_setCell u9 ⟨b5, 10, none⟩ (I (x8 + 1 + vg)) (w.heap.size + 1) (by simp; omega)).trans G4.out
      have hb := Owned.below_write HB.out (g := b5) (i := 10) (by omega) (I (x8 + 1 + vg))
      clear c4 c10 f10 G0 G4 G5 HB
      generalize World.setCell u9 ⟨b5, 10, none⟩ (I (x8 + 1 + vg)) = u10 at gG0 gG4 g5 hb ⊢
      have G0 := Lib.hid gG0
      have G4 := Lib.hid gG4
      have G5 := Lib.hid g5
      have HB := Lib.hid hb
      clear gG0 gG4 g5 hb
      have FIN : Hid (R.cells.toArray = #[I bv, I 0, I (withS T x0 x1), I (withS T x2 x3), I x8, I (1 + x9), I xa, I 0, I (1 + xb), I (1 + xb + xd), I (x8 + 1 + vg)]) := Lib.hid (by rw [RES.out]; simp only [Rl.cells, if_neg (Int.not_lt.2 H4.out), if_pos HC.out])
      have LV : Hid (Lies u10 ⟨b5, 0, none⟩ #[I bv, I 0, I (withS T x0 x1), I (withS T x2 x3), I x8, I (1 + x9), I xa, I 0, I (1 + xb), I (1 + xb + xd), I (x8 + 1 + vg)].toList) := Lib.hid (Row.lies_of_block G5.out)
      have HG := Lib.hid (below_setRow HB.out (g := w.heap.size + 1) (by omega) #[I bv, I 0, I (withS T x0 x1), I (withS T x2 x3), I x8, I (1 + x9), I xa, I 0, I (1 + xb), I (1 + xb + xd), I (x8 + 1 + vg)])
      have HK := Lib.hid (setRow_heap u10 (w.heap.size + 1) _ #[I bv, I 0, I (withS T x0 x1), I (withS T x2 x3), I x8, I (1 + x9), I xa, I 0, I (1 + xb), I (1 + xb + xd), I (x8 + 1 + vg)] _ _ G4.out)
      go_wp2_with (first | (refine Row.wpList_load_g 76 _ rfl (by first | rfl | go_simp) ⟨b5, 0, none⟩ rfl #[I bv, I 0, I (withS T x0 x1), I (withS T x2 x3), I x8, I (1 + x9), I xa, I 0, I (1 + xb), I (1 + xb + xd), I (x8 + 1 + vg)].toList _ LV.out Try.underlying76 rfl infoR ?_) | (refine wpList_store_row rfl 76 _ _ rfl (w.heap.size + 1) #[I bv, I 0, I (withS T x0 x1), I (withS T x2 x3), I x8, I (1 + x9), I xa, I 0, I (1 + xb), I (1 + xb + xd), I (x8 + 1 + vg)] rfl rfl 76 _ G4.out infoR rfl (by simp [Value.oneCell']) ?_))
      generalize u10.setRow (w.heap.size + 1) #[I bv, I 0, I (withS T x0 x1), I (withS T x2 x3), I x8, I (1 + x9), I xa, I 0, I (1 + xb), I (1 + xb + xd), I (x8 + 1 + vg)] = uz at HG HK ⊢
      go_wp2_with fail
      (try simp only [Exit.inBlock, Exit.then])
      refine bodyPost_ret (v := .agg #[I bv, I 0, I (withS T x0 x1), I (withS T x2 x3), I x8, I (1 + x9), I xa, I 0, I (1 + xb), I (1 + xb + xd), I (x8 + 1 + vg)]) ?_ rfl ⟨by rw [FIN.out], HG.out⟩
      exact results_cell_row rfl _ _ (w.heap.size + 1) 76 _ (0, 0) _ rfl HK.out Try.underlying76 rfl infoR
    · have HC := Lib.hid hc
      have ec : (xc == 1) = false := by simpa using hc
      clear hc
      go_upto_region 13 with fail
      have e0 : IntKind.i64.wrap (x8 + 1) = x8 + 1 := by rw [IntKind.wrap_i64]; omega
      have e1 : IntKind.i64.wrap (i + 14) = i + 14 := by rw [IntKind.wrap_i64]; omega
      have e2 : IntKind.i64.wrap (x8 + 1 + vg) = x8 + 1 + vg := by rw [IntKind.wrap_i64]; omega
      have eg := EG.out
      have gG0 : u6.drew.heap[w.heap.size]? = some (.cells c.toArray 32 (0, 0)) := G0.out
      have gG4 : u6.drew.heap[(w.heap.size + 1)]? = some (.cells #[I 0, I 0, I 0, I 0, I 0, I 0, I 0, I 0, I 0, I 0, I 0] 76 (0, 0)) := G4.out
      have g5 : u6.drew.heap[b5]? = some (.cells #[I bv, I 0, I (withS T x0 x1), I (withS T x2 x3), I x8, I (1 + x9), I xa, I 0, I (1 + xb), I 0, I 0] 76 (0, 0)) := G5.out
      have hb : Below w.heap.size w u6.drew := HB.out.drew
      clear G0 G4 G5 HB
      refine QB.region_tail 11 (by kernel_rfl) (by kernel_rfl) ?_
      generalize World.drew u6 = u7 at gG0 gG4 g5 hb ⊢
      have G0 := Lib.hid gG0
      have G4 := Lib.hid gG4
      have G5 := Lib.hid g5
      have HB := Lib.hid hb
      clear gG0 gG4 g5 hb
      have c4 : u7.cell? ⟨b5, 4, none⟩ = some (I x8) := by rw [cell_of_row _ _ _ _ _ _ G5.out]; rfl
      have c10 : u7.cell? ⟨b5, 10, none⟩ = some (I 0) := by rw [cell_of_row _ _ _ _ _ _ G5.out]; rfl
      have f10 : u7.frozen? ⟨b5, 10, none⟩ = false := frozen_of_row _ _ _ _ _ G5.out
      simp only [List.take_succ_cons, List.take_zero, List.drop_succ_cons, List.drop_zero]
      repeat still_step
      still_call (Fg.out _ HB.out)
      repeat still_step
      refine wpStill_nil ?_
      go_upto_region 14 with fail
      clear e0 e1 e2 eg
      have g5 := heap_setCell_same u7 b5 10 _ _ (I (x8 + 1 + vg)) G5.out
      simp only [List.setIfInBounds_toArray, List.set_cons_succ, List.set_cons_zero] at g5
      have gG0 := (Below.heap_setCell u7 ⟨b5, 10, none⟩ (I (x8 + 1 + vg)) w.heap.size (by simp; omega)).trans G0.out
      have gG4 := (Below.heap_setCell u7 ⟨b5, 10, none⟩ (I (x8 + 1 + vg)) (w.heap.size + 1) (by simp; omega)).trans G4.out
      have hb := Owned.below_write HB.out (g := b5) (i := 10) (by omega) (I (x8 + 1 + vg))
      clear c4 c10 f10 G0 G4 G5 HB
      generalize World.setCell u7 ⟨b5, 10, none⟩ (I (x8 + 1 + vg)) = u8 at gG0 gG4 g5 hb ⊢
      have G0 := Lib.hid gG0
      have G4 := Lib.hid gG4
      have G5 := Lib.hid g5
      have HB := Lib.hid hb
      clear gG0 gG4 g5 hb
      have FIN : Hid (R.cells.toArray = #[I bv, I 0, I (withS T x0 x1), I (withS T x2 x3), I x8, I (1 + x9), I xa, I 0, I (1 + xb), I 0, I (x8 + 1 + vg)]) := Lib.hid (by rw [RES.out]; simp only [Rl.cells, if_neg (Int.not_lt.2 H4.out), if_neg HC.out])
      have LV : Hid (Lies u8 ⟨b5, 0, none⟩ #[I bv, I 0, I (withS T x0 x1), I (withS T x2 x3), I x8, I (1 + x9), I xa, I 0, I (1 + xb), I 0, I (x8 + 1 + vg)].toList) := Lib.hid (Row.lies_of_block G5.out)
      have HG := Lib.hid (below_setRow HB.out (g := w.heap.size + 1) (by omega) #[I bv, I 0, I (withS T x0 x1), I (withS T x2 x3), I x8, I (1 + x9), I xa, I 0, I (1 + xb), I 0, I (x8 + 1 + vg)])
      have HK := Lib.hid (setRow_heap u8 (w.heap.size + 1) _ #[I bv, I 0, I (withS T x0 x1), I (withS T x2 x3), I x8, I (1 + x9), I xa, I 0, I (1 + xb), I 0, I (x8 + 1 + vg)] _ _ G4.out)
      go_wp2_with (first | (refine Row.wpList_load_g 76 _ rfl (by first | rfl | go_simp) ⟨b5, 0, none⟩ rfl #[I bv, I 0, I (withS T x0 x1), I (withS T x2 x3), I x8, I (1 + x9), I xa, I 0, I (1 + xb), I 0, I (x8 + 1 + vg)].toList _ LV.out Try.underlying76 rfl infoR ?_) | (refine wpList_store_row rfl 76 _ _ rfl (w.heap.size + 1) #[I bv, I 0, I (withS T x0 x1), I (withS T x2 x3), I x8, I (1 + x9), I xa, I 0, I (1 + xb), I 0, I (x8 + 1 + vg)] rfl rfl 76 _ G4.out infoR rfl (by simp [Value.oneCell']) ?_))
      generalize u8.setRow (w.heap.size + 1) #[I bv, I 0, I (withS T x0 x1), I (withS T x2 x3), I x8, I (1 + x9), I xa, I 0, I (1 + xb), I 0, I (x8 + 1 + vg)] = uz at HG HK ⊢
      go_wp2_with fail
      (try simp only [Exit.inBlock, Exit.then])
      refine bodyPost_ret (v := .agg #[I bv, I 0, I (withS T x0 x1), I (withS T x2 x3), I x8, I (1 + x9), I xa, I 0, I (1 + xb), I 0, I (x8 + 1 + vg)]) ?_ rfl ⟨by rw [FIN.out], HG.out⟩
      exact results_cell_row rfl _ _ (w.heap.size + 1) 76 _ (0, 0) _ rfl HK.out Try.underlying76 rfl infoR
end GenR
namespace EntryS
open Go.ChangeShapes Go.WideShapes Go.ChangeAt Go.RowKit
open Tab Gath RefS OnS RefC Clear
open May (St phases_in infoP infoT infoR row_new)
def entryR (T : Tab) (r : Rl) : Int := sums [r.delay, r.hold, r.green, r.green, r.foot, r.foot, r.foot, clearS T, clearS T, clearS T, clearS T, clearS T, T.revert, T.revert, T.revert, 60]
def entryS (T : Tab) (k : Int) : Int := if k < 0 then 0 else match T.rails[k.toNat]? with
  | some r => entryR T r
  | none => 0
theorem entry_any (T : Tab) (h : Hd) (k : Int) (w : World) (ht : IsTab w h T) :
    Calls Try.prog 75 #[.agg (T.cells h).toArray, .int .i64 k] w fun e w' => e = .returned (.int .i64 (entryS T k)) ∧ Below w.heap.size w w' := by
  have C := Lib.hid (cells_ok ht)
  have hsz := C.out.size
  have IA : Hid ((Try.prog.info? 32).map (·.size) = some (T.cells h).length) := Lib.hid (by rw [List.size_toArray] at hsz; rw [hsz]; exact infoT)
  have CC : Hid (∀ W, Below w.heap.size w W → Calls Try.prog 77 #[.agg (T.cells h).toArray] W fun e w' => e = .returned (.int .i64 (clearS T)) ∧ Below W.heap.size W w') := Lib.hid (fun W hb => clear_any T h W (ht.below hb))
  have S0 := Lib.hid (St.box (cs := (T.cells h).toArray) ht)
  have Kr := ht.rails.len
  unfold maxLen at Kr
  have RS : Hid (entryS T k = if k < 0 then 0 else match T.rails[k.toNat]? with
    | some r => entryR T r
    | none => 0) := Lib.hid rfl
  have ER : Hid (∀ r, entryR T r = sums [r.delay, r.hold, r.green, r.green, r.foot, r.foot, r.foot, clearS T, clearS T, clearS T, clearS T, clearS T, T.revert, T.revert, T.revert, 60]) := Lib.hid (fun r => rfl)
  generalize entryS T k = e0 at RS ⊢
  generalize clearS T = cl at CC ER
  clear ht
  generalize T.cells h = c at *
  go_enter Try.func75, Try.ntmps75
  go_upto_region 1 with fail
  generalize w.alloc (.cells c.toArray 32) = w1 at S0 ⊢
  clear hsz
  have q114 := S0.out.cell C.out.r
  by_cases h0 : k < 0
  · have HE : Hid (0 = e0) := Lib.hid (by rw [RS.out, if_pos h0])
    go_wp2
    go_ret
    exact ⟨RefC.ret_int HE.out, S0.out.bel⟩
  obtain ⟨m, rfl⟩ := Int.eq_ofNat_of_zero_le (show 0 ≤ k by omega)
  by_cases h1 : T.rails.length ≤ m
  · have HE : Hid (0 = e0) := Lib.hid (by rw [RS.out, if_neg h0, Int.toNat_natCast, List.getElem?_eq_none h1])
    go_wp2
    go_ret
    exact ⟨RefC.ret_int HE.out, S0.out.bel⟩
  have hlt : m < T.rails.length := by omega
  have hv := List.getElem?_eq_getElem hlt
  generalize T.rails[m] = r at hv
  have HE : Hid (entryR T r = e0) := Lib.hid (by rw [RS.out, if_neg h0, Int.toNat_natCast, hv])
  obtain ⟨x, hx, hc⟩ := S0.out.tab.rails.at hv
  have HC := Lib.hid hc
  have qq : Hid (w1.cell? ⟨w.heap.size, 114, none⟩ = some (.slice (some x) T.rails.length h.r.cap)) := by have := q114; simp only [Sl.val, hx] at this; exact this
  clear hv hc hx q114 h0 h1 RS
  have q114 := qq.out
  go_upto_region 3 with fail
  go_upto_region 4 with (first | (refine Row.wpList_load_g 76 _ rfl (by first | rfl | go_simp) (x.add (m * 11)) rfl r.cells _ HC.out Try.underlying76 rfl infoR ?_) | (refine Row.wpList_store_new rfl 76 _ _ rfl w1 _ r.cells.toArray rfl rfl rfl infoR rfl (Rl.one _) ?_))
  have hb2 : Below w1.heap.size w1 (w1.alloc (.cells r.cells.toArray 76)) := (Below.refl _ _).alloc (Nat.le_refl _) _
  have hg := heap_alloc_new w1 (.cells r.cells.toArray 76)
  (try dsimp only [Act.put])
  have S1 := Lib.hid (S0.out.step hb2)
  clear q114 qq HC
  generalize World.alloc w1 _ = w2 at hg S1 ⊢
  generalize w1.heap.size = b at hg ⊢
  have HG := Lib.hid hg
  clear hg hb2 S0
  have LT : Hid (Lies w2 ⟨w.heap.size, 0, none⟩ c) := Lib.hid (by have := Row.lies_of_block S1.out.blk; simpa using this)
  go_wp2_with (refine Row.wpList_load_g 32 _ rfl (by first | rfl | go_simp) ⟨w.heap.size, 0, none⟩ rfl c _ LT.out Try.underlying32 rfl IA.out ?_)
  refine (CC.out _ S1.out.bel).mono ?_
  rintro e w3 ⟨rfl, hb⟩
  have S2 := Lib.hid (S1.out.step hb)
  have hg3 := (hb.block _ (Array.getElem?_eq_some_iff.1 HG.out).1).trans HG.out
  have HL : Hid (Lies w3 ⟨b, 0, none⟩ r.cells) := Lib.hid (by have := Row.lies_of_block hg3; simpa using this)
  clear hb hg3 HG S1 LT CC IA
  have c4 : w3.cell? ⟨b, 4, none⟩ = some (I r.delay) := by have := HL.out 4 _ rfl; rwa [Addr.add_mid, Nat.zero_add] at this
  have c5 : w3.cell? ⟨b, 5, none⟩ = some (I r.green) := by have := HL.out 5 _ rfl; rwa [Addr.add_mid, Nat.zero_add] at this
  have c6 : w3.cell? ⟨b, 6, none⟩ = some (I r.foot) := by have := HL.out 6 _ rfl; rwa [Addr.add_mid, Nat.zero_add] at this
  have c7 : w3.cell? ⟨b, 7, none⟩ = some (I r.hold) := by have := HL.out 7 _ rfl; rwa [Addr.add_mid, Nat.zero_add] at this
  have c119 := S2.out.cell C.out.revert
  go_wp2_with fail
  have hrow := row_new w3 3 [r.delay, r.hold, r.green, r.green, r.foot, r.foot, r.foot, cl, cl, cl, cl, cl, T.revert, T.revert, T.revert, 60] 16 rfl (by decide) _ rfl
  have HF : Hid (Below w.heap.size w (w3.alloc (.cells #[I r.delay, I r.hold, I r.green, I r.green, I r.foot, I r.foot, I r.foot, I cl, I cl, I cl, I cl, I cl, I T.revert, I T.revert, I T.revert, I 60] 3))) := Lib.hid (S2.out.bel.alloc S2.out.bel.size _)
  refine (sum_len (some ⟨w3.heap.size, 0, none⟩) 16 [r.delay, r.hold, r.green, r.green, r.foot, r.foot, r.foot, cl, cl, cl, cl, cl, T.revert, T.revert, T.revert, 60] 16 rfl _ hrow).mono ?_
  rintro e w' ⟨rfl, rfl⟩
  rw [← ER.out r, HE.out]
  clear hrow c4 c5 c6 c7 c119
  go_wp2
  go_ret
  exact ⟨rfl, HF.out⟩
end EntryS
end Go.Proofs.Ytjgpljnbeolapaa
