/- 9 texts in one file, in build order. -/
import Derived.Test.YtjolhoilcibdfaaGreatRows
import Derived.Test.YtjolhoilcibdfaaGreatPart06
import Derived.Deep.Cut
import Derived.LoopTactic
import Derived.Test.YtjolhoilcibdfaaGreatPart03
import Derived.Test.YtjolhoilcibdfaaGreatPart05
import Derived.Test.YtjolhoilcibdfaaGreatPart02
set_option linter.unusedVariables false
set_option linter.unusedSimpArgs false
set_option linter.unusedSectionVars false
/- The contract of package bound's bounds: the wait of each phase, the entry of each rail. -/
namespace Go.Proofs.YtjolhoilcibdfaaGreat.BdN
open Go.ChangeShapes Go.WideShapes Go.ChangeAt Go.RowKit
open Tab Gath OnS RefC Clear
open May (St phases_in infoP infoT row_new)
open FreeS OverS WaitS EntryS BdB PlaceM
set_option linter.unusedVariables false
set_option linter.unusedSimpArgs false
theorem infoBz : (Tryz.prog.info? 65).map (fun i => (i.zero, i.size)) = some (some (.agg (bcells (zeros 8) (zeros 4))), 12) := by kernel_rfl
theorem laid3 (w : World) (a b c : Array Value) (s t r : TypeId) : Bks w [(w.heap.size + 2, c, r), (w.heap.size + 1, b, t), (w.heap.size, a, s)] (((w.alloc (.cells a s)).alloc (.cells b t)).alloc (.cells c r)) := by
  have hb : Below w.heap.size w (((w.alloc (.cells a s)).alloc (.cells b t)).alloc (.cells c r)) := (((Below.refl _ _).alloc (Nat.le_refl _) _).alloc (by simp) _).alloc (by simp; omega) _
  refine ⟨hb, ?_, ?_⟩
  · intro x hx
    simp only [List.mem_cons, List.not_mem_nil, or_false] at hx
    rcases hx with rfl | rfl | rfl <;> simp
  · intro x hx
    simp only [List.mem_cons, List.not_mem_nil, or_false] at hx
    have s2 : ((w.alloc (.cells a s)).alloc (.cells b t)).heap.size = w.heap.size + 2 := by simp
    rcases hx with rfl | rfl | rfl
    · have := heap_alloc_new ((w.alloc (.cells a s)).alloc (.cells b t)) (.cells c r)
      rwa [s2] at this
    · rw [heap_alloc_old _ _ (by rw [s2]; simp)]; exact heap_alloc2_new w _ _
    · rw [heap_alloc_old _ _ (by rw [s2]; simp)]; exact heap_alloc2_old w _ _
theorem bks_lies {w1 u : World} {m : List (Nat × Array Value × TypeId)} (h : Bks w1 m u) {x : Nat × Array Value × TypeId} (hx : x ∈ m) : Lies u ⟨x.1, 0, none⟩ x.2.1.toList := Row.lies_of_block (h.blk x hx)
theorem bks_cell {w1 u : World} {m : List (Nat × Array Value × TypeId)} (h : Bks w1 m u) {x : Nat × Array Value × TypeId} (hx : x ∈ m) {o : Nat} {v : Value} (hv : x.2.1[o]? = some v) : u.cell? ⟨x.1, o, none⟩ = some v := by
  rw [cell_of_row _ _ _ _ _ _ (h.blk x hx)]; exact hv
theorem bks_frozen {w1 u : World} {m : List (Nat × Array Value × TypeId)} (h : Bks w1 m u) {x : Nat × Array Value × TypeId} (hx : x ∈ m) (o : Nat) : u.frozen? ⟨x.1, o, none⟩ = false := frozen_of_row _ _ _ _ _ (h.blk x hx)
set_option maxRecDepth 100000 in
set_option maxHeartbeats 8000000 in
theorem bounds_any (T : Tab) (h : Hd) (w : World) (ht : IsTab w h T) (sm : Few T) (hr : T.rails.length ≤ 4) :
    Calls Tryz.prog 69 #[.agg (T.cells h).toArray] w fun e w' => e = .returned (.agg (bcells (waitsL T) (entsL T))) ∧ Below w.heap.size w w' := by
  have C := Lib.hid (cells_ok ht)
  have hsz := C.out.size
  have IA : Hid ((Tryz.prog.info? 32).map (·.size) = some (T.cells h).length) := Lib.hid (by rw [List.size_toArray] at hsz; rw [hsz]; exact infoT)
  have WC : Hid (∀ (q : Nat) W, Below w.heap.size w W → Calls Tryz.prog 35 #[.agg (T.cells h).toArray, .int .i64 q] W fun e w' => e = .returned (.int .i64 (waitS T q)) ∧ Below W.heap.size W w') := Lib.hid (fun q W hb => BdW.pwait_any T h q W (ht.below hb) sm)
  have EC : Hid (∀ (q : Nat) W, Below w.heap.size w W → Calls Tryz.prog 31 #[.agg (T.cells h).toArray, .int .i64 q] W fun e w' => e = .returned (.int .i64 (entryS T q)) ∧ Below W.heap.size W w') := Lib.hid (fun q W hb => BdE.pentry_any T h q W (ht.below hb))
  have q114 := C.out.r
  have WA : Hid (∀ i : Nat, i < 8 → (waitsL T)[i]? = some (waitS T i)) := Lib.hid (fun i hi => waits_at T hi)
  have EA : Hid (∀ i : Nat, i < 4 → (entsL T)[i]? = some (entryS T i)) := Lib.hid (fun i hi => ents_at T hi)
  have EF : Hid (∀ k : Nat, T.rails.length ≤ k → entryS T k = 0) := Lib.hid (fun k hk => entry_far hk)
  have WL : Hid ((waitsL T).length = 8) := Lib.hid (waits_len T)
  have EL : Hid ((entsL T).length = 4) := Lib.hid (ents_len T)
  generalize waitsL T = wl at WA WL ⊢
  generalize entsL T = el at EA EL ⊢
  obtain ⟨sg, sd, ⟨ra, rcap⟩, sb⟩ := h
  clear ht sm C
  generalize T.cells _ = c at *
  have hz := (zero_of_info infoBz).1
  have ST := Lib.hid (laid3 w c.toArray (bcells (zeros 8) (zeros 4)) (bcells (zeros 8) (zeros 4)) 32 65 65)
  have H00 : Hid (bcells (zeros 8) (zeros 4) = bcells (upTo wl 8 0) (upTo el 4 0)) := Lib.hid rfl
  have HZs : Hid ((bcells (zeros 8) (zeros 4)).size = 12) := Lib.hid rfl
  generalize bcells (zeros 8) (zeros 4) = Z at *
  rw [H00.out] at ST
  generalize T.rails.length = n at *
  have HN := Lib.hid hr
  go_enter Tryz.func69, Tryz.ntmps69
  go_upto_region 2 with fail
  rw [← H00.out] at ST
  generalize (((w.alloc (.cells c.toArray 32)).alloc (.cells Z 65)).alloc (.cells Z 65)) = w1 at ST ⊢
  rw [H00.out] at ST
  clear hz hsz H00 HZs hr
  have LT : Hid (∀ W, Below w1.heap.size w1 W → Lies W ⟨w.heap.size, 0, none⟩ c) := Lib.hid (fun W hb => by have := bks_lies (ST.out.step hb) (x := (w.heap.size, c.toArray, 32)) (by simp); simpa using this)
  have Q114 : Hid (∀ W, Below w1.heap.size w1 W → W.cell? ⟨w.heap.size, 114, none⟩ = some (.slice ra n rcap)) := Lib.hid (fun W hb => bks_cell (ST.out.step hb) (x := (w.heap.size, c.toArray, 32)) (by simp) q114)
  have C114 := Lib.hid q114
  clear q114
  generalize hN0 : w.heap.size + 2 = N0 at *
  generalize hN1 : w.heap.size + 1 = N1 at *
  have NE : Hid (N0 ≠ N1 ∧ N0 ≠ w.heap.size ∧ N1 ≠ w.heap.size) := Lib.hid (by omega)
  clear hN0 hN1
  go_wp2_with fail
  go_loopw [6] (fun i wr => ∃ q : Nat, q ≤ 8 ∧ i = .int .i64 q ∧ Bks w [(N0, bcells (upTo wl 8 q) (upTo el 4 0), 65), (N1, bcells (upTo wl 8 0) (upTo el 4 0), 65), (w.heap.size, c.toArray, 32)] wr) (fun i _ => 8 - (intOf i).toNat)
  case atStart => exact ⟨0, by omega, rfl, ST.out⟩
  case round =>
    obtain ⟨q, hq, rfl, hB⟩ := hrel
    have HB := Lib.hid hB
    clear hB
    by_cases hlt : q < 8
    · skip
      have hv := WA.out q (by omega)
      have UP : Hid ((upTo wl 8 q).set q (waitS T q) = upTo wl 8 (q + 1)) := Lib.hid (upTo_succ WL.out hv)
      have WCq := Lib.hid (WC.out q)
      generalize waitS T q = x at UP WCq hv
      clear hv
      have LTW : Hid (Lies wr ⟨w.heap.size, 0, none⟩ c) := Lib.hid (by have := bks_lies HB.out (x := (w.heap.size, c.toArray, 32)) (by simp); simpa using this)
      go_wp2_with (refine Row.wpList_load_g 32 _ rfl (by first | rfl | go_simp) ⟨w.heap.size, 0, none⟩ rfl c _ LTW.out Tryz.underlying32 rfl IA.out ?_)
      refine (WCq.out _ HB.out.bel).mono ?_
      rintro e u5 ⟨rfl, hb⟩
      have HB5 := Lib.hid (HB.out.step hb)
      clear hb LTW WCq HB
      obtain ⟨v0, hv0⟩ : ∃ v0, (bcells (upTo wl 8 q) (upTo el 4 0))[q]? = some v0 := ⟨_, Array.getElem?_eq_getElem (by rw [bsize]; rw [upTo_len WL.out (by omega), upTo_len EL.out (by omega)]; omega)⟩
      have c5 : u5.cell? ⟨N0, q, none⟩ = some v0 := bks_cell HB5.out (x := (N0, bcells (upTo wl 8 q) (upTo el 4 0), 65)) (by simp) hv0
      have f5 : u5.frozen? ⟨N0, q, none⟩ = false := bks_frozen HB5.out (x := (N0, bcells (upTo wl 8 q) (upTo el 4 0), 65)) (by simp) (q)
      have HB6 : Hid (Bks w [(N0, bcells (upTo wl 8 (q + 1)) (upTo el 4 0), 65), (N1, bcells (upTo wl 8 0) (upTo el 4 0), 65), (w.heap.size, c.toArray, 32)] (u5.setCell ⟨N0, q, none⟩ (I x))) := Lib.hid (by
        have := HB5.out.set (by intro y hy; simp only [List.mem_cons, List.not_mem_nil, or_false] at hy; obtain ⟨n1, n2, n3⟩ := NE.out; rcases hy with rfl | rfl <;> simp only <;> omega) (q) (I x)
        rwa [setA x (by rw [upTo_len WL.out hq]; exact hlt), UP.out] at this)
      clear HB5 hv0
      go_wp2
      go_roundw
      case rel => exact ⟨q + 1, by omega, by go_num, HB6.out⟩
      case measure => simp [intOf]; omega
    · obtain rfl : q = 8 := by omega
      have HB2 : Hid (Bks w [(N0, bcells wl (upTo el 4 0), 65), (N1, bcells (upTo wl 8 0) (upTo el 4 0), 65), (w.heap.size, c.toArray, 32)] wr) := Lib.hid (by have := HB.out; rwa [upTo_full WL.out] at this)
      have q114 : wr.cell? ⟨w.heap.size, 114, none⟩ = some (.slice ra n rcap) := bks_cell HB2.out (x := (w.heap.size, c.toArray, 32)) (by simp) C114.out
      clear HB ST LT Q114 WC WA hq hlt
      rw [show ((8 : Nat) : Int) = (8 : Int) from rfl]
      go_upto_region 8 with fail
      clear q114
      go_loopw [19] (fun i wr => ∃ q : Nat, q ≤ n ∧ i = .int .i64 q ∧ Bks w [(N0, bcells wl (upTo el 4 q), 65), (N1, bcells (upTo wl 8 0) (upTo el 4 0), 65), (w.heap.size, c.toArray, 32)] wr) (fun i _ => n - (intOf i).toNat)
      case atStart => exact ⟨0, by omega, rfl, HB2.out⟩
      case round =>
        obtain ⟨q, hq, rfl, hB⟩ := hrel
        have HB := Lib.hid hB
        have hn4 := HN.out
        clear hB HB2
        by_cases hlt : q < n
        · skip
          have hv := EA.out q (by omega)
          have UP : Hid ((upTo el 4 q).set q (entryS T q) = upTo el 4 (q + 1)) := Lib.hid (upTo_succ EL.out hv)
          have WCq := Lib.hid (EC.out q)
          generalize entryS T q = x at UP WCq hv
          clear hv
          have LTW : Hid (Lies wr ⟨w.heap.size, 0, none⟩ c) := Lib.hid (by have := bks_lies HB.out (x := (w.heap.size, c.toArray, 32)) (by simp); simpa using this)
          go_wp2_with (refine Row.wpList_load_g 32 _ rfl (by first | rfl | go_simp) ⟨w.heap.size, 0, none⟩ rfl c _ LTW.out Tryz.underlying32 rfl IA.out ?_)
          refine (WCq.out _ HB.out.bel).mono ?_
          rintro e u5 ⟨rfl, hb⟩
          have HB5 := Lib.hid (HB.out.step hb)
          clear hb LTW WCq HB
          obtain ⟨v0, hv0⟩ : ∃ v0, (bcells wl (upTo el 4 q))[8 + q]? = some v0 := ⟨_, Array.getElem?_eq_getElem (by rw [bsize]; rw [WL.out, upTo_len EL.out (by omega)]; omega)⟩
          have c5 : u5.cell? ⟨N0, 8 + q, none⟩ = some v0 := bks_cell HB5.out (x := (N0, bcells wl (upTo el 4 q), 65)) (by simp) hv0
          have f5 : u5.frozen? ⟨N0, 8 + q, none⟩ = false := bks_frozen HB5.out (x := (N0, bcells wl (upTo el 4 q), 65)) (by simp) (8 + q)
          have HB6 : Hid (Bks w [(N0, bcells wl (upTo el 4 (q + 1)), 65), (N1, bcells (upTo wl 8 0) (upTo el 4 0), 65), (w.heap.size, c.toArray, 32)] (u5.setCell ⟨N0, 8 + q, none⟩ (I x))) := Lib.hid (by
            have := HB5.out.set (by intro y hy; simp only [List.mem_cons, List.not_mem_nil, or_false] at hy; obtain ⟨n1, n2, n3⟩ := NE.out; rcases hy with rfl | rfl <;> simp only <;> omega) (8 + q) (I x)
            rw [← WL.out, setE x (by rw [upTo_len EL.out (by omega)]; omega), UP.out, WL.out] at this; exact this)
          clear HB5 hv0
          go_wp2
          go_roundw
          case rel => exact ⟨q + 1, by omega, by go_num, HB6.out⟩
          case measure => simp [intOf]; omega
        · obtain rfl : q = n := by omega
          have HF : Hid (Bks w [(N0, ((wl ++ el).map I).toArray, 65), (N1, bcells (upTo wl 8 0) (upTo el 4 0), 65), (w.heap.size, c.toArray, 32)] wr) := Lib.hid (by
            have := HB.out
            rwa [upTo_same EL.out hn4 (fun j h1 h2 => by rw [EA.out j h2, EF.out j h1])] at this)
          have LB : Hid (Lies wr ⟨N0, 0, none⟩ ((wl ++ el).map I)) := Lib.hid (by have := bks_lies HF.out (x := (N0, ((wl ++ el).map I).toArray, 65)) (by simp); simpa using this)
          have K1 : Hid (wr.heap[N1]? = some (.cells (bcells (upTo wl 8 0) (upTo el 4 0)) 65 (0, 0))) := Lib.hid (HF.out.blk (N1, bcells (upTo wl 8 0) (upTo el 4 0), 65) (by simp))
          have hsz0 : (bcells (upTo wl 8 0) (upTo el 4 0)).size = 12 := by rw [bsize, upTo_len WL.out (by omega), upTo_len EL.out (by omega)]
          have hln : ((wl ++ el).map I).length = 12 := by rw [List.length_map, List.length_append, WL.out, EL.out]
          have LN : Hid (((wl ++ el).map I).length = 12) := Lib.hid hln
          have ON : Hid (((wl ++ el).map I).toArray.all (·.oneCell') = true) := Lib.hid (by have := bone wl el; exact this)
          have RF : Hid (bcells wl el = ((wl ++ el).map I).toArray) := Lib.hid rfl
          generalize (wl ++ el).map I = bc at HF LB LN ON RF
          generalize bcells (upTo wl 8 0) (upTo el 4 0) = Z0 at K1 hsz0 HF
          have Z12 := Lib.hid hsz0
          have IB : Hid ((Tryz.prog.info? 65).map (·.size) = some bc.length) := Lib.hid (by rw [LN.out]; exact infoB)
          have HW := Lib.hid (Same.below_setRow HF.out.bel (HF.out.own (N1, Z0, 65) (by simp)) bc.toArray)
          have HK := Lib.hid (setRow_heap wr N1 _ bc.toArray _ _ K1.out)
          clear hsz0 HB HF hln
          go_wp2_with (first | (refine Row.wpList_load_g 65 _ rfl (by first | rfl | go_simp) ⟨N0, 0, none⟩ rfl bc _ LB.out Tryz.underlying65 rfl IB.out ?_) | (refine wpList_store_row rfl 65 _ _ rfl N1 bc.toArray rfl rfl 65 _ K1.out (by rw [List.size_toArray]; exact IB.out) (by rw [Z12.out, List.size_toArray, LN.out]) ON.out ?_))
          generalize wr.setRow N1 bc.toArray = uz at HW HK ⊢
          (try go_wp2_with fail)
          (try simp only [Exit.inBlock, Exit.then])
          refine bodyPost_ret (v := .agg bc.toArray) ?_ rfl ⟨by rw [RF.out], HW.out⟩
          exact results_cell_row rfl _ _ N1 65 _ (0, 0) _ rfl HK.out Tryz.underlying65 rfl (by rw [List.size_toArray]; exact IB.out)
end Go.Proofs.YtjolhoilcibdfaaGreat.BdN
/- Two functions of package slices, over numbers. -/
namespace Go.Proofs.YtjolhoilcibdfaaGreat.BdI
open Go.ChangeShapes Go.WideShapes Go.ChangeAt Go.RowKit
open Tab Gath OnS RefC Clear
open May (St phases_in infoP infoT row_new)
set_option linter.unusedVariables false
set_option linter.unusedSimpArgs false
open BdS BdB
set_option maxHeartbeats 800000 in
theorem index_any (a : Option Addr) (cap : Nat) (L : List Int) (n : Nat) (hn : L.length = n) (w : World) (h : IntRow w ⟨a, cap⟩ L) :
    Calls Tryz.prog 105 #[.slice a n cap, .func (.func 106) #[] #[]] w fun e w' => e = .returned (.int .i64 (idxF L)) ∧ w = w' := by
  subst hn
  have hl := h.len
  unfold maxLen at hl
  have HF : Hid (∀ (k : Nat) v, (∀ x ∈ L.take k, full x = false) → L[k]? = some v → full v = true → idxF L = k) := Lib.hid (fun k v h1 h2 h3 => idx_at h1 h2 h3)
  have HN : Hid ((∀ x ∈ L, full x = false) → idxF L = -1) := Lib.hid idx_none
  generalize idxF L = res at *
  go_enter Tryz.func105, Tryz.ntmps105
  go_wp2
  go_loop [8] (fun i => ∃ k : Nat, k ≤ L.length ∧ i = .int .i64 k ∧ ∀ x ∈ L.take k, full x = false) (fun i => L.length - (intOf i).toNat)
  case atStart => exact ⟨0, Nat.zero_le _, rfl, by simp⟩
  case round =>
    obtain ⟨k, hk, rfl, hno⟩ := hrel
    have HNO := Lib.hid hno
    clear hno
    by_cases hlt : k < L.length
    · have hv := List.getElem?_eq_getElem hlt
      generalize L[k] = v at hv
      obtain ⟨x, hx, hc⟩ := IntRow.at h hv
      obtain rfl : a = some x := hx
      have HV := Lib.hid hv
      clear hv
      go_wp2_with fail
      refine (full_any v _).mono ?_
      rintro e w' ⟨rfl, rfl⟩
      cases hf : full v with
      | true =>
        have HR : Hid ((k : Int) = res) := Lib.hid (HF.out k v HNO.out HV.out hf).symm
        clear hf
        go_wp2
        go_ret
        exact ⟨RefC.ret_int HR.out, rfl⟩
      | false =>
        have HT := Lib.hid (take_all HNO.out HV.out hf)
        clear hf
        go_wp2
        go_round
        case rel => exact ⟨k + 1, by omega, by go_num, HT.out⟩
        case measure => simp [intOf]; omega
    · obtain rfl : k = L.length := by omega
      have HR : Hid (-1 = res) := Lib.hid (HN.out (by have := HNO.out; rwa [List.take_length] at this)).symm
      go_wp2
      go_ret
      exact ⟨RefC.ret_int HR.out, rfl⟩
theorem mx (m v : Int) : Value.int IntKind.i64 (if m < v then v else m) = Value.int IntKind.i64 (max m v) := by
  congr 1
  split <;> omega
theorem most_step {L : List Int} {k : Nat} {v : Int} (hv : L[k]? = some v) : mosts (L.take (k + 1)) = max (mosts (L.take k)) v := by
  rw [PlaceM.take_succ hv, BdM.mosts_snoc]
theorem most_one {L : List Int} {v : Int} (hv : L[0]? = some v) (h0 : 0 ≤ v) : mosts (L.take 1) = v := by
  rw [show (1 : Nat) = 0 + 1 from rfl, most_step hv, List.take_zero, BdM.mosts_nil]; omega
set_option maxHeartbeats 800000 in
theorem max_any (a : Option Addr) (cap : Nat) (L : List Int) (n : Nat) (hn : L.length = n) (h1 : 1 ≤ n) (h0 : ∀ x ∈ L, 0 ≤ x) (w : World) (h : IntRow w ⟨a, cap⟩ L) :
    Calls Tryz.prog 107 #[.slice a n cap] w fun e w' => e = .returned (.int .i64 (mosts L)) ∧ w = w' := by
  subst hn
  have hl := h.len
  unfold maxLen at hl
  have HS : Hid (∀ (k : Nat) v, L[k]? = some v → mosts (L.take (k + 1)) = max (mosts (L.take k)) v) := Lib.hid (fun k v hv => most_step hv)
  have v0 := List.getElem?_eq_getElem (show 0 < L.length by omega)
  have HO := Lib.hid (most_one v0 (h0 _ (List.getElem_mem _)))
  generalize L[0]'(by omega) = y at v0 HO
  obtain ⟨x, hx, hc0⟩ := IntRow.at h v0
  obtain rfl : a = some x := hx
  rw [add_zero] at hc0
  have hp : (decide ((L.length : Int) < 1)) = false := by simp; omega
  have HL : Hid (mosts (L.take L.length) = mosts L) := Lib.hid (by rw [List.take_length])
  generalize mosts L = res at HL ⊢
  clear v0 h0
  go_enter Tryz.func107, Tryz.ntmps107
  go_wp2
  go_loop [3, 4] (fun m i => ∃ k : Nat, 1 ≤ k ∧ k ≤ L.length ∧ i = .int .i64 k ∧ m = .int .i64 (mosts (L.take k))) (fun _ i => L.length - (intOf i).toNat)
  case atStart => exact ⟨1, Nat.le_refl _, h1, rfl, by rw [HO.out]⟩
  case round =>
    obtain ⟨k, hk1, hk, rfl, rfl⟩ := hrel
    by_cases hlt : k < L.length
    · have hv := List.getElem?_eq_getElem hlt
      generalize L[k] = v at hv
      obtain ⟨x', hx, hc⟩ := IntRow.at h hv
      obtain rfl := Option.some.inj hx
      have HV := Lib.hid (HS.out k v hv)
      clear hv
      generalize mosts (L.take k) = m at *
      go_wp2
      go_round
      case rel => exact ⟨k + 1, by omega, by omega, by go_num, by rw [HV.out]; exact mx m v⟩
      case measure => simp [intOf]; omega
    · obtain rfl : k = L.length := by omega
      rw [HL.out]
      go_wp2
      go_ret
      exact ⟨rfl, rfl⟩
end Go.Proofs.YtjolhoilcibdfaaGreat.BdI
/- The contract of package bound's fault: the first bound that is Full, or a window that is too small. -/
namespace Go.Proofs.YtjolhoilcibdfaaGreat.BdT
open Go.ChangeShapes Go.WideShapes Go.ChangeAt Go.RowKit
open Tab Gath OnS RefC Clear
open May (St phases_in infoP infoT row_new)
set_option linter.unusedVariables false
set_option linter.unusedSimpArgs false
open BdB BdN BdI ChkM PlaceM
def faultG (T : Tab) (wl el : List Int) : Int × Int := if 0 ≤ idxF wl then (14, idxF wl) else if 0 ≤ idxF el then (14, idxF el) else if 0 < T.rails.length ∧ T.window < mosts wl then (15, 0) else (0, 0)
set_option maxRecDepth 100000 in
set_option maxHeartbeats 8000000 in
theorem pfault_any (T : Tab) (h : Hd) (wl el : List Int) (w : World) (ht : IsTab w h T) (h8 : wl.length = 8) (h4 : el.length = 4) (h0 : ∀ x ∈ wl, 0 ≤ x) :
    Calls Tryz.prog 70 #[.agg (T.cells h).toArray, .agg (bcells wl el)] w fun e w' => e = .returned (.agg (fcells (faultG T wl el))) ∧ Below w.heap.size w w' := by
  have C := Lib.hid (cells_ok ht)
  have hsz := C.out.size
  have q114 := C.out.r
  have q129 := C.out.window
  obtain ⟨sg, sd, ⟨ra, rcap⟩, sb⟩ := h
  clear C
  have ST := Lib.hid (laid3 w (T.cells ⟨sg, sd, ⟨ra, rcap⟩, sb⟩).toArray (bcells wl el) #[I 0, I 0] 32 65 37)
  clear ht
  generalize T.cells _ = c at *
  have RA : Hid (∀ u, Bks w [(w.heap.size + 2, #[I 0, I 0], 37), (w.heap.size + 1, bcells wl el, 65), (w.heap.size, c.toArray, 32)] u → IntRow u ⟨some ⟨w.heap.size + 1, 0, none⟩, 8⟩ wl) := Lib.hid (fun u hu => by
    have := row_A (hu.blk (w.heap.size + 1, bcells wl el, 65) (by simp)) (by rw [h8]; decide)
    rwa [h8] at this)
  have RE : Hid (∀ u, Bks w [(w.heap.size + 2, #[I 0, I 0], 37), (w.heap.size + 1, bcells wl el, 65), (w.heap.size, c.toArray, 32)] u → IntRow u ⟨some ⟨w.heap.size + 1, 8, none⟩, 4⟩ el) := Lib.hid (fun u hu => by
    have := row_E (hu.blk (w.heap.size + 1, bcells wl el, 65) (by simp)) (by rw [h4]; decide)
    rwa [h8, h4] at this)
  have RS : Hid (faultG T wl el = if 0 ≤ idxF wl then (14, idxF wl) else if 0 ≤ idxF el then (14, idxF el) else if 0 < T.rails.length ∧ T.window < mosts wl then (15, 0) else (0, 0)) := Lib.hid rfl
  generalize faultG T wl el = res at RS ⊢
  generalize T.rails.length = n at *
  generalize T.window = wd at *
  have HX := Lib.hid (index_any (some ⟨w.heap.size + 1, 0, none⟩) 8 wl 8 h8)
  have HY := Lib.hid (index_any (some ⟨w.heap.size + 1, 8, none⟩) 4 el 4 h4)
  have HM := Lib.hid (max_any (some ⟨w.heap.size + 1, 0, none⟩) 8 wl 8 h8 (by decide) h0)
  generalize idxF wl = i1 at RS HX
  generalize idxF el = i2 at RS HY
  generalize mosts wl = mw at RS HM
  clear h8 h4 h0
  generalize bcells wl el = bc at *
  go_enter Tryz.func70, Tryz.ntmps70
  go_upto_region 1 with fail
  generalize ((w.alloc (.cells c.toArray 32)).alloc (.cells bc 65)).alloc (.cells #[I 0, I 0] 37) = w1 at ST ⊢
  have QR : Hid (∀ u, Below w1.heap.size w1 u → u.cell? ⟨w.heap.size, 114, none⟩ = some (.slice ra n rcap)) := Lib.hid (fun u hu => bks_cell (ST.out.step hu) (x := (w.heap.size, c.toArray, 32)) (by simp) q114)
  have QW : Hid (∀ u, Below w1.heap.size w1 u → u.cell? ⟨w.heap.size, 129, none⟩ = some (I wd)) := Lib.hid (fun u hu => bks_cell (ST.out.step hu) (x := (w.heap.size, c.toArray, 32)) (by simp) q129)
  have K2 : Hid (w1.heap[w.heap.size + 2]? = some (.cells #[I 0, I 0] 37 (0, 0))) := Lib.hid (ST.out.blk (w.heap.size + 2, #[I 0, I 0], 37) (by simp))
  have B1 := Lib.hid ST.out.bel
  have HX1 := Lib.hid (HX.out _ (RA.out _ ST.out))
  have HY1 := Lib.hid (HY.out _ (RE.out _ ST.out))
  have HM1 : Hid (∀ u, Below w1.heap.size w1 u → Calls Tryz.prog 107 #[.slice (some ⟨w.heap.size + 1, 0, none⟩) (8 : Nat) 8] u fun e w' => e = .returned (.int .i64 mw) ∧ u = w') := Lib.hid (fun u hu => HM.out u (RA.out _ (ST.out.step hu)))
  clear q114 q129 ST HX HY HM RA RE hsz
  go_wp2_with fail
  refine HX1.out.mono ?_
  rintro e w' ⟨rfl, rfl⟩
  by_cases hi1 : 0 ≤ i1
  · have RR : Hid ((14, i1) = res) := Lib.hid (by rw [RS.out, if_pos hi1])
    clear RS HX1 HY1 HM1 QR QW
    have HW := Lib.hid (Same.below_setRow B1.out (g := w.heap.size + 2) (by omega) #[I 14, I i1])
    have HK := Lib.hid (setRow_heap w1 (w.heap.size + 2) _ #[I 14, I i1] _ _ K2.out)
    go_wp2_with (first | (refine wpList_store_row rfl 37 _ _ rfl (w.heap.size + 2) #[I 14, I i1] rfl rfl 37 _ K2.out infoF rfl (by simp [Value.oneCell']) ?_))
    generalize w1.setRow (w.heap.size + 2) #[I 14, I i1] = uz at HW HK ⊢
    (try go_wp2_with fail)
    (try simp only [Exit.inBlock, Exit.then])
    refine bodyPost_ret (v := .agg #[I 14, I i1]) ?_ rfl ⟨by rw [← RR.out]; rfl, HW.out⟩
    exact results_cell_row rfl _ _ (w.heap.size + 2) 37 _ (0, 0) _ rfl HK.out Tryz.underlying37 rfl infoF
  go_wp2_with fail
  refine HY1.out.mono ?_
  rintro e w' ⟨rfl, rfl⟩
  by_cases hi2 : 0 ≤ i2
  · have RR : Hid ((14, i2) = res) := Lib.hid (by rw [RS.out, if_neg (by omega), if_pos hi2])
    clear RS HX1 HY1 HM1 QR QW
    have HW := Lib.hid (Same.below_setRow B1.out (g := w.heap.size + 2) (by omega) #[I 14, I i2])
    have HK := Lib.hid (setRow_heap w1 (w.heap.size + 2) _ #[I 14, I i2] _ _ K2.out)
    go_wp2_with (first | (refine wpList_store_row rfl 37 _ _ rfl (w.heap.size + 2) #[I 14, I i2] rfl rfl 37 _ K2.out infoF rfl (by simp [Value.oneCell']) ?_))
    generalize w1.setRow (w.heap.size + 2) #[I 14, I i2] = uz at HW HK ⊢
    (try go_wp2_with fail)
    (try simp only [Exit.inBlock, Exit.then])
    refine bodyPost_ret (v := .agg #[I 14, I i2]) ?_ rfl ⟨by rw [← RR.out]; rfl, HW.out⟩
    exact results_cell_row rfl _ _ (w.heap.size + 2) 37 _ (0, 0) _ rfl HK.out Tryz.underlying37 rfl infoF
  have RS2 : Hid (res = if 0 < n ∧ wd < mw then (15, 0) else (0, 0)) := Lib.hid (by rw [RS.out, if_neg (by omega), if_neg (by omega)])
  clear RS HX1 HY1
  go_upto_region 7 with fail
  clear hi1 hi2
  by_cases hn : n = 0
  · have RR : Hid ((0, 0) = res) := Lib.hid (by rw [RS2.out, if_neg (by omega)])
    subst hn
    clear RS2
    refine wp_region_held (S := fun w' => Below w1.heap.size w1 w') (by kernel_rfl) ?_
    have hS : Below w1.heap.size w1 { w1 with drawn := w1.drawn + 1 } := (Below.refl _ _).drew
    generalize ({ w1 with drawn := w1.drawn + 1 } : World) = v at hS ⊢
    refine Held.take (i := 0) (some 21) rfl (v := ?_) rfl (by kernel_rfl) (by kernel_rfl) (by kernel_rfl) (fun _ _ _ h => h) (Or.inl ⟨by rfl, ?_⟩) hS ?_
    rotate_left
    · intro w' hw'
      go_simp
      try with_reducible rfl
    (try dsimp only [Act.put]); (try simp only [List.setIfInBounds_toArray, List.set_cons_zero, List.set_cons_succ])
    refine Held.take (i := 1) (some 22) rfl (v := ?_) rfl (by kernel_rfl) (by kernel_rfl) (by kernel_rfl) (fun _ _ _ h => h) (Or.inl ⟨by rfl, ?_⟩) hS ?_
    rotate_left
    · intro w' hw'
      have cf := QR.out w' hw'
      go_simp
      try with_reducible rfl
    (try dsimp only [Act.put]); (try simp only [List.setIfInBounds_toArray, List.set_cons_zero, List.set_cons_succ])
    refine Held.take (i := 2) (some 23) rfl (v := ?_) rfl (by kernel_rfl) (by kernel_rfl) (by kernel_rfl) (fun _ _ _ h => h) (Or.inl ⟨by rfl, ?_⟩) hS ?_
    rotate_left
    · intro w' hw'
      go_simp
      try with_reducible rfl
    (try dsimp only [Act.put]); (try simp only [List.setIfInBounds_toArray, List.set_cons_zero, List.set_cons_succ])
    refine Held.take (i := 3) (some 24) rfl (v := .bool false) rfl (by kernel_rfl) (by kernel_rfl) (by kernel_rfl) (fun _ _ _ h => h) (Or.inl ⟨by rfl, ?_⟩) hS ?_
    · intro w' hw'
      go_simp
      try with_reducible rfl
    (try dsimp only [Act.put]); (try simp only [List.setIfInBounds_toArray, List.set_cons_zero, List.set_cons_succ])
    refine Held.take (i := 4) (some 25) rfl (v := .bool false) rfl (by kernel_rfl) (by kernel_rfl) (by kernel_rfl) (fun _ _ _ h => h) (Or.inl ⟨by rfl, ?_⟩) hS ?_
    · intro w' hw'
      go_simp
      try with_reducible rfl
    (try dsimp only [Act.put]); (try simp only [List.setIfInBounds_toArray, List.set_cons_zero, List.set_cons_succ])
    refine Held.take_skip (i := 5) (some 26) rfl rfl (by kernel_rfl) (by kernel_rfl) (by kernel_rfl) (fun _ _ _ h => h) (by rfl) hS ?_
    (try dsimp only [Act.put]); (try simp only [List.setIfInBounds_toArray, List.set_cons_zero, List.set_cons_succ])
    refine Held.take_skip (i := 6) (some 27) rfl rfl (by kernel_rfl) (by kernel_rfl) (by kernel_rfl) (fun _ _ _ h => h) (by rfl) hS ?_
    (try dsimp only [Act.put]); (try simp only [List.setIfInBounds_toArray, List.set_cons_zero, List.set_cons_succ])
    refine Held.take_skip (i := 7) (some 28) rfl rfl (by kernel_rfl) (by kernel_rfl) (by kernel_rfl) (fun _ _ _ h => h) (by rfl) hS ?_
    (try dsimp only [Act.put]); (try simp only [List.setIfInBounds_toArray, List.set_cons_zero, List.set_cons_succ])
    refine Held.take_skip (i := 8) (some 29) rfl rfl (by kernel_rfl) (by kernel_rfl) (by kernel_rfl) (fun _ _ _ h => h) (by rfl) hS ?_
    (try dsimp only [Act.put]); (try simp only [List.setIfInBounds_toArray, List.set_cons_zero, List.set_cons_succ])
    refine Held.take_skip (i := 9) (some 30) rfl rfl (by kernel_rfl) (by kernel_rfl) (by kernel_rfl) (fun _ _ _ h => h) (by rfl) hS ?_
    (try dsimp only [Act.put]); (try simp only [List.setIfInBounds_toArray, List.set_cons_zero, List.set_cons_succ])
    refine Held.take_skip (i := 10) (some 31) rfl rfl (by kernel_rfl) (by kernel_rfl) (by kernel_rfl) (fun _ _ _ h => h) (by rfl) hS ?_
    (try dsimp only [Act.put]); (try simp only [List.setIfInBounds_toArray, List.set_cons_zero, List.set_cons_succ])
    refine Held.take (i := 11) (some 32) rfl (v := ?_) rfl (by kernel_rfl) (by kernel_rfl) (by kernel_rfl) (fun _ _ _ h => h) (Or.inl ⟨by rfl, ?_⟩) hS ?_
    rotate_left
    · intro w' hw'
      go_simp
      try with_reducible rfl
    (try dsimp only [Act.put]); (try simp only [List.setIfInBounds_toArray, List.set_cons_zero, List.set_cons_succ])
    refine wpAnyH_done (by kernel_rfl) ?_ _
    have D2 : Hid (v.heap[w.heap.size + 2]? = some (.cells #[I 0, I 0] 37 (0, 0))) := Lib.hid ((hS.block _ (Array.getElem?_eq_some_iff.1 K2.out).1).trans K2.out)
    have BF := Lib.hid (B1.out.trans (hS.mono B1.out.size))
    clear hS
    have HW := Lib.hid (Same.below_setRow BF.out (g := w.heap.size + 2) (by omega) #[I 0, I 0])
    have HK := Lib.hid (setRow_heap v (w.heap.size + 2) _ #[I 0, I 0] _ _ D2.out)
    go_wp2_with (first | (refine wpList_store_row rfl 37 _ _ rfl (w.heap.size + 2) #[I 0, I 0] rfl rfl 37 _ D2.out infoF rfl (by simp [Value.oneCell']) ?_))
    generalize v.setRow (w.heap.size + 2) #[I 0, I 0] = uz at HW HK ⊢
    (try go_wp2_with fail)
    (try simp only [Exit.inBlock, Exit.then])
    refine bodyPost_ret (v := .agg #[I 0, I 0]) ?_ rfl ⟨by rw [← RR.out]; rfl, HW.out⟩
    exact results_cell_row rfl _ _ (w.heap.size + 2) 37 _ (0, 0) _ rfl HK.out Tryz.underlying37 rfl infoF
  · have hg : (decide ((n : Int) > 0)) = true := by simp; omega
    have NP := Lib.hid (Nat.pos_of_ne_zero hn)
    clear hn
    refine wp_region_held (S := fun w' => Below w1.heap.size w1 w') (by kernel_rfl) ?_
    have hS : Below w1.heap.size w1 { w1 with drawn := w1.drawn + 1 } := (Below.refl _ _).drew
    generalize ({ w1 with drawn := w1.drawn + 1 } : World) = v at hS ⊢
    refine Held.take (i := 0) (some 21) rfl (v := ?_) rfl (by kernel_rfl) (by kernel_rfl) (by kernel_rfl) (fun _ _ _ h => h) (Or.inl ⟨by rfl, ?_⟩) hS ?_
    rotate_left
    · intro w' hw'
      go_simp
      try with_reducible rfl
    (try dsimp only [Act.put]); (try simp only [List.setIfInBounds_toArray, List.set_cons_zero, List.set_cons_succ])
    refine Held.take (i := 1) (some 22) rfl (v := ?_) rfl (by kernel_rfl) (by kernel_rfl) (by kernel_rfl) (fun _ _ _ h => h) (Or.inl ⟨by rfl, ?_⟩) hS ?_
    rotate_left
    · intro w' hw'
      have cf := QR.out w' hw'
      go_simp
      try with_reducible rfl
    (try dsimp only [Act.put]); (try simp only [List.setIfInBounds_toArray, List.set_cons_zero, List.set_cons_succ])
    refine Held.take (i := 2) (some 23) rfl (v := ?_) rfl (by kernel_rfl) (by kernel_rfl) (by kernel_rfl) (fun _ _ _ h => h) (Or.inl ⟨by rfl, ?_⟩) hS ?_
    rotate_left
    · intro w' hw'
      go_simp
      try with_reducible rfl
    (try dsimp only [Act.put]); (try simp only [List.setIfInBounds_toArray, List.set_cons_zero, List.set_cons_succ])
    refine Held.take (i := 3) (some 24) rfl (v := .bool true) rfl (by kernel_rfl) (by kernel_rfl) (by kernel_rfl) (fun _ _ _ h => h) (Or.inl ⟨by rfl, ?_⟩) hS ?_
    · intro w' hw'
      have cf := NP.out
      go_simp
      try omega
      try with_reducible rfl
    (try dsimp only [Act.put]); (try simp only [List.setIfInBounds_toArray, List.set_cons_zero, List.set_cons_succ])
    refine Held.take (i := 4) (some 25) rfl (v := .bool true) rfl (by kernel_rfl) (by kernel_rfl) (by kernel_rfl) (fun _ _ _ h => h) (Or.inl ⟨by rfl, ?_⟩) hS ?_
    · intro w' hw'
      go_simp
      try with_reducible rfl
    (try dsimp only [Act.put]); (try simp only [List.setIfInBounds_toArray, List.set_cons_zero, List.set_cons_succ])
    refine Held.take (i := 5) (some 26) rfl (v := ?_) rfl (by kernel_rfl) (by kernel_rfl) (by kernel_rfl) (fun _ _ _ h => h) (Or.inl ⟨by rfl, ?_⟩) hS ?_
    rotate_left
    · intro w' hw'
      go_simp
      try with_reducible rfl
    (try dsimp only [Act.put]); (try simp only [List.setIfInBounds_toArray, List.set_cons_zero, List.set_cons_succ])
    refine Held.take (i := 6) (some 27) rfl (v := ?_) rfl (by kernel_rfl) (by kernel_rfl) (by kernel_rfl) (fun _ _ _ h => h) (Or.inl ⟨by rfl, ?_⟩) hS ?_
    rotate_left
    · intro w' hw'
      have cf := QW.out w' hw'
      go_simp
      try with_reducible rfl
    (try dsimp only [Act.put]); (try simp only [List.setIfInBounds_toArray, List.set_cons_zero, List.set_cons_succ])
    refine Held.take (i := 7) (some 28) rfl (v := ?_) rfl (by kernel_rfl) (by kernel_rfl) (by kernel_rfl) (fun _ _ _ h => h) (Or.inl ⟨by rfl, ?_⟩) hS ?_
    rotate_left
    · intro w' hw'
      go_simp
      try with_reducible rfl
    (try dsimp only [Act.put]); (try simp only [List.setIfInBounds_toArray, List.set_cons_zero, List.set_cons_succ])
    refine Held.take (i := 8) (some 29) rfl (v := ?_) rfl (by kernel_rfl) (by kernel_rfl) (by kernel_rfl) (fun _ _ _ h => h) (Or.inl ⟨by rfl, ?_⟩) hS ?_
    rotate_left
    · intro w' hw'
      go_simp
      try with_reducible rfl
    (try dsimp only [Act.put]); (try simp only [List.setIfInBounds_toArray, List.set_cons_zero, List.set_cons_succ])
    refine wpAnyH_ready (rs := [9]) (by kernel_rfl) (by simp) (AllReadyH.cons rfl (fun K hK => ?_) AllReadyH.nil)
    go_simp
    refine (HM1.out _ hS).mono ?_
    rintro e w' ⟨rfl, rfl⟩
    go_simp
    refine hK.out _ _ hS (fun hS => ?_)
    clear hK K
    refine Held.take (i := 10) (some 31) rfl (v := .bool (decide (wd < mw))) rfl (by kernel_rfl) (by kernel_rfl) (by kernel_rfl) (fun _ _ _ h => h) (Or.inl ⟨by rfl, ?_⟩) hS ?_
    · intro w' hw'
      go_simp
      try with_reducible rfl
    (try dsimp only [Act.put]); (try simp only [List.setIfInBounds_toArray, List.set_cons_zero, List.set_cons_succ])
    refine Held.take (i := 11) (some 32) rfl (v := ?_) rfl (by kernel_rfl) (by kernel_rfl) (by kernel_rfl) (fun _ _ _ h => h) (Or.inl ⟨by rfl, ?_⟩) hS ?_
    rotate_left
    · intro w' hw'
      go_simp
      try with_reducible rfl
    (try dsimp only [Act.put]); (try simp only [List.setIfInBounds_toArray, List.set_cons_zero, List.set_cons_succ])
    refine wpAnyH_done (by kernel_rfl) ?_ _
    have D2 : Hid (v.heap[w.heap.size + 2]? = some (.cells #[I 0, I 0] 37 (0, 0))) := Lib.hid ((hS.block _ (Array.getElem?_eq_some_iff.1 K2.out).1).trans K2.out)
    have BF := Lib.hid (B1.out.trans (hS.mono B1.out.size))
    clear hS hg
    by_cases hw : wd < mw
    · have RR : Hid ((15, 0) = res) := Lib.hid (by rw [RS2.out, if_pos ⟨NP.out, hw⟩])
      clear RS2
      have HW := Lib.hid (Same.below_setRow BF.out (g := w.heap.size + 2) (by omega) #[I 15, I 0])
      have HK := Lib.hid (setRow_heap v (w.heap.size + 2) _ #[I 15, I 0] _ _ D2.out)
      go_wp2_with (first | (refine wpList_store_row rfl 37 _ _ rfl (w.heap.size + 2) #[I 15, I 0] rfl rfl 37 _ D2.out infoF rfl (by simp [Value.oneCell']) ?_))
      generalize v.setRow (w.heap.size + 2) #[I 15, I 0] = uz at HW HK ⊢
      (try go_wp2_with fail)
      (try simp only [Exit.inBlock, Exit.then])
      refine bodyPost_ret (v := .agg #[I 15, I 0]) ?_ rfl ⟨by rw [← RR.out]; rfl, HW.out⟩
      exact results_cell_row rfl _ _ (w.heap.size + 2) 37 _ (0, 0) _ rfl HK.out Tryz.underlying37 rfl infoF
    · have RR : Hid ((0, 0) = res) := Lib.hid (by rw [RS2.out, if_neg (fun e => hw e.2)])
      clear RS2
      have HW := Lib.hid (Same.below_setRow BF.out (g := w.heap.size + 2) (by omega) #[I 0, I 0])
      have HK := Lib.hid (setRow_heap v (w.heap.size + 2) _ #[I 0, I 0] _ _ D2.out)
      go_wp2_with (first | (refine wpList_store_row rfl 37 _ _ rfl (w.heap.size + 2) #[I 0, I 0] rfl rfl 37 _ D2.out infoF rfl (by simp [Value.oneCell']) ?_))
      generalize v.setRow (w.heap.size + 2) #[I 0, I 0] = uz at HW HK ⊢
      (try go_wp2_with fail)
      (try simp only [Exit.inBlock, Exit.then])
      refine bodyPost_ret (v := .agg #[I 0, I 0]) ?_ rfl ⟨by rw [← RR.out]; rfl, HW.out⟩
      exact results_cell_row rfl _ _ (w.heap.size + 2) 37 _ (0, 0) _ rfl HK.out Tryz.underlying37 rfl infoF
end Go.Proofs.YtjolhoilcibdfaaGreat.BdT
/- The contracts of package check's small functions: allOn, the lists of a table, ranges. -/
namespace Go.Proofs.YtjolhoilcibdfaaGreat.ChkA
open Go.ChangeShapes Go.WideShapes Go.ChangeAt Go.RowKit
open Tab PlaceM PlanM OnS ChkM
open May (ret_bool infoT St ints_in phases_in)
set_option linter.unusedVariables false
set_option linter.unusedSimpArgs false
set_option maxRecDepth 100000 in
set_option maxHeartbeats 4000000 in
theorem allOn_any (T : Tab) (h : Hd) (s : Int) (w : World) (ht : IsTab w h T) :
    Calls Tryz.prog 115 #[.agg (T.cells h).toArray, .int .i64 s] w fun e w' => e = .returned (.bool (allOn T s)) ∧ Below w.heap.size w w' := by
  have hsz := (cells_ok ht).size
  have IA : Hid ((Tryz.prog.info? 32).map (·.size) = some (T.cells h).length) := Lib.hid (by rw [List.size_toArray] at hsz; rw [hsz]; exact infoT)
  have ON : Hid (∀ W, Below w.heap.size w W → Calls Tryz.prog 96 #[.agg (T.cells h).toArray] W fun e w' => e = .returned (.int .i64 (onS T : Nat)) ∧ Below W.heap.size W w') := Lib.hid (fun W hb => PlanO.pon_any T h W (ht.below hb))
  have A0 : Hid (Below w.heap.size w (w.alloc (.cells (T.cells h).toArray 32))) := Lib.hid ((Below.refl _ _).alloc (Nat.le_refl _) _)
  have A1 : Hid (Lies (w.alloc (.cells (T.cells h).toArray 32)) ⟨w.heap.size, 0, none⟩ (T.cells h)) := Lib.hid (Row.lies_new w _ _)
  have HR : Hid (allOn T s = (bits .andNot .i64 s (onS T : Nat) == 0)) := Lib.hid rfl
  generalize allOn T s = r at HR ⊢
  generalize onS T = m at HR ON
  clear ht
  generalize T.cells h = c at *
  go_enter Tryz.func115, Tryz.ntmps115
  go_upto_region 1 with fail
  generalize w.alloc (.cells c.toArray 32) = u at A0 A1 ⊢
  clear hsz
  go_wp2_with (refine Row.wpList_load_g 32 _ rfl (by first | rfl | go_simp) ⟨w.heap.size, 0, none⟩ rfl c _ A1.out Tryz.underlying32 rfl IA.out ?_)
  refine (ON.out _ A0.out).mono ?_
  rintro e u1 ⟨rfl, hb⟩
  have B0 : Hid (Below w.heap.size w u1) := Lib.hid (A0.out.trans (hb.mono A0.out.size))
  clear hb A0 A1 ON
  go_wp2
  go_ret
  exact ⟨ret_bool (by rw [HR.out]), B0.out⟩
set_option maxRecDepth 100000 in
set_option maxHeartbeats 4000000 in
theorem listD_any (T : Tab) (h : Hd) (w : World) (ht : IsTab w h T) :
    Calls Tryz.prog 79 #[.agg (T.cells h).toArray] w fun e w' => e = .returned (h.d.val T.dets.length) ∧ Below w.heap.size w w' := by
  have S0 := Lib.hid (St.box (cs := (T.cells h).toArray) ht)
  have hsz := (cells_ok ht).size
  have q := (St.box (cs := (T.cells h).toArray) ht).cell (cells_ok ht).d
  generalize (T.cells h).toArray = cs at *
  clear ht
  go_enter Tryz.func79, Tryz.ntmps79
  go_upto_region 1 with fail
  generalize w.alloc (.cells cs 32) = w1 at S0 q ⊢
  clear hsz
  go_wp2
  go_ret
  exact ⟨rfl, S0.out.bel⟩
set_option maxRecDepth 100000 in
set_option maxHeartbeats 4000000 in
theorem listR_any (T : Tab) (h : Hd) (w : World) (ht : IsTab w h T) :
    Calls Tryz.prog 82 #[.agg (T.cells h).toArray] w fun e w' => e = .returned (h.r.val T.rails.length) ∧ Below w.heap.size w w' := by
  have S0 := Lib.hid (St.box (cs := (T.cells h).toArray) ht)
  have hsz := (cells_ok ht).size
  have q := (St.box (cs := (T.cells h).toArray) ht).cell (cells_ok ht).r
  generalize (T.cells h).toArray = cs at *
  clear ht
  go_enter Tryz.func82, Tryz.ntmps82
  go_upto_region 1 with fail
  generalize w.alloc (.cells cs 32) = w1 at S0 q ⊢
  clear hsz
  go_wp2
  go_ret
  exact ⟨rfl, S0.out.bel⟩
set_option maxRecDepth 100000 in
set_option maxHeartbeats 4000000 in
theorem listB_any (T : Tab) (h : Hd) (w : World) (ht : IsTab w h T) :
    Calls Tryz.prog 85 #[.agg (T.cells h).toArray] w fun e w' => e = .returned (h.b.val T.buses.length) ∧ Below w.heap.size w w' := by
  have S0 := Lib.hid (St.box (cs := (T.cells h).toArray) ht)
  have hsz := (cells_ok ht).size
  have q := (St.box (cs := (T.cells h).toArray) ht).cell (cells_ok ht).b
  generalize (T.cells h).toArray = cs at *
  clear ht
  go_enter Tryz.func85, Tryz.ntmps85
  go_upto_region 1 with fail
  generalize w.alloc (.cells cs 32) = w1 at S0 q ⊢
  clear hsz
  go_wp2
  go_ret
  exact ⟨rfl, S0.out.bel⟩
/-! ### the numbers of a rail -/
theorem rail_cells (r : Rl) (w : World) (b : Nat) (hb : w.heap[b]? = some (.cells r.cells.toArray 47 (0, 0))) :
    w.cell? ⟨b, 0, none⟩ = some (I r.bars) ∧ w.cell? ⟨b, 1, none⟩ = some (I r.clear) ∧ w.cell? ⟨b, 2, none⟩ = some (I r.dwell) ∧ w.cell? ⟨b, 3, none⟩ = some (I r.exit) ∧ w.cell? ⟨b, 4, none⟩ = some (I r.delay) ∧ w.cell? ⟨b, 5, none⟩ = some (I r.green) ∧ w.cell? ⟨b, 7, none⟩ = some (I r.hold) ∧ w.cell? ⟨b, 8, none⟩ = some (I r.stay) ∧ w.cell? ⟨b, 9, none⟩ = some (I r.most) ∧ w.cell? ⟨b, 10, none⟩ = some (I r.limit) := by
  refine ⟨?_, ?_, ?_, ?_, ?_, ?_, ?_, ?_, ?_, ?_⟩ <;> (rw [cell_of_row _ _ _ _ _ _ hb]; rfl)
set_option maxRecDepth 100000 in
set_option maxHeartbeats 4000000 in
theorem badTimes_any (r : Rl) (w : World) :
    Calls Tryz.prog 118 #[.agg r.cells.toArray] w fun e w' => e = .returned (.bool (timesBad r)) ∧ Below w.heap.size w w' := by
  have A0 : Hid (Below w.heap.size w (w.alloc (.cells r.cells.toArray 47))) := Lib.hid ((Below.refl _ _).alloc (Nat.le_refl _) _)
  obtain ⟨q0, q1, q2, q3, q4, q5, q7, q8, q9, q10⟩ := rail_cells r _ _ (heap_alloc_new w (.cells r.cells.toArray 47))
  have HR : Hid (timesBad r = _) := Lib.hid (by unfold timesBad; rfl)
  generalize timesBad r = x at HR ⊢
  have hone := Rl.one r
  have hsz : r.cells.toArray.size = 11 := rfl
  generalize r.cells.toArray = cs at *
  obtain ⟨bars, clear, dwell, exit, delay, green, foot, hold, stay, most, limit⟩ := r
  simp only at *
  go_enter Tryz.func118, Tryz.ntmps118
  go_upto_region 1 with fail
  generalize w.alloc (.cells cs 47) = u at *
  clear q0 q2 q3 hone hsz
  go_wp2
  all_goals go_ret
  all_goals (refine ⟨ret_bool ?_, A0.out⟩)
  all_goals (rw [HR.out])
  all_goals (clear HR q1 q4 q5 q7 q8 q9 q10 A0)
  all_goals (first | grind | (simp_all <;> omega))
end Go.Proofs.YtjolhoilcibdfaaGreat.ChkA
/- The contracts of package check's repeats, badGroup and rings. -/
namespace Go.Proofs.YtjolhoilcibdfaaGreat.ChkG
open Go.ChangeShapes Go.WideShapes Go.ChangeAt Go.RowKit
open Tab PlaceM PlanM OnS ChkM ChkA
open PlanW (wG wK wI idx0 idx1 info2 pwhere_any)
open May (ret_bool infoT St)
set_option linter.unusedVariables false
set_option linter.unusedSimpArgs false
def atOk (T : Tab) (g k i : Nat) (p : Int) : Bool := at0 (where_ T p) == (g, k, i)
theorem at_iff (T : Tab) (g k i : Nat) (p : Int) : atOk T g k i p = (decide (wG (where_ T p) = g) && (decide (wK (where_ T p) = k) && decide (wI (where_ T p) = i))) := by
  unfold atOk at0 wG wK wI
  cases where_ T p with
  | none => rw [Bool.eq_iff_iff]; simp; omega
  | some x => rw [Bool.eq_iff_iff]; simp; omega
theorem rep_row {T : Tab} {g k : Nat} {l : List Int} : repRow T g k l = false ↔ ∀ i, i < l.length → atOk T g k i (l.getD i 0) = true := by
  unfold repRow
  rw [List.any_eq_false]
  constructor
  · intro h i hi
    have := h i (List.mem_range.2 hi)
    unfold atOk
    simpa using this
  · intro h i hi
    have := h i (List.mem_range.1 hi)
    unfold atOk at this
    simpa using this
set_option maxRecDepth 100000 in
set_option maxHeartbeats 4000000 in
theorem repeats_any (T : Tab) (h : Hd) (g : Nat) (w : World) (ht : IsTab w h T) (hg : g < T.groups.length) :
    Calls Tryz.prog 139 #[.agg (T.cells h).toArray, .int .i64 g] w fun e w' => e = .returned (.bool (repeats T g)) ∧ Below w.heap.size w w' := by
  obtain ⟨⟨ga, gcap⟩, sd, sr, sb⟩ := h
  have hsz1 := (cells_ok ht).size
  have IA : Hid ((Tryz.prog.info? 32).map (·.size) = some (T.cells ⟨⟨ga, gcap⟩, sd, sr, sb⟩).length) := Lib.hid (by rw [List.size_toArray] at hsz1; rw [hsz1]; exact infoT)
  have WH : Hid (∀ p W, Below w.heap.size w W → Calls Tryz.prog 63 #[.agg (T.cells ⟨⟨ga, gcap⟩, sd, sr, sb⟩).toArray, .int .i64 p] W fun e w' => e = .returned (.tuple #[I (wG (where_ T p)), I (wK (where_ T p)), I (wI (where_ T p)), .bool (where_ T p).isSome]) ∧ Below W.heap.size W w') := Lib.hid (fun p W hb => pwhere_any T _ p W (ht.below hb))
  have LT0 := Lib.hid (Row.lies_new w (T.cells ⟨⟨ga, gcap⟩, sd, sr, sb⟩).toArray 32)
  have C := Lib.hid (cells_ok ht)
  obtain ⟨gs, hgd, hgr⟩ := ht.groups
  have Hgr := Lib.hid hgr
  have Hgd := Lib.hid hgd
  have S0 := Lib.hid (St.box (cs := (T.cells ⟨⟨ga, gcap⟩, sd, sr, sb⟩).toArray) ht)
  have Hgl := Lib.hid (show T.groups.length = gs.length by rw [← hgd, List.length_map])
  have Kg := hgr.1.len
  unfold maxLen at Kg
  have hlt : g < gs.length := by rw [← Hgl.out]; exact hg
  have hv := List.getElem?_eq_getElem hlt
  generalize gs[g] = u at hv
  obtain ⟨x, hx, hc⟩ := hgr.1.at hv
  have hok := hgr.2 u (List.mem_of_getElem? hv)
  have HD : Hid (rowsAt T g = u.data) := Lib.hid (rows_in (by rw [← hgd, List.getElem?_map, hv]; rfl))
  obtain rfl : ga = some x := hx
  obtain ⟨l0, l1, ⟨a0, cap0⟩, ⟨a1, cap1⟩⟩ := u
  have HC : Hid (Lies w (x.add (g * 2)) [.slice a0 l0.length cap0, .slice a1 l1.length cap1]) := Lib.hid hc
  have HO := Lib.hid hok
  have RS : Hid (repeats T g = (repRow T g 0 l0 || repRow T g 1 l1)) := Lib.hid (by unfold repeats; rw [HD.out]; rfl)
  have AT := Lib.hid (at_iff T)
  have RR : Hid (∀ {k l}, repRow T g k l = false ↔ ∀ i, i < l.length → atOk T g k i (l.getD i 0) = true) := Lib.hid rep_row
  have q104 := S0.out.cell C.out.g
  rw [Hgl.out] at q104
  have Q104 : Hid ((w.alloc (.cells (T.cells ⟨⟨some x, gcap⟩, sd, sr, sb⟩).toArray 32)).cell? ⟨w.heap.size, 104, none⟩ = some (.slice (some x) gs.length gcap)) := Lib.hid q104
  clear ht hgr hgd hv hc hok hsz1 q104 C
  obtain ⟨res, hres⟩ : ∃ r, r = repeats T g := ⟨_, rfl⟩
  rw [← hres]
  have HRES := Lib.hid hres
  clear hres
  generalize hcc : T.cells ⟨⟨some x, gcap⟩, sd, sr, sb⟩ = c at *
  clear hcc
  have hsz : c.toArray.size = 131 := by
    have := S0.out.blk
    have h2 := IA.out
    have h3 : (Tryz.prog.info? 32).map (·.size) = some 131 := infoT
    rw [h3] at h2
    rw [List.size_toArray]; exact (Option.some.inj h2).symm
  go_enter Tryz.func139, Tryz.ntmps139
  go_upto_region 1 with fail
  clear hsz
  generalize w.alloc (.cells c.toArray 32) = w1 at *
  have q104 := Q104.out
  have HC1 := Lib.hid (HC.out.below S0.out.bel)
  have HO1 := Lib.hid (HO.out.below S0.out.bel)
  clear HC HO
  go_wp2_with (refine Row.wpList_load_g 41 _ rfl (by first | rfl | go_simp) (x.add (g * 2)) rfl [.slice a0 l0.length cap0, .slice a1 l1.length cap1] _ HC1.out Tryz.underlying41 rfl info2 ?_)
  clear q104
  go_loopw [18] (fun a wr => ∃ r : Nat, r ≤ 2 ∧ a = .int .i64 r ∧ (0 < r → repRow T g 0 l0 = false) ∧ (1 < r → repRow T g 1 l1 = false) ∧ Below w1.heap.size w1 wr) (fun a _ => 2 - (intOf a).toNat)
  case atStart => exact ⟨0, by omega, rfl, by omega, by omega, Below.refl _ _⟩
  case round =>
    obtain ⟨r, hr, rfl, h0, h1, hB⟩ := hrel
    have H0 := Lib.hid h0
    have H1 := Lib.hid h1
    have HB := Lib.hid hB
    clear h0 h1 hB
    by_cases hr2 : r < 2
    · obtain ⟨l, a, cap, hidx, hrow, hring, hbad⟩ : ∃ (l : List Int) (a : Option Addr) (cap : Nat), (∀ W, Sem.run Tryz.prog (Instr.index 41 (.agg #[.slice a0 l0.length cap0, .slice a1 l1.length cap1]) (.int .i64 r)) W = .ok (.slice a l.length cap) W) ∧ IntRow wr ⟨a, cap⟩ l ∧ (repRow T g r l = false → (0 < r + 1 → repRow T g 0 l0 = false) ∧ (1 < r + 1 → repRow T g 1 l1 = false)) ∧ (repRow T g r l = true → repeats T g = true) := by
        have : r = 0 ∨ r = 1 := by omega
        rcases this with rfl | rfl
        · exact ⟨l0, a0, cap0, fun W => idx0 _ _ W, HO1.out.1.below HB.out, fun e => ⟨fun _ => e, by omega⟩, fun e => by rw [RS.out, e]; rfl⟩
        · exact ⟨l1, a1, cap1, fun W => idx1 _ _ W, HO1.out.2.below HB.out, fun e => ⟨fun _ => H0.out (by omega), fun _ => e⟩, fun e => by rw [RS.out, e]; simp⟩
      have HROW := Lib.hid hrow
      have HRING := Lib.hid hring
      have HBAD := Lib.hid hbad
      have K := hrow.len
      unfold maxLen at K
      clear hrow hring hbad
      go_wp2_with fail
      clear hidx
      go_loopw [24] (fun a' wk => ∃ j : Nat, j ≤ l.length ∧ a' = .int .i64 j ∧ (∀ i, i < j → atOk T g r i (l.getD i 0) = true) ∧ Below wr.heap.size wr wk) (fun a' _ => l.length - (intOf a').toNat)
      case atStart => exact ⟨0, by omega, rfl, (fun i h => by omega), Below.refl _ _⟩
      case round =>
        obtain ⟨j, hj, rfl, hall, hB2⟩ := hrel
        rename World => wk
        have HA := Lib.hid hall
        have HB2 := Lib.hid hB2
        clear hall hB2
        by_cases hjl : j < l.length
        · have hv := List.getElem?_eq_getElem hjl
          generalize hz : l[j] = z at hv
          obtain ⟨y, hy, hp⟩ := IntRow.at (HROW.out.below HB2.out) hv
          obtain rfl : a = some y := hy
          have hgd : l.getD j 0 = z := by rw [List.getD_eq_getElem?_getD, hv]; rfl
          have HGD := Lib.hid hgd
          have LT : Hid (Lies wk ⟨w.heap.size, 0, none⟩ c) := Lib.hid ((LT0.out.below HB.out).below HB2.out)
          have BW : Hid (Below w.heap.size w wk) := Lib.hid (S0.out.bel.trans ((HB.out.trans (HB2.out.mono HB.out.size)).mono S0.out.bel.size))
          clear hv hz hgd
          have hAT := AT.out g r j z
          go_wp2_with (refine Row.wpList_load_g 32 _ rfl (by first | rfl | go_simp) ⟨w.heap.size, 0, none⟩ rfl c _ LT.out Tryz.underlying32 rfl IA.out ?_)
          refine (WH.out z _ BW.out).mono ?_
          rintro e u1 ⟨rfl, hb⟩
          have HB3 : Hid (Below wr.heap.size wr u1) := Lib.hid (HB2.out.trans (hb.mono HB2.out.size))
          have BW1 : Hid (Below w.heap.size w u1) := Lib.hid (BW.out.trans (hb.mono BW.out.size))
          clear hb LT BW HB2
          have HAT := Lib.hid hAT
          clear hAT
          generalize wG (where_ T z) = oG at HAT ⊢
          generalize wK (where_ T z) = oK at HAT ⊢
          generalize wI (where_ T z) = oI at HAT ⊢
          generalize (where_ T z).isSome = oS
          have BAD : Hid (atOk T g r j z = false → true = res) := Lib.hid (fun e => by
            rw [HRES.out]; symm
            refine HBAD.out ?_
            cases hr : repRow T g r l with
            | true => rfl
            | false => rw [RR.out] at hr; have := hr j hjl; rw [HGD.out, e] at this; cases this)
          by_cases e1 : oG = (g : Int)
          · by_cases e2 : oK = (r : Int)
            · by_cases e3 : oI = (j : Int)
              · subst e1 e2 e3
                have OK := Lib.hid (show atOk T g r j z = true by rw [HAT.out]; simp)
                go_wp2
                go_roundw
                case rel => exact ⟨j + 1, by omega, by go_num, (fun i hi => by
                  by_cases e : i = j
                  · subst e; rw [HGD.out]; exact OK.out
                  · exact HA.out i (by omega)), HB3.out⟩
                case measure => simp [intOf]; omega
              · have NO := Lib.hid (BAD.out (by rw [HAT.out]; simp [e3]))
                go_wp2
                go_ret
                exact ⟨ret_bool NO.out, BW1.out⟩
            · have NO := Lib.hid (BAD.out (by rw [HAT.out]; simp [e2]))
              go_wp2
              go_ret
              exact ⟨ret_bool NO.out, BW1.out⟩
          · have NO := Lib.hid (BAD.out (by rw [HAT.out]; simp [e1]))
            go_wp2
            go_ret
            exact ⟨ret_bool NO.out, BW1.out⟩
        · have HE := Lib.hid (HRING.out (by rw [RR.out]; intro i hi; exact HA.out i (by omega)))
          have HB4 := Lib.hid (HB.out.trans (HB2.out.mono HB.out.size))
          go_wp2
          go_roundw
          case rel => exact ⟨r + 1, by omega, by go_num, HE.out.1, HE.out.2, HB4.out⟩
          case measure => simp [intOf]; omega
    · have NO := Lib.hid (show false = res by rw [HRES.out, RS.out, H0.out (by omega), H1.out (by omega)]; rfl)
      have BW1 := Lib.hid (S0.out.bel.trans (HB.out.mono S0.out.bel.size))
      go_wp2
      go_ret
      exact ⟨ret_bool NO.out, BW1.out⟩
end Go.Proofs.YtjolhoilcibdfaaGreat.ChkG
/- The contracts of package check's badPhase, badBus, badDetector. -/
namespace Go.Proofs.YtjolhoilcibdfaaGreat.ChkB
open Go.ChangeShapes Go.WideShapes Go.ChangeAt Go.RowKit
open Tab PlaceM PlanM OnS ChkM ChkA
open May (ret_bool infoT infoP infoB infoD infoR St ints_in phases_in)
set_option linter.unusedVariables false
set_option linter.unusedSimpArgs false
theorem phase_cells (u : Ph) (w : World) (b : Nat) (hb : w.heap[b]? = some (.cells u.cells.toArray 24 (0, 0))) :
    w.cell? ⟨b, 1, none⟩ = some (I u.min) ∧ w.cell? ⟨b, 3, none⟩ = some (I u.max) ∧ w.cell? ⟨b, 4, none⟩ = some (I u.top) ∧ w.cell? ⟨b, 5, none⟩ = some (I u.step) ∧ w.cell? ⟨b, 6, none⟩ = some (I u.yellow) ∧ w.cell? ⟨b, 8, none⟩ = some (I u.walk) ∧ w.cell? ⟨b, 9, none⟩ = some (I u.blinks) ∧ w.cell? ⟨b, 10, none⟩ = some (I u.recall) := by
  refine ⟨?_, ?_, ?_, ?_, ?_, ?_, ?_, ?_⟩ <;> (rw [cell_of_row _ _ _ _ _ _ hb]; rfl)
theorem phase_lies {T : Tab} {h : Hd} {w : World} (ht : IsTab w h T) (k : Nat) (hk : k < 8) : Lies (w.alloc (.cells (T.cells h).toArray 32)) ⟨w.heap.size, k * 13, none⟩ (phAt T k).cells := by
  have C := cells_ok ht
  have hb : (w.alloc (.cells (T.cells h).toArray 32)).heap[w.heap.size]? = some (.cells (T.cells h).toArray 32 (0, 0)) := heap_alloc_new w _
  have h8 : k < T.phases.length := by rw [ht.ph]; exact hk
  have e : phAt T k = T.phases[k] := by unfold phAt; rw [Int.toNat_natCast, List.getD_eq_getElem?_getD, List.getElem?_eq_getElem h8]; rfl
  have h1 := C.phase k _ (List.getElem?_eq_getElem h8)
  rw [Nat.mul_comm] at h1
  rw [← e] at h1
  intro j v hv
  rw [Addr.add_mid, cell_of_row _ _ _ _ _ _ hb]
  rw [← h1, List.getElem?_take] at hv
  split at hv
  · rw [List.getElem?_drop, Array.getElem?_toList] at hv
    exact hv
  · cases hv
set_option maxRecDepth 100000 in
set_option maxHeartbeats 4000000 in
theorem badPhase_any (T : Tab) (h : Hd) (k : Nat) (hk : k < 8) (w : World) (ht : IsTab w h T) :
    Calls Tryz.prog 75 #[.agg (T.cells h).toArray, .int .i64 k] w fun e w' => e = .returned (.bool (phBad (phAt T k))) ∧ Below w.heap.size w w' := by
  have hsz := (cells_ok ht).size
  have A0 : Hid (Below w.heap.size w (w.alloc (.cells (T.cells h).toArray 32))) := Lib.hid ((Below.refl _ _).alloc (Nat.le_refl _) _)
  have A1 := Lib.hid (phase_lies ht k hk)
  have HS : Hid ((w.alloc (.cells (T.cells h).toArray 32)).heap.size = w.heap.size + 1) := Lib.hid (by simp)
  clear ht
  generalize T.cells h = c at *
  obtain ⟨x, hx⟩ : ∃ x, x = phBad (phAt T k) := ⟨_, rfl⟩
  rw [← hx]
  have HR := Lib.hid hx
  clear hx
  generalize phAt T k = ph at *
  go_enter Tryz.func75, Tryz.ntmps75
  go_upto_region 1 with fail
  generalize w.alloc (.cells c.toArray 32) = u at A0 A1 HS ⊢
  clear hsz
  go_upto_region 2 with (first | (refine Row.wpList_load_g 24 _ rfl (by first | rfl | go_simp) ⟨w.heap.size, k * 13, none⟩ rfl ph.cells _ A1.out Tryz.underlying24 rfl infoP ?_) | (refine Row.wpList_store_new rfl 24 _ _ rfl u _ ph.cells.toArray rfl rfl rfl infoP rfl (Ph.one _) ?_))
  have E := Lib.hid (A0.out.trans (((Below.refl u.heap.size u).alloc (Nat.le_refl _) (.cells ph.cells.toArray 24)).mono A0.out.size))
  obtain ⟨q1, q3, q4, q5, q6, q8, q9, q10⟩ := phase_cells ph _ _ (heap_alloc_new u (.cells ph.cells.toArray 24))
  generalize u.alloc (.cells ph.cells.toArray 24) = u2 at *
  generalize u.heap.size = b2 at *
  clear A0 A1 HS
  obtain ⟨on, min, gap, max, top, step, yellow, red, walk, blinks, recall, lock, rest⟩ := ph
  simp only at *
  go_wp2
  all_goals go_ret
  all_goals (refine ⟨ret_bool ?_, E.out⟩)
  all_goals (rw [HR.out]; unfold phBad; dsimp only)
  all_goals (clear HR q1 q3 q4 q5 q6 q8 q9 q10 E)
  all_goals (first | grind | (simp_all <;> omega))
/-- Two blocks laid one behind the other. -/
theorem laid2 (w : World) (o0 o1 : Obj) : ∃ W, ((w.alloc o0).alloc o1) = W ∧ W.heap.size = w.heap.size + 2 ∧ Below w.heap.size w W ∧ Below (w.heap.size + 1) (w.alloc o0) W ∧ W.heap[w.heap.size + 1]? = some o1 := by
  refine ⟨_, rfl, by simp, ((Below.refl _ w).alloc (Nat.le_refl _) _).alloc (by simp) _, ?_, ?_⟩
  · have := (Below.refl (w.alloc o0).heap.size (w.alloc o0)).alloc (Nat.le_refl _) o1
    simpa using this
  · have h1 := heap_alloc_new (w.alloc o0) o1
    rwa [World.size_alloc] at h1
theorem lies_head {w : World} {x : Addr} {v : Value} {l : List Value} (h : Lies w x (v :: l)) : w.cell? x = some v := by
  have := h 0 v rfl
  rwa [Tab.add_zero] at this
set_option maxRecDepth 100000 in
set_option maxHeartbeats 4000000 in
theorem badDetector_any (T : Tab) (h : Hd) (d : Det) (w : World) (ht : IsTab w h T) (h0 : Fl.isn d.on = false) (h1 : Fl.isn d.off = false) (hp : 0 ≤ d.phase ∧ d.phase < 8) :
    Calls Tryz.prog 80 #[.agg (T.cells h).toArray, .agg d.cells.toArray] w fun e w' => e = .returned (.bool (detBad T d)) ∧ Below w.heap.size w w' := by
  have hsz := (cells_ok ht).size
  have hs1 : (w.alloc (.cells (T.cells h).toArray 32)).heap.size = w.heap.size + 1 := by simp
  obtain ⟨ph, on, off, delay, extend, mOn, mOff⟩ := d
  dsimp only at h0 h1 hp
  obtain ⟨k, rfl⟩ := Int.eq_ofNat_of_zero_le hp.1
  have hk : k < 8 := by omega
  have LP := Lib.hid (lies_head (phase_lies ht k hk))
  obtain ⟨x, hx⟩ : ∃ x, x = detBad T ⟨k, on, off, delay, extend, mOn, mOff⟩ := ⟨_, rfl⟩
  rw [← hx]
  have HR : Hid (x = (gtF off on || !(phAt T k).on)) := Lib.hid hx
  generalize (phAt T k).on = q at LP HR
  have ho := Secs.ord_cases off on h1 h0
  have HO := Lib.hid ho
  clear hx ht h0 h1 hp ho
  generalize T.cells h = c at *
  have hone := Det.one ⟨k, on, off, delay, extend, mOn, mOff⟩
  have hsz2 : (Det.cells ⟨k, on, off, delay, extend, mOn, mOff⟩).toArray.size = 7 := rfl
  generalize hcd : (Det.cells ⟨k, on, off, delay, extend, mOn, mOff⟩).toArray = cd at *
  have HCD := Lib.hid hcd
  clear hcd
  go_enter Tryz.func80, Tryz.ntmps80
  go_upto_region 1 with fail
  obtain ⟨u, hu, E1, E0, EB, b1⟩ := laid2 w (.cells c.toArray 32) (.cells cd 45)
  rw [hu]
  have EE := Lib.hid E0
  have c0 : u.cell? ⟨w.heap.size, k * 13, none⟩ = some (.bool q) := (EB.cell (p := ⟨w.heap.size, k * 13, none⟩) (Nat.lt_succ_self _)).trans LP.out
  have q0 : u.cell? ⟨w.heap.size + 1, 0, none⟩ = some (I k) := by rw [cell_of_row _ _ _ _ _ _ b1, ← HCD.out]; rfl
  have q1 : u.cell? ⟨w.heap.size + 1, 1, none⟩ = some (.float .f64 on) := by rw [cell_of_row _ _ _ _ _ _ b1, ← HCD.out]; rfl
  have q2 : u.cell? ⟨w.heap.size + 1, 2, none⟩ = some (.float .f64 off) := by rw [cell_of_row _ _ _ _ _ _ b1, ← HCD.out]; rfl
  clear hu EB LP b1 hs1 hsz hsz2 hone E0 HCD
  rcases HO.out with ⟨a, ho⟩ | ⟨a, ho⟩ | ⟨a, ho⟩
  all_goals
    clear HO
    have HA := Lib.hid a
    clear a
    go_wp2
    go_ret
    have a := HA.out
    refine ⟨ret_bool ?_, EE.out⟩
    rw [HR.out]
    unfold gtF
    first | (rw [decide_eq_true (by omega)]; simp) | (rw [decide_eq_false (by omega)]; simp)
set_option maxRecDepth 100000 in
set_option maxHeartbeats 4000000 in
theorem badBus_any (T : Tab) (h : Hd) (d : Bs) (w : World) (ht : IsTab w h T) :
    Calls Tryz.prog 86 #[.agg (T.cells h).toArray, .agg d.cells.toArray] w fun e w' => e = .returned (.bool (busBad T d)) ∧ Below w.heap.size w w' := by
  have hsz := (cells_ok ht).size
  have IA : Hid ((Tryz.prog.info? 32).map (·.size) = some (T.cells h).length) := Lib.hid (by rw [List.size_toArray] at hsz; rw [hsz]; exact infoT)
  obtain ⟨s, lk⟩ := d
  have AO : Hid (∀ W, Below w.heap.size w W → Calls Tryz.prog 115 #[.agg (T.cells h).toArray, .int .i64 s] W fun e w' => e = .returned (.bool (allOn T s)) ∧ Below W.heap.size W w') := Lib.hid (fun W hb => allOn_any T h s W (ht.below hb))
  obtain ⟨x, hx⟩ : ∃ x, x = busBad T ⟨s, lk⟩ := ⟨_, rfl⟩
  rw [← hx]
  have HR : Hid (x = (s == 0 || (!allOn T s || decide (lk < 1)))) := Lib.hid hx
  generalize allOn T s = q at AO HR
  have A1 := Lib.hid (Row.lies_new w (T.cells h).toArray 32)
  clear hx ht
  have hone := Bs.one ⟨s, lk⟩
  have hsz2 : (Bs.cells ⟨s, lk⟩).toArray.size = 2 := rfl
  generalize hcd : (Bs.cells ⟨s, lk⟩).toArray = cd at *
  have HCD := Lib.hid hcd
  clear hcd
  generalize T.cells h = c at *
  go_enter Tryz.func86, Tryz.ntmps86
  go_upto_region 1 with fail
  obtain ⟨u, hu, E1, E0, EB, b1⟩ := laid2 w (.cells c.toArray 32) (.cells cd 49)
  rw [hu]
  have EE := Lib.hid E0
  have LT : Hid (Lies u ⟨w.heap.size, 0, none⟩ c) := Lib.hid (A1.out.below (by simpa using EB))
  have q0 : u.cell? ⟨w.heap.size + 1, 0, none⟩ = some (I s) := by rw [cell_of_row _ _ _ _ _ _ b1, ← HCD.out]; rfl
  have q1 : u.cell? ⟨w.heap.size + 1, 1, none⟩ = some (I lk) := by rw [cell_of_row _ _ _ _ _ _ b1, ← HCD.out]; rfl
  have Q1 := Lib.hid q1
  clear hu EB A1 b1 hsz hsz2 hone E0 HCD
  by_cases hs : s = 0
  · go_wp2
    go_ret
    exact ⟨ret_bool (by rw [HR.out, hs]; rfl), EE.out⟩
  · go_wp2_with (refine Row.wpList_load_g 32 _ rfl (by first | rfl | go_simp) ⟨w.heap.size, 0, none⟩ rfl c _ LT.out Tryz.underlying32 rfl IA.out ?_)
    refine (AO.out _ EE.out).mono ?_
    rintro e u1 ⟨rfl, hb⟩
    have q1 := (hb.cell (World.block_lt_of_cell? u _ Q1.out)).trans Q1.out
    have EF := Lib.hid (EE.out.trans (hb.mono EE.out.size))
    clear hb q0 LT AO Q1
    cases q with
    | true =>
      go_wp2
      go_ret
      refine ⟨ret_bool ?_, EF.out⟩
      rw [HR.out]; simp [hs]
    | false =>
      go_wp2
      go_ret
      refine ⟨ret_bool ?_, EF.out⟩
      rw [HR.out]; simp
end Go.Proofs.YtjolhoilcibdfaaGreat.ChkB
/- The contracts of package check's badGroup and rings. -/
namespace Go.Proofs.YtjolhoilcibdfaaGreat.ChkH
open Go.ChangeShapes Go.WideShapes Go.ChangeAt Go.RowKit
open Tab PlaceM PlanM OnS ChkM ChkA ChkG
open May (ret_bool infoT St)
open Same (below_setRow)
set_option linter.unusedVariables false
set_option linter.unusedSimpArgs false
/-- A Fault as a value: none, or the error at a place. -/
def flt (c : Int) : Option Int → Value
  | none => .agg #[I 0, I 0]
  | some p => .agg #[I c, I p]
theorem infoF : (Tryz.prog.info? 37).map (·.size) = some 2 := by kernel_rfl
set_option maxRecDepth 100000 in
set_option maxHeartbeats 4000000 in
theorem badGroup_any (T : Tab) (h : Hd) (g : Nat) (w : World) (ht : IsTab w h T) (hg : g < T.groups.length) :
    Calls Tryz.prog 110 #[.agg (T.cells h).toArray, .int .i64 g] w fun e w' => e = .returned (.bool (groupBad T g)) ∧ Below w.heap.size w w' := by
  have hsz := (cells_ok ht).size
  have IA : Hid ((Tryz.prog.info? 32).map (·.size) = some (T.cells h).length) := Lib.hid (by rw [List.size_toArray] at hsz; rw [hsz]; exact infoT)
  have ME : Hid (∀ W, Below w.heap.size w W → Calls Tryz.prog 111 #[.agg (T.cells h).toArray, .int .i64 g] W fun e w' => e = .returned (.int .i64 (membS T g : Nat)) ∧ Below W.heap.size W w') := Lib.hid (fun W hb => PlanC.members_any T h g W (ht.below hb))
  have AO : Hid (∀ s W, Below w.heap.size w W → Calls Tryz.prog 115 #[.agg (T.cells h).toArray, .int .i64 s] W fun e w' => e = .returned (.bool (allOn T s)) ∧ Below W.heap.size W w') := Lib.hid (fun s W hb => allOn_any T h s W (ht.below hb))
  have RP : Hid (∀ W, Below w.heap.size w W → Calls Tryz.prog 139 #[.agg (T.cells h).toArray, .int .i64 g] W fun e w' => e = .returned (.bool (repeats T g)) ∧ Below W.heap.size W w') := Lib.hid (fun W hb => repeats_any T h g W (ht.below hb) hg)
  obtain ⟨x, hx⟩ : ∃ x, x = groupBad T g := ⟨_, rfl⟩
  rw [← hx]
  have HR : Hid (x = (membS T g == 0 || (!allOn T (membS T g : Nat) || repeats T g))) := Lib.hid hx
  have A0 : Hid (Below w.heap.size w (w.alloc (.cells (T.cells h).toArray 32))) := Lib.hid ((Below.refl _ _).alloc (Nat.le_refl _) _)
  have A1 := Lib.hid (Row.lies_new w (T.cells h).toArray 32)
  generalize membS T g = m at HR ME
  generalize repeats T g = rp at HR RP
  clear hx ht hg
  generalize T.cells h = c at *
  go_enter Tryz.func110, Tryz.ntmps110
  go_upto_region 1 with fail
  generalize w.alloc (.cells c.toArray 32) = u at A0 A1 ⊢
  clear hsz
  go_wp2_with (refine Row.wpList_load_g 32 _ rfl (by first | rfl | go_simp) ⟨w.heap.size, 0, none⟩ rfl c _ A1.out Tryz.underlying32 rfl IA.out ?_)
  refine (ME.out _ A0.out).mono ?_
  rintro e u1 ⟨rfl, hb⟩
  have B0 : Hid (Below w.heap.size w u1) := Lib.hid (A0.out.trans (hb.mono A0.out.size))
  have B1 := Lib.hid (A1.out.below hb)
  clear hb A0 A1 ME
  by_cases hm : m = 0
  · have HR2 : Hid (true = x) := Lib.hid (by rw [HR.out, hm]; rfl)
    rw [hm, show (((0 : Nat) : Int)) = (0 : Int) from rfl]
    clear hm
    go_wp2
    go_ret
    exact ⟨ret_bool HR2.out, B0.out⟩
  have HM : ((m : Int) == 0) = false := by rw [beq_eq_false_iff_ne]; omega
  have HR2 : Hid (x = (!allOn T (m : Nat) || rp)) := Lib.hid (by rw [HR.out, show (m == 0) = false by rw [beq_eq_false_iff_ne]; exact hm]; rfl)
  have HMi : Hid (¬ ((m : Nat) : Int) = 0) := Lib.hid (by omega)
  clear HR hm
  generalize ((m : Nat) : Int) = mi at HM HMi HR2 ⊢
  have hmi := HMi.out
  have HMb := Lib.hid HM
  have AO2 := Lib.hid (AO.out mi)
  clear AO HM
  generalize allOn T mi = ao at AO2 HR2
  go_wp2_with (refine Row.wpList_load_g 32 _ rfl (by first | rfl | go_simp) ⟨w.heap.size, 0, none⟩ rfl c _ B1.out Tryz.underlying32 rfl IA.out ?_)
  refine (AO2.out _ B0.out).mono ?_
  rintro e u2 ⟨rfl, hb⟩
  have A0 : Hid (Below w.heap.size w u2) := Lib.hid (B0.out.trans (hb.mono B0.out.size))
  have A1 := Lib.hid (B1.out.below hb)
  clear hb B0 B1 AO2 hmi
  cases ao with
  | false =>
    have HR3 : Hid (true = x) := Lib.hid (by rw [HR2.out]; rfl)
    go_wp2
    go_ret
    exact ⟨ret_bool HR3.out, A0.out⟩
  | true =>
    have HR3 : Hid (rp = x) := Lib.hid (by rw [HR2.out]; rfl)
    go_wp2_with (refine Row.wpList_load_g 32 _ rfl (by first | rfl | go_simp) ⟨w.heap.size, 0, none⟩ rfl c _ A1.out Tryz.underlying32 rfl IA.out ?_)
    refine (RP.out _ A0.out).mono ?_
    rintro e u3 ⟨rfl, hb⟩
    have B0 : Hid (Below w.heap.size w u3) := Lib.hid (A0.out.trans (hb.mono A0.out.size))
    clear hb A0 A1
    go_wp2
    go_ret
    exact ⟨ret_bool (by rw [HMb.out]; exact HR3.out), B0.out⟩
theorem find_none {f : Nat → Bool} {n : Nat} (h : ∀ j, j < n → f j = false) : (List.range n).find? f = none := range_miss h
theorem placed_lt (T : Tab) : ∀ g, placed T g < 256
  | 0 => by unfold placed; decide
  | g + 1 => Nat.or_lt_two_pow (n := 8) (placed_lt T g) (memb_lt T g)
/-- The Fault's cells. -/
def fltC (c : Int) : Option Int → Array Value
  | none => #[I 0, I 0]
  | some p => #[I c, I p]
theorem flt_agg (c : Int) (o : Option Int) : flt c o = .agg (fltC c o) := by cases o <;> rfl
set_option maxRecDepth 100000 in
set_option maxHeartbeats 4000000 in
theorem rings_any (T : Tab) (h : Hd) (w : World) (ht : IsTab w h T) :
    Calls Tryz.prog 76 #[.agg (T.cells h).toArray] w fun e w' => e = .returned (flt 8 (ringsC T)) ∧ Below w.heap.size w w' := by
  have hsz := (cells_ok ht).size
  have C := Lib.hid (cells_ok ht)
  have IA : Hid ((Tryz.prog.info? 32).map (·.size) = some (T.cells h).length) := Lib.hid (by rw [List.size_toArray] at hsz; rw [hsz]; exact infoT)
  have ON : Hid (∀ W, Below w.heap.size w W → Calls Tryz.prog 96 #[.agg (T.cells h).toArray] W fun e w' => e = .returned (.int .i64 (onS T : Nat)) ∧ Below W.heap.size W w') := Lib.hid (fun W hb => PlanO.pon_any T h W (ht.below hb))
  have ME : Hid (∀ (g : Nat) W, Below w.heap.size w W → Calls Tryz.prog 111 #[.agg (T.cells h).toArray, .int .i64 g] W fun e w' => e = .returned (.int .i64 (membS T g : Nat)) ∧ Below W.heap.size W w') := Lib.hid (fun g W hb => PlanC.members_any T h g W (ht.below hb))
  have BG : Hid (∀ (g : Nat) W, g < T.groups.length → Below w.heap.size w W → Calls Tryz.prog 110 #[.agg (T.cells h).toArray, .int .i64 g] W fun e w' => e = .returned (.bool (groupBad T g)) ∧ Below W.heap.size W w') := Lib.hid (fun g W hg hb => badGroup_any T h g W (ht.below hb) hg)
  have A0 : Hid (Below w.heap.size w ((w.alloc (.cells (T.cells h).toArray 32)).alloc (.cells #[.int .i64 0, .int .i64 0] 37))) := Lib.hid (((Below.refl _ _).alloc (Nat.le_refl _) _).alloc (by simp) _)
  have A1 : Hid (Lies ((w.alloc (.cells (T.cells h).toArray 32)).alloc (.cells #[.int .i64 0, .int .i64 0] 37)) ⟨w.heap.size, 0, none⟩ (T.cells h)) := Lib.hid ((Row.lies_new w _ _).below ((Below.refl _ _).alloc (Nat.le_refl _) _))
  have A2 : Hid (((w.alloc (.cells (T.cells h).toArray 32)).alloc (.cells #[.int .i64 0, .int .i64 0] 37)).heap[w.heap.size + 1]? = some (.cells #[.int .i64 0, .int .i64 0] 37 (0, 0))) := Lib.hid (heap_alloc2_new w _ _)
  have q104 := (((Row.lies_new w (T.cells h).toArray 32).below ((Below.refl _ _).alloc (Nat.le_refl _) (.cells #[.int .i64 0, .int .i64 0] 37))) 104 _ ((Array.getElem?_toList ..).trans C.out.g) : ((w.alloc (.cells (T.cells h).toArray 32)).alloc (.cells #[.int .i64 0, .int .i64 0] 37)).cell? ((⟨w.heap.size, 0, none⟩ : Addr).add 104) = _)
  have q104 : ((w.alloc (.cells (T.cells h).toArray 32)).alloc (.cells #[.int .i64 0, .int .i64 0] 37)).cell? ⟨w.heap.size, 104, none⟩ = some (.slice h.g.a T.groups.length h.g.cap) := q104
  have Kg : T.groups.length ≤ maxLen := by
    obtain ⟨gs, hgd, hgr⟩ := ht.groups
    have := hgr.1.len
    rw [← hgd, List.length_map]; omega
  unfold maxLen at Kg
  have RC : Hid (ringsC T = _) := Lib.hid (by unfold ringsC; rfl)
  have LT := Lib.hid (placed_lt T)
  have ML := Lib.hid (memb_lt T)
  obtain ⟨o, ho⟩ : ∃ o, o = ringsC T := ⟨_, rfl⟩
  rw [← ho, flt_agg] 
  rw [← ho] at RC
  clear ho ht C
  generalize hn : T.groups.length = n at *
  have HN := Lib.hid hn
  clear hn
  generalize h.g.cap = gcap at *
  generalize h.g.a = ga at *
  generalize T.cells h = c at *
  go_enter Tryz.func76, Tryz.ntmps76
  go_upto_region 1 with fail
  generalize ((w.alloc (.cells c.toArray 32)).alloc (.cells #[.int .i64 0, .int .i64 0] 37)) = u at A0 A1 A2 q104 ⊢
  clear hsz
  by_cases hz : n = 0
  · subst hz
    have RO : Hid (o = some 0) := Lib.hid (by rw [RC.out]; rfl)
    clear RC
    have HW := Lib.hid (below_setRow A0.out (g := w.heap.size + 1) (by omega) #[I 8, I 0])
    have HK := Lib.hid (setRow_heap u (w.heap.size + 1) _ #[I 8, I 0] _ _ A2.out)
    go_wp2_with (first | (refine wpList_store_row rfl 37 _ _ rfl (w.heap.size + 1) #[I 8, I 0] rfl rfl 37 _ A2.out infoF rfl (by simp [Value.oneCell']) ?_))
    generalize u.setRow (w.heap.size + 1) #[I 8, I 0] = uz at HW HK ⊢
    (try go_wp2_with fail)
    (try simp only [Exit.inBlock, Exit.then])
    refine bodyPost_ret (v := .agg #[I 8, I 0]) ?_ rfl ⟨by rw [RO.out]; rfl, HW.out⟩
    exact results_cell_row rfl _ _ (w.heap.size + 1) 37 _ (0, 0) _ rfl HK.out Tryz.underlying37 rfl infoF
  · have HZ : Hid (¬ n = 0) := Lib.hid hz
    have hzi : ((n : Int) == 0) = false := by rw [beq_eq_false_iff_ne]; omega
    have hzj : ¬ ((n : Int) = 0) := by omega
    rw [if_neg hz] at RC
    clear hz
    go_wp2_with fail
    clear hzi hzj q104
    go_loopw [3, 13] (fun s a wr => ∃ q : Nat, q ≤ n ∧ s = .int .i64 (placed T q : Nat) ∧ a = .int .i64 q ∧ (∀ j, j < q → groupBad T j = false) ∧ Below u.heap.size u wr) (fun _ a _ => n - (intOf a).toNat)
    case atStart => exact ⟨0, by omega, rfl, rfl, (fun j h => by omega), Below.refl _ _⟩
    case round =>
      obtain ⟨q, hq, rfl, rfl, hall, hB⟩ := hrel
      have HA := Lib.hid hall
      have B0 : Hid (Below w.heap.size w wr) := Lib.hid (A0.out.trans (hB.mono A0.out.size))
      have B1 := Lib.hid (A1.out.below hB)
      have B2 : Hid (wr.heap[w.heap.size + 1]? = some (.cells #[.int .i64 0, .int .i64 0] 37 (0, 0))) := Lib.hid ((hB.block _ (Array.getElem?_eq_some_iff.1 A2.out).1).trans A2.out)
      have B3 := Lib.hid hB
      clear hall hB
      by_cases hlt : q < n
      · go_wp2_with (refine Row.wpList_load_g 32 _ rfl (by first | rfl | go_simp) ⟨w.heap.size, 0, none⟩ rfl c _ B1.out Tryz.underlying32 rfl IA.out ?_)
        refine (BG.out q _ hlt B0.out).mono ?_
        rintro e u1 ⟨rfl, hb⟩
        have C0 : Hid (Below w.heap.size w u1) := Lib.hid (B0.out.trans (hb.mono B0.out.size))
        have C1 := Lib.hid (B1.out.below hb)
        have C2 : Hid (u1.heap[w.heap.size + 1]? = some (.cells #[.int .i64 0, .int .i64 0] 37 (0, 0))) := Lib.hid ((hb.block _ (Array.getElem?_eq_some_iff.1 B2.out).1).trans B2.out)
        have C3 := Lib.hid (B3.out.trans (hb.mono B3.out.size))
        clear hb B0 B1 B2 B3
        cases hgb : groupBad T q with
        | true =>
          have RO : Hid (o = some (q : Int)) := Lib.hid (by rw [RC.out, range_hit hlt hgb HA.out])
          clear hgb
          have HW := Lib.hid (below_setRow C0.out (g := w.heap.size + 1) (by omega) #[I 8, I q])
          have HK := Lib.hid (setRow_heap u1 (w.heap.size + 1) _ #[I 8, I q] _ _ C2.out)
          go_wp2_with (first | (refine wpList_store_row rfl 37 _ _ rfl (w.heap.size + 1) #[I 8, I q] rfl rfl 37 _ C2.out infoF rfl (by simp [Value.oneCell']) ?_))
          generalize u1.setRow (w.heap.size + 1) #[I 8, I q] = uz at HW HK ⊢
          (try go_wp2_with fail)
          (try simp only [Exit.inBlock, Exit.then])
          refine bodyPost_ret (v := .agg #[I 8, I q]) ?_ rfl ⟨by rw [RO.out]; rfl, HW.out⟩
          exact results_cell_row rfl _ _ (w.heap.size + 1) 37 _ (0, 0) _ rfl HK.out Tryz.underlying37 rfl infoF
        | false =>
          have HG := Lib.hid hgb
          clear hgb
          go_wp2_with (refine Row.wpList_load_g 32 _ rfl (by first | rfl | go_simp) ⟨w.heap.size, 0, none⟩ rfl c _ C1.out Tryz.underlying32 rfl IA.out ?_)
          refine (ME.out q _ C0.out).mono ?_
          rintro e u2 ⟨rfl, hb⟩
          have D3 := Lib.hid (C3.out.trans (hb.mono C3.out.size))
          have OR : Hid (bits .or .i64 (placed T q : Nat) (membS T q : Nat) = (placed T (q + 1) : Nat)) := Lib.hid (RefS.or_small _ _ (LT.out _) (ML.out _))
          clear hb C0 C1 C2 C3
          generalize membS T q = mq at OR ⊢
          generalize placed T q = pq at OR ⊢
          go_wp2
          go_roundw
          case rel => exact ⟨q + 1, by omega, by rw [OR.out], by go_num, (fun j hj => by
            by_cases e : j = q
            · subst e; exact HG.out
            · exact HA.out j (by omega)), D3.out⟩
          case measure => simp [intOf]; omega
      · have hqn : q = n := by omega
        have RC2 : Hid (o = if bits .andNot .i64 (onS T : Nat) (placed T n : Nat) = 0 then none else some 0) := Lib.hid (by rw [RC.out, find_none (fun j hj => HA.out j (by omega))])
        rw [hqn]
        clear RC hlt hqn hq HA
        go_wp2_with (refine Row.wpList_load_g 32 _ rfl (by first | rfl | go_simp) ⟨w.heap.size, 0, none⟩ rfl c _ B1.out Tryz.underlying32 rfl IA.out ?_)
        refine (ON.out _ B0.out).mono ?_
        rintro e u1 ⟨rfl, hb⟩
        have C0 : Hid (Below w.heap.size w u1) := Lib.hid (B0.out.trans (hb.mono B0.out.size))
        have C2 : Hid (u1.heap[w.heap.size + 1]? = some (.cells #[.int .i64 0, .int .i64 0] 37 (0, 0))) := Lib.hid ((hb.block _ (Array.getElem?_eq_some_iff.1 B2.out).1).trans B2.out)
        clear hb B0 B1 B2 B3
        generalize placed T n = pq at RC2 ⊢
        generalize onS T = m at RC2 ⊢
        by_cases hz : bits .andNot .i64 (m : Int) (pq : Int) = 0
        · have RO : Hid (o = none) := Lib.hid (by rw [RC2.out, if_pos hz])
          have HW := Lib.hid (below_setRow C0.out (g := w.heap.size + 1) (by omega) #[I 0, I 0])
          have HK := Lib.hid (setRow_heap u1 (w.heap.size + 1) _ #[I 0, I 0] _ _ C2.out)
          go_wp2_with (first | (refine wpList_store_row rfl 37 _ _ rfl (w.heap.size + 1) #[I 0, I 0] rfl rfl 37 _ C2.out infoF rfl (by simp [Value.oneCell']) ?_))
          generalize u1.setRow (w.heap.size + 1) #[I 0, I 0] = uz at HW HK ⊢
          (try go_wp2_with fail)
          (try simp only [Exit.inBlock, Exit.then])
          refine bodyPost_ret (v := .agg #[I 0, I 0]) ?_ rfl ⟨by rw [RO.out]; rfl, HW.out⟩
          exact results_cell_row rfl _ _ (w.heap.size + 1) 37 _ (0, 0) _ rfl HK.out Tryz.underlying37 rfl infoF
        · have RO : Hid (o = some 0) := Lib.hid (by rw [RC2.out, if_neg hz])
          have HW := Lib.hid (below_setRow C0.out (g := w.heap.size + 1) (by omega) #[I 8, I 0])
          have HK := Lib.hid (setRow_heap u1 (w.heap.size + 1) _ #[I 8, I 0] _ _ C2.out)
          go_wp2_with (first | (refine wpList_store_row rfl 37 _ _ rfl (w.heap.size + 1) #[I 8, I 0] rfl rfl 37 _ C2.out infoF rfl (by simp [Value.oneCell']) ?_))
          generalize u1.setRow (w.heap.size + 1) #[I 8, I 0] = uz at HW HK ⊢
          (try go_wp2_with fail)
          (try simp only [Exit.inBlock, Exit.then])
          refine bodyPost_ret (v := .agg #[I 8, I 0]) ?_ rfl ⟨by rw [RO.out]; rfl, HW.out⟩
          exact results_cell_row rfl _ _ (w.heap.size + 1) 37 _ (0, 0) _ rfl HK.out Tryz.underlying37 rfl infoF
end Go.Proofs.YtjolhoilcibdfaaGreat.ChkH
/- The contracts of the closures that package check's elements makes, for detectors, rails and buses. -/
namespace Go.Proofs.YtjolhoilcibdfaaGreat.ChkE
open Go.ChangeShapes Go.WideShapes Go.ChangeAt Go.RowKit
open Tab PlaceM PlanM OnS ChkM ChkA ChkH
open ChkB (laid2)
open Same (below_setRow)
open May (ret_bool infoT infoD infoR infoB)
set_option linter.unusedVariables false
set_option linter.unusedSimpArgs false
theorem idx_hit {α : Type} {f : α → Bool} {l : List α} {q : Nat} {v : α} (hv : l[q]? = some v) (hb : f v = true) (hn : ∀ (j : Nat) u, j < q → l[j]? = some u → f u = false) : idx f l = some (q : Int) := by
  have h : l.findIdx? f = some q := by
    rw [List.findIdx?_eq_some_iff_getElem]
    obtain ⟨h1, h2⟩ := List.getElem?_eq_some_iff.1 hv
    refine ⟨h1, by rw [h2]; exact hb, fun j hj => ?_⟩
    have := hn j _ hj (List.getElem?_eq_getElem (by omega))
    simp [this]
  unfold idx; rw [h]; rfl
theorem idx_miss {α : Type} {f : α → Bool} {l : List α} (hn : ∀ (j : Nat) u, l[j]? = some u → f u = false) : idx f l = none := by
  have h : l.findIdx? f = none := by
    rw [List.findIdx?_eq_none_iff]
    intro x hx
    obtain ⟨j, hj, rfl⟩ := List.getElem_of_mem hx
    exact hn j _ (List.getElem?_eq_getElem hj)
  unfold idx; rw [h]; rfl
set_option maxRecDepth 100000 in
set_option maxHeartbeats 8000000 in
theorem elem_D (T : Tab) (h : Hd) (code : Int) (bl bb bc : Nat) (bad : Det → Bool) (w : World) (ht : IsTab w h T) (hbl : w.cell? ⟨bl, 0, none⟩ = some (.func (.func 79) #[] #[])) (hbb : w.cell? ⟨bb, 0, none⟩ = some (.func (.func 80) #[] #[])) (hbc : w.cell? ⟨bc, 0, none⟩ = some (.int .i64 code))
    (hbad : ∀ (v : Det) W, v ∈ T.dets → Below w.heap.size w W → Calls Tryz.prog 80 #[.agg (T.cells h).toArray, .agg v.cells.toArray] W fun e w' => e = .returned (.bool (bad v)) ∧ Below W.heap.size W w') :
    Calls Tryz.prog 113 #[.agg (T.cells h).toArray, .pointer (some ⟨bl, 0, none⟩), .pointer (some ⟨bb, 0, none⟩), .pointer (some ⟨bc, 0, none⟩)] w fun e w' => e = .returned (.agg (fltC code (idx bad T.dets))) ∧ Below w.heap.size w w' := by
  have hsz := (cells_ok ht).size
  have IA : Hid ((Tryz.prog.info? 32).map (·.size) = some (T.cells h).length) := Lib.hid (by rw [List.size_toArray] at hsz; rw [hsz]; exact infoT)
  have LS : Hid (∀ W, Below w.heap.size w W → Calls Tryz.prog 79 #[.agg (T.cells h).toArray] W fun e w' => e = .returned (h.d.val T.dets.length) ∧ Below W.heap.size W w') := Lib.hid (fun W hb => listD_any T h W (ht.below hb))
  have LT0 := Lib.hid (Row.lies_new w (T.cells h).toArray 32)
  have HBAD := Lib.hid hbad
  have HBL := Lib.hid (show ∀ W, Below w.heap.size w W → W.cell? ⟨bl, 0, none⟩ = some (.func (.func 79) #[] #[]) from fun W hb => (hb.cell (World.block_lt_of_cell? w _ hbl)).trans hbl)
  have HBB := Lib.hid (show ∀ W, Below w.heap.size w W → W.cell? ⟨bb, 0, none⟩ = some (.func (.func 80) #[] #[]) from fun W hb => (hb.cell (World.block_lt_of_cell? w _ hbb)).trans hbb)
  have HBC := Lib.hid (show ∀ W, Below w.heap.size w W → W.cell? ⟨bc, 0, none⟩ = some (.int .i64 code) from fun W hb => (hb.cell (World.block_lt_of_cell? w _ hbc)).trans hbc)
  have hs1 : (w.alloc (.cells (T.cells h).toArray 32)).heap.size = w.heap.size + 1 := by simp
  have en := enters_of Tryz.func80 (by kernel_rfl) rfl
  have en2 := enters_of Tryz.func79 (by kernel_rfl) rfl
  have RW := Lib.hid ht.dets
  have Kl := ht.dets.len
  unfold maxLen at Kl
  obtain ⟨o, ho⟩ : ∃ o, o = idx bad T.dets := ⟨_, rfl⟩
  rw [← ho]
  have HO := Lib.hid ho
  clear ht hbad hbl hbb hbc ho
  generalize hSl : h.d = sl at *
  obtain ⟨sa, scap⟩ := sl
  clear hSl
  generalize T.cells h = c at *
  generalize T.dets = l at *
  go_enter Tryz.func113, Tryz.ntmps113
  go_upto_region 1 with fail
  obtain ⟨W1, hW1, E1, E0, EB, bR⟩ := laid2 w (.cells c.toArray 32) (.cells #[.int .i64 0, .int .i64 0] 37)
  rw [hW1]
  have LT := Lib.hid (LT0.out.below (by rw [hs1]; exact EB))
  have B0 := Lib.hid E0
  have B2 : Hid (W1.heap[w.heap.size + 1]? = some (.cells #[.int .i64 0, .int .i64 0] 37 (0, 0))) := Lib.hid bR
  clear hW1 EB hs1 hsz LT0 E0 bR E1
  have hbl := HBL.out _ B0.out
  go_wp2_with (refine Row.wpList_load_g 32 _ rfl (by first | rfl | go_simp) ⟨w.heap.size, 0, none⟩ rfl c _ LT.out Tryz.underlying32 rfl IA.out ?_)
  (try go_wp2_with fail)
  refine (LS.out _ B0.out).mono ?_
  rintro e W3 ⟨rfl, hb⟩
  have HB3 := Lib.hid hb
  clear hb hbl
  rw [show (Sl.val ⟨sa, scap⟩ l.length) = .slice sa l.length scap from rfl]
  go_wp2_with fail
  go_loopw [12] (fun a wr => ∃ q : Nat, q ≤ l.length ∧ a = .int .i64 q ∧ (∀ j u, j < q → l[j]? = some u → bad u = false) ∧ Below W1.heap.size W1 wr) (fun a _ => l.length - (intOf a).toNat)
  case atStart => exact ⟨0, by omega, rfl, (fun j u h => by omega), HB3.out⟩
  case round =>
    obtain ⟨q, hq, rfl, hall, hB⟩ := hrel
    have HA := Lib.hid hall
    have HB := Lib.hid hB
    have BW : Hid (Below w.heap.size w wr) := Lib.hid (B0.out.trans (hB.mono B0.out.size))
    clear hall hB
    by_cases hlt : q < l.length
    · have hv := List.getElem?_eq_getElem hlt
      generalize hz : l[q] = v at hv
      have hmem : v ∈ l := List.mem_of_getElem? hv
      obtain ⟨x, hx, hc⟩ := (RW.out.below BW.out).at hv
      obtain rfl : sa = some x := hx
      have HC := Lib.hid hc
      have HV := Lib.hid hv
      have BD := Lib.hid (fun W hb => HBAD.out v W hmem hb)
      have hwr := HB.out.size
      clear hv hz hmem hc
      have VO := Lib.hid (Det.one v)
      obtain ⟨bv, hbv⟩ : ∃ z, bad v = z := ⟨_, rfl⟩
      have BDV := BD
      have IV : Hid ((Tryz.prog.info? 45).map (·.size) = some v.cells.length) := Lib.hid infoD
      go_upto_region 4 with (first | (refine Row.wpList_load_g 45 _ rfl (by first | rfl | go_simp) (x.add (q * 7)) rfl v.cells _ HC.out Tryz.underlying45 rfl IV.out ?_) | (refine Row.wpList_store_new rfl 45 _ _ rfl wr _ v.cells.toArray rfl rfl rfl infoD rfl VO.out ?_))
      have hbn : Below W1.heap.size W1 (wr.alloc (.cells v.cells.toArray 45)) := HB.out.alloc hwr _
      have hbo : Below wr.heap.size wr (wr.alloc (.cells v.cells.toArray 45)) := (Below.refl _ _).alloc (Nat.le_refl _) _
      have hg := Row.lies_new wr v.cells.toArray 45
      have HL : Hid (Lies (wr.alloc (.cells v.cells.toArray 45)) ⟨wr.heap.size, 0, none⟩ v.cells) := Lib.hid (by simpa using hg)
      have HN := Lib.hid hbn
      have LTW := Lib.hid ((LT.out.below HB.out).below hbo)
      clear hg hbn hbo HC VO
      generalize v.cells = vc at *
      generalize wr.alloc (.cells vc.toArray 45) = w4 at HL HN LTW ⊢
      generalize wr.heap.size = b4 at HL ⊢
      have BW4 : Hid (Below w.heap.size w w4) := Lib.hid (B0.out.trans (HN.out.mono B0.out.size))
      have hbb := HBB.out _ BW4.out
      go_wp2_with (first | (refine Row.wpList_load_g 32 _ rfl (by first | rfl | go_simp) ⟨w.heap.size, 0, none⟩ rfl c _ LTW.out Tryz.underlying32 rfl IA.out ?_) | (refine Row.wpList_load_g 45 _ rfl (by first | rfl | go_simp) ⟨b4, 0, none⟩ rfl vc _ HL.out Tryz.underlying45 rfl IV.out ?_))
      (try go_wp2_with fail)
      refine (BD.out _ BW4.out).mono ?_
      rintro e w5 ⟨rfl, hb⟩
      have HN5 := Lib.hid (HN.out.trans (hb.mono HN.out.size))
      have BW5 : Hid (Below w.heap.size w w5) := Lib.hid (BW4.out.trans (hb.mono BW4.out.size))
      clear hb hbb HN LTW BW4
      rw [hbv]
      cases bv with
      | true =>
        have RO : Hid (o = some (q : Int)) := Lib.hid (by rw [HO.out]; exact idx_hit HV.out hbv HA.out)
        have hbc := HBC.out _ BW5.out
        have C2 : Hid (w5.heap[w.heap.size + 1]? = some (.cells #[.int .i64 0, .int .i64 0] 37 (0, 0))) := Lib.hid ((HN5.out.block _ (Array.getElem?_eq_some_iff.1 B2.out).1).trans B2.out)
        clear hbv
        have HW := Lib.hid (below_setRow BW5.out (g := w.heap.size + 1) (by omega) #[.int .i64 code, .int .i64 q])
        have HK := Lib.hid (setRow_heap w5 (w.heap.size + 1) _ #[.int .i64 code, .int .i64 q] _ _ C2.out)
        go_wp2_with (first | (refine wpList_store_row rfl 37 _ _ rfl (w.heap.size + 1) #[.int .i64 code, .int .i64 q] rfl rfl 37 _ C2.out infoF rfl (by simp [Value.oneCell']) ?_))
        generalize w5.setRow (w.heap.size + 1) #[.int .i64 code, .int .i64 q] = uz at HW HK ⊢
        (try go_wp2_with fail)
        (try simp only [Exit.inBlock, Exit.then])
        refine bodyPost_ret (v := .agg #[.int .i64 code, .int .i64 q]) ?_ rfl ⟨by rw [RO.out]; rfl, HW.out⟩
        exact results_cell_row rfl _ _ (w.heap.size + 1) 37 _ (0, 0) _ rfl HK.out Tryz.underlying37 rfl infoF
      | false =>
        have HF := Lib.hid hbv
        clear hbv
        go_wp2
        go_roundw
        case rel => exact ⟨q + 1, by omega, by go_num, (fun j u hj hu => by
          by_cases e : j = q
          · subst e; obtain rfl := Option.some.inj (hu.symm.trans HV.out); exact HF.out
          · exact HA.out j u (by omega) hu), HN5.out⟩
        case measure => simp [intOf]; omega
    · have RO : Hid (o = none) := Lib.hid (by rw [HO.out]; exact idx_miss (fun j u hu => HA.out j u (by have := (List.getElem?_eq_some_iff.1 hu).1; omega) hu))
      have C2 : Hid (wr.heap[w.heap.size + 1]? = some (.cells #[.int .i64 0, .int .i64 0] 37 (0, 0))) := Lib.hid ((HB.out.block _ (Array.getElem?_eq_some_iff.1 B2.out).1).trans B2.out)
      have HW := Lib.hid (below_setRow BW.out (g := w.heap.size + 1) (by omega) #[.int .i64 0, .int .i64 0])
      have HK := Lib.hid (setRow_heap wr (w.heap.size + 1) _ #[.int .i64 0, .int .i64 0] _ _ C2.out)
      go_wp2_with (first | (refine wpList_store_row rfl 37 _ _ rfl (w.heap.size + 1) #[.int .i64 0, .int .i64 0] rfl rfl 37 _ C2.out infoF rfl (by simp [Value.oneCell']) ?_))
      generalize wr.setRow (w.heap.size + 1) #[.int .i64 0, .int .i64 0] = uz at HW HK ⊢
      (try go_wp2_with fail)
      (try simp only [Exit.inBlock, Exit.then])
      refine bodyPost_ret (v := .agg #[.int .i64 0, .int .i64 0]) ?_ rfl ⟨by rw [RO.out]; rfl, HW.out⟩
      exact results_cell_row rfl _ _ (w.heap.size + 1) 37 _ (0, 0) _ rfl HK.out Tryz.underlying37 rfl infoF
set_option maxRecDepth 100000 in
set_option maxHeartbeats 8000000 in
theorem elem_R (T : Tab) (h : Hd) (code : Int) (bl bb bc : Nat) (bad : Rl → Bool) (w : World) (ht : IsTab w h T) (hbl : w.cell? ⟨bl, 0, none⟩ = some (.func (.func 82) #[] #[])) (hbb : w.cell? ⟨bb, 0, none⟩ = some (.func (.func 83) #[] #[])) (hbc : w.cell? ⟨bc, 0, none⟩ = some (.int .i64 code))
    (hbad : ∀ (v : Rl) W, v ∈ T.rails → Below w.heap.size w W → Calls Tryz.prog 83 #[.agg (T.cells h).toArray, .agg v.cells.toArray] W fun e w' => e = .returned (.bool (bad v)) ∧ Below W.heap.size W w') :
    Calls Tryz.prog 114 #[.agg (T.cells h).toArray, .pointer (some ⟨bl, 0, none⟩), .pointer (some ⟨bb, 0, none⟩), .pointer (some ⟨bc, 0, none⟩)] w fun e w' => e = .returned (.agg (fltC code (idx bad T.rails))) ∧ Below w.heap.size w w' := by
  have hsz := (cells_ok ht).size
  have IA : Hid ((Tryz.prog.info? 32).map (·.size) = some (T.cells h).length) := Lib.hid (by rw [List.size_toArray] at hsz; rw [hsz]; exact infoT)
  have LS : Hid (∀ W, Below w.heap.size w W → Calls Tryz.prog 82 #[.agg (T.cells h).toArray] W fun e w' => e = .returned (h.r.val T.rails.length) ∧ Below W.heap.size W w') := Lib.hid (fun W hb => listR_any T h W (ht.below hb))
  have LT0 := Lib.hid (Row.lies_new w (T.cells h).toArray 32)
  have HBAD := Lib.hid hbad
  have HBL := Lib.hid (show ∀ W, Below w.heap.size w W → W.cell? ⟨bl, 0, none⟩ = some (.func (.func 82) #[] #[]) from fun W hb => (hb.cell (World.block_lt_of_cell? w _ hbl)).trans hbl)
  have HBB := Lib.hid (show ∀ W, Below w.heap.size w W → W.cell? ⟨bb, 0, none⟩ = some (.func (.func 83) #[] #[]) from fun W hb => (hb.cell (World.block_lt_of_cell? w _ hbb)).trans hbb)
  have HBC := Lib.hid (show ∀ W, Below w.heap.size w W → W.cell? ⟨bc, 0, none⟩ = some (.int .i64 code) from fun W hb => (hb.cell (World.block_lt_of_cell? w _ hbc)).trans hbc)
  have hs1 : (w.alloc (.cells (T.cells h).toArray 32)).heap.size = w.heap.size + 1 := by simp
  have en := enters_of Tryz.func83 (by kernel_rfl) rfl
  have en2 := enters_of Tryz.func82 (by kernel_rfl) rfl
  have RW := Lib.hid ht.rails
  have Kl := ht.rails.len
  unfold maxLen at Kl
  obtain ⟨o, ho⟩ : ∃ o, o = idx bad T.rails := ⟨_, rfl⟩
  rw [← ho]
  have HO := Lib.hid ho
  clear ht hbad hbl hbb hbc ho
  generalize hSl : h.r = sl at *
  obtain ⟨sa, scap⟩ := sl
  clear hSl
  generalize T.cells h = c at *
  generalize T.rails = l at *
  go_enter Tryz.func114, Tryz.ntmps114
  go_upto_region 1 with fail
  obtain ⟨W1, hW1, E1, E0, EB, bR⟩ := laid2 w (.cells c.toArray 32) (.cells #[.int .i64 0, .int .i64 0] 37)
  rw [hW1]
  have LT := Lib.hid (LT0.out.below (by rw [hs1]; exact EB))
  have B0 := Lib.hid E0
  have B2 : Hid (W1.heap[w.heap.size + 1]? = some (.cells #[.int .i64 0, .int .i64 0] 37 (0, 0))) := Lib.hid bR
  clear hW1 EB hs1 hsz LT0 E0 bR E1
  have hbl := HBL.out _ B0.out
  go_wp2_with (refine Row.wpList_load_g 32 _ rfl (by first | rfl | go_simp) ⟨w.heap.size, 0, none⟩ rfl c _ LT.out Tryz.underlying32 rfl IA.out ?_)
  (try go_wp2_with fail)
  refine (LS.out _ B0.out).mono ?_
  rintro e W3 ⟨rfl, hb⟩
  have HB3 := Lib.hid hb
  clear hb hbl
  rw [show (Sl.val ⟨sa, scap⟩ l.length) = .slice sa l.length scap from rfl]
  go_wp2_with fail
  go_loopw [12] (fun a wr => ∃ q : Nat, q ≤ l.length ∧ a = .int .i64 q ∧ (∀ j u, j < q → l[j]? = some u → bad u = false) ∧ Below W1.heap.size W1 wr) (fun a _ => l.length - (intOf a).toNat)
  case atStart => exact ⟨0, by omega, rfl, (fun j u h => by omega), HB3.out⟩
  case round =>
    obtain ⟨q, hq, rfl, hall, hB⟩ := hrel
    have HA := Lib.hid hall
    have HB := Lib.hid hB
    have BW : Hid (Below w.heap.size w wr) := Lib.hid (B0.out.trans (hB.mono B0.out.size))
    clear hall hB
    by_cases hlt : q < l.length
    · have hv := List.getElem?_eq_getElem hlt
      generalize hz : l[q] = v at hv
      have hmem : v ∈ l := List.mem_of_getElem? hv
      obtain ⟨x, hx, hc⟩ := (RW.out.below BW.out).at hv
      obtain rfl : sa = some x := hx
      have HC := Lib.hid hc
      have HV := Lib.hid hv
      have BD := Lib.hid (fun W hb => HBAD.out v W hmem hb)
      have hwr := HB.out.size
      clear hv hz hmem hc
      have VO := Lib.hid (Rl.one v)
      obtain ⟨bv, hbv⟩ : ∃ z, bad v = z := ⟨_, rfl⟩
      have BDV := BD
      have IV : Hid ((Tryz.prog.info? 47).map (·.size) = some v.cells.length) := Lib.hid infoR
      go_upto_region 4 with (first | (refine Row.wpList_load_g 47 _ rfl (by first | rfl | go_simp) (x.add (q * 11)) rfl v.cells _ HC.out Tryz.underlying47 rfl IV.out ?_) | (refine Row.wpList_store_new rfl 47 _ _ rfl wr _ v.cells.toArray rfl rfl rfl infoR rfl VO.out ?_))
      have hbn : Below W1.heap.size W1 (wr.alloc (.cells v.cells.toArray 47)) := HB.out.alloc hwr _
      have hbo : Below wr.heap.size wr (wr.alloc (.cells v.cells.toArray 47)) := (Below.refl _ _).alloc (Nat.le_refl _) _
      have hg := Row.lies_new wr v.cells.toArray 47
      have HL : Hid (Lies (wr.alloc (.cells v.cells.toArray 47)) ⟨wr.heap.size, 0, none⟩ v.cells) := Lib.hid (by simpa using hg)
      have HN := Lib.hid hbn
      have LTW := Lib.hid ((LT.out.below HB.out).below hbo)
      clear hg hbn hbo HC VO
      generalize v.cells = vc at *
      generalize wr.alloc (.cells vc.toArray 47) = w4 at HL HN LTW ⊢
      generalize wr.heap.size = b4 at HL ⊢
      have BW4 : Hid (Below w.heap.size w w4) := Lib.hid (B0.out.trans (HN.out.mono B0.out.size))
      have hbb := HBB.out _ BW4.out
      go_wp2_with (first | (refine Row.wpList_load_g 32 _ rfl (by first | rfl | go_simp) ⟨w.heap.size, 0, none⟩ rfl c _ LTW.out Tryz.underlying32 rfl IA.out ?_) | (refine Row.wpList_load_g 47 _ rfl (by first | rfl | go_simp) ⟨b4, 0, none⟩ rfl vc _ HL.out Tryz.underlying47 rfl IV.out ?_))
      (try go_wp2_with fail)
      refine (BD.out _ BW4.out).mono ?_
      rintro e w5 ⟨rfl, hb⟩
      have HN5 := Lib.hid (HN.out.trans (hb.mono HN.out.size))
      have BW5 : Hid (Below w.heap.size w w5) := Lib.hid (BW4.out.trans (hb.mono BW4.out.size))
      clear hb hbb HN LTW BW4
      rw [hbv]
      cases bv with
      | true =>
        have RO : Hid (o = some (q : Int)) := Lib.hid (by rw [HO.out]; exact idx_hit HV.out hbv HA.out)
        have hbc := HBC.out _ BW5.out
        have C2 : Hid (w5.heap[w.heap.size + 1]? = some (.cells #[.int .i64 0, .int .i64 0] 37 (0, 0))) := Lib.hid ((HN5.out.block _ (Array.getElem?_eq_some_iff.1 B2.out).1).trans B2.out)
        clear hbv
        have HW := Lib.hid (below_setRow BW5.out (g := w.heap.size + 1) (by omega) #[.int .i64 code, .int .i64 q])
        have HK := Lib.hid (setRow_heap w5 (w.heap.size + 1) _ #[.int .i64 code, .int .i64 q] _ _ C2.out)
        go_wp2_with (first | (refine wpList_store_row rfl 37 _ _ rfl (w.heap.size + 1) #[.int .i64 code, .int .i64 q] rfl rfl 37 _ C2.out infoF rfl (by simp [Value.oneCell']) ?_))
        generalize w5.setRow (w.heap.size + 1) #[.int .i64 code, .int .i64 q] = uz at HW HK ⊢
        (try go_wp2_with fail)
        (try simp only [Exit.inBlock, Exit.then])
        refine bodyPost_ret (v := .agg #[.int .i64 code, .int .i64 q]) ?_ rfl ⟨by rw [RO.out]; rfl, HW.out⟩
        exact results_cell_row rfl _ _ (w.heap.size + 1) 37 _ (0, 0) _ rfl HK.out Tryz.underlying37 rfl infoF
      | false =>
        have HF := Lib.hid hbv
        clear hbv
        go_wp2
        go_roundw
        case rel => exact ⟨q + 1, by omega, by go_num, (fun j u hj hu => by
          by_cases e : j = q
          · subst e; obtain rfl := Option.some.inj (hu.symm.trans HV.out); exact HF.out
          · exact HA.out j u (by omega) hu), HN5.out⟩
        case measure => simp [intOf]; omega
    · have RO : Hid (o = none) := Lib.hid (by rw [HO.out]; exact idx_miss (fun j u hu => HA.out j u (by have := (List.getElem?_eq_some_iff.1 hu).1; omega) hu))
      have C2 : Hid (wr.heap[w.heap.size + 1]? = some (.cells #[.int .i64 0, .int .i64 0] 37 (0, 0))) := Lib.hid ((HB.out.block _ (Array.getElem?_eq_some_iff.1 B2.out).1).trans B2.out)
      have HW := Lib.hid (below_setRow BW.out (g := w.heap.size + 1) (by omega) #[.int .i64 0, .int .i64 0])
      have HK := Lib.hid (setRow_heap wr (w.heap.size + 1) _ #[.int .i64 0, .int .i64 0] _ _ C2.out)
      go_wp2_with (first | (refine wpList_store_row rfl 37 _ _ rfl (w.heap.size + 1) #[.int .i64 0, .int .i64 0] rfl rfl 37 _ C2.out infoF rfl (by simp [Value.oneCell']) ?_))
      generalize wr.setRow (w.heap.size + 1) #[.int .i64 0, .int .i64 0] = uz at HW HK ⊢
      (try go_wp2_with fail)
      (try simp only [Exit.inBlock, Exit.then])
      refine bodyPost_ret (v := .agg #[.int .i64 0, .int .i64 0]) ?_ rfl ⟨by rw [RO.out]; rfl, HW.out⟩
      exact results_cell_row rfl _ _ (w.heap.size + 1) 37 _ (0, 0) _ rfl HK.out Tryz.underlying37 rfl infoF
set_option maxRecDepth 100000 in
set_option maxHeartbeats 8000000 in
theorem elem_B (T : Tab) (h : Hd) (code : Int) (bl bb bc : Nat) (bad : Bs → Bool) (w : World) (ht : IsTab w h T) (hbl : w.cell? ⟨bl, 0, none⟩ = some (.func (.func 85) #[] #[])) (hbb : w.cell? ⟨bb, 0, none⟩ = some (.func (.func 86) #[] #[])) (hbc : w.cell? ⟨bc, 0, none⟩ = some (.int .i64 code))
    (hbad : ∀ (v : Bs) W, v ∈ T.buses → Below w.heap.size w W → Calls Tryz.prog 86 #[.agg (T.cells h).toArray, .agg v.cells.toArray] W fun e w' => e = .returned (.bool (bad v)) ∧ Below W.heap.size W w') :
    Calls Tryz.prog 119 #[.agg (T.cells h).toArray, .pointer (some ⟨bl, 0, none⟩), .pointer (some ⟨bb, 0, none⟩), .pointer (some ⟨bc, 0, none⟩)] w fun e w' => e = .returned (.agg (fltC code (idx bad T.buses))) ∧ Below w.heap.size w w' := by
  have hsz := (cells_ok ht).size
  have IA : Hid ((Tryz.prog.info? 32).map (·.size) = some (T.cells h).length) := Lib.hid (by rw [List.size_toArray] at hsz; rw [hsz]; exact infoT)
  have LS : Hid (∀ W, Below w.heap.size w W → Calls Tryz.prog 85 #[.agg (T.cells h).toArray] W fun e w' => e = .returned (h.b.val T.buses.length) ∧ Below W.heap.size W w') := Lib.hid (fun W hb => listB_any T h W (ht.below hb))
  have LT0 := Lib.hid (Row.lies_new w (T.cells h).toArray 32)
  have HBAD := Lib.hid hbad
  have HBL := Lib.hid (show ∀ W, Below w.heap.size w W → W.cell? ⟨bl, 0, none⟩ = some (.func (.func 85) #[] #[]) from fun W hb => (hb.cell (World.block_lt_of_cell? w _ hbl)).trans hbl)
  have HBB := Lib.hid (show ∀ W, Below w.heap.size w W → W.cell? ⟨bb, 0, none⟩ = some (.func (.func 86) #[] #[]) from fun W hb => (hb.cell (World.block_lt_of_cell? w _ hbb)).trans hbb)
  have HBC := Lib.hid (show ∀ W, Below w.heap.size w W → W.cell? ⟨bc, 0, none⟩ = some (.int .i64 code) from fun W hb => (hb.cell (World.block_lt_of_cell? w _ hbc)).trans hbc)
  have hs1 : (w.alloc (.cells (T.cells h).toArray 32)).heap.size = w.heap.size + 1 := by simp
  have en := enters_of Tryz.func86 (by kernel_rfl) rfl
  have en2 := enters_of Tryz.func85 (by kernel_rfl) rfl
  have RW := Lib.hid ht.buses
  have Kl := ht.buses.len
  unfold maxLen at Kl
  obtain ⟨o, ho⟩ : ∃ o, o = idx bad T.buses := ⟨_, rfl⟩
  rw [← ho]
  have HO := Lib.hid ho
  clear ht hbad hbl hbb hbc ho
  generalize hSl : h.b = sl at *
  obtain ⟨sa, scap⟩ := sl
  clear hSl
  generalize T.cells h = c at *
  generalize T.buses = l at *
  go_enter Tryz.func119, Tryz.ntmps119
  go_upto_region 1 with fail
  obtain ⟨W1, hW1, E1, E0, EB, bR⟩ := laid2 w (.cells c.toArray 32) (.cells #[.int .i64 0, .int .i64 0] 37)
  rw [hW1]
  have LT := Lib.hid (LT0.out.below (by rw [hs1]; exact EB))
  have B0 := Lib.hid E0
  have B2 : Hid (W1.heap[w.heap.size + 1]? = some (.cells #[.int .i64 0, .int .i64 0] 37 (0, 0))) := Lib.hid bR
  clear hW1 EB hs1 hsz LT0 E0 bR E1
  have hbl := HBL.out _ B0.out
  go_wp2_with (refine Row.wpList_load_g 32 _ rfl (by first | rfl | go_simp) ⟨w.heap.size, 0, none⟩ rfl c _ LT.out Tryz.underlying32 rfl IA.out ?_)
  (try go_wp2_with fail)
  refine (LS.out _ B0.out).mono ?_
  rintro e W3 ⟨rfl, hb⟩
  have HB3 := Lib.hid hb
  clear hb hbl
  rw [show (Sl.val ⟨sa, scap⟩ l.length) = .slice sa l.length scap from rfl]
  go_wp2_with fail
  go_loopw [12] (fun a wr => ∃ q : Nat, q ≤ l.length ∧ a = .int .i64 q ∧ (∀ j u, j < q → l[j]? = some u → bad u = false) ∧ Below W1.heap.size W1 wr) (fun a _ => l.length - (intOf a).toNat)
  case atStart => exact ⟨0, by omega, rfl, (fun j u h => by omega), HB3.out⟩
  case round =>
    obtain ⟨q, hq, rfl, hall, hB⟩ := hrel
    have HA := Lib.hid hall
    have HB := Lib.hid hB
    have BW : Hid (Below w.heap.size w wr) := Lib.hid (B0.out.trans (hB.mono B0.out.size))
    clear hall hB
    by_cases hlt : q < l.length
    · have hv := List.getElem?_eq_getElem hlt
      generalize hz : l[q] = v at hv
      have hmem : v ∈ l := List.mem_of_getElem? hv
      obtain ⟨x, hx, hc⟩ := (RW.out.below BW.out).at hv
      obtain rfl : sa = some x := hx
      have HC := Lib.hid hc
      have HV := Lib.hid hv
      have BD := Lib.hid (fun W hb => HBAD.out v W hmem hb)
      have hwr := HB.out.size
      clear hv hz hmem hc
      have VO := Lib.hid (Bs.one v)
      obtain ⟨bv, hbv⟩ : ∃ z, bad v = z := ⟨_, rfl⟩
      have BDV := BD
      have IV : Hid ((Tryz.prog.info? 49).map (·.size) = some v.cells.length) := Lib.hid infoB
      go_upto_region 4 with (first | (refine Row.wpList_load_g 49 _ rfl (by first | rfl | go_simp) (x.add (q * 2)) rfl v.cells _ HC.out Tryz.underlying49 rfl IV.out ?_) | (refine Row.wpList_store_new rfl 49 _ _ rfl wr _ v.cells.toArray rfl rfl rfl infoB rfl VO.out ?_))
      have hbn : Below W1.heap.size W1 (wr.alloc (.cells v.cells.toArray 49)) := HB.out.alloc hwr _
      have hbo : Below wr.heap.size wr (wr.alloc (.cells v.cells.toArray 49)) := (Below.refl _ _).alloc (Nat.le_refl _) _
      have hg := Row.lies_new wr v.cells.toArray 49
      have HL : Hid (Lies (wr.alloc (.cells v.cells.toArray 49)) ⟨wr.heap.size, 0, none⟩ v.cells) := Lib.hid (by simpa using hg)
      have HN := Lib.hid hbn
      have LTW := Lib.hid ((LT.out.below HB.out).below hbo)
      clear hg hbn hbo HC VO
      generalize v.cells = vc at *
      generalize wr.alloc (.cells vc.toArray 49) = w4 at HL HN LTW ⊢
      generalize wr.heap.size = b4 at HL ⊢
      have BW4 : Hid (Below w.heap.size w w4) := Lib.hid (B0.out.trans (HN.out.mono B0.out.size))
      have hbb := HBB.out _ BW4.out
      go_wp2_with (first | (refine Row.wpList_load_g 32 _ rfl (by first | rfl | go_simp) ⟨w.heap.size, 0, none⟩ rfl c _ LTW.out Tryz.underlying32 rfl IA.out ?_) | (refine Row.wpList_load_g 49 _ rfl (by first | rfl | go_simp) ⟨b4, 0, none⟩ rfl vc _ HL.out Tryz.underlying49 rfl IV.out ?_))
      (try go_wp2_with fail)
      refine (BD.out _ BW4.out).mono ?_
      rintro e w5 ⟨rfl, hb⟩
      have HN5 := Lib.hid (HN.out.trans (hb.mono HN.out.size))
      have BW5 : Hid (Below w.heap.size w w5) := Lib.hid (BW4.out.trans (hb.mono BW4.out.size))
      clear hb hbb HN LTW BW4
      rw [hbv]
      cases bv with
      | true =>
        have RO : Hid (o = some (q : Int)) := Lib.hid (by rw [HO.out]; exact idx_hit HV.out hbv HA.out)
        have hbc := HBC.out _ BW5.out
        have C2 : Hid (w5.heap[w.heap.size + 1]? = some (.cells #[.int .i64 0, .int .i64 0] 37 (0, 0))) := Lib.hid ((HN5.out.block _ (Array.getElem?_eq_some_iff.1 B2.out).1).trans B2.out)
        clear hbv
        have HW := Lib.hid (below_setRow BW5.out (g := w.heap.size + 1) (by omega) #[.int .i64 code, .int .i64 q])
        have HK := Lib.hid (setRow_heap w5 (w.heap.size + 1) _ #[.int .i64 code, .int .i64 q] _ _ C2.out)
        go_wp2_with (first | (refine wpList_store_row rfl 37 _ _ rfl (w.heap.size + 1) #[.int .i64 code, .int .i64 q] rfl rfl 37 _ C2.out infoF rfl (by simp [Value.oneCell']) ?_))
        generalize w5.setRow (w.heap.size + 1) #[.int .i64 code, .int .i64 q] = uz at HW HK ⊢
        (try go_wp2_with fail)
        (try simp only [Exit.inBlock, Exit.then])
        refine bodyPost_ret (v := .agg #[.int .i64 code, .int .i64 q]) ?_ rfl ⟨by rw [RO.out]; rfl, HW.out⟩
        exact results_cell_row rfl _ _ (w.heap.size + 1) 37 _ (0, 0) _ rfl HK.out Tryz.underlying37 rfl infoF
      | false =>
        have HF := Lib.hid hbv
        clear hbv
        go_wp2
        go_roundw
        case rel => exact ⟨q + 1, by omega, by go_num, (fun j u hj hu => by
          by_cases e : j = q
          · subst e; obtain rfl := Option.some.inj (hu.symm.trans HV.out); exact HF.out
          · exact HA.out j u (by omega) hu), HN5.out⟩
        case measure => simp [intOf]; omega
    · have RO : Hid (o = none) := Lib.hid (by rw [HO.out]; exact idx_miss (fun j u hu => HA.out j u (by have := (List.getElem?_eq_some_iff.1 hu).1; omega) hu))
      have C2 : Hid (wr.heap[w.heap.size + 1]? = some (.cells #[.int .i64 0, .int .i64 0] 37 (0, 0))) := Lib.hid ((HB.out.block _ (Array.getElem?_eq_some_iff.1 B2.out).1).trans B2.out)
      have HW := Lib.hid (below_setRow BW.out (g := w.heap.size + 1) (by omega) #[.int .i64 0, .int .i64 0])
      have HK := Lib.hid (setRow_heap wr (w.heap.size + 1) _ #[.int .i64 0, .int .i64 0] _ _ C2.out)
      go_wp2_with (first | (refine wpList_store_row rfl 37 _ _ rfl (w.heap.size + 1) #[.int .i64 0, .int .i64 0] rfl rfl 37 _ C2.out infoF rfl (by simp [Value.oneCell']) ?_))
      generalize wr.setRow (w.heap.size + 1) #[.int .i64 0, .int .i64 0] = uz at HW HK ⊢
      (try go_wp2_with fail)
      (try simp only [Exit.inBlock, Exit.then])
      refine bodyPost_ret (v := .agg #[.int .i64 0, .int .i64 0]) ?_ rfl ⟨by rw [RO.out]; rfl, HW.out⟩
      exact results_cell_row rfl _ _ (w.heap.size + 1) 37 _ (0, 0) _ rfl HK.out Tryz.underlying37 rfl infoF
end Go.Proofs.YtjolhoilcibdfaaGreat.ChkE
/- The contracts of package check's searches over sets: clash. -/
namespace Go.Proofs.YtjolhoilcibdfaaGreat.ChkI
open Go.RowKit Go.Shelf
open Tab PlaceM PlanM OnS ChkM Each Search
set_option linter.unusedVariables false
set_option linter.unusedSimpArgs false
attribute [local go_sem] Oper.semAt_some
/-- What a table's box gives: the conflicts and the flash of each phase. -/
structure Bxd (T : Tab) (b : Nat) (W : World) : Prop where
  cf : ∀ p : Int, 0 ≤ p → p < 8 → W.cell? ⟨b, 105 + p.toNat, none⟩ = some (I (cfAt T p))
  fl : ∀ p : Int, 0 ≤ p → p < 8 → W.cell? ⟨b, 121 + p.toNat, none⟩ = some (I (flAt T p))
theorem bxd_new {T : Tab} {h : Hd} {w : World} (ht : IsTab w h T) : Bxd T w.heap.size (w.alloc (.cells (T.cells h).toArray 32)) := by
  have C := cells_ok ht
  have hb : (w.alloc (.cells (T.cells h).toArray 32)).heap[w.heap.size]? = some (.cells (T.cells h).toArray 32 (0, 0)) := heap_alloc_new w _
  constructor
  · intro p h0 h8
    obtain ⟨k, rfl⟩ := Int.eq_ofNat_of_zero_le h0
    rw [cell_of_row _ _ _ _ _ _ hb]
    have hk : k < 8 := by omega
    have h1 := congrArg (·[k]?) C.conflict
    simp only [List.getElem?_take, List.getElem?_drop, List.getElem?_map] at h1
    rw [if_pos hk, Array.getElem?_toList] at h1
    rw [Int.toNat_natCast, h1, List.getElem?_eq_getElem (by rw [ht.cf]; exact hk)]
    simp [cfAt, List.getD_eq_getElem?_getD, List.getElem?_eq_getElem (show k < T.conflict.length by rw [ht.cf]; exact hk)]
  · intro p h0 h8
    obtain ⟨k, rfl⟩ := Int.eq_ofNat_of_zero_le h0
    rw [cell_of_row _ _ _ _ _ _ hb]
    have hk : k < 8 := by omega
    have h1 := congrArg (·[k]?) C.flash
    simp only [List.getElem?_take, List.getElem?_drop, List.getElem?_map] at h1
    rw [if_pos hk, Array.getElem?_toList] at h1
    rw [Int.toNat_natCast, h1, List.getElem?_eq_getElem (by rw [ht.fl]; exact hk)]
    simp [flAt, List.getD_eq_getElem?_getD, List.getElem?_eq_getElem (show k < T.flash.length by rw [ht.fl]; exact hk)]
theorem Bxd.below {T : Tab} {b : Nat} {W W' : World} (h : Bxd T b W) (hb : Below W.heap.size W W') : Bxd T b W' :=
  ⟨fun p h0 h8 => (hb.cell (World.block_lt_of_cell? W _ (h.cf p h0 h8))).trans (h.cf p h0 h8), fun p h0 h8 => (hb.cell (World.block_lt_of_cell? W _ (h.fl p h0 h8))).trans (h.fl p h0 h8)⟩
/-- Four blocks laid one behind the other. -/
theorem laid4 (w : World) (o0 o1 o2 o3 : Obj) : ∃ W, ((((w.alloc o0).alloc o1).alloc o2).alloc o3) = W ∧ W.heap.size = w.heap.size + 4 ∧ Below w.heap.size w W ∧ Below (w.heap.size + 1) (w.alloc o0) W ∧ W.heap[w.heap.size + 1]? = some o1 ∧ W.heap[w.heap.size + 2]? = some o2 ∧ W.heap[w.heap.size + 3]? = some o3 := by
  refine ⟨_, rfl, by simp, (((((Below.refl _ w).alloc (Nat.le_refl _) _).alloc (by simp) _).alloc (by simp; omega) _).alloc (by simp; omega) _), ?_, ?_, ?_, ?_⟩
  · have := (((Below.refl (w.alloc o0).heap.size (w.alloc o0)).alloc (Nat.le_refl _) o1).alloc (by simp) o2).alloc (by simp; try omega) o3
    simpa using this
  · have h1 := heap_alloc_new (w.alloc o0) o1
    have h2 := Below.heap_alloc ((w.alloc o0).alloc o1) o2 (w.heap.size + 1) (by simp)
    have h3 := Below.heap_alloc (((w.alloc o0).alloc o1).alloc o2) o3 (w.heap.size + 1) (by simp)
    rw [World.size_alloc] at h1
    exact h3.trans (h2.trans h1)
  · have h1 := heap_alloc_new ((w.alloc o0).alloc o1) o2
    have h3 := Below.heap_alloc (((w.alloc o0).alloc o1).alloc o2) o3 (w.heap.size + 2) (by simp)
    simp only [World.size_alloc] at h1
    exact h3.trans h1
  · have h1 := heap_alloc_new (((w.alloc o0).alloc o1).alloc o2) o3
    simp only [World.size_alloc] at h1
    exact h1
theorem setRow_grown (W : World) (b : Nat) (cs : Array Value) (h : b < W.heap.size) : W.grownBy (W.setRow b cs) (some b) :=
  ⟨rfl, rfl, rfl, by simp [World.setRow], fun j _ hj => setRow_other _ _ _ _ (fun e => hj (by rw [e]))⟩
theorem hmx : Tryz.prog.follows .mixedOrders = true := by kernel_rfl
set_option maxRecDepth 100000 in
set_option maxHeartbeats 2000000 in
theorem clash_any (T : Tab) (h : Hd) (s : Int) (w : World) (ht : IsTab w h T) :
    Calls Tryz.prog 116 #[.agg (T.cells h).toArray, .int .i64 s] w fun e w' => e = .returned (.bool (clashC T s)) ∧ Below w.heap.size w w' := by
  have hsz := (cells_ok ht).size
  have A0 : Hid (Below w.heap.size w (w.alloc (.cells (T.cells h).toArray 32))) := Lib.hid ((Below.refl _ _).alloc (Nat.le_refl _) _)
  have BX := Lib.hid (bxd_new ht)
  have hs1 : (w.alloc (.cells (T.cells h).toArray 32)).heap.size = w.heap.size + 1 := by simp
  clear ht
  generalize T.cells h = c at *
  refine (callsIn_wide (n := 3)).1 ?_
  refine callsIn_of_wp_marks Tryz.func116 rfl trivial ?_ rfl
  simp only [Tryz.ntmps116, List.size_toArray, List.length_cons, List.length_nil, Nat.reduceAdd, Nat.reduceSub, Array.replicate_succ, Array.replicate_zero, List.push_toArray, List.append_toArray, List.nil_append, List.cons_append]
  gi_wp2_with fail
  refine ⟨trivial, (Each.each_in _ _ _).mono ?_⟩
  rintro e w' ⟨rfl, rfl⟩
  gi_wp2_with fail
  obtain ⟨W0, hW0, E1, E0, EB, bS, bR, bE⟩ := laid4 w (.cells c.toArray 32) (.cells #[.int .i64 s] 3) (.cells #[.bool false] 4) (.cells #[.int .i64 s] 3)
  rw [hW0]
  have BX := Lib.hid (BX.out.below (by rw [hs1]; exact EB))
  clear hW0 EB hs1 hsz A0
  have bS : Boxed W0 (w.heap.size + 1) 3 (.int .i64 s) := bS
  have bR : Boxed W0 (w.heap.size + 2) 4 (.bool false) := bR
  have bE : Boxed W0 (w.heap.size + 3) 3 (.int .i64 s) := bE
  refine search (fun p => bits .and .i64 (cfAt T p) s != 0) (fun _ => .cells #[.bool true] 4 (0, 0)) (w.heap.size + 3) (w.heap.size + 2) s (by omega) rfl rfl (by omega) (by omega) bE.cell
    (fun x => { tmps := #[.agg c.toArray, .int .i64 s, .pointer (some ⟨w.heap.size, 0, none⟩), .pointer (some ⟨w.heap.size + 1, 0, none⟩), .pointer (some ⟨w.heap.size + 1 + 1, 0, none⟩), .int .i64 x, .int .i64 s, .func (.func 127) #[] #[.pointer (some ⟨w.heap.size + 1 + 1 + 1, 0, none⟩)], .int .i64 x, undef, undef, undef, undef, undef, undef, undef], defers := [] }) ?assign ?body ?done ?stop
  case assign =>
    intro l x W K hK
    gi_wp2
    exact hK
  case body =>
    intro l x W hx hB
    have hx8 := SetM.list_bd s x hx
    have cc := (BX.out.below hB).cf x hx8.1 hx8.2
    have cS := (Boxed.cell (show Boxed W (w.heap.size + 1) 3 (.int .i64 s) from (hB.block _ (by omega)).trans bS))
    have hne : Nonempty (Ph.S (Row.Old W)) := ⟨⟨0, W, Below.refl _ _⟩⟩
    obtain ⟨k, rfl⟩ := Int.eq_ofNat_of_zero_le hx8.1
    rw [Int.toNat_natCast] at cc
    have CC : ∀ p : Ph.S (Row.Old W), p.world.cell? ⟨w.heap.size, 105 + k, none⟩ = some (I (cfAt T k)) := fun p => (p.is.cell (World.block_lt_of_cell? W _ cc)).trans cc
    have CS : ∀ p : Ph.S (Row.Old W), p.world.cell? ⟨w.heap.size + 1, 0, none⟩ = some (.int .i64 s) := fun p => (p.is.cell (World.block_lt_of_cell? W _ cS)).trans cS
    have hk8 : k < 8 := by omega
    gi_wp2
    refine Up.region_ph (Row.Old W) [] (fun ⟨_, _, h⟩ => h) (by kernel_rfl) hmx (by kernel_rfl) (Row.Old.drew _) ?_
    iterate 7
      (refine Pw.calm rfl (fun K hK => ?_)
       go_simp
       refine hK _ ?_
       clear hK K)
    refine Pw.nil ?_
    intro W1 hb1
    have hv : Boxed W1 (w.heap.size + 1 + 1) 4 (.bool false) := (hb1.block _ (by have := hB.size; omega)).trans ((hB.block _ (by omega)).trans bR)
    have hc := hv.cell
    have hf := hv.frozen
    clear CC CS cc cS hne BX hB
    generalize hg : (bits BinOp.and IntKind.i64 (cfAt T k) s != 0) = r
    cases r with
    | true =>
      have HG := Lib.hid hg
      clear hg
      gi_wp2
      exact ⟨HG.out, grown_trans (grown_of_below hb1) (grownBy_setCell' _ _ _), hv.set (.bool true)⟩
    | false =>
      have HG := Lib.hid hg
      clear hg
      gi_wp2
      exact ⟨HG.out, hb1⟩
  case done =>
    intro D W hD hall hB hK
    have hv : Boxed W (w.heap.size + 1 + 1) 4 (.bool false) := (hB.block _ (by omega)).trans bR
    have hc := hv.cell
    have hf := hv.frozen
    have HR : Hid (clashC T s = false) := Lib.hid (by unfold clashC; rw [List.any_eq_false]; intro x hx; simpa using hall x hx)
    have HB : Hid (Below w.heap.size w W) := Lib.hid (E0.trans (hB.mono (by omega)))
    clear hB hall
    gi_wp2
    have hv2 := hv.set (.bool false)
    have hK' := (KeepsOthers.setCell W ⟨w.heap.size + 1 + 1, 0, none⟩ (.bool false)).same D _ hK rfl
    refine ⟨by simp, .inl ⟨_, _, rfl, run_takeDeferred hK', ?_⟩⟩
    have hc5 := cell_kept hv2.cell (grownBy_putObj' _ D (.deferred none)) (fun r e => by cases e; exact ⟨_, hK', rfl⟩)
    refine ⟨.bool false, ?_, by rw [HR.out], (HB.out.setCell (p := ⟨w.heap.size + 1 + 1, 0, none⟩) (by simp; try omega) _).trans (belowK_b (w := w) (Nat.le_refl _) _ D _ _ (by omega) hK' rfl rfl)⟩
    simp [results, Tryz.f116, go_sem, hc5]
  case stop =>
    intro D x W hD hf hx hg hR hK
    have HR : Hid (clashC T s = true) := Lib.hid (by unfold clashC; rw [List.any_eq_true]; exact ⟨x, List.mem_of_find?_eq_some hf, hx⟩)
    have hv : Boxed W (w.heap.size + 1 + 1) 4 (.bool true) := hR
    have HB : Hid (Below w.heap.size w W) := Lib.hid (E0.grown hg (by omega) (fun k e => by cases e; omega))
    clear hf hx hg
    gi_wp2
    refine ⟨by simp, .inl ⟨_, _, rfl, run_takeDeferred hK, ?_⟩⟩
    have hc5 := cell_kept hv.cell (grownBy_putObj' _ D (.deferred none)) (fun r e => by cases e; exact ⟨_, hK, rfl⟩)
    refine ⟨.bool true, ?_, by rw [HR.out], HB.out.trans (belowK_b (w := w) (Nat.le_refl _) W D _ _ (by omega) hK rfl rfl)⟩
    simp [results, Tryz.f116, go_sem, hc5]
end Go.Proofs.YtjolhoilcibdfaaGreat.ChkI
