/- Package detect: Step: the channels of all detectors. -/
import Derived.Test.YtbmcendlpeaaeaaDtcS
import Derived.Test.YtbmcendlpeaaeaaCopy
namespace Go.Proofs.Ytbmcendlpeaaeaa.Dtc
open Go.ChangeShapes Go.WideShapes Go.ChangeAt Go.RowKit
open Tab Flat TabArg Copy Go.Proofs.Fl
open Lvl (Lv stp failed)
open Dig (Wd wat stk)
open Dly (Tm tmr)
open Secs (quo_holds ret_int)
set_option linter.unusedVariables false
set_option linter.unusedSimpArgs false
set_option maxRecDepth 100000
/-- A slice of samples. -/
def FltRow (w : World) (s : Sl) (xs : List Nat) : Prop := RowOf 1 (fun x : Nat => [F x]) w s xs ∧ ∀ x ∈ xs, x < 18446744073709551616
theorem FltRow.below {w w' : World} {s : Sl} {xs : List Nat} (h : FltRow w s xs) (hb : Below w.heap.size w w') : FltRow w' s xs := ⟨h.1.below hb, h.2⟩
/-- All channels, one tick on. -/
def dts (ds : List Det) (l : List Ch) (xs : List Nat) : List Ch := (List.range ds.length).map fun i => chn (ds.getD i default) (l.getD i zCh) (xs.getD i NAN)
theorem dts_len (ds : List Det) (l : List Ch) (xs : List Nat) : (dts ds l xs).length = ds.length := by simp [dts]
theorem dts_at {ds : List Det} {l : List Ch} {xs : List Nat} {i : Nat} {d : Det} (h : ds[i]? = some d) : (dts ds l xs)[i]? = some (chn d (l.getD i zCh) (xs.getD i NAN)) := by
  have hi := (List.getElem?_eq_some_iff.1 h).1
  unfold dts
  rw [List.getElem?_map, List.getElem?_range hi]
  show some (chn (ds.getD i default) _ _) = _
  rw [List.getD_eq_getElem?_getD, h]
  rfl
theorem fresh {w u v : World} {L : List Blk.Bl} {cs : Array Value} {t : TypeId} (h : Blk.Bks w L u) (hg : v.heap[u.heap.size]? = some (.cells cs t (0, 0))) (hb : Below u.heap.size u v) : Blk.Bks w ((u.heap.size, cs, t) :: L) v := by
  have h2 := h.step hb
  refine ⟨h2.bel, fun x hx => ?_, fun x hx => ?_, ?_⟩
  · rcases List.mem_cons.1 hx with rfl | hx
    · exact h.bel.size
    · exact h2.low x hx
  · rcases List.mem_cons.1 hx with rfl | hx
    · exact hg
    · exact h2.blk x hx
  · rw [List.map_cons, List.nodup_cons]
    refine ⟨fun hm => ?_, h.apart⟩
    obtain ⟨x, hx, e⟩ := List.mem_map.1 hm
    have := h.lt hx
    simp only at e
    omega
theorem Ch.len (c : Ch) : c.cells.length = 7 := rfl
/-- The block of the channels: those up to q are done. -/
def Done (D : List Ch) (n q : Nat) (C : Array Value) : Prop := C.size = n * 7 ∧ C.toList.take (q * 7) = (D.take q).flatMap Ch.cells
theorem Done.next {D : List Ch} {n q : Nat} {C : Array Value} {c : Ch} (h : Done D n q C) (hq : q < n) (hD : D.length = n) (hc : D[q]? = some c) : Done D n (q + 1) (C.toList.take (q * 7) ++ c.cells.toArray.toList ++ C.toList.drop (q * 7 + c.cells.toArray.size)).toArray := by
  have h1 : (C.toList.take (q * 7)).length = q * 7 := by rw [List.length_take, Array.length_toList, h.1]; omega
  refine ⟨?_, ?_⟩
  · simp [h1, h.1, Ch.len]; omega
  · rw [show (q + 1) * 7 = q * 7 + 7 by omega, List.take_add]
    have e0 : (C.toList.take (q * 7) ++ c.cells.toArray.toList ++ C.toList.drop (q * 7 + c.cells.toArray.size)).toArray.toList = C.toList.take (q * 7) ++ (c.cells ++ C.toList.drop (q * 7 + 7)) := by simp [Ch.len]
    rw [e0, List.take_left' h1, List.drop_left' h1, List.take_left' (Ch.len c), h.2, List.take_add_one, hc]
    simp
theorem Done.full {D : List Ch} {n : Nat} {C : Array Value} (h : Done D n n C) (hD : D.length = n) : C = (D.flatMap Ch.cells).toArray := by
  have := h.2
  rw [← hD, List.take_length, List.take_of_length_le (by rw [Array.length_toList, h.1]; omega)] at this
  rw [← this]
/-- A whole struct into the middle of a block known whole. -/
theorem wpList_store_mid {P : Program} {ops : Array Oper} {rest : List Oper} {o : Oper} {a : Act} {w : World} {Q : Exit → Act → World → Prop} (hgd : o.guard = none) (ty : TypeId) (x y : Operand) (ho : o.op = .store ty x y) (g off : Nat) (cells : Array Value) (hx : a.eval x = .pointer (some ⟨g, off, none⟩)) (hy : a.eval y = .agg cells)
    (t : TypeId) (cur : Array Value) (hg : w.heap[g]? = some (.cells cur t (0, 0))) (hi : (P.info? ty).map (·.size) = some cells.size) (hl : off + cells.size ≤ cur.size) (h1 : cells.all (·.oneCell') = true)
    (h : wpList P ops Q rest (a.put o.dst undef) (w.setRow g (cur.toList.take off ++ cells.toList ++ cur.toList.drop (off + cells.size)).toArray)) : wpList P ops Q (o :: rest) a w :=
  wpList_plain hgd fun _ hK => by
    unfold Oper.wp execOp
    simp only [ho, hx, hy, Sem.run_bind, Row.run_storeAt_at w g off t ty cur cells hg hi hl h1, Result.andThen_ok, Sem.run_pure]
    exact hK _ _ h
theorem infoCz : (Try.prog.info? 63).map (fun i => (i.zero, i.size, i.bytes)) = some (some (.agg #[.bool false, I 0, I 0, I 0, I 0, I 0, .bool false]), 7, 56) := by kernel_rfl
theorem infoT : (Try.prog.info? 31).map (·.size) = some 131 := by kernel_rfl
set_option maxHeartbeats 8000000 in
theorem step_any {T : Tab} {hd : Hd} {w : World} (ht : IsTab w hd T) (few : T.dets.length ≤ 1000) {a : Option Addr} {cap : Nat} {l : List Ch} (hl : RowOf 7 Ch.cells w ⟨a, cap⟩ l) {xa : Option Addr} {cap2 : Nat} {xs : List Nat} (hx : FltRow w ⟨xa, cap2⟩ xs) :
    Calls Try.prog 9 #[.agg (T.cells hd).toArray, .slice a l.length cap, .slice xa xs.length cap2] w fun e w' => ∃ s : Sl, e = .returned (s.val T.dets.length) ∧ RowOf 7 Ch.cells w' s (dts T.dets l xs) ∧ Below w.heap.size w w' := by
  have CK := Lib.hid (cells_ok ht)
  have HR := Lib.hid ht.dets
  have HL := Lib.hid hl
  have HX := Lib.hid hx
  have hxl := hx.1.len
  obtain ⟨j0, hj, hy0, hy1, hy2⟩ := info_parts infoCz
  generalize hD : dts T.dets l xs = D
  have DL : Hid (D.length = T.dets.length) := Lib.hid (by rw [← hD]; exact dts_len _ _ _)
  have DA : Hid (∀ (i : Nat) (d : Det), T.dets[i]? = some d → D[i]? = some (chn d (l.getD i zCh) (xs.getD i NAN))) := Lib.hid (fun i d h => by rw [← hD]; exact dts_at h)
  clear ht hl hx hD
  have q113 := CK.out.d
  generalize (T.cells hd).toArray = tc at *
  obtain ⟨sg, ⟨da, dcap⟩, sr, sb⟩ := hd
  generalize T.dets = ds at *
  generalize hn : ds.length = n at *
  have HN := Lib.hid hn
  generalize hn1 : l.length = n1 at *
  have HN1 := Lib.hid hn1
  generalize hn2 : xs.length = n2 at *
  have HN2 := Lib.hid hn2
  unfold maxLen at hxl
  obtain ⟨hx1, hx2⟩ := hxl
  clear hn hn1 hn2 CK
  have h0 := (Blk.Bks.nil w).alloc tc 31
  go_enter Try.func9, Try.ntmps9
  go_upto_region 1 with fail
  generalize World.alloc w _ = u at h0 ⊢
  generalize w.heap.size = gt at h0 ⊢
  have H0 := Lib.hid h0
  clear h0
  have k113 : u.cell? ⟨gt, 113, none⟩ = some (.slice da n dcap) := H0.out.cell 0 113 rfl q113
  go_wp2_with (at_make; refine Copy.wpList_make_rows rfl _ _ 32 63 rfl Try.underlying32 (.agg #[.bool false, I 0, I 0, I 0, I 0, I 0, .bool false]) 7 56 infoCz n rfl rfl few (by decide) ?_)
  intro v C0 hC hCs hbv hvs
  have hb := fresh H0.out hC hbv
  generalize u.heap.size = gn at hb hC hbv hvs ⊢
  have HB0 := Lib.hid hb
  clear hC hbv hvs hb H0 k113
  have k113 : v.cell? ⟨gt, 113, none⟩ = some (.slice da n dcap) := HB0.out.cell 1 113 rfl q113
  go_wp2_with fail
  go_loopw [17] (fun i wr => ∃ (q : Nat) (C : Array Value), q ≤ n ∧ i = .int .i64 q ∧ Done D n q C ∧ Blk.Bks w [(gn, C, 63), (gt, tc, 31)] wr) (fun i _ => n - (intOf i).toNat)
  case atStart => exact ⟨0, C0, by omega, rfl, ⟨hCs, by simp⟩, HB0.out⟩
  case round =>
    clear hCs HB0 k113
    obtain ⟨q, C, hq, rfl, hdone, hB⟩ := hrel
    have HB := Lib.hid hB
    have HDN := Lib.hid hdone
    clear hB hdone
    by_cases hlt : q < n
    · obtain ⟨d, hd⟩ : ∃ d, ds[q]? = some d := ⟨_, List.getElem?_eq_getElem (by rw [HN.out]; exact hlt)⟩
      obtain ⟨y, hy, hly⟩ := HR.out.at hd
      obtain rfl : da = some y := hy
      have HCQ := Lib.hid (DA.out q d hd)
      clear DA hd
      obtain ⟨ph, on, off, dl, ex, mo, mf⟩ := d
      have HLY := Lib.hid (Lies.below hly HB.out.bel)
      clear hly
      obtain ⟨⟨⟨b, n'⟩, ⟨wa, wb⟩, h, t, o⟩, hc0⟩ : ∃ c, l.getD q zCh = c := ⟨_, rfl⟩
      obtain ⟨x, hxq⟩ : ∃ x, xs.getD q NAN = x := ⟨_, rfl⟩
      have hxw : x < 18446744073709551616 := by
        rw [← hxq, List.getD_eq_getElem?_getD]
        cases e : xs[q]? with
        | none => show NAN < _; decide
        | some z => exact HX.out.2 z (List.mem_of_getElem? e)
      rw [hc0, hxq] at HCQ
      obtain ⟨⟨⟨b', n2'⟩, ⟨wa', wb'⟩, h', t', o'⟩, hs⟩ : ∃ c, chn ⟨ph, on, off, dl, ex, mo, mf⟩ ⟨⟨b, n'⟩, ⟨wa, wb⟩, h, t, o⟩ x = c := ⟨_, rfl⟩
      rw [hs] at HCQ
      have HC0 := Lib.hid hc0
      have HXQ := Lib.hid hxq
      have HXW := Lib.hid hxw
      have HS := Lib.hid hs
      clear hc0 hxq hxw hs
      go_upto_region 5 with (first | (refine Row.wpList_load_lies rfl 53 _ rfl (y.add (q * 7)) rfl (Det.cells ⟨ph, on, off, dl, ex, mo, mf⟩) _ HLY.out Try.underlying53 rfl infoD ?_) | (refine Row.wpList_store_new rfl 53 _ _ rfl _ _ #[I ph, F on, F off, F dl, F ex, I mo, I mf] rfl rfl rfl infoD rfl (by simp [Value.oneCell']) ?_))
      have hb := HB.out.alloc #[I ph, F on, F off, F dl, F ex, I mo, I mf] 53
      generalize World.alloc wr _ = u1 at hb ⊢
      generalize wr.heap.size = gd at hb ⊢
      have HB1 := Lib.hid hb
      clear hb HLY
      rcases Nat.lt_or_ge q n2 with hq2 | hq2
      · obtain ⟨z, hz, hzl⟩ := HX.out.1.at (i := q) (v := x) (by rw [← HXQ.out, List.getD_eq_getElem?_getD, List.getElem?_eq_getElem (by rw [HN2.out]; exact hq2)]; rfl)
        obtain rfl : xa = some z := hz
        have HZ : Hid (∀ p : QB.By u1.heap.size u1, p.world.cell? (z.add q) = some (F x)) := Lib.hid (fun p => Arg.one_below hzl (HB1.out.by p).bel)
        clear hzl
        have k0_0 : ∀ p : QB.By u1.heap.size u1, p.world.cell? ⟨gd, 0, none⟩ = some (I ph) := fun p => (HB1.out.by p).cell 0 0 rfl rfl
        have k0_1 : ∀ p : QB.By u1.heap.size u1, p.world.cell? ⟨gd, 1, none⟩ = some (F on) := fun p => (HB1.out.by p).cell 0 1 rfl rfl
        have k0_2 : ∀ p : QB.By u1.heap.size u1, p.world.cell? ⟨gd, 2, none⟩ = some (F off) := fun p => (HB1.out.by p).cell 0 2 rfl rfl
        have k0_3 : ∀ p : QB.By u1.heap.size u1, p.world.cell? ⟨gd, 3, none⟩ = some (F dl) := fun p => (HB1.out.by p).cell 0 3 rfl rfl
        have k0_4 : ∀ p : QB.By u1.heap.size u1, p.world.cell? ⟨gd, 4, none⟩ = some (F ex) := fun p => (HB1.out.by p).cell 0 4 rfl rfl
        have k0_5 : ∀ p : QB.By u1.heap.size u1, p.world.cell? ⟨gd, 5, none⟩ = some (I mo) := fun p => (HB1.out.by p).cell 0 5 rfl rfl
        have k0_6 : ∀ p : QB.By u1.heap.size u1, p.world.cell? ⟨gd, 6, none⟩ = some (I mf) := fun p => (HB1.out.by p).cell 0 6 rfl rfl
        refine QT.region u1.heap.size 13 (by kernel_rfl) (by kernel_rfl) ?_
        simp only [List.take_succ_cons, List.take_zero]
        repeat (quiet_step (first
          | (go_at_call 21; exact QB.call_of (Nat.le_refl _) (fun b => elc_is (HL.out.below (HB1.out.bel.trans (b.mono HB1.out.bel.size))) HN1.out HC0.out))
          | (go_at_call 16; exact QB.call_of (Nat.le_refl _) (fun b => (nan_any _).mono fun e w' h => ⟨h.1, h.2 ▸ Below.refl _ _⟩))
          | (go_at_call 22; exact QB.call_of (Nat.le_refl _) (fun b => (elf_in hq2 hx1 (show cap2 ≤ maxLen by unfold maxLen; omega) (HZ.out _) _).mono fun e w' h => ⟨h.1, h.2 ▸ Below.refl _ _⟩))
          | (go_at_call 20; exact QB.call_of (Nat.le_refl _) (fun b => stepOne_is HXW.out HS.out _))))
        refine wpQuiet_nil ?_
        intro _ hw'
        obtain ⟨p, rfl⟩ := hw'
        have HB2 := Lib.hid (HB1.out.by p)
        clear HB1 k0_0 k0_1 k0_2 k0_3 k0_4 k0_5 k0_6
        generalize p.world = u2 at HB2 ⊢
        simp only [List.drop_succ_cons, List.drop_zero]
        have hsz : q * 7 + (#[Value.bool b', I n2', I wa', I wb', I h', I t', Value.bool o']).size ≤ C.size := by rw [HDN.out.1]; show q * 7 + 7 ≤ n * 7; omega
        have hput := HB2.out.put 1 rfl (C.toList.take (q * 7) ++ (#[Value.bool b', I n2', I wa', I wb', I h', I t', Value.bool o']).toList ++ C.toList.drop (q * 7 + (#[Value.bool b', I n2', I wa', I wb', I h', I t', Value.bool o']).size)).toArray
        simp only [List.set_cons_succ, List.set_cons_zero] at hput
        have HDN2 := Lib.hid (HDN.out.next (c := ⟨⟨b', n2'⟩, ⟨wa', wb'⟩, h', t', o'⟩) hlt DL.out HCQ.out)
        refine wpList_store_mid rfl 63 _ _ rfl gn (q * 7) #[Value.bool b', I n2', I wa', I wb', I h', I t', Value.bool o'] rfl rfl 63 C (HB2.out.at 1 rfl) infoC hsz (by simp [Value.oneCell']) ?_
        generalize World.setRow u2 gn _ = u3 at hput ⊢
        have HDN2 : Hid (Done D n (q + 1) (C.toList.take (q * 7) ++ (#[Value.bool b', I n2', I wa', I wb', I h', I t', Value.bool o']).toList ++ C.toList.drop (q * 7 + (#[Value.bool b', I n2', I wa', I wb', I h', I t', Value.bool o']).size)).toArray) := HDN2
        generalize (C.toList.take (q * 7) ++ (#[Value.bool b', I n2', I wa', I wb', I h', I t', Value.bool o']).toList ++ C.toList.drop (q * 7 + (#[Value.bool b', I n2', I wa', I wb', I h', I t', Value.bool o']).size)).toArray = C2 at hput HDN2
        have HB3 := Lib.hid hput.drop
        clear hput hsz HB2 HDN
        go_wp2
        go_roundw
        case rel => exact ⟨q + 1, C2, by omega, by go_num, HDN2.out, HB3.out⟩
        case measure => simp [intOf]; omega
      · obtain rfl : NAN = x := by rw [← HXQ.out, List.getD_eq_getElem?_getD, List.getElem?_eq_none (by rw [HN2.out]; exact hq2)]; rfl
        have k0_0 : ∀ p : QB.By u1.heap.size u1, p.world.cell? ⟨gd, 0, none⟩ = some (I ph) := fun p => (HB1.out.by p).cell 0 0 rfl rfl
        have k0_1 : ∀ p : QB.By u1.heap.size u1, p.world.cell? ⟨gd, 1, none⟩ = some (F on) := fun p => (HB1.out.by p).cell 0 1 rfl rfl
        have k0_2 : ∀ p : QB.By u1.heap.size u1, p.world.cell? ⟨gd, 2, none⟩ = some (F off) := fun p => (HB1.out.by p).cell 0 2 rfl rfl
        have k0_3 : ∀ p : QB.By u1.heap.size u1, p.world.cell? ⟨gd, 3, none⟩ = some (F dl) := fun p => (HB1.out.by p).cell 0 3 rfl rfl
        have k0_4 : ∀ p : QB.By u1.heap.size u1, p.world.cell? ⟨gd, 4, none⟩ = some (F ex) := fun p => (HB1.out.by p).cell 0 4 rfl rfl
        have k0_5 : ∀ p : QB.By u1.heap.size u1, p.world.cell? ⟨gd, 5, none⟩ = some (I mo) := fun p => (HB1.out.by p).cell 0 5 rfl rfl
        have k0_6 : ∀ p : QB.By u1.heap.size u1, p.world.cell? ⟨gd, 6, none⟩ = some (I mf) := fun p => (HB1.out.by p).cell 0 6 rfl rfl
        refine QT.region u1.heap.size 13 (by kernel_rfl) (by kernel_rfl) ?_
        simp only [List.take_succ_cons, List.take_zero]
        repeat (quiet_step (first
          | (go_at_call 21; exact QB.call_of (Nat.le_refl _) (fun b => elc_is (HL.out.below (HB1.out.bel.trans (b.mono HB1.out.bel.size))) HN1.out HC0.out))
          | (go_at_call 16; exact QB.call_of (Nat.le_refl _) (fun b => (nan_any _).mono fun e w' h => ⟨h.1, h.2 ▸ Below.refl _ _⟩))
          | (go_at_call 22; exact QB.call_of (Nat.le_refl _) (fun b => (elf_out hq2 _).mono fun e w' h => ⟨h.1, h.2 ▸ Below.refl _ _⟩))
          | (go_at_call 20; exact QB.call_of (Nat.le_refl _) (fun b => stepOne_is HXW.out HS.out _))))
        refine wpQuiet_nil ?_
        intro _ hw'
        obtain ⟨p, rfl⟩ := hw'
        have HB2 := Lib.hid (HB1.out.by p)
        clear HB1 k0_0 k0_1 k0_2 k0_3 k0_4 k0_5 k0_6
        generalize p.world = u2 at HB2 ⊢
        simp only [List.drop_succ_cons, List.drop_zero]
        have hsz : q * 7 + (#[Value.bool b', I n2', I wa', I wb', I h', I t', Value.bool o']).size ≤ C.size := by rw [HDN.out.1]; show q * 7 + 7 ≤ n * 7; omega
        have hput := HB2.out.put 1 rfl (C.toList.take (q * 7) ++ (#[Value.bool b', I n2', I wa', I wb', I h', I t', Value.bool o']).toList ++ C.toList.drop (q * 7 + (#[Value.bool b', I n2', I wa', I wb', I h', I t', Value.bool o']).size)).toArray
        simp only [List.set_cons_succ, List.set_cons_zero] at hput
        have HDN2 := Lib.hid (HDN.out.next (c := ⟨⟨b', n2'⟩, ⟨wa', wb'⟩, h', t', o'⟩) hlt DL.out HCQ.out)
        refine wpList_store_mid rfl 63 _ _ rfl gn (q * 7) #[Value.bool b', I n2', I wa', I wb', I h', I t', Value.bool o'] rfl rfl 63 C (HB2.out.at 1 rfl) infoC hsz (by simp [Value.oneCell']) ?_
        generalize World.setRow u2 gn _ = u3 at hput ⊢
        have HDN2 : Hid (Done D n (q + 1) (C.toList.take (q * 7) ++ (#[Value.bool b', I n2', I wa', I wb', I h', I t', Value.bool o']).toList ++ C.toList.drop (q * 7 + (#[Value.bool b', I n2', I wa', I wb', I h', I t', Value.bool o']).size)).toArray) := HDN2
        generalize (C.toList.take (q * 7) ++ (#[Value.bool b', I n2', I wa', I wb', I h', I t', Value.bool o']).toList ++ C.toList.drop (q * 7 + (#[Value.bool b', I n2', I wa', I wb', I h', I t', Value.bool o']).size)).toArray = C2 at hput HDN2
        have HB3 := Lib.hid hput.drop
        clear hput hsz HB2 HDN
        go_wp2
        go_roundw
        case rel => exact ⟨q + 1, C2, by omega, by go_num, HDN2.out, HB3.out⟩
        case measure => simp [intOf]; omega
    · obtain rfl : q = n := by omega
      have hfin := HDN.out.full DL.out
      subst hfin
      have hrow := Copy.row_of_block Ch.len D (HB.out.at 0 rfl) (by rw [DL.out]; unfold maxLen; omega)
      rw [DL.out] at hrow
      have HROW := Lib.hid hrow
      clear hrow
      go_wp2
      go_ret
      exact ⟨⟨_, _⟩, rfl, HROW.out, HB.out.bel⟩
end Go.Proofs.Ytbmcendlpeaaeaa.Dtc
