/- 5 texts in one file, in build order. -/
import Derived.Test.YtpgoafbkjmmedaaGreatRows
import Derived.Test.YtpgoafbkjmmedaaGreatPart05
import Derived.Test.YtpgoafbkjmmedaaGreatPart04
import Derived.Test.YtpgoafbkjmmedaaGreatPart02
import Derived.Test.YtpgoafbkjmmedaaGreatPart01
import Derived.BigQuiet
import Derived.Deep.Cut
import Derived.LoopTactic
import Derived.Deep.Slices
import Derived.ChangeSame
import Derived.Laws.Cover2
set_option linter.unusedVariables false
set_option linter.unusedSimpArgs false
set_option linter.unusedSectionVars false
set_option maxHeartbeats 8000000
set_option maxRecDepth 100000
namespace Go.Proofs.YtpgoafbkjmmedaaGreat
namespace Rb
open Go Go.RowKit Go.ChangeShapes
open Tab
open Put (low lim)
open Cd (puts phB detB rlB bsB rowB grB listB Few)
open Po (gRow zGr range_flat)
/-- Where Body stands. -/
structure St (u W : World) (v : Value) (l : List Nat) (N : Nat) : Prop where
  bv : Bv W v l
  low : Below u.heap.size u W
  len : l.length ≤ N
section
variable {u W W' : World} {v : Value} {l : List Nat} {N : Nat}
theorem St.mem (h : St u W v l N) (hb : Below W.heap.size W W') : St u W' v l N := ⟨h.bv.below hb, h.low.trans (hb.mono h.low.size), h.len⟩
theorem st_put (h : St u W v l N) (hN : N ≤ 10000) (size n : Int) :
    Calls Tryz.prog 38 #[v, .int .i64 size, .int .i64 n] W fun e W' => ∃ v', e = .returned v' ∧ St u W' v' (l ++ low (lim size 8) n) (N + 8) ∧ Below W.heap.size W W' :=
  (rput h.bv (by have := h.len; omega) size n).mono fun e W' ⟨v', h1, h2, h3⟩ => ⟨v', h1, ⟨h2, h.low.trans (h3.mono h.low.size), by rw [List.length_append, Put.low_len]; have := Put.lim_le size 8; have := h.len; omega⟩, h3⟩
theorem st_putf (h : St u W v l N) (hN : N ≤ 10000) (x : Nat) :
    Calls Tryz.prog 51 #[v, .float .f64 x] W fun e W' => ∃ v', e = .returned v' ∧ St u W' v' (l ++ low 8 x) (N + 8) ∧ Below W.heap.size W W' :=
  (rputf h.bv (by have := h.len; omega) x).mono fun e W' ⟨v', h1, h2, h3⟩ => ⟨v', h1, ⟨h2, h.low.trans (h3.mono h.low.size), by rw [List.length_append, Put.low_len]; have := h.len; omega⟩, h3⟩
theorem st_puts (h : St u W v l N) {s : Sl} {xs : List Int} {n : Nat} (hn : xs.length = n) (hx : IntRow W s xs) (hN : N + 8 * n ≤ 10000) (size : Int) :
    Calls Tryz.prog 50 #[v, .int .i64 size, .slice s.a n s.cap] W fun e W' => ∃ v', e = .returned v' ∧ St u W' v' (l ++ puts (lim size 8) xs) (N + 8 * n) ∧ Below W.heap.size W W' :=
  (rputs h.bv hn hx (by have := h.len; omega) size).mono fun e W' ⟨v', h1, h2, h3⟩ => ⟨v', h1, ⟨h2, h.low.trans (h3.mono h.low.size), by
    rw [List.length_append, Cd.puts_len, hn]
    have := h.len
    have : n * lim size 8 ≤ n * 8 := Nat.mul_le_mul_left _ (Put.lim_le size 8)
    omega⟩, h3⟩
end
theorem infoD : (Tryz.prog.info? 80).map (·.size) = some 7 := by kernel_rfl
theorem infoR : (Tryz.prog.info? 84).map (·.size) = some 11 := by kernel_rfl
theorem row_head (W : World) : B.Row (W.alloc (.cells #[.int .u8 88, .int .u8 66, .int .u8 1] 5)) (some ⟨W.heap.size, 0, none⟩) [88, 66, 1] := by
  refine ⟨by decide, by decide, .inr ⟨_, rfl, fun i hi => ?_⟩⟩
  rw [Po.add_none, cell_of_row _ _ _ _ _ _ (heap_alloc_new W _)]
  match i, hi with
  | 0, _ => rfl
  | 1, _ => rfl
  | 2, _ => rfl
theorem rbody_any {T : Tab} {hd : Hd} {w : World} (ht : IsTab w hd T) (few : Few T) :
    Calls Tryz.prog 19 #[.agg (T.cells hd).toArray] w fun e w' => ∃ v, e = .returned v ∧ Bv w' v (Cd.bodyB T) ∧ Below w.heap.size w w' := by
  obtain ⟨⟨ga, gcap⟩, ⟨da, dcap⟩, ⟨ra, rcap⟩, ⟨sa, scap⟩⟩ := hd
  have C := cells_ok ht
  obtain ⟨gs, hgd, hgl⟩ := ht.groups
  have hgn : gs.length = T.groups.length := by rw [← hgd, List.length_map]
  have IA : Hid ((Tryz.prog.info? 31).map (·.size) = some (T.cells ⟨⟨ga, gcap⟩, ⟨da, dcap⟩, ⟨ra, rcap⟩, ⟨sa, scap⟩⟩).length) := Lib.hid (by have := C.size; rw [List.size_toArray] at this; rw [this]; exact May.infoT)
  have h0 : Below w.heap.size w (w.alloc (.cells (T.cells ⟨⟨ga, gcap⟩, ⟨da, dcap⟩, ⟨ra, rcap⟩, ⟨sa, scap⟩⟩).toArray 31)) := (Below.refl _ _).alloc (Nat.le_refl _) _
  have hg0 := heap_alloc_new w (.cells (T.cells ⟨⟨ga, gcap⟩, ⟨da, dcap⟩, ⟨ra, rcap⟩, ⟨sa, scap⟩⟩).toArray 31)
  have few2 := Lib.hid few
  have HC := Lib.hid C
  have HGD := Lib.hid hgd
  have HGN := Lib.hid hgn
  have HGL := Lib.hid (hgl.below h0)
  have HTT := Lib.hid (ht.below h0)
  generalize hcc : (T.cells ⟨⟨ga, gcap⟩, ⟨da, dcap⟩, ⟨ra, rcap⟩, ⟨sa, scap⟩⟩).toArray = c at HC h0 hg0 HGL HTT ⊢
  have hsz := HC.out.size
  clear C hgd hgn hgl few ht IA hcc
  have SZ := Lib.hid hsz
  clear hsz
  go_enter Tryz.func19, Tryz.ntmps19
  go_upto_region 1 with fail
  generalize World.alloc w _ = u at h0 hg0 HGL HTT ⊢
  generalize hgt : w.heap.size = tb at hg0 ⊢
  have HB0 := Lib.hid h0
  have HBX := Lib.hid hg0
  have CL : Hid (∀ (j : Nat) (x : Value), c[j]? = some x → ∀ W, Below u.heap.size u W → W.cell? ⟨tb, j, none⟩ = some x) := Lib.hid (fun j x hx W hb => by rw [cell_of_row _ _ _ _ _ _ ((hb.block tb (Array.getElem?_eq_some_iff.1 HBX.out).1).trans HBX.out)]; exact hx)
  have PLI : Hid (∀ q : Nat, q < 8 → ∀ W, Below u.heap.size u W → Lies W ⟨tb, q * 13, none⟩ (T.phases.getD q default).cells) := Lib.hid (fun q hq W hb => by
    have hp := HC.out.phase q _ (List.getElem?_eq_getElem (by rw [HTT.out.ph]; exact hq))
    rw [Nat.mul_comm] at hp
    rw [show T.phases.getD q default = T.phases[q]'(by rw [HTT.out.ph]; exact hq) by simp [List.getD, List.getElem?_eq_getElem (show q < T.phases.length by rw [HTT.out.ph]; exact hq)]]
    intro j x hj
    rw [Po.add_none]
    have hj13 : j < 13 := by have := (List.getElem?_eq_some_iff.1 hj).1; simpa [Ph.cells] using this
    refine CL.out _ x ?_ W hb
    rw [← Array.getElem?_toList, Po.take_at hp rfl hj13]
    exact hj)
  clear h0 hg0
  go_upto_region 3 with fail
  have hst : St u (u.alloc (.cells #[.int .u8 88, .int .u8 66, .int .u8 1] 5)) (.slice (some ⟨u.heap.size, 0, none⟩) 3 3) [88, 66, 1] 3 :=
    ⟨⟨by intro x hx; simp at hx; omega, _, 3, rfl, row_head u, fun h => by cases h⟩, (Below.refl _ _).alloc (Nat.le_refl _) _, Nat.le_refl _⟩
  generalize World.alloc u _ = u1 at hst ⊢
  generalize (Value.slice (some ⟨u.heap.size, 0, none⟩) 3 3) = b0 at hst ⊢
  have HST := Lib.hid hst
  clear hst
  go_wp2_with fail
  go_loopw [3, 4] (fun b i wr => ∃ q : Nat, q ≤ 8 ∧ i = .int .i64 (q : Int) ∧ St u wr b ([88, 66, 1] ++ (List.range q).flatMap (fun q => phB (T.phases.getD q default))) (3 + 104 * q)) (fun _ i _ => 8 - (intOf i).toNat)
  case atStart => exact ⟨0, by omega, rfl, by simpa using HST.out⟩
  case round =>
    obtain ⟨q, hq, rfl, hst⟩ := hrel
    have HST := Lib.hid hst
    clear hst
    by_cases hlt : q < 8
    · have HPL := Lib.hid (PLI.out q hlt wr HST.out.low)
      have HPH : Hid (([88, 66, 1] ++ (List.range (q + 1)).flatMap (fun q => phB (T.phases.getD q default))) = ([88, 66, 1] ++ (List.range q).flatMap (fun q => phB (T.phases.getD q default))) ++ phB (T.phases.getD q default)) := Lib.hid (by rw [List.range_succ, List.flatMap_append, List.flatMap_singleton, List.append_assoc])
      generalize [88, 66, 1] ++ (List.range q).flatMap (fun q => phB (T.phases.getD q default)) = Lq at HST HPH
      generalize T.phases.getD q default = p at HPL HPH
      have IP : (Tryz.prog.info? 23).map (·.size) = some p.cells.length := May.infoP
      go_upto_region 6 with (first | (refine Row.wpList_load_lies rfl 23 _ rfl ⟨tb, q * 13, none⟩ rfl p.cells _ HPL.out Tryz.underlying23 rfl IP ?_) | (refine Row.wpList_store_new rfl 23 _ _ rfl _ _ p.cells.toArray rfl rfl rfl May.infoP rfl (Ph.one _) ?_))
      dsimp only [Act.put]
      (try simp only [List.setIfInBounds_toArray, List.set_cons_zero, List.set_cons_succ])
      have hst := HST.out.mem ((Below.refl _ _).alloc (Nat.le_refl _) (.cells p.cells.toArray 23))
      have hg := heap_alloc_new wr (.cells p.cells.toArray 23)
      generalize World.alloc wr _ = W1 at hst hg ⊢
      generalize wr.heap.size = gx at hg ⊢
      clear HST HPL
      have k0 : W1.cell? ⟨gx, 0, none⟩ = some (.bool p.on) := by rw [cell_of_row _ _ _ _ _ _ hg]; rfl
      have HST := Lib.hid hst
      have HG := Lib.hid hg
      clear hst hg
      go_wp2_with (go_at_call 49; refine (one_any _ _).mono ?_; rintro e w' ⟨rfl, rfl⟩)
      refine (st_put HST.out (by omega) 1 _).mono ?_
      rintro e W2 ⟨v2, rfl, hst, hb⟩
      have hg := (hb.block gx (Array.getElem?_eq_some_iff.1 HG.out).1).trans HG.out
      have HST2 := Lib.hid hst
      clear hst hb k0 HST HG
      have k1 : W2.cell? ⟨gx, 1, none⟩ = some (I p.min) := by rw [cell_of_row _ _ _ _ _ _ hg]; rfl
      have k2 : W2.cell? ⟨gx, 2, none⟩ = some (I p.gap) := by rw [cell_of_row _ _ _ _ _ _ hg]; rfl
      have k3 : W2.cell? ⟨gx, 3, none⟩ = some (I p.max) := by rw [cell_of_row _ _ _ _ _ _ hg]; rfl
      have k4 : W2.cell? ⟨gx, 4, none⟩ = some (I p.top) := by rw [cell_of_row _ _ _ _ _ _ hg]; rfl
      have k5 : W2.cell? ⟨gx, 5, none⟩ = some (I p.step) := by rw [cell_of_row _ _ _ _ _ _ hg]; rfl
      have k6 : W2.cell? ⟨gx, 6, none⟩ = some (I p.yellow) := by rw [cell_of_row _ _ _ _ _ _ hg]; rfl
      have k7 : W2.cell? ⟨gx, 7, none⟩ = some (I p.red) := by rw [cell_of_row _ _ _ _ _ _ hg]; rfl
      have k8 : W2.cell? ⟨gx, 8, none⟩ = some (I p.walk) := by rw [cell_of_row _ _ _ _ _ _ hg]; rfl
      have k9 : W2.cell? ⟨gx, 9, none⟩ = some (I p.blinks) := by rw [cell_of_row _ _ _ _ _ _ hg]; rfl
      have HG := Lib.hid hg
      clear hg
      go_wp2_with fail
      refine (st_puts (n := 9) (xs := [p.min, p.gap, p.max, p.top, p.step, p.yellow, p.red, p.walk, p.blinks]) (s := ⟨some ⟨W2.heap.size, 0, none⟩, 9⟩) (HST2.out.mem ((Below.refl _ _).alloc (Nat.le_refl _) _)) rfl (May.row_new W2 3 [p.min, p.gap, p.max, p.top, p.step, p.yellow, p.red, p.walk, p.blinks] 9 rfl (by decide) _ rfl) (by omega) 2).mono ?_
      rintro e W3 ⟨v3, rfl, hst, hb⟩
      have hg := (hb.block gx (by have := (Array.getElem?_eq_some_iff.1 HG.out).1; simp; omega)).trans ((Below.heap_alloc _ _ _ (Array.getElem?_eq_some_iff.1 HG.out).1).trans HG.out)
      have HST3 := Lib.hid hst
      clear hst hb k1 k2 k3 k4 k5 k6 k7 k8 k9 HST2 HG
      have HG := Lib.hid hg
      clear hg
      go_upto_region 8 with fail
      have q10 : ∀ r : QB.By W3.heap.size W3, r.world.cell? ⟨gx, 10, none⟩ = some (I p.recall) := fun r => by rw [cell_of_row _ _ _ _ _ _ ((r.below.block gx (Array.getElem?_eq_some_iff.1 HG.out).1).trans HG.out)]; rfl
      have q11 : ∀ r : QB.By W3.heap.size W3, r.world.cell? ⟨gx, 11, none⟩ = some (.bool p.lock) := fun r => by rw [cell_of_row _ _ _ _ _ _ ((r.below.block gx (Array.getElem?_eq_some_iff.1 HG.out).1).trans HG.out)]; rfl
      have q12 : ∀ r : QB.By W3.heap.size W3, r.world.cell? ⟨gx, 12, none⟩ = some (.bool p.rest) := fun r => by rw [cell_of_row _ _ _ _ _ _ ((r.below.block gx (Array.getElem?_eq_some_iff.1 HG.out).1).trans HG.out)]; rfl
      refine QT.region1 W3.heap.size 9 (by kernel_rfl) (by kernel_rfl) (by kernel_rfl) (by kernel_rfl) (v := v3) (fun _ _ _ h => h) (Or.inl ⟨by rfl, fun w' => by go_simp; try rfl⟩) ?_
      dsimp only [Act.put]
      simp only [List.setIfInBounds_toArray, List.set_cons_zero, List.set_cons_succ, List.take_succ_cons, List.take_zero, List.drop_succ_cons, List.drop_zero]
      repeat (quiet_step (first
        | (go_at_call 49; exact QB.call_of (Nat.le_refl _) (fun b => (one_any _ _).mono fun e w' h => ⟨h.1, by rw [← h.2]; exact Below.refl _ _⟩))))
      refine wpQuiet_nil ?_
      intro _ hw'
      obtain ⟨r, rfl⟩ := hw'
      have hst := HST3.out.mem r.below
      clear q10 q11 q12 HST3 HG
      generalize r.world = W4 at hst ⊢
      (try simp only [List.drop_succ_cons, List.drop_zero])
      have HST4 := Lib.hid hst
      clear hst
      go_wp2_with fail
      refine (st_puts (n := 3) (xs := [p.recall, Cd.one p.lock, Cd.one p.rest]) (s := ⟨some ⟨W4.heap.size, 0, none⟩, 3⟩) (HST4.out.mem ((Below.refl _ _).alloc (Nat.le_refl _) _)) rfl (May.row_new W4 3 [p.recall, Cd.one p.lock, Cd.one p.rest] 3 rfl (by decide) _ rfl) (by omega) 1).mono ?_
      rintro e W5 ⟨v5, rfl, hst, hb⟩
      have HST5 := Lib.hid hst
      clear hst hb HST4
      go_wp2
      go_roundw
      case rel => exact ⟨q + 1, by omega, by go_num, by
        have := HST5.out
        rw [HPH.out]
        have e : ((Lq ++ low (lim 1 8) (Cd.one p.on)) ++ puts (lim 2 8) [p.min, p.gap, p.max, p.top, p.step, p.yellow, p.red, p.walk, p.blinks]) ++ puts (lim 1 8) [p.recall, Cd.one p.lock, Cd.one p.rest] = Lq ++ phB p := by
          simp only [List.append_assoc, phB, show lim 1 8 = 1 from rfl, show lim 2 8 = 2 from rfl]
          simp [puts]
        rw [e] at this
        exact ⟨this.bv, this.low, by have := this.len; omega⟩⟩
      case measure => simp [intOf]; omega
    · obtain rfl : q = 8 := by omega
      have hst : St u wr u3 ([88, 66, 1] ++ T.phases.flatMap phB) 1000 := by
        have := HST.out
        rw [show (List.range 8).flatMap (fun q => phB (T.phases.getD q default)) = T.phases.flatMap phB from by rw [← HTT.out.ph]; exact range_flat phB default T.phases] at this
        exact ⟨this.bv, this.low, by have := this.len; omega⟩
      clear HST PLI
      obtain ⟨L1, hL1⟩ : ∃ x, x = [88, 66, 1] ++ T.phases.flatMap phB := ⟨_, rfl⟩
      rw [← hL1] at hst
      have EL1 := Lib.hid hL1
      have HST := Lib.hid hst
      clear hL1 hst
      obtain ⟨nG, hnG⟩ : ∃ n, n = T.groups.length := ⟨_, rfl⟩
      obtain ⟨nD, hnD⟩ : ∃ n, n = T.dets.length := ⟨_, rfl⟩
      obtain ⟨nR, hnR⟩ : ∃ n, n = T.rails.length := ⟨_, rfl⟩
      obtain ⟨nS, hnS⟩ : ∃ n, n = T.buses.length := ⟨_, rfl⟩
      have CG : Hid (∀ W, Below u.heap.size u W → W.cell? ⟨tb, 104, none⟩ = some (.slice ga nG gcap)) := Lib.hid (by rw [hnG]; exact CL.out 104 _ HC.out.g)
      have CD : Hid (∀ W, Below u.heap.size u W → W.cell? ⟨tb, 113, none⟩ = some (.slice da nD dcap)) := Lib.hid (by rw [hnD]; exact CL.out 113 _ HC.out.d)
      have CR : Hid (∀ W, Below u.heap.size u W → W.cell? ⟨tb, 114, none⟩ = some (.slice ra nR rcap)) := Lib.hid (by rw [hnR]; exact CL.out 114 _ HC.out.r)
      have CS : Hid (∀ W, Below u.heap.size u W → W.cell? ⟨tb, 115, none⟩ = some (.slice sa nS scap)) := Lib.hid (by rw [hnS]; exact CL.out 115 _ HC.out.b)
      have nG4 : nG ≤ 4 := by rw [hnG]; exact few2.out.g
      have nD16 : nD ≤ 16 := by rw [hnD]; exact few2.out.d
      have nR4 : nR ≤ 4 := by rw [hnR]; exact few2.out.r
      have nS4 : nS ≤ 4 := by rw [hnS]; exact few2.out.b
      obtain ⟨gb, go, HGB⟩ : ∃ b o, Hid (0 < nG → ga = some ⟨b, o, none⟩) := by
        by_cases h0 : 0 < gs.length
        · obtain ⟨x, hx, hl⟩ := HGL.out.1.at (List.getElem?_eq_getElem h0)
          rw [Nat.zero_mul, add_zero] at hl
          exact ⟨x.block, x.off, Lib.hid (fun _ => by rw [show ga = some x from hx, ← Po.spot_of hl (by simp [Gr.cells])])⟩
        · exact ⟨0, 0, Lib.hid (fun h1 => absurd h1 (by rw [hnG, ← HGN.out]; exact h0))⟩
      have NG := Lib.hid hnG
      have ND := Lib.hid hnD
      have NR := Lib.hid hnR
      have NS := Lib.hid hnS
      clear hnG hnD hnR hnS
      have kg := CG.out wr HST.out.low
      go_wp2_with fail
      refine (st_put HST.out (by omega) 1 _).mono ?_
      rintro e W6 ⟨v6, rfl, hst, hb⟩
      obtain ⟨L2, hL2⟩ : ∃ x, x = L1 ++ low (lim 1 8) (nG : Int) := ⟨_, rfl⟩
      rw [← hL2] at hst
      have EL2 := Lib.hid hL2
      have HST6 := Lib.hid hst
      clear hL2 hst hb HST kg
      have G8 : Hid (∀ g ∈ gs, g.r0.length ≤ 8 ∧ g.r1.length ≤ 8) := Lib.hid (fun g hg => few2.out.row g.data (by rw [← HGD.out]; exact List.mem_map_of_mem hg))
      go_wp2_with fail
      go_loopw [3, 6] (fun b i wr => ∃ q : Nat, q ≤ nG ∧ i = .int .i64 (q : Int) ∧ St u wr b (L2 ++ (List.range q).flatMap (fun q => grB (gs.getD q zGr).data)) (1008 + 144 * q)) (fun _ i _ => nG - (intOf i).toNat)
      case atStart => exact ⟨0, by omega, rfl, by simpa using HST6.out⟩
      case round =>
        obtain ⟨q, hq, rfl, hst⟩ := hrel
        have HST := Lib.hid hst
        clear hst HST6
        have kg := CG.out wr HST.out.low
        by_cases hlt : q < nG
        · have hqg : q < gs.length := by rw [HGN.out, ← NG.out]; exact hlt
          obtain rfl : ga = some ⟨gb, go, none⟩ := HGB.out (by omega)
          obtain ⟨x, hx, hl⟩ := HGL.out.1.at (List.getElem?_eq_getElem hqg)
          obtain rfl := Option.some.inj hx
          rw [Po.add_none] at hl
          have hg0 : gs.getD q zGr = gs[q] := by simp [List.getD, List.getElem?_eq_getElem hqg]
          have HGQ : Hid ((List.range (q + 1)).flatMap (fun q => grB (gs.getD q zGr).data) = (List.range q).flatMap (fun q => grB (gs.getD q zGr).data) ++ grB (gs[q]).data) := Lib.hid (by rw [List.range_succ, List.flatMap_append, List.flatMap_singleton, hg0])
          have hok := HGL.out.2 _ (List.getElem_mem hqg)
          have h8 := G8.out _ (List.getElem_mem hqg)
          generalize gs[q] = g at hl HGQ hok h8
          have KR : Hid (∀ j : Nat, j < 2 → ∃ (s : Sl) (xs : List Int) (n : Nat), xs = gRow g j ∧ xs.length = n ∧ n ≤ 8 ∧ IntRow u s xs ∧ ∀ W, Below u.heap.size u W → W.cell? ⟨gb, go + q * 2 + j, none⟩ = some (.slice s.a n s.cap)) := Lib.hid (fun j hj => by
            rcases (show j = 0 ∨ j = 1 by omega) with rfl | rfl
            · refine ⟨g.s0, g.r0, g.r0.length, rfl, rfl, h8.1, hok.1, fun W hb => ?_⟩
              have hc := hl 0 _ rfl
              rw [Po.add_none] at hc
              exact (hb.cell (World.block_lt_of_cell? u _ hc)).trans hc
            · refine ⟨g.s1, g.r1, g.r1.length, rfl, rfl, h8.2, hok.2, fun W hb => ?_⟩
              have hc := hl 1 _ rfl
              rw [Po.add_none] at hc
              exact (hb.cell (World.block_lt_of_cell? u _ hc)).trans hc)
          clear hl hok h8 hg0 hx hqg
          generalize (List.range q).flatMap (fun q => grB (gs.getD q zGr).data) = Gq at HST HGQ
          obtain ⟨L3, hL3⟩ : ∃ x, x = L2 ++ Gq := ⟨_, rfl⟩
          rw [← hL3] at HST
          have EL3 := Lib.hid hL3
          clear hL3
          go_wp2_with fail
          clear kg
          rename World => wo
          go_loopw [3, 7] (fun b i wr => ∃ j : Nat, j ≤ 2 ∧ i = .int .i64 (j : Int) ∧ St u wr b (L3 ++ (List.range j).flatMap (fun j => rowB (gRow g j))) (1008 + 144 * q + 72 * j)) (fun _ i _ => 2 - (intOf i).toNat)
          case atStart => exact ⟨0, by omega, rfl, by simpa using HST.out⟩
          case round =>
            obtain ⟨j, hj, rfl, hst⟩ := hrel
            have HST := Lib.hid hst
            clear hst
            by_cases hlj : j < 2
            · obtain ⟨⟨xa, xcap⟩, xs, xn, hxr, hxn, hx8, hir, hcell⟩ := KR.out j hlj
              have HCE := Lib.hid hcell
              have HIR := Lib.hid hir
              have HXN := Lib.hid hxn
              have HRQ : Hid ((List.range (j + 1)).flatMap (fun j => rowB (gRow g j)) = (List.range j).flatMap (fun j => rowB (gRow g j)) ++ rowB xs) := Lib.hid (by rw [List.range_succ, List.flatMap_append, List.flatMap_singleton, hxr])
              clear hcell hir hxn hxr
              generalize (List.range j).flatMap (fun j => rowB (gRow g j)) = Rj at HST HRQ
              have HLW : Hid (∀ W, Below wr.heap.size wr W → Below u.heap.size u W) := Lib.hid (fun W hb => HST.out.low.trans (hb.mono HST.out.low.size))
              go_upto_region 16 with fail
              refine wp_region_held (S := fun w' => Below wr.heap.size wr w') (by kernel_rfl) ?_
              have hS : Below wr.heap.size wr { wr with drawn := wr.drawn + 1 } := (Below.refl _ _).drew
              have hst := HST.out.mem hS
              generalize ({ wr with drawn := wr.drawn + 1 } : World) = V at hS hst ⊢
              have HSV := Lib.hid hst
              clear hst HST
              refine Held.take (i := 0) (some 75) rfl (v := ?_) rfl (by kernel_rfl) (by kernel_rfl) (by kernel_rfl) (fun _ _ _ h => h) (Or.inl ⟨by rfl, ?_⟩) hS ?_
              rotate_left
              · intro w' hw'
                go_simp
                try with_reducible rfl
              (try dsimp only [Act.put]); (try simp only [List.setIfInBounds_toArray, List.set_cons_zero, List.set_cons_succ])
              refine Held.take (i := 1) (some 76) rfl (v := ?_) rfl (by kernel_rfl) (by kernel_rfl) (by kernel_rfl) (fun _ _ _ h => h) (Or.inl ⟨by rfl, ?_⟩) hS ?_
              rotate_left
              · intro w' hw'
                go_simp
                try with_reducible rfl
              (try dsimp only [Act.put]); (try simp only [List.setIfInBounds_toArray, List.set_cons_zero, List.set_cons_succ])
              refine Held.take (i := 2) (some 77) rfl (v := ?_) rfl (by kernel_rfl) (by kernel_rfl) (by kernel_rfl) (fun _ _ _ h => h) (Or.inl ⟨by rfl, ?_⟩) hS ?_
              rotate_left
              · intro w' hw'
                have cf0 := (fun w' hw' => CG.out w' (HLW.out w' hw')) w' hw'
                go_simp
                try with_reducible rfl
              (try dsimp only [Act.put]); (try simp only [List.setIfInBounds_toArray, List.set_cons_zero, List.set_cons_succ])
              refine Held.take (i := 3) (some 78) rfl (v := ?_) rfl (by kernel_rfl) (by kernel_rfl) (by kernel_rfl) (fun _ _ _ h => h) (Or.inl ⟨by rfl, ?_⟩) hS ?_
              rotate_left
              · intro w' hw'
                go_simp
                try with_reducible rfl
              (try dsimp only [Act.put]); (try simp only [List.setIfInBounds_toArray, List.set_cons_zero, List.set_cons_succ])
              refine Held.take (i := 4) (some 79) rfl (v := ?_) rfl (by kernel_rfl) (by kernel_rfl) (by kernel_rfl) (fun _ _ _ h => h) (Or.inl ⟨by rfl, ?_⟩) hS ?_
              rotate_left
              · intro w' hw'
                go_simp
                try with_reducible rfl
              (try dsimp only [Act.put]); (try simp only [List.setIfInBounds_toArray, List.set_cons_zero, List.set_cons_succ])
              refine Held.take (i := 5) (some 80) rfl (v := ?_) rfl (by kernel_rfl) (by kernel_rfl) (by kernel_rfl) (fun _ _ _ h => h) (Or.inl ⟨by rfl, ?_⟩) hS ?_
              rotate_left
              · intro w' hw'
                go_simp
                try with_reducible rfl
              (try dsimp only [Act.put]); (try simp only [List.setIfInBounds_toArray, List.set_cons_zero, List.set_cons_succ])
              refine Held.take (i := 6) (some 81) rfl (v := ?_) rfl (by kernel_rfl) (by kernel_rfl) (by kernel_rfl) (fun _ _ _ h => h) (Or.inl ⟨by rfl, ?_⟩) hS ?_
              rotate_left
              · intro w' hw'
                go_simp
                try with_reducible rfl
              (try dsimp only [Act.put]); (try simp only [List.setIfInBounds_toArray, List.set_cons_zero, List.set_cons_succ])
              refine Held.take (i := 7) (some 82) rfl (v := ?_) rfl (by kernel_rfl) (by kernel_rfl) (by kernel_rfl) (fun _ _ _ h => h) (Or.inl ⟨by rfl, ?_⟩) hS ?_
              rotate_left
              · intro w' hw'
                have cf0 := (fun w' hw' => HCE.out w' (HLW.out w' hw')) w' hw'
                go_simp
                try with_reducible rfl
              (try dsimp only [Act.put]); (try simp only [List.setIfInBounds_toArray, List.set_cons_zero, List.set_cons_succ])
              refine Held.take (i := 8) (some 83) rfl (v := ?_) rfl (by kernel_rfl) (by kernel_rfl) (by kernel_rfl) (fun _ _ _ h => h) (Or.inl ⟨by rfl, ?_⟩) hS ?_
              rotate_left
              · intro w' hw'
                go_simp
                try with_reducible rfl
              (try dsimp only [Act.put]); (try simp only [List.setIfInBounds_toArray, List.set_cons_zero, List.set_cons_succ])
              refine Held.take (i := 10) (some 85) rfl (v := ?_) rfl (by kernel_rfl) (by kernel_rfl) (by kernel_rfl) (fun _ _ _ h => h) (Or.inl ⟨by rfl, ?_⟩) hS ?_
              rotate_left
              · intro w' hw'
                go_simp
                try with_reducible rfl
              (try dsimp only [Act.put]); (try simp only [List.setIfInBounds_toArray, List.set_cons_zero, List.set_cons_succ])
              refine Held.take (i := 11) (some 86) rfl (v := ?_) rfl (by kernel_rfl) (by kernel_rfl) (by kernel_rfl) (fun _ _ _ h => h) (Or.inl ⟨by rfl, ?_⟩) hS ?_
              rotate_left
              · intro w' hw'
                have cf0 := (fun w' hw' => CG.out w' (HLW.out w' hw')) w' hw'
                go_simp
                try with_reducible rfl
              (try dsimp only [Act.put]); (try simp only [List.setIfInBounds_toArray, List.set_cons_zero, List.set_cons_succ])
              refine Held.take (i := 12) (some 87) rfl (v := ?_) rfl (by kernel_rfl) (by kernel_rfl) (by kernel_rfl) (fun _ _ _ h => h) (Or.inl ⟨by rfl, ?_⟩) hS ?_
              rotate_left
              · intro w' hw'
                go_simp
                try with_reducible rfl
              (try dsimp only [Act.put]); (try simp only [List.setIfInBounds_toArray, List.set_cons_zero, List.set_cons_succ])
              refine Held.take (i := 13) (some 88) rfl (v := ?_) rfl (by kernel_rfl) (by kernel_rfl) (by kernel_rfl) (fun _ _ _ h => h) (Or.inl ⟨by rfl, ?_⟩) hS ?_
              rotate_left
              · intro w' hw'
                go_simp
                try with_reducible rfl
              (try dsimp only [Act.put]); (try simp only [List.setIfInBounds_toArray, List.set_cons_zero, List.set_cons_succ])
              refine Held.take (i := 14) (some 89) rfl (v := ?_) rfl (by kernel_rfl) (by kernel_rfl) (by kernel_rfl) (fun _ _ _ h => h) (Or.inl ⟨by rfl, ?_⟩) hS ?_
              rotate_left
              · intro w' hw'
                go_simp
                try with_reducible rfl
              (try dsimp only [Act.put]); (try simp only [List.setIfInBounds_toArray, List.set_cons_zero, List.set_cons_succ])
              refine Held.take (i := 15) (some 90) rfl (v := ?_) rfl (by kernel_rfl) (by kernel_rfl) (by kernel_rfl) (fun _ _ _ h => h) (Or.inl ⟨by rfl, ?_⟩) hS ?_
              rotate_left
              · intro w' hw'
                go_simp
                try with_reducible rfl
              (try dsimp only [Act.put]); (try simp only [List.setIfInBounds_toArray, List.set_cons_zero, List.set_cons_succ])
              refine Held.take (i := 16) (some 91) rfl (v := ?_) rfl (by kernel_rfl) (by kernel_rfl) (by kernel_rfl) (fun _ _ _ h => h) (Or.inl ⟨by rfl, ?_⟩) hS ?_
              rotate_left
              · intro w' hw'
                have cf0 := (fun w' hw' => HCE.out w' (HLW.out w' hw')) w' hw'
                go_simp
                try with_reducible rfl
              (try dsimp only [Act.put]); (try simp only [List.setIfInBounds_toArray, List.set_cons_zero, List.set_cons_succ])
              refine wpAnyH_ready (rs := [9]) (by kernel_rfl) (by simp) (AllReadyH.cons rfl (fun K hK => ?_) AllReadyH.nil)
              go_simp
              refine (st_put HSV.out (by omega) 1 _).mono ?_
              rintro e V2 ⟨v2, rfl, hst, hb⟩
              have hq := hS.trans (hb.mono hS.size)
              have HSV2 := Lib.hid hst
              clear hS hb hst HSV
              rename World => V
              rename Value => v2
              have HSV := HSV2
              clear HSV2
              go_simp
              refine hK.out _ _ hq (fun hS => ?_)
              clear hK K hq
              (try dsimp only [Act.put]); (try simp only [List.setIfInBounds_toArray, List.set_cons_zero, List.set_cons_succ])
              refine wpAnyH_ready (rs := [17]) (by kernel_rfl) (by simp) (AllReadyH.cons rfl (fun K hK => ?_) AllReadyH.nil)
              go_simp
              refine (st_puts (n := xn) (s := ⟨xa, xcap⟩) HSV.out HXN.out (HIR.out.below HSV.out.low) (by omega) 1).mono ?_
              rintro e V2 ⟨v2, rfl, hst, hb⟩
              have hq := hS.trans (hb.mono hS.size)
              have HSV2 := Lib.hid hst
              clear hS hb hst HSV
              rename World => V
              rename Value => v2
              have HSV := HSV2
              clear HSV2
              go_simp
              refine hK.out _ _ hq (fun hS => ?_)
              clear hK K hq
              (try dsimp only [Act.put]); (try simp only [List.setIfInBounds_toArray, List.set_cons_zero, List.set_cons_succ])
              refine Held.take (i := 18) (some 3) rfl (v := ?_) rfl (by kernel_rfl) (by kernel_rfl) (by kernel_rfl) (fun _ _ _ h => h) (Or.inl ⟨by rfl, ?_⟩) hS ?_
              rotate_left
              · intro w' hw'
                go_simp
                try with_reducible rfl
              (try dsimp only [Act.put]); (try simp only [List.setIfInBounds_toArray, List.set_cons_zero, List.set_cons_succ])
              refine wpAnyH_done (by kernel_rfl) ?_ _
              go_wp2
              go_roundw
              case rel => exact ⟨j + 1, by omega, by go_num, by
                have := HSV.out
                rw [HRQ.out]
                have e : ((L3 ++ Rj) ++ low (lim 1 8) (xn : Int)) ++ puts (lim 1 8) xs = L3 ++ (Rj ++ rowB xs) := by
                  simp only [List.append_assoc, rowB, show lim 1 8 = 1 from rfl, HXN.out]
                rw [e] at this
                exact ⟨this.bv, this.low, by have := this.len; omega⟩⟩
              case measure => simp [intOf]; omega
            · obtain rfl : j = 2 := by omega
              have hst : St u wr u3 (L2 ++ (Gq ++ grB g.data)) (1008 + 144 * (q + 1)) := by
                have := HST.out
                rw [show (List.range 2).flatMap (fun j => rowB (gRow g j)) = grB g.data from by simp [show List.range 2 = [0, 1] from rfl, grB, gRow, Gr.data], EL3.out, List.append_assoc] at this
                exact ⟨this.bv, this.low, by have := this.len; omega⟩
              have HSX := Lib.hid hst
              clear hst HST
              go_wp2
              go_roundw
              case rel => exact ⟨q + 1, by omega, by go_num, by rw [HGQ.out]; exact HSX.out⟩
              case measure => simp [intOf]; omega
        · obtain rfl : nG = q := by omega
          obtain ⟨L4, hL4⟩ : ∃ x, x = L2 ++ T.groups.flatMap grB := ⟨_, rfl⟩
          have hst : St u wr u3 L4 1584 := by
            have := HST.out
            rw [show (List.range nG).flatMap (fun q => grB (gs.getD q zGr).data) = T.groups.flatMap grB from by rw [NG.out, ← HGN.out, range_flat (fun g : Gr => grB g.data) zGr gs, ← HGD.out, List.flatMap_map], ← hL4] at this
            exact ⟨this.bv, this.low, by have := this.len; omega⟩
          have EL4 := Lib.hid hL4
          clear HST hL4
          have HST := Lib.hid hst
          clear hst
          go_upto_region 17 with fail
          have HLW : Hid (∀ W, Below wr.heap.size wr W → Below u.heap.size u W) := Lib.hid (fun W hb => HST.out.low.trans (hb.mono HST.out.low.size))
          have CFR : Hid (∀ W, Below u.heap.size u W → IntRow W ⟨some ⟨tb, 105, none⟩, 8⟩ T.conflict) := Lib.hid (fun W hb => May.ints_in ((hb.block tb (Array.getElem?_eq_some_iff.1 HBX.out).1).trans HBX.out) 105 8 T.conflict HC.out.conflict HTT.out.cf (by decide))
          refine wp_region_held (S := fun w' => Below wr.heap.size wr w') (by kernel_rfl) ?_
          have hS : Below wr.heap.size wr { wr with drawn := wr.drawn + 1 } := (Below.refl _ _).drew
          have hst := HST.out.mem hS
          generalize ({ wr with drawn := wr.drawn + 1 } : World) = V at hS hst ⊢
          have HSV := Lib.hid hst
          clear hst HST
          refine Held.take (i := 0) (some 93) rfl (v := ?_) rfl (by kernel_rfl) (by kernel_rfl) (by kernel_rfl) (fun _ _ _ h => h) (Or.inl ⟨by rfl, ?_⟩) hS ?_
          rotate_left
          · intro w' hw'
            go_simp
            try with_reducible rfl
          (try dsimp only [Act.put]); (try simp only [List.setIfInBounds_toArray, List.set_cons_zero, List.set_cons_succ])
          refine Held.take (i := 1) (some 94) rfl (v := ?_) rfl (by kernel_rfl) (by kernel_rfl) (by kernel_rfl) (fun _ _ _ h => h) (Or.inl ⟨by rfl, ?_⟩) hS ?_
          rotate_left
          · intro w' hw'
            go_simp
            try with_reducible rfl
          (try dsimp only [Act.put]); (try simp only [List.setIfInBounds_toArray, List.set_cons_zero, List.set_cons_succ])
          refine Held.take (i := 2) (some 95) rfl (v := ?_) rfl (by kernel_rfl) (by kernel_rfl) (by kernel_rfl) (fun _ _ _ h => h) (Or.inl ⟨by rfl, ?_⟩) hS ?_
          rotate_left
          · intro w' hw'
            go_simp
            try with_reducible rfl
          (try dsimp only [Act.put]); (try simp only [List.setIfInBounds_toArray, List.set_cons_zero, List.set_cons_succ])
          refine Held.take (i := 4) (some 97) rfl (v := ?_) rfl (by kernel_rfl) (by kernel_rfl) (by kernel_rfl) (fun _ _ _ h => h) (Or.inl ⟨by rfl, ?_⟩) hS ?_
          rotate_left
          · intro w' hw'
            go_simp
            try with_reducible rfl
          (try dsimp only [Act.put]); (try simp only [List.setIfInBounds_toArray, List.set_cons_zero, List.set_cons_succ])
          refine Held.take (i := 5) (some 98) rfl (v := ?_) rfl (by kernel_rfl) (by kernel_rfl) (by kernel_rfl) (fun _ _ _ h => h) (Or.inl ⟨by rfl, ?_⟩) hS ?_
          rotate_left
          · intro w' hw'
            have cf0 := (fun w' hw' => CD.out w' (HLW.out w' hw')) w' hw'
            go_simp
            try with_reducible rfl
          (try dsimp only [Act.put]); (try simp only [List.setIfInBounds_toArray, List.set_cons_zero, List.set_cons_succ])
          refine Held.take (i := 6) (some 99) rfl (v := ?_) rfl (by kernel_rfl) (by kernel_rfl) (by kernel_rfl) (fun _ _ _ h => h) (Or.inl ⟨by rfl, ?_⟩) hS ?_
          rotate_left
          · intro w' hw'
            go_simp
            try with_reducible rfl
          (try dsimp only [Act.put]); (try simp only [List.setIfInBounds_toArray, List.set_cons_zero, List.set_cons_succ])
          refine wpAnyH_ready (rs := [3]) (by kernel_rfl) (by simp) (AllReadyH.cons rfl (fun K hK => ?_) AllReadyH.nil)
          go_simp
          refine (st_puts (n := 8) (s := ⟨some ⟨tb, 105, none⟩, 8⟩) HSV.out HTT.out.cf (CFR.out V HSV.out.low) (by omega) 1).mono ?_
          rintro e V2 ⟨v2, rfl, hst, hb⟩
          have hq := hS.trans (hb.mono hS.size)
          have HSV2 := Lib.hid hst
          clear hS hb hst HSV
          rename World => V
          rename Value => v2
          have HSV := HSV2
          clear HSV2
          go_simp
          refine hK.out _ _ hq (fun hS => ?_)
          clear hK K hq
          (try dsimp only [Act.put]); (try simp only [List.setIfInBounds_toArray, List.set_cons_zero, List.set_cons_succ])
          refine wpAnyH_ready (rs := [7]) (by kernel_rfl) (by simp) (AllReadyH.cons rfl (fun K hK => ?_) AllReadyH.nil)
          go_simp
          refine (st_put HSV.out (by omega) 1 _).mono ?_
          rintro e V2 ⟨v2, rfl, hst, hb⟩
          have hq := hS.trans (hb.mono hS.size)
          have HSV2 := Lib.hid hst
          clear hS hb hst HSV
          rename World => V
          rename Value => v2
          have HSV := HSV2
          clear HSV2
          go_simp
          refine hK.out _ _ hq (fun hS => ?_)
          clear hK K hq
          (try dsimp only [Act.put]); (try simp only [List.setIfInBounds_toArray, List.set_cons_zero, List.set_cons_succ])
          refine Held.take (i := 8) (some 3) rfl (v := ?_) rfl (by kernel_rfl) (by kernel_rfl) (by kernel_rfl) (fun _ _ _ h => h) (Or.inl ⟨by rfl, ?_⟩) hS ?_
          rotate_left
          · intro w' hw'
            go_simp
            try with_reducible rfl
          (try dsimp only [Act.put]); (try simp only [List.setIfInBounds_toArray, List.set_cons_zero, List.set_cons_succ])
          refine wpAnyH_done (by kernel_rfl) ?_ _
          rename World => wv
          obtain ⟨L5, hL5⟩ : ∃ x, x = (L4 ++ puts (lim 1 8) T.conflict) ++ low (lim 1 8) (nD : Int) := ⟨_, rfl⟩
          have HSW : Hid (St u wv v2 L5 (1584 + 8 * 8 + 8)) := Lib.hid (by rw [hL5]; exact HSV.out)
          have EL5 := Lib.hid hL5
          clear HSV hL5 kg HGB G8
          obtain ⟨db, dof, HDB⟩ : ∃ b o, Hid (0 < nD → da = some ⟨b, o, none⟩) := by
            by_cases h0 : 0 < T.dets.length
            · obtain ⟨x, hx, hl⟩ := HTT.out.dets.at (List.getElem?_eq_getElem h0)
              rw [Nat.zero_mul, add_zero] at hl
              exact ⟨x.block, x.off, Lib.hid (fun _ => by rw [show da = some x from hx, ← Po.spot_of hl (by simp [Det.cells])])⟩
            · exact ⟨0, 0, Lib.hid (fun h1 => absurd h1 (by rw [ND.out]; exact h0))⟩
          go_wp2_with fail
          go_loopw [3, 8] (fun b i wr => ∃ q : Nat, q ≤ nD ∧ i = .int .i64 (q : Int) ∧ St u wr b (L5 ++ (List.range q).flatMap (fun q => detB (T.dets.getD q default))) (1656 + 56 * q)) (fun _ i _ => nD - (intOf i).toNat)
          case atStart => exact ⟨0, by omega, rfl, by simpa using HSW.out⟩
          case round =>
            obtain ⟨q, hq, rfl, hst⟩ := hrel
            have HST := Lib.hid hst
            clear hst HSW
            have kd := CD.out wr HST.out.low
            by_cases hlt : q < nD
            · obtain rfl : da = some ⟨db, dof, none⟩ := HDB.out (by omega)
              have hqd : q < T.dets.length := by rw [← ND.out]; exact hlt
              obtain ⟨x, hx, hl⟩ := HTT.out.dets.at (List.getElem?_eq_getElem hqd)
              obtain rfl := Option.some.inj hx
              rw [Po.add_none] at hl
              have hd0 : T.dets.getD q default = T.dets[q] := by simp [List.getD, List.getElem?_eq_getElem hqd]
              have HDQ : Hid ((List.range (q + 1)).flatMap (fun q => detB (T.dets.getD q default)) = (List.range q).flatMap (fun q => detB (T.dets.getD q default)) ++ detB T.dets[q]) := Lib.hid (by rw [List.range_succ, List.flatMap_append, List.flatMap_singleton, hd0])
              have HDL := Lib.hid (hl.below HST.out.low)
              clear hx hl hd0
              generalize T.dets[q] = d at HDQ HDL
              clear hqd
              generalize (List.range q).flatMap (fun q => detB (T.dets.getD q default)) = Gq at HST HDQ
              have ID : (Tryz.prog.info? 80).map (·.size) = some d.cells.length := infoD
              go_upto_region 22 with (first | (refine Row.wpList_load_lies rfl 80 _ rfl ⟨db, dof + q * 7, none⟩ rfl d.cells _ HDL.out Tryz.underlying80 rfl ID ?_) | (refine Row.wpList_store_new rfl 80 _ _ rfl _ _ d.cells.toArray rfl rfl rfl ID rfl (Det.one _) ?_))
              dsimp only [Act.put]
              (try simp only [List.setIfInBounds_toArray, List.set_cons_zero, List.set_cons_succ])
              have hst := HST.out.mem ((Below.refl _ _).alloc (Nat.le_refl _) (.cells d.cells.toArray 80))
              have hg := heap_alloc_new wr (.cells d.cells.toArray 80)
              generalize World.alloc wr _ = W1 at hst hg ⊢
              generalize wr.heap.size = gx at hg ⊢
              clear HST HDL kd
              have HST := Lib.hid hst
              have HG := Lib.hid hg
              clear hst hg
              have CX : Hid (∀ (j : Nat) (x : Value), d.cells[j]? = some x → ∀ W, Below W1.heap.size W1 W → W.cell? ⟨gx, j, none⟩ = some x) := Lib.hid (fun j x hx W hb => by rw [cell_of_row _ _ _ _ _ _ ((hb.block gx (Array.getElem?_eq_some_iff.1 HG.out).1).trans HG.out)]; simpa using hx)
              have HGL0 : Hid (gx < W1.heap.size) := Lib.hid (Array.getElem?_eq_some_iff.1 HG.out).1
              refine wp_region_held (S := fun w' => Below W1.heap.size W1 w') (by kernel_rfl) ?_
              have hS : Below W1.heap.size W1 { W1 with drawn := W1.drawn + 1 } := (Below.refl _ _).drew
              have hst := HST.out.mem hS
              generalize ({ W1 with drawn := W1.drawn + 1 } : World) = V at hS hst ⊢
              have HSV := Lib.hid hst
              clear hst HST
              refine Held.take (i := 0) (some 113) rfl (v := ?_) rfl (by kernel_rfl) (by kernel_rfl) (by kernel_rfl) (fun _ _ _ h => h) (Or.inl ⟨by rfl, ?_⟩) hS ?_
              rotate_left
              · intro w' hw'
                go_simp
                try with_reducible rfl
              (try dsimp only [Act.put]); (try simp only [List.setIfInBounds_toArray, List.set_cons_zero, List.set_cons_succ])
              refine Held.take (i := 1) (some 114) rfl (v := ?_) rfl (by kernel_rfl) (by kernel_rfl) (by kernel_rfl) (fun _ _ _ h => h) (Or.inl ⟨by rfl, ?_⟩) hS ?_
              rotate_left
              · intro w' hw'
                go_simp
                try with_reducible rfl
              (try dsimp only [Act.put]); (try simp only [List.setIfInBounds_toArray, List.set_cons_zero, List.set_cons_succ])
              refine Held.take (i := 2) (some 115) rfl (v := ?_) rfl (by kernel_rfl) (by kernel_rfl) (by kernel_rfl) (fun _ _ _ h => h) (Or.inl ⟨by rfl, ?_⟩) hS ?_
              rotate_left
              · intro w' hw'
                have cf0 := (CX.out 0 _ rfl) w' hw'
                go_simp
                try with_reducible rfl
              (try dsimp only [Act.put]); (try simp only [List.setIfInBounds_toArray, List.set_cons_zero, List.set_cons_succ])
              refine Held.take (i := 4) (some 117) rfl (v := ?_) rfl (by kernel_rfl) (by kernel_rfl) (by kernel_rfl) (fun _ _ _ h => h) (Or.inl ⟨by rfl, ?_⟩) hS ?_
              rotate_left
              · intro w' hw'
                go_simp
                try with_reducible rfl
              (try dsimp only [Act.put]); (try simp only [List.setIfInBounds_toArray, List.set_cons_zero, List.set_cons_succ])
              refine Held.take (i := 5) (some 118) rfl (v := ?_) rfl (by kernel_rfl) (by kernel_rfl) (by kernel_rfl) (fun _ _ _ h => h) (Or.inl ⟨by rfl, ?_⟩) hS ?_
              rotate_left
              · intro w' hw'
                have cf0 := (CX.out 1 _ rfl) w' hw'
                go_simp
                try with_reducible rfl
              (try dsimp only [Act.put]); (try simp only [List.setIfInBounds_toArray, List.set_cons_zero, List.set_cons_succ])
              refine Held.take (i := 7) (some 120) rfl (v := ?_) rfl (by kernel_rfl) (by kernel_rfl) (by kernel_rfl) (fun _ _ _ h => h) (Or.inl ⟨by rfl, ?_⟩) hS ?_
              rotate_left
              · intro w' hw'
                go_simp
                try with_reducible rfl
              (try dsimp only [Act.put]); (try simp only [List.setIfInBounds_toArray, List.set_cons_zero, List.set_cons_succ])
              refine Held.take (i := 8) (some 121) rfl (v := ?_) rfl (by kernel_rfl) (by kernel_rfl) (by kernel_rfl) (fun _ _ _ h => h) (Or.inl ⟨by rfl, ?_⟩) hS ?_
              rotate_left
              · intro w' hw'
                have cf0 := (CX.out 2 _ rfl) w' hw'
                go_simp
                try with_reducible rfl
              (try dsimp only [Act.put]); (try simp only [List.setIfInBounds_toArray, List.set_cons_zero, List.set_cons_succ])
              refine Held.take (i := 10) (some 123) rfl (v := ?_) rfl (by kernel_rfl) (by kernel_rfl) (by kernel_rfl) (fun _ _ _ h => h) (Or.inl ⟨by rfl, ?_⟩) hS ?_
              rotate_left
              · intro w' hw'
                go_simp
                try with_reducible rfl
              (try dsimp only [Act.put]); (try simp only [List.setIfInBounds_toArray, List.set_cons_zero, List.set_cons_succ])
              refine Held.take (i := 11) (some 124) rfl (v := ?_) rfl (by kernel_rfl) (by kernel_rfl) (by kernel_rfl) (fun _ _ _ h => h) (Or.inl ⟨by rfl, ?_⟩) hS ?_
              rotate_left
              · intro w' hw'
                have cf0 := (CX.out 3 _ rfl) w' hw'
                go_simp
                try with_reducible rfl
              (try dsimp only [Act.put]); (try simp only [List.setIfInBounds_toArray, List.set_cons_zero, List.set_cons_succ])
              refine Held.take (i := 13) (some 126) rfl (v := ?_) rfl (by kernel_rfl) (by kernel_rfl) (by kernel_rfl) (fun _ _ _ h => h) (Or.inl ⟨by rfl, ?_⟩) hS ?_
              rotate_left
              · intro w' hw'
                go_simp
                try with_reducible rfl
              (try dsimp only [Act.put]); (try simp only [List.setIfInBounds_toArray, List.set_cons_zero, List.set_cons_succ])
              refine Held.take (i := 14) (some 127) rfl (v := ?_) rfl (by kernel_rfl) (by kernel_rfl) (by kernel_rfl) (fun _ _ _ h => h) (Or.inl ⟨by rfl, ?_⟩) hS ?_
              rotate_left
              · intro w' hw'
                have cf0 := (CX.out 4 _ rfl) w' hw'
                go_simp
                try with_reducible rfl
              (try dsimp only [Act.put]); (try simp only [List.setIfInBounds_toArray, List.set_cons_zero, List.set_cons_succ])
              refine wpAnyH_ready (rs := [3]) (by kernel_rfl) (by simp) (AllReadyH.cons rfl (fun K hK => ?_) AllReadyH.nil)
              go_simp
              refine (st_put HSV.out (by omega) 1 _).mono ?_
              rintro e V2 ⟨v2, rfl, hst, hb⟩
              have hq := hS.trans (hb.mono hS.size)
              have HSV2 := Lib.hid hst
              clear hS hb hst HSV
              rename World => V
              rename Value => v2
              have HSV := HSV2
              clear HSV2
              go_simp
              refine hK.out _ _ hq (fun hS => ?_)
              clear hK K hq
              (try dsimp only [Act.put]); (try simp only [List.setIfInBounds_toArray, List.set_cons_zero, List.set_cons_succ])
              refine wpAnyH_ready (rs := [6]) (by kernel_rfl) (by simp) (AllReadyH.cons rfl (fun K hK => ?_) AllReadyH.nil)
              go_simp
              refine (st_putf HSV.out (by omega) _).mono ?_
              rintro e V2 ⟨v2, rfl, hst, hb⟩
              have hq := hS.trans (hb.mono hS.size)
              have HSV2 := Lib.hid hst
              clear hS hb hst HSV
              rename World => V
              rename Value => v2
              have HSV := HSV2
              clear HSV2
              go_simp
              refine hK.out _ _ hq (fun hS => ?_)
              clear hK K hq
              (try dsimp only [Act.put]); (try simp only [List.setIfInBounds_toArray, List.set_cons_zero, List.set_cons_succ])
              refine wpAnyH_ready (rs := [9]) (by kernel_rfl) (by simp) (AllReadyH.cons rfl (fun K hK => ?_) AllReadyH.nil)
              go_simp
              refine (st_putf HSV.out (by omega) _).mono ?_
              rintro e V2 ⟨v2, rfl, hst, hb⟩
              have hq := hS.trans (hb.mono hS.size)
              have HSV2 := Lib.hid hst
              clear hS hb hst HSV
              rename World => V
              rename Value => v2
              have HSV := HSV2
              clear HSV2
              go_simp
              refine hK.out _ _ hq (fun hS => ?_)
              clear hK K hq
              (try dsimp only [Act.put]); (try simp only [List.setIfInBounds_toArray, List.set_cons_zero, List.set_cons_succ])
              refine wpAnyH_ready (rs := [12]) (by kernel_rfl) (by simp) (AllReadyH.cons rfl (fun K hK => ?_) AllReadyH.nil)
              go_simp
              refine (st_putf HSV.out (by omega) _).mono ?_
              rintro e V2 ⟨v2, rfl, hst, hb⟩
              have hq := hS.trans (hb.mono hS.size)
              have HSV2 := Lib.hid hst
              clear hS hb hst HSV
              rename World => V
              rename Value => v2
              have HSV := HSV2
              clear HSV2
              go_simp
              refine hK.out _ _ hq (fun hS => ?_)
              clear hK K hq
              (try dsimp only [Act.put]); (try simp only [List.setIfInBounds_toArray, List.set_cons_zero, List.set_cons_succ])
              refine wpAnyH_ready (rs := [15]) (by kernel_rfl) (by simp) (AllReadyH.cons rfl (fun K hK => ?_) AllReadyH.nil)
              go_simp
              refine (st_putf HSV.out (by omega) _).mono ?_
              rintro e V2 ⟨v2, rfl, hst, hb⟩
              have hq := hS.trans (hb.mono hS.size)
              have HSV2 := Lib.hid hst
              clear hS hb hst HSV
              rename World => V
              rename Value => v2
              have HSV := HSV2
              clear HSV2
              go_simp
              refine hK.out _ _ hq (fun hS => ?_)
              clear hK K hq
              (try dsimp only [Act.put]); (try simp only [List.setIfInBounds_toArray, List.set_cons_zero, List.set_cons_succ])
              refine Held.take (i := 16) (some 3) rfl (v := ?_) rfl (by kernel_rfl) (by kernel_rfl) (by kernel_rfl) (fun _ _ _ h => h) (Or.inl ⟨by rfl, ?_⟩) hS ?_
              rotate_left
              · intro w' hw'
                go_simp
                try with_reducible rfl
              (try dsimp only [Act.put]); (try simp only [List.setIfInBounds_toArray, List.set_cons_zero, List.set_cons_succ])
              refine wpAnyH_done (by kernel_rfl) ?_ _
              rename World => W7
              have k5 := CX.out 5 _ rfl W7 hS
              have k6 := CX.out 6 _ rfl W7 hS
              clear CX hS
              go_wp2_with fail
              refine (st_puts (n := 2) (xs := [d.maxOn, d.maxOff]) (s := ⟨some ⟨W7.heap.size, 0, none⟩, 2⟩) (HSV.out.mem ((Below.refl _ _).alloc (Nat.le_refl _) _)) rfl (May.row_new W7 3 [d.maxOn, d.maxOff] 2 rfl (by decide) _ rfl) (by omega) 2).mono ?_
              rintro e W8 ⟨v8, rfl, hst, hb⟩
              have HS8 := Lib.hid hst
              clear hst hb HSV k5 k6
              go_wp2
              go_roundw
              case rel => exact ⟨q + 1, by omega, by go_num, by
                have := HS8.out
                rw [HDQ.out]
                have e : (((((L5 ++ Gq) ++ low (lim 1 8) d.phase) ++ low 8 d.on) ++ low 8 d.off) ++ low 8 d.delay) ++ low 8 d.extend ++ puts (lim 2 8) [d.maxOn, d.maxOff] = L5 ++ (Gq ++ detB d) := by
                  simp only [List.append_assoc, detB, show lim 1 8 = 1 from rfl, show lim 2 8 = 2 from rfl]
                rw [e] at this
                exact ⟨this.bv, this.low, by have := this.len; omega⟩⟩
              case measure => simp [intOf]; omega
            · obtain rfl : nD = q := by omega
              obtain ⟨L6, hL6⟩ : ∃ x, x = L5 ++ T.dets.flatMap detB := ⟨_, rfl⟩
              have hst : St u wr u3 L6 2600 := by
                have := HST.out
                rw [show (List.range nD).flatMap (fun q => detB (T.dets.getD q default)) = T.dets.flatMap detB from by rw [ND.out]; exact range_flat detB default T.dets, ← hL6] at this
                exact ⟨this.bv, this.low, by have := this.len; omega⟩
              have EL6 := Lib.hid hL6
              clear HST hL6
              have HST := Lib.hid hst
              clear hst
              have kr := CR.out wr HST.out.low
              go_wp2_with fail
              clear kd
              refine (st_put HST.out (by omega) 1 _).mono ?_
              rintro e W6b ⟨v6b, rfl, hst, hb⟩
              obtain ⟨L7, hL7⟩ : ∃ x, x = L6 ++ low (lim 1 8) (nR : Int) := ⟨_, rfl⟩
              rw [← hL7] at hst
              have EL7 := Lib.hid hL7
              have HS7 := Lib.hid hst
              clear hL7 hst hb HST kr HDB
              obtain ⟨rb, rof, HRB⟩ : ∃ b o, Hid (0 < nR → ra = some ⟨b, o, none⟩) := by
                by_cases h0 : 0 < T.rails.length
                · obtain ⟨x, hx, hl⟩ := HTT.out.rails.at (List.getElem?_eq_getElem h0)
                  rw [Nat.zero_mul, add_zero] at hl
                  exact ⟨x.block, x.off, Lib.hid (fun _ => by rw [show ra = some x from hx, ← Po.spot_of hl (by simp [Rl.cells])])⟩
                · exact ⟨0, 0, Lib.hid (fun h1 => absurd h1 (by rw [NR.out]; exact h0))⟩
              go_wp2_with fail
              go_loopw [3, 10] (fun b i wr => ∃ q : Nat, q ≤ nR ∧ i = .int .i64 (q : Int) ∧ St u wr b (L7 ++ (List.range q).flatMap (fun q => rlB (T.rails.getD q default))) (2608 + 88 * q)) (fun _ i _ => nR - (intOf i).toNat)
              case atStart => exact ⟨0, by omega, rfl, by simpa using HS7.out⟩
              case round =>
                obtain ⟨q, hq, rfl, hst⟩ := hrel
                have HST := Lib.hid hst
                clear hst HS7
                have kr := CR.out wr HST.out.low
                by_cases hlt : q < nR
                · obtain rfl : ra = some ⟨rb, rof, none⟩ := HRB.out (by omega)
                  have hqd : q < T.rails.length := by rw [← NR.out]; exact hlt
                  obtain ⟨x, hx, hl⟩ := HTT.out.rails.at (List.getElem?_eq_getElem hqd)
                  obtain rfl := Option.some.inj hx
                  rw [Po.add_none] at hl
                  have hd0 : T.rails.getD q default = T.rails[q] := by simp [List.getD, List.getElem?_eq_getElem hqd]
                  have HDQ : Hid ((List.range (q + 1)).flatMap (fun q => rlB (T.rails.getD q default)) = (List.range q).flatMap (fun q => rlB (T.rails.getD q default)) ++ rlB T.rails[q]) := Lib.hid (by rw [List.range_succ, List.flatMap_append, List.flatMap_singleton, hd0])
                  have HDL := Lib.hid (hl.below HST.out.low)
                  clear hx hl hd0
                  generalize T.rails[q] = d at HDQ HDL
                  clear hqd
                  generalize (List.range q).flatMap (fun q => rlB (T.rails.getD q default)) = Gq at HST HDQ
                  have ID : (Tryz.prog.info? 84).map (·.size) = some d.cells.length := infoR
                  go_upto_region 29 with (first | (refine Row.wpList_load_lies rfl 84 _ rfl ⟨rb, rof + q * 11, none⟩ rfl d.cells _ HDL.out Tryz.underlying84 rfl ID ?_) | (refine Row.wpList_store_new rfl 84 _ _ rfl _ _ d.cells.toArray rfl rfl rfl ID rfl (Rl.one _) ?_))
                  dsimp only [Act.put]
                  (try simp only [List.setIfInBounds_toArray, List.set_cons_zero, List.set_cons_succ])
                  have hst := HST.out.mem ((Below.refl _ _).alloc (Nat.le_refl _) (.cells d.cells.toArray 84))
                  have hg := heap_alloc_new wr (.cells d.cells.toArray 84)
                  generalize World.alloc wr _ = W1 at hst hg ⊢
                  generalize wr.heap.size = gx at hg ⊢
                  clear HST HDL kr
                  have HST := Lib.hid hst
                  have HG := Lib.hid hg
                  clear hst hg
                  have CX : Hid (∀ (j : Nat) (x : Value), d.cells[j]? = some x → ∀ W, Below W1.heap.size W1 W → W.cell? ⟨gx, j, none⟩ = some x) := Lib.hid (fun j x hx W hb => by rw [cell_of_row _ _ _ _ _ _ ((hb.block gx (Array.getElem?_eq_some_iff.1 HG.out).1).trans HG.out)]; simpa using hx)
                  have k0 := CX.out 0 _ rfl W1 (Below.refl _ _)
                  have k1 := CX.out 1 _ rfl W1 (Below.refl _ _)
                  have k2 := CX.out 2 _ rfl W1 (Below.refl _ _)
                  have k3 := CX.out 3 _ rfl W1 (Below.refl _ _)
                  go_wp2_with fail
                  refine (st_puts (n := 4) (xs := [d.bars, d.clear, d.dwell, d.exit]) (s := ⟨some ⟨W1.heap.size, 0, none⟩, 4⟩) (HST.out.mem ((Below.refl _ _).alloc (Nat.le_refl _) _)) rfl (May.row_new W1 3 [d.bars, d.clear, d.dwell, d.exit] 4 rfl (by decide) _ rfl) (by omega) 1).mono ?_
                  rintro e W2 ⟨v2, rfl, hst, hb⟩
                  have HS2 := Lib.hid hst
                  have hb2 : Below W1.heap.size W1 W2 := ((Below.refl _ _).alloc (Nat.le_refl _) _).trans (hb.mono (by simp))
                  have HB2 := Lib.hid hb2
                  clear hst hb hb2 HST k0 k1 k2 k3
                  have k4 := CX.out 4 _ rfl W2 HB2.out
                  have k5 := CX.out 5 _ rfl W2 HB2.out
                  have k6 := CX.out 6 _ rfl W2 HB2.out
                  have k7 := CX.out 7 _ rfl W2 HB2.out
                  have k8 := CX.out 8 _ rfl W2 HB2.out
                  have k9 := CX.out 9 _ rfl W2 HB2.out
                  go_wp2_with fail
                  refine (st_puts (n := 6) (xs := [d.delay, d.green, d.foot, d.hold, d.stay, d.most]) (s := ⟨some ⟨W2.heap.size, 0, none⟩, 6⟩) (HS2.out.mem ((Below.refl _ _).alloc (Nat.le_refl _) _)) rfl (May.row_new W2 3 [d.delay, d.green, d.foot, d.hold, d.stay, d.most] 6 rfl (by decide) _ rfl) (by omega) 2).mono ?_
                  rintro e W3 ⟨v3, rfl, hst, hb⟩
                  have HS3 := Lib.hid hst
                  have hb3 : Below W2.heap.size W2 W3 := ((Below.refl _ _).alloc (Nat.le_refl _) _).trans (hb.mono (by simp))
                  have HB3 := Lib.hid (HB2.out.trans (hb3.mono HB2.out.size))
                  clear hst hb hb3 HS2 k4 k5 k6 k7 k8 k9 HB2
                  have k10 := CX.out 10 _ rfl W3 HB3.out
                  go_wp2_with fail
                  refine (st_put HS3.out (by omega) 4 _).mono ?_
                  rintro e W8 ⟨v8, rfl, hst, hb⟩
                  have HS8 := Lib.hid hst
                  clear hst hb HS3 k10 CX
                  go_wp2
                  go_roundw
                  case rel => exact ⟨q + 1, by omega, by go_num, by
                    have := HS8.out
                    rw [HDQ.out]
                    have e : (((L7 ++ Gq) ++ puts (lim 1 8) [d.bars, d.clear, d.dwell, d.exit]) ++ puts (lim 2 8) [d.delay, d.green, d.foot, d.hold, d.stay, d.most]) ++ low (lim 4 8) d.limit = L7 ++ (Gq ++ rlB d) := by
                      simp only [List.append_assoc, rlB, show lim 1 8 = 1 from rfl, show lim 2 8 = 2 from rfl, show lim 4 8 = 4 from rfl]
                      simp [puts]
                    rw [e] at this
                    exact ⟨this.bv, this.low, by have := this.len; omega⟩⟩
                  case measure => simp [intOf]; omega
                · obtain rfl : nR = q := by omega
                  obtain ⟨L8, hL8⟩ : ∃ x, x = L7 ++ T.rails.flatMap rlB := ⟨_, rfl⟩
                  have hst : St u wr u3 L8 3000 := by
                    have := HST.out
                    rw [show (List.range nR).flatMap (fun q => rlB (T.rails.getD q default)) = T.rails.flatMap rlB from by rw [NR.out]; exact range_flat rlB default T.rails, ← hL8] at this
                    exact ⟨this.bv, this.low, by have := this.len; omega⟩
                  have EL8 := Lib.hid hL8
                  clear HST hL8
                  have HST := Lib.hid hst
                  clear hst
                  have ks := CS.out wr HST.out.low
                  go_wp2_with fail
                  clear kr
                  refine (st_put HST.out (by omega) 1 _).mono ?_
                  rintro e W6c ⟨v6c, rfl, hst, hb⟩
                  obtain ⟨L9, hL9⟩ : ∃ x, x = L8 ++ low (lim 1 8) (nS : Int) := ⟨_, rfl⟩
                  rw [← hL9] at hst
                  have EL9 := Lib.hid hL9
                  have HS9 := Lib.hid hst
                  clear hL9 hst hb HST ks HRB
                  obtain ⟨sb, sof, HSB⟩ : ∃ b o, Hid (0 < nS → sa = some ⟨b, o, none⟩) := by
                    by_cases h0 : 0 < T.buses.length
                    · obtain ⟨x, hx, hl⟩ := HTT.out.buses.at (List.getElem?_eq_getElem h0)
                      rw [Nat.zero_mul, add_zero] at hl
                      exact ⟨x.block, x.off, Lib.hid (fun _ => by rw [show sa = some x from hx, ← Po.spot_of hl (by simp [Bs.cells])])⟩
                    · exact ⟨0, 0, Lib.hid (fun h1 => absurd h1 (by rw [NS.out]; exact h0))⟩
                  go_wp2_with fail
                  go_loopw [3, 12] (fun b i wr => ∃ q : Nat, q ≤ nS ∧ i = .int .i64 (q : Int) ∧ St u wr b (L9 ++ (List.range q).flatMap (fun q => bsB (T.buses.getD q default))) (3008 + 16 * q)) (fun _ i _ => nS - (intOf i).toNat)
                  case atStart => exact ⟨0, by omega, rfl, by simpa using HS9.out⟩
                  case round =>
                    obtain ⟨q, hq, rfl, hst⟩ := hrel
                    have HST := Lib.hid hst
                    clear hst HS9
                    have ks := CS.out wr HST.out.low
                    by_cases hlt : q < nS
                    · obtain rfl : sa = some ⟨sb, sof, none⟩ := HSB.out (by omega)
                      have hqd : q < T.buses.length := by rw [← NS.out]; exact hlt
                      obtain ⟨x, hx, hl⟩ := HTT.out.buses.at (List.getElem?_eq_getElem hqd)
                      obtain rfl := Option.some.inj hx
                      rw [Po.add_none] at hl
                      have hd0 : T.buses.getD q default = T.buses[q] := by simp [List.getD, List.getElem?_eq_getElem hqd]
                      have HDQ : Hid ((List.range (q + 1)).flatMap (fun q => bsB (T.buses.getD q default)) = (List.range q).flatMap (fun q => bsB (T.buses.getD q default)) ++ bsB T.buses[q]) := Lib.hid (by rw [List.range_succ, List.flatMap_append, List.flatMap_singleton, hd0])
                      have c0 := hl 0 _ rfl
                      have c1 := hl 1 _ rfl
                      rw [Po.add_none] at c0 c1
                      have C0 : Hid (∀ W, Below u.heap.size u W → W.cell? ⟨sb, sof + q * 2, none⟩ = some (I (T.buses[q]).set)) := Lib.hid (fun W hb => (hb.cell (World.block_lt_of_cell? u _ c0)).trans c0)
                      have C1 : Hid (∀ W, Below u.heap.size u W → W.cell? ⟨sb, sof + q * 2 + 1, none⟩ = some (I (T.buses[q]).lock)) := Lib.hid (fun W hb => (hb.cell (World.block_lt_of_cell? u _ c1)).trans c1)
                      clear hx hl hd0 c0 c1
                      generalize T.buses[q] = d at HDQ C0 C1
                      clear hqd
                      generalize (List.range q).flatMap (fun q => bsB (T.buses.getD q default)) = Gq at HST HDQ
                      have HLW : Hid (∀ W, Below wr.heap.size wr W → Below u.heap.size u W) := Lib.hid (fun W hb => HST.out.low.trans (hb.mono HST.out.low.size))
                      go_upto_region 36 with fail
                      clear ks
                      refine wp_region_held (S := fun w' => Below wr.heap.size wr w') (by kernel_rfl) ?_
                      have hS : Below wr.heap.size wr { wr with drawn := wr.drawn + 1 } := (Below.refl _ _).drew
                      have hst := HST.out.mem hS
                      generalize ({ wr with drawn := wr.drawn + 1 } : World) = V at hS hst ⊢
                      have HSV := Lib.hid hst
                      clear hst HST
                      refine Held.take (i := 0) (some 195) rfl (v := ?_) rfl (by kernel_rfl) (by kernel_rfl) (by kernel_rfl) (fun _ _ _ h => h) (Or.inl ⟨by rfl, ?_⟩) hS ?_
                      rotate_left
                      · intro w' hw'
                        go_simp
                        try with_reducible rfl
                      (try dsimp only [Act.put]); (try simp only [List.setIfInBounds_toArray, List.set_cons_zero, List.set_cons_succ])
                      refine Held.take (i := 1) (some 196) rfl (v := ?_) rfl (by kernel_rfl) (by kernel_rfl) (by kernel_rfl) (fun _ _ _ h => h) (Or.inl ⟨by rfl, ?_⟩) hS ?_
                      rotate_left
                      · intro w' hw'
                        go_simp
                        try with_reducible rfl
                      (try dsimp only [Act.put]); (try simp only [List.setIfInBounds_toArray, List.set_cons_zero, List.set_cons_succ])
                      refine Held.take (i := 2) (some 197) rfl (v := ?_) rfl (by kernel_rfl) (by kernel_rfl) (by kernel_rfl) (fun _ _ _ h => h) (Or.inl ⟨by rfl, ?_⟩) hS ?_
                      rotate_left
                      · intro w' hw'
                        have cf0 := (fun w' hw' => CS.out w' (HLW.out w' hw')) w' hw'
                        go_simp
                        try with_reducible rfl
                      (try dsimp only [Act.put]); (try simp only [List.setIfInBounds_toArray, List.set_cons_zero, List.set_cons_succ])
                      refine Held.take (i := 3) (some 198) rfl (v := ?_) rfl (by kernel_rfl) (by kernel_rfl) (by kernel_rfl) (fun _ _ _ h => h) (Or.inl ⟨by rfl, ?_⟩) hS ?_
                      rotate_left
                      · intro w' hw'
                        go_simp
                        try with_reducible rfl
                      (try dsimp only [Act.put]); (try simp only [List.setIfInBounds_toArray, List.set_cons_zero, List.set_cons_succ])
                      refine Held.take (i := 4) (some 199) rfl (v := ?_) rfl (by kernel_rfl) (by kernel_rfl) (by kernel_rfl) (fun _ _ _ h => h) (Or.inl ⟨by rfl, ?_⟩) hS ?_
                      rotate_left
                      · intro w' hw'
                        go_simp
                        try with_reducible rfl
                      (try dsimp only [Act.put]); (try simp only [List.setIfInBounds_toArray, List.set_cons_zero, List.set_cons_succ])
                      refine Held.take (i := 5) (some 200) rfl (v := ?_) rfl (by kernel_rfl) (by kernel_rfl) (by kernel_rfl) (fun _ _ _ h => h) (Or.inl ⟨by rfl, ?_⟩) hS ?_
                      rotate_left
                      · intro w' hw'
                        go_simp
                        try with_reducible rfl
                      (try dsimp only [Act.put]); (try simp only [List.setIfInBounds_toArray, List.set_cons_zero, List.set_cons_succ])
                      refine Held.take (i := 6) (some 201) rfl (v := ?_) rfl (by kernel_rfl) (by kernel_rfl) (by kernel_rfl) (fun _ _ _ h => h) (Or.inl ⟨by rfl, ?_⟩) hS ?_
                      rotate_left
                      · intro w' hw'
                        have cf0 := (fun w' hw' => C0.out w' (HLW.out w' hw')) w' hw'
                        go_simp
                        try with_reducible rfl
                      (try dsimp only [Act.put]); (try simp only [List.setIfInBounds_toArray, List.set_cons_zero, List.set_cons_succ])
                      refine Held.take (i := 8) (some 203) rfl (v := ?_) rfl (by kernel_rfl) (by kernel_rfl) (by kernel_rfl) (fun _ _ _ h => h) (Or.inl ⟨by rfl, ?_⟩) hS ?_
                      rotate_left
                      · intro w' hw'
                        go_simp
                        try with_reducible rfl
                      (try dsimp only [Act.put]); (try simp only [List.setIfInBounds_toArray, List.set_cons_zero, List.set_cons_succ])
                      refine Held.take (i := 9) (some 204) rfl (v := ?_) rfl (by kernel_rfl) (by kernel_rfl) (by kernel_rfl) (fun _ _ _ h => h) (Or.inl ⟨by rfl, ?_⟩) hS ?_
                      rotate_left
                      · intro w' hw'
                        have cf0 := (fun w' hw' => CS.out w' (HLW.out w' hw')) w' hw'
                        go_simp
                        try with_reducible rfl
                      (try dsimp only [Act.put]); (try simp only [List.setIfInBounds_toArray, List.set_cons_zero, List.set_cons_succ])
                      refine Held.take (i := 10) (some 205) rfl (v := ?_) rfl (by kernel_rfl) (by kernel_rfl) (by kernel_rfl) (fun _ _ _ h => h) (Or.inl ⟨by rfl, ?_⟩) hS ?_
                      rotate_left
                      · intro w' hw'
                        go_simp
                        try with_reducible rfl
                      (try dsimp only [Act.put]); (try simp only [List.setIfInBounds_toArray, List.set_cons_zero, List.set_cons_succ])
                      refine Held.take (i := 11) (some 206) rfl (v := ?_) rfl (by kernel_rfl) (by kernel_rfl) (by kernel_rfl) (fun _ _ _ h => h) (Or.inl ⟨by rfl, ?_⟩) hS ?_
                      rotate_left
                      · intro w' hw'
                        go_simp
                        try with_reducible rfl
                      (try dsimp only [Act.put]); (try simp only [List.setIfInBounds_toArray, List.set_cons_zero, List.set_cons_succ])
                      refine Held.take (i := 12) (some 207) rfl (v := ?_) rfl (by kernel_rfl) (by kernel_rfl) (by kernel_rfl) (fun _ _ _ h => h) (Or.inl ⟨by rfl, ?_⟩) hS ?_
                      rotate_left
                      · intro w' hw'
                        go_simp
                        try with_reducible rfl
                      (try dsimp only [Act.put]); (try simp only [List.setIfInBounds_toArray, List.set_cons_zero, List.set_cons_succ])
                      refine Held.take (i := 13) (some 208) rfl (v := ?_) rfl (by kernel_rfl) (by kernel_rfl) (by kernel_rfl) (fun _ _ _ h => h) (Or.inl ⟨by rfl, ?_⟩) hS ?_
                      rotate_left
                      · intro w' hw'
                        have cf0 := (fun w' hw' => C1.out w' (HLW.out w' hw')) w' hw'
                        go_simp
                        try with_reducible rfl
                      (try dsimp only [Act.put]); (try simp only [List.setIfInBounds_toArray, List.set_cons_zero, List.set_cons_succ])
                      refine wpAnyH_ready (rs := [7]) (by kernel_rfl) (by simp) (AllReadyH.cons rfl (fun K hK => ?_) AllReadyH.nil)
                      go_simp
                      refine (st_put HSV.out (by omega) 1 _).mono ?_
                      rintro e V2 ⟨v2, rfl, hst, hb⟩
                      have hq := hS.trans (hb.mono hS.size)
                      have HSV2 := Lib.hid hst
                      clear hS hb hst HSV
                      rename World => V
                      rename Value => v2
                      have HSV := HSV2
                      clear HSV2
                      go_simp
                      refine hK.out _ _ hq (fun hS => ?_)
                      clear hK K hq
                      (try dsimp only [Act.put]); (try simp only [List.setIfInBounds_toArray, List.set_cons_zero, List.set_cons_succ])
                      refine wpAnyH_ready (rs := [14]) (by kernel_rfl) (by simp) (AllReadyH.cons rfl (fun K hK => ?_) AllReadyH.nil)
                      go_simp
                      refine (st_put HSV.out (by omega) 2 _).mono ?_
                      rintro e V2 ⟨v2, rfl, hst, hb⟩
                      have hq := hS.trans (hb.mono hS.size)
                      have HSV2 := Lib.hid hst
                      clear hS hb hst HSV
                      rename World => V
                      rename Value => v2
                      have HSV := HSV2
                      clear HSV2
                      go_simp
                      refine hK.out _ _ hq (fun hS => ?_)
                      clear hK K hq
                      (try dsimp only [Act.put]); (try simp only [List.setIfInBounds_toArray, List.set_cons_zero, List.set_cons_succ])
                      refine Held.take (i := 15) (some 3) rfl (v := ?_) rfl (by kernel_rfl) (by kernel_rfl) (by kernel_rfl) (fun _ _ _ h => h) (Or.inl ⟨by rfl, ?_⟩) hS ?_
                      rotate_left
                      · intro w' hw'
                        go_simp
                        try with_reducible rfl
                      (try dsimp only [Act.put]); (try simp only [List.setIfInBounds_toArray, List.set_cons_zero, List.set_cons_succ])
                      refine wpAnyH_done (by kernel_rfl) ?_ _
                      go_wp2
                      go_roundw
                      case rel => exact ⟨q + 1, by omega, by go_num, by
                        have := HSV.out
                        rw [HDQ.out]
                        have e : ((L9 ++ Gq) ++ low (lim 1 8) d.set) ++ low (lim 2 8) d.lock = L9 ++ (Gq ++ bsB d) := by
                          simp only [List.append_assoc, bsB, show lim 1 8 = 1 from rfl, show lim 2 8 = 2 from rfl]
                          simp [puts]
                        rw [e] at this
                        exact ⟨this.bv, this.low, by have := this.len; omega⟩⟩
                      case measure => simp [intOf]; omega
                    · obtain rfl : nS = q := by omega
                      obtain ⟨L10, hL10⟩ : ∃ x, x = L9 ++ T.buses.flatMap bsB := ⟨_, rfl⟩
                      have hst : St u wr u3 L10 3100 := by
                        have := HST.out
                        rw [show (List.range nS).flatMap (fun q => bsB (T.buses.getD q default)) = T.buses.flatMap bsB from by rw [NS.out]; exact range_flat bsB default T.buses, ← hL10] at this
                        exact ⟨this.bv, this.low, by have := this.len; omega⟩
                      have EL10 := Lib.hid hL10
                      clear HST hL10
                      have HST := Lib.hid hst
                      clear hst
                      have e6 := CL.out 116 _ HC.out.extend wr HST.out.low
                      have e7 := CL.out 117 _ HC.out.budget wr HST.out.low
                      have e8 := CL.out 118 _ HC.out.start wr HST.out.low
                      have e9 := CL.out 119 _ HC.out.revert wr HST.out.low
                      have e10 := CL.out 120 _ HC.out.least wr HST.out.low
                      go_wp2_with fail
                      clear ks
                      refine (st_puts (n := 5) (xs := [T.extend, T.budget, T.start, T.revert, T.least]) (s := ⟨some ⟨wr.heap.size, 0, none⟩, 5⟩) (HST.out.mem ((Below.refl _ _).alloc (Nat.le_refl _) _)) rfl (May.row_new wr 3 [T.extend, T.budget, T.start, T.revert, T.least] 5 rfl (by decide) _ rfl) (by omega) 2).mono ?_
                      rintro e W11 ⟨v11, rfl, hst, hb⟩
                      have HS11 := Lib.hid hst
                      clear hst hb HST e6 e7 e8 e9 e10
                      go_wp2_with fail
                      refine (st_puts (n := 8) (xs := T.flash) (s := ⟨some ⟨tb, 121, none⟩, 8⟩) HS11.out HTT.out.fl (May.ints_in ((HS11.out.low.block tb (Array.getElem?_eq_some_iff.1 HBX.out).1).trans HBX.out) 121 8 T.flash HC.out.flash HTT.out.fl (by decide)) (by omega) 1).mono ?_
                      rintro e W12 ⟨v12, rfl, hst, hb⟩
                      have HS12 := Lib.hid hst
                      clear hst hb HS11
                      have e12 := CL.out 129 _ HC.out.window W12 HS12.out.low
                      have e13 := CL.out 130 _ HC.out.share W12 HS12.out.low
                      go_wp2_with fail
                      refine (st_puts (n := 2) (xs := [T.window, T.share]) (s := ⟨some ⟨W12.heap.size, 0, none⟩, 2⟩) (HS12.out.mem ((Below.refl _ _).alloc (Nat.le_refl _) _)) rfl (May.row_new W12 3 [T.window, T.share] 2 rfl (by decide) _ rfl) (by omega) 4).mono ?_
                      rintro e W13 ⟨v13, rfl, hst, hb⟩
                      have HS13 := Lib.hid hst
                      clear hst hb HS12 e12 e13
                      go_wp2
                      go_ret
                      refine ⟨_, rfl, ?_, HB0.out.trans (HS13.out.low.mono HB0.out.size)⟩
                      have hbv := HS13.out.bv
                      have e : Cd.bodyB T = ((L10 ++ puts (lim 2 8) [T.extend, T.budget, T.start, T.revert, T.least]) ++ puts (lim 1 8) T.flash) ++ puts (lim 4 8) [T.window, T.share] := by
                        rw [EL10.out, EL9.out, EL8.out, EL7.out, EL6.out, EL5.out, EL4.out, EL2.out, EL1.out, NG.out, ND.out, NR.out, NS.out]
                        simp only [List.append_assoc, Cd.bodyB, Cd.itemsB, listB, show lim 1 8 = 1 from rfl, show lim 2 8 = 2 from rfl, show lim 4 8 = 4 from rfl]
                      rw [e]
                      exact hbv
end Rb
namespace Rb
open Go Go.RowKit Go.ChangeShapes
open Tab
open Put (low lim)
theorem seal_any {W : World} {v : Value} {l : List Nat} (h : Bv W v l) (hl : l.length ≤ 9000) :
    Calls Tryz.prog 16 #[v] W fun e W' => ∃ v', e = .returned v' ∧ Bv W' v' (Cd.sealB l) ∧ Below W.heap.size W W' := by
  obtain ⟨cr, hcr⟩ : ∃ n : Nat, CrcM.crc 65535 l = n := ⟨_, rfl⟩
  have hcr2 : cr < 65536 := by rw [← hcr]; exact CrcM.crc_lt _ _ (by decide)
  have SL : Hid (Cd.sealB l = l ++ low (lim 2 8) (cr : Int)) := Lib.hid (by unfold Cd.sealB; rw [hcr]; rfl)
  have HP := Lib.hid (rput h (by omega) 2 (cr : Int))
  obtain ⟨a, cap, rfl, hr, hn⟩ := h.row
  have CC : Hid (Calls Tryz.prog 37 #[.int .u16 65535, .slice a l.length cap] W fun e w' => e = .returned (.int .u16 (cr : Int)) ∧ W = w') := Lib.hid (by have := Crc.ref_any 65535 (by decide) a cap l W hr; rw [hcr] at this; exact this)
  have ew : wrap64 (cr : Int) = cr := IntWalk.wrap64_in _ (by omega)
  have ew2 : IntKind.i64.wrap (cr : Int) = cr := by rw [IntKind.wrap_i64]; omega
  generalize l.length = n at HP CC hl ⊢
  clear h hr hn hcr
  go_enter Tryz.func16, Tryz.ntmps16
  go_wp2_with (go_at_call 37; refine CC.out.mono ?_; rintro e w' ⟨rfl, rfl⟩)
  refine HP.out.mono ?_
  rintro e w' ⟨v', rfl, hb, hw⟩
  have HB := Lib.hid hb
  have HW := Lib.hid hw
  clear hb hw
  go_wp2
  go_ret
  exact ⟨_, rfl, by rw [SL.out]; exact HB.out, HW.out⟩
theorem renc_bad {T : Tab} {hd : Hd} {w : World} (ht : IsTab w hd T) (hm : May.tabMay T = false) :
    Calls Tryz.prog 12 #[.agg (T.cells hd).toArray] w fun e w' => e = .returned (.tuple #[.slice none 0 0, I 4]) ∧ Below w.heap.size w w' := by
  have C := cells_ok ht
  have IA : Hid ((Tryz.prog.info? 31).map (·.size) = some (T.cells hd).length) := Lib.hid (by have := C.size; rw [List.size_toArray] at this; rw [this]; exact May.infoT)
  have MY : Hid (∀ W, Below w.heap.size w W → Calls Tryz.prog 28 #[.agg (T.cells hd).toArray] W fun e w' => e = .returned (.bool false) ∧ Below W.heap.size W w') := Lib.hid (fun W hb => by rw [← hm]; exact May.rmay_any T hd W (ht.below hb))
  generalize hcc : T.cells hd = c at IA MY ⊢
  have h0 := (Below.refl w.heap.size w).alloc (Nat.le_refl _) (.cells c.toArray 31)
  have hg0 := heap_alloc_new w (.cells c.toArray 31)
  go_enter Tryz.func12, Tryz.ntmps12
  go_upto_region 1 with fail
  generalize World.alloc w _ = v at h0 hg0 ⊢
  have HB := Lib.hid h0
  have HTB0 := Lib.hid hg0
  generalize hgt : w.heap.size = gt at HTB0 ⊢
  have HTB : Hid (v.heap[gt]? = some (.cells c.toArray 31 (0, 0))) := HTB0
  clear h0 hg0 HTB0
  go_wp2_with (refine Row.wpList_load_g 31 _ rfl (by first | rfl | go_simp) ⟨gt, 0, none⟩ rfl c _ (by have := Row.lies_of_block HTB.out; simpa using this) Tryz.underlying31 rfl IA.out ?_)
  refine (MY.out v HB.out).mono ?_
  rintro e v1 ⟨rfl, hb⟩
  have HB1 := Lib.hid (HB.out.trans (hb.mono HB.out.size))
  clear hb
  go_wp2_with fail
  (try simp only [Exit.inBlock, Exit.then])
  refine bodyPost_ret (v := .tuple #[.slice none 0 0, I 4]) ?_ rfl ⟨rfl, HB1.out⟩
  simp [results, Tryz.results12]
theorem renc_good {T : Tab} {hd : Hd} {w : World} (ht : IsTab w hd T) (hm : May.tabMay T = true) :
    Calls Tryz.prog 12 #[.agg (T.cells hd).toArray] w fun e w' => ∃ v, e = .returned (.tuple #[v, I 0]) ∧ Bv w' v (Cd.sealB (Cd.bodyB T)) ∧ Below w.heap.size w w' := by
  have few := Cd.few_of ht hm
  have LN := Lib.hid few.len
  have BO : Hid (∀ W, Below w.heap.size w W → Calls Tryz.prog 19 #[.agg (T.cells hd).toArray] W fun e w' => ∃ v, e = .returned v ∧ Bv w' v (Cd.bodyB T) ∧ Below W.heap.size W w') := Lib.hid (fun W hb => rbody_any (ht.below hb) few)
  have C := cells_ok ht
  have IA : Hid ((Tryz.prog.info? 31).map (·.size) = some (T.cells hd).length) := Lib.hid (by have := C.size; rw [List.size_toArray] at this; rw [this]; exact May.infoT)
  have MY : Hid (∀ W, Below w.heap.size w W → Calls Tryz.prog 28 #[.agg (T.cells hd).toArray] W fun e w' => e = .returned (.bool true) ∧ Below W.heap.size W w') := Lib.hid (fun W hb => by rw [← hm]; exact May.rmay_any T hd W (ht.below hb))
  generalize hcc : T.cells hd = c at IA MY ⊢
  have h0 := (Below.refl w.heap.size w).alloc (Nat.le_refl _) (.cells c.toArray 31)
  have hg0 := heap_alloc_new w (.cells c.toArray 31)
  go_enter Tryz.func12, Tryz.ntmps12
  go_upto_region 1 with fail
  generalize World.alloc w _ = v at h0 hg0 ⊢
  have HB := Lib.hid h0
  have HTB0 := Lib.hid hg0
  generalize hgt : w.heap.size = gt at HTB0 ⊢
  have HTB : Hid (v.heap[gt]? = some (.cells c.toArray 31 (0, 0))) := HTB0
  clear h0 hg0 HTB0
  rw [hcc] at BO
  obtain ⟨body, hbody⟩ : ∃ x, x = Cd.bodyB T := ⟨_, rfl⟩
  rw [← hbody] at LN BO
  have HBODY := Lib.hid hbody
  clear hbody
  go_wp2_with (refine Row.wpList_load_g 31 _ rfl (by first | rfl | go_simp) ⟨gt, 0, none⟩ rfl c _ (by have := Row.lies_of_block HTB.out; simpa using this) Tryz.underlying31 rfl IA.out ?_)
  refine (MY.out v HB.out).mono ?_
  rintro e v1 ⟨rfl, hb⟩
  have HB1 := Lib.hid (HB.out.trans (hb.mono HB.out.size))
  have HT1 : Hid (v1.heap[gt]? = some (.cells c.toArray 31 (0, 0))) := Lib.hid ((hb.block gt (Array.getElem?_eq_some_iff.1 HTB.out).1).trans HTB.out)
  clear hb HTB HB
  have HTB := HT1
  go_wp2_with (refine Row.wpList_load_g 31 _ rfl (by first | rfl | go_simp) ⟨gt, 0, none⟩ rfl c _ (by have := Row.lies_of_block HTB.out; simpa using this) Tryz.underlying31 rfl IA.out ?_)
  refine (BO.out v1 HB1.out).mono ?_
  rintro e v2 ⟨bv, rfl, hbv, hb⟩
  have HS := Lib.hid (seal_any hbv (by have := LN.out; omega))
  have HB2 := Lib.hid (HB1.out.trans (hb.mono HB1.out.size))
  clear hb hbv
  go_wp2_with fail
  refine HS.out.mono ?_
  rintro e v3 ⟨sv, rfl, hsv, hb⟩
  have HSV := Lib.hid hsv
  have HB3 := Lib.hid (HB2.out.trans (hb.mono HB2.out.size))
  clear hb hsv
  go_wp2_with fail
  (try simp only [Exit.inBlock, Exit.then])
  refine bodyPost_ret (v := .tuple #[sv, I 0]) ?_ rfl ⟨_, rfl, by rw [← HBODY.out]; exact HSV.out, HB3.out⟩
  simp [results, Tryz.results12]
end Rb
namespace Clone
open Go.ChangeShapes Go.WideShapes Go.ChangeAt Go.RowKit
open Tab Copy Owned
open May (chain infoP infoG infoD infoR infoB infoT take_succ')
/-- The phases of the region that fills one group. -/
def D5 (w : World) (B M : Nat) (L0 L1 L2 L3 : List Blk) (q : Nat) (w' : World) : Prop :=
  Below B w w' ∧ match q with
    | 0 => Owned.Own B w' L0 ∧ w'.heap.size = M + 1
    | 1 => Owned.Own B w' L1 ∧ w'.heap.size = M + 1 + 1
    | 2 => Owned.Own B w' L2 ∧ w'.heap.size = M + 1 + 1 + 1
    | _ => Owned.Own B w' L3
theorem D5.get {w w' : World} {B M q : Nat} {L0 L1 L2 L3 : List Blk} {x : Blk} (h : D5 w B M L0 L1 L2 L3 q w') (h0 : x ∈ L0) (h1 : x ∈ L1) (h2 : x ∈ L2) (h3 : x ∈ L3) : w'.heap[x.at_]? = some (.cells x.cells.toArray x.type (0, 0)) := by
  match q, h with
  | 0, ⟨_, h, _⟩ => exact h.get h0
  | 1, ⟨_, h, _⟩ => exact h.get h1
  | 2, ⟨_, h, _⟩ => exact h.get h2
  | _ + 3, ⟨_, h⟩ => exact h.get h3
end Clone
namespace Light7
open Go.ChangeShapes Go.WideShapes Go.ChangeAt Go.RowKit
open Tab Clone
open May (ret_bool chain take_succ' infoP infoG infoD infoR infoB infoT St)
def Ok (gs : List Gr) (q : Nat) : Prop := ∀ g ∈ gs.take q, g.r0.length ≤ 12 ∧ g.r1.length ≤ 12
theorem Ok.step {gs : List Gr} {q : Nat} {v : Gr} (h : Ok gs q) (hv : gs[q]? = some v) (h0 : ¬ 12 < v.r0.length) (h1 : ¬ 12 < v.r1.length) : Ok gs (q + 1) := by
  intro g hg
  rw [take_succ' gs q v hv] at hg
  rcases List.mem_append.1 hg with hg | hg
  · exact h g hg
  · obtain rfl : g = v := by simpa using hg
    omega
def IsLight (T : Tab) : Prop := T.groups.length ≤ 8 ∧ T.dets.length ≤ 20 ∧ T.rails.length ≤ 8 ∧ T.buses.length ≤ 8 ∧ ∀ g ∈ T.groups, g.1.length ≤ 12 ∧ g.2.length ≤ 12
instance (T : Tab) : Decidable (IsLight T) := by unfold IsLight; infer_instance
theorem light_any (T : Tab) (h : Hd) (w : World) (ht : IsTab w h T) :
    Calls Tryz.prog 9 #[.agg (T.cells h).toArray] w fun e w' => e = .returned (.bool (decide (IsLight T))) ∧ Below w.heap.size w w' := by
  have C := Lib.hid (cells_ok ht)
  generalize (T.cells h).toArray = cs at C ⊢
  obtain ⟨gs, hgd, hgr⟩ := ht.groups
  have Hgr := Lib.hid hgr
  have Hgd := Lib.hid hgd
  have hsz := C.out.size
  have S0 := Lib.hid (St.box (cs := cs) ht)
  have Hgl := Lib.hid (show T.groups.length = gs.length by rw [← hgd, List.length_map])
  have Kg := hgr.1.len
  have Kd := ht.dets.len
  have Kr := ht.rails.len
  have Kb := ht.buses.len
  unfold maxLen at Kg Kd Kr Kb
  clear ht hgr hgd
  go_enter Tryz.func9, Tryz.ntmps9
  go_upto_region 1 with fail
  generalize w.alloc (.cells cs 31) = w1 at S0 ⊢
  clear hsz
  have q104 := S0.out.cell C.out.g
  have q113 := S0.out.cell C.out.d
  have q114 := S0.out.cell C.out.r
  have q115 := S0.out.cell C.out.b
  rw [Hgl.out] at q104
  by_cases h1 : 8 < gs.length
  · have NE : Hid (¬ IsLight T) := Lib.hid (fun e => by have := e.1; rw [Hgl.out] at this; omega)
    go_wp2
    go_ret
    exact ⟨ret_bool (decide_eq_false NE.out).symm, S0.out.bel⟩
  by_cases h2 : 20 < T.dets.length
  · have NE : Hid (¬ IsLight T) := Lib.hid (fun e => by have := e.2.1; omega)
    go_wp2
    go_ret
    exact ⟨ret_bool (decide_eq_false NE.out).symm, S0.out.bel⟩
  by_cases h3 : 8 < T.rails.length
  · have NE : Hid (¬ IsLight T) := Lib.hid (fun e => by have := e.2.2.1; omega)
    go_wp2
    go_ret
    exact ⟨ret_bool (decide_eq_false NE.out).symm, S0.out.bel⟩
  by_cases h4 : 8 < T.buses.length
  · have NE : Hid (¬ IsLight T) := Lib.hid (fun e => by have := e.2.2.2.1; omega)
    go_wp2
    go_ret
    exact ⟨ret_bool (decide_eq_false NE.out).symm, S0.out.bel⟩
  have SM : Hid ((∀ g ∈ gs, g.r0.length ≤ 12 ∧ g.r1.length ≤ 12) → IsLight T) := Lib.hid (fun hall => ⟨by rw [Hgl.out]; omega, by omega, by omega, by omega, fun g hg => by
    rw [← Hgd.out] at hg
    obtain ⟨v, hv, rfl⟩ := List.mem_map.1 hg
    exact hall v hv⟩)
  have SN : Hid (IsLight T → ∀ g ∈ gs, g.r0.length ≤ 12 ∧ g.r1.length ≤ 12) := Lib.hid (fun e g hg => e.2.2.2.2 g.data (by rw [← Hgd.out]; exact List.mem_map.2 ⟨g, hg, rfl⟩))
  go_wp2_with fail
  go_loopw [3] (fun i wr => ∃ q : Nat, q ≤ gs.length ∧ i = .int .i64 q ∧ Ok gs q ∧ wr = w1) (fun i _ => gs.length - (intOf i).toNat)
  case atStart => exact ⟨0, by omega, rfl, (fun g hg => by simp at hg), rfl⟩
  case round =>
    obtain ⟨q, hq, rfl, hall, rfl⟩ := hrel
    have Hall := Lib.hid hall
    clear hall
    by_cases hlt : q < gs.length
    · have hv := List.getElem?_eq_getElem hlt
      generalize gs[q] = v at hv
      obtain ⟨x, hx, hc⟩ := (Hgr.out.1.below S0.out.bel).at hv
      have hok := Hgr.out.2 v (List.mem_of_getElem? hv)
      have HV := Lib.hid hv
      have K0 := hok.1.len
      have K1 := hok.2.len
      obtain ⟨l0, l1, ⟨a0, cap0⟩, ⟨a1, cap1⟩⟩ := v
      unfold maxLen at K0 K1
      have c104 : wr.cell? ⟨w.heap.size, 104, none⟩ = some (.slice (some x) gs.length h.g.cap) := by have := q104; simp only [Sl.val, hx] at this; exact this
      have c0 := hc 0 _ rfl
      have c1 := hc 1 _ rfl
      rw [add_zero] at c0
      rw [add_one] at c1
      clear hv hc hok hx q104
      by_cases h5 : 12 < l0.length
      · have NE : Hid (¬ IsLight T) := Lib.hid (fun e => by have := (SN.out e _ (List.mem_of_getElem? HV.out)).1; simp only at this; omega)
        go_wp2
        go_ret
        exact ⟨ret_bool (decide_eq_false NE.out).symm, S0.out.bel⟩
      by_cases h6 : 12 < l1.length
      · have NE : Hid (¬ IsLight T) := Lib.hid (fun e => by have := (SN.out e _ (List.mem_of_getElem? HV.out)).2; simp only at this; omega)
        go_wp2
        go_ret
        exact ⟨ret_bool (decide_eq_false NE.out).symm, S0.out.bel⟩
      go_wp2
      go_roundw
      case rel => exact ⟨q + 1, by omega, by go_num, Hall.out.step HV.out h5 h6, trivial⟩
      case measure => simp [intOf]; omega
    · have SS := Lib.hid (SM.out (fun g hg => Hall.out g (by rw [List.take_of_length_le (by omega)]; exact hg)))
      clear Hall
      go_wp2
      go_ret
      exact ⟨ret_bool (decide_eq_true SS.out).symm, S0.out.bel⟩
end Light7
namespace TabArg
open Go Go.ChangeShapes Go.WideShapes Go.Deep Flat Tab
theorem All2.rep {α β : Type} {R : α → β → Prop} {r : List α} : ∀ (n : Nat) {cs : List β}, All2 R (List.replicate n r).flatten cs → ∃ l : List (List β), l.length = n ∧ cs = l.flatten ∧ ∀ c ∈ l, All2 R r c
  | 0, cs, h => ⟨[], rfl, by cases cs with | nil => rfl | cons _ _ => exact h.elim, by simp⟩
  | n + 1, cs, h => by
    rw [List.replicate_succ, List.flatten_cons] at h
    obtain ⟨h1, h2⟩ := h.split
    obtain ⟨l, hl, he, hr⟩ := All2.rep n h2
    refine ⟨cs.take r.length :: l, by simp [hl], ?_, ?_⟩
    · rw [List.flatten_cons, ← he, List.take_append_drop]
    · intro c hc
      rcases List.mem_cons.1 hc with rfl | hc
      · exact h1
      · exact hr c hc
theorem map_choose {α β : Type} {f : α → List β} {p : α → Prop} : ∀ {l : List (List β)}, (∀ c ∈ l, ∃ v, c = f v ∧ p v) → ∃ m : List α, m.length = l.length ∧ l.flatten = m.flatMap f ∧ ∀ v ∈ m, p v
  | [], _ => ⟨[], rfl, rfl, by simp⟩
  | c :: l, h => by
    obtain ⟨v, hv, hp⟩ := h c (by simp)
    obtain ⟨m, h1, h2, h3⟩ := map_choose (l := l) (fun c hc => h c (by simp [hc]))
    exact ⟨v :: m, by simp [h1], by rw [List.flatten_cons, h2, hv, List.flatMap_cons], by
      intro u hu
      rcases List.mem_cons.1 hu with rfl | hu
      · exact hp
      · exact h3 u hu⟩
section
variable {H : Type} {enc : TypeId × Value → H} {P : Program} {w : World} {base : Nat} {spare : Nat → Bool} {held : Bool}
abbrev Tr (enc : TypeId × Value → H) (P : Program) (w : World) (base : Nat) (spare : Nat → Bool) (held : Bool) (t : TypeId) (v : Value) : Prop := ∃ n y, DataW.trod enc P w base spare held n t [v] = some y
theorem tr_int {t : TypeId} {v : Value} (hu : P.underlying t = some (.int .i64)) (h : Tr enc P w base spare held t v) : ∃ z, v = I z := by
  obtain ⟨n, y, h⟩ := h
  obtain ⟨z, hz, _⟩ := DataW.trod_int hu h
  exact ⟨z, by simpa using hz⟩
theorem tr_bool {t : TypeId} {v : Value} (hu : P.underlying t = some .bool) (h : Tr enc P w base spare held t v) : ∃ b, v = .bool b := by
  obtain ⟨n, y, h⟩ := h
  obtain ⟨z, hz, _⟩ := DataW.trod_bool hu h
  exact ⟨z, by simpa using hz⟩
theorem tr_flt {t : TypeId} {v : Value} (hu : P.underlying t = some (.float .f64)) (h : Tr enc P w base spare held t v) : ∃ b, v = F b := by
  obtain ⟨n, y, h⟩ := h
  cases n with
  | zero => simp [DataW.trod] at h
  | succ n =>
    unfold DataW.trod at h
    rw [hu] at h
    split at h <;> simp_all
theorem tr_ints {t : TypeId} (hu : P.underlying t = some (.int .i64)) : ∀ (n : Nat) {cs : List Value}, All2 (Tr enc P w base spare held) (List.replicate n t) cs → ∃ l : List Int, l.length = n ∧ cs = l.map I
  | 0, cs, h => ⟨[], rfl, by cases cs with | nil => rfl | cons _ _ => exact h.elim⟩
  | n + 1, [], h => h.elim
  | n + 1, c :: cs, h => by
    obtain ⟨z, rfl⟩ := tr_int hu h.1
    obtain ⟨l, hl, rfl⟩ := tr_ints hu n h.2
    exact ⟨z :: l, by simp [hl], rfl⟩
/-- A slice whose elements each read as one of ours. -/
theorem tr_row {α : Type} [Inhabited α] {t e : TypeId} {k : Nat} {f : α → List Value} {p : α → Prop} {v : Value} (ht : P.underlying t = some (.slice e)) (hC : P.cellsOf e = k)
    (hel : ∀ n cs x, DataW.trod enc P w base spare held n e cs = some x → ∃ v, cs = f v ∧ p v) (h : Tr enc P w base spare held t v) :
    ∃ (s : Sl) (l : List α), v = s.val l.length ∧ RowOf k f w s l ∧ ∀ u ∈ l, p u := by
  obtain ⟨n, y, h⟩ := h
  rcases Deep.open_slice ht h with ⟨h0, _⟩ | ⟨a, len, cap, m, n', D, Pl, hcs, _, hl, hm, hmm, _, hx⟩
  · simp only [List.cons.injEq, and_true] at h0
    exact ⟨⟨none, 0⟩, [], h0, RowOf.nil w, by simp⟩
  · simp only [List.cons.injEq, and_true] at hcs
    have hlm : len ≤ m := by rw [hmm]; split <;> omega
    have each : ∀ i, ∃ u : α, i < len → Lies w (a.add (i * k)) (f u) ∧ p u := by
      intro i
      by_cases hi : i < len
      · obtain ⟨cs', h1, h2⟩ := hx i (by omega)
        rw [hC] at h1
        obtain ⟨_, hlen, hcell⟩ := World.cells?_some h1
        obtain ⟨u, rfl, hp⟩ := hel _ _ _ h2
        refine ⟨u, fun _ => ⟨fun j v hv => ?_, hp⟩⟩
        have hj : j < k := by rw [← hlen]; exact (List.getElem?_eq_some_iff.1 hv).1
        rw [hcell j hj, hv]
      · exact ⟨default, fun h => absurd h hi⟩
    refine ⟨⟨some a, cap⟩, (List.range len).map fun i => Classical.choose (each i), ?_, .inr ⟨a, rfl, by simpa using hl, hm, ?_⟩, ?_⟩
    · rw [hcs]; simp
    · intro i u hu
      rw [List.getElem?_map] at hu
      by_cases hi : i < len
      · rw [List.getElem?_range hi] at hu
        obtain rfl := Option.some.inj hu
        exact (Classical.choose_spec (each i) hi).1
      · simp [List.getElem?_eq_none (l := List.range len) (i := i) (by simpa using hi)] at hu
    · intro u hu
      obtain ⟨i, hi, rfl⟩ := List.mem_map.1 hu
      exact (Classical.choose_spec (each i) (List.mem_range.1 hi)).2
instance : Inhabited Gr := ⟨⟨[], [], ⟨none, 0⟩, ⟨none, 0⟩⟩⟩
abbrev B : TypeId := 4
abbrev N : TypeId := 3
abbrev X : TypeId := 78
abbrev phT : List TypeId := [B, N, N, N, N, N, N, N, N, N, N, B, B]
theorem flD : flat Tryz.prog 4 80 = some [N, X, X, X, X, N, N] := by kernel_rfl
theorem flR : flat Tryz.prog 4 84 = some (List.replicate 11 N) := by kernel_rfl
theorem flB : flat Tryz.prog 4 86 = some (List.replicate 2 N) := by kernel_rfl
theorem flG : flat Tryz.prog 4 55 = some (List.replicate 2 46) := by kernel_rfl
abbrev tabT : List TypeId := (List.replicate 8 phT).flatten ++ (25 :: (List.replicate 8 N ++ (27 :: 28 :: 29 :: (List.replicate 5 N ++ (List.replicate 8 N ++ List.replicate 2 N)))))
theorem flT : flat Tryz.prog 5 31 = some tabT := by kernel_rfl
theorem ph_el : ∀ {cs : List Value}, All2 (Tr enc Tryz.prog w base spare held) phT cs → ∃ p : Ph, cs = p.cells
  | [_, _, _, _, _, _, _, _, _, _, _, _, _], ⟨h0, h1, h2, h3, h4, h5, h6, h7, h8, h9, h10, h11, h12, _⟩ => by
    obtain ⟨v0, rfl⟩ := tr_bool Tryz.underlying4 h0
    obtain ⟨v1, rfl⟩ := tr_int Tryz.underlying3 h1
    obtain ⟨v2, rfl⟩ := tr_int Tryz.underlying3 h2
    obtain ⟨v3, rfl⟩ := tr_int Tryz.underlying3 h3
    obtain ⟨v4, rfl⟩ := tr_int Tryz.underlying3 h4
    obtain ⟨v5, rfl⟩ := tr_int Tryz.underlying3 h5
    obtain ⟨v6, rfl⟩ := tr_int Tryz.underlying3 h6
    obtain ⟨v7, rfl⟩ := tr_int Tryz.underlying3 h7
    obtain ⟨v8, rfl⟩ := tr_int Tryz.underlying3 h8
    obtain ⟨v9, rfl⟩ := tr_int Tryz.underlying3 h9
    obtain ⟨v10, rfl⟩ := tr_int Tryz.underlying3 h10
    obtain ⟨v11, rfl⟩ := tr_bool Tryz.underlying4 h11
    obtain ⟨v12, rfl⟩ := tr_bool Tryz.underlying4 h12
    exact ⟨⟨v0, v1, v2, v3, v4, v5, v6, v7, v8, v9, v10, v11, v12⟩, rfl⟩
theorem det_el : ∀ {cs : List Value}, All2 (Tr enc Tryz.prog w base spare held) [N, X, X, X, X, N, N] cs → ∃ d : Det, cs = d.cells
  | [_, _, _, _, _, _, _], ⟨h0, h1, h2, h3, h4, h5, h6, _⟩ => by
    obtain ⟨v0, rfl⟩ := tr_int Tryz.underlying3 h0
    obtain ⟨v1, rfl⟩ := tr_flt Tryz.underlying78 h1
    obtain ⟨v2, rfl⟩ := tr_flt Tryz.underlying78 h2
    obtain ⟨v3, rfl⟩ := tr_flt Tryz.underlying78 h3
    obtain ⟨v4, rfl⟩ := tr_flt Tryz.underlying78 h4
    obtain ⟨v5, rfl⟩ := tr_int Tryz.underlying3 h5
    obtain ⟨v6, rfl⟩ := tr_int Tryz.underlying3 h6
    exact ⟨⟨v0, v1, v2, v3, v4, v5, v6⟩, rfl⟩
theorem rl_el {cs : List Value} (h : All2 (Tr enc Tryz.prog w base spare held) (List.replicate 11 N) cs) : ∃ r : Rl, cs = r.cells := by
  obtain ⟨l, hl, rfl⟩ := tr_ints Tryz.underlying3 11 h
  match l, hl with
  | [a, b, c, d, e, f, g, h, i, j, k], _ => exact ⟨⟨a, b, c, d, e, f, g, h, i, j, k⟩, rfl⟩
theorem bs_el {cs : List Value} (h : All2 (Tr enc Tryz.prog w base spare held) (List.replicate 2 N) cs) : ∃ b : Bs, cs = b.cells := by
  obtain ⟨l, hl, rfl⟩ := tr_ints Tryz.underlying3 2 h
  match l, hl with
  | [a, b], _ => exact ⟨⟨a, b⟩, rfl⟩
theorem int_row {v : Value} (h : Tr enc Tryz.prog w base spare held 46 v) : ∃ (s : Sl) (l : List Int), v = s.val l.length ∧ IntRow w s l := by
  obtain ⟨s, l, h1, h2, _⟩ := tr_row (α := Int) (k := 1) (f := fun n => [I n]) (p := fun _ => True) Tryz.underlying46 (by kernel_rfl) (fun n cs x hx => by
    obtain ⟨z, hz, _⟩ := DataW.trod_int Tryz.underlying3 hx
    exact ⟨z, hz, trivial⟩) h
  exact ⟨s, l, h1, h2⟩
theorem gr_el : ∀ {cs : List Value}, All2 (Tr enc Tryz.prog w base spare held) (List.replicate 2 46) cs → ∃ g : Gr, cs = g.cells ∧ g.ok w
  | [_, _], ⟨h0, h1, _⟩ => by
    obtain ⟨s0, r0, rfl, k0⟩ := int_row h0
    obtain ⟨s1, r1, rfl, k1⟩ := int_row h1
    exact ⟨⟨r0, r1, s0, s1⟩, rfl, k0, k1⟩
theorem open_tab {n : Nat} {cs : List Value} {x : DataW H × List MemPlace} (h : DataW.trod enc Tryz.prog w base spare held n 31 cs = some x) : ∃ (hd : Hd) (T : Tab), cs = T.cells hd ∧ IsTab w hd T := by
  have hf := trod_flat 5 _ _ flT n cs x h
  clear h
  obtain ⟨h1, h2⟩ := All2.split hf
  have e0 := List.take_append_drop (List.replicate 8 phT).flatten.length cs
  rw [← e0]
  generalize cs.take (List.replicate 8 phT).flatten.length = ca at h1
  generalize cs.drop (List.replicate 8 phT).flatten.length = cb at h2
  obtain ⟨L, hL, rfl, hall⟩ := All2.rep 8 h1
  obtain ⟨ps, hp1, hp2, _⟩ := map_choose (f := Ph.cells) (p := fun _ => True) (l := L) (fun c hc => (ph_el (hall c hc)).imp fun v hv => ⟨hv, trivial⟩)
  cases cb with
  | nil => exact h2.elim
  | cons vg cb =>
  obtain ⟨hg, h3⟩ := h2
  obtain ⟨h4, h5⟩ := All2.split h3
  have e1 := List.take_append_drop (List.replicate 8 N).length cb
  rw [← e1]
  generalize cb.take (List.replicate 8 N).length = cc at h4
  generalize cb.drop (List.replicate 8 N).length = cd at h5
  obtain ⟨cf, hcf, rfl⟩ := tr_ints Tryz.underlying3 8 h4
  match cd, h5 with
  | vd :: vr :: vb :: ce, ⟨hd, hr, hb, h6⟩ =>
  obtain ⟨h7, h8⟩ := All2.split h6
  have e2 := List.take_append_drop (List.replicate 5 N).length ce
  rw [← e2]
  generalize ce.take (List.replicate 5 N).length = cg at h7
  generalize ce.drop (List.replicate 5 N).length = ch at h8
  obtain ⟨five, h5l, rfl⟩ := tr_ints Tryz.underlying3 5 h7
  obtain ⟨h9, h10⟩ := All2.split h8
  have e3 := List.take_append_drop (List.replicate 8 N).length ch
  rw [← e3]
  generalize ch.take (List.replicate 8 N).length = ci at h9
  generalize ch.drop (List.replicate 8 N).length = cj at h10
  obtain ⟨fl, hfl, rfl⟩ := tr_ints Tryz.underlying3 8 h9
  obtain ⟨two, h2l, rfl⟩ := tr_ints Tryz.underlying3 2 h10
  obtain ⟨sg, gs, rfl, kg, kgo⟩ := tr_row (α := Gr) (k := 2) (f := Gr.cells) (p := fun g => g.ok w) Tryz.underlying25 (by kernel_rfl) (fun n cs x hx => gr_el (trod_flat 4 _ _ flG n cs x hx)) hg
  obtain ⟨sd, ds, rfl, kd, _⟩ := tr_row (α := Det) (k := 7) (f := Det.cells) (p := fun _ => True) Tryz.underlying27 (by kernel_rfl) (fun n cs x hx => (det_el (trod_flat 4 _ _ flD n cs x hx)).imp fun v hv => ⟨hv, trivial⟩) hd
  obtain ⟨sr, rs, rfl, kr, _⟩ := tr_row (α := Rl) (k := 11) (f := Rl.cells) (p := fun _ => True) Tryz.underlying28 (by kernel_rfl) (fun n cs x hx => (rl_el (trod_flat 4 _ _ flR n cs x hx)).imp fun v hv => ⟨hv, trivial⟩) hr
  obtain ⟨sb, bs, rfl, kb, _⟩ := tr_row (α := Bs) (k := 2) (f := Bs.cells) (p := fun _ => True) Tryz.underlying29 (by kernel_rfl) (fun n cs x hx => (bs_el (trod_flat 4 _ _ flB n cs x hx)).imp fun v hv => ⟨hv, trivial⟩) hb
  match five, h5l, two, h2l with
  | [a, b, c, d, e], _, [f, g], _ =>
  refine ⟨⟨sg, sd, sr, sb⟩, ⟨ps, gs.map Gr.data, cf, ds, rs, bs, a, b, c, d, e, fl, f, g⟩, ?_, ⟨by rw [hp1, hL], hcf, hfl, ⟨gs, rfl, kg, kgo⟩, kd, kr, kb⟩⟩
  rw [hp2]
  simp only [Tab.cells, List.length_map, List.cons_append, List.nil_append, List.map_cons, List.map_nil]
end
end TabArg
end Go.Proofs.YtpgoafbkjmmedaaGreat
