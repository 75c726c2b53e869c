/- Package detect: one detector, one tick; whether it calls. -/
import Derived.Test.YtbmcendlpeaaeaaDtc
import Derived.Test.YtbmcendlpeaaeaaSetM
namespace Go.Proofs.Ytbmcendlpeaaeaa.Dtc
open Go.ChangeShapes Go.WideShapes Go.ChangeAt Go.RowKit
open Tab Flat TabArg Go.Proofs.Fl
open Lvl (Lv stp failed)
open Dig (Wd wat stk)
open Dly (Tm tmr)
open Secs (quo_holds ret_int)
set_option linter.unusedVariables false
set_option linter.unusedSimpArgs false
set_option maxRecDepth 100000
theorem infoL : (Try.prog.info? 57).map (·.size) = some 2 := by kernel_rfl
set_option maxHeartbeats 8000000 in
theorem stepOne_is {ph mo mf n wa wb h t n' wa' wb' h' t' : Int} {on off dl ex x : Nat} {b o b' o' : Bool} (hx : x < 18446744073709551616) (hs : chn ⟨ph, on, off, dl, ex, mo, mf⟩ ⟨⟨b, n⟩, ⟨wa, wb⟩, h, t, o⟩ x = ⟨⟨b', n'⟩, ⟨wa', wb'⟩, h', t', o'⟩) (w : World) :
    Calls Try.prog 20 #[.agg #[I ph, F on, F off, F dl, F ex, I mo, I mf], .agg #[Value.bool b, I n, I wa, I wb, I h, I t, Value.bool o], .float .f64 x] w fun e w' => e = .returned (.agg #[Value.bool b', I n', I wa', I wb', I h', I t', Value.bool o']) ∧ Below w.heap.size w w' := by
  unfold chn at hs
  injection hs with e1 e2 e3
  dsimp only at e1 e2 e3
  rw [e1] at e2 e3
  obtain ⟨sn, hsn⟩ : ∃ r, Lvl.seen ⟨b', n'⟩ = r := ⟨_, rfl⟩
  rw [hsn] at e2 e3
  have HL := Lib.hid e1
  have HW := Lib.hid e2
  have HT := Lib.hid e3
  have HS := Lib.hid hsn
  have HX := Lib.hid hx
  clear e1 e2 e3 hsn hx
  have h0 := (((Blk.Bks.nil w).alloc #[I ph, F on, F off, F dl, F ex, I mo, I mf] 53).alloc #[Value.bool b, I n, I wa, I wb, I h, I t, Value.bool o] 63).alloc #[Value.bool false, I 0, I 0, I 0, I 0, I 0, Value.bool false] 63
  rw [show (w.alloc (.cells #[I ph, F on, F off, F dl, F ex, I mo, I mf] 53)).heap.size = w.heap.size + 1 by simp, show ((w.alloc (.cells #[I ph, F on, F off, F dl, F ex, I mo, I mf] 53)).alloc (.cells #[Value.bool b, I n, I wa, I wb, I h, I t, Value.bool o] 63)).heap.size = w.heap.size + 1 + 1 by simp] at h0
  go_enter Try.func20, Try.ntmps20
  go_upto_region 1 with fail
  generalize World.alloc (World.alloc (World.alloc w _) _) _ = u at h0 ⊢
  generalize hgr : w.heap.size + 1 + 1 = gr at h0 ⊢
  generalize hgc : w.heap.size + 1 = gc at h0 ⊢
  generalize w.heap.size = gd at h0 ⊢
  clear hgr hgc
  have H0 := Lib.hid h0
  clear h0
  have k1_0 : u.cell? ⟨gc, 0, none⟩ = some (Value.bool b) := H0.out.cell 1 0 rfl rfl
  have k1_1 : u.cell? ⟨gc, 1, none⟩ = some (I n) := H0.out.cell 1 1 rfl rfl
  have k1_2 : u.cell? ⟨gc, 2, none⟩ = some (I wa) := H0.out.cell 1 2 rfl rfl
  have k1_3 : u.cell? ⟨gc, 3, none⟩ = some (I wb) := H0.out.cell 1 3 rfl rfl
  have k1_4 : u.cell? ⟨gc, 4, none⟩ = some (I h) := H0.out.cell 1 4 rfl rfl
  have k1_5 : u.cell? ⟨gc, 5, none⟩ = some (I t) := H0.out.cell 1 5 rfl rfl
  have k1_6 : u.cell? ⟨gc, 6, none⟩ = some (Value.bool o) := H0.out.cell 1 6 rfl rfl
  have k2_0 : u.cell? ⟨gd, 0, none⟩ = some (I ph) := H0.out.cell 2 0 rfl rfl
  have k2_1 : u.cell? ⟨gd, 1, none⟩ = some (F on) := H0.out.cell 2 1 rfl rfl
  have k2_2 : u.cell? ⟨gd, 2, none⟩ = some (F off) := H0.out.cell 2 2 rfl rfl
  have k2_3 : u.cell? ⟨gd, 3, none⟩ = some (F dl) := H0.out.cell 2 3 rfl rfl
  have k2_4 : u.cell? ⟨gd, 4, none⟩ = some (F ex) := H0.out.cell 2 4 rfl rfl
  have k2_5 : u.cell? ⟨gd, 5, none⟩ = some (I mo) := H0.out.cell 2 5 rfl rfl
  have k2_6 : u.cell? ⟨gd, 6, none⟩ = some (I mf) := H0.out.cell 2 6 rfl rfl
  go_wp2_with fail
  refine (Lvl.step_is HX.out HL.out _).mono ?_
  rintro e u1 ⟨rfl, b1⟩
  clear k1_0 k1_1 k1_2 k1_3 k1_4 k1_5 k1_6 k2_0 k2_1 k2_2 k2_3 k2_4 k2_5 k2_6
  go_upto_region 2 with fail
  have hn := (H0.out.step b1).alloc #[Value.bool b', I n'] 57
  generalize World.alloc u1 _ = v at hn ⊢
  generalize u1.heap.size = gl at hn ⊢
  have H1 := Lib.hid hn
  clear hn H0 b1
  have k0_0 : v.cell? ⟨gl, 0, none⟩ = some (Value.bool b') := H1.out.cell 0 0 rfl rfl
  have k0_1 : v.cell? ⟨gl, 1, none⟩ = some (I n') := H1.out.cell 0 1 rfl rfl
  go_wp2_with fail
  refine (Lvl.seen_is _).mono ?_
  rintro e v1 ⟨rfl, b1⟩
  rw [HS.out]
  have hn := H1.out.step b1
  have H2 := Lib.hid hn
  clear hn H1 b1 k0_0 k0_1
  go_upto_region 3 with fail
  have k0_0 : ∀ p : QB.By v1.heap.size v1, p.world.cell? ⟨gl, 0, none⟩ = some (Value.bool b') := fun p => (H2.out.by p).cell 0 0 rfl rfl
  have k0_1 : ∀ p : QB.By v1.heap.size v1, p.world.cell? ⟨gl, 1, none⟩ = some (I n') := fun p => (H2.out.by p).cell 0 1 rfl rfl
  have k2_0 : ∀ p : QB.By v1.heap.size v1, p.world.cell? ⟨gc, 0, none⟩ = some (Value.bool b) := fun p => (H2.out.by p).cell 2 0 rfl rfl
  have k2_1 : ∀ p : QB.By v1.heap.size v1, p.world.cell? ⟨gc, 1, none⟩ = some (I n) := fun p => (H2.out.by p).cell 2 1 rfl rfl
  have k2_2 : ∀ p : QB.By v1.heap.size v1, p.world.cell? ⟨gc, 2, none⟩ = some (I wa) := fun p => (H2.out.by p).cell 2 2 rfl rfl
  have k2_3 : ∀ p : QB.By v1.heap.size v1, p.world.cell? ⟨gc, 3, none⟩ = some (I wb) := fun p => (H2.out.by p).cell 2 3 rfl rfl
  have k2_4 : ∀ p : QB.By v1.heap.size v1, p.world.cell? ⟨gc, 4, none⟩ = some (I h) := fun p => (H2.out.by p).cell 2 4 rfl rfl
  have k2_5 : ∀ p : QB.By v1.heap.size v1, p.world.cell? ⟨gc, 5, none⟩ = some (I t) := fun p => (H2.out.by p).cell 2 5 rfl rfl
  have k2_6 : ∀ p : QB.By v1.heap.size v1, p.world.cell? ⟨gc, 6, none⟩ = some (Value.bool o) := fun p => (H2.out.by p).cell 2 6 rfl rfl
  have k3_0 : ∀ p : QB.By v1.heap.size v1, p.world.cell? ⟨gd, 0, none⟩ = some (I ph) := fun p => (H2.out.by p).cell 3 0 rfl rfl
  have k3_1 : ∀ p : QB.By v1.heap.size v1, p.world.cell? ⟨gd, 1, none⟩ = some (F on) := fun p => (H2.out.by p).cell 3 1 rfl rfl
  have k3_2 : ∀ p : QB.By v1.heap.size v1, p.world.cell? ⟨gd, 2, none⟩ = some (F off) := fun p => (H2.out.by p).cell 3 2 rfl rfl
  have k3_3 : ∀ p : QB.By v1.heap.size v1, p.world.cell? ⟨gd, 3, none⟩ = some (F dl) := fun p => (H2.out.by p).cell 3 3 rfl rfl
  have k3_4 : ∀ p : QB.By v1.heap.size v1, p.world.cell? ⟨gd, 4, none⟩ = some (F ex) := fun p => (H2.out.by p).cell 3 4 rfl rfl
  have k3_5 : ∀ p : QB.By v1.heap.size v1, p.world.cell? ⟨gd, 5, none⟩ = some (I mo) := fun p => (H2.out.by p).cell 3 5 rfl rfl
  have k3_6 : ∀ p : QB.By v1.heap.size v1, p.world.cell? ⟨gd, 6, none⟩ = some (I mf) := fun p => (H2.out.by p).cell 3 6 rfl rfl
  refine QT.region v1.heap.size 16 (by kernel_rfl) (by kernel_rfl) ?_
  simp only [List.take_succ_cons, List.take_zero]
  repeat (quiet_step (first
    | (go_at_call 45; exact QB.call_of (Nat.le_refl _) (fun b => Dig.step_is HW.out _))
    | (go_at_call 47; exact QB.call_of (Nat.le_refl _) (fun b => (ticks_is rfl _).mono fun e w' h => ⟨h.1, h.2 ▸ Below.refl _ _⟩))
    | (go_at_call 46; exact QB.call_of (Nat.le_refl _) (fun b => Dly.step_is HT.out _))))
  refine wpQuiet_nil ?_
  intro _ hw'
  obtain ⟨p, rfl⟩ := hw'
  have H3 := Lib.hid (H2.out.by p)
  clear k0_0 k0_1 k2_0 k2_1 k2_2 k2_3 k2_4 k2_5 k2_6 k3_0 k3_1 k3_2 k3_3 k3_4 k3_5 k3_6 H2
  generalize p.world = v2 at H3 ⊢
  simp only [List.drop_succ_cons, List.drop_zero]
  go_wp2_with (refine wpList_store_row rfl 63 _ _ rfl gr #[Value.bool b', I n', I wa', I wb', I h', I t', Value.bool o'] rfl rfl 63 _ (H3.out.at 1 rfl) infoC rfl (by simp [Value.oneCell']) ?_)
  have hput := H3.out.put 1 rfl #[Value.bool b', I n', I wa', I wb', I h', I t', Value.bool o']
  simp only [List.set_cons_succ, List.set_cons_zero] at hput
  generalize World.setRow v2 gr _ = v3 at hput ⊢
  have H4 := Lib.hid hput
  clear hput
  go_wp2_with fail
  (try simp only [Exit.inBlock, Exit.then])
  refine bodyPost_ret (v := .agg #[Value.bool b', I n', I wa', I wb', I h', I t', Value.bool o']) ?_ rfl ⟨rfl, H4.out.bel⟩
  exact results_cell_row rfl _ _ gr 63 _ (0, 0) _ rfl (H4.out.at 1 rfl) Try.underlying63 rfl infoC
theorem eight {p : Int} (h : 0 ≤ p) (h' : p < 8) : p = 0 ∨ p = 1 ∨ p = 2 ∨ p = 3 ∨ p = 4 ∨ p = 5 ∨ p = 6 ∨ p = 7 := by omega
theorem bit_any (p : Int) (w : World) : Calls Try.prog 29 #[.int .i64 p] w fun e w' => e = .returned (.int .i64 (SetM.bit p)) ∧ w = w' := by
  by_cases h1 : p < 0
  · have HB := Lib.hid (SetM.bit_out (p := p) (by omega))
    go_enter Try.func29, Try.ntmps29
    go_wp2
    go_ret
    exact ⟨ret_int (by rw [HB.out]; rfl), rfl⟩
  by_cases h2 : 8 ≤ p
  · have HB := Lib.hid (SetM.bit_out (p := p) (by omega))
    go_enter Try.func29, Try.ntmps29
    go_wp2
    go_ret
    exact ⟨ret_int (by rw [HB.out]; rfl), rfl⟩
  rcases eight (p := p) (by omega) (by omega) with rfl | rfl | rfl | rfl | rfl | rfl | rfl | rfl
  all_goals
    clear h1 h2
    go_enter Try.func29, Try.ntmps29
    go_wp2
    go_ret
    exact ⟨ret_int (by decide), rfl⟩
set_option maxHeartbeats 4000000 in
theorem calls_is {ph mo mf n wa wb h t : Int} {on off dl ex : Nat} {b o r : Bool} (hs : out ⟨ph, on, off, dl, ex, mo, mf⟩ ⟨⟨b, n⟩, ⟨wa, wb⟩, h, t, o⟩ = r) (w : World) :
    Calls Try.prog 28 #[.agg #[I ph, F on, F off, F dl, F ex, I mo, I mf], .agg #[Value.bool b, I n, I wa, I wb, I h, I t, Value.bool o]] w fun e w' => e = .returned (.bool r) ∧ Below w.heap.size w w' := by
  unfold out at hs
  dsimp only at hs
  have h0 := ((Blk.Bks.nil w).alloc #[I ph, F on, F off, F dl, F ex, I mo, I mf] 53).alloc #[Value.bool b, I n, I wa, I wb, I h, I t, Value.bool o] 63
  rw [show (w.alloc (.cells #[I ph, F on, F off, F dl, F ex, I mo, I mf] 53)).heap.size = w.heap.size + 1 by simp] at h0
  obtain ⟨fl, hf⟩ : ∃ r, failed ⟨b, n⟩ = r := ⟨_, rfl⟩
  obtain ⟨sk, hk⟩ : ∃ r, stk mo mf ⟨wa, wb⟩ = r := ⟨_, rfl⟩
  rw [hf, hk] at hs
  have HF := Lib.hid hf
  have HK := Lib.hid hk
  clear hf hk
  cases o
  · cases fl
    · go_enter Try.func28, Try.ntmps28
      go_upto_region 1 with fail
      generalize World.alloc (World.alloc w _) _ = u at h0 ⊢
      generalize hgc : w.heap.size + 1 = gc at h0 ⊢
      generalize w.heap.size = gd at h0 ⊢
      clear hgc
      have H0 := Lib.hid h0
      clear h0
      have k0_0 : u.cell? ⟨gc, 0, none⟩ = some (Value.bool b) := H0.out.cell 0 0 rfl rfl
      have k0_1 : u.cell? ⟨gc, 1, none⟩ = some (I n) := H0.out.cell 0 1 rfl rfl
      have k0_2 : u.cell? ⟨gc, 2, none⟩ = some (I wa) := H0.out.cell 0 2 rfl rfl
      have k0_3 : u.cell? ⟨gc, 3, none⟩ = some (I wb) := H0.out.cell 0 3 rfl rfl
      have k0_4 : u.cell? ⟨gc, 4, none⟩ = some (I h) := H0.out.cell 0 4 rfl rfl
      have k0_5 : u.cell? ⟨gc, 5, none⟩ = some (I t) := H0.out.cell 0 5 rfl rfl
      have k0_6 : u.cell? ⟨gc, 6, none⟩ = some (Value.bool false) := H0.out.cell 0 6 rfl rfl
      have k1_0 : u.cell? ⟨gd, 0, none⟩ = some (I ph) := H0.out.cell 1 0 rfl rfl
      have k1_1 : u.cell? ⟨gd, 1, none⟩ = some (F on) := H0.out.cell 1 1 rfl rfl
      have k1_2 : u.cell? ⟨gd, 2, none⟩ = some (F off) := H0.out.cell 1 2 rfl rfl
      have k1_3 : u.cell? ⟨gd, 3, none⟩ = some (F dl) := H0.out.cell 1 3 rfl rfl
      have k1_4 : u.cell? ⟨gd, 4, none⟩ = some (F ex) := H0.out.cell 1 4 rfl rfl
      have k1_5 : u.cell? ⟨gd, 5, none⟩ = some (I mo) := H0.out.cell 1 5 rfl rfl
      have k1_6 : u.cell? ⟨gd, 6, none⟩ = some (I mf) := H0.out.cell 1 6 rfl rfl
      go_wp2_with fail
      refine (Lvl.failed_is _).mono ?_
      rintro e u1 ⟨rfl, b1⟩
      rw [HF.out]
      have hn := H0.out.step b1
      have H1 := Lib.hid hn
      clear hn H0 b1 k0_0 k0_1 k0_2 k0_3 k0_4 k0_5 k0_6 k1_0 k1_1 k1_2 k1_3 k1_4 k1_5 k1_6
      have k0_0 : u1.cell? ⟨gc, 0, none⟩ = some (Value.bool b) := H1.out.cell 0 0 rfl rfl
      have k0_1 : u1.cell? ⟨gc, 1, none⟩ = some (I n) := H1.out.cell 0 1 rfl rfl
      have k0_2 : u1.cell? ⟨gc, 2, none⟩ = some (I wa) := H1.out.cell 0 2 rfl rfl
      have k0_3 : u1.cell? ⟨gc, 3, none⟩ = some (I wb) := H1.out.cell 0 3 rfl rfl
      have k0_4 : u1.cell? ⟨gc, 4, none⟩ = some (I h) := H1.out.cell 0 4 rfl rfl
      have k0_5 : u1.cell? ⟨gc, 5, none⟩ = some (I t) := H1.out.cell 0 5 rfl rfl
      have k0_6 : u1.cell? ⟨gc, 6, none⟩ = some (Value.bool false) := H1.out.cell 0 6 rfl rfl
      have k1_0 : u1.cell? ⟨gd, 0, none⟩ = some (I ph) := H1.out.cell 1 0 rfl rfl
      have k1_1 : u1.cell? ⟨gd, 1, none⟩ = some (F on) := H1.out.cell 1 1 rfl rfl
      have k1_2 : u1.cell? ⟨gd, 2, none⟩ = some (F off) := H1.out.cell 1 2 rfl rfl
      have k1_3 : u1.cell? ⟨gd, 3, none⟩ = some (F dl) := H1.out.cell 1 3 rfl rfl
      have k1_4 : u1.cell? ⟨gd, 4, none⟩ = some (F ex) := H1.out.cell 1 4 rfl rfl
      have k1_5 : u1.cell? ⟨gd, 5, none⟩ = some (I mo) := H1.out.cell 1 5 rfl rfl
      have k1_6 : u1.cell? ⟨gd, 6, none⟩ = some (I mf) := H1.out.cell 1 6 rfl rfl
      go_wp2_with fail
      refine (Dig.stuck_is HK.out _).mono ?_
      rintro e u2 ⟨rfl, b2⟩
      have hb := (H1.out.step b2).bel
      have HB := Lib.hid hb
      clear hb
      obtain rfl : sk = r := by simpa using hs
      go_wp2
      go_ret
      exact ⟨rfl, HB.out⟩
    · go_enter Try.func28, Try.ntmps28
      go_upto_region 1 with fail
      generalize World.alloc (World.alloc w _) _ = u at h0 ⊢
      generalize hgc : w.heap.size + 1 = gc at h0 ⊢
      generalize w.heap.size = gd at h0 ⊢
      clear hgc
      have H0 := Lib.hid h0
      clear h0
      have k0_0 : u.cell? ⟨gc, 0, none⟩ = some (Value.bool b) := H0.out.cell 0 0 rfl rfl
      have k0_1 : u.cell? ⟨gc, 1, none⟩ = some (I n) := H0.out.cell 0 1 rfl rfl
      have k0_2 : u.cell? ⟨gc, 2, none⟩ = some (I wa) := H0.out.cell 0 2 rfl rfl
      have k0_3 : u.cell? ⟨gc, 3, none⟩ = some (I wb) := H0.out.cell 0 3 rfl rfl
      have k0_4 : u.cell? ⟨gc, 4, none⟩ = some (I h) := H0.out.cell 0 4 rfl rfl
      have k0_5 : u.cell? ⟨gc, 5, none⟩ = some (I t) := H0.out.cell 0 5 rfl rfl
      have k0_6 : u.cell? ⟨gc, 6, none⟩ = some (Value.bool false) := H0.out.cell 0 6 rfl rfl
      have k1_0 : u.cell? ⟨gd, 0, none⟩ = some (I ph) := H0.out.cell 1 0 rfl rfl
      have k1_1 : u.cell? ⟨gd, 1, none⟩ = some (F on) := H0.out.cell 1 1 rfl rfl
      have k1_2 : u.cell? ⟨gd, 2, none⟩ = some (F off) := H0.out.cell 1 2 rfl rfl
      have k1_3 : u.cell? ⟨gd, 3, none⟩ = some (F dl) := H0.out.cell 1 3 rfl rfl
      have k1_4 : u.cell? ⟨gd, 4, none⟩ = some (F ex) := H0.out.cell 1 4 rfl rfl
      have k1_5 : u.cell? ⟨gd, 5, none⟩ = some (I mo) := H0.out.cell 1 5 rfl rfl
      have k1_6 : u.cell? ⟨gd, 6, none⟩ = some (I mf) := H0.out.cell 1 6 rfl rfl
      go_wp2_with fail
      refine (Lvl.failed_is _).mono ?_
      rintro e u1 ⟨rfl, b1⟩
      rw [HF.out]
      have hn := H0.out.step b1
      have H1 := Lib.hid hn
      clear hn H0 b1 k0_0 k0_1 k0_2 k0_3 k0_4 k0_5 k0_6 k1_0 k1_1 k1_2 k1_3 k1_4 k1_5 k1_6
      obtain rfl : true = r := by simpa using hs
      go_wp2
      go_ret
      exact ⟨rfl, H1.out.bel⟩
  · go_enter Try.func28, Try.ntmps28
    go_upto_region 1 with fail
    generalize World.alloc (World.alloc w _) _ = u at h0 ⊢
    generalize hgc : w.heap.size + 1 = gc at h0 ⊢
    generalize w.heap.size = gd at h0 ⊢
    clear hgc
    have H0 := Lib.hid h0
    clear h0
    have k0_0 : u.cell? ⟨gc, 0, none⟩ = some (Value.bool b) := H0.out.cell 0 0 rfl rfl
    have k0_1 : u.cell? ⟨gc, 1, none⟩ = some (I n) := H0.out.cell 0 1 rfl rfl
    have k0_2 : u.cell? ⟨gc, 2, none⟩ = some (I wa) := H0.out.cell 0 2 rfl rfl
    have k0_3 : u.cell? ⟨gc, 3, none⟩ = some (I wb) := H0.out.cell 0 3 rfl rfl
    have k0_4 : u.cell? ⟨gc, 4, none⟩ = some (I h) := H0.out.cell 0 4 rfl rfl
    have k0_5 : u.cell? ⟨gc, 5, none⟩ = some (I t) := H0.out.cell 0 5 rfl rfl
    have k0_6 : u.cell? ⟨gc, 6, none⟩ = some (Value.bool true) := H0.out.cell 0 6 rfl rfl
    have k1_0 : u.cell? ⟨gd, 0, none⟩ = some (I ph) := H0.out.cell 1 0 rfl rfl
    have k1_1 : u.cell? ⟨gd, 1, none⟩ = some (F on) := H0.out.cell 1 1 rfl rfl
    have k1_2 : u.cell? ⟨gd, 2, none⟩ = some (F off) := H0.out.cell 1 2 rfl rfl
    have k1_3 : u.cell? ⟨gd, 3, none⟩ = some (F dl) := H0.out.cell 1 3 rfl rfl
    have k1_4 : u.cell? ⟨gd, 4, none⟩ = some (F ex) := H0.out.cell 1 4 rfl rfl
    have k1_5 : u.cell? ⟨gd, 5, none⟩ = some (I mo) := H0.out.cell 1 5 rfl rfl
    have k1_6 : u.cell? ⟨gd, 6, none⟩ = some (I mf) := H0.out.cell 1 6 rfl rfl
    obtain rfl : true = r := by simpa using hs
    go_wp2
    go_ret
    exact ⟨rfl, H0.out.bel⟩
end Go.Proofs.Ytbmcendlpeaaeaa.Dtc
