/- Package calls: Held, Step, Want at any table, any calls, any sets. -/
import Derived.Test.YtneaomdgjlmleaaCl
import Derived.Test.YtneaomdgjlmleaaQL
namespace Go.Proofs.Ytneaomdgjlmleaa.Cl
open Go.ChangeShapes Go.WideShapes Go.ChangeAt Go.RowKit
open Tab PlaceM OnS Phx QL
open May (infoP St)
open SetP (with_any has_any)
set_option linter.unusedVariables false
set_option linter.unusedSimpArgs false
set_option maxRecDepth 100000
set_option maxHeartbeats 4000000 in
theorem held_any {T : Tab} {hd : Hd} {w : World} (ht : IsTab w hd T) (here : Int) :
    Calls Try.prog 11 #[.agg (T.cells hd).toArray, .int .i64 here] w fun e w' => e = .returned (.int .i64 (whS (rHeld here) T : Nat)) ∧ Below w.heap.size w w' := by
  have IA : Hid ((Try.prog.info? 31).map (·.size) = some (T.cells hd).length) := Lib.hid (by have := (cells_ok ht).size; rw [List.size_toArray] at this; rw [this]; exact May.infoT)
  have HT := Lib.hid ht
  have WH : Hid (∀ W b, Below w.heap.size w W → Keeps W b 0 here → Calls Try.prog 34 #[.agg (T.cells hd).toArray, .func (.func 35) #[] #[.pointer (some ⟨b, 0, none⟩)]] W fun e w' => e = .returned (.int .i64 (whS (rHeld here) T : Nat)) ∧ Below W.heap.size W w') := Lib.hid (fun W b hb k => where1_any T hd W (HT.out.below hb) 35 (fun args w => Go.Proofs.enters_of Try.func35 (by kernel_rfl) rfl args w) b (rHeld here) (Lib.hid (fun V q u hv => held1_is (k.next hv) q u)))
  clear HT ht
  generalize (whS (rHeld here) T : Nat) = res at WH ⊢
  generalize T.cells hd = c at *
  have h0 := ((Blk.Bks.nil w).alloc c.toArray 31).alloc #[I here] 3
  rw [show (w.alloc (.cells c.toArray 31)).heap.size = w.heap.size + 1 by simp] at h0
  go_enter Try.func11, Try.ntmps11
  go_upto_region 1 with fail
  generalize World.alloc (World.alloc w _) _ = u at h0 ⊢
  generalize hgh : w.heap.size + 1 = gh at h0 ⊢
  generalize w.heap.size = gt at h0 ⊢
  clear hgh
  have H0 := Lib.hid h0
  clear h0
  go_wp2_with (refine Row.wpList_load_g 31 _ rfl (by first | rfl | go_simp) ⟨gt, 0, none⟩ rfl c _ (by have := Row.lies_of_block (H0.out.at 1 rfl); simpa using this) Try.underlying31 rfl IA.out ?_)
  refine (WH.out u gh H0.out.bel (Lib.hid fun W' hb => (H0.out.step hb).cell 0 0 rfl rfl)).mono ?_
  rintro e u1 ⟨rfl, hb⟩
  have HF := Lib.hid (H0.out.bel.trans (hb.mono H0.out.bel.size))
  clear hb
  go_wp2
  go_ret
  exact ⟨rfl, HF.out⟩
set_option maxHeartbeats 4000000 in
theorem want_any {T : Tab} {hd : Hd} {w : World} (ht : IsTab w hd T) (car foot here : Int) :
    Calls Try.prog 15 #[.agg (T.cells hd).toArray, .agg #[I car, I foot], .int .i64 here] w fun e w' => e = .returned (.int .i64 (whS (rWant car foot (whS (rHeld here) T : Nat)) T : Nat)) ∧ Below w.heap.size w w' := by
  have IA : Hid ((Try.prog.info? 31).map (·.size) = some (T.cells hd).length) := Lib.hid (by have := (cells_ok ht).size; rw [List.size_toArray] at this; rw [this]; exact May.infoT)
  have HT := Lib.hid ht
  obtain ⟨hl, hhl⟩ : ∃ x, x = ((whS (rHeld here) T : Nat) : Int) := ⟨_, rfl⟩
  have HH : Hid (∀ W, Below w.heap.size w W → Calls Try.prog 11 #[.agg (T.cells hd).toArray, .int .i64 here] W fun e w' => e = .returned (.int .i64 hl) ∧ Below W.heap.size W w') := Lib.hid (fun W hb => by rw [hhl]; exact held_any (HT.out.below hb) here)
  rw [← hhl]
  clear hhl
  have WH : Hid (∀ W b b2, Below w.heap.size w W → Keeps W b 0 car → Keeps W b 1 foot → Keeps W b2 0 hl → Calls Try.prog 34 #[.agg (T.cells hd).toArray, .func (.func 42) #[] #[.pointer (some ⟨b, 0, none⟩), .pointer (some ⟨b2, 0, none⟩)]] W fun e w' => e = .returned (.int .i64 (whS (rWant car foot hl) T : Nat)) ∧ Below W.heap.size W w') := Lib.hid (fun W b b2 hb k k1 k2 => where2_any T hd W (HT.out.below hb) 42 (fun args w => Go.Proofs.enters_of Try.func42 (by kernel_rfl) rfl args w) b b2 (rWant car foot hl) (Lib.hid (fun V q u hv => want1_is (k.next hv) (k1.next hv) (k2.next hv) q u)))
  clear HT ht
  generalize (whS (rWant car foot hl) T : Nat) = res at WH ⊢
  generalize T.cells hd = c at *
  have h0 := ((Blk.Bks.nil w).alloc c.toArray 31).alloc #[I car, I foot] 33
  rw [show (w.alloc (.cells c.toArray 31)).heap.size = w.heap.size + 1 by simp] at h0
  go_enter Try.func15, Try.ntmps15
  go_upto_region 1 with fail
  generalize World.alloc (World.alloc w _) _ = u at h0 ⊢
  generalize hgh : w.heap.size + 1 = gh at h0 ⊢
  generalize w.heap.size = gt at h0 ⊢
  clear hgh
  have H0 := Lib.hid h0
  clear h0
  go_wp2_with (refine Row.wpList_load_g 31 _ rfl (by first | rfl | go_simp) ⟨gt, 0, none⟩ rfl c _ (by have := Row.lies_of_block (H0.out.at 1 rfl); simpa using this) Try.underlying31 rfl IA.out ?_)
  refine (HH.out u H0.out.bel).mono ?_
  rintro e u1 ⟨rfl, hb⟩
  have H1 := Lib.hid (H0.out.step hb)
  clear hb H0 HH
  go_upto_region 2 with fail
  have h2 := H1.out.alloc #[I hl] 3
  generalize World.alloc u1 _ = u2 at h2 ⊢
  generalize u1.heap.size = gl at h2 ⊢
  have H2 := Lib.hid h2
  clear h2 H1
  go_wp2_with (refine Row.wpList_load_g 31 _ rfl (by first | rfl | go_simp) ⟨gt, 0, none⟩ rfl c _ (by have := Row.lies_of_block (H2.out.at 2 rfl); simpa using this) Try.underlying31 rfl IA.out ?_)
  refine (WH.out u2 gh gl H2.out.bel (Lib.hid fun W' hb => (H2.out.step hb).cell 1 0 rfl rfl) (Lib.hid fun W' hb => (H2.out.step hb).cell 1 1 rfl rfl) (Lib.hid fun W' hb => (H2.out.step hb).cell 0 0 rfl rfl)).mono ?_
  rintro e u3 ⟨rfl, hb⟩
  have HF := Lib.hid (H2.out.bel.trans (hb.mono H2.out.bel.size))
  clear hb
  go_wp2
  go_ret
  exact ⟨rfl, HF.out⟩
set_option maxHeartbeats 4000000 in
theorem step_any {T : Tab} {hd : Hd} {w : World} (ht : IsTab w hd T) (car foot here push green walk : Int) :
    Calls Try.prog 13 #[.agg (T.cells hd).toArray, .agg #[I car, I foot], .int .i64 here, .int .i64 push, .int .i64 green, .int .i64 walk] w fun e w' => e = .returned (.agg #[I (whS (rCar green car here) T : Nat), I (whS (rFoot walk foot push) T : Nat)]) ∧ Below w.heap.size w w' := by
  have IA : Hid ((Try.prog.info? 31).map (·.size) = some (T.cells hd).length) := Lib.hid (by have := (cells_ok ht).size; rw [List.size_toArray] at this; rw [this]; exact May.infoT)
  have HT := Lib.hid ht
  have W1 : Hid (∀ W b1 b2 b3, Below w.heap.size w W → Keeps W b1 0 green → Keeps W b2 0 car → Keeps W b3 0 here → Calls Try.prog 34 #[.agg (T.cells hd).toArray, .func (.func 38) #[] #[.pointer (some ⟨b1, 0, none⟩), .pointer (some ⟨b2, 0, none⟩), .pointer (some ⟨b3, 0, none⟩)]] W fun e w' => e = .returned (.int .i64 (whS (rCar green car here) T : Nat)) ∧ Below W.heap.size W w') := Lib.hid (fun W b1 b2 b3 hb k k1 k2 => where3_any T hd W (HT.out.below hb) 38 (fun args w => Go.Proofs.enters_of Try.func38 (by kernel_rfl) rfl args w) b1 b2 b3 (rCar green car here) (Lib.hid (fun V q u hv => step1_is (k.next hv) (k1.next hv) (k2.next hv) q u)))
  have W2 : Hid (∀ W b1 b2 b3, Below w.heap.size w W → Keeps W b1 0 walk → Keeps W b2 1 foot → Keeps W b3 0 push → Calls Try.prog 34 #[.agg (T.cells hd).toArray, .func (.func 40) #[] #[.pointer (some ⟨b1, 0, none⟩), .pointer (some ⟨b2, 0, none⟩), .pointer (some ⟨b3, 0, none⟩)]] W fun e w' => e = .returned (.int .i64 (whS (rFoot walk foot push) T : Nat)) ∧ Below W.heap.size W w') := Lib.hid (fun W b1 b2 b3 hb k k1 k2 => where3_any T hd W (HT.out.below hb) 40 (fun args w => Go.Proofs.enters_of Try.func40 (by kernel_rfl) rfl args w) b1 b2 b3 (rFoot walk foot push) (Lib.hid (fun V q u hv => step2_is (k.next hv) (k1.next hv) (k2.next hv) q u)))
  clear HT ht
  generalize (whS (rCar green car here) T : Nat) = r1 at W1 ⊢
  generalize (whS (rFoot walk foot push) T : Nat) = r2 at W2 ⊢
  generalize T.cells hd = c at *
  have h0 := (((((((Blk.Bks.nil w).alloc c.toArray 31).alloc #[I car, I foot] 33).alloc #[I here] 3).alloc #[I push] 3).alloc #[I green] 3).alloc #[I walk] 3).alloc #[I 0, I 0] 33
  simp only [World.size_alloc, Nat.add_assoc, Nat.reduceAdd] at h0
  go_enter Try.func13, Try.ntmps13
  go_upto_region 1 with fail
  generalize World.alloc (World.alloc (World.alloc (World.alloc (World.alloc (World.alloc (World.alloc w _) _) _) _) _) _) _ = u at h0 ⊢
  generalize hg6 : w.heap.size + 6 = gr at h0 ⊢
  generalize hg5 : w.heap.size + 5 = gw at h0 ⊢
  generalize hg4 : w.heap.size + 4 = gg at h0 ⊢
  generalize hg3 : w.heap.size + 3 = gp at h0 ⊢
  generalize hg2 : w.heap.size + 2 = gh at h0 ⊢
  generalize hg1 : w.heap.size + 1 = gc at h0 ⊢
  generalize w.heap.size = gt at h0 ⊢
  clear hg1 hg2 hg3 hg4 hg5 hg6
  have H0 := Lib.hid h0
  clear h0
  go_upto_region 3 with fail
  refine QT.region u.heap.size 7 (by kernel_rfl) (by kernel_rfl) ?_
  simp only [List.take_succ_cons, List.take_zero]
  have P0 : Hid (∀ W, Below u.heap.size u W → Below w.heap.size w W) := Lib.hid (fun W b => H0.out.bel.trans (b.mono H0.out.bel.size))
  repeat first
    | (refine wpQuiet_load rfl 31 _ rfl ⟨gt, 0, none⟩ rfl c _ (fun w' ⟨p, e⟩ => by rw [e]; have := Row.lies_of_block ((H0.out.by p).at 6 rfl); simpa using this) Try.underlying31 rfl IA.out ?_
       dsimp only [Act.put]
       simp only [List.setIfInBounds_toArray, List.set_cons_zero, List.set_cons_succ])
    | (quiet_step (first
        | (go_at_call 34; with_reducible exact QB.call_of (Nat.le_refl _) (fun b => W1.out _ gg gc gh (P0.out _ b) (Lib.hid fun W' hb => ((H0.out.step b).step hb).cell 2 0 rfl rfl) (Lib.hid fun W' hb => ((H0.out.step b).step hb).cell 5 0 rfl rfl) (Lib.hid fun W' hb => ((H0.out.step b).step hb).cell 4 0 rfl rfl)))
        | (go_at_call 34; with_reducible exact QB.call_of (Nat.le_refl _) (fun b => W2.out _ gw gc gp (P0.out _ b) (Lib.hid fun W' hb => ((H0.out.step b).step hb).cell 1 0 rfl rfl) (Lib.hid fun W' hb => ((H0.out.step b).step hb).cell 5 1 rfl rfl) (Lib.hid fun W' hb => ((H0.out.step b).step hb).cell 3 0 rfl rfl)))))
  refine wpQuiet_nil ?_
  intro _ hw'
  obtain ⟨p, rfl⟩ := hw'
  have H3 := Lib.hid (H0.out.by p)
  clear H0 W1 W2
  generalize p.world = v2 at H3 ⊢
  simp only [List.drop_succ_cons, List.drop_zero]
  go_wp2_with (refine wpList_store_row rfl 33 _ _ rfl gr #[I r1, I r2] rfl rfl 33 _ (H3.out.at 0 rfl) infoC2 rfl (by simp [Value.oneCell']) ?_)
  have hput := H3.out.put 0 rfl #[I r1, I r2]
  simp only [List.set_cons_succ, List.set_cons_zero] at hput
  generalize World.setRow v2 gr _ = v3 at hput ⊢
  have H4 := Lib.hid hput
  clear hput
  go_wp2_with fail
  (try simp only [Exit.inBlock, Exit.then])
  refine bodyPost_ret (v := .agg #[I r1, I r2]) ?_ rfl ⟨rfl, H4.out.bel⟩
  exact results_cell_row rfl _ _ gr 33 _ (0, 0) _ rfl (H4.out.at 0 rfl) Try.underlying33 rfl infoC2
end Go.Proofs.Ytneaomdgjlmleaa.Cl
