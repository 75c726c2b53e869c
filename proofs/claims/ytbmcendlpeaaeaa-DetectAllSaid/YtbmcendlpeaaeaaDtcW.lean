/- The chapter's examples hold (stage 14): the statement's own awake returns true. -/
import Derived.Test.YtbmcendlpeaaeaaDtcE
import Derived.Test.YtbmcendlpeaaeaaDtcR
import Derived.Test.YtbmcendlpeaaeaaCloneA
import Derived.Test.YtbmcendlpeaaeaaHeld
import Derived.Great.BuildSlice
namespace Go.Proofs.Ytbmcendlpeaaeaa.Dtc
open Go.ChangeShapes Go.WideShapes Go.ChangeAt Go.RowKit
open Tab Flat TabArg Copy Go.Proofs.Fl
open Lvl (Lv stp failed)
open Dig (Wd wat stk)
open Dly (Tm tmr)
set_option linter.unusedVariables false
set_option linter.unusedSimpArgs false
set_option maxRecDepth 100000
open Clone (zTab zHd)
def awD : List Det := [⟨3, 4617315517961601024, 4611686018427387904, 0, 0, 0, 0⟩]
def awT : Tab := { zTab with dets := awD }
def awH (g : Nat) : Hd := ⟨⟨none, 0⟩, ⟨some ⟨g, 0, none⟩, 1⟩, ⟨none, 0⟩, ⟨none, 0⟩⟩
theorem builtA (g : Nat) : Try.prog.built 31 [(3, .slice (some ⟨g, 0, none⟩) 1 1)] = some (awT.cells (awH g)).toArray := by kernel_rfl
def aw1 : List Ch := dts awD [] [4618441417868443648]
def aw2 : List Ch := dts awD aw1 [4607182418800017408]
theorem aw_h1 : her awD aw1 (min awD.length aw1.length) = 8 := by decide +kernel
theorem aw_h2 : her awD aw2 (min awD.length aw2.length) = 0 := by decide +kernel
theorem aw_l1 : aw1.length = 1 := rfl
theorem aw_is {w : World} {g : Nat} (hg : w.heap[g]? = some (.cells #[I 3, F 4617315517961601024, F 4611686018427387904, F 0, F 0, I 0, I 0] 53 (0, 0))) : IsTab w (awH g) awT :=
  ⟨rfl, rfl, rfl, ⟨[], rfl, RowOf.nil w, fun g hg => by simp at hg⟩, by
    have := Copy.row_of_block (enc := Det.cells) (n := 7) (fun _ => rfl) awD (w := w) (g := g) (t := 53) (fr := (0, 0)) hg (by decide)
    exact this, RowOf.nil w, RowOf.nil w⟩
theorem flt_one (w : World) (x : Nat) (hx : x < 18446744073709551616) (t : TypeId) : FltRow (w.alloc (.cells #[F x] t)) ⟨some ⟨w.heap.size, 0, none⟩, 1⟩ [x] := by
  refine ⟨Copy.row_of_block (enc := fun x : Nat => [F x]) (n := 1) (fun _ => rfl) [x] (heap_alloc_new w _) (show 1 ≤ maxLen by decide), fun y hy => ?_⟩
  simp at hy; subst hy; exact hx
set_option maxHeartbeats 4000000 in
theorem awake_any (w : World) : Calls Try.prog 8 #[] w fun e w' => e = .returned (.bool true) ∧ Below w.heap.size w w' := by
  have hz := (zero_of_info Clone.info31).1
  have ZS : (zTab.cells zHd).toArray.size = 131 := (cells_ok (Clone.z_is w)).size
  generalize hZ : (zTab.cells zHd).toArray = Z at hz ZS
  have BA := Lib.hid builtA
  have AL : (awT.cells (awH w.heap.size)).toArray.size = 131 := rfl
  have AO : (awT.cells (awH w.heap.size)).toArray.all (·.oneCell') = true := (cells_ok (aw_is (heap_alloc_new w _))).one
  have hz0 := ((Blk.Bks.nil w).alloc #[I 3, F 4617315517961601024, F 4611686018427387904, F 0, F 0, I 0, I 0] 53).alloc Z 31
  rw [show (w.alloc (.cells #[I 3, F 4617315517961601024, F 4611686018427387904, F 0, F 0, I 0, I 0] 53)).heap.size = w.heap.size + 1 by simp] at hz0
  have HZ0 := Lib.hid hz0
  clear hz0
  go_enter Try.func8, Try.ntmps8
  go_upto_region 2 with (first | (refine Held.wpList_build1 rfl 31 3 (.tmp 4) rfl (.slice (some ⟨w.heap.size, 0, none⟩) 1 1) rfl _ (BA.out _) ?_) | (refine wpList_store_row rfl 31 _ _ rfl (w.heap.size + 1) (awT.cells (awH w.heap.size)).toArray rfl rfl 31 Z (HZ0.out.at 0 rfl) infoT (by rw [ZS, AL]) AO ?_))
  have h0 := HZ0.out.put 0 rfl (awT.cells (awH w.heap.size)).toArray
  simp only [List.set_cons_zero] at h0
  generalize World.setRow _ _ _ = u at h0 ⊢
  clear HZ0
  clear hz ZS hZ BA AL AO
  generalize hgt : w.heap.size + 1 = gt at h0 ⊢
  generalize w.heap.size = gd at h0 ⊢
  clear hgt
  have HT := Lib.hid (aw_is (h0.at 1 rfl))
  have LT : Hid (∀ W, Below u.heap.size u W → Lies W ⟨gt, 0, none⟩ (awT.cells (awH gd))) := Lib.hid (fun W hb => by have := Row.lies_of_block ((h0.step hb).at 0 rfl); simpa using this)
  have IA : Hid ((Try.prog.info? 31).map (·.size) = some (awT.cells (awH gd)).length) := Lib.hid infoT
  have ST : Hid (∀ W, Below u.heap.size u W → ∀ (a : Option Addr) (cap : Nat) (l : List Ch) (n : Nat) (b : Option Addr) (cap2 : Nat) (x : Nat), RowOf 7 Ch.cells W ⟨a, cap⟩ l → l.length = n → FltRow W ⟨b, cap2⟩ [x] → Calls Try.prog 9 #[.agg (awT.cells (awH gd)).toArray, .slice a n cap, .slice b 1 cap2] W fun e w' => ∃ s : Sl, e = .returned (s.val 1) ∧ RowOf 7 Ch.cells w' s (dts awD l [x]) ∧ Below W.heap.size W w') := Lib.hid (fun W hb a cap l n b cap2 x hl hn hx => by subst hn; exact step_any (HT.out.below hb) (by decide) hl hx)
  have HE : Hid (∀ W, Below u.heap.size u W → ∀ (a : Option Addr) (cap : Nat) (l : List Ch) (n : Nat), RowOf 7 Ch.cells W ⟨a, cap⟩ l → l.length = n → Calls Try.prog 12 #[.agg (awT.cells (awH gd)).toArray, .slice a n cap] W fun e w' => e = .returned (.int .i64 (her awD l (min awD.length l.length) : Nat)) ∧ Below W.heap.size W w') := Lib.hid (fun W hb a cap l n hl hn => by subst hn; exact here_any (HT.out.below hb) hl)
  have HU := Lib.hid h0.bel
  clear h0 HT
  generalize awT.cells (awH gd) = c at LT IA ST HE ⊢
  go_wp2_with (refine Row.wpList_load_g 31 _ rfl (by first | rfl | go_simp) ⟨gt, 0, none⟩ rfl c _ (LT.out _ (Below.refl _ _)) Try.underlying31 rfl IA.out ?_)
  refine (ST.out _ ((Below.refl _ _).alloc (Nat.le_refl _) _) none 0 [] 0 _ 1 4618441417868443648 (RowOf.nil _) rfl (flt_one u _ (by decide) _)).mono ?_
  rintro e u1 ⟨⟨sa, scap⟩, rfl, hrow, hb⟩
  have B1 := Lib.hid (((Below.refl u.heap.size u).alloc (Nat.le_refl _) _).trans (hb.mono (by simp)))
  have R1 := Lib.hid hrow
  clear hb hrow
  go_upto_region 3 with fail
  refine wp_region_held (S := fun w' => Below u1.heap.size u1 w') (by kernel_rfl) ?_
  have hS : Below u1.heap.size u1 { u1 with drawn := u1.drawn + 1 } := (Below.refl _ _).drew
  generalize ({ u1 with drawn := u1.drawn + 1 } : World) = v at hS ⊢
  have BB : Hid (∀ W, Below u1.heap.size u1 W → Below u.heap.size u W) := Lib.hid (fun W hb => B1.out.trans (hb.mono B1.out.size))
  have H8 := Lib.hid aw_h1
  have H0 := Lib.hid aw_h2
  have R1 : Hid (RowOf 7 Ch.cells u1 ⟨sa, scap⟩ aw1) := R1
  have E2 : Hid (∀ l, dts awD aw1 l = dts awD aw1 l) := Lib.hid (fun _ => rfl)
  refine Held.take (i := 0) (some 9) rfl (v := ?_) rfl (by kernel_rfl) (by kernel_rfl) (by kernel_rfl) (fun _ _ _ h => h) (Or.inl ⟨by rfl, ?_⟩) hS ?_
  rotate_left
  · intro w' hw'
    go_simp
    try with_reducible rfl
  (try dsimp only [Act.put]); (try simp only [List.setIfInBounds_toArray, List.set_cons_zero, List.set_cons_succ])
  refine Held.take (i := 1) (some 10) rfl (v := ?_) rfl (by kernel_rfl) (by kernel_rfl) (by kernel_rfl) (fun _ _ _ h => h) (Or.inl ⟨by rfl, ?_⟩) hS ?_
  rotate_left
  · intro w' hw'
    go_simp
    try with_reducible rfl
  (try dsimp only [Act.put]); (try simp only [List.setIfInBounds_toArray, List.set_cons_zero, List.set_cons_succ])
  refine Held.take (i := 2) (some 11) rfl (v := ?_) rfl (by kernel_rfl) (by kernel_rfl) (by kernel_rfl) (fun _ _ _ h => h) (Or.inl ⟨by rfl, ?_⟩) hS ?_
  rotate_left
  · intro w' hw'
    go_simp
    try with_reducible rfl
  (try dsimp only [Act.put]); (try simp only [List.setIfInBounds_toArray, List.set_cons_zero, List.set_cons_succ])
  refine Held.take (i := 3) (some 12) rfl (v := ?_) rfl (by kernel_rfl) (by kernel_rfl) (by kernel_rfl) (fun _ _ _ h => h) (Or.inl ⟨by rfl, ?_⟩) hS ?_
  rotate_left
  · intro w' hw'
    go_simp
    try with_reducible rfl
  (try dsimp only [Act.put]); (try simp only [List.setIfInBounds_toArray, List.set_cons_zero, List.set_cons_succ])
  refine Held.take_load (i := 4) (some 13) rfl 31 (.tmp 1) ⟨gt, 0, none⟩ c _ rfl rfl (by kernel_rfl) (by kernel_rfl) (by kernel_rfl) (fun _ _ _ h => h) (by rfl) hS rfl (fun w' hw' => LT.out w' (BB.out w' hw')) Try.underlying31 rfl IA.out ?_
  (try dsimp only [Act.put]); (try simp only [List.setIfInBounds_toArray, List.set_cons_zero, List.set_cons_succ])
  refine Held.take (i := 5) (some 14) rfl (v := ?_) rfl (by kernel_rfl) (by kernel_rfl) (by kernel_rfl) (fun _ _ _ h => h) (Or.inl ⟨by rfl, ?_⟩) hS ?_
  rotate_left
  · intro w' hw'
    go_simp
    try with_reducible rfl
  (try dsimp only [Act.put]); (try simp only [List.setIfInBounds_toArray, List.set_cons_zero, List.set_cons_succ])
  refine wpAnyH_ready (rs := [6]) (by kernel_rfl) (by simp) (AllReadyH.cons rfl (fun K hK => ?_) AllReadyH.nil)
  go_simp
  refine (HE.out v (BB.out v hS) sa scap aw1 1 (R1.out.below hS) rfl).mono ?_
  rintro e w' ⟨rfl, hb⟩
  have hq := hS.trans (hb.mono hS.size)
  clear hS hb
  rename World => v
  rw [H8.out]
  go_simp
  refine hK.out _ _ hq (fun hS => ?_)
  clear hK K hq
  refine Held.take (i := 7) (some 16) rfl (v := ?_) rfl (by kernel_rfl) (by kernel_rfl) (by kernel_rfl) (fun _ _ _ h => h) (Or.inl ⟨by rfl, ?_⟩) hS ?_
  rotate_left
  · intro w' hw'
    go_simp
    try with_reducible rfl
  (try dsimp only [Act.put]); (try simp only [List.setIfInBounds_toArray, List.set_cons_zero, List.set_cons_succ])
  refine Held.take (i := 8) (some 17) rfl (v := ?_) rfl (by kernel_rfl) (by kernel_rfl) (by kernel_rfl) (fun _ _ _ h => h) (Or.inl ⟨by rfl, ?_⟩) hS ?_
  rotate_left
  · intro w' hw'
    go_simp
    try with_reducible rfl
  (try dsimp only [Act.put]); (try simp only [List.setIfInBounds_toArray, List.set_cons_zero, List.set_cons_succ])
  refine Held.take (i := 9) (some 18) rfl (v := ?_) rfl (by kernel_rfl) (by kernel_rfl) (by kernel_rfl) (fun _ _ _ h => h) (Or.inl ⟨by rfl, ?_⟩) hS ?_
  rotate_left
  · intro w' hw'
    go_simp
    try with_reducible rfl
  (try dsimp only [Act.put]); (try simp only [List.setIfInBounds_toArray, List.set_cons_zero, List.set_cons_succ])
  refine Held.take_load (i := 10) (some 19) rfl 31 (.tmp 1) ⟨gt, 0, none⟩ c _ rfl rfl (by kernel_rfl) (by kernel_rfl) (by kernel_rfl) (fun _ _ _ h => h) (by rfl) hS rfl (fun w' hw' => LT.out w' (BB.out w' hw')) Try.underlying31 rfl IA.out ?_
  (try dsimp only [Act.put]); (try simp only [List.setIfInBounds_toArray, List.set_cons_zero, List.set_cons_succ])
  refine Held.take_load (i := 11) (some 20) rfl 31 (.tmp 1) ⟨gt, 0, none⟩ c _ rfl rfl (by kernel_rfl) (by kernel_rfl) (by kernel_rfl) (fun _ _ _ h => h) (by rfl) hS rfl (fun w' hw' => LT.out w' (BB.out w' hw')) Try.underlying31 rfl IA.out ?_
  (try dsimp only [Act.put]); (try simp only [List.setIfInBounds_toArray, List.set_cons_zero, List.set_cons_succ])
  refine Held.take (i := 12) (some 21) rfl (v := ?_) rfl (by kernel_rfl) (by kernel_rfl) (by kernel_rfl) (fun _ _ _ h => h) (Or.inl ⟨by rfl, ?_⟩) hS ?_
  rotate_left
  · intro w' hw'
    go_simp
    try with_reducible rfl
  (try dsimp only [Act.put]); (try simp only [List.setIfInBounds_toArray, List.set_cons_zero, List.set_cons_succ])
  refine wpAnyH_ready (rs := [13]) (by kernel_rfl) (by simp) (AllReadyH.cons rfl (fun K hK => ?_) AllReadyH.nil)
  go_simp
  have hf := flt_one v 4607182418800017408 (by decide) 47
  have hq := hS.alloc hS.size (.cells #[F 4607182418800017408] 47)
  generalize v.heap.size = gb at hf ⊢
  generalize World.alloc v _ = v2 at hf hq ⊢
  clear hS
  refine hK.out _ _ hq (fun hS => ?_)
  clear hK K hq
  refine wpAnyH_ready (rs := [14]) (by kernel_rfl) (by simp) (AllReadyH.cons rfl (fun K hK => ?_) AllReadyH.nil)
  go_simp
  refine (ST.out v2 (BB.out v2 hS) sa scap aw1 1 _ 1 4607182418800017408 (R1.out.below hS) rfl hf).mono ?_
  rintro e v3 ⟨⟨sb, scap2⟩, rfl, hrow, hb⟩
  have hq := hS.trans (hb.mono hS.size)
  clear hS hb hf
  go_simp
  refine hK.out _ _ hq (fun hS => ?_)
  clear hK K hq
  have hrow : RowOf 7 Ch.cells v3 ⟨sb, scap2⟩ aw2 := hrow
  refine wpAnyH_ready (rs := [15]) (by kernel_rfl) (by simp) (AllReadyH.cons rfl (fun K hK => ?_) AllReadyH.nil)
  go_simp
  refine (HE.out v3 (BB.out v3 hS) sb scap2 aw2 1 hrow rfl).mono ?_
  rintro e w' ⟨rfl, hb⟩
  have hq := hS.trans (hb.mono hS.size)
  clear hS hb
  rename World => v
  rw [H0.out]
  go_simp
  refine hK.out _ _ hq (fun hS => ?_)
  clear hK K hq
  refine Held.take (i := 16) (some 25) rfl (v := ?_) rfl (by kernel_rfl) (by kernel_rfl) (by kernel_rfl) (fun _ _ _ h => h) (Or.inl ⟨by rfl, ?_⟩) hS ?_
  rotate_left
  · intro w' hw'
    go_simp
    try with_reducible rfl
  (try dsimp only [Act.put]); (try simp only [List.setIfInBounds_toArray, List.set_cons_zero, List.set_cons_succ])
  refine Held.take (i := 17) (some 26) rfl (v := ?_) rfl (by kernel_rfl) (by kernel_rfl) (by kernel_rfl) (fun _ _ _ h => h) (Or.inl ⟨by rfl, ?_⟩) hS ?_
  rotate_left
  · intro w' hw'
    go_simp
    try with_reducible rfl
  (try dsimp only [Act.put]); (try simp only [List.setIfInBounds_toArray, List.set_cons_zero, List.set_cons_succ])
  refine Held.take (i := 18) (some 0) rfl (v := ?_) rfl (by kernel_rfl) (by kernel_rfl) (by kernel_rfl) (fun _ _ _ h => h) (Or.inl ⟨by rfl, ?_⟩) hS ?_
  rotate_left
  · intro w' hw'
    go_simp
    try with_reducible rfl
  (try dsimp only [Act.put]); (try simp only [List.setIfInBounds_toArray, List.set_cons_zero, List.set_cons_succ])
  refine wpAnyH_done (by kernel_rfl) ?_ _
  have HF := Lib.hid (HU.out.trans ((BB.out _ hS).mono HU.out.size))
  go_wp2
  go_ret
  exact ⟨rfl, HF.out⟩
end Go.Proofs.Ytbmcendlpeaaeaa.Dtc
