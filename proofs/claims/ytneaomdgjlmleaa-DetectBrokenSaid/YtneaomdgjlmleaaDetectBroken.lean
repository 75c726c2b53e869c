/- DetectBroken returns true at any numbers: broken detectors call their phases from the third tick on, whatever came ahead; when they work again they stop calling after their extension. No condition. -/
import Derived.Test.YtneaomdgjlmleaaRows
import Derived.Test.YtneaomdgjlmleaaPart11
import Derived.Test.YtneaomdgjlmleaaPart01
import Derived.Test.YtneaomdgjlmleaaPart02
import Derived.Deep.Cut
import Derived.LoopTactic
import Derived.BigQuiet
import Derived.Test.YtneaomdgjlmleaaPart04
import Derived.WalkKit
import Derived.WalkLawsBesides
import Derived.ProofKit
import Derived.OpenShut
import Derived.ShutString
import Derived.ChangeOld
import Derived.Below
set_option linter.unusedVariables false
set_option linter.unusedSimpArgs false
set_option linter.unusedSectionVars false
set_option maxHeartbeats 8000000
set_option maxRecDepth 100000
namespace Go.Proofs.Ytneaomdgjlmleaa
namespace detectBroken
open Go.ChangeShapes Go.WideShapes Go.ChangeAt Go.RowKit
open Tab Dtc
open GenT (genTab)
theorem own : ownKnob Try.prog.godebug = none := by kernel_rfl
theorem laidOut : laidOutB Try.prog = true := by kernel_rfl
/-- WHAT THE WALK IS TOLD OF A SLICE OF INTEGERS THAT CAME IN: it is nil; or it leads to a row of 'cap' cells, the numbers 'zs' (the first 'len' are its elements, the rest its spare room), each fitting its kind. -/
def IsRow (k : IntKind) (w : World) (a : Option Addr) (len cap : Nat) (zs : List Int) : Prop :=
  (a = none ∧ len = 0 ∧ cap = 0 ∧ zs = []) ∨
  ∃ x, a = some x ∧ len ≤ cap ∧ cap ≤ maxLen ∧ zs.length = cap ∧ (∀ i, i < zs.length → w.cell? (x.add i) = some (.int k (zs.getD i 0))) ∧ ∀ n ∈ zs, (Lit.int k n).wf = true
theorem isRow_int {w : World} {a : Option Addr} {len cap : Nat} {zs : List Int} (h : IsRow .i64 w a len cap zs) : (zs.take len).length = len ∧ Tab.IntRow w ⟨a, cap⟩ (zs.take len) := by
  rcases h with ⟨rfl, rfl, rfl, rfl⟩ | ⟨x, rfl, h1, h2, h3, h4, _⟩
  · exact ⟨rfl, .inl ⟨rfl, rfl, rfl⟩⟩
  · have hl : (zs.take len).length = len := by rw [List.length_take]; omega
    refine ⟨hl, .inr ⟨x, rfl, by rw [hl]; exact h1, h2, fun i v hv j u hu => ?_⟩⟩
    have hi : i < len := by have := (List.getElem?_eq_some_iff.1 hv).1; omega
    match j, hu with
    | 0, hu =>
      simp at hu
      subst hu
      rw [List.getElem?_take, if_pos hi] at hv
      have := h4 i (by omega)
      rw [List.getD_eq_getElem?_getD, hv] at this
      rw [Nat.mul_one, Tab.add_two, Nat.add_zero]
      exact this
    | j + 1, hu => simp at hu
/-! ### the walk -/
theorem walk (a0 : Option Addr) (len0 cap0 : Nat) (z0 : List Int) (a1 : Option Addr) (len1 cap1 : Nat) (z1 : Nat → Nat) (a2 : Int) (a3 : Int) (w : World) (w0 : IsRow .i64 w a0 len0 cap0 z0) (w1 : Recs.IsFlts w a1 len1 cap1 z1) (w2 : (Lit.int .i64 a2).wf = true) (w3 : (Lit.int .i64 a3).wf = true) :
    Calls Try.prog 9 #[.slice a0 len0 cap0, .slice a1 len1 cap1, .int .i64 a2, .int .i64 a3] w fun e w' => e = .returned (.bool true) ∧ Below w.heap.size w w' := by
  obtain ⟨x, hA, hl1, hc1⟩ := Lvl.flts_at w1
  have HA := Lib.hid hA
  unfold maxLen at hc1
  clear hA w1
  obtain ⟨k4, hk4, hk44⟩ : ∃ k4 : Nat, a2 % 4 = (k4 : Int) ∧ k4 < 4 := ⟨(a2 % 4).toNat, by omega, by omega⟩
  obtain ⟨N, hN40, hNlt⟩ : ∃ N : Nat, a3 % 40 = (N : Int) ∧ N < 40 := ⟨(a3 % 40).toNat, by omega, by omega⟩
  have P4 : Hid (∀ W, Calls Try.prog 20 #[.int .i64 a2, .int .i64 4] W fun e w' => e = .returned (.int .i64 k4) ∧ W = w') := Lib.hid (fun W => by have := RefS.place_any a2 4 W (by decide) (by decide); rwa [hk4] at this)
  have P40 : Hid (∀ W, Calls Try.prog 20 #[.int .i64 a3, .int .i64 40] W fun e w' => e = .returned (.int .i64 N) ∧ W = w') := Lib.hid (fun W => by have := RefS.place_any a3 40 W (by decide) (by decide); rwa [hN40] at this)
  obtain ⟨bx, ⟨hbxw, hbb⟩, hix⟩ := idx4b (a0 := NAN) (a1 := 9218868437227405312) (a2 := 18442240474082181120) (a3 := 4701340746312056832) (p := fun x => x < 18446744073709551616 ∧ Lvl.bad x = true) (by decide) (by decide) (by decide) (by decide) k4 hk44
  have HIX := Lib.hid hix
  have HBB := Lib.hid hbb
  clear hk4 hN40 hix hbb
  obtain ⟨hlen, hrow⟩ := isRow_int w0
  obtain ⟨L, hL⟩ : ∃ L, L = z0.take len0 := ⟨_, rfl⟩
  rw [← hL] at hlen hrow
  clear hL w0
  subst hlen
  have hz := (zero_of_info GenT.infoTz).1
  have hZs : (Clone.zTab.cells Clone.zHd).length = 131 := rfl
  generalize hZ : GenT.zTab.cells GenT.zHd = Z at *
  have ZS : Z.toArray.size = 131 := by rw [← hZ]; rfl
  clear hZ hZs
  have GD := Lib.hid (gen_dets_len L)
  go_enter Try.func9, Try.ntmps9
  go_wp2_with fail
  refine (GenT.table_own a0 cap0 L w hrow).mono ?_
  rintro e u0 ⟨hd, rfl, ht, ow, hb⟩
  have CS := GenT.cells_cut hd ht.ph ht.cf ht.fl
  have ON := (cells_ok ht).one
  have HT : Hid (∀ W, Below u0.heap.size u0 W → IsTab W hd (genTab L)) := Lib.hid (fun W hb => ht.below hb)
  have B0 := Lib.hid hb
  have IA : Hid ((Try.prog.info? 31).map (·.size) = some ((genTab L).cells hd).length) := Lib.hid (by rw [CS]; exact infoT)
  have UX0 : Hid (BendU.Ux w u0.heap.size hd (genTab L) (u0.alloc (.cells ((genTab L).cells hd).toArray 31))) := Lib.hid (by
    have hb2 : Below u0.heap.size u0 (u0.alloc (.cells ((genTab L).cells hd).toArray 31)) := (Below.refl _ _).alloc (Nat.le_refl _) _
    exact ⟨hb.trans (hb2.mono hb.size), hb.size, heap_alloc_new u0 _, ht.ph, ht.cf, ht.fl, ow.groups.grown (GenG.grown_below hb2 none) (fun m e => by cases e), ow.dets.below hb2, ow.rails.below hb2, ow.buses.below hb2⟩)
  clear hb ht ow
  generalize hc : (genTab L).cells hd = c at *
  have HC := Lib.hid hc
  clear hc
  go_upto_region 2 with (refine Row.wpList_store_new rfl 31 _ _ rfl u0 Z.toArray c.toArray rfl rfl rfl (by rw [List.size_toArray]; exact IA.out) (by rw [ZS, List.size_toArray, CS]) ON ?_)
  have hb2 : Below u0.heap.size u0 (u0.alloc (.cells c.toArray 31)) := (Below.refl _ _).alloc (Nat.le_refl _) _
  have hl : Lies (u0.alloc (.cells c.toArray 31)) ⟨u0.heap.size, 0, none⟩ c := Row.lies_new _ _ _
  have TB0 : Hid (∀ W, Below (u0.alloc (.cells c.toArray 31)).heap.size (u0.alloc (.cells c.toArray 31)) W → IsTab W hd (genTab L)) := Lib.hid (fun W hb => HT.out W (hb2.trans (hb.mono hb2.size)))
  generalize u0.alloc (.cells c.toArray 31) = u at hb2 hl TB0 UX0 ⊢
  have TB : Hid (∀ W, Below u.heap.size u W → IsTab W hd (genTab L)) := TB0
  have A0 : Hid (Below w.heap.size w u) := Lib.hid (B0.out.trans (hb2.mono B0.out.size))
  have A1 : Hid (∀ W, Below u.heap.size u W → Lies W ⟨u0.heap.size, 0, none⟩ c) := Lib.hid (fun W hb => Lies.below hl hb)
  clear hb2 hl TB0 HT B0 hrow hz ZS ON CS
  generalize u0.heap.size = tb at *
  obtain ⟨ds, hds⟩ : ∃ d, (genTab L).dets = d := ⟨_, rfl⟩
  obtain ⟨n, hn⟩ : ∃ m, ds.length = m := ⟨_, rfl⟩
  have HDS := Lib.hid hds
  have HN := Lib.hid hn
  rw [hds, hn] at GD
  clear hds hn
  have few : n ≤ 1000 := by have := GD.out; omega
  have HT := TB
  have ST : Hid (n ≤ 1000 → ∀ W, Below u.heap.size u W → ∀ (a : Option Addr) (cap : Nat) (l : List Ch) (m : Nat) (b : Option Addr) (cap2 : Nat) (xs : List Nat) (k : Nat), RowOf 7 Ch.cells W ⟨a, cap⟩ l → l.length = m → FltRow W ⟨b, cap2⟩ xs → xs.length = k → Calls Try.prog 25 #[.agg c.toArray, .slice a m cap, .slice b k cap2] W fun e w' => ∃ s : Sl, e = .returned (s.val n) ∧ RowOf 7 Ch.cells w' s (dts ds l xs) ∧ Below W.heap.size W w') := Lib.hid (fun few W hb a cap l m b cap2 xs k hl hm hx hk => by subst hm hk; have := step_any (HT.out W hb) (by rw [HDS.out, HN.out]; exact few) hl hx; rw [HC.out, HDS.out, HN.out] at this; exact this)
  have RD : Hid (n ≤ 1000 → ∀ W, Below u.heap.size u W → ∀ (a : Option Addr) (cap : Nat) (l : List Ch) (m : Nat) (b : Option Addr) (cap2 : Nat) (xs : List Nat) (k : Nat), RowOf 7 Ch.cells W ⟨a, cap⟩ l → l.length = m → FltRow W ⟨b, cap2⟩ xs → xs.length = k → Calls Try.prog 26 #[.agg c.toArray, .slice a m cap, .slice b k cap2] W fun e w' => ∃ s : Sl, e = .returned (s.val n) ∧ RowOf 7 Ch.cells w' s (dts ds l xs) ∧ Below W.heap.size W w') := Lib.hid (fun few W hb a cap l m b cap2 xs k hl hm hx hk => by subst hm hk; have := rdet_any (HT.out W hb) (by rw [HDS.out, HN.out]; exact few) hl hx; rw [HC.out, HDS.out, HN.out] at this; exact this)
  have HE : Hid (∀ W, Below u.heap.size u W → ∀ (a : Option Addr) (cap : Nat) (l : List Ch) (m : Nat), RowOf 7 Ch.cells W ⟨a, cap⟩ l → l.length = m → Calls Try.prog 28 #[.agg c.toArray, .slice a m cap] W fun e w' => e = .returned (.int .i64 (her ds l (min n m) : Nat)) ∧ Below W.heap.size W w') := Lib.hid (fun W hb a cap l m hl hm => by subst hm; have := here_any (HT.out W hb) hl; rw [HC.out, HDS.out, HN.out] at this; exact this)
  have RH : Hid (∀ W, Below u.heap.size u W → ∀ (a : Option Addr) (cap : Nat) (l : List Ch) (m : Nat), RowOf 7 Ch.cells W ⟨a, cap⟩ l → l.length = m → Calls Try.prog 29 #[.agg c.toArray, .slice a m cap] W fun e w' => e = .returned (.int .i64 (her ds l (min n m) : Nat)) ∧ Below W.heap.size W w') := Lib.hid (fun W hb a cap l m hl hm => by subst hm; have := rhere_any (HT.out W hb) hl; rw [HC.out, HDS.out, HN.out] at this; exact this)
  have UX := Lib.hid UX0.out
  clear UX0
  have SO : Hid (∀ W, Below u.heap.size u W → ∀ (a : Option Addr) (cap : Nat) (l : List Ch) (m : Nat) (b : Option Addr) (cap2 : Nat) (xs : List Nat) (k : Nat), RowOf 7 Ch.cells W ⟨a, cap⟩ l → l.length = m → FltRow W ⟨b, cap2⟩ xs → xs.length = k → Calls Try.prog 25 #[.agg c.toArray, .slice a m cap, .slice b k cap2] W fun e w' => ∃ s : Sl, e = .returned (s.val n) ∧ RowOf 7 Ch.cells w' s (dts ds l xs) ∧ (∀ x, s.a = some x → u.heap.size ≤ x.block) ∧ Below W.heap.size W w') := Lib.hid (fun W hb a cap l m b cap2 xs k hl hm hx hk => by subst hm hk; have := step_own (HT.out W hb) (by rw [HDS.out, HN.out]; exact few) hl hx; rw [HC.out, HDS.out, HN.out] at this; exact this.mono fun e w' ⟨s, h1, h2, h3, h4⟩ => ⟨s, h1, h2, fun x hx => Nat.le_trans hb.size (h3 x hx), h4⟩)
  have QD : Hid (∀ d ∈ ds, Quiet d) := Lib.hid (by rw [← HDS.out]; exact gen_quiets L)
  have hdl := (HT.out u (Below.refl _ _)).dets.len
  rw [HDS.out, HN.out] at hdl
  obtain ⟨sg, ⟨da, dcap⟩, sr, sb⟩ := hd
  have Q113 : Hid (∀ W, Below u.heap.size u W → W.cell? ⟨tb, 113, none⟩ = some (.slice da n dcap)) := Lib.hid (fun W hb => by
    have := A1.out W hb 113 (.slice da n dcap) (by rw [← HC.out, ← List.getElem?_toArray, (cells_ok (HT.out u (Below.refl _ _))).d, HDS.out, HN.out])
    simpa [Addr.add] using this)
  dsimp only at hdl
  unfold maxLen at hdl
  obtain ⟨hdl1, hdl2⟩ := hdl
  have n8 := GD.out
  by_cases h30 : 30 < len1
  · go_wp2_with fail
    refine (Dtc.awake_any _).mono ?_
    rintro e u9 ⟨rfl, b9⟩
    have BF := Lib.hid (A0.out.trans (b9.mono A0.out.size))
    clear b9
    go_wp2
    go_ret
    exact ⟨rfl, BF.out⟩
  go_wp2_with fail
  go_loopw [10, 11] (fun va i wr => ∃ (q k : Nat) (l : List Ch) (aa : Option Addr) (ca : Nat), q ≤ len1 ∧ i = .int .i64 q ∧ va = .slice aa k ca ∧ Hid (l.length = k) ∧ RowOf 7 Ch.cells wr ⟨aa, ca⟩ l ∧ Hid (∀ x, aa = some x → u.heap.size ≤ x.block) ∧ Hid (∀ d, d < n → Tl (l.getD d zCh)) ∧ Below u.heap.size u wr) (fun _ i _ => len1 - (intOf i).toNat)
  case atStart => exact ⟨0, 0, [], none, 0, by omega, rfl, rfl, Lib.hid rfl, RowOf.nil _, Lib.hid (fun x hx => by cases hx), Lib.hid (fun d _ h => by cases h), Below.refl _ _⟩
  case round =>
    obtain ⟨q, k, l, aa, ca, hq, rfl, rfl, HLK, hra, HFRESH, HTL, hbw⟩ := hrel
    have HRA := Lib.hid hra
    have HBW := Lib.hid hbw
    clear hra hbw
    by_cases hlt : q < len1
    · obtain ⟨hx, hzl, hxw⟩ := HA.out q hlt
      subst hx
      go_upto_region 8 with fail
      refine wp_region_held (S := fun w' => Below wr.heap.size wr w') (by kernel_rfl) ?_
      have hS : Below wr.heap.size wr { wr with drawn := wr.drawn + 1 } := (Below.refl _ _).drew
      generalize ({ wr with drawn := wr.drawn + 1 } : World) = v at hS ⊢
      have BV : Hid (∀ W, Below wr.heap.size wr W → Below u.heap.size u W) := Lib.hid (fun W hb => HBW.out.trans (hb.mono HBW.out.size))
      have CF : Hid (∀ w', Below wr.heap.size wr w' → w'.cell? (x.add q) = some (F (z1 q))) := Lib.hid (fun w' hb => Lvl.at_below hzl (A0.out.trans ((BV.out w' hb).mono A0.out.size)))
      refine Held.take_load (i := 0) (some 30) rfl 31 (.tmp 9) ⟨tb, 0, none⟩ c _ rfl rfl (by kernel_rfl) (by kernel_rfl) (by kernel_rfl) (fun _ _ _ h => h) (by rfl) hS rfl (fun w' hw' => A1.out w' (BV.out w' hw')) Try.underlying31 rfl IA.out ?_
      (try dsimp only [Act.put]); (try simp only [List.setIfInBounds_toArray, List.set_cons_zero, List.set_cons_succ])
      refine Held.take (i := 1) (some 31) rfl (v := ?_) rfl (by kernel_rfl) (by kernel_rfl) (by kernel_rfl) (fun _ _ _ h => h) (Or.inl ⟨by rfl, ?_⟩) hS ?_
      rotate_left
      · intro w' hw'
        go_simp
        try with_reducible rfl
      (try dsimp only [Act.put]); (try simp only [List.setIfInBounds_toArray, List.set_cons_zero, List.set_cons_succ])
      refine Held.take (i := 2) (some 32) rfl (v := ?_) rfl (by kernel_rfl) (by kernel_rfl) (by kernel_rfl) (fun _ _ _ h => h) (Or.inl ⟨by rfl, ?_⟩) hS ?_
      rotate_left
      · intro w' hw'
        go_simp
        try with_reducible rfl
      (try dsimp only [Act.put]); (try simp only [List.setIfInBounds_toArray, List.set_cons_zero, List.set_cons_succ])
      refine Held.take (i := 3) (some 33) rfl (v := ?_) rfl (by kernel_rfl) (by kernel_rfl) (by kernel_rfl) (fun _ _ _ h => h) (Or.inl ⟨by rfl, ?_⟩) hS ?_
      rotate_left
      · intro w' hw'
        go_simp
        try with_reducible rfl
      (try dsimp only [Act.put]); (try simp only [List.setIfInBounds_toArray, List.set_cons_zero, List.set_cons_succ])
      refine Held.take (i := 4) (some 34) rfl (v := ?_) rfl (by kernel_rfl) (by kernel_rfl) (by kernel_rfl) (fun _ _ _ h => h) (Or.inl ⟨by rfl, ?_⟩) hS ?_
      rotate_left
      · intro w' hw'
        go_simp
        try with_reducible rfl
      (try dsimp only [Act.put]); (try simp only [List.setIfInBounds_toArray, List.set_cons_zero, List.set_cons_succ])
      refine Held.take (i := 5) (some 35) rfl (v := ?_) rfl (by kernel_rfl) (by kernel_rfl) (by kernel_rfl) (fun _ _ _ h => h) (Or.inl ⟨by rfl, ?_⟩) hS ?_
      rotate_left
      · intro w' hw'
        have cf := CF.out w' hw'
        go_simp
        try with_reducible rfl
      (try dsimp only [Act.put]); (try simp only [List.setIfInBounds_toArray, List.set_cons_zero, List.set_cons_succ])
      refine Held.take (i := 6) (some 36) rfl (v := ?_) rfl (by kernel_rfl) (by kernel_rfl) (by kernel_rfl) (fun _ _ _ h => h) (Or.inl ⟨by rfl, ?_⟩) hS ?_
      rotate_left
      · intro w' hw'
        go_simp
        try with_reducible rfl
      (try dsimp only [Act.put]); (try simp only [List.setIfInBounds_toArray, List.set_cons_zero, List.set_cons_succ])
      refine Held.take (i := 7) (some 37) rfl (v := ?_) rfl (by kernel_rfl) (by kernel_rfl) (by kernel_rfl) (fun _ _ _ h => h) (Or.inl ⟨by rfl, ?_⟩) hS ?_
      rotate_left
      · intro w' hw'
        go_simp
        try with_reducible rfl
      (try dsimp only [Act.put]); (try simp only [List.setIfInBounds_toArray, List.set_cons_zero, List.set_cons_succ])
      refine Held.take (i := 8) (some 38) rfl (v := ?_) rfl (by kernel_rfl) (by kernel_rfl) (by kernel_rfl) (fun _ _ _ h => h) (Or.inl ⟨by rfl, ?_⟩) hS ?_
      rotate_left
      · intro w' hw'
        go_simp
        try with_reducible rfl
      (try dsimp only [Act.put]); (try simp only [List.setIfInBounds_toArray, List.set_cons_zero, List.set_cons_succ])
      refine Held.take (i := 9) (some 39) rfl (v := ?_) rfl (by kernel_rfl) (by kernel_rfl) (by kernel_rfl) (fun _ _ _ h => h) (Or.inl ⟨by rfl, ?_⟩) hS ?_
      rotate_left
      · intro w' hw'
        have cf := CF.out w' hw'
        go_simp
        try with_reducible rfl
      (try dsimp only [Act.put]); (try simp only [List.setIfInBounds_toArray, List.set_cons_zero, List.set_cons_succ])
      refine Held.take (i := 10) (some 40) rfl (v := ?_) rfl (by kernel_rfl) (by kernel_rfl) (by kernel_rfl) (fun _ _ _ h => h) (Or.inl ⟨by rfl, ?_⟩) hS ?_
      rotate_left
      · intro w' hw'
        go_simp
        try with_reducible rfl
      (try dsimp only [Act.put]); (try simp only [List.setIfInBounds_toArray, List.set_cons_zero, List.set_cons_succ])
      refine Held.take (i := 11) (some 41) rfl (v := ?_) rfl (by kernel_rfl) (by kernel_rfl) (by kernel_rfl) (fun _ _ _ h => h) (Or.inl ⟨by rfl, ?_⟩) hS ?_
      rotate_left
      · intro w' hw'
        go_simp
        try with_reducible rfl
      (try dsimp only [Act.put]); (try simp only [List.setIfInBounds_toArray, List.set_cons_zero, List.set_cons_succ])
      refine Held.take (i := 12) (some 42) rfl (v := ?_) rfl (by kernel_rfl) (by kernel_rfl) (by kernel_rfl) (fun _ _ _ h => h) (Or.inl ⟨by rfl, ?_⟩) hS ?_
      rotate_left
      · intro w' hw'
        go_simp
        try with_reducible rfl
      (try dsimp only [Act.put]); (try simp only [List.setIfInBounds_toArray, List.set_cons_zero, List.set_cons_succ])
      refine Held.take (i := 13) (some 43) rfl (v := ?_) rfl (by kernel_rfl) (by kernel_rfl) (by kernel_rfl) (fun _ _ _ h => h) (Or.inl ⟨by rfl, ?_⟩) hS ?_
      rotate_left
      · intro w' hw'
        have cf := CF.out w' hw'
        go_simp
        try with_reducible rfl
      (try dsimp only [Act.put]); (try simp only [List.setIfInBounds_toArray, List.set_cons_zero, List.set_cons_succ])
      refine Held.take (i := 14) (some 44) rfl (v := ?_) rfl (by kernel_rfl) (by kernel_rfl) (by kernel_rfl) (fun _ _ _ h => h) (Or.inl ⟨by rfl, ?_⟩) hS ?_
      rotate_left
      · intro w' hw'
        go_simp
        try with_reducible rfl
      (try dsimp only [Act.put]); (try simp only [List.setIfInBounds_toArray, List.set_cons_zero, List.set_cons_succ])
      refine Held.take (i := 15) (some 45) rfl (v := ?_) rfl (by kernel_rfl) (by kernel_rfl) (by kernel_rfl) (fun _ _ _ h => h) (Or.inl ⟨by rfl, ?_⟩) hS ?_
      rotate_left
      · intro w' hw'
        go_simp
        try with_reducible rfl
      (try dsimp only [Act.put]); (try simp only [List.setIfInBounds_toArray, List.set_cons_zero, List.set_cons_succ])
      refine Held.take (i := 16) (some 46) rfl (v := ?_) rfl (by kernel_rfl) (by kernel_rfl) (by kernel_rfl) (fun _ _ _ h => h) (Or.inl ⟨by rfl, ?_⟩) hS ?_
      rotate_left
      · intro w' hw'
        go_simp
        try with_reducible rfl
      (try dsimp only [Act.put]); (try simp only [List.setIfInBounds_toArray, List.set_cons_zero, List.set_cons_succ])
      refine Held.take (i := 17) (some 47) rfl (v := ?_) rfl (by kernel_rfl) (by kernel_rfl) (by kernel_rfl) (fun _ _ _ h => h) (Or.inl ⟨by rfl, ?_⟩) hS ?_
      rotate_left
      · intro w' hw'
        have cf := CF.out w' hw'
        go_simp
        try with_reducible rfl
      (try dsimp only [Act.put]); (try simp only [List.setIfInBounds_toArray, List.set_cons_zero, List.set_cons_succ])
      refine wpAnyH_ready (rs := [18]) (by kernel_rfl) (by simp) (AllReadyH.cons rfl (fun K hK => ?_) AllReadyH.nil)
      go_simp
      have hf := flt_rep v (z1 q) 4 hxw (by decide) 60 (cs := #[F (z1 q), F (z1 q), F (z1 q), F (z1 q)]) rfl
      have hq2 := hS.alloc hS.size (.cells #[F (z1 q), F (z1 q), F (z1 q), F (z1 q)] 60)
      generalize v.heap.size = gb at hf ⊢
      generalize World.alloc v _ = v2 at hf hq2 ⊢
      clear hS
      refine hK.out _ _ hq2 (fun hS => ?_)
      clear hK K hq2
      refine wpAnyH_ready (rs := [19]) (by kernel_rfl) (by simp) (AllReadyH.cons rfl (fun K hK => ?_) AllReadyH.nil)
      go_simp
      refine (SO.out v2 (BV.out v2 hS) aa ca l k _ 4 (List.replicate 4 (z1 q)) 4 (HRA.out.below hS) HLK.out hf (by simp)).mono ?_
      rintro e v3 ⟨⟨na, nca⟩, rfl, hrow, hnew, hb⟩
      have hq3 := hS.trans (hb.mono hS.size)
      have HR3 := Lib.hid hrow
      have HNEW := Lib.hid hnew
      clear hS hb hf hrow hnew
      dsimp only [Tab.Sl.val]
      go_simp
      refine hK.out _ _ hq3 (fun hS => ?_)
      clear hK K hq3
      refine Held.take (i := 20) (some 10) rfl (v := ?_) rfl (by kernel_rfl) (by kernel_rfl) (by kernel_rfl) (fun _ _ _ h => h) (Or.inl ⟨by rfl, ?_⟩) hS ?_
      rotate_left
      · intro w' hw'
        go_simp
        try with_reducible rfl
      (try dsimp only [Act.put]); (try simp only [List.setIfInBounds_toArray, List.set_cons_zero, List.set_cons_succ])
      refine wpAnyH_done (by kernel_rfl) ?_ _
      have HBW2 := Lib.hid (BV.out _ hS)
      have HD : Hid ((dts ds l (List.replicate 4 (z1 q))).length = n) := Lib.hid (by rw [dts_len, HN.out])
      have HT2 : Hid (∀ d, d < n → Tl ((dts ds l (List.replicate 4 (z1 q))).getD d zCh)) := Lib.hid (fun d hd => by rw [dts_getD (by rw [HN.out]; exact hd)]; exact tl_step (QD.out _ (by rw [List.getD_eq_getElem?_getD, List.getElem?_eq_getElem (by rw [HN.out]; exact hd)]; exact List.getElem_mem _)).ext (HTL.out d hd))
      clear hS BV CF HRA HLK HTL HBW
      go_wp2
      go_roundw
      case rel => exact ⟨q + 1, n, _, na, nca, by omega, by go_num, rfl, HD, HR3.out, HNEW, HT2, HBW2.out⟩
      case measure => simp [intOf]; omega
    · obtain rfl : q = len1 := by omega
      have hixn := HIX.out
      go_upto_region 10 with (first | (go_at_call 31; refine (nan_any _).mono ?_; rintro e w' ⟨rfl, rfl⟩) | (go_at_call 32; refine (Scr.inf_1 _).mono ?_; rintro e w' ⟨rfl, rfl⟩) | (go_at_call 32; refine (Scr.inf_m1 _).mono ?_; rintro e w' ⟨rfl, rfl⟩) | (go_at_call 20; refine (P4.out _).mono ?_; rintro e w' ⟨rfl, rfl⟩))
      clear hixn HIX P4
      rename World => W1
      go_wp2_with fail
      go_loopw [13, 14] (fun vs i wr => ∃ (q2 : Nat), q2 ≤ n ∧ i = .int .i64 q2 ∧ vs = .int .i64 (alls ds q2 : Nat) ∧ Below W1.heap.size W1 wr) (fun _ i _ => n - (intOf i).toNat)
      case atStart => exact ⟨0, by omega, rfl, rfl, Below.refl _ _⟩
      case round =>
        obtain ⟨q2, hq2, rfl, rfl, hB⟩ := hrel
        have HB1 := Lib.hid hB
        clear hB
        have k113 := Q113.out wr (HBW.out.trans (HB1.out.mono HBW.out.size))
        by_cases hlt2 : q2 < n
        · obtain ⟨d, hd⟩ : ∃ d, ds[q2]? = some d := ⟨_, List.getElem?_eq_getElem (by rw [HN.out]; exact hlt2)⟩
          obtain ⟨y, hy, hly⟩ := ((HT.out wr (HBW.out.trans (HB1.out.mono HBW.out.size))).dets).at (by rw [HDS.out]; exact hd)
          have hy : da = some y := hy
          subst hy
          have hph : ds.getD q2 default = d := by rw [List.getD_eq_getElem?_getD, hd]; rfl
          have HAL : Hid (alls ds (q2 + 1) = SetM.withN (alls ds q2 : Nat) d.phase) := Lib.hid (by show SetM.withN _ _ = _; rw [hph])
          have p0 : wr.cell? (y.add (q2 * 7)) = some (I d.phase) := by have := hly 0 _ rfl; rwa [Tab.add_zero] at this
          clear hd hly hph
          go_wp2_with fail
          refine (RefS.rwith_any _ _ _).mono ?_
          rintro e W2 ⟨rfl, b2⟩
          have HB2 := Lib.hid (HB1.out.trans (b2.mono HB1.out.size))
          clear b2 p0 k113 HB1
          go_wp2
          go_roundw
          case rel => exact ⟨q2 + 1, by omega, by go_num, by rw [HAL.out], HB2.out⟩
          case measure => simp [intOf]; omega
        · obtain rfl : q2 = n := by omega
          have HRA1 := Lib.hid (HRA.out.below HB1.out)
          have HBW1 := Lib.hid (HBW.out.trans (HB1.out.mono HBW.out.size))
          clear HRA HBW HB1
          go_wp2_with fail
          clear k113
          go_loopw [10, 15] (fun va i wr => ∃ (j k : Nat) (l : List Ch) (aa : Option Addr) (ca : Nat), j ≤ 3 + N ∧ i = .int .i64 ((1 + j : Nat) : Int) ∧ va = .slice aa k ca ∧ Hid (l.length = k) ∧ RowOf 7 Ch.cells wr ⟨aa, ca⟩ l ∧ Hid (∀ x, aa = some x → u.heap.size ≤ x.block) ∧ Hid (∀ d, d < q2 → Tl (l.getD d zCh)) ∧ Hid (∀ d, d < q2 → j = 0 ∨ ((min j 3 : Nat) : Int) ≤ (l.getD d zCh).lv.bad) ∧ Below u.heap.size u wr) (fun _ i _ => 4 + N - (intOf i).toNat)
          case atStart => exact ⟨0, k, l, aa, ca, by omega, rfl, rfl, HLK, HRA1.out, HFRESH, HTL, Lib.hid (fun d _ => .inl rfl), HBW1.out⟩
          case round =>
            clear HRA1 HBW1 HFRESH HTL HLK
            obtain ⟨j, k, l, aa, ca, hj, rfl, rfl, HLK, hra, HFRESH, HTL, HBD, hbw⟩ := hrel
            have HRA := Lib.hid hra
            have HBW := Lib.hid hbw
            clear hra hbw
            by_cases hjl : j < 3 + N
            · have hba : Below wr.heap.size wr (wr.alloc (.cells #[F bx, F bx, F bx, F bx, F bx, F bx, F bx, F bx] 60)) := (Below.refl _ _).alloc (Nat.le_refl _) _
              have hf := flt_rep wr bx 8 hbxw (by decide) 60 (cs := #[F bx, F bx, F bx, F bx, F bx, F bx, F bx, F bx]) rfl
              have HF := Lib.hid hf
              have HBA := Lib.hid hba
              clear hf hba
              go_wp2_with (first | (go_at_call 20; refine (P40.out _).mono ?_; rintro e w' ⟨rfl, rfl⟩) | (refine Row.wpList_load_g 31 _ rfl (by first | rfl | go_simp) ⟨tb, 0, none⟩ rfl c _ (A1.out _ HBW.out) Try.underlying31 rfl IA.out ?_))
              refine (SO.out _ (HBW.out.trans (HBA.out.mono HBW.out.size)) aa ca l k _ 8 (List.replicate 8 bx) 8 (HRA.out.below HBA.out) HLK.out HF.out (by simp)).mono ?_
              rintro e v5 ⟨⟨na, nca⟩, rfl, hrow, HNEW, hb⟩
              have HNEW := Lib.hid HNEW
              have HBW5 := Lib.hid (HBW.out.trans ((HBA.out.trans (hb.mono HBA.out.size)).mono HBW.out.size))
              have HR5 := Lib.hid hrow
              have HD : Hid ((dts ds l (List.replicate 8 bx)).length = q2) := Lib.hid (by rw [dts_len, HN.out])
              have HT5 : Hid (∀ d, d < q2 → Tl ((dts ds l (List.replicate 8 bx)).getD d zCh)) := Lib.hid (fun d hd => by rw [dts_getD (by rw [HN.out]; exact hd)]; exact tl_step (QD.out _ (by rw [List.getD_eq_getElem?_getD, List.getElem?_eq_getElem (by rw [HN.out]; exact hd)]; exact List.getElem_mem _)).ext (HTL.out d hd))
              have HB5 : Hid (∀ d, d < q2 → ((min (j + 1) 3 : Nat) : Int) ≤ ((dts ds l (List.replicate 8 bx)).getD d zCh).lv.bad) := Lib.hid (fun d hd => by rw [dts_getD (by rw [HN.out]; exact hd), rep_getD (by omega)]; exact bad_step HBB.out (HBD.out d hd))
              clear hb hrow HF HBA HRA HTL HBD HBW HLK HFRESH
              generalize dts ds l (List.replicate 8 bx) = D at HR5 HD HT5 HB5
              dsimp only [Tab.Sl.val]
              by_cases h3 : 2 ≤ j
              · have hd3 : decide ((3 : Int) ≤ 1 + (j : Int)) = true := decide_eq_true (by omega)
                have hd4 : (3 : Int) ≤ 1 + (j : Int) := by omega
                have HEQ : Hid (her ds D (min q2 q2) = alls ds q2) := Lib.hid (by rw [Nat.min_self]; exact her_all q2 (fun d hd => bad_out (by have := HB5.out d hd; omega)))
                go_wp2_with (refine Row.wpList_load_g 31 _ rfl (by first | rfl | go_simp) ⟨tb, 0, none⟩ rfl c _ (A1.out _ HBW5.out) Try.underlying31 rfl IA.out ?_)
                refine (HE.out v5 HBW5.out na nca D q2 HR5.out HD.out).mono ?_
                rintro e v6 ⟨rfl, hb⟩
                rw [HEQ.out]
                have HBW6 := Lib.hid (HBW5.out.trans (hb.mono HBW5.out.size))
                have HR6 := Lib.hid (HR5.out.below hb)
                clear hb HR5 HBW5
                go_wp2
                go_roundw
                case rel => exact ⟨j + 1, q2, D, na, nca, by omega, by go_num, rfl, HD, HR6.out, HNEW, HT5, Lib.hid (fun d hd => .inr (HB5.out d hd)), HBW6.out⟩
                case measure => simp [intOf]; omega
              · have hd3 : decide ((3 : Int) ≤ 1 + (j : Int)) = false := decide_eq_false (by omega)
                have hd4 : ¬ (3 : Int) ≤ 1 + (j : Int) := by omega
                go_wp2
                go_roundw
                case rel => exact ⟨j + 1, q2, D, na, nca, by omega, by go_num, rfl, HD, HR5.out, HNEW, HT5, Lib.hid (fun d hd => .inr (HB5.out d hd)), HBW5.out⟩
                case measure => simp [intOf]; omega
            · obtain rfl : j = 3 + N := by omega
              clear HBD
              go_wp2_with (go_at_call 20; refine (P40.out _).mono ?_; rintro e w' ⟨rfl, rfl⟩)
              have UX3 := Lib.hid (UX.out.step HBW.out)
              have UX30 : Hid (BendU.Ux w tb ⟨sg, ⟨da, dcap⟩, sr, sb⟩ { genTab L with dets := dz ds 0 } wr) := Lib.hid (by rw [dz_zero, ← HDS.out]; exact UX3.out)
              clear UX3
              obtain ⟨T0, hT0⟩ : ∃ T0, genTab L = T0 := ⟨_, rfl⟩
              rw [hT0] at UX30
              have HT0 := Lib.hid hT0
              clear hT0
              rename World => W3
              go_loopw [16] (fun i wr => ∃ (q4 : Nat), q4 ≤ q2 ∧ i = .int .i64 q4 ∧ BendU.Ux w tb ⟨sg, ⟨da, dcap⟩, sr, sb⟩ { T0 with dets := dz ds q4 } wr ∧ RowOf 7 Ch.cells wr ⟨aa, ca⟩ l) (fun i _ => q2 - (intOf i).toNat)
              case atStart => exact ⟨0, by omega, rfl, UX30.out, HRA.out⟩
              case round =>
                clear UX30 HRA
                obtain ⟨q4, hq4, rfl, hux, hra⟩ := hrel
                have HUX := Lib.hid hux
                have HRA := Lib.hid hra
                clear hux hra
                have k113 : wr.cell? ⟨tb, 113, none⟩ = some (.slice da q2 dcap) := by rw [HUX.out.cell, ← List.getElem?_toArray, (cells_ok HUX.out.tab).d]; simp [Tab.Sl.val, dz_len, HN.out]
                by_cases hlt4 : q4 < q2
                · obtain ⟨g, hga, hgu⟩ : ∃ g, da = some ⟨g, 0, none⟩ ∧ g < u.heap.size := by
                    rcases UX.out.dets.2 with ⟨e, h0⟩ | ⟨g, c0, cur, e, h1, h2, _⟩
                    · rw [HDS.out, HN.out] at h0; omega
                    · simp [Tab.Sl.val] at e
                      exact ⟨g, e.1, (Array.getElem?_eq_some_iff.1 h2).1⟩
                  subst hga
                  obtain ⟨d, hd⟩ : ∃ d, ds.getD q4 default = d := ⟨_, rfl⟩
                  have hdz : (dz ds q4)[q4]? = some d := by rw [dz_at (by rw [HN.out]; exact hlt4), if_neg (by omega), hd]
                  have hfr : ∀ x, aa = some x → x.block ≠ g := fun x hx => by have := HFRESH.out x hx; omega
                  obtain ⟨ph, on, off, dl, ex, mo, mf⟩ := d
                  obtain ⟨ux1, c5, f5⟩ := det_num (i := q4) (j := 5) (d' := ⟨ph, on, off, dl, ex, 0, mf⟩) (x := I 0) HUX.out rfl hdz rfl (by decide)
                  have c5 : wr.cell? ⟨g, q4 * 7 + 5, none⟩ = some (I mo) := c5
                  have r1 := row_set (j := q4 * 7 + 5) (v := I 0) HRA.out hfr
                  go_upto_region 25 with fail
                  have HUX1 := Lib.hid ux1
                  have HRA1 := Lib.hid r1
                  clear ux1 r1 c5 f5 HUX HRA k113
                  generalize wr.setCell ⟨g, q4 * 7 + 5, none⟩ (I 0) = v5 at HUX1 HRA1 ⊢
                  have hdz1 : ((dz ds q4).set q4 ⟨ph, on, off, dl, ex, 0, mf⟩)[q4]? = some ⟨ph, on, off, dl, ex, 0, mf⟩ := by rw [List.getElem?_set, if_pos rfl, if_pos (by rw [dz_len, HN.out]; exact hlt4)]
                  obtain ⟨ux2, c6, f6⟩ := det_num (i := q4) (j := 6) (d' := ⟨ph, on, off, dl, ex, 0, 0⟩) (x := I 0) HUX1.out rfl hdz1 rfl (by decide)
                  have c6 : v5.cell? ⟨g, q4 * 7 + 6, none⟩ = some (I mf) := c6
                  have r2 := row_set (j := q4 * 7 + 6) (v := I 0) HRA1.out hfr
                  have k113 : v5.cell? ⟨tb, 113, none⟩ = some (.slice (some ⟨g, 0, none⟩) q2 dcap) := by rw [HUX1.out.cell, ← List.getElem?_toArray, (cells_ok HUX1.out.tab).d]; simp [Tab.Sl.val, dz_len, HN.out]
                  have hst : ((dz ds q4).set q4 ⟨ph, on, off, dl, ex, 0, mf⟩).set q4 ⟨ph, on, off, dl, ex, 0, 0⟩ = dz ds (q4 + 1) := by rw [← dz_step (d1 := ⟨ph, on, off, dl, ex, 0, mf⟩) (by rw [HN.out]; exact hlt4), hd]; rfl
                  have ux2 : BendU.Ux w tb ⟨sg, ⟨some ⟨g, 0, none⟩, dcap⟩, sr, sb⟩ { T0 with dets := ((dz ds q4).set q4 ⟨ph, on, off, dl, ex, 0, mf⟩).set q4 ⟨ph, on, off, dl, ex, 0, 0⟩ } (v5.setCell ⟨g, q4 * 7 + 6, none⟩ (I 0)) := ux2
                  rw [hst] at ux2
                  have HUX2 := Lib.hid ux2
                  have HRA2 := Lib.hid r2
                  clear ux2 r2 HUX1 HRA1 hst hd hdz hdz1 hfr
                  go_wp2_with fail
                  go_roundw
                  case rel => exact ⟨q4 + 1, by omega, by go_num, HUX2.out, HRA2.out⟩
                  case measure => simp [intOf]; omega
                · obtain rfl : q4 = q2 := by omega
                  rename World => W4
                  have HCE : Hid (({ T0 with dets := dz ds q4 } : Tab).cells ⟨sg, ⟨da, dcap⟩, sr, sb⟩ = c) := Lib.hid (by
                    have h1 : T0.dets = ds := by rw [← HT0.out, HDS.out]
                    rw [← HC.out, HT0.out]
                    simp [Tab.cells, dz_len, h1])
                  have A4 : Hid (∀ W, Below W4.heap.size W4 W → Lies W ⟨tb, 0, none⟩ c) := Lib.hid (fun W hb => by have := Row.lies_of_block (HUX.out.step hb).blk; rw [← HCE.out]; simpa using this)
                  have S4 : Hid (∀ W, Below W4.heap.size W4 W → ∀ (a : Option Addr) (cap : Nat) (l : List Ch) (m : Nat) (b : Option Addr) (cap2 : Nat) (xs : List Nat) (k : Nat), RowOf 7 Ch.cells W ⟨a, cap⟩ l → l.length = m → FltRow W ⟨b, cap2⟩ xs → xs.length = k → Calls Try.prog 25 #[.agg c.toArray, .slice a m cap, .slice b k cap2] W fun e w' => ∃ s : Sl, e = .returned (s.val q4) ∧ RowOf 7 Ch.cells w' s (dts (dz ds q4) l xs) ∧ Below W.heap.size W w') := Lib.hid (fun W hb a cap l m b cap2 xs k hl hm hx hk => by subst hm hk; have := step_any (HUX.out.step hb).tab (by show (dz ds q4).length ≤ 1000; rw [dz_len, HN.out]; exact few) hl hx; rw [HCE.out] at this; simpa [dz_len, HN.out] using this)
                  have H4 : Hid (∀ W, Below W4.heap.size W4 W → ∀ (a : Option Addr) (cap : Nat) (l : List Ch) (m : Nat), RowOf 7 Ch.cells W ⟨a, cap⟩ l → l.length = m → Calls Try.prog 28 #[.agg c.toArray, .slice a m cap] W fun e w' => e = .returned (.int .i64 (her (dz ds q4) l (min q4 m) : Nat)) ∧ Below W.heap.size W w') := Lib.hid (fun W hb a cap l m hl hm => by subst hm; have := here_any (HUX.out.step hb).tab hl; rw [HCE.out] at this; simpa [dz_len, HN.out] using this)
                  have BW4 := Lib.hid HUX.out.bel
                  have HFD : Hid (∀ d, d < q4 → Fade 0 (l.getD d zCh)) := Lib.hid (fun d hd => ⟨fun e => by have := HTL.out d hd e; exact ⟨this.1, by simpa using this.2⟩, fun h => absurd h (by decide)⟩)
                  clear HUX HTL HT0 UX HFRESH
                  go_wp2_with fail
                  clear k113
                  go_loopw [10, 17] (fun va i wr => ∃ (q5 k : Nat) (l : List Ch) (aa : Option Addr) (ca : Nat), q5 ≤ 8 ∧ i = .int .i64 q5 ∧ va = .slice aa k ca ∧ Hid (l.length = k) ∧ RowOf 7 Ch.cells wr ⟨aa, ca⟩ l ∧ Hid (∀ d, d < q4 → Fade q5 (l.getD d zCh)) ∧ Below W4.heap.size W4 wr) (fun _ i _ => 8 - (intOf i).toNat)
                  case atStart => exact ⟨0, k, l, aa, ca, by omega, rfl, rfl, HLK, HRA.out, HFD, Below.refl _ _⟩
                  case round =>
                    clear HRA HFD HLK
                    obtain ⟨q5, k, l, aa, ca, hq5, rfl, rfl, HLK, hra, HFD, hbw⟩ := hrel
                    have HRA := Lib.hid hra
                    have HBW4 := Lib.hid hbw
                    clear hra hbw
                    by_cases hlt5 : q5 < 8
                    · have hzm := zeros
                      go_upto_region 29 with fail
                      refine wp_region_held (S := fun w' => Below wr.heap.size wr w') (by kernel_rfl) ?_
                      have hS : Below wr.heap.size wr { wr with drawn := wr.drawn + 1 } := (Below.refl _ _).drew
                      generalize ({ wr with drawn := wr.drawn + 1 } : World) = v at hS ⊢
                      have BV : Hid (∀ W, Below wr.heap.size wr W → Below W4.heap.size W4 W) := Lib.hid (fun W hb => HBW4.out.trans (hb.mono HBW4.out.size))
                      refine Held.take_load (i := 0) (some 121) rfl 31 (.tmp 9) ⟨tb, 0, none⟩ c _ rfl rfl (by kernel_rfl) (by kernel_rfl) (by kernel_rfl) (fun _ _ _ h => h) (by rfl) hS rfl (fun w' hw' => A4.out w' (BV.out w' hw')) Try.underlying31 rfl IA.out ?_
                      (try dsimp only [Act.put]); (try simp only [List.setIfInBounds_toArray, List.set_cons_zero, List.set_cons_succ])
                      refine Held.take (i := 1) (some 122) rfl (v := ?_) rfl (by kernel_rfl) (by kernel_rfl) (by kernel_rfl) (fun _ _ _ h => h) (Or.inl ⟨by rfl, ?_⟩) hS ?_
                      rotate_left
                      · intro w' hw'
                        go_simp
                        try with_reducible rfl
                      (try dsimp only [Act.put]); (try simp only [List.setIfInBounds_toArray, List.set_cons_zero, List.set_cons_succ])
                      refine wpAnyH_ready (rs := [2]) (by kernel_rfl) (by simp) (AllReadyH.cons rfl (fun K hK => ?_) AllReadyH.nil)
                      go_simp
                      have hf := flt_rep v 0 16 (by decide) (by decide) 60 (cs := #[F 0, F 0, F 0, F 0, F 0, F 0, F 0, F 0, F 0, F 0, F 0, F 0, F 0, F 0, F 0, F 0]) rfl
                      have hq2 := hS.alloc hS.size (.cells #[F 0, F 0, F 0, F 0, F 0, F 0, F 0, F 0, F 0, F 0, F 0, F 0, F 0, F 0, F 0, F 0] 60)
                      generalize v.heap.size = gb at hf ⊢
                      generalize World.alloc v _ = v2 at hf hq2 ⊢
                      clear hS
                      refine hK.out _ _ hq2 (fun hS => ?_)
                      clear hK K hq2
                      refine wpAnyH_ready (rs := [3]) (by kernel_rfl) (by simp) (AllReadyH.cons rfl (fun K hK => ?_) AllReadyH.nil)
                      go_simp
                      refine (S4.out v2 (BV.out v2 hS) aa ca l k _ 16 (List.replicate 16 0) 16 (HRA.out.below hS) HLK.out hf (by simp)).mono ?_
                      rintro e v3 ⟨⟨na, nca⟩, rfl, hrow, hb⟩
                      have hq3 := hS.trans (hb.mono hS.size)
                      have HR3 := Lib.hid hrow
                      clear hS hb hf hrow
                      dsimp only [Tab.Sl.val]
                      go_simp
                      refine hK.out _ _ hq3 (fun hS => ?_)
                      clear hK K hq3
                      refine Held.take (i := 4) (some 10) rfl (v := ?_) rfl (by kernel_rfl) (by kernel_rfl) (by kernel_rfl) (fun _ _ _ h => h) (Or.inl ⟨by rfl, ?_⟩) hS ?_
                      rotate_left
                      · intro w' hw'
                        go_simp
                        try with_reducible rfl
                      (try dsimp only [Act.put]); (try simp only [List.setIfInBounds_toArray, List.set_cons_zero, List.set_cons_succ])
                      refine wpAnyH_done (by kernel_rfl) ?_ _
                      have HBW5 := Lib.hid (BV.out _ hS)
                      have HD5 : Hid ((dts (dz ds q4) l (List.replicate 16 0)).length = q4) := Lib.hid (by rw [dts_len, dz_len, HN.out])
                      have HF5 : Hid (∀ d, d < q4 → Fade (q5 + 1) ((dts (dz ds q4) l (List.replicate 16 0)).getD d zCh)) := Lib.hid (fun d hd => by
                        rw [dts_getD (by rw [dz_len, HN.out]; exact hd), rep_getD (by omega)]
                        have he : (dz ds q4).getD d default = { ds.getD d default with maxOn := 0, maxOff := 0 } := by rw [List.getD_eq_getElem?_getD, dz_at (by rw [HN.out]; exact hd), if_pos hd]; rfl
                        rw [he]
                        exact fade_step (quiet_z0 (QD.out _ (by rw [List.getD_eq_getElem?_getD, List.getElem?_eq_getElem (by rw [HN.out]; exact hd)]; exact List.getElem_mem _))) (HFD.out d hd))
                      clear hS BV HRA HLK HFD HBW4 hzm
                      go_wp2
                      go_roundw
                      case rel => exact ⟨q5 + 1, q4, _, na, nca, by omega, by go_num, rfl, HD5, HR3.out, HF5, HBW5.out⟩
                      case measure => simp [intOf]; omega
                    · obtain rfl : q5 = 8 := by omega
                      have HZ : Hid (her (dz ds q4) l (min q4 k) = 0) := Lib.hid (her_none _ (fun d hd => by
                        have hdn : d < q4 := Nat.lt_of_lt_of_le hd (Nat.min_le_left _ _)
                        have he : (dz ds q4).getD d default = { ds.getD d default with maxOn := 0, maxOff := 0 } := by rw [List.getD_eq_getElem?_getD, dz_at (by rw [HN.out]; exact hdn), if_pos hdn]; rfl
                        rw [he]
                        exact fade_out (q := 8) (by decide) (HFD.out d hdn) rfl rfl))
                      go_wp2_with (refine Row.wpList_load_g 31 _ rfl (by first | rfl | go_simp) ⟨tb, 0, none⟩ rfl c _ (A4.out _ HBW4.out) Try.underlying31 rfl IA.out ?_)
                      refine (H4.out _ HBW4.out aa ca l k HRA.out HLK.out).mono ?_
                      rintro e v8 ⟨rfl, b8⟩
                      rw [HZ.out]
                      have HB8 := Lib.hid (HBW4.out.trans (b8.mono HBW4.out.size))
                      clear b8 HBW4
                      go_wp2_with fail
                      refine (Dtc.awake_any _).mono ?_
                      rintro e u9 ⟨rfl, b9⟩
                      have BF := Lib.hid (BW4.out.trans ((HB8.out.trans (b9.mono HB8.out.size)).mono BW4.out.size))
                      clear b9
                      go_wp2
                      go_ret
                      exact ⟨rfl, BF.out⟩
/-! ### the row's step -/
theorem lifted (os : Os) (started : os.Started) (H : Type) (enc : TypeId × Value → H) :
    ReturnsInHanded {} Try.checked os 9 .any (Rows.detectBrokenSpec.pre6 enc Try.prog Try.f9 Rows.detectBrokenRow.domain false) (Rows.detectBrokenSpec.post enc Try.prog Try.f9 false true false false) := by
  refine returnsInHanded_of_change (C := Try.checked) own started (by kernel_rfl) Try.func9
    (ChangeSpec.witness6 (enc := enc) (C := Try.checked) false ⟨#[], #[.slice none 0 0, .slice none 0 0, .int .i64 0, .int .i64 0], []⟩ 8 (by kernel_rfl) (by kernel_rfl) (by kernel_rfl) (by kernel_rfl)) ?_
  intro W base args ds gs before hval0 hW hcnd _
  have hval : ∀ (j : Nat) t v, Try.f9.params[j]? = some t → args[j]? = some v → Value.okWide Try.prog W .any base t v := hval0
  have hW' := hW
  obtain ⟨p, q, hA0, hV, rfl, hfz, hnd⟩ := hW
  have hA : DataW.TrodAll enc Try.prog W 0 (fun _ => true) true Try.f9.params.toList args.toList ds p := hA0
  rw [Try.params9] at hA hval
  obtain ⟨v0, vs0, d0, ds0, p0, q0, hargs, rfl, rfl, h0, r0⟩ := trodAll_cons hA
  obtain ⟨v1, vs1, d1, ds1, p1, q1, rfl, rfl, rfl, h1, r1⟩ := trodAll_cons r0
  obtain ⟨v2, vs2, d2, ds2, p2, q2, rfl, rfl, rfl, h2, r2⟩ := trodAll_cons r1
  obtain ⟨v3, vs3, d3, ds3, p3, q3, rfl, rfl, rfl, h3, r3⟩ := trodAll_cons r2
  obtain ⟨rfl, rfl, rfl⟩ := trodAll_nil r3
  obtain rfl : args = #[v0, v1, v2, v3] := by cases args; simp_all
  obtain ⟨rfl, rfl⟩ := trodVars_none hV
  obtain ⟨a0, len0, cap0, rfl⟩ := okWide_slice Try.underlying39 (hval 0 39 v0 rfl rfl)
  have k0 := h0
  have lt0 : ∀ x ∈ p0, x.block < W.heap.size := by obtain ⟨m, hm⟩ := k0; exact DataW.trod_lt m _ _ _ hm
  obtain ⟨z0, w0⟩ : ∃ zs, IsRow .i64 W a0 len0 cap0 zs := by
    obtain ⟨fuel, hf⟩ := h0
    rcases open_ints Try.underlying39 Try.underlying3 (by kernel_rfl) hf with ⟨hcs, _⟩ | ⟨x, l, c, zs, hcs, _, hl, hm, hz, _, hcell, hwz⟩
    · simp [Value.cells] at hcs
      obtain ⟨rfl, rfl, rfl⟩ := hcs
      exact ⟨[], .inl ⟨rfl, rfl, rfl, rfl⟩⟩
    · simp [Value.cells] at hcs
      obtain ⟨rfl, rfl, rfl⟩ := hcs
      exact ⟨zs, .inr ⟨_, rfl, hl, hm, by simpa using hz, hcell, hwz⟩⟩
  obtain ⟨a1, len1, cap1, rfl⟩ := okWide_slice Try.underlying50 (hval 1 50 v1 rfl rfl)
  have k1 := h1
  have lt1 : ∀ x ∈ p1, x.block < W.heap.size := by obtain ⟨m, hm⟩ := k1; exact DataW.trod_lt m _ _ _ hm
  obtain ⟨z1, w1⟩ : ∃ zs, Recs.IsFlts W a1 len1 cap1 zs := by
    obtain ⟨fuel, hf⟩ := h1
    exact Recs.open_flts Try.underlying50 Try.underlying60 (by kernel_rfl) hf
  obtain ⟨a2, rfl, rfl, rfl, w2⟩ := open_int Try.underlying3 (hval 2 3 v2 rfl rfl) h2
  obtain ⟨a3, rfl, rfl, rfl, w3⟩ := open_int Try.underlying3 (hval 3 3 v3 rfl rfl) h3
  clear hA0 hval0
  refine (walk a0 len0 cap0 z0 a1 len1 cap1 z1 a2 a3 W w0 w1 w2 w3).mono fun e W' ⟨he, bel⟩ => ?_
  subst he
  exact ⟨_, rfl, _, _, _, [], _, [], hW', trodAll_mk1 (shut_bool Try.underlying4 _), (trodAll_cons_mk (Below.trod laidOut (by kernel_rfl) (of_decide_eq_true (by kernel_rfl)) k0 bel lt0) (trodAll_cons_mk (Below.trod laidOut (by kernel_rfl) (of_decide_eq_true (by kernel_rfl)) k1 bel lt1) (trodAll_cons_mk (shut_int Try.underlying3 w2) (trodAll_cons_mk (shut_int Try.underlying3 w3) trodAll_mk0)))), rfl, bel.frame _, fun h => by cases h⟩
theorem over : Rows.detectBrokenRow.holds Try.pinned (OpenSpec.ofChange Rows.detectBrokenSpec) :=
  OpenClaim.holds_of_wide 9 Try.f9 rfl rfl rfl rfl rfl rfl rfl ⟨rfl, rfl, rfl, rfl, rfl⟩ rfl rfl rfl rfl rfl (by kernel_rfl) Try.func9 (by kernel_rfl)
    (of_decide_eq_true (by kernel_rfl)) (by unfold Func.isWrapper; first | (rw [if_pos (by decide +kernel)]; kernel_rfl) | (rw [if_neg (by decide +kernel)]; exact ⟨rfl, rfl⟩))
    (fun os started H enc _ => lifted os started H enc)
/-- the statement -/
theorem proved : Rows.DetectBrokenSaid :=
  over
#print axioms proved
end detectBroken
end Go.Proofs.Ytneaomdgjlmleaa
