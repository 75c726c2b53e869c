/- 11 texts in one file, in build order. -/
import Derived.Test.YtbpfknkbiaplpaaRows
import Derived.Test.YtbpfknkbiaplpaaPart08
import Derived.Test.YtbpfknkbiaplpaaPart06
import Derived.Test.YtbpfknkbiaplpaaPart07
import Derived.Test.YtbpfknkbiaplpaaPart04
import Derived.Deep.Cut
import Derived.LoopTactic
import Derived.Great.BuildSlice
import Derived.Test.YtbpfknkbiaplpaaPart01
set_option linter.unusedVariables false
set_option linter.unusedSimpArgs false
set_option linter.unusedSectionVars false
set_option maxHeartbeats 8000000
set_option maxRecDepth 100000
namespace Go.Proofs.Ytbpfknkbiaplpaa
namespace WaitS
open Go.ChangeShapes Go.WideShapes Go.ChangeAt Go.RowKit
open Tab Gath OnS RefC FreeS OverS
open May (St infoT row_new)
def waitR (T : Tab) (f : Int) : Int := sums [mul (sums [T.share, 1]) (sums [overS T, f, 2]), T.share]
def waitS (T : Tab) (p : Int) : Int := if freeS T p = 0 ∨ T.rails.length = 0 then freeS T p else waitR T (freeS T p)
theorem wait_any (T : Tab) (h : Hd) (p : Int) (w : World) (ht : IsTab w h T) (sm : PlaceM.Few T) (few : T.rails.length ≤ 1000) :
    Calls Try.prog 37 #[.agg (T.cells h).toArray, .int .i64 p] w fun e w' => e = .returned (.int .i64 (waitS T p)) ∧ Below w.heap.size w w' := by
  have C := Lib.hid (cells_ok ht)
  have hsz := C.out.size
  have IA : Hid ((Try.prog.info? 45).map (·.size) = some (T.cells h).length) := Lib.hid (by rw [List.size_toArray] at hsz; rw [hsz]; exact infoT)
  have FC : Hid (∀ W, Below w.heap.size w W → Calls Try.prog 63 #[.agg (T.cells h).toArray, .int .i64 p] W fun e w' => e = .returned (.int .i64 (freeS T p)) ∧ Below W.heap.size W w') := Lib.hid (fun W hb => free_any T h p W (ht.below hb) sm)
  have OC : Hid (∀ W, Below w.heap.size w W → Calls Try.prog 66 #[.agg (T.cells h).toArray] W fun e w' => e = .returned (.int .i64 (overS T)) ∧ Below W.heap.size W w') := Lib.hid (fun W hb => over_any T h W (ht.below hb) few)
  have S0 := Lib.hid (St.box (cs := (T.cells h).toArray) ht)
  have RS : Hid (waitS T p = if freeS T p = 0 ∨ T.rails.length = 0 then freeS T p else sums [mul (sums [T.share, 1]) (sums [overS T, freeS T p, 2]), T.share]) := Lib.hid rfl
  generalize waitS T p = res at RS ⊢
  generalize freeS T p = f at RS FC
  clear ht sm
  go_enter Try.func37, Try.ntmps37
  go_upto_region 1 with fail
  generalize w.alloc (.cells (T.cells h).toArray 45) = w1 at S0 ⊢
  have q114 := C.out.r
  have q130 := C.out.share
  generalize hc : T.cells h = c at *
  clear hsz hc
  generalize T.rails.length = n at *
  obtain ⟨sg, sd, ⟨ra, rcap⟩, sb⟩ := h
  have Q114 : Hid (∀ W, Below w1.heap.size w1 W → W.cell? ⟨w.heap.size, 114, none⟩ = some (.slice ra n rcap)) := Lib.hid (fun W hb => (S0.out.step hb).cell q114)
  have Q130 : Hid (∀ W, Below w1.heap.size w1 W → W.cell? ⟨w.heap.size, 130, none⟩ = some (I T.share)) := Lib.hid (fun W hb => (S0.out.step hb).cell q130)
  have LT : Hid (∀ W, Below w1.heap.size w1 W → Lies W ⟨w.heap.size, 0, none⟩ c) := Lib.hid (fun W hb => by have := Row.lies_of_block (S0.out.step hb).blk; simpa using this)
  have BB : Hid (∀ W, Below w1.heap.size w1 W → Below w.heap.size w W) := Lib.hid (fun W hb => S0.out.bel.trans (hb.mono S0.out.bel.size))
  clear q114 q130
  go_wp2_with (refine Row.wpList_load_g 45 _ rfl (by first | rfl | go_simp) ⟨w.heap.size, 0, none⟩ rfl c _ (LT.out _ (Below.refl _ _)) Try.underlying45 rfl IA.out ?_)
  refine (FC.out _ (BB.out _ (Below.refl _ _))).mono ?_
  rintro e wr ⟨rfl, hb⟩
  have B2 := Lib.hid hb
  clear hb FC
  have q114 := Q114.out _ B2.out
  generalize T.share = sh at Q130 RS
  by_cases hf0 : f = 0
  · have HF : Hid (0 = res) := Lib.hid (by rw [RS.out, if_pos (.inl hf0), hf0])
    have HB := Lib.hid (BB.out _ B2.out)
    subst hf0
    go_wp2
    go_ret
    exact ⟨RefC.ret_int HF.out, HB.out⟩
  have hfb : (f == 0) = false := by simpa using hf0
  by_cases hn0 : n = 0
  · have HF : Hid (f = res) := Lib.hid (by rw [RS.out, if_pos (.inr hn0)])
    have HB := Lib.hid (BB.out _ B2.out)
    subst hn0
    clear hf0
    go_wp2
    go_ret
    exact ⟨RefC.ret_int HF.out, HB.out⟩
  have hnb : ((n : Int) == 0) = false := by rw [beq_eq_false_iff_ne]; omega
  have HR0 : Hid (sums [mul (sums [sh, 1]) (sums [overS T, f, 2]), sh] = res) := Lib.hid (by rw [RS.out, if_neg (fun e => e.elim hf0 hn0)])
  clear hf0 hn0 RS
  have CQ : Hid (∀ w', Below wr.heap.size wr w' → w'.cell? ⟨w.heap.size, 130, none⟩ = some (I sh)) := Lib.hid (fun w' hb => Q130.out _ (B2.out.trans (hb.mono B2.out.size)))
  have LS : Hid (∀ w', Below wr.heap.size wr w' → Lies w' ⟨w.heap.size, 0, none⟩ c) := Lib.hid (fun w' hb => LT.out _ (B2.out.trans (hb.mono B2.out.size)))
  have SB : Hid (∀ w', Below wr.heap.size wr w' → Below w.heap.size w w') := Lib.hid (fun w' hb => BB.out _ (B2.out.trans (hb.mono B2.out.size)))
  go_upto_region 4 with fail
  clear q114 hfb hnb
  refine wp_region_held (S := fun w' => Below wr.heap.size wr w') (by kernel_rfl) ?_
  have hS : Below wr.heap.size wr { wr with drawn := wr.drawn + 1 } := (Below.refl _ _).drew
  have hv : wr.heap.size ≤ ({ wr with drawn := wr.drawn + 1 } : World).heap.size := Nat.le_refl _
  generalize ({ wr with drawn := wr.drawn + 1 } : World) = v at hS hv ⊢
  refine Held.take (i := 0) (some 18) rfl (v := ?_) rfl (by kernel_rfl) (by kernel_rfl) (by kernel_rfl) (fun _ _ _ h => h) (Or.inl ⟨by rfl, ?_⟩) hS ?_
  rotate_left
  · intro w' hw'
    have e1 := CQ.out w' hw'
    go_simp
    try with_reducible rfl
  (try dsimp only [Act.put]); (try simp only [List.setIfInBounds_toArray, List.set_cons_zero, List.set_cons_succ])
  refine Held.take (i := 1) (some 19) rfl (v := ?_) rfl (by kernel_rfl) (by kernel_rfl) (by kernel_rfl) (fun _ _ _ h => h) (Or.inl ⟨by rfl, ?_⟩) hS ?_
  rotate_left
  · intro w' hw'
    have e1 := CQ.out w' hw'
    go_simp
    try with_reducible rfl
  (try dsimp only [Act.put]); (try simp only [List.setIfInBounds_toArray, List.set_cons_zero, List.set_cons_succ])
  refine Held.take_load (i := 4) (some 22) rfl 45 _ ⟨w.heap.size, 0, none⟩ c _ rfl rfl (by kernel_rfl) (by kernel_rfl) (by kernel_rfl) (fun _ _ _ h => h) (by rfl) hS rfl (fun w' hw' => LS.out w' hw') Try.underlying45 rfl IA.out ?_
  (try dsimp only [Act.put]); (try simp only [List.setIfInBounds_toArray, List.set_cons_zero, List.set_cons_succ])
  refine Held.take (i := 6) (some 24) rfl (v := ?_) rfl (by kernel_rfl) (by kernel_rfl) (by kernel_rfl) (fun _ _ _ h => h) (Or.inl ⟨by rfl, ?_⟩) hS ?_
  rotate_left
  · intro w' hw'
    go_simp
    try with_reducible rfl
  (try dsimp only [Act.put]); (try simp only [List.setIfInBounds_toArray, List.set_cons_zero, List.set_cons_succ])
  refine Held.take (i := 10) (some 28) rfl (v := ?_) rfl (by kernel_rfl) (by kernel_rfl) (by kernel_rfl) (fun _ _ _ h => h) (Or.inl ⟨by rfl, ?_⟩) hS ?_
  rotate_left
  · intro w' hw'
    have e1 := CQ.out w' hw'
    go_simp
    try with_reducible rfl
  (try dsimp only [Act.put]); (try simp only [List.setIfInBounds_toArray, List.set_cons_zero, List.set_cons_succ])
  refine Held.take (i := 11) (some 29) rfl (v := ?_) rfl (by kernel_rfl) (by kernel_rfl) (by kernel_rfl) (fun _ _ _ h => h) (Or.inl ⟨by rfl, ?_⟩) hS ?_
  rotate_left
  · intro w' hw'
    have e1 := CQ.out w' hw'
    go_simp
    try with_reducible rfl
  (try dsimp only [Act.put]); (try simp only [List.setIfInBounds_toArray, List.set_cons_zero, List.set_cons_succ])
  refine wpAnyH_ready (rs := [2]) (by kernel_rfl) (by simp) (AllReadyH.cons rfl (fun K hK => ?_) AllReadyH.nil)
  go_simp
  have r1 : Hid (IntRow (v.alloc (.cells #[I sh, I 1] 3)) ⟨some ⟨v.heap.size, 0, none⟩, 2⟩ [sh, 1]) := Lib.hid (May.row_new v 3 [sh, 1] 2 rfl (by decide) _ rfl)
  have hbw : Below v.heap.size v (v.alloc (.cells #[I sh, I 1] 3)) := (Below.refl _ _).alloc (Nat.le_refl _) _
  have hS2 := hS.alloc hv (.cells #[I sh, I 1] 3)
  replace hv := Nat.le_trans hv hbw.size
  clear hbw hS
  generalize hb0 : v.heap.size = b1 at r1 ⊢
  clear hb0
  generalize World.alloc v (.cells #[I sh, I 1] 3) = x2 at r1 hS2 hv ⊢
  refine hK.out _ _ hS2 (fun hS => ?_)
  clear hK K hS2
  refine wpAnyH_ready (rs := [3]) (by kernel_rfl) (by simp) (AllReadyH.cons rfl (fun K hK => ?_) AllReadyH.nil)
  go_simp
  refine (Clear.sum_len (some ⟨b1, 0, none⟩) 2 [sh, 1] 2 rfl x2 r1.out).mono ?_
  rintro e w' ⟨rfl, hq⟩
  subst w'
  clear r1
  generalize sums [sh, 1] = z1 at HR0 ⊢
  go_simp
  refine hK.out _ _ hS (fun hS => ?_)
  clear hK K
  refine wpAnyH_ready (rs := [5]) (by kernel_rfl) (by simp) (AllReadyH.cons rfl (fun K hK => ?_) AllReadyH.nil)
  go_simp
  refine (OC.out x2 (SB.out x2 hS)).mono ?_
  rintro e x3 ⟨rfl, hb⟩
  generalize overS T = ov at HR0 ⊢
  have hS2 := Below.trans hS (hb.mono hv)
  replace hv := Nat.le_trans hv hb.size
  clear hb hS
  go_simp
  refine hK.out _ _ hS2 (fun hS => ?_)
  clear hK K hS2
  refine wpAnyH_ready (rs := [7]) (by kernel_rfl) (by simp) (AllReadyH.cons rfl (fun K hK => ?_) AllReadyH.nil)
  go_simp
  have r2 : Hid (IntRow (x3.alloc (.cells #[I ov, I f, I 2] 3)) ⟨some ⟨x3.heap.size, 0, none⟩, 3⟩ [ov, f, 2]) := Lib.hid (May.row_new x3 3 [ov, f, 2] 3 rfl (by decide) _ rfl)
  have hbw : Below x3.heap.size x3 (x3.alloc (.cells #[I ov, I f, I 2] 3)) := (Below.refl _ _).alloc (Nat.le_refl _) _
  have hS2 := hS.alloc hv (.cells #[I ov, I f, I 2] 3)
  replace hv := Nat.le_trans hv hbw.size
  clear hbw hS
  generalize hb0 : x3.heap.size = b4 at r2 ⊢
  clear hb0
  generalize World.alloc x3 (.cells #[I ov, I f, I 2] 3) = x5 at r2 hS2 hv ⊢
  refine hK.out _ _ hS2 (fun hS => ?_)
  clear hK K hS2
  refine wpAnyH_ready (rs := [8]) (by kernel_rfl) (by simp) (AllReadyH.cons rfl (fun K hK => ?_) AllReadyH.nil)
  go_simp
  refine (Clear.sum_len (some ⟨b4, 0, none⟩) 3 [ov, f, 2] 3 rfl x5 r2.out).mono ?_
  rintro e w' ⟨rfl, hq⟩
  subst w'
  clear r2
  generalize sums [ov, f, 2] = z2 at HR0 ⊢
  go_simp
  refine hK.out _ _ hS (fun hS => ?_)
  clear hK K
  refine wpAnyH_ready (rs := [9]) (by kernel_rfl) (by simp) (AllReadyH.cons rfl (fun K hK => ?_) AllReadyH.nil)
  go_simp
  refine (rmul_any z1 z2 x5).mono ?_
  rintro e w' ⟨rfl, hq⟩
  subst w'
  generalize mul z1 z2 = z3 at HR0 ⊢
  go_simp
  refine hK.out _ _ hS (fun hS => ?_)
  clear hK K
  refine wpAnyH_ready (rs := [12]) (by kernel_rfl) (by simp) (AllReadyH.cons rfl (fun K hK => ?_) AllReadyH.nil)
  go_simp
  have r3 : Hid (IntRow (x5.alloc (.cells #[I z3, I sh] 3)) ⟨some ⟨x5.heap.size, 0, none⟩, 2⟩ [z3, sh]) := Lib.hid (May.row_new x5 3 [z3, sh] 2 rfl (by decide) _ rfl)
  have hbw : Below x5.heap.size x5 (x5.alloc (.cells #[I z3, I sh] 3)) := (Below.refl _ _).alloc (Nat.le_refl _) _
  have hS2 := hS.alloc hv (.cells #[I z3, I sh] 3)
  replace hv := Nat.le_trans hv hbw.size
  clear hbw hS
  generalize hb0 : x5.heap.size = b6 at r3 ⊢
  clear hb0
  generalize World.alloc x5 (.cells #[I z3, I sh] 3) = x7 at r3 hS2 hv ⊢
  refine hK.out _ _ hS2 (fun hS => ?_)
  clear hK K hS2
  refine wpAnyH_ready (rs := [13]) (by kernel_rfl) (by simp) (AllReadyH.cons rfl (fun K hK => ?_) AllReadyH.nil)
  go_simp
  refine (Clear.sum_len (some ⟨b6, 0, none⟩) 2 [z3, sh] 2 rfl x7 r3.out).mono ?_
  rintro e w' ⟨rfl, hq⟩
  subst w'
  rw [HR0.out]
  go_simp
  refine hK.out _ _ hS (fun hS => ?_)
  clear hK K
  refine Held.take (i := 14) (some 4) rfl (v := ?_) rfl (by kernel_rfl) (by kernel_rfl) (by kernel_rfl) (fun _ _ _ h => h) (Or.inl ⟨by rfl, ?_⟩) hS ?_
  rotate_left
  · intro w' hw'
    go_simp
    try with_reducible rfl
  (try dsimp only [Act.put]); (try simp only [List.setIfInBounds_toArray, List.set_cons_zero, List.set_cons_succ])
  refine wpAnyH_done (by kernel_rfl) ?_ _
  have HF := Lib.hid (SB.out _ hS)
  clear hS
  go_wp2
  go_ret
  exact ⟨rfl, HF.out⟩
end WaitS
namespace CodeAt
open Go
def firstR : Code → Option Nat
  | .region i _ _ => some i
  | .seq a b => (firstR a).or (firstR b)
  | .cond _ a b => (firstR a).or (firstR b)
  | .block _ b => firstR b
  | .loop b => firstR b
  | .scope b => firstR b
  | _ => none
def findL (id : Nat) : Code → Option Code
  | .seq a b => (findL id a).or (findL id b)
  | .cond _ a b => (findL id a).or (findL id b)
  | .block _ b => findL id b
  | .loop b => if firstR b = some id then some (.loop b) else findL id b
  | .scope b => findL id b
  | _ => none
/-- The loop of a function that begins with region number id. -/
def lp (id : Nat) (f : Func) : Code := ((f.body.bind (findL id)).getD .skip)
end CodeAt
namespace GenT
open Go Go.RowKit
open Tab Gath GenG Clone PlaceM
open RefS (num num_range)
/-- The first n of eight are made, the others are as they were. -/
def upd {α : Type} (f : Nat → α) (z : α) (n : Nat) : List α := (List.range 8).map fun i => if i < n then f i else z
theorem upd_len {α : Type} (f : Nat → α) (z : α) (n : Nat) : (upd f z n).length = 8 := by simp [upd]
theorem upd_succ {α : Type} (f : Nat → α) (z : α) (n : Nat) : (upd f z n).set n (f n) = upd f z (n + 1) := by
  apply List.ext_getElem?
  intro j
  unfold upd
  rw [List.getElem?_set]
  simp only [List.length_map, List.length_range, List.getElem?_map]
  by_cases hj : j < 8
  · rw [List.getElem?_range hj]
    simp only [Option.map_some]
    by_cases e : n = j
    · subst e; rw [if_pos rfl, if_pos hj, if_pos (by omega)]
    · rw [if_neg e]; congr 1
      by_cases h2 : j < n
      · rw [if_pos h2, if_pos (by omega)]
      · rw [if_neg h2, if_neg (by omega)]
  · have hn : (List.range 8)[j]? = none := by rw [List.getElem?_eq_none]; simp; omega
    rw [hn]
    simp only [Option.map_none]
    by_cases e : n = j
    · rw [if_pos e, if_neg (by omega)]
    · rw [if_neg e]
theorem upd_at {α : Type} (f : Nat → α) (z : α) (n j : Nat) (h : j < 8) : (upd f z n)[j]? = some (if j < n then f j else z) := by
  unfold upd; rw [List.getElem?_map, List.getElem?_range h]; rfl
/-- One pair of phases: do they conflict? -/
def cset (L : List Int) (T : Tab) (p q : Nat) (C : List Int) : List Int :=
  if beside T p q = false ∧ num L (110 + 8 * p + q) 9 ≠ 1 then (C.set p (SetM.withN (C.getD p 0) q : Nat)).set q (SetM.withN ((C.set p (SetM.withN (C.getD p 0) q : Nat)).getD q 0) p : Nat) else C
def crow (L : List Int) (T : Tab) (p : Nat) (C : List Int) : Nat → List Int
  | 0 => C
  | q + 1 => cset L T p q (crow L T p C q)
def call (L : List Int) (T : Tab) (C : List Int) : Nat → List Int
  | 0 => C
  | p + 1 => crow L T p (call L T C p) p
theorem cset_len (L : List Int) (T : Tab) (p q : Nat) (C : List Int) : (cset L T p q C).length = C.length := by unfold cset; split <;> simp
theorem crow_len (L : List Int) (T : Tab) (p : Nat) (C : List Int) : ∀ q, (crow L T p C q).length = C.length
  | 0 => rfl
  | q + 1 => by rw [crow, cset_len, crow_len L T p C q]
theorem call_len (L : List Int) (T : Tab) (C : List Int) : ∀ p, (call L T C p).length = C.length
  | 0 => rfl
  | p + 1 => by rw [call, crow_len, call_len L T C p]
/-- A list that is made from its number k down to 1. -/
def down {α : Type} (f : Nat → α) (k : Nat) : Nat → List α
  | 0 => []
  | j + 1 => down f k j ++ [f (k - j)]
theorem down_len {α : Type} (f : Nat → α) (k : Nat) : ∀ j, (down f k j).length = j
  | 0 => rfl
  | j + 1 => by rw [down, List.length_append, down_len f k j]; rfl
def genBs (L : List Int) (i n : Nat) : Bs := ⟨max 1 (bits .and .i64 (num L (330 + 2 * i) 256) (GenR.maskV n)), 1 + num L (331 + 2 * i) 30⟩
def maxW (T : Tab) : Nat → Int
  | 0 => 0
  | p + 1 => max (maxW T p) (WaitS.waitS T p)
def zTab : Tab := ⟨[zPh, zPh, zPh, zPh, zPh, zPh, zPh, zPh], [], [0, 0, 0, 0, 0, 0, 0, 0], [], [], [], 0, 0, 0, 0, 0, [0, 0, 0, 0, 0, 0, 0, 0], 0, 0⟩
def tab1 (L : List Int) : Tab := { zTab with groups := genGs L }
def tabP (L : List Int) (n : Nat) : Tab := { tab1 L with phases := upd (fun p => GenP.genPh L (10 + 12 * p)) zPh n, flash := upd (fun _ => 1) 0 n }
def tabC (L : List Int) : Tab := { tabP L (genN L) with conflict := call L (tab1 L) [0, 0, 0, 0, 0, 0, 0, 0] (genN L) }
def tabF (L : List Int) : Tab := if num L 174 ((genN L : Int) + 1) < genN L then { tabC L with flash := (tabC L).flash.set (num L 174 ((genN L : Int) + 1)).toNat 2 } else tabC L
def tabD (L : List Int) (j : Nat) : Tab := { tabF L with dets := down (fun i => GenD.genDet L (180 + 8 * i) (genN L)) (num L 175 9).toNat j }
def tabR (L : List Int) (j : Nat) : Tab := { tabD L (num L 175 9).toNat with rails := down (fun i => GenR.genRl (tab1 L) L (260 + 16 * i) (genN L)) (num L 176 4 % 3).toNat j }
def tabB (L : List Int) (j : Nat) : Tab := { tabR L (num L 176 4 % 3).toNat with buses := down (fun i => genBs L i (genN L)) (num L 177 3).toNat j }
def tabS (L : List Int) : Tab := { tabB L (num L 177 3).toNat with extend := num L 178 12, budget := num L 179 40, start := num L 180 8, revert := num L 181 8, least := num L 182 12, share := num L 183 4 }
/-- The table by the numbers L. -/
def genTab (L : List Int) : Tab := if (num L 176 4 % 3).toNat = 0 then tabS L else { tabS L with window := maxW (tabS L) (genN L) }
theorem beside_same {T U : Tab} (h : T.groups = U.groups) (p q : Int) : PlaceM.beside T p q = PlaceM.beside U p q := by
  unfold PlaceM.beside; unfold where_; unfold PlaceM.spots; rw [h]
/-! ### How a table's cells change -/
theorem cells_phase {T : Tab} (hd : Hd) (h8 : T.phases.length = 8) (p : Nat) (hp : p < 8) (x : Ph) : (T.cells hd).take (13 * p) ++ x.cells ++ (T.cells hd).drop (13 * p + 13) = { T with phases := T.phases.set p x }.cells hd := by
  obtain ⟨a0, a1, a2, a3, a4, a5, a6, a7, e⟩ := eight h8
  obtain ⟨phases, groups, conflict, dets, rails, buses, extend, budget, start, revert, least, flash, window, share⟩ := T
  simp only at e
  subst e
  match p, hp with
  | 0, _ | 1, _ | 2, _ | 3, _ | 4, _ | 5, _ | 6, _ | 7, _ => rfl
theorem cells_cut {T : Tab} (hd : Hd) (h8 : T.phases.length = 8) (hc : T.conflict.length = 8) (hf : T.flash.length = 8) : (T.cells hd).length = 131 := by
  obtain ⟨a0, a1, a2, a3, a4, a5, a6, a7, e⟩ := eight h8
  obtain ⟨c0, c1, c2, c3, c4, c5, c6, c7, e2⟩ := eight hc
  obtain ⟨f0, f1, f2, f3, f4, f5, f6, f7, e3⟩ := eight hf
  obtain ⟨phases, groups, conflict, dets, rails, buses, extend, budget, start, revert, least, flash, window, share⟩ := T
  simp only at e e2 e3
  subst e e2 e3
  rfl
theorem cells_conflict {T : Tab} (hd : Hd) (h8 : T.phases.length = 8) (hc : T.conflict.length = 8) (p : Nat) (hp : p < 8) (x : Int) : (T.cells hd).set (105 + p) (I x) = { T with conflict := T.conflict.set p x }.cells hd := by
  obtain ⟨a0, a1, a2, a3, a4, a5, a6, a7, e⟩ := eight h8
  obtain ⟨c0, c1, c2, c3, c4, c5, c6, c7, e2⟩ := eight hc
  obtain ⟨phases, groups, conflict, dets, rails, buses, extend, budget, start, revert, least, flash, window, share⟩ := T
  simp only at e e2
  subst e e2
  match p, hp with
  | 0, _ | 1, _ | 2, _ | 3, _ | 4, _ | 5, _ | 6, _ | 7, _ => rfl
theorem cells_flash {T : Tab} (hd : Hd) (h8 : T.phases.length = 8) (hc : T.conflict.length = 8) (hf : T.flash.length = 8) (p : Nat) (hp : p < 8) (x : Int) : (T.cells hd).set (121 + p) (I x) = { T with flash := T.flash.set p x }.cells hd := by
  obtain ⟨a0, a1, a2, a3, a4, a5, a6, a7, e⟩ := eight h8
  obtain ⟨c0, c1, c2, c3, c4, c5, c6, c7, e2⟩ := eight hc
  obtain ⟨f0, f1, f2, f3, f4, f5, f6, f7, e3⟩ := eight hf
  obtain ⟨phases, groups, conflict, dets, rails, buses, extend, budget, start, revert, least, flash, window, share⟩ := T
  simp only at e e2 e3
  subst e e2 e3
  match p, hp with
  | 0, _ | 1, _ | 2, _ | 3, _ | 4, _ | 5, _ | 6, _ | 7, _ => rfl
theorem cells_extend {T : Tab} (hd : Hd) (h8 : T.phases.length = 8) (hc : T.conflict.length = 8) (x : Int) : (T.cells hd).set 116 (I x) = { T with extend := x }.cells hd := by
  obtain ⟨a0, a1, a2, a3, a4, a5, a6, a7, e⟩ := eight h8
  obtain ⟨c0, c1, c2, c3, c4, c5, c6, c7, e2⟩ := eight hc
  obtain ⟨phases, groups, conflict, dets, rails, buses, extend, budget, start, revert, least, flash, window, share⟩ := T
  simp only at e e2
  subst e e2
  rfl
theorem cells_budget {T : Tab} (hd : Hd) (h8 : T.phases.length = 8) (hc : T.conflict.length = 8) (x : Int) : (T.cells hd).set 117 (I x) = { T with budget := x }.cells hd := by
  obtain ⟨a0, a1, a2, a3, a4, a5, a6, a7, e⟩ := eight h8
  obtain ⟨c0, c1, c2, c3, c4, c5, c6, c7, e2⟩ := eight hc
  obtain ⟨phases, groups, conflict, dets, rails, buses, extend, budget, start, revert, least, flash, window, share⟩ := T
  simp only at e e2
  subst e e2
  rfl
theorem cells_start {T : Tab} (hd : Hd) (h8 : T.phases.length = 8) (hc : T.conflict.length = 8) (x : Int) : (T.cells hd).set 118 (I x) = { T with start := x }.cells hd := by
  obtain ⟨a0, a1, a2, a3, a4, a5, a6, a7, e⟩ := eight h8
  obtain ⟨c0, c1, c2, c3, c4, c5, c6, c7, e2⟩ := eight hc
  obtain ⟨phases, groups, conflict, dets, rails, buses, extend, budget, start, revert, least, flash, window, share⟩ := T
  simp only at e e2
  subst e e2
  rfl
theorem cells_revert {T : Tab} (hd : Hd) (h8 : T.phases.length = 8) (hc : T.conflict.length = 8) (x : Int) : (T.cells hd).set 119 (I x) = { T with revert := x }.cells hd := by
  obtain ⟨a0, a1, a2, a3, a4, a5, a6, a7, e⟩ := eight h8
  obtain ⟨c0, c1, c2, c3, c4, c5, c6, c7, e2⟩ := eight hc
  obtain ⟨phases, groups, conflict, dets, rails, buses, extend, budget, start, revert, least, flash, window, share⟩ := T
  simp only at e e2
  subst e e2
  rfl
theorem cells_least {T : Tab} (hd : Hd) (h8 : T.phases.length = 8) (hc : T.conflict.length = 8) (x : Int) : (T.cells hd).set 120 (I x) = { T with least := x }.cells hd := by
  obtain ⟨a0, a1, a2, a3, a4, a5, a6, a7, e⟩ := eight h8
  obtain ⟨c0, c1, c2, c3, c4, c5, c6, c7, e2⟩ := eight hc
  obtain ⟨phases, groups, conflict, dets, rails, buses, extend, budget, start, revert, least, flash, window, share⟩ := T
  simp only at e e2
  subst e e2
  rfl
theorem cells_window {T : Tab} (hd : Hd) (h8 : T.phases.length = 8) (hc : T.conflict.length = 8) (hf : T.flash.length = 8) (x : Int) : (T.cells hd).set 129 (I x) = { T with window := x }.cells hd := by
  obtain ⟨a0, a1, a2, a3, a4, a5, a6, a7, e⟩ := eight h8
  obtain ⟨c0, c1, c2, c3, c4, c5, c6, c7, e2⟩ := eight hc
  obtain ⟨f0, f1, f2, f3, f4, f5, f6, f7, e3⟩ := eight hf
  obtain ⟨phases, groups, conflict, dets, rails, buses, extend, budget, start, revert, least, flash, window, share⟩ := T
  simp only at e e2 e3
  subst e e2 e3
  rfl
theorem cells_share {T : Tab} (hd : Hd) (h8 : T.phases.length = 8) (hc : T.conflict.length = 8) (hf : T.flash.length = 8) (x : Int) : (T.cells hd).set 130 (I x) = { T with share := x }.cells hd := by
  obtain ⟨a0, a1, a2, a3, a4, a5, a6, a7, e⟩ := eight h8
  obtain ⟨c0, c1, c2, c3, c4, c5, c6, c7, e2⟩ := eight hc
  obtain ⟨f0, f1, f2, f3, f4, f5, f6, f7, e3⟩ := eight hf
  obtain ⟨phases, groups, conflict, dets, rails, buses, extend, budget, start, revert, least, flash, window, share⟩ := T
  simp only at e e2 e3
  subst e e2 e3
  rfl
theorem cells_dets {T : Tab} (hd : Hd) (h8 : T.phases.length = 8) (hc : T.conflict.length = 8) (s : Sl) (l : List Det) : (T.cells hd).set 113 (s.val l.length) = { T with dets := l }.cells ⟨hd.g, s, hd.r, hd.b⟩ := by
  obtain ⟨a0, a1, a2, a3, a4, a5, a6, a7, e⟩ := eight h8
  obtain ⟨c0, c1, c2, c3, c4, c5, c6, c7, e2⟩ := eight hc
  obtain ⟨phases, groups, conflict, dets, rails, buses, extend, budget, start, revert, least, flash, window, share⟩ := T
  simp only at e e2
  subst e e2
  rfl
theorem cells_rails {T : Tab} (hd : Hd) (h8 : T.phases.length = 8) (hc : T.conflict.length = 8) (s : Sl) (l : List Rl) : (T.cells hd).set 114 (s.val l.length) = { T with rails := l }.cells ⟨hd.g, hd.d, s, hd.b⟩ := by
  obtain ⟨a0, a1, a2, a3, a4, a5, a6, a7, e⟩ := eight h8
  obtain ⟨c0, c1, c2, c3, c4, c5, c6, c7, e2⟩ := eight hc
  obtain ⟨phases, groups, conflict, dets, rails, buses, extend, budget, start, revert, least, flash, window, share⟩ := T
  simp only at e e2
  subst e e2
  rfl
theorem cells_buses {T : Tab} (hd : Hd) (h8 : T.phases.length = 8) (hc : T.conflict.length = 8) (s : Sl) (l : List Bs) : (T.cells hd).set 115 (s.val l.length) = { T with buses := l }.cells ⟨hd.g, hd.d, hd.r, s⟩ := by
  obtain ⟨a0, a1, a2, a3, a4, a5, a6, a7, e⟩ := eight h8
  obtain ⟨c0, c1, c2, c3, c4, c5, c6, c7, e2⟩ := eight hc
  obtain ⟨phases, groups, conflict, dets, rails, buses, extend, budget, start, revert, least, flash, window, share⟩ := T
  simp only at e e2
  subst e e2
  rfl
theorem cells_groups {T : Tab} (hd : Hd) (h8 : T.phases.length = 8) (s : Sl) (l : List (List Int × List Int)) : (T.cells hd).set 104 (s.val l.length) = { T with groups := l }.cells ⟨s, hd.d, hd.r, hd.b⟩ := by
  obtain ⟨a0, a1, a2, a3, a4, a5, a6, a7, e⟩ := eight h8
  obtain ⟨phases, groups, conflict, dets, rails, buses, extend, budget, start, revert, least, flash, window, share⟩ := T
  simp only at e
  subst e
  rfl
/-! ### The box -/
def KT (w : World) (s : Sl) (t : TypeId) : Prop := ∀ x, s.a = some x → ∃ cs : Array Value, w.heap[x.block]? = some (.cells cs t (0, 0))
theorem KT.grown {w w' : World} {s : Sl} {t : TypeId} {row : Option Nat} (h : KT w s t) (hg : w.grownBy w' row) (hne : ∀ x, s.a = some x → some x.block ≠ row) : KT w' s t := fun x hx => by
  obtain ⟨cs, hc⟩ := h x hx
  exact ⟨cs, (hg.block _ (Array.getElem?_eq_some_iff.1 hc).1 (hne x hx)).trans hc⟩
theorem KT.ne {w : World} {s : Sl} {b : Nat} {cs : Array Value} {t t' : TypeId} (h : KT w s t) (hb : w.heap[b]? = some (.cells cs t' (0, 0))) (ht : t' ≠ t) : ∀ x, s.a = some x → x.block ≠ b := by
  intro x hx e
  obtain ⟨ds, hc⟩ := h x hx
  rw [e, hb] at hc
  simp at hc
  exact ht hc.2
theorem row_grown {α : Type} {n : Nat} {enc : α → List Value} {w w' : World} {s : Sl} {l : List α} {row : Option Nat} (h : RowOf n enc w s l) (hg : w.grownBy w' row) (hne : ∀ x, s.a = some x → some x.block ≠ row) : RowOf n enc w' s l := by
  rcases h with h | ⟨x, h1, h2, h3, h4⟩
  · exact .inl h
  · exact .inr ⟨x, h1, h2, h3, fun i v hv j u hu => hg.cell (h4 i v hv j u hu) (by rw [add_block, add_block]; exact hne x h1)⟩
/-- The groups of a table, in blocks of their types. -/
def GrT (w : World) (s : Sl) (l : List (List Int × List Int)) : Prop := ∃ gs : List Gr, gs.map Gr.data = l ∧ RowOf 2 Gr.cells w s gs ∧ KT w s 85 ∧ ∀ g ∈ gs, RowI w g.s0 g.r0 ∧ RowI w g.s1 g.r1
theorem GrT.grown {w w' : World} {s : Sl} {l : List (List Int × List Int)} {row : Option Nat} (h : GrT w s l) (hg : w.grownBy w' row) (hr : ∀ m, row = some m → ∃ cs t, w.heap[m]? = some (.cells cs t (0, 0)) ∧ t ≠ 85 ∧ t ≠ 3) : GrT w' s l := by
  obtain ⟨gs, h1, h2, h3, h4⟩ := h
  have hI : ∀ (s : Sl) (l : List Int), RowI w s l → RowI w' s l := fun s l hs => hs.grown hg (fun x hx e => by
    obtain ⟨cs, t, hb, _, ht⟩ := hr _ e.symm
    exact hs.ne hb ht x hx rfl)
  have hn : ∀ x, s.a = some x → some x.block ≠ row := fun x hx e => by
    obtain ⟨cs, t, hb, ht, _⟩ := hr _ e.symm
    exact h3.ne hb ht x hx rfl
  exact ⟨gs, h1, row_grown h2 hg hn, h3.grown hg hn, fun g hgm => ⟨hI _ _ (h4 g hgm).1, hI _ _ (h4 g hgm).2⟩⟩
theorem GrT.lie {w : World} {s : Sl} {l : List (List Int × List Int)} (h : GrT w s l) : ∃ gs : List Gr, gs.map Gr.data = l ∧ GroupsLie w s gs := by
  obtain ⟨gs, h1, h2, h3, h4⟩ := h
  exact ⟨gs, h1, h2, fun g hg => ⟨(h4 g hg).1.1, (h4 g hg).2.1⟩⟩
def zHd : Hd := ⟨⟨none, 0⟩, ⟨none, 0⟩, ⟨none, 0⟩, ⟨none, 0⟩⟩
/-- The generator's two boxes: the result's, and the table that is built. -/
structure Bx (w : World) (hd : Hd) (T : Tab) (W : World) : Prop where
  bel : Below w.heap.size w W
  res : W.heap[w.heap.size]? = some (.cells (zTab.cells zHd).toArray 45 (0, 0))
  blk : W.heap[w.heap.size + 1]? = some (.cells (T.cells hd).toArray 45 (0, 0))
  ph : T.phases.length = 8
  cf : T.conflict.length = 8
  fl : T.flash.length = 8
  groups : GrT W hd.g T.groups
  dets : Owns Det.cells 7 w.heap.size W 72 (hd.d.val T.dets.length) T.dets
  rails : Owns Rl.cells 11 w.heap.size W 75 (hd.r.val T.rails.length) T.rails
  buses : Owns Bs.cells 2 w.heap.size W 79 (hd.b.val T.buses.length) T.buses
  gbk : ∀ x, hd.g.a = some x → ∃ g, x = ⟨g, 0, none⟩ ∧ w.heap.size ≤ g
theorem own_is {α : Type} {enc : α → List Value} {n B : Nat} {w : World} {t : TypeId} {s : Sl} {l : List α} (henc : ∀ x, (enc x).length = n) (h : Owns enc n B w t (s.val l.length) l) : RowOf n enc w s l := by
  obtain ⟨s', e, r⟩ := Owns.row h henc
  obtain ⟨a, c⟩ := s
  obtain ⟨a', c'⟩ := s'
  simp only [Sl.val, Value.slice.injEq] at e
  obtain ⟨rfl, _, rfl⟩ := e
  exact r
theorem Bx.tab {w W : World} {hd : Hd} {T : Tab} (h : Bx w hd T W) : IsTab W hd T :=
  ⟨h.ph, h.cf, h.fl, h.groups.lie, own_is (fun _ => rfl) h.dets, own_is (fun _ => rfl) h.rails, own_is (fun _ => rfl) h.buses⟩
theorem Bx.size {w W : World} {hd : Hd} {T : Tab} (h : Bx w hd T W) : w.heap.size + 1 < W.heap.size := (Array.getElem?_eq_some_iff.1 h.blk).1
theorem Bx.step {w W W' : World} {hd : Hd} {T : Tab} (h : Bx w hd T W) (hb : Below W.heap.size W W') : Bx w hd T W' :=
  ⟨h.bel.trans (hb.mono h.bel.size), (hb.block _ (by have := h.size; omega)).trans h.res, (hb.block _ h.size).trans h.blk, h.ph, h.cf, h.fl, h.groups.grown (grown_below hb none) (fun m e => by cases e), h.dets.below hb, h.rails.below hb, h.buses.below hb, h.gbk⟩
/-- A block that is neither of the two boxes nor another type's is written. -/
theorem Bx.cell {w W : World} {hd : Hd} {T : Tab} (h : Bx w hd T W) (i : Nat) : W.cell? ⟨w.heap.size + 1, i, none⟩ = (T.cells hd)[i]? := by
  rw [cell_of_row _ _ _ _ _ _ h.blk]; simp
theorem Bx.frozen {w W : World} {hd : Hd} {T : Tab} (h : Bx w hd T W) (i : Nat) : W.frozen? ⟨w.heap.size + 1, i, none⟩ = false := frozen_of_row _ _ _ _ _ h.blk
/-- The table's box is written; its lists stay. -/
theorem Bx.write {w W W' : World} {hd : Hd} {T U : Tab} (h : Bx w hd T W) (hg : W.grownBy W' (some (w.heap.size + 1))) (hb : W'.heap[w.heap.size + 1]? = some (.cells (U.cells hd).toArray 45 (0, 0)))
    (h1 : U.phases.length = 8) (h2 : U.conflict.length = 8) (h3 : U.flash.length = 8) (e1 : U.groups = T.groups) (e2 : U.dets = T.dets) (e3 : U.rails = T.rails) (e4 : U.buses = T.buses) : Bx w hd U W' := by
  refine ⟨h.bel.grown hg h.bel.size (fun k hk => by cases hk; omega), ?_, hb, h1, h2, h3, ?_, ?_, ?_, ?_, h.gbk⟩
  · exact (hg.block _ (by have := h.size; omega) (fun e => by simp at e)).trans h.res
  · rw [e1]
    exact h.groups.grown hg (fun m e => by cases e; exact ⟨_, _, h.blk, by decide, by decide⟩)
  · rw [e2]; exact own_kept h.dets hg (fun m hm e => by cases e; exact own_ne h.dets h.blk (by decide) hm)
  · rw [e3]; exact own_kept h.rails hg (fun m hm e => by cases e; exact own_ne h.rails h.blk (by decide) hm)
  · rw [e4]; exact own_kept h.buses hg (fun m hm e => by cases e; exact own_ne h.buses h.blk (by decide) hm)
/-- One number of the table. -/
theorem Bx.set {w W : World} {hd : Hd} {T U : Tab} (h : Bx w hd T W) (i : Nat) (v : Value) (hc : (T.cells hd).set i v = U.cells hd)
    (h1 : U.phases.length = 8) (h2 : U.conflict.length = 8) (h3 : U.flash.length = 8) (e1 : U.groups = T.groups) (e2 : U.dets = T.dets) (e3 : U.rails = T.rails) (e4 : U.buses = T.buses) : Bx w hd U (W.setCell ⟨w.heap.size + 1, i, none⟩ v) :=
  h.write (grown_set _ _ _ _) (by rw [heap_setCell_same _ _ _ _ _ _ h.blk, ← hc]; simp) h1 h2 h3 e1 e2 e3 e4
theorem setRow_grown (W : World) (b : Nat) (cs : Array Value) (h : b < W.heap.size) : W.grownBy (W.setRow b cs) (some b) :=
  ⟨rfl, rfl, rfl, by simp [World.setRow], fun j _ hj => setRow_other _ _ _ _ (fun e => hj (by rw [e]))⟩
theorem Bx.put_dets {w W W' : World} {hd : Hd} {T : Tab} {v' : Value} (x : Det) (h : Bx w hd T W) (hg : W.grownBy W' (hd.d.val T.dets.length).ownBlock)
    (ho : W'.ownsRow w.heap.size 72 7 v' (T.dets.length + 1) (T.dets.flatMap Det.cells ++ x.cells)) :
    (W'.heap[w.heap.size + 1]? = some (.cells (T.cells hd).toArray 45 (0, 0))) ∧ ∃ a' c', v' = .slice a' (T.dets.length + 1) c' ∧ Bx w ⟨hd.g, ⟨a', c'⟩, hd.r, hd.b⟩ { T with dets := T.dets ++ [x] } (W'.setCell ⟨w.heap.size + 1, 113, none⟩ v') := by
  have hne : ∀ {b : Nat} {cs : Array Value}, W.heap[b]? = some (.cells cs 45 (0, 0)) → some b ≠ (hd.d.val T.dets.length).ownBlock := fun hb e => own_ne h.dets hb (by decide) e.symm
  have hbx := (hg.block _ h.size (hne h.blk)).trans h.blk
  have hrs := (hg.block _ (by have := h.size; omega) (hne h.res)).trans h.res
  have hO : Owns Det.cells 7 w.heap.size W' 72 v' (T.dets ++ [x]) := Owns.snoc ho
  obtain ⟨⟨a', c'⟩, hs, hr⟩ := Owns.row hO (fun _ => rfl)
  refine ⟨hbx, a', c', by rw [hs, List.length_append]; rfl, ?_⟩
  refine ⟨?_, ?_, ?_, h.ph, h.cf, h.fl, ?_, by rw [show Sl.val ⟨a', c'⟩ (T.dets ++ [x]).length = v' from by rw [hs]]; exact own_kept hO (grown_set _ _ _ _) (fun m hm e => by cases e; exact own_ne hO hbx (by decide) hm), own_kept (own_kept h.rails hg (fun m hm e => by obtain ⟨ds, hd2⟩ := own_type h.dets _ e; exact own_ne h.rails hd2 (by decide) hm)) (grown_set _ _ _ _) (fun m hm e => by cases e; exact own_ne (own_kept h.rails hg (fun m hm e => by obtain ⟨ds, hd2⟩ := own_type h.dets _ e; exact own_ne h.rails hd2 (by decide) hm)) hbx (by decide) hm), own_kept (own_kept h.buses hg (fun m hm e => by obtain ⟨ds, hd2⟩ := own_type h.dets _ e; exact own_ne h.buses hd2 (by decide) hm)) (grown_set _ _ _ _) (fun m hm e => by cases e; exact own_ne (own_kept h.buses hg (fun m hm e => by obtain ⟨ds, hd2⟩ := own_type h.dets _ e; exact own_ne h.buses hd2 (by decide) hm)) hbx (by decide) hm), h.gbk⟩
  · exact (h.bel.grown hg h.bel.size (fun k hk => h.dets.blk k hk)).setCell (p := ⟨w.heap.size + 1, 113, none⟩) (by simp) v'
  · rw [heap_setCell_other _ _ _ _ (by simp)]; exact hrs
  · rw [heap_setCell_same _ _ _ _ _ _ hbx, ← cells_dets hd h.ph h.cf ⟨a', c'⟩ (T.dets ++ [x]), ← hs]; simp
  · exact (h.groups.grown hg (fun m e => by obtain ⟨ds, hd2⟩ := own_type h.dets _ e; exact ⟨ds, _, hd2, by decide, by decide⟩)).grown (grown_set _ _ _ _) (fun m e => by cases e; exact ⟨_, _, hbx, by decide, by decide⟩)
theorem Bx.put_rails {w W W' : World} {hd : Hd} {T : Tab} {v' : Value} (x : Rl) (h : Bx w hd T W) (hg : W.grownBy W' (hd.r.val T.rails.length).ownBlock)
    (ho : W'.ownsRow w.heap.size 75 11 v' (T.rails.length + 1) (T.rails.flatMap Rl.cells ++ x.cells)) :
    (W'.heap[w.heap.size + 1]? = some (.cells (T.cells hd).toArray 45 (0, 0))) ∧ ∃ a' c', v' = .slice a' (T.rails.length + 1) c' ∧ Bx w ⟨hd.g, hd.d, ⟨a', c'⟩, hd.b⟩ { T with rails := T.rails ++ [x] } (W'.setCell ⟨w.heap.size + 1, 114, none⟩ v') := by
  have hne : ∀ {b : Nat} {cs : Array Value}, W.heap[b]? = some (.cells cs 45 (0, 0)) → some b ≠ (hd.r.val T.rails.length).ownBlock := fun hb e => own_ne h.rails hb (by decide) e.symm
  have hbx := (hg.block _ h.size (hne h.blk)).trans h.blk
  have hrs := (hg.block _ (by have := h.size; omega) (hne h.res)).trans h.res
  have hO : Owns Rl.cells 11 w.heap.size W' 75 v' (T.rails ++ [x]) := Owns.snoc ho
  obtain ⟨⟨a', c'⟩, hs, hr⟩ := Owns.row hO (fun _ => rfl)
  refine ⟨hbx, a', c', by rw [hs, List.length_append]; rfl, ?_⟩
  refine ⟨?_, ?_, ?_, h.ph, h.cf, h.fl, ?_, own_kept (own_kept h.dets hg (fun m hm e => by obtain ⟨ds, hd2⟩ := own_type h.rails _ e; exact own_ne h.dets hd2 (by decide) hm)) (grown_set _ _ _ _) (fun m hm e => by cases e; exact own_ne (own_kept h.dets hg (fun m hm e => by obtain ⟨ds, hd2⟩ := own_type h.rails _ e; exact own_ne h.dets hd2 (by decide) hm)) hbx (by decide) hm), by rw [show Sl.val ⟨a', c'⟩ (T.rails ++ [x]).length = v' from by rw [hs]]; exact own_kept hO (grown_set _ _ _ _) (fun m hm e => by cases e; exact own_ne hO hbx (by decide) hm), own_kept (own_kept h.buses hg (fun m hm e => by obtain ⟨ds, hd2⟩ := own_type h.rails _ e; exact own_ne h.buses hd2 (by decide) hm)) (grown_set _ _ _ _) (fun m hm e => by cases e; exact own_ne (own_kept h.buses hg (fun m hm e => by obtain ⟨ds, hd2⟩ := own_type h.rails _ e; exact own_ne h.buses hd2 (by decide) hm)) hbx (by decide) hm), h.gbk⟩
  · exact (h.bel.grown hg h.bel.size (fun k hk => h.rails.blk k hk)).setCell (p := ⟨w.heap.size + 1, 114, none⟩) (by simp) v'
  · rw [heap_setCell_other _ _ _ _ (by simp)]; exact hrs
  · rw [heap_setCell_same _ _ _ _ _ _ hbx, ← cells_rails hd h.ph h.cf ⟨a', c'⟩ (T.rails ++ [x]), ← hs]; simp
  · exact (h.groups.grown hg (fun m e => by obtain ⟨ds, hd2⟩ := own_type h.rails _ e; exact ⟨ds, _, hd2, by decide, by decide⟩)).grown (grown_set _ _ _ _) (fun m e => by cases e; exact ⟨_, _, hbx, by decide, by decide⟩)
theorem Bx.put_buses {w W W' : World} {hd : Hd} {T : Tab} {v' : Value} (x : Bs) (h : Bx w hd T W) (hg : W.grownBy W' (hd.b.val T.buses.length).ownBlock)
    (ho : W'.ownsRow w.heap.size 79 2 v' (T.buses.length + 1) (T.buses.flatMap Bs.cells ++ x.cells)) :
    (W'.heap[w.heap.size + 1]? = some (.cells (T.cells hd).toArray 45 (0, 0))) ∧ ∃ a' c', v' = .slice a' (T.buses.length + 1) c' ∧ Bx w ⟨hd.g, hd.d, hd.r, ⟨a', c'⟩⟩ { T with buses := T.buses ++ [x] } (W'.setCell ⟨w.heap.size + 1, 115, none⟩ v') := by
  have hne : ∀ {b : Nat} {cs : Array Value}, W.heap[b]? = some (.cells cs 45 (0, 0)) → some b ≠ (hd.b.val T.buses.length).ownBlock := fun hb e => own_ne h.buses hb (by decide) e.symm
  have hbx := (hg.block _ h.size (hne h.blk)).trans h.blk
  have hrs := (hg.block _ (by have := h.size; omega) (hne h.res)).trans h.res
  have hO : Owns Bs.cells 2 w.heap.size W' 79 v' (T.buses ++ [x]) := Owns.snoc ho
  obtain ⟨⟨a', c'⟩, hs, hr⟩ := Owns.row hO (fun _ => rfl)
  refine ⟨hbx, a', c', by rw [hs, List.length_append]; rfl, ?_⟩
  refine ⟨?_, ?_, ?_, h.ph, h.cf, h.fl, ?_, own_kept (own_kept h.dets hg (fun m hm e => by obtain ⟨ds, hd2⟩ := own_type h.buses _ e; exact own_ne h.dets hd2 (by decide) hm)) (grown_set _ _ _ _) (fun m hm e => by cases e; exact own_ne (own_kept h.dets hg (fun m hm e => by obtain ⟨ds, hd2⟩ := own_type h.buses _ e; exact own_ne h.dets hd2 (by decide) hm)) hbx (by decide) hm), own_kept (own_kept h.rails hg (fun m hm e => by obtain ⟨ds, hd2⟩ := own_type h.buses _ e; exact own_ne h.rails hd2 (by decide) hm)) (grown_set _ _ _ _) (fun m hm e => by cases e; exact own_ne (own_kept h.rails hg (fun m hm e => by obtain ⟨ds, hd2⟩ := own_type h.buses _ e; exact own_ne h.rails hd2 (by decide) hm)) hbx (by decide) hm), by rw [show Sl.val ⟨a', c'⟩ (T.buses ++ [x]).length = v' from by rw [hs]]; exact own_kept hO (grown_set _ _ _ _) (fun m hm e => by cases e; exact own_ne hO hbx (by decide) hm), h.gbk⟩
  · exact (h.bel.grown hg h.bel.size (fun k hk => h.buses.blk k hk)).setCell (p := ⟨w.heap.size + 1, 115, none⟩) (by simp) v'
  · rw [heap_setCell_other _ _ _ _ (by simp)]; exact hrs
  · rw [heap_setCell_same _ _ _ _ _ _ hbx, ← cells_buses hd h.ph h.cf ⟨a', c'⟩ (T.buses ++ [x]), ← hs]; simp
  · exact (h.groups.grown hg (fun m e => by obtain ⟨ds, hd2⟩ := own_type h.buses _ e; exact ⟨ds, _, hd2, by decide, by decide⟩)).grown (grown_set _ _ _ _) (fun m e => by cases e; exact ⟨_, _, hbx, by decide, by decide⟩)
end GenT
namespace GenT
open Go.ChangeShapes Go.WideShapes Go.ChangeAt Go.RowKit
open Tab Gath GenG Clone PlaceM CodeAt
open RefS (num num_range from_any)
theorem cset_same {T U : Tab} (h : T.groups = U.groups) (L : List Int) (p q : Nat) (C : List Int) : cset L T p q C = cset L U p q C := by
  unfold cset; rw [beside_same h]
theorem crow_same {T U : Tab} (h : T.groups = U.groups) (L : List Int) (p : Nat) (C : List Int) : ∀ q, crow L T p C q = crow L U p C q
  | 0 => rfl
  | q + 1 => by rw [crow, crow, crow_same h L p C q, cset_same h]
theorem call_same {T U : Tab} (h : T.groups = U.groups) (L : List Int) (C : List Int) : ∀ p, call L T C p = call L U C p
  | 0 => rfl
  | p + 1 => by rw [call, call, call_same h L C p, crow_same h]
theorem genN_range (L : List Int) : genN L ≤ 8 := up_le L (genG L) (genG_range L).2 _ (Nat.le_refl _)
theorem upTo_pos (L : List Int) (G : Nat) (hG : G ≤ 3) : ∀ g, g < G → (upTo L G g).2 < (upTo L G (g + 1)).2 := fun g hg => by
  show (upTo L G g).2 < (upTo L G g).2 + n0 L G g (upTo L G g).2 + n1 L G g (upTo L G g).2
  have h0 : ∀ g, g < G → (upTo L G g).2 ≤ 4 * g ∧ (upTo L G g).2 ≤ lim G g - 1 := by
    intro g
    induction g with
    | zero => intro h; exact ⟨Nat.zero_le _, Nat.zero_le _⟩
    | succ k ih =>
      intro h
      have := ih (by omega)
      show (upTo L G k).2 + n0 L G k (upTo L G k).2 + n1 L G k (upTo L G k).2 ≤ 4 * (k + 1) ∧ (upTo L G k).2 + n0 L G k (upTo L G k).2 + n1 L G k (upTo L G k).2 ≤ lim G (k + 1) - 1
      have a := want0_le L k
      have b := want1_le L k (n0 L G k (upTo L G k).2)
      unfold n1
      have : n0 L G k (upTo L G k).2 ≤ want0 L k ∧ n0 L G k (upTo L G k).2 ≤ lim G k - (upTo L G k).2 := by unfold n0; omega
      unfold lim at *
      omega
  have h1 := (h0 g hg).2
  have hl : 1 ≤ lim G g - (upTo L G g).2 := by unfold lim at *; omega
  by_cases e : n0 L G g (upTo L G g).2 = 0
  · have hw : 1 ≤ want1 L g (n0 L G g (upTo L G g).2) := by
      rw [e]; unfold want1
      have := num_range L (2 + 2 * g) 3 (by omega)
      split <;> omega
    have : 1 ≤ n1 L G g (upTo L G g).2 := by unfold n1; rw [e] at hw ⊢; omega
    omega
  · omega
theorem genN_pos (L : List Int) : 1 ≤ genN L := by
  obtain ⟨h1, h3⟩ := genG_range L
  have := upTo_pos L (genG L) h3 (genG L - 1) (by omega)
  rw [show genG L - 1 + 1 = genG L by omega] at this
  show 1 ≤ (upTo L (genG L) (genG L)).2
  omega
theorem genGs_len (L : List Int) : (genGs L).length = genG L := up_len L _ _
theorem up_few (L : List Int) (G : Nat) : ∀ g, ∀ x ∈ (upTo L G g).1, x.1.length ≤ 2 ∧ x.2.length ≤ 2
  | 0 => fun x h => by simp [upTo] at h
  | g + 1 => fun x h => by
    rw [upTo] at h
    rcases List.mem_append.1 h with h | h
    · exact up_few L G g x h
    · obtain rfl : x = grpD L G g (upTo L G g).2 := by simpa using h
      have a := want0_le L g
      have b := want1_le L g (n0 L G g (upTo L G g).2)
      constructor
      · show (seg _ _).length ≤ 2
        rw [seg_len]; unfold n0; omega
      · show (seg _ _).length ≤ 2
        rw [seg_len]; unfold n1; omega
theorem tab1_few (L : List Int) : Few (tab1 L) := ⟨by show (genGs L).length ≤ 1000; rw [genGs_len]; have := (genG_range L).2; omega, fun x h => by have := up_few L _ _ x h; omega⟩
theorem tabF_groups (L : List Int) : (tabF L).groups = genGs L := by unfold tabF; split <;> rfl
theorem tabF_dets (L : List Int) : { tabF L with dets := [] } = tabF L := by unfold tabF; split <;> rfl
theorem tabD_rails (L : List Int) (k : Nat) : { tabD L k with rails := [] } = tabD L k := by unfold tabD tabF; split <;> rfl
theorem tabR_buses (L : List Int) (k : Nat) : { tabR L k with buses := [] } = tabR L k := by unfold tabR tabD tabF; split <;> rfl
theorem tabS_window (L : List Int) : { tabS L with window := 0 } = tabS L := by unfold tabS tabB tabR tabD tabF; split <;> rfl
theorem tabS_rails (L : List Int) : (tabS L).rails.length = (num L 176 4 % 3).toNat := down_len _ _ _
theorem tabS_groups (L : List Int) : (tabS L).groups = genGs L := tabF_groups L
theorem tabS_few (L : List Int) : Few (tabS L) := ⟨by rw [tabS_groups]; exact (tab1_few L).groups, by rw [tabS_groups]; exact (tab1_few L).rows⟩
theorem down_same {α : Type} {f g : Nat → α} (h : ∀ i, f i = g i) (k : Nat) : ∀ j, down f k j = down g k j
  | 0 => rfl
  | j + 1 => by rw [down, down, down_same h k j, h]
/-- The first of six numbers are laid. -/
def scal (T : Tab) (l : List Int) : Tab := { T with extend := l.getD 0 T.extend, budget := l.getD 1 T.budget, start := l.getD 2 T.start, revert := l.getD 3 T.revert, least := l.getD 4 T.least, share := l.getD 5 T.share }
theorem scal_set {w W : World} {hd : Hd} {T : Tab} {l : List Int} (h : Bx w hd (scal T l) W) (x : Int) (i k : Nat) (hk : l.length = k) (hi : (k = 0 ∧ i = 116) ∨ (k = 1 ∧ i = 117) ∨ (k = 2 ∧ i = 118) ∨ (k = 3 ∧ i = 119) ∨ (k = 4 ∧ i = 120) ∨ (k = 5 ∧ i = 130)) :
    (∃ v, W.cell? ⟨w.heap.size + 1, i, none⟩ = some (I v)) ∧ W.frozen? ⟨w.heap.size + 1, i, none⟩ = false ∧ Bx w hd (scal T (l ++ [x])) (W.setCell ⟨w.heap.size + 1, i, none⟩ (I x)) := by
  refine ⟨?_, h.frozen i, ?_⟩
  · rw [h.cell, ← List.getElem?_toArray]
    rcases hi with ⟨rfl, rfl⟩ | ⟨rfl, rfl⟩ | ⟨rfl, rfl⟩ | ⟨rfl, rfl⟩ | ⟨rfl, rfl⟩ | ⟨rfl, rfl⟩
    · exact ⟨_, (cells_ok h.tab).extend⟩
    · exact ⟨_, (cells_ok h.tab).budget⟩
    · exact ⟨_, (cells_ok h.tab).start⟩
    · exact ⟨_, (cells_ok h.tab).revert⟩
    · exact ⟨_, (cells_ok h.tab).least⟩
    · exact ⟨_, (cells_ok h.tab).share⟩
  · rcases hi with ⟨rfl, rfl⟩ | ⟨rfl, rfl⟩ | ⟨rfl, rfl⟩ | ⟨rfl, rfl⟩ | ⟨rfl, rfl⟩ | ⟨rfl, rfl⟩
    · match l, hk with
      | [], _ => exact h.set 116 (I x) (cells_extend hd h.ph h.cf x) h.ph h.cf h.fl rfl rfl rfl rfl
    · match l, hk with
      | [_], _ => exact h.set 117 (I x) (cells_budget hd h.ph h.cf x) h.ph h.cf h.fl rfl rfl rfl rfl
    · match l, hk with
      | [_, _], _ => exact h.set 118 (I x) (cells_start hd h.ph h.cf x) h.ph h.cf h.fl rfl rfl rfl rfl
    · match l, hk with
      | [_, _, _], _ => exact h.set 119 (I x) (cells_revert hd h.ph h.cf x) h.ph h.cf h.fl rfl rfl rfl rfl
    · match l, hk with
      | [_, _, _, _], _ => exact h.set 120 (I x) (cells_least hd h.ph h.cf x) h.ph h.cf h.fl rfl rfl rfl rfl
    · match l, hk with
      | [_, _, _, _, _], _ => exact h.set 130 (I x) (cells_share hd h.ph h.cf h.fl x) h.ph h.cf h.fl rfl rfl rfl rfl
theorem infoTz : (Try.prog.info? 45).map (fun i => (i.zero, i.size)) = some (some (.agg (zTab.cells zHd).toArray), 131) := by kernel_rfl
/-- Behind rows: the box. -/
theorem Bx.first {w W : World} {L : List Int} {ga : Option Addr} {gc : Nat} {gs : List Gr} {W0 : World} (hW : Below w.heap.size w W0) (hs : W0.heap.size = w.heap.size + 2) (h0 : W0.heap[w.heap.size]? = some (.cells (zTab.cells zHd).toArray 45 (0, 0)))
    (hd : gs.map Gr.data = genGs L) (h : GS W0 (w.heap.size + 1) (zTab.cells zHd) ga gc (genG L) gs W) : Bx w ⟨⟨ga, gc⟩, ⟨none, 0⟩, ⟨none, 0⟩, ⟨none, 0⟩⟩ (tab1 L) W := by
  refine ⟨⟨h.gb.os.trans hW.os, h.gb.tape.trans hW.tape, h.gb.output.trans hW.output, by have := h.gb.size; omega, fun j hj => (h.gb.block j (by omega) (fun e => by simp at e; omega)).trans (hW.block j hj)⟩, (h.gb.block _ (by omega) (fun e => by simp at e)).trans h0, ?_, rfl, rfl, rfl, ?_, Owns.nil, Owns.nil, Owns.nil, ?_⟩
  · rw [h.tbk]
    have := cells_groups (T := zTab) zHd rfl ⟨ga, gc⟩ (genGs L)
    rw [genGs_len] at this
    rw [show (Value.slice ga (genG L) gc) = (Sl.val ⟨ga, gc⟩ (genG L)) from rfl, this]
    rfl
  · have hO : Owns Gr.cells 2 W0.heap.size W 85 (Sl.val ⟨ga, gc⟩ gs.length) gs := by rw [h.len]; exact h.own
    refine ⟨gs, hd, own_is (fun _ => rfl) hO, fun x hx => ?_, h.rows⟩
    obtain rfl : ga = some x := hx
    rcases hO.2 with ⟨e, _⟩ | ⟨g, cp, cur, e, h1, h2, _⟩
    · simp [Sl.val] at e
    · simp [Sl.val] at e
      obtain ⟨rfl, _⟩ := e
      exact ⟨cur, h2⟩
  · have hO : Owns Gr.cells 2 W0.heap.size W 85 (Sl.val ⟨ga, gc⟩ gs.length) gs := by rw [h.len]; exact h.own
    intro x hx
    obtain rfl : ga = some x := hx
    rcases hO.2 with ⟨e, _⟩ | ⟨g, cp, cur, e, h1, h2, _⟩
    · simp [Sl.val] at e
    · simp [Sl.val] at e
      obtain ⟨rfl, _⟩ := e
      exact ⟨g, rfl, by omega⟩
/-- The lists of a table lie in blocks of their own, laid since B. -/
structure Own3 (B : Nat) (W : World) (hd : Hd) (T : Tab) : Prop where
  groups : GrT W hd.g T.groups
  dets : Owns Det.cells 7 B W 72 (hd.d.val T.dets.length) T.dets
  rails : Owns Rl.cells 11 B W 75 (hd.r.val T.rails.length) T.rails
  buses : Owns Bs.cells 2 B W 79 (hd.b.val T.buses.length) T.buses
  gbk : ∀ x, hd.g.a = some x → ∃ g, x = ⟨g, 0, none⟩ ∧ B ≤ g
theorem Bx.store_own {w W : World} {hd : Hd} {T : Tab} (h : Bx w hd T W) : ∃ W', Sem.run Try.prog (storeCells ⟨w.heap.size, 0, none⟩ (T.cells hd)) W = .ok () W' ∧ W'.heap[w.heap.size]? = some (.cells (T.cells hd).toArray 45 (0, 0)) ∧ IsTab W' hd T ∧ Own3 w.heap.size W' hd T ∧ Below w.heap.size w W' := by
  have hl := cells_cut hd h.ph h.cf h.fl
  have hr := run_storeCells_at Try.prog w.heap.size 0 45 (T.cells hd) 0 (zTab.cells zHd).toArray W h.res (by simp [hl]; exact Nat.le_refl 131) (fun v hv => (Array.all_eq_true_iff_forall_mem.1 (cells_ok h.tab).one) v (by simpa using hv))
  simp only [Nat.add_zero] at hr
  have e : ((zTab.cells zHd).toArray.toList.take 0 ++ T.cells hd ++ (zTab.cells zHd).toArray.toList.drop (0 + (T.cells hd).length)).toArray = (T.cells hd).toArray := by
    rw [List.drop_of_length_le (by rw [hl]; exact Nat.le_refl 131)]; simp
  rw [e] at hr
  have hg := setRow_grown W w.heap.size (T.cells hd).toArray (by have := h.size; omega)
  have k1 : Owns Det.cells 7 w.heap.size (W.setRow w.heap.size (T.cells hd).toArray) 72 (hd.d.val T.dets.length) T.dets := own_kept h.dets hg (fun m hm e => by cases e; exact own_ne h.dets h.res (by decide) hm)
  have k2 : Owns Rl.cells 11 w.heap.size (W.setRow w.heap.size (T.cells hd).toArray) 75 (hd.r.val T.rails.length) T.rails := own_kept h.rails hg (fun m hm e => by cases e; exact own_ne h.rails h.res (by decide) hm)
  have k3 : Owns Bs.cells 2 w.heap.size (W.setRow w.heap.size (T.cells hd).toArray) 79 (hd.b.val T.buses.length) T.buses := own_kept h.buses hg (fun m hm e => by cases e; exact own_ne h.buses h.res (by decide) hm)
  have kg : GrT (W.setRow w.heap.size (T.cells hd).toArray) hd.g T.groups := h.groups.grown hg (fun m e => by cases e; exact ⟨_, _, h.res, by decide, by decide⟩)
  refine ⟨_, hr, setRow_heap _ _ _ _ _ _ h.res, ?_, ?_, h.bel.grown hg h.bel.size (fun k hk => by cases hk; omega)⟩
  · exact ⟨h.ph, h.cf, h.fl, kg.lie, own_is (fun _ => rfl) k1, own_is (fun _ => rfl) k2, own_is (fun _ => rfl) k3⟩
  · exact ⟨kg, k1, k2, k3, h.gbk⟩
end GenT
namespace CodeAt
open Go
def findS (id : Nat) : Code → Option Code
  | .seq a b => if firstR a = some id then some (.seq a b) else (findS id a).or (findS id b)
  | .cond _ a b => (findS id a).or (findS id b)
  | .block _ b => findS id b
  | .loop b => findS id b
  | .scope b => findS id b
  | _ => none
/-- What follows in a function from region number id on. -/
def sq (id : Nat) (f : Func) : Code := ((f.body.bind (findS id)).getD .skip)
end CodeAt
namespace GenT
end GenT
namespace SetM
end SetM
namespace GenT
open Go Tab GenG PlaceM OnS Clone
open RefS (num num_range)
theorem genTab_phases (L : List Int) : (genTab L).phases = upd (fun p => GenP.genPh L (10 + 12 * p)) zPh (genN L) := by
  have h : (tabF L).phases = upd (fun p => GenP.genPh L (10 + 12 * p)) zPh (genN L) := by unfold tabF; split <;> rfl
  unfold genTab; split <;> exact h
end GenT
namespace Phx
open Go.ChangeShapes Go.WideShapes Go.ChangeAt Go.RowKit
open Tab
open May (infoP)
theorem flat_take : ∀ {l : List Ph} {q : Nat} {u : Ph}, l[q]? = some u → ((l.flatMap Ph.cells).drop (q * 13)).take 13 = u.cells
  | [], q, u, h => by simp at h
  | p :: l, 0, u, h => by
    obtain rfl : p = u := by simpa using h
    rw [Nat.zero_mul, List.drop_zero, List.flatMap_cons]
    exact List.take_left' rfl
  | p :: l, q + 1, u, h => by
    rw [List.flatMap_cons, Nat.add_mul, Nat.one_mul, Nat.add_comm, List.drop_append, List.drop_of_length_le (by simp [Ph.cells]), List.nil_append, show 13 + q * 13 - p.cells.length = q * 13 by simp [Ph.cells]]
    exact flat_take (by simpa using h)
end Phx
namespace GenQ
open Go.ChangeShapes Go.WideShapes Go.ChangeAt Go.RowKit
open Tab
open Clear (phAt)
theorem gen_ph (L : List Int) (k : Nat) (hk : k < 8) : phAt (GenT.genTab L) k = if k < GenG.genN L then GenP.genPh L (10 + 12 * (k : Int)) else Clone.zPh := by
  unfold Clear.phAt
  rw [GenT.genTab_phases]
  unfold GenT.upd
  rw [Int.toNat_natCast, List.getD_eq_getElem?_getD, List.getElem?_map, List.getElem?_range hk]
  rfl
theorem ph_at {T : Tab} (h8 : T.phases.length = 8) {k : Nat} (hk : k < 8) : T.phases[k]? = some (phAt T k) := by
  unfold Clear.phAt
  rw [Int.toNat_natCast, List.getD_eq_getElem?_getD, List.getElem?_eq_getElem (by omega)]
  rfl
/-- A phase's cells among those of its table. -/
theorem cells_at {T : Tab} {hd : Hd} {w : World} (ht : IsTab w hd T) {k : Nat} (hk : k < 8) {j : Nat} {v : Value} (hj : (phAt T k).cells[j]? = some v) : (T.cells hd)[k * 13 + j]? = some v := by
  have h1 := Phx.flat_take (ph_at ht.ph hk)
  have h2 := (cells_ok ht).phases
  have hj13 : j < 13 := by have := (List.getElem?_eq_some_iff.1 hj).1; simpa [Ph.cells] using this
  rw [← h1, List.getElem?_take, if_pos hj13, List.getElem?_drop, ← h2, List.getElem?_take, if_pos (by omega)] at hj
  exact hj
end GenQ
namespace GenQ
open Go.ChangeShapes Go.WideShapes Go.ChangeAt Go.RowKit
open Tab
open Clear (phAt)
structure Rng (p : Ph) : Prop where
  min : 1 ≤ p.min ∧ p.min ≤ 12
  gap : 0 ≤ p.gap ∧ p.gap ≤ 8
  max : p.min ≤ p.max ∧ p.max ≤ 36
  top : p.max ≤ p.top ∧ p.top ≤ 50
  step : 1 ≤ p.step ∧ p.step ≤ 6
  yellow : 10 ≤ p.yellow ∧ p.yellow ≤ 13
  red : 0 ≤ p.red ∧ p.red ≤ 4
  walk : (p.walk = 0 ∧ p.blinks = 0) ∨ (1 ≤ p.walk ∧ p.walk ≤ 10 ∧ 1 ≤ p.blinks ∧ p.blinks ≤ 10)
/-- A phase that is On: its times. -/
theorem gen_rng (L : List Int) (k : Nat) (hk : k < 8) (h : (phAt (GenT.genTab L) k).on = true) : Rng (phAt (GenT.genTab L) k) := by
  rw [gen_ph L k hk] at h ⊢
  split at h
  · rename_i hn
    rw [if_pos hn]
    have h0 := RefS.num_range L (10 + 12 * (k : Int)) 12 (by decide)
    have h1 := RefS.num_range L (10 + 12 * (k : Int) + 1) 9 (by decide)
    have h2 := RefS.num_range L (10 + 12 * (k : Int) + 2) 6 (by decide)
    have h3 := RefS.num_range L (10 + 12 * (k : Int) + 3) 4 (by decide)
    have h4 := RefS.num_range L (10 + 12 * (k : Int) + 4) 5 (by decide)
    have h5 := RefS.num_range L (10 + 12 * (k : Int) + 5) 25 (by decide)
    have h6 := RefS.num_range L (10 + 12 * (k : Int) + 6) 15 (by decide)
    have h8 := RefS.num_range L (10 + 12 * (k : Int) + 8) 10 (by decide)
    have h9 := RefS.num_range L (10 + 12 * (k : Int) + 8) 97 (by decide)
    constructor <;> simp only [GenP.genPh] <;> (try omega)
  · cases h
end GenQ
namespace GenG
open Go.ChangeShapes Go.WideShapes Go.ChangeAt Go.RowKit
open Tab Gath
open RefS (num from_any num_range ret_int)
/-- Where the middle loop stands. -/
def Mid (Bg : Nat) (w1 : World) (p m n : Nat) (k : Nat) (s : Value) (W : World) : Prop :=
  (k = 0 ∧ s = .int .i64 p ∧ G0 Bg w1 none 0 p 0 W) ∨ (k = 1 ∧ s = .int .i64 (p + m : Nat) ∧ ∃ a c, G0 Bg w1 a c p m W) ∨ (k = 2 ∧ s = .int .i64 (p + m + n : Nat) ∧ ∃ a c a1 c1 B1, G1 Bg w1 B1 a c p m a1 c1 n W)
theorem rows_any (tb : Nat) (a : Option Addr) (cap : Nat) (L : List Int) (cs : List Value) (w : World) (hb : w.heap[tb]? = some (.cells cs.toArray 45 (0, 0))) (hc : cs.length = 131) (h104 : cs[104]? = some (.slice none 0 0))
    (HL : Hid (∀ W, w.grownBy W (some tb) → IntRow W ⟨a, cap⟩ L)) :
    Calls Try.prog 30 #[.pointer (some ⟨tb, 0, none⟩), .slice a L.length cap] w fun e w' => ∃ ga gc gs, e = .returned (.int .i64 (genN L : Nat)) ∧ gs.map Gr.data = genGs L ∧ GS w tb cs ga gc (genG L) gs w' := by
  obtain ⟨hG1, hG3⟩ := genG_range L
  have UP := Lib.hid (up_le L (genG L) hG3)
  have ST : Hid (GS w tb cs none 0 0 [] w) := Lib.hid (by
    refine ⟨World.grownBy.refl _ _, ?_, Owns.nil, rfl, fun x hx => by simp at hx⟩
    rw [hb]
    have : cs.set 104 (.slice none 0 0) = cs := by
      apply List.ext_getElem?
      intro j
      rw [List.getElem?_set]
      split
      · rename_i e
        subst e
        rw [h104]; simp [hc]
      · rfl
    rw [this])
  have N0 : Hid (genN L = (upTo L (genG L) (genG L)).2) := Lib.hid rfl
  have D0 : Hid (genGs L = (upTo L (genG L) (genG L)).1) := Lib.hid rfl
  have E0 : Hid ((1 + num L 0 3).toNat = genG L ∧ 0 ≤ num L 0 3 ∧ num L 0 3 < 3) := Lib.hid ⟨rfl, num_range L 0 3 (by omega)⟩
  generalize genN L = rn at N0 ⊢
  generalize genGs L = rg at D0 ⊢
  generalize genG L = G at *
  obtain ⟨i0, hi, hz0, hz1, hz2⟩ := info_parts RefS.info3
  obtain ⟨j0, hj, hy0, hy1, hy2⟩ := info_parts infoG3
  have hz := (zero_of_info infoGz).1
  clear hb h104
  go_enter Try.func30, Try.ntmps30
  go_wp2_with fail
  refine (from_at a cap L _ 0 3 (by go_num) w (HL.out _ (World.grownBy.refl _ _)) (by go_num) (by omega) (by omega)).mono ?_
  rintro e w' ⟨rfl, rfl⟩
  obtain ⟨e0, e1, e2⟩ := E0.out
  have E3 : Hid (1 + num L 0 3 = (G : Int)) := Lib.hid (by omega)
  clear e0
  generalize num L 0 3 = x0 at *
  go_upto_region 2 with fail
  rw [E3.out]
  clear e1 e2
  go_wp2_with fail
  go_loopw [6, 7] (fun s i wr => ∃ g : Nat, g ≤ G ∧ i = .int .i64 g ∧ s = .int .i64 ((upTo L G g).2 : Nat) ∧ ∃ ga gc gs, gs.map Gr.data = (upTo L G g).1 ∧ GS w tb cs ga gc g gs wr) (fun _ i _ => G - (intOf i).toNat)
  case atStart => exact ⟨0, by omega, rfl, rfl, none, 0, [], rfl, ST.out⟩
  case round =>
    obtain ⟨g, hg, rfl, rfl, ga, gc, gs, hdata, hgs⟩ := hrel
    have HS := Lib.hid hgs
    have HD := Lib.hid hdata
    clear hgs hdata
    rename World => wg
    by_cases hlt : g < G
    · have hp8 := UP.out g (by omega)
      have UN : Hid (upTo L G (g + 1) = ((upTo L G g).1 ++ [grpD L G g (upTo L G g).2], (upTo L G g).2 + n0 L G g (upTo L G g).2 + n1 L G g (upTo L G g).2)) := Lib.hid rfl
      have hp9 : (upTo L G g).2 + n0 L G g (upTo L G g).2 + n1 L G g (upTo L G g).2 ≤ 8 := UP.out (g + 1) (by omega)
      have GD : Hid (grpD L G g (upTo L G g).2 = (seg (upTo L G g).2 (n0 L G g (upTo L G g).2), seg ((upTo L G g).2 + n0 L G g (upTo L G g).2) (n1 L G g (upTo L G g).2))) := Lib.hid rfl
      have N1 : Hid (n1 L G g (upTo L G g).2 = min (want1 L g (n0 L G g (upTo L G g).2)) (lim G g - ((upTo L G g).2 + n0 L G g (upTo L G g).2))) := Lib.hid rfl
      have N0' : Hid (n0 L G g (upTo L G g).2 = min (want0 L g) (lim G g - (upTo L G g).2)) := Lib.hid rfl
      generalize (upTo L G g).2 = p at *
      generalize n0 L G g p = m at *
      generalize n1 L G g p = n at *
      have W0 := Lib.hid (want0_le L g)
      have W1 := Lib.hid (want1_le L g m)
      have LM : Hid (lim G g = 9 + g - G) := Lib.hid rfl
      have X0 : Hid (num L (1 + 2 * g) 3 = ((want0 L g : Nat) : Int)) := Lib.hid (by have := num_range L (1 + 2 * g) 3 (by omega); unfold want0; omega)
      have HLW : Hid (∀ W, Below wg.heap.size wg W → IntRow W ⟨a, cap⟩ L) := Lib.hid (fun W hb => HL.out W (HS.out.step hb).gb)
      have Z0 : Hid (G0 wg.heap.size wg none 0 p 0 (wg.alloc (.cells #[.slice none 0 0, .slice none 0 0] 85))) := Lib.hid ⟨(Below.refl _ _).alloc (Nat.le_refl _) _, heap_alloc_new wg _, Owns.nil⟩
      have BS : Hid (∀ a c W, G0 wg.heap.size wg a c p m W → wg.heap.size + 1 ≤ W.heap.size) := Lib.hid (fun a c W h => (Array.getElem?_eq_some_iff.1 h.box).1)
      go_upto_region 7 with fail
      generalize wg.alloc (.cells #[.slice none 0 0, .slice none 0 0] 85) = w2 at Z0 ⊢
      generalize hBg : wg.heap.size = Bg at *
      go_wp2_with fail
      go_loopw [6, 9] (fun s k wk => ∃ q : Nat, q ≤ 2 ∧ k = .int .i64 q ∧ Mid Bg wg p m n q s wk) (fun _ k _ => 2 - (intOf k).toNat)
      case atStart => exact ⟨0, by omega, rfl, .inl ⟨rfl, rfl, Z0.out⟩⟩
      case round =>
        obtain ⟨q, hq, rfl, hmid⟩ := hrel
        rcases hmid with ⟨rfl, rfl, hm⟩ | ⟨rfl, rfl, a0, c0, hm⟩ | ⟨rfl, rfl, a0, c0, a1, c1, B1, hm⟩
        · have HM := Lib.hid hm
          clear hm
          rw [show ((0 : Nat) : Int) = (0 : Int) from rfl]
          go_wp2_with fail
          refine (from_at a cap L _ (1 + 2 * g) 3 (by go_num) wr (HLW.out _ HM.out.bel) (by go_num) (by omega) (by omega)).mono ?_
          rintro e w' ⟨rfl, rfl⟩
          rw [X0.out]
          generalize want0 L g = v at *
          go_wp2_with fail
          go_loopw [6, 11] (fun s i wk => ∃ j : Nat, j ≤ m ∧ i = .int .i64 j ∧ s = .int .i64 (p + j : Nat) ∧ ∃ aa cc, G0 Bg wg aa cc p j wk) (fun _ i _ => m - (intOf i).toNat)
          case atStart => exact ⟨0, by omega, by go_num, by go_num, _, _, HM.out⟩
          case round =>
            obtain ⟨j, hj, rfl, rfl, aa, cc, hm⟩ := hrel
            have HM := Lib.hid hm
            clear hm
            by_cases hjl : j < m
            · have h1 : (j : Int) < (v : Int) := by have := N0'.out; omega
              have h2 : ((p + j : Nat) : Int) < 8 - ((G : Int) - 1 - g) := by have := N0'.out; have := LM.out; omega
              have c8 : wr.cell? ⟨Bg, 0, none⟩ = some (.slice aa j cc) := by rw [cell_of_row _ _ _ _ _ _ HM.out.box]; rfl
              have hsz : Bg + 1 ≤ wr.heap.size := (Array.getElem?_eq_some_iff.1 HM.out.box).1
              have hown2 : wr.ownsRow (Bg + 1) 3 1 (.slice aa j cc) j ((seg (p) j).flatMap (fun n => [I n])) := by have := HM.out.own; unfold Owns at this; rw [seg_len] at this; exact this
              go_wp2_with (at_builtin; refine wpList_append_own _ rfl _ _ 37 rfl (Bg + 1) 3 i0 (.int .i64 0) 1 8 Try.underlying37 hi hz0 hz1 hz2 rfl (by decide) _ _ _ rfl (hown2.alloc _) ⟨wr.heap.size, 0, none⟩ 1 1 [.int .i64 ((p + j : Nat) : Int)] rfl rfl ?c1 ?c2 ?c3 ?c4 ?c5 ?_)
              case c1 =>
                intro m q hm
                match m, hm with
                | 0, hm => simp at hm; subst hm; simp [Addr.add]
              case c2 => intro q hq; simp at hq; subst hq; rfl
              case c3 => unfold maxLen; omega
              case c4 => omega
              case c5 => simp; omega
              intro v' w3 hown' hgrow hnil'
              obtain ⟨hbx, a', c', rfl, hG⟩ := (HM.out.step ((Below.refl _ _).alloc (Nat.le_refl _) _) (by omega)).put (by simp; omega) hgrow hown'
              have c3 : w3.cell? ⟨Bg, 0, none⟩ = some (.slice aa j cc) := by rw [cell_of_row _ _ _ _ _ _ hbx]; rfl
              have f3 : w3.frozen? ⟨Bg, 0, none⟩ = false := frozen_of_row _ _ _ _ _ hbx
              have HG := Lib.hid hG
              clear hown' hgrow hown2 hnil' hbx hG HM
              go_wp2
              go_roundw
              case rel => exact ⟨j + 1, by omega, by go_num, by go_num, a', c', HG.out⟩
              case measure => simp [intOf]; omega
            · have hje : j = m := by omega
              by_cases h1 : (j : Int) < (v : Int)
              · have h2 : ¬ ((p + j : Nat) : Int) < 8 - ((G : Int) - 1 - g) := by have := N0'.out; have := LM.out; omega
                go_wp2
                go_roundw
                case rel => exact ⟨1, by omega, by go_num, .inr (.inl ⟨rfl, by (try rw [hje]); go_num, aa, cc, by have := HM.out; rw [hje] at this; exact this⟩)⟩
                case measure => simp [intOf]
              · go_wp2
                go_roundw
                case rel => exact ⟨1, by omega, by go_num, .inr (.inl ⟨rfl, by (try rw [hje]); go_num, aa, cc, by have := HM.out; rw [hje] at this; exact this⟩)⟩
                case measure => simp [intOf]
        · have HM := Lib.hid hm
          have hb1 := BS.out _ _ _ hm
          clear hm
          rw [show ((1 : Nat) : Int) = (1 : Int) from rfl]
          have HM1 := Lib.hid (HM.out.next)
          generalize hB1 : wr.heap.size = B1 at *
          have c80 : wr.cell? ⟨Bg, 0, none⟩ = some (.slice a0 m c0) := by rw [cell_of_row _ _ _ _ _ _ HM.out.box]; rfl
          go_wp2_with fail
          refine (from_at a cap L _ (2 + 2 * g) 3 (by go_num) wr (HLW.out _ HM.out.bel) (by go_num) (by omega) (by omega)).mono ?_
          rintro e w' ⟨rfl, rfl⟩
          have hx1 := num_range L (2 + 2 * g) 3 (by omega)
          have WQ : Hid (want1 L g m = if num L (2 + 2 * g) 3 = 0 ∧ m = 0 then 1 else (num L (2 + 2 * g) 3).toNat) := Lib.hid rfl
          generalize num L (2 + 2 * g) 3 = x1 at *
          generalize want1 L g m = v at *
          clear hB1 HM
          by_cases hx0 : x1 = 0
          · subst hx0
            by_cases hm0 : m = 0
            · have hv : v = 1 := by rw [WQ.out]; simp [hm0]
              subst hm0
              subst hv
              clear WQ
              go_wp2_with fail
              go_loopw [6, 11] (fun s i wk => ∃ j : Nat, j ≤ n ∧ i = .int .i64 j ∧ s = .int .i64 ((p + 0) + j : Nat) ∧ ∃ aa cc, G1 Bg wg B1 a0 c0 p 0 aa cc j wk) (fun _ i _ => n - (intOf i).toNat)
              case atStart => exact ⟨0, by omega, by go_num, by go_num, _, _, HM1.out⟩
              case round =>
                obtain ⟨j, hj, rfl, rfl, aa, cc, hm⟩ := hrel
                have HM := Lib.hid hm
                clear hm
                by_cases hjl : j < n
                · have h1 : (j : Int) < 1 := by have := N1.out; omega
                  have h2 : (((p + 0) + j : Nat) : Int) < 8 - ((G : Int) - 1 - g) := by have := N1.out; have := LM.out; omega
                  have c8 : wr.cell? ⟨Bg, 1, none⟩ = some (.slice aa j cc) := by rw [cell_of_row _ _ _ _ _ _ HM.out.box]; rfl
                  have hsz : B1 ≤ wr.heap.size := HM.out.sz
                  have hown2 : wr.ownsRow (B1) 3 1 (.slice aa j cc) j ((seg ((p + 0)) j).flatMap (fun n => [I n])) := by have := HM.out.own1; unfold Owns at this; rw [seg_len] at this; exact this
                  go_wp2_with (at_builtin; refine wpList_append_own _ rfl _ _ 37 rfl (B1) 3 i0 (.int .i64 0) 1 8 Try.underlying37 hi hz0 hz1 hz2 rfl (by decide) _ _ _ rfl (hown2.alloc _) ⟨wr.heap.size, 0, none⟩ 1 1 [.int .i64 (((p + 0) + j : Nat) : Int)] rfl rfl ?c1 ?c2 ?c3 ?c4 ?c5 ?_)
                  case c1 =>
                    intro m q hm
                    match m, hm with
                    | 0, hm => simp at hm; subst hm; simp [Addr.add]
                  case c2 => intro q hq; simp at hq; subst hq; rfl
                  case c3 => unfold maxLen; omega
                  case c4 => omega
                  case c5 => simp; omega
                  intro v' w3 hown' hgrow hnil'
                  obtain ⟨hbx, a', c', rfl, hG⟩ := (HM.out.step ((Below.refl _ _).alloc (Nat.le_refl _) _) (by omega)).put (by omega) (by simp; omega) hgrow hown'
                  have c3 : w3.cell? ⟨Bg, 1, none⟩ = some (.slice aa j cc) := by rw [cell_of_row _ _ _ _ _ _ hbx]; rfl
                  have f3 : w3.frozen? ⟨Bg, 1, none⟩ = false := frozen_of_row _ _ _ _ _ hbx
                  have HG := Lib.hid hG
                  clear hown' hgrow hown2 hnil' hbx hG HM
                  go_wp2
                  go_roundw
                  case rel => exact ⟨j + 1, by omega, by go_num, by go_num, a', c', HG.out⟩
                  case measure => simp [intOf]; omega
                · have hje : j = n := by omega
                  by_cases h1 : (j : Int) < 1
                  · have h2 : ¬ (((p + 0) + j : Nat) : Int) < 8 - ((G : Int) - 1 - g) := by have := N1.out; have := LM.out; omega
                    go_wp2
                    go_roundw
                    case rel => exact ⟨2, by omega, by go_num, .inr (.inr ⟨rfl, by (try rw [hje]); go_num, a0, c0, aa, cc, B1, by have := HM.out; rw [hje] at this; exact this⟩)⟩
                    case measure => simp [intOf]
                  · go_wp2
                    go_roundw
                    case rel => exact ⟨2, by omega, by go_num, .inr (.inr ⟨rfl, by (try rw [hje]); go_num, a0, c0, aa, cc, B1, by have := HM.out; rw [hje] at this; exact this⟩)⟩
                    case measure => simp [intOf]
            · have hv : v = 0 := by rw [WQ.out]; simp [hm0]
              have hmb : ((m : Int) == 0) = false := by rw [beq_eq_false_iff_ne]; omega
              subst hv
              clear WQ
              go_wp2_with fail
              clear hmb hm0
              go_loopw [6, 11] (fun s i wk => ∃ j : Nat, j ≤ n ∧ i = .int .i64 j ∧ s = .int .i64 ((p + m) + j : Nat) ∧ ∃ aa cc, G1 Bg wg B1 a0 c0 p m aa cc j wk) (fun _ i _ => n - (intOf i).toNat)
              case atStart => exact ⟨0, by omega, by go_num, by go_num, _, _, HM1.out⟩
              case round =>
                obtain ⟨j, hj, rfl, rfl, aa, cc, hm⟩ := hrel
                have HM := Lib.hid hm
                clear hm
                by_cases hjl : j < n
                · exfalso; have := N1.out; omega
                · have hje : j = n := by omega
                  by_cases h1 : (j : Int) < 0
                  · exfalso; omega
                  · go_wp2
                    go_roundw
                    case rel => exact ⟨2, by omega, by go_num, .inr (.inr ⟨rfl, by (try rw [hje]); go_num, a0, c0, aa, cc, B1, by have := HM.out; rw [hje] at this; exact this⟩)⟩
                    case measure => simp [intOf]
          · have hv : x1 = (v : Int) := by have := WQ.out; rw [if_neg (fun e => hx0 e.1)] at this; omega
            have hmb : (x1 == 0) = false := by rw [beq_eq_false_iff_ne]; exact hx0
            clear WQ
            go_wp2_with fail
            subst hv
            clear hmb hx0 hx1
            go_loopw [6, 11] (fun s i wk => ∃ j : Nat, j ≤ n ∧ i = .int .i64 j ∧ s = .int .i64 ((p + m) + j : Nat) ∧ ∃ aa cc, G1 Bg wg B1 a0 c0 p m aa cc j wk) (fun _ i _ => n - (intOf i).toNat)
            case atStart => exact ⟨0, by omega, by go_num, by go_num, _, _, HM1.out⟩
            case round =>
              obtain ⟨j, hj, rfl, rfl, aa, cc, hm⟩ := hrel
              have HM := Lib.hid hm
              clear hm
              by_cases hjl : j < n
              · have h1 : (j : Int) < (v : Int) := by have := N1.out; omega
                have h2 : (((p + m) + j : Nat) : Int) < 8 - ((G : Int) - 1 - g) := by have := N1.out; have := LM.out; omega
                have c8 : wr.cell? ⟨Bg, 1, none⟩ = some (.slice aa j cc) := by rw [cell_of_row _ _ _ _ _ _ HM.out.box]; rfl
                have hsz : B1 ≤ wr.heap.size := HM.out.sz
                have hown2 : wr.ownsRow (B1) 3 1 (.slice aa j cc) j ((seg ((p + m)) j).flatMap (fun n => [I n])) := by have := HM.out.own1; unfold Owns at this; rw [seg_len] at this; exact this
                go_wp2_with (at_builtin; refine wpList_append_own _ rfl _ _ 37 rfl (B1) 3 i0 (.int .i64 0) 1 8 Try.underlying37 hi hz0 hz1 hz2 rfl (by decide) _ _ _ rfl (hown2.alloc _) ⟨wr.heap.size, 0, none⟩ 1 1 [.int .i64 (((p + m) + j : Nat) : Int)] rfl rfl ?c1 ?c2 ?c3 ?c4 ?c5 ?_)
                case c1 =>
                  intro m q hm
                  match m, hm with
                  | 0, hm => simp at hm; subst hm; simp [Addr.add]
                case c2 => intro q hq; simp at hq; subst hq; rfl
                case c3 => unfold maxLen; omega
                case c4 => omega
                case c5 => simp; omega
                intro v' w3 hown' hgrow hnil'
                obtain ⟨hbx, a', c', rfl, hG⟩ := (HM.out.step ((Below.refl _ _).alloc (Nat.le_refl _) _) (by omega)).put (by omega) (by simp; omega) hgrow hown'
                have c3 : w3.cell? ⟨Bg, 1, none⟩ = some (.slice aa j cc) := by rw [cell_of_row _ _ _ _ _ _ hbx]; rfl
                have f3 : w3.frozen? ⟨Bg, 1, none⟩ = false := frozen_of_row _ _ _ _ _ hbx
                have HG := Lib.hid hG
                clear hown' hgrow hown2 hnil' hbx hG HM
                go_wp2
                go_roundw
                case rel => exact ⟨j + 1, by omega, by go_num, by go_num, a', c', HG.out⟩
                case measure => simp [intOf]; omega
              · have hje : j = n := by omega
                by_cases h1 : (j : Int) < (v : Int)
                · have h2 : ¬ (((p + m) + j : Nat) : Int) < 8 - ((G : Int) - 1 - g) := by have := N1.out; have := LM.out; omega
                  go_wp2
                  go_roundw
                  case rel => exact ⟨2, by omega, by go_num, .inr (.inr ⟨rfl, by (try rw [hje]); go_num, a0, c0, aa, cc, B1, by have := HM.out; rw [hje] at this; exact this⟩)⟩
                  case measure => simp [intOf]
                · go_wp2
                  go_roundw
                  case rel => exact ⟨2, by omega, by go_num, .inr (.inr ⟨rfl, by (try rw [hje]); go_num, a0, c0, aa, cc, B1, by have := HM.out; rw [hje] at this; exact this⟩)⟩
                  case measure => simp [intOf]
        · have HM := Lib.hid hm
          clear hm
          rw [show ((2 : Nat) : Int) = (2 : Int) from rfl]
          have HG1 := Lib.hid (HS.out.step (show Below wg.heap.size wg wr by rw [hBg]; exact HM.out.bel))
          go_upto_region 18 with fail
          refine wp_region_held (S := fun _ => True) (by kernel_rfl) ?_
          have hS : True := trivial
          have hgs : GS w tb cs ga gc g gs { wr with drawn := wr.drawn + 1 } := HG1.out.step (Below.refl _ _).drew
          have hg1 : G1 Bg wg B1 a0 c0 p m a1 c1 n { wr with drawn := wr.drawn + 1 } := HM.out.step (Below.refl _ _).drew (by rw [← hBg]; exact HM.out.bel.size)
          generalize ({ wr with drawn := wr.drawn + 1 } : World) = v at hgs hg1 ⊢
          clear HG1 HM HS
          refine Held.take (i := 0) (some 67) rfl (v := ?_) rfl (by kernel_rfl) (by kernel_rfl) (by kernel_rfl) (fun _ _ _ h => h) (Or.inl ⟨by rfl, ?_⟩) hS ?_
          rotate_left
          · intro w' hw'
            go_simp
            try with_reducible rfl
          (try dsimp only [Act.put]); (try simp only [List.setIfInBounds_toArray, List.set_cons_zero, List.set_cons_succ])
          refine Held.take (i := 1) (some 68) rfl (v := ?_) rfl (by kernel_rfl) (by kernel_rfl) (by kernel_rfl) (fun _ _ _ h => h) (Or.inl ⟨by rfl, ?_⟩) hS ?_
          rotate_left
          · intro w' hw'
            go_simp
            try with_reducible rfl
          (try dsimp only [Act.put]); (try simp only [List.setIfInBounds_toArray, List.set_cons_zero, List.set_cons_succ])
          refine Held.take (i := 2) (some 69) rfl (v := ?_) rfl (by kernel_rfl) (by kernel_rfl) (by kernel_rfl) (fun _ _ _ h => h) (Or.inl ⟨by rfl, ?_⟩) hS ?_
          rotate_left
          · intro w' hw'
            go_simp
            try with_reducible rfl
          (try dsimp only [Act.put]); (try simp only [List.setIfInBounds_toArray, List.set_cons_zero, List.set_cons_succ])
          refine Held.take (i := 3) (some 70) rfl (v := ?_) rfl (by kernel_rfl) (by kernel_rfl) (by kernel_rfl) (fun _ _ _ h => h) (Or.inl ⟨by rfl, ?_⟩) hS ?_
          rotate_left
          · intro w' hw'
            go_simp
            try with_reducible rfl
          (try dsimp only [Act.put]); (try simp only [List.setIfInBounds_toArray, List.set_cons_zero, List.set_cons_succ])
          refine wpAnyH_ready (rs := [4, 5]) (by kernel_rfl) (by simp) (AllReadyH.cons rfl (fun K hK => ?_) (AllReadyH.cons rfl (fun K hK => ?_) AllReadyH.nil))
          · have c4 : v.cell? ⟨tb, 104, none⟩ = some (.slice ga g gc) := by rw [cell_of_row _ _ _ _ _ _ hgs.tbk]; simp [hc]
            go_simp
            refine hK.out _ _ trivial (fun _ => ?_)
            clear hK K c4
            refine wpAnyH_ready (rs := [5]) (by kernel_rfl) (by simp) (AllReadyH.cons rfl (fun K hK => ?_) AllReadyH.nil)
            rw [if_pos (by rfl)]
            refine Row.wp_load_lies 85 _ rfl ⟨Bg, 0, none⟩ rfl [.slice a0 m c0, .slice a1 n c1] _ (Row.lies_of_block hg1.box) Try.underlying85 rfl infoG2 ?_
            (try dsimp only [Act.put]); (try simp only [List.setIfInBounds_toArray, List.set_cons_zero, List.set_cons_succ])
            refine hK.out _ _ trivial (fun _ => ?_)
            clear hK K
            refine wpAnyH_ready (rs := [6]) (by kernel_rfl) (by simp) (AllReadyH.cons rfl (fun K hK => ?_) AllReadyH.nil)
            go_simp
            have hbw : Below v.heap.size v (v.alloc (.cells #[.slice a0 m c0, .slice a1 n c1] 85)) := (Below.refl _ _).alloc (Nat.le_refl _) _
            have hN := heap_alloc_new v (.cells #[.slice a0 m c0, .slice a1 n c1] 85)
            replace hgs := hgs.step hbw
            replace hg1 := hg1.step hbw (by have := hg1.bel.size; omega)
            clear hbw
            generalize hbn : v.heap.size = bn at hN ⊢
            clear hbn
            generalize World.alloc v (.cells #[.slice a0 m c0, .slice a1 n c1] 85) = v at hgs hg1 hN ⊢
            refine hK.out _ _ trivial (fun _ => ?_)
            clear hK K
            refine wpAnyH_ready (rs := [7]) (by kernel_rfl) (by simp) (AllReadyH.cons rfl (fun K hK => ?_) AllReadyH.nil)
            rw [if_pos (by rfl)]
            have hown2 : v.ownsRow w.heap.size 85 2 (.slice ga g gc) g (gs.flatMap Gr.cells) := by have := hgs.own; unfold Owns at this; rw [hgs.len] at this; exact this
            refine wp_append_own _ _ _ _ rfl w.heap.size 85 j0 (.agg #[.slice none 0 0, .slice none 0 0]) 2 48 Try.underlying39 hj hy0 hy1 hy2 rfl (by decide) (.slice ga g gc) g _ rfl hown2 ⟨bn, 0, none⟩ 1 1 [.slice a0 m c0, .slice a1 n c1] rfl rfl ?c1 ?c2 ?c3 ?c4 hgs.gb.size ?_
            case c1 =>
              intro j e hj
              match j, hj with
              | 0, hj => simp at hj; subst hj; rw [Tab.add_zero, cell_of_row _ _ _ _ _ _ hN]; rfl
              | 1, hj => simp at hj; subst hj; rw [Tab.add_one, cell_of_row _ _ _ _ _ _ hN]; rfl
            case c2 => intro e he; simp at he; rcases he with rfl | rfl <;> rfl
            case c3 => unfold maxLen; omega
            case c4 => omega
            intro v' w5 hown' hgrow hnil'
            have hx : RowI v ⟨a0, c0⟩ (seg p m) ∧ RowI v ⟨a1, c1⟩ (seg (p + m) n) := by
              obtain ⟨s0, e0, r0⟩ := own_row hg1.own
              obtain ⟨s1, e1, r1⟩ := own_row hg1.own1
              simp only [Value.slice.injEq] at e0 e1
              obtain ⟨s0a, s0c⟩ := s0
              obtain ⟨s1a, s1c⟩ := s1
              obtain ⟨rfl, _, rfl⟩ := e0
              obtain ⟨rfl, _, rfl⟩ := e1
              exact ⟨r0, r1⟩
            obtain ⟨hbx, a', c', rfl, hG⟩ := hgs.put ⟨seg p m, seg (p + m) n, ⟨a0, c0⟩, ⟨a1, c1⟩⟩ hx hgrow hc (by rw [show (Gr.mk (seg p m) (seg (p + m) n) ⟨a0, c0⟩ ⟨a1, c1⟩).cells = [.slice a0 m c0, .slice a1 n c1] from by simp [Gr.cells, Sl.val, seg_len]]; exact hown')
            have c104 : w5.cell? ⟨tb, 104, none⟩ = some (.slice ga g gc) := by rw [cell_of_row _ _ _ _ _ _ hbx]; simp [hc]
            have f104 : w5.frozen? ⟨tb, 104, none⟩ = false := frozen_of_row _ _ _ _ _ hbx
            have HG := Lib.hid hG
            clear hown' hgrow hown2 hnil' hbx hG hgs hg1 hN hx
            refine hK.out _ _ trivial (fun _ => ?_)
            clear hK K
            refine Held.take (i := 8) (some 75) rfl (v := ?_) rfl (by kernel_rfl) (by kernel_rfl) (by kernel_rfl) (fun _ _ _ h => h) (Or.inl ⟨by rfl, ?_⟩) hS ?_
            rotate_left
            · intro w' hw'
              go_simp
              try with_reducible rfl
            (try dsimp only [Act.put]); (try simp only [List.setIfInBounds_toArray, List.set_cons_zero, List.set_cons_succ])
            refine Held.take (i := 9) (some 76) rfl (v := ?_) rfl (by kernel_rfl) (by kernel_rfl) (by kernel_rfl) (fun _ _ _ h => h) (Or.inl ⟨by rfl, ?_⟩) hS ?_
            rotate_left
            · intro w' hw'
              go_simp
              try with_reducible rfl
            (try dsimp only [Act.put]); (try simp only [List.setIfInBounds_toArray, List.set_cons_zero, List.set_cons_succ])
            refine wpAnyH_ready (rs := [10]) (by kernel_rfl) (by simp) (AllReadyH.cons rfl (fun K hK => ?_) AllReadyH.nil)
            go_simp
            refine hK.out _ _ trivial (fun _ => ?_)
            clear hK K
            refine wpAnyH_done (by kernel_rfl) ?_ _
            have HE : Hid (upTo L G (g + 1) = ((upTo L G g).1 ++ [(seg p m, seg (p + m) n)], p + m + n)) := Lib.hid (by rw [UN.out, GD.out])
            have HD2 : Hid ((gs ++ [Gr.mk (seg p m) (seg (p + m) n) ⟨a0, c0⟩ ⟨a1, c1⟩]).map Gr.data = (upTo L G (g + 1)).1) := Lib.hid (by rw [List.map_append, HD.out, HE.out]; simp [Gr.data])
            have HP2 : Hid ((upTo L G (g + 1)).2 = p + m + n) := Lib.hid (by rw [HE.out])
            clear hS c104 f104
            go_wp2
            go_roundw
            case rel => exact ⟨g + 1, by omega, by go_num, by rw [HP2.out]; go_num, a', c', _, HD2.out, HG.out⟩
            case measure => simp [intOf]; omega
          · rw [if_pos (by rfl)]
            refine Row.wp_load_lies 85 _ rfl ⟨Bg, 0, none⟩ rfl [.slice a0 m c0, .slice a1 n c1] _ (Row.lies_of_block hg1.box) Try.underlying85 rfl infoG2 ?_
            (try dsimp only [Act.put]); (try simp only [List.setIfInBounds_toArray, List.set_cons_zero, List.set_cons_succ])
            refine hK.out _ _ trivial (fun _ => ?_)
            clear hK K
            refine wpAnyH_ready (rs := [4, 6]) (by kernel_rfl) (by simp) (AllReadyH.cons rfl (fun K hK => ?_) (AllReadyH.cons rfl (fun K hK => ?_) AllReadyH.nil))
            · have c4 : v.cell? ⟨tb, 104, none⟩ = some (.slice ga g gc) := by rw [cell_of_row _ _ _ _ _ _ hgs.tbk]; simp [hc]
              go_simp
              refine hK.out _ _ trivial (fun _ => ?_)
              clear hK K c4
              refine wpAnyH_ready (rs := [6]) (by kernel_rfl) (by simp) (AllReadyH.cons rfl (fun K hK => ?_) AllReadyH.nil)
              go_simp
              have hbw : Below v.heap.size v (v.alloc (.cells #[.slice a0 m c0, .slice a1 n c1] 85)) := (Below.refl _ _).alloc (Nat.le_refl _) _
              have hN := heap_alloc_new v (.cells #[.slice a0 m c0, .slice a1 n c1] 85)
              replace hgs := hgs.step hbw
              replace hg1 := hg1.step hbw (by have := hg1.bel.size; omega)
              clear hbw
              generalize hbn : v.heap.size = bn at hN ⊢
              clear hbn
              generalize World.alloc v (.cells #[.slice a0 m c0, .slice a1 n c1] 85) = v at hgs hg1 hN ⊢
              refine hK.out _ _ trivial (fun _ => ?_)
              clear hK K
              refine wpAnyH_ready (rs := [7]) (by kernel_rfl) (by simp) (AllReadyH.cons rfl (fun K hK => ?_) AllReadyH.nil)
              rw [if_pos (by rfl)]
              have hown2 : v.ownsRow w.heap.size 85 2 (.slice ga g gc) g (gs.flatMap Gr.cells) := by have := hgs.own; unfold Owns at this; rw [hgs.len] at this; exact this
              refine wp_append_own _ _ _ _ rfl w.heap.size 85 j0 (.agg #[.slice none 0 0, .slice none 0 0]) 2 48 Try.underlying39 hj hy0 hy1 hy2 rfl (by decide) (.slice ga g gc) g _ rfl hown2 ⟨bn, 0, none⟩ 1 1 [.slice a0 m c0, .slice a1 n c1] rfl rfl ?c1 ?c2 ?c3 ?c4 hgs.gb.size ?_
              case c1 =>
                intro j e hj
                match j, hj with
                | 0, hj => simp at hj; subst hj; rw [Tab.add_zero, cell_of_row _ _ _ _ _ _ hN]; rfl
                | 1, hj => simp at hj; subst hj; rw [Tab.add_one, cell_of_row _ _ _ _ _ _ hN]; rfl
              case c2 => intro e he; simp at he; rcases he with rfl | rfl <;> rfl
              case c3 => unfold maxLen; omega
              case c4 => omega
              intro v' w5 hown' hgrow hnil'
              have hx : RowI v ⟨a0, c0⟩ (seg p m) ∧ RowI v ⟨a1, c1⟩ (seg (p + m) n) := by
                obtain ⟨s0, e0, r0⟩ := own_row hg1.own
                obtain ⟨s1, e1, r1⟩ := own_row hg1.own1
                simp only [Value.slice.injEq] at e0 e1
                obtain ⟨s0a, s0c⟩ := s0
                obtain ⟨s1a, s1c⟩ := s1
                obtain ⟨rfl, _, rfl⟩ := e0
                obtain ⟨rfl, _, rfl⟩ := e1
                exact ⟨r0, r1⟩
              obtain ⟨hbx, a', c', rfl, hG⟩ := hgs.put ⟨seg p m, seg (p + m) n, ⟨a0, c0⟩, ⟨a1, c1⟩⟩ hx hgrow hc (by rw [show (Gr.mk (seg p m) (seg (p + m) n) ⟨a0, c0⟩ ⟨a1, c1⟩).cells = [.slice a0 m c0, .slice a1 n c1] from by simp [Gr.cells, Sl.val, seg_len]]; exact hown')
              have c104 : w5.cell? ⟨tb, 104, none⟩ = some (.slice ga g gc) := by rw [cell_of_row _ _ _ _ _ _ hbx]; simp [hc]
              have f104 : w5.frozen? ⟨tb, 104, none⟩ = false := frozen_of_row _ _ _ _ _ hbx
              have HG := Lib.hid hG
              clear hown' hgrow hown2 hnil' hbx hG hgs hg1 hN hx
              refine hK.out _ _ trivial (fun _ => ?_)
              clear hK K
              refine Held.take (i := 8) (some 75) rfl (v := ?_) rfl (by kernel_rfl) (by kernel_rfl) (by kernel_rfl) (fun _ _ _ h => h) (Or.inl ⟨by rfl, ?_⟩) hS ?_
              rotate_left
              · intro w' hw'
                go_simp
                try with_reducible rfl
              (try dsimp only [Act.put]); (try simp only [List.setIfInBounds_toArray, List.set_cons_zero, List.set_cons_succ])
              refine Held.take (i := 9) (some 76) rfl (v := ?_) rfl (by kernel_rfl) (by kernel_rfl) (by kernel_rfl) (fun _ _ _ h => h) (Or.inl ⟨by rfl, ?_⟩) hS ?_
              rotate_left
              · intro w' hw'
                go_simp
                try with_reducible rfl
              (try dsimp only [Act.put]); (try simp only [List.setIfInBounds_toArray, List.set_cons_zero, List.set_cons_succ])
              refine wpAnyH_ready (rs := [10]) (by kernel_rfl) (by simp) (AllReadyH.cons rfl (fun K hK => ?_) AllReadyH.nil)
              go_simp
              refine hK.out _ _ trivial (fun _ => ?_)
              clear hK K
              refine wpAnyH_done (by kernel_rfl) ?_ _
              have HE : Hid (upTo L G (g + 1) = ((upTo L G g).1 ++ [(seg p m, seg (p + m) n)], p + m + n)) := Lib.hid (by rw [UN.out, GD.out])
              have HD2 : Hid ((gs ++ [Gr.mk (seg p m) (seg (p + m) n) ⟨a0, c0⟩ ⟨a1, c1⟩]).map Gr.data = (upTo L G (g + 1)).1) := Lib.hid (by rw [List.map_append, HD.out, HE.out]; simp [Gr.data])
              have HP2 : Hid ((upTo L G (g + 1)).2 = p + m + n) := Lib.hid (by rw [HE.out])
              clear hS c104 f104
              go_wp2
              go_roundw
              case rel => exact ⟨g + 1, by omega, by go_num, by rw [HP2.out]; go_num, a', c', _, HD2.out, HG.out⟩
              case measure => simp [intOf]; omega
            · go_simp
              have hbw : Below v.heap.size v (v.alloc (.cells #[.slice a0 m c0, .slice a1 n c1] 85)) := (Below.refl _ _).alloc (Nat.le_refl _) _
              have hN := heap_alloc_new v (.cells #[.slice a0 m c0, .slice a1 n c1] 85)
              replace hgs := hgs.step hbw
              replace hg1 := hg1.step hbw (by have := hg1.bel.size; omega)
              clear hbw
              generalize hbn : v.heap.size = bn at hN ⊢
              clear hbn
              generalize World.alloc v (.cells #[.slice a0 m c0, .slice a1 n c1] 85) = v at hgs hg1 hN ⊢
              refine hK.out _ _ trivial (fun _ => ?_)
              clear hK K
              refine wpAnyH_ready (rs := [4]) (by kernel_rfl) (by simp) (AllReadyH.cons rfl (fun K hK => ?_) AllReadyH.nil)
              have c4 : v.cell? ⟨tb, 104, none⟩ = some (.slice ga g gc) := by rw [cell_of_row _ _ _ _ _ _ hgs.tbk]; simp [hc]
              go_simp
              refine hK.out _ _ trivial (fun _ => ?_)
              clear hK K c4
              refine wpAnyH_ready (rs := [7]) (by kernel_rfl) (by simp) (AllReadyH.cons rfl (fun K hK => ?_) AllReadyH.nil)
              rw [if_pos (by rfl)]
              have hown2 : v.ownsRow w.heap.size 85 2 (.slice ga g gc) g (gs.flatMap Gr.cells) := by have := hgs.own; unfold Owns at this; rw [hgs.len] at this; exact this
              refine wp_append_own _ _ _ _ rfl w.heap.size 85 j0 (.agg #[.slice none 0 0, .slice none 0 0]) 2 48 Try.underlying39 hj hy0 hy1 hy2 rfl (by decide) (.slice ga g gc) g _ rfl hown2 ⟨bn, 0, none⟩ 1 1 [.slice a0 m c0, .slice a1 n c1] rfl rfl ?c1 ?c2 ?c3 ?c4 hgs.gb.size ?_
              case c1 =>
                intro j e hj
                match j, hj with
                | 0, hj => simp at hj; subst hj; rw [Tab.add_zero, cell_of_row _ _ _ _ _ _ hN]; rfl
                | 1, hj => simp at hj; subst hj; rw [Tab.add_one, cell_of_row _ _ _ _ _ _ hN]; rfl
              case c2 => intro e he; simp at he; rcases he with rfl | rfl <;> rfl
              case c3 => unfold maxLen; omega
              case c4 => omega
              intro v' w5 hown' hgrow hnil'
              have hx : RowI v ⟨a0, c0⟩ (seg p m) ∧ RowI v ⟨a1, c1⟩ (seg (p + m) n) := by
                obtain ⟨s0, e0, r0⟩ := own_row hg1.own
                obtain ⟨s1, e1, r1⟩ := own_row hg1.own1
                simp only [Value.slice.injEq] at e0 e1
                obtain ⟨s0a, s0c⟩ := s0
                obtain ⟨s1a, s1c⟩ := s1
                obtain ⟨rfl, _, rfl⟩ := e0
                obtain ⟨rfl, _, rfl⟩ := e1
                exact ⟨r0, r1⟩
              obtain ⟨hbx, a', c', rfl, hG⟩ := hgs.put ⟨seg p m, seg (p + m) n, ⟨a0, c0⟩, ⟨a1, c1⟩⟩ hx hgrow hc (by rw [show (Gr.mk (seg p m) (seg (p + m) n) ⟨a0, c0⟩ ⟨a1, c1⟩).cells = [.slice a0 m c0, .slice a1 n c1] from by simp [Gr.cells, Sl.val, seg_len]]; exact hown')
              have c104 : w5.cell? ⟨tb, 104, none⟩ = some (.slice ga g gc) := by rw [cell_of_row _ _ _ _ _ _ hbx]; simp [hc]
              have f104 : w5.frozen? ⟨tb, 104, none⟩ = false := frozen_of_row _ _ _ _ _ hbx
              have HG := Lib.hid hG
              clear hown' hgrow hown2 hnil' hbx hG hgs hg1 hN hx
              refine hK.out _ _ trivial (fun _ => ?_)
              clear hK K
              refine Held.take (i := 8) (some 75) rfl (v := ?_) rfl (by kernel_rfl) (by kernel_rfl) (by kernel_rfl) (fun _ _ _ h => h) (Or.inl ⟨by rfl, ?_⟩) hS ?_
              rotate_left
              · intro w' hw'
                go_simp
                try with_reducible rfl
              (try dsimp only [Act.put]); (try simp only [List.setIfInBounds_toArray, List.set_cons_zero, List.set_cons_succ])
              refine Held.take (i := 9) (some 76) rfl (v := ?_) rfl (by kernel_rfl) (by kernel_rfl) (by kernel_rfl) (fun _ _ _ h => h) (Or.inl ⟨by rfl, ?_⟩) hS ?_
              rotate_left
              · intro w' hw'
                go_simp
                try with_reducible rfl
              (try dsimp only [Act.put]); (try simp only [List.setIfInBounds_toArray, List.set_cons_zero, List.set_cons_succ])
              refine wpAnyH_ready (rs := [10]) (by kernel_rfl) (by simp) (AllReadyH.cons rfl (fun K hK => ?_) AllReadyH.nil)
              go_simp
              refine hK.out _ _ trivial (fun _ => ?_)
              clear hK K
              refine wpAnyH_done (by kernel_rfl) ?_ _
              have HE : Hid (upTo L G (g + 1) = ((upTo L G g).1 ++ [(seg p m, seg (p + m) n)], p + m + n)) := Lib.hid (by rw [UN.out, GD.out])
              have HD2 : Hid ((gs ++ [Gr.mk (seg p m) (seg (p + m) n) ⟨a0, c0⟩ ⟨a1, c1⟩]).map Gr.data = (upTo L G (g + 1)).1) := Lib.hid (by rw [List.map_append, HD.out, HE.out]; simp [Gr.data])
              have HP2 : Hid ((upTo L G (g + 1)).2 = p + m + n) := Lib.hid (by rw [HE.out])
              clear hS c104 f104
              go_wp2
              go_roundw
              case rel => exact ⟨g + 1, by omega, by go_num, by rw [HP2.out]; go_num, a', c', _, HD2.out, HG.out⟩
              case measure => simp [intOf]; omega
    · have hge : g = G := by omega
      subst hge
      have HN : Hid ((upTo L g g).2 = rn) := Lib.hid N0.out.symm
      have HDD : Hid (gs.map Gr.data = rg) := Lib.hid (by rw [HD.out, D0.out])
      rw [HN.out]
      clear hlt
      go_wp2
      go_ret
      exact ⟨ga, gc, gs, rfl, HDD.out, HS.out⟩
end GenG
namespace GenT
open Go.ChangeShapes Go.WideShapes Go.ChangeAt Go.RowKit
open Tab Gath GenG Clone PlaceM CodeAt
open RefS (num num_range from_any)
theorem Bx.store_ph {w W : World} {hd : Hd} {T : Tab} (h : Bx w hd T W) (p : Nat) (hp : p < 8) (x : Ph) :
    ∃ W', Sem.run Try.prog (storeCells ⟨w.heap.size + 1, p * 13, none⟩ x.cells) W = .ok () W' ∧ Bx w hd { T with phases := T.phases.set p x } W' := by
  have hl := cells_cut hd h.ph h.cf h.fl
  have hr := run_storeCells_at Try.prog (w.heap.size + 1) (p * 13) 45 x.cells 0 (T.cells hd).toArray W h.blk (by simp [hl, Ph.cells]; omega) (fun v hv => (Array.all_eq_true_iff_forall_mem.1 (Ph.one x)) v (by simpa using hv))
  simp only [Nat.add_zero] at hr
  refine ⟨_, hr, h.write (setRow_grown _ _ _ h.size) ?_ (by simp [h.ph]) h.cf h.fl rfl rfl rfl rfl⟩
  rw [setRow_heap _ _ _ _ _ _ h.blk, ← cells_phase hd h.ph p hp x, Nat.mul_comm 13 p]
  rfl
theorem loop_ph {Q : Exit → Act → World → Prop} (a : Option Addr) (cap : Nat) (L : List Int) (w W0 : World) (hd : Hd) (T : Tab) (n : Nat) (hn : n ≤ 8) {f1 f6 f7 f8 f9 f10 f11 f12 f13 f14 f15 f16 f17 f18 f19 f20 f21 f22 f23 f24 f25 f26 f27 f28 f29 f30 f31 f32 f33 f34 f35 f36 f37 f38 f39 f40 f41 f42 f43 f44 f45 f46 f47 f48 f49 f50 f51 f52 f53 f54 f55 f56 f57 f58 f59 f60 f61 f62 f63 f64 f65 f66 f67 f68 f69 f70 f71 f72 f73 f74 f75 f76 f77 f78 f79 f80 f81 f82 f83 f84 f85 f86 f87 f88 f89 f90 f91 f92 f93 f94 f95 f96 f97 f98 f99 f100 f101 f102 f103 f104 f105 f106 f107 f108 f109 f110 f111 f112 f113 f114 f115 f116 f117 f118 f119 f120 f121 f122 f123 f124 f125 f126 f127 f128 f129 f130 f131 f132 f133 f134 f135 f136 f137 f138 f139 f140 f141 f142 f143 f144 f145 f146 f147 f148 f149 f150 f151 f152 f153 f154 f155 f156 f157 f158 f159 f160 f161 f162 f163 f164 f165 f166 f167 f168 f169 f170 f171 f172 f173 f174 f175 f176 f177 f178 f179 f180 f181 f182 f183 f184 f185 : Value}
    (HL : Hid (∀ W, Below w.heap.size w W → IntRow W ⟨a, cap⟩ L)) (BX : Hid (Bx w hd { T with phases := upd (fun p => GenP.genPh L (10 + 12 * p)) zPh 0, flash := upd (fun _ => 1) 0 0 } W0))
    (HP : ∀ c a d v w, Q (.panic c) (a.put d v) w → Q (.panic c) a w) (HQ : Hid (∀ (x5 x15 x16 x17 x18 x19 x20 x21 x22 x23 x24 x25 x26 x27 x28 x29 x30 : Value) (W' : World), Bx w hd { T with phases := upd (fun p => GenP.genPh L (10 + 12 * p)) zPh n, flash := upd (fun _ => 1) 0 n } W' → Q (.exit 0) ⟨#[Value.slice a L.length cap, f1, Value.pointer (some ⟨w.heap.size, 0, none⟩), Value.pointer (some ⟨w.heap.size + 1, 0, none⟩), Value.int .i64 (n : Nat), x5, f6, f7, f8, f9, f10, f11, f12, f13, f14, x15, x16, x17, x18, x19, x20, x21, x22, x23, x24, x25, x26, x27, x28, x29, x30, f31, f32, f33, f34, f35, f36, f37, f38, f39, f40, f41, f42, f43, f44, f45, f46, f47, f48, f49, f50, f51, f52, f53, f54, f55, f56, f57, f58, f59, f60, f61, f62, f63, f64, f65, f66, f67, f68, f69, f70, f71, f72, f73, f74, f75, f76, f77, f78, f79, f80, f81, f82, f83, f84, f85, f86, f87, f88, f89, f90, f91, f92, f93, f94, f95, f96, f97, f98, f99, f100, f101, f102, f103, f104, f105, f106, f107, f108, f109, f110, f111, f112, f113, f114, f115, f116, f117, f118, f119, f120, f121, f122, f123, f124, f125, f126, f127, f128, f129, f130, f131, f132, f133, f134, f135, f136, f137, f138, f139, f140, f141, f142, f143, f144, f145, f146, f147, f148, f149, f150, f151, f152, f153, f154, f155, f156, f157, f158, f159, f160, f161, f162, f163, f164, f165, f166, f167, f168, f169, f170, f171, f172, f173, f174, f175, f176, f177, f178, f179, f180, f181, f182, f183, f184, f185], []⟩ W')) :
    (lp 4 Try.f17).wp Try.prog Q ⟨#[Value.slice a L.length cap, f1, Value.pointer (some ⟨w.heap.size, 0, none⟩), Value.pointer (some ⟨w.heap.size + 1, 0, none⟩), Value.int .i64 (n : Nat), Value.int .i64 0, f6, f7, f8, f9, f10, f11, f12, f13, f14, f15, f16, f17, f18, f19, f20, f21, f22, f23, f24, f25, f26, f27, f28, f29, f30, f31, f32, f33, f34, f35, f36, f37, f38, f39, f40, f41, f42, f43, f44, f45, f46, f47, f48, f49, f50, f51, f52, f53, f54, f55, f56, f57, f58, f59, f60, f61, f62, f63, f64, f65, f66, f67, f68, f69, f70, f71, f72, f73, f74, f75, f76, f77, f78, f79, f80, f81, f82, f83, f84, f85, f86, f87, f88, f89, f90, f91, f92, f93, f94, f95, f96, f97, f98, f99, f100, f101, f102, f103, f104, f105, f106, f107, f108, f109, f110, f111, f112, f113, f114, f115, f116, f117, f118, f119, f120, f121, f122, f123, f124, f125, f126, f127, f128, f129, f130, f131, f132, f133, f134, f135, f136, f137, f138, f139, f140, f141, f142, f143, f144, f145, f146, f147, f148, f149, f150, f151, f152, f153, f154, f155, f156, f157, f158, f159, f160, f161, f162, f163, f164, f165, f166, f167, f168, f169, f170, f171, f172, f173, f174, f175, f176, f177, f178, f179, f180, f181, f182, f183, f184, f185], []⟩ W0 := by
  conv => arg 2; whnf
  dsimp only
  go_loopw [5] (fun i wr => ∃ q : Nat, q ≤ n ∧ i = .int .i64 q ∧ Bx w hd { T with phases := upd (fun p => GenP.genPh L (10 + 12 * p)) zPh q, flash := upd (fun _ => 1) 0 q } wr) (fun i _ => n - (intOf i).toNat)
  case atStart => exact ⟨0, by omega, rfl, BX.out⟩
  case round =>
    obtain ⟨q, hq, rfl, hbx⟩ := hrel
    have HB := Lib.hid hbx
    clear hbx BX
    by_cases hlt : q < n
    · go_wp2_with fail
      refine (GenP.phase_any a cap L _ _ (HL.out _ HB.out.bel) (by go_num) (by go_num)).mono ?_
      rintro e w2 ⟨rfl, hb⟩
      obtain ⟨w3, hst, hB3⟩ := (HB.out.step hb).store_ph q (by omega) (GenP.genPh L (10 + 12 * q))
      have HB3 := Lib.hid hB3
      clear hb hB3 HB
      go_upto_region 7 with fail
      have e1 : (upd (fun p => GenP.genPh L (10 + 12 * p)) zPh q).set q (GenP.genPh L (10 + 12 * q)) = upd (fun p => GenP.genPh L (10 + 12 * p)) zPh (q + 1) := upd_succ _ _ _
      have e2 : (upd (fun _ => (1 : Int)) 0 q).set q 1 = upd (fun _ => 1) 0 (q + 1) := upd_succ _ _ _
      have hs := HB3.out.set (121 + q) (I 1) (cells_flash hd HB3.out.ph HB3.out.cf HB3.out.fl q (by omega) 1) HB3.out.ph HB3.out.cf (by simp [upd_len]) rfl rfl rfl rfl
      have c7 : w3.cell? ⟨w.heap.size + 1, 121 + q, none⟩ = some (I 0) := by
        have h1 := (range_of HB3.out.blk 121 8 _ (cells_ok HB3.out.tab).flash) q _ (by rw [List.getElem?_map, upd_at _ _ _ _ (by omega), if_neg (by omega)]; rfl)
        exact h1
      have f7 := HB3.out.frozen (121 + q)
      dsimp only at hs
      rw [e1, e2] at hs
      have HS := Lib.hid hs
      clear hs e1 e2 HB3
      go_wp2
      go_roundw
      case rel => exact ⟨q + 1, by omega, by go_num, HS.out⟩
      case measure => simp [intOf]; omega
    · have hqe : q = n := by omega
      subst hqe
      go_wp2
      exact HQ.out _ _ _ _ _ _ _ _ _ _ _ _ _ _ _ _ _ _ HB.out
end GenT
namespace GenT
open Go.ChangeShapes Go.WideShapes Go.ChangeAt Go.RowKit
open Tab Gath GenG Clone PlaceM CodeAt
open RefS (num num_range from_any)
theorem loop_cf {Q : Exit → Act → World → Prop} (a : Option Addr) (cap : Nat) (L : List Int) (w W0 : World) (hd : Hd) (T : Tab) (n : Nat) (hn : n ≤ 8) (sm : Few T) {f1 f5 f7 f8 f9 f10 f11 f12 f13 f14 f15 f16 f17 f18 f19 f20 f21 f22 f23 f24 f25 f26 f27 f28 f29 f30 f31 f32 f33 f34 f35 f36 f37 f38 f39 f40 f41 f42 f43 f44 f45 f46 f47 f48 f49 f50 f51 f52 f53 f54 f55 f56 f57 f58 f59 f60 f61 f62 f63 f64 f65 f66 f67 f68 f69 f70 f71 f72 f73 f74 f75 f76 f77 f78 f79 f80 f81 f82 f83 f84 f85 f86 f87 f88 f89 f90 f91 f92 f93 f94 f95 f96 f97 f98 f99 f100 f101 f102 f103 f104 f105 f106 f107 f108 f109 f110 f111 f112 f113 f114 f115 f116 f117 f118 f119 f120 f121 f122 f123 f124 f125 f126 f127 f128 f129 f130 f131 f132 f133 f134 f135 f136 f137 f138 f139 f140 f141 f142 f143 f144 f145 f146 f147 f148 f149 f150 f151 f152 f153 f154 f155 f156 f157 f158 f159 f160 f161 f162 f163 f164 f165 f166 f167 f168 f169 f170 f171 f172 f173 f174 f175 f176 f177 f178 f179 f180 f181 f182 f183 f184 f185 : Value}
    (HL : Hid (∀ W, Below w.heap.size w W → IntRow W ⟨a, cap⟩ L)) (BX : Hid (Bx w hd T W0))
    (HP : ∀ c a d v w, Q (.panic c) (a.put d v) w → Q (.panic c) a w) (HQ : Hid (∀ (x6 x7 x31 x32 x33 x34 x35 x36 x37 x38 x39 x40 x41 x42 x43 x44 x45 x46 x47 x48 x49 x50 x51 x52 x53 x54 x55 x56 x57 x58 x59 x60 x61 x62 x63 x64 x65 x66 x67 x68 x69 x70 x71 x72 x73 : Value) (W' : World), Bx w hd { T with conflict := call L T T.conflict n } W' → Q (.exit 2) ⟨#[Value.slice a L.length cap, f1, Value.pointer (some ⟨w.heap.size, 0, none⟩), Value.pointer (some ⟨w.heap.size + 1, 0, none⟩), Value.int .i64 (n : Nat), f5, x6, x7, f8, f9, f10, f11, f12, f13, f14, f15, f16, f17, f18, f19, f20, f21, f22, f23, f24, f25, f26, f27, f28, f29, f30, x31, x32, x33, x34, x35, x36, x37, x38, x39, x40, x41, x42, x43, x44, x45, x46, x47, x48, x49, x50, x51, x52, x53, x54, x55, x56, x57, x58, x59, x60, x61, x62, x63, x64, x65, x66, x67, x68, x69, x70, x71, x72, x73, f74, f75, f76, f77, f78, f79, f80, f81, f82, f83, f84, f85, f86, f87, f88, f89, f90, f91, f92, f93, f94, f95, f96, f97, f98, f99, f100, f101, f102, f103, f104, f105, f106, f107, f108, f109, f110, f111, f112, f113, f114, f115, f116, f117, f118, f119, f120, f121, f122, f123, f124, f125, f126, f127, f128, f129, f130, f131, f132, f133, f134, f135, f136, f137, f138, f139, f140, f141, f142, f143, f144, f145, f146, f147, f148, f149, f150, f151, f152, f153, f154, f155, f156, f157, f158, f159, f160, f161, f162, f163, f164, f165, f166, f167, f168, f169, f170, f171, f172, f173, f174, f175, f176, f177, f178, f179, f180, f181, f182, f183, f184, f185], []⟩ W')) :
    (lp 9 Try.f17).wp Try.prog Q ⟨#[Value.slice a L.length cap, f1, Value.pointer (some ⟨w.heap.size, 0, none⟩), Value.pointer (some ⟨w.heap.size + 1, 0, none⟩), Value.int .i64 (n : Nat), f5, Value.int .i64 0, f7, f8, f9, f10, f11, f12, f13, f14, f15, f16, f17, f18, f19, f20, f21, f22, f23, f24, f25, f26, f27, f28, f29, f30, f31, f32, f33, f34, f35, f36, f37, f38, f39, f40, f41, f42, f43, f44, f45, f46, f47, f48, f49, f50, f51, f52, f53, f54, f55, f56, f57, f58, f59, f60, f61, f62, f63, f64, f65, f66, f67, f68, f69, f70, f71, f72, f73, f74, f75, f76, f77, f78, f79, f80, f81, f82, f83, f84, f85, f86, f87, f88, f89, f90, f91, f92, f93, f94, f95, f96, f97, f98, f99, f100, f101, f102, f103, f104, f105, f106, f107, f108, f109, f110, f111, f112, f113, f114, f115, f116, f117, f118, f119, f120, f121, f122, f123, f124, f125, f126, f127, f128, f129, f130, f131, f132, f133, f134, f135, f136, f137, f138, f139, f140, f141, f142, f143, f144, f145, f146, f147, f148, f149, f150, f151, f152, f153, f154, f155, f156, f157, f158, f159, f160, f161, f162, f163, f164, f165, f166, f167, f168, f169, f170, f171, f172, f173, f174, f175, f176, f177, f178, f179, f180, f181, f182, f183, f184, f185], []⟩ W0 := by
  conv => arg 2; whnf
  dsimp only
  have BS : Hid (∀ (C : List Int) p q, PlaceM.beside { T with conflict := C } p q = PlaceM.beside T p q) := Lib.hid (fun C p q => beside_same rfl p q)
  have CL : Hid (∀ C p, (call L T C p).length = C.length) := Lib.hid (call_len L T)
  have RL : Hid (∀ C p q, (crow L T p C q).length = C.length) := Lib.hid (fun C p q => crow_len L T p C q)
  have SMC : Hid (∀ C : List Int, Few { T with conflict := C }) := Lib.hid (fun C => ⟨sm.groups, sm.rows⟩)
  have C8 := Lib.hid BX.out.cf
  generalize hC0 : T.conflict = C0 at *
  have BX0 : Hid (Bx w hd { T with conflict := call L T C0 0 } W0) := Lib.hid (by have := BX.out; rw [← hC0]; exact this)
  clear BX hC0
  go_loopw [6] (fun i wr => ∃ p : Nat, p ≤ n ∧ i = .int .i64 p ∧ Bx w hd { T with conflict := call L T C0 p } wr) (fun i _ => n - (intOf i).toNat)
  case atStart => exact ⟨0, by omega, rfl, BX0.out⟩
  case round =>
    obtain ⟨p, hp, rfl, hbx⟩ := hrel
    have HB := Lib.hid hbx
    clear hbx BX0
    by_cases hlt : p < n
    · have HB2 : Hid (Bx w hd { T with conflict := crow L T p (call L T C0 p) 0 } wr) := HB
      have L8 : Hid ((call L T C0 p).length = 8) := Lib.hid (by rw [CL.out, C8.out])
      have NX : Hid (call L T C0 (p + 1) = crow L T p (call L T C0 p) p) := Lib.hid rfl
      generalize call L T C0 p = C1 at *
      clear HB
      go_wp2_with fail
      go_loopw [7] (fun i wr => ∃ q : Nat, q ≤ p ∧ i = .int .i64 q ∧ Bx w hd { T with conflict := crow L T p C1 q } wr) (fun i _ => p - (intOf i).toNat)
      case atStart => exact ⟨0, by omega, rfl, HB2.out⟩
      case round =>
        obtain ⟨q, hq, rfl, hbx⟩ := hrel
        have HB := Lib.hid hbx
        clear hbx HB2
        by_cases hlt2 : q < p
        · have LC : Hid ((crow L T p C1 q).length = 8) := Lib.hid (by rw [RL.out, L8.out])
          have NC : Hid (crow L T p C1 (q + 1) = cset L T p q (crow L T p C1 q)) := Lib.hid rfl
          generalize crow L T p C1 q = C at *
          have CSet : Hid (cset L T p q C = if PlaceM.beside T p q = false ∧ num L (110 + 8 * p + q) 9 ≠ 1 then (C.set p (SetM.withN (C.getD p 0) q : Nat)).set q (SetM.withN ((C.set p (SetM.withN (C.getD p 0) q : Nat)).getD q 0) p : Nat) else C) := Lib.hid rfl
          generalize cset L T p q C = CN at *
          have BC : Hid (∀ W, Below wr.heap.size wr W → Calls Try.prog 32 #[.agg ({ T with conflict := C }.cells hd).toArray, .int .i64 p, .int .i64 q] W fun e w' => e = .returned (.bool (PlaceM.beside T p q)) ∧ Below W.heap.size W w') := Lib.hid (fun W hb => by
            have := Where.beside_any { T with conflict := C } hd p q W (HB.out.step hb).tab (SMC.out C)
            rw [BS.out] at this; exact this)
          have FC : Hid (∀ i W, i = 110 + 8 * (p : Int) + q → Below w.heap.size w W → Calls Try.prog 33 #[.slice a L.length cap, .int .i64 i, .int .i64 9] W fun e w' => e = .returned (.int .i64 (num L (110 + 8 * p + q) 9)) ∧ W = w') := Lib.hid (fun i W hi hb => from_at a cap L i _ 9 hi W (HL.out W hb) (by omega) (by omega) (by omega))
          have LT : Hid (Lies wr ⟨w.heap.size + 1, 0, none⟩ ({ T with conflict := C }.cells hd)) := Lib.hid (by have := Row.lies_of_block HB.out.blk; simpa using this)
          have IA : Hid ((Try.prog.info? 45).map (·.size) = some ({ T with conflict := C }.cells hd).length) := Lib.hid (by rw [cells_cut hd HB.out.ph HB.out.cf HB.out.fl]; exact May.infoT)
          generalize hcs : ({ T with conflict := C } : Tab).cells hd = cs at LT IA BC
          go_upto_region 14 with fail
          go_wp2_with (refine Row.wpList_load_g 45 _ rfl (by first | rfl | go_simp) ⟨w.heap.size + 1, 0, none⟩ rfl cs _ LT.out Try.underlying45 rfl IA.out ?_)
          refine (BC.out _ (Below.refl _ _)).mono ?_
          rintro e w2 ⟨rfl, hb⟩
          have HB2 := Lib.hid (HB.out.step hb)
          clear hb LT IA BC hcs HB
          generalize PlaceM.beside T p q = bb at *
          cases bb with
          | true =>
            have HE : Hid (CN = C) := Lib.hid (by rw [CSet.out]; simp)
            go_wp2
            go_roundw
            case rel => exact ⟨q + 1, by omega, by go_num, by rw [NC.out, HE.out]; exact HB2.out⟩
            case measure => simp [intOf]; omega
          | false =>
            go_wp2_with fail
            refine (FC.out _ _ (by go_num) HB2.out.bel).mono ?_
            rintro e w' ⟨rfl, rfl⟩
            generalize num L (110 + 8 * p + q) 9 = x at *
            by_cases hx : x = 1
            · have HE : Hid (CN = C) := Lib.hid (by rw [CSet.out]; simp [hx])
              subst hx
              go_wp2
              go_roundw
              case rel => exact ⟨q + 1, by omega, by go_num, by rw [NC.out, HE.out]; exact HB2.out⟩
              case measure => simp [intOf]; omega
            · have HE : Hid (CN = (C.set p (SetM.withN (C.getD p 0) q : Nat)).set q (SetM.withN ((C.set p (SetM.withN (C.getD p 0) q : Nat)).getD q 0) p : Nat)) := Lib.hid (by rw [CSet.out]; simp [hx])
              have hxb : (x != 1) = true := by simpa using hx
              clear CSet FC
              have CC : Hid (∀ (D : List Int) j v W, v = D.getD j 0 → j < 8 → D.length = 8 → Bx w hd { T with conflict := D } W → W.cell? ⟨w.heap.size + 1, 105 + j, none⟩ = some (I v) ∧ W.frozen? ⟨w.heap.size + 1, 105 + j, none⟩ = false) := Lib.hid (fun D j v W hv hj h8 hb => ⟨hv ▸ (range_of hb.blk 105 8 _ (cells_ok hb.tab).conflict) j _ (by rw [List.getElem?_map, List.getD_eq_getElem?_getD, List.getElem?_eq_getElem (show j < D.length by omega)]; rfl), hb.frozen _⟩)
              have ST : Hid (∀ (D : List Int) j x W, j < 8 → D.length = 8 → Bx w hd { T with conflict := D } W → Bx w hd { T with conflict := D.set j x } (W.setCell ⟨w.heap.size + 1, 105 + j, none⟩ (I x))) := Lib.hid (fun D j x W hj h8 hb => hb.set (105 + j) (I x) (cells_conflict hd hb.ph hb.cf j hj x) hb.ph (by simp [h8]) hb.fl rfl rfl rfl rfl)
              generalize hv1 : C.getD p 0 = v1 at HE
              have HV1 := Lib.hid hv1.symm
              clear hv1
              obtain ⟨c1, f1'⟩ := CC.out C p v1 _ HV1.out (by omega) LC.out HB2.out
              go_upto_region 15 with fail
              clear hxb hx
              go_wp2_with fail
              refine (RefS.rwith_any _ _ _).mono ?_
              rintro e w3 ⟨rfl, hb⟩
              have HB3 := Lib.hid (HB2.out.step hb)
              clear hb HB2 c1 f1'
              obtain ⟨c1, f1'⟩ := CC.out C p v1 _ HV1.out (by omega) LC.out HB3.out
              generalize hX1 : ((SetM.withN v1 q : Nat) : Int) = X1 at *
              clear hX1
              have HB4 := Lib.hid (ST.out C p X1 _ (by omega) LC.out HB3.out)
              have LC2 : Hid ((C.set p X1).length = 8) := Lib.hid (by rw [List.length_set, LC.out])
              clear HB3
              go_upto_region 16 with fail
              generalize C.set p X1 = C2 at *
              generalize hv2 : C2.getD q 0 = v2 at HE
              have HV2 := Lib.hid hv2.symm
              clear hv2
              generalize w3.setCell ⟨w.heap.size + 1, 105 + p, none⟩ (I X1) = w4 at HB4 ⊢
              clear c1 f1'
              obtain ⟨c1, f1'⟩ := CC.out C2 q v2 _ HV2.out (by omega) LC2.out HB4.out
              go_wp2_with fail
              refine (RefS.rwith_any _ _ _).mono ?_
              rintro e w5 ⟨rfl, hb⟩
              have HB5 := Lib.hid (HB4.out.step hb)
              clear hb HB4 c1 f1'
              obtain ⟨c1, f1'⟩ := CC.out C2 q v2 _ HV2.out (by omega) LC2.out HB5.out
              generalize hX2 : ((SetM.withN v2 p : Nat) : Int) = X2 at *
              clear hX2
              have HB6 := Lib.hid (ST.out C2 q X2 _ (by omega) LC2.out HB5.out)
              clear HB5 CC ST
              go_wp2
              go_roundw
              case rel => exact ⟨q + 1, by omega, by go_num, by rw [NC.out, HE.out]; exact HB6.out⟩
              case measure => simp [intOf]; omega
        · have hqe : q = p := by omega
          subst hqe
          go_wp2
          go_roundw
          case rel => exact ⟨q + 1, by omega, by go_num, by rw [NX.out]; exact HB.out⟩
          case measure => simp [intOf]; omega
    · have hpe : p = n := by omega
      subst hpe
      go_wp2
      exact HQ.out _ _ _ _ _ _ _ _ _ _ _ _ _ _ _ _ _ _ _ _ _ _ _ _ _ _ _ _ _ _ _ _ _ _ _ _ _ _ _ _ _ _ _ _ _ _ HB.out
end GenT
end Go.Proofs.Ytbpfknkbiaplpaa
