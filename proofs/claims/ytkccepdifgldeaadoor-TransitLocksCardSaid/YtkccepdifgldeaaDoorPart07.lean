/- 8 texts in one file, in build order. -/
import Derived.Test.YtkccepdifgldeaaDoorRows
import Derived.Test.YtkccepdifgldeaaDoorPart02
import Derived.Test.YtkccepdifgldeaaDoorPart05
import Derived.Great.BuildSlice
import Derived.Test.YtkccepdifgldeaaDoorPart06
import Derived.Test.YtkccepdifgldeaaDoorPart04
import Derived.Deep.Cut
import Derived.LoopTactic
set_option linter.unusedVariables false
set_option linter.unusedSimpArgs false
set_option linter.unusedSectionVars false
set_option maxHeartbeats 8000000
set_option maxRecDepth 100000
namespace Go.Proofs.YtkccepdifgldeaaDoor
namespace ServeS
open Go.ChangeShapes Go.WideShapes Go.ChangeAt Go.RowKit
open Tab Gath OnS RefC Clear
open RefS (rhas_any)
open May (St phases_in infoP infoT row_new)
def serveR (T : Tab) (x : Ph) : Int := sums [mosts [cap x.min, sums [x.walk, x.blinks], cap x.top], T.extend, x.yellow, x.red, T.revert, 8]
def serveS (T : Tab) (p : Int) : Int := if SetM.has (onS T : Nat) p then serveR T (phAt T p) else 0
theorem most_len (a : Option Addr) (cap : Nat) (L : List Int) (n : Nat) (hn : L.length = n) (w : World) (h : IntRow w ⟨a, cap⟩ L) :
    Calls Tryd.prog 60 #[.slice a n cap] w fun e w' => e = .returned (.int .i64 (mosts L)) ∧ w = w' := by
  subst hn; exact most_row a cap L w h
theorem serve_any (T : Tab) (h : Hd) (p : Int) (w : World) (ht : IsTab w h T) :
    Calls Tryd.prog 62 #[.agg (T.cells h).toArray, .int .i64 p] w fun e w' => e = .returned (.int .i64 (serveS T p)) ∧ Below w.heap.size w w' := by
  have C := Lib.hid (cells_ok ht)
  have hsz := C.out.size
  have IA : Hid ((Tryd.prog.info? 31).map (·.size) = some (T.cells h).length) := Lib.hid (by rw [List.size_toArray] at hsz; rw [hsz]; exact infoT)
  have ON : Hid (∀ W, Below w.heap.size w W → Calls Tryd.prog 55 #[.agg (T.cells h).toArray] W fun e w' => e = .returned (.int .i64 (onS T : Nat)) ∧ Below W.heap.size W w') := Lib.hid (fun W hb => on_any T h W (ht.below hb))
  have L8 := Lib.hid ht.ph
  have S0 := Lib.hid (St.box (cs := (T.cells h).toArray) ht)
  have RS : Hid (serveS T p = if SetM.has (onS T : Nat) p then serveR T (phAt T p) else 0) := Lib.hid rfl
  generalize serveS T p = e0 at RS ⊢
  generalize ((onS T : Nat) : Int) = os at RS ON
  clear ht
  generalize T.cells h = c at *
  go_enter Tryd.func62, Tryd.ntmps62
  go_upto_region 1 with fail
  generalize w.alloc (.cells c.toArray 31) = w1 at S0 ⊢
  clear hsz
  have LT : Hid (Lies w1 ⟨w.heap.size, 0, none⟩ c) := Lib.hid (by have := Row.lies_of_block S0.out.blk; simpa using this)
  go_wp2_with (refine Row.wpList_load_g 31 _ rfl (by first | rfl | go_simp) ⟨w.heap.size, 0, none⟩ rfl c _ LT.out Tryd.underlying31 rfl IA.out ?_)
  refine (ON.out _ S0.out.bel).mono ?_
  rintro e w2 ⟨rfl, hb⟩
  have S2 := Lib.hid (S0.out.step hb)
  clear hb S0 LT ON IA
  go_wp2_with fail
  refine (rhas_any os p _).mono ?_
  rintro e w' ⟨rfl, rfl⟩
  by_cases hh : SetM.has os p = true
  rotate_left
  · have h2 : SetM.has os p = false := by simpa using hh
    have HE : Hid (0 = e0) := Lib.hid (by rw [RS.out, h2]; rfl)
    rw [h2]
    clear hh h2
    go_wp2
    go_ret
    exact ⟨RefC.ret_int HE.out, S2.out.bel⟩
  have HE : Hid (serveR T (phAt T p) = e0) := Lib.hid (by rw [RS.out, hh]; rfl)
  have hbd := SetM.list_bd os p ((SetM.mem_list os p).2 hh)
  rw [hh]
  clear hh RS
  obtain ⟨p0, p8⟩ := hbd
  obtain ⟨k, rfl⟩ := Int.eq_ofNat_of_zero_le p0
  have hk : k < 8 := by omega
  have hv : T.phases[k]? = some (phAt T k) := by
    unfold phAt
    rw [Int.toNat_natCast, List.getD_eq_getElem?_getD, List.getElem?_eq_getElem (by rw [L8.out]; exact hk)]; rfl
  generalize phAt T k = u at hv HE
  have ER : Hid (serveR T u = sums [mosts [cap u.min, sums [u.walk, u.blinks], cap u.top], T.extend, u.yellow, u.red, T.revert, 8]) := Lib.hid rfl
  generalize serveR T u = sr at HE ER
  obtain ⟨y, hy, hcc⟩ := (phases_in S2.out.blk C.out L8.out).at hv
  obtain rfl := Option.some.inj hy
  have HC := Lib.hid (show Lies w2 ⟨w.heap.size, k * 13, none⟩ u.cells by have := hcc; rwa [Addr.add_mid, Nat.zero_add] at this)
  clear hv hcc hy
  go_upto_region 3 with fail
  go_upto_region 4 with (first | (refine Row.wpList_load_g 23 _ rfl (by first | rfl | go_simp) ⟨w.heap.size, k * 13, none⟩ rfl u.cells _ HC.out Tryd.underlying23 rfl infoP ?_) | (refine Row.wpList_store_new rfl 23 _ _ rfl w2 _ u.cells.toArray rfl rfl rfl infoP rfl (Ph.one _) ?_))
  (try dsimp only [Act.put])
  have hb2 : Below w2.heap.size w2 (w2.alloc (.cells u.cells.toArray 23)) := (Below.refl _ _).alloc (Nat.le_refl _) _
  have hg := heap_alloc_new w2 (.cells u.cells.toArray 23)
  have S3 := Lib.hid (S2.out.step hb2)
  clear HC hb2 S2
  generalize World.alloc w2 _ = w3 at hg S3 ⊢
  generalize w2.heap.size = b at hg ⊢
  have HL : Hid (Lies w3 ⟨b, 0, none⟩ u.cells) := Lib.hid (by have := Row.lies_of_block hg; simpa using this)
  clear hg
  have M1 : Hid (∀ w', Below w3.heap.size w3 w' → w'.cell? ⟨b, 1, none⟩ = some (I u.min)) := Lib.hid (fun w' hb => by have := (HL.out.below hb) 1 _ rfl; rwa [Addr.add_mid, Nat.zero_add] at this)
  have M8 : Hid (∀ w', Below w3.heap.size w3 w' → w'.cell? ⟨b, 8, none⟩ = some (I u.walk)) := Lib.hid (fun w' hb => by have := (HL.out.below hb) 8 _ rfl; rwa [Addr.add_mid, Nat.zero_add] at this)
  have M9 : Hid (∀ w', Below w3.heap.size w3 w' → w'.cell? ⟨b, 9, none⟩ = some (I u.blinks)) := Lib.hid (fun w' hb => by have := (HL.out.below hb) 9 _ rfl; rwa [Addr.add_mid, Nat.zero_add] at this)
  have M4 : Hid (∀ w', Below w3.heap.size w3 w' → w'.cell? ⟨b, 4, none⟩ = some (I u.top)) := Lib.hid (fun w' hb => by have := (HL.out.below hb) 4 _ rfl; rwa [Addr.add_mid, Nat.zero_add] at this)
  have M6 : Hid (∀ w', Below w3.heap.size w3 w' → w'.cell? ⟨b, 6, none⟩ = some (I u.yellow)) := Lib.hid (fun w' hb => by have := (HL.out.below hb) 6 _ rfl; rwa [Addr.add_mid, Nat.zero_add] at this)
  have M7 : Hid (∀ w', Below w3.heap.size w3 w' → w'.cell? ⟨b, 7, none⟩ = some (I u.red)) := Lib.hid (fun w' hb => by have := (HL.out.below hb) 7 _ rfl; rwa [Addr.add_mid, Nat.zero_add] at this)
  have dME := S3.out.cell C.out.extend
  have ME := Lib.hid (fun w' (hb : Below w3.heap.size w3 w') => (hb.cell (World.block_lt_of_cell? w3 _ dME)).trans dME)
  clear dME
  have dMR := S3.out.cell C.out.revert
  have MR := Lib.hid (fun w' (hb : Below w3.heap.size w3 w') => (hb.cell (World.block_lt_of_cell? w3 _ dMR)).trans dMR)
  clear dMR
  refine wp_region_held (S := fun w' => Below w3.heap.size w3 w') (by kernel_rfl) ?_
  have hS : Below w3.heap.size w3 { w3 with drawn := w3.drawn + 1 } := (Below.refl _ _).drew
  generalize ({ w3 with drawn := w3.drawn + 1 } : World) = v at hS ⊢
  refine Held.take (i := 0) (some 15) rfl (v := ?_) rfl (by kernel_rfl) (by kernel_rfl) (by kernel_rfl) (fun _ _ _ h => h) (Or.inl ⟨by rfl, ?_⟩) hS ?_
  rotate_left
  · intro w' hw'
    go_simp
    try with_reducible rfl
  (try dsimp only [Act.put]); (try simp only [List.setIfInBounds_toArray, List.set_cons_zero, List.set_cons_succ])
  refine Held.take (i := 1) (some 16) rfl (v := ?_) rfl (by kernel_rfl) (by kernel_rfl) (by kernel_rfl) (fun _ _ _ h => h) (Or.inl ⟨by rfl, ?_⟩) hS ?_
  rotate_left
  · intro w' hw'
    have cf := M1.out w' hw'
    go_simp
    try with_reducible rfl
  (try dsimp only [Act.put]); (try simp only [List.setIfInBounds_toArray, List.set_cons_zero, List.set_cons_succ])
  refine Held.take (i := 3) (some 18) rfl (v := ?_) rfl (by kernel_rfl) (by kernel_rfl) (by kernel_rfl) (fun _ _ _ h => h) (Or.inl ⟨by rfl, ?_⟩) hS ?_
  rotate_left
  · intro w' hw'
    go_simp
    try with_reducible rfl
  (try dsimp only [Act.put]); (try simp only [List.setIfInBounds_toArray, List.set_cons_zero, List.set_cons_succ])
  refine Held.take (i := 4) (some 19) rfl (v := ?_) rfl (by kernel_rfl) (by kernel_rfl) (by kernel_rfl) (fun _ _ _ h => h) (Or.inl ⟨by rfl, ?_⟩) hS ?_
  rotate_left
  · intro w' hw'
    have cf := M8.out w' hw'
    go_simp
    try with_reducible rfl
  (try dsimp only [Act.put]); (try simp only [List.setIfInBounds_toArray, List.set_cons_zero, List.set_cons_succ])
  refine Held.take (i := 5) (some 20) rfl (v := ?_) rfl (by kernel_rfl) (by kernel_rfl) (by kernel_rfl) (fun _ _ _ h => h) (Or.inl ⟨by rfl, ?_⟩) hS ?_
  rotate_left
  · intro w' hw'
    go_simp
    try with_reducible rfl
  (try dsimp only [Act.put]); (try simp only [List.setIfInBounds_toArray, List.set_cons_zero, List.set_cons_succ])
  refine Held.take (i := 6) (some 21) rfl (v := ?_) rfl (by kernel_rfl) (by kernel_rfl) (by kernel_rfl) (fun _ _ _ h => h) (Or.inl ⟨by rfl, ?_⟩) hS ?_
  rotate_left
  · intro w' hw'
    have cf := M9.out w' hw'
    go_simp
    try with_reducible rfl
  (try dsimp only [Act.put]); (try simp only [List.setIfInBounds_toArray, List.set_cons_zero, List.set_cons_succ])
  refine Held.take (i := 9) (some 24) rfl (v := ?_) rfl (by kernel_rfl) (by kernel_rfl) (by kernel_rfl) (fun _ _ _ h => h) (Or.inl ⟨by rfl, ?_⟩) hS ?_
  rotate_left
  · intro w' hw'
    go_simp
    try with_reducible rfl
  (try dsimp only [Act.put]); (try simp only [List.setIfInBounds_toArray, List.set_cons_zero, List.set_cons_succ])
  refine Held.take (i := 10) (some 25) rfl (v := ?_) rfl (by kernel_rfl) (by kernel_rfl) (by kernel_rfl) (fun _ _ _ h => h) (Or.inl ⟨by rfl, ?_⟩) hS ?_
  rotate_left
  · intro w' hw'
    have cf := M4.out w' hw'
    go_simp
    try with_reducible rfl
  (try dsimp only [Act.put]); (try simp only [List.setIfInBounds_toArray, List.set_cons_zero, List.set_cons_succ])
  refine Held.take (i := 14) (some 29) rfl (v := ?_) rfl (by kernel_rfl) (by kernel_rfl) (by kernel_rfl) (fun _ _ _ h => h) (Or.inl ⟨by rfl, ?_⟩) hS ?_
  rotate_left
  · intro w' hw'
    go_simp
    try with_reducible rfl
  (try dsimp only [Act.put]); (try simp only [List.setIfInBounds_toArray, List.set_cons_zero, List.set_cons_succ])
  refine Held.take (i := 15) (some 30) rfl (v := ?_) rfl (by kernel_rfl) (by kernel_rfl) (by kernel_rfl) (fun _ _ _ h => h) (Or.inl ⟨by rfl, ?_⟩) hS ?_
  rotate_left
  · intro w' hw'
    have cf := ME.out w' hw'
    go_simp
    try with_reducible rfl
  (try dsimp only [Act.put]); (try simp only [List.setIfInBounds_toArray, List.set_cons_zero, List.set_cons_succ])
  refine Held.take (i := 16) (some 31) rfl (v := ?_) rfl (by kernel_rfl) (by kernel_rfl) (by kernel_rfl) (fun _ _ _ h => h) (Or.inl ⟨by rfl, ?_⟩) hS ?_
  rotate_left
  · intro w' hw'
    go_simp
    try with_reducible rfl
  (try dsimp only [Act.put]); (try simp only [List.setIfInBounds_toArray, List.set_cons_zero, List.set_cons_succ])
  refine Held.take (i := 17) (some 32) rfl (v := ?_) rfl (by kernel_rfl) (by kernel_rfl) (by kernel_rfl) (fun _ _ _ h => h) (Or.inl ⟨by rfl, ?_⟩) hS ?_
  rotate_left
  · intro w' hw'
    have cf := M6.out w' hw'
    go_simp
    try with_reducible rfl
  (try dsimp only [Act.put]); (try simp only [List.setIfInBounds_toArray, List.set_cons_zero, List.set_cons_succ])
  refine Held.take (i := 18) (some 33) rfl (v := ?_) rfl (by kernel_rfl) (by kernel_rfl) (by kernel_rfl) (fun _ _ _ h => h) (Or.inl ⟨by rfl, ?_⟩) hS ?_
  rotate_left
  · intro w' hw'
    go_simp
    try with_reducible rfl
  (try dsimp only [Act.put]); (try simp only [List.setIfInBounds_toArray, List.set_cons_zero, List.set_cons_succ])
  refine Held.take (i := 19) (some 34) rfl (v := ?_) rfl (by kernel_rfl) (by kernel_rfl) (by kernel_rfl) (fun _ _ _ h => h) (Or.inl ⟨by rfl, ?_⟩) hS ?_
  rotate_left
  · intro w' hw'
    have cf := M7.out w' hw'
    go_simp
    try with_reducible rfl
  (try dsimp only [Act.put]); (try simp only [List.setIfInBounds_toArray, List.set_cons_zero, List.set_cons_succ])
  refine Held.take (i := 20) (some 35) rfl (v := ?_) rfl (by kernel_rfl) (by kernel_rfl) (by kernel_rfl) (fun _ _ _ h => h) (Or.inl ⟨by rfl, ?_⟩) hS ?_
  rotate_left
  · intro w' hw'
    go_simp
    try with_reducible rfl
  (try dsimp only [Act.put]); (try simp only [List.setIfInBounds_toArray, List.set_cons_zero, List.set_cons_succ])
  refine Held.take (i := 21) (some 36) rfl (v := ?_) rfl (by kernel_rfl) (by kernel_rfl) (by kernel_rfl) (fun _ _ _ h => h) (Or.inl ⟨by rfl, ?_⟩) hS ?_
  rotate_left
  · intro w' hw'
    have cf := MR.out w' hw'
    go_simp
    try with_reducible rfl
  (try dsimp only [Act.put]); (try simp only [List.setIfInBounds_toArray, List.set_cons_zero, List.set_cons_succ])
  refine wpAnyH_ready (rs := [2, 7]) (by kernel_rfl) (by simp) (AllReadyH.cons rfl (fun K hK => ?_) (AllReadyH.cons rfl (fun K hK => ?_) AllReadyH.nil))
  · go_simp
    refine (rcap_any u.min _).mono ?_
    rintro e w' ⟨rfl, rfl⟩
    go_simp
    refine hK.out _ _ hS (fun hS => ?_)
    clear hK K
    refine wpAnyH_ready (rs := [7]) (by kernel_rfl) (by simp) (AllReadyH.cons rfl (fun K hK => ?_) AllReadyH.nil)
    go_simp
    have R1 : Hid (IntRow (v.alloc (.cells #[I u.walk, I u.blinks] 3)) ⟨some ⟨v.heap.size, 0, none⟩, 2⟩ [u.walk, u.blinks]) := Lib.hid (row_new v 3 [u.walk, u.blinks] 2 rfl (by decide) _ rfl)
    have hq := hS.alloc hS.size (.cells #[I u.walk, I u.blinks] 3)
    have hbv : Below v.heap.size v (v.alloc (.cells #[I u.walk, I u.blinks] 3)) := (Below.refl _ _).alloc (Nat.le_refl _) _
    clear hS
    generalize v.heap.size = b1 at R1 ⊢
    generalize World.alloc v _ = v at R1 hq ⊢
    refine hK.out _ _ hq (fun hS => ?_)
    clear hK K hq
    refine wpAnyH_ready (rs := [8]) (by kernel_rfl) (by simp) (AllReadyH.cons rfl (fun K hK => ?_) AllReadyH.nil)
    go_simp
    refine (sum_len (some ⟨b1, 0, none⟩) 2 [u.walk, u.blinks] 2 rfl _ R1.out).mono ?_
    rintro e w' ⟨rfl, rfl⟩
    go_simp
    refine hK.out _ _ hS (fun hS => ?_)
    clear hK K
    clear R1
    refine wpAnyH_ready (rs := [11]) (by kernel_rfl) (by simp) (AllReadyH.cons rfl (fun K hK => ?_) AllReadyH.nil)
    go_simp
    refine (rcap_any u.top _).mono ?_
    rintro e w' ⟨rfl, rfl⟩
    go_simp
    refine hK.out _ _ hS (fun hS => ?_)
    clear hK K
    refine wpAnyH_ready (rs := [12]) (by kernel_rfl) (by simp) (AllReadyH.cons rfl (fun K hK => ?_) AllReadyH.nil)
    go_simp
    have R2 : Hid (IntRow (v.alloc (.cells #[I (cap u.min), I (sums [u.walk, u.blinks]), I (cap u.top)] 3)) ⟨some ⟨v.heap.size, 0, none⟩, 3⟩ [cap u.min, sums [u.walk, u.blinks], cap u.top]) := Lib.hid (row_new v 3 [cap u.min, sums [u.walk, u.blinks], cap u.top] 3 rfl (by decide) _ rfl)
    have hq := hS.alloc hS.size (.cells #[I (cap u.min), I (sums [u.walk, u.blinks]), I (cap u.top)] 3)
    have hbv : Below v.heap.size v (v.alloc (.cells #[I (cap u.min), I (sums [u.walk, u.blinks]), I (cap u.top)] 3)) := (Below.refl _ _).alloc (Nat.le_refl _) _
    clear hS
    generalize v.heap.size = b2 at R2 ⊢
    generalize World.alloc v _ = v at R2 hq ⊢
    refine hK.out _ _ hq (fun hS => ?_)
    clear hK K hq
    refine wpAnyH_ready (rs := [13]) (by kernel_rfl) (by simp) (AllReadyH.cons rfl (fun K hK => ?_) AllReadyH.nil)
    go_simp
    refine (most_len (some ⟨b2, 0, none⟩) 3 [cap u.min, sums [u.walk, u.blinks], cap u.top] 3 rfl _ R2.out).mono ?_
    rintro e w' ⟨rfl, rfl⟩
    go_simp
    refine hK.out _ _ hS (fun hS => ?_)
    clear hK K
    clear R2
    generalize mosts [cap u.min, sums [u.walk, u.blinks], cap u.top] = mo at ER ⊢
    refine wpAnyH_ready (rs := [22]) (by kernel_rfl) (by simp) (AllReadyH.cons rfl (fun K hK => ?_) AllReadyH.nil)
    go_simp
    have R3 : Hid (IntRow (v.alloc (.cells #[I mo, I T.extend, I u.yellow, I u.red, I T.revert, I 8] 3)) ⟨some ⟨v.heap.size, 0, none⟩, 6⟩ [mo, T.extend, u.yellow, u.red, T.revert, 8]) := Lib.hid (row_new v 3 [mo, T.extend, u.yellow, u.red, T.revert, 8] 6 rfl (by decide) _ rfl)
    have hq := hS.alloc hS.size (.cells #[I mo, I T.extend, I u.yellow, I u.red, I T.revert, I 8] 3)
    have hbv : Below v.heap.size v (v.alloc (.cells #[I mo, I T.extend, I u.yellow, I u.red, I T.revert, I 8] 3)) := (Below.refl _ _).alloc (Nat.le_refl _) _
    clear hS
    generalize v.heap.size = b3 at R3 ⊢
    generalize World.alloc v _ = v at R3 hq ⊢
    refine hK.out _ _ hq (fun hS => ?_)
    clear hK K hq
    refine wpAnyH_ready (rs := [23]) (by kernel_rfl) (by simp) (AllReadyH.cons rfl (fun K hK => ?_) AllReadyH.nil)
    go_simp
    refine (sum_len (some ⟨b3, 0, none⟩) 6 [mo, T.extend, u.yellow, u.red, T.revert, 8] 6 rfl _ R3.out).mono ?_
    rintro e w' ⟨rfl, rfl⟩
    go_simp
    refine hK.out _ _ hS (fun hS => ?_)
    clear hK K
    rw [← ER.out, HE.out]
    refine Held.take (i := 24) (some 4) rfl (v := ?_) rfl (by kernel_rfl) (by kernel_rfl) (by kernel_rfl) (fun _ _ _ h => h) (Or.inl ⟨by rfl, ?_⟩) hS ?_
    rotate_left
    · intro w' hw'
      go_simp
      try with_reducible rfl
    (try dsimp only [Act.put]); (try simp only [List.setIfInBounds_toArray, List.set_cons_zero, List.set_cons_succ])
    refine wpAnyH_done (by kernel_rfl) ?_ _
    have HF := Lib.hid (S3.out.bel.trans (hS.mono S3.out.bel.size))
    clear hS
    go_wp2
    go_ret
    exact ⟨rfl, HF.out⟩
  · go_simp
    have R1 : Hid (IntRow (v.alloc (.cells #[I u.walk, I u.blinks] 3)) ⟨some ⟨v.heap.size, 0, none⟩, 2⟩ [u.walk, u.blinks]) := Lib.hid (row_new v 3 [u.walk, u.blinks] 2 rfl (by decide) _ rfl)
    have hq := hS.alloc hS.size (.cells #[I u.walk, I u.blinks] 3)
    have hbv : Below v.heap.size v (v.alloc (.cells #[I u.walk, I u.blinks] 3)) := (Below.refl _ _).alloc (Nat.le_refl _) _
    clear hS
    generalize v.heap.size = b1 at R1 ⊢
    generalize World.alloc v _ = v at R1 hq ⊢
    refine hK.out _ _ hq (fun hS => ?_)
    clear hK K hq
    refine wpAnyH_ready (rs := [2]) (by kernel_rfl) (by simp) (AllReadyH.cons rfl (fun K hK => ?_) AllReadyH.nil)
    go_simp
    refine (rcap_any u.min _).mono ?_
    rintro e w' ⟨rfl, rfl⟩
    go_simp
    refine hK.out _ _ hS (fun hS => ?_)
    clear hK K
    refine wpAnyH_ready (rs := [8]) (by kernel_rfl) (by simp) (AllReadyH.cons rfl (fun K hK => ?_) AllReadyH.nil)
    go_simp
    refine (sum_len (some ⟨b1, 0, none⟩) 2 [u.walk, u.blinks] 2 rfl _ R1.out).mono ?_
    rintro e w' ⟨rfl, rfl⟩
    go_simp
    refine hK.out _ _ hS (fun hS => ?_)
    clear hK K
    clear R1
    refine wpAnyH_ready (rs := [11]) (by kernel_rfl) (by simp) (AllReadyH.cons rfl (fun K hK => ?_) AllReadyH.nil)
    go_simp
    refine (rcap_any u.top _).mono ?_
    rintro e w' ⟨rfl, rfl⟩
    go_simp
    refine hK.out _ _ hS (fun hS => ?_)
    clear hK K
    refine wpAnyH_ready (rs := [12]) (by kernel_rfl) (by simp) (AllReadyH.cons rfl (fun K hK => ?_) AllReadyH.nil)
    go_simp
    have R2 : Hid (IntRow (v.alloc (.cells #[I (cap u.min), I (sums [u.walk, u.blinks]), I (cap u.top)] 3)) ⟨some ⟨v.heap.size, 0, none⟩, 3⟩ [cap u.min, sums [u.walk, u.blinks], cap u.top]) := Lib.hid (row_new v 3 [cap u.min, sums [u.walk, u.blinks], cap u.top] 3 rfl (by decide) _ rfl)
    have hq := hS.alloc hS.size (.cells #[I (cap u.min), I (sums [u.walk, u.blinks]), I (cap u.top)] 3)
    have hbv : Below v.heap.size v (v.alloc (.cells #[I (cap u.min), I (sums [u.walk, u.blinks]), I (cap u.top)] 3)) := (Below.refl _ _).alloc (Nat.le_refl _) _
    clear hS
    generalize v.heap.size = b2 at R2 ⊢
    generalize World.alloc v _ = v at R2 hq ⊢
    refine hK.out _ _ hq (fun hS => ?_)
    clear hK K hq
    refine wpAnyH_ready (rs := [13]) (by kernel_rfl) (by simp) (AllReadyH.cons rfl (fun K hK => ?_) AllReadyH.nil)
    go_simp
    refine (most_len (some ⟨b2, 0, none⟩) 3 [cap u.min, sums [u.walk, u.blinks], cap u.top] 3 rfl _ R2.out).mono ?_
    rintro e w' ⟨rfl, rfl⟩
    go_simp
    refine hK.out _ _ hS (fun hS => ?_)
    clear hK K
    clear R2
    generalize mosts [cap u.min, sums [u.walk, u.blinks], cap u.top] = mo at ER ⊢
    refine wpAnyH_ready (rs := [22]) (by kernel_rfl) (by simp) (AllReadyH.cons rfl (fun K hK => ?_) AllReadyH.nil)
    go_simp
    have R3 : Hid (IntRow (v.alloc (.cells #[I mo, I T.extend, I u.yellow, I u.red, I T.revert, I 8] 3)) ⟨some ⟨v.heap.size, 0, none⟩, 6⟩ [mo, T.extend, u.yellow, u.red, T.revert, 8]) := Lib.hid (row_new v 3 [mo, T.extend, u.yellow, u.red, T.revert, 8] 6 rfl (by decide) _ rfl)
    have hq := hS.alloc hS.size (.cells #[I mo, I T.extend, I u.yellow, I u.red, I T.revert, I 8] 3)
    have hbv : Below v.heap.size v (v.alloc (.cells #[I mo, I T.extend, I u.yellow, I u.red, I T.revert, I 8] 3)) := (Below.refl _ _).alloc (Nat.le_refl _) _
    clear hS
    generalize v.heap.size = b3 at R3 ⊢
    generalize World.alloc v _ = v at R3 hq ⊢
    refine hK.out _ _ hq (fun hS => ?_)
    clear hK K hq
    refine wpAnyH_ready (rs := [23]) (by kernel_rfl) (by simp) (AllReadyH.cons rfl (fun K hK => ?_) AllReadyH.nil)
    go_simp
    refine (sum_len (some ⟨b3, 0, none⟩) 6 [mo, T.extend, u.yellow, u.red, T.revert, 8] 6 rfl _ R3.out).mono ?_
    rintro e w' ⟨rfl, rfl⟩
    go_simp
    refine hK.out _ _ hS (fun hS => ?_)
    clear hK K
    rw [← ER.out, HE.out]
    refine Held.take (i := 24) (some 4) rfl (v := ?_) rfl (by kernel_rfl) (by kernel_rfl) (by kernel_rfl) (fun _ _ _ h => h) (Or.inl ⟨by rfl, ?_⟩) hS ?_
    rotate_left
    · intro w' hw'
      go_simp
      try with_reducible rfl
    (try dsimp only [Act.put]); (try simp only [List.setIfInBounds_toArray, List.set_cons_zero, List.set_cons_succ])
    refine wpAnyH_done (by kernel_rfl) ?_ _
    have HF := Lib.hid (S3.out.bel.trans (hS.mono S3.out.bel.size))
    clear hS
    go_wp2
    go_ret
    exact ⟨rfl, HF.out⟩
end ServeS
namespace PassS
open Go.ChangeShapes Go.WideShapes Go.ChangeAt Go.RowKit
open Tab PlaceM Gath OnS RefC ServeS
open Spots (Typed)
open RefS (info3)
open May (St infoT)
theorem infoS : (Tryd.prog.info? 88).map (·.size) = some 4 := by kernel_rfl
theorem add_block (x : Addr) (k : Nat) : (x.add k).block = x.block := by unfold Addr.add; split <;> rfl
/-- A row lies still where another block grows. -/
theorem row_grown {α : Type} {n : Nat} {enc : α → List Value} {w w' : World} {s : Sl} {l : List α} {row : Option Nat} (h : RowOf n enc w s l) (hg : w.grownBy w' row) (hne : ∀ x, s.a = some x → some x.block ≠ row) : RowOf n enc w' s l := by
  rcases h with h | ⟨x, h1, h2, h3, h4⟩
  · exact .inl h
  · exact .inr ⟨x, h1, h2, h3, fun i v hv j u hu => hg.cell (h4 i v hv j u hu) (by rw [add_block, add_block]; exact hne x h1)⟩
theorem typed_grown {w w' : World} {s : Sl} {row : Option Nat} (h : Typed w s) (hg : w.grownBy w' row) (hne : ∀ x, s.a = some x → some x.block ≠ row) : Typed w' s := fun x hx => by
  obtain ⟨cs, hc⟩ := h x hx
  exact ⟨cs, (hg.block _ (Array.getElem?_eq_some_iff.1 hc).1 (hne x hx)).trans hc⟩
/-- Blocks of two types are two. -/
theorem typed_ne {w : World} {s : Sl} {B : Nat} {v : Value} {l : List Int} (h : Typed w s) (ho : OwnsI B w v l) : ∀ x, s.a = some x → some x.block ≠ v.ownBlock := by
  intro x hx e
  obtain ⟨cs, hc⟩ := h x hx
  rcases ho.2 with ⟨rfl, _⟩ | ⟨g, cap, cur, rfl, h1, h2, _⟩
  · simp [Value.ownBlock] at e
  · simp only [Value.ownBlock, Option.some.injEq] at e
    rw [← e, hc] at h2
    simp at h2
theorem own_one (w : World) (n : Int) : OwnsI w.heap.size (w.alloc (.cells #[I n] 3)) (.slice (some ⟨w.heap.size, 0, none⟩) 1 1) [n] :=
  ⟨rfl, .inr ⟨w.heap.size, 1, #[I n], rfl, Nat.le_refl _, heap_alloc_new w _, Nat.le_refl _, (show 1 ≤ maxLen by decide), rfl, rfl⟩⟩
def passL (T : Tab) (g : Int) (l : List Spt) : List Int := (l.filter fun x => decide ((x.g : Int) = g)).map fun x => serveS T x.p
def passS (T : Tab) (g : Int) : Int := if 0 ≤ g ∧ g < T.groups.length then sums (8 :: passL T g (spots T)) else 0
theorem pass_step {T : Tab} {g : Int} {l : List Spt} {j : Nat} {x : Spt} (h : l[j]? = some x) : passL T g (l.take (j + 1)) = passL T g (l.take j) ++ (if (x.g : Int) = g then [serveS T x.p] else []) := by
  unfold passL
  rw [PlaceM.take_succ h, List.filter_append, List.map_append]
  congr 1
  by_cases e : (x.g : Int) = g
  · simp [e]
  · simp [e]
theorem pass_len (T : Tab) (g : Int) (l : List Spt) : (passL T g l).length ≤ l.length := by
  unfold passL
  rw [List.length_map]
  exact List.length_filter_le _ _
theorem pass_any (T : Tab) (h : Hd) (g : Int) (w : World) (ht : IsTab w h T) (sm : Few T) :
    Calls Tryd.prog 56 #[.agg (T.cells h).toArray, .int .i64 g] w fun e w' => e = .returned (.int .i64 (passS T g)) ∧ Below w.heap.size w w' := by
  have C := Lib.hid (cells_ok ht)
  have hsz := C.out.size
  have IA : Hid ((Tryd.prog.info? 31).map (·.size) = some (T.cells h).length) := Lib.hid (by rw [List.size_toArray] at hsz; rw [hsz]; exact infoT)
  have SPC : Hid (∀ W, Below w.heap.size w W → Calls Tryd.prog 54 #[.agg (T.cells h).toArray] W fun e w' => ∃ s : Sl, e = .returned (s.val (spots T).length) ∧ RowOf 4 Spt.cells w' s (spots T) ∧ Typed w' s ∧ Below W.heap.size W w') := Lib.hid (fun W hb => Spots.spots_typed T h W (ht.below hb) sm)
  have SVC : Hid (∀ p W, Below w.heap.size w W → Calls Tryd.prog 62 #[.agg (T.cells h).toArray, .int .i64 p] W fun e w' => e = .returned (.int .i64 (serveS T p)) ∧ Below W.heap.size W w') := Lib.hid (fun p W hb => serve_any T h p W (ht.below hb))
  have SL : Hid ((spots T).length ≤ 2000000) := Lib.hid (small_len sm.groups sm.rows)
  have S0 := Lib.hid (St.box (cs := (T.cells h).toArray) ht)
  have HZ : Hid ((w.alloc (.cells (T.cells h).toArray 31)).heap.size = w.heap.size + 1) := Lib.hid (by simp)
  have RS : Hid (passS T g = if 0 ≤ g ∧ g < T.groups.length then sums (8 :: passL T g (spots T)) else 0) := Lib.hid rfl
  generalize passS T g = res at RS ⊢
  obtain ⟨i0, hi, hz0, hz1, hz2⟩ := info_parts info3
  have PS : Hid (∀ j x, (spots T)[j]? = some x → passL T g ((spots T).take (j + 1)) = passL T g ((spots T).take j) ++ (if (x.g : Int) = g then [serveS T x.p] else [])) := Lib.hid (fun j x hx => pass_step hx)
  have PL : Hid (∀ l, (passL T g l).length ≤ l.length) := Lib.hid (pass_len T g)
  generalize spots T = S at RS SPC SL PS
  generalize passL T g = pl at RS PS PL
  clear ht sm
  go_enter Tryd.func56, Tryd.ntmps56
  go_upto_region 1 with fail
  generalize w.alloc (.cells (T.cells h).toArray 31) = w1 at S0 HZ ⊢
  have q104 := S0.out.cell C.out.g
  generalize hc : T.cells h = c at *
  clear hsz hc
  generalize T.groups.length = n at *
  obtain ⟨⟨ga, gcap⟩, sd, sr, sb⟩ := h
  have q104' : w1.cell? ⟨w.heap.size, 104, none⟩ = some (.slice ga n gcap) := q104
  clear q104
  by_cases hg0 : g < 0
  · have HF : Hid (0 = res) := Lib.hid (by rw [RS.out, if_neg (by omega)])
    go_wp2
    go_ret
    exact ⟨RefC.ret_int HF.out, S0.out.bel⟩
  by_cases hg1 : (n : Int) ≤ g
  · have HF : Hid (0 = res) := Lib.hid (by rw [RS.out, if_neg (by omega)])
    go_wp2
    go_ret
    exact ⟨RefC.ret_int HF.out, S0.out.bel⟩
  have HR0 : Hid (sums (8 :: pl S) = res) := Lib.hid (by rw [RS.out, if_pos (by omega)])
  clear RS
  go_upto_region 4 with fail
  have hb1 : Below w1.heap.size w1 (w1.alloc (.cells #[.int .i64 8] 3)) := (Below.refl _ _).alloc (Nat.le_refl _) _
  have ho1 : OwnsI w1.heap.size (w1.alloc (.cells #[.int .i64 8] 3)) (.slice (some ⟨w1.heap.size, 0, none⟩) 1 1) [8] := own_one w1 8
  have O1 := Lib.hid ho1
  have B1 := Lib.hid hb1
  clear ho1 hb1 q104' hg0 hg1
  generalize w1.alloc (.cells #[.int .i64 8] 3) = w2 at O1 B1 ⊢
  have S2 := Lib.hid (S0.out.step B1.out)
  have LT2 : Hid (Lies w2 ⟨w.heap.size, 0, none⟩ c) := Lib.hid (by have := Row.lies_of_block S2.out.blk; simpa using this)
  go_wp2_with (refine Row.wpList_load_g 31 _ rfl (by first | rfl | go_simp) ⟨w.heap.size, 0, none⟩ rfl c _ LT2.out Tryd.underlying31 rfl IA.out ?_)
  refine (SPC.out _ S2.out.bel).mono ?_
  rintro e u1 ⟨⟨sa, scap⟩, rfl, hrow, hty, hb⟩
  rw [show (Sl.val ⟨sa, scap⟩ S.length) = .slice sa S.length scap from rfl]
  have HB1 : Hid (Below w1.heap.size w1 u1) := Lib.hid (B1.out.trans (hb.mono B1.out.size))
  have HR1 := Lib.hid hrow
  have HT1 := Lib.hid hty
  have O2 := Lib.hid (O1.out.below hb)
  have K := hrow.len
  unfold maxLen at K
  clear hrow hty hb B1 O1 S2 LT2 SPC
  go_wp2_with fail
  go_loopw [5, 21] (fun v i wr => ∃ j : Nat, j ≤ S.length ∧ i = .int .i64 j ∧ OwnsI w1.heap.size wr v (8 :: pl (S.take j)) ∧ RowOf 4 Spt.cells wr ⟨sa, scap⟩ S ∧ Typed wr ⟨sa, scap⟩ ∧ Below w1.heap.size w1 wr) (fun _ i _ => S.length - (intOf i).toNat)
  case atStart =>
    refine ⟨0, by omega, rfl, ?_, HR1.out, HT1.out, HB1.out⟩
    have h0 : pl [] = [] := List.eq_nil_of_length_eq_zero (by simpa using PL.out [])
    rw [List.take_zero, h0]
    exact O2.out
  case round =>
    obtain ⟨j, hj, rfl, hown, hrow, hty, hbel⟩ := hrel
    have HO := Lib.hid hown
    have HB := Lib.hid hbel
    have HR := Lib.hid hrow
    have HT := Lib.hid hty
    clear hown hbel hrow hty
    by_cases hlt : j < S.length
    · have hv := List.getElem?_eq_getElem hlt
      generalize S[j] = x at hv
      obtain ⟨y, hy, hc⟩ := HR.out.at hv
      obtain rfl : sa = some y := hy
      have HS := Lib.hid (PS.out j x hv)
      have HC := Lib.hid hc
      have hlen : (8 :: pl (S.take j)).length ≤ 2000001 := by have := PL.out (S.take j); rw [List.length_take] at this; have := SL.out; rw [List.length_cons]; omega
      clear hv hc
      have hwr := HB.out.size
      go_upto_region 7 with (first | (refine Row.wpList_load_g 88 _ rfl (by first | rfl | go_simp) (y.add (j * 4)) rfl x.cells _ HC.out Tryd.underlying88 rfl infoS ?_) | (refine Row.wpList_store_new rfl 88 _ _ rfl wr _ x.cells.toArray rfl rfl rfl infoS rfl (Spt.one _) ?_))
      have hbn : Below w1.heap.size w1 (wr.alloc (.cells x.cells.toArray 88)) := HB.out.alloc hwr _
      have hbo : Below wr.heap.size wr (wr.alloc (.cells x.cells.toArray 88)) := (Below.refl _ _).alloc (Nat.le_refl _) _
      have hg := Row.lies_of_block (heap_alloc_new wr (.cells x.cells.toArray 88))
      have HL := Lib.hid hg
      have HB2 := Lib.hid hbn
      have HO2 := Lib.hid (HO.out.below hbo)
      have HR2 := Lib.hid (HR.out.below hbo)
      have HT2 := Lib.hid (HT.out.below hbo)
      clear hg hbn hbo HC HB HO HR HT
      generalize wr.alloc (.cells x.cells.toArray 88) = w4 at HL HB2 HO2 HR2 HT2 ⊢
      generalize wr.heap.size = b4 at HL ⊢
      have c0 : w4.cell? ⟨b4, 0, none⟩ = some (I x.g) := by have := HL.out 0 _ rfl; rwa [Tab.add_zero] at this
      have c3 : w4.cell? ⟨b4, 3, none⟩ = some (I x.p) := by have := HL.out 3 _ rfl; rwa [Addr.add_mid] at this
      have S4 := Lib.hid (S0.out.step HB2.out)
      clear HL
      generalize hP1 : 8 :: pl (S.take j) = P1 at HO2 hlen
      have HP1 := Lib.hid hP1
      clear hP1
      by_cases e0 : (x.g : Int) = g
      · have b0 : ((x.g : Int) == g) = true := by simpa using e0
        have HS2 : Hid (8 :: pl (S.take (j + 1)) = P1 ++ [serveS T x.p]) := Lib.hid (by rw [HS.out, if_pos e0, ← HP1.out]; rfl)
        have LT4 : Hid (Lies w4 ⟨w.heap.size, 0, none⟩ c) := Lib.hid (by have := Row.lies_of_block S4.out.blk; simpa using this)
        clear e0
        go_wp2_with (refine Row.wpList_load_g 31 _ rfl (by first | rfl | go_simp) ⟨w.heap.size, 0, none⟩ rfl c _ LT4.out Tryd.underlying31 rfl IA.out ?_)
        refine (SVC.out x.p _ S4.out.bel).mono ?_
        rintro e w5 ⟨rfl, hb⟩
        have HB5 := Lib.hid (HB2.out.trans (hb.mono HB2.out.size))
        have HO5 := Lib.hid (HO2.out.below hb)
        have HR5 := Lib.hid (HR2.out.below hb)
        have HT5 := Lib.hid (HT2.out.below hb)
        have hown2 : w5.ownsRow w1.heap.size 3 1 u5 P1.length (P1.flatMap (fun n => [I n])) := HO5.out
        have hsz5 := HB5.out.size
        clear hb HB2 HO2 HR2 HT2 S4 LT4 c0 c3
        generalize serveS T x.p = p at HS2 ⊢
        go_wp2_with (at_builtin; refine wpList_append_own _ rfl _ _ 47 rfl w1.heap.size 3 i0 (.int .i64 0) 1 8 Tryd.underlying47 hi hz0 hz1 hz2 rfl (by decide) _ _ _ rfl (hown2.alloc _) ⟨w5.heap.size, 0, none⟩ 1 1 [.int .i64 p] rfl rfl ?c1 ?c2 ?c3 ?c4 ?c5 ?_)
        case c1 =>
          intro m q hm
          match m, hm with
          | 0, hm => simp at hm; subst hm; simp [Addr.add]
        case c2 => intro q hq; simp at hq; subst hq; rfl
        case c3 => unfold maxLen; omega
        case c4 => omega
        case c5 => simp; omega
        intro v' w6 hown' hgrow hnil'
        have hbo5 : Below w5.heap.size w5 (w5.alloc (.cells #[.int .i64 p] 3)) := (Below.refl _ _).alloc (Nat.le_refl _) _
        have hne := typed_ne (HT5.out.below hbo5) (show OwnsI w1.heap.size (w5.alloc (.cells #[.int .i64 p] 3)) u5 P1 from Owns.below HO5.out hbo5)
        have HB6 : Hid (Below w1.heap.size w1 w6) := Lib.hid ((HB5.out.alloc hsz5 _).grown hgrow (by simp; omega) fun m hm => (show OwnsI w1.heap.size w5 u5 P1 from hown2).blk m hm)
        have HO6 : Hid (OwnsI w1.heap.size w6 v' (P1 ++ [p])) := Lib.hid (Owns.snoc hown')
        have HR6 := Lib.hid (row_grown (HR5.out.below hbo5) hgrow hne)
        have HT6 := Lib.hid (typed_grown (HT5.out.below hbo5) hgrow hne)
        clear hown' hgrow hown2 hnil' hbo5 hne
        go_wp2
        go_roundw
        case rel => exact ⟨j + 1, by omega, by go_num, by rw [HS2.out]; exact HO6.out, HR6.out, HT6.out, HB6.out⟩
        case measure => simp [intOf]; omega
      · have b0 : ((x.g : Int) == g) = false := by simpa using e0
        have HS2 : Hid (8 :: pl (S.take (j + 1)) = P1) := Lib.hid (by rw [HS.out, if_neg e0, List.append_nil, HP1.out])
        clear e0
        go_wp2
        go_roundw
        case rel => exact ⟨j + 1, by omega, by go_num, by rw [HS2.out]; exact HO2.out, HR2.out, HT2.out, HB2.out⟩
        case measure => simp [intOf]; omega
    · have HE : Hid (8 :: pl (S.take j) = 8 :: pl S) := Lib.hid (by rw [List.take_of_length_le (by omega)])
      obtain ⟨⟨sa', sc⟩, hs, hrow⟩ := HO.out.row (enc := fun n => [I n]) (fun _ => rfl)
      rw [HE.out] at hs hrow
      have HR2 := Lib.hid hrow
      have HF : Hid (Below w.heap.size w wr) := Lib.hid (S0.out.bel.trans (HB.out.mono S0.out.bel.size))
      clear hrow HE
      subst hs
      generalize hL : 8 :: pl S = P2 at HR0 HR2 ⊢
      clear hL
      show Code.wp _ _ _ _ _
      rw [show (Sl.val ⟨sa', sc⟩ P2.length) = .slice sa' P2.length sc from rfl]
      go_wp2_with fail
      refine (sum_row sa' sc P2 _ HR2.out).mono ?_
      rintro e w' ⟨rfl, rfl⟩
      rw [HR0.out]
      go_wp2
      go_ret
      exact ⟨rfl, HF.out⟩
end PassS
namespace FreeS
open Go.ChangeShapes Go.WideShapes Go.ChangeAt Go.RowKit
open Tab PlaceM Gath OnS RefC PassS
open RefS (info3 rhas_any)
open May (St infoT)
def upL (T : Tab) (n : Nat) : List Int := (List.range n).map fun i => passS T (i : Nat)
def freeR (T : Tab) (x : Spt) : Int := sums (passS T x.g :: upL T T.groups.length)
def freeS (T : Tab) (p : Int) : Int := match where_ T p with
  | some x => if SetM.has (onS T : Nat) p then freeR T x else 0
  | none => 0
theorem up_succ (T : Tab) (n : Nat) : upL T (n + 1) = upL T n ++ [passS T n] := by
  unfold upL
  rw [List.range_succ, List.map_append]; rfl
theorem up_len (T : Tab) (n : Nat) : (upL T n).length = n := by unfold upL; simp
theorem free_raw (T : Tab) (h : Hd) (p : Int) (g1 k1 i1 p1 : Int) (ok : Bool) (os : Int) (w : World) (ht : IsTab w h T) (sm : Few T)
    (WC : Hid (∀ W, Below w.heap.size w W → Calls Tryd.prog 44 #[.agg (T.cells h).toArray, .int .i64 p] W fun e w' => e = .returned (.tuple #[.agg #[I g1, I k1, I i1, I p1], .bool ok]) ∧ Below W.heap.size W w'))
    (ON : Hid (∀ W, Below w.heap.size w W → Calls Tryd.prog 55 #[.agg (T.cells h).toArray] W fun e w' => e = .returned (.int .i64 os) ∧ Below W.heap.size W w')) :
    Calls Tryd.prog 48 #[.agg (T.cells h).toArray, .int .i64 p] w fun e w' => e = .returned (.int .i64 (if ok = true ∧ SetM.has os p = true then sums (passS T g1 :: upL T T.groups.length) else 0)) ∧ Below w.heap.size w w' := by
  have C := Lib.hid (cells_ok ht)
  have hsz := C.out.size
  have IA : Hid ((Tryd.prog.info? 31).map (·.size) = some (T.cells h).length) := Lib.hid (by rw [List.size_toArray] at hsz; rw [hsz]; exact infoT)
  have PC : Hid (∀ g W, Below w.heap.size w W → Calls Tryd.prog 56 #[.agg (T.cells h).toArray, .int .i64 g] W fun e w' => e = .returned (.int .i64 (passS T g)) ∧ Below W.heap.size W w') := Lib.hid (fun g W hb => pass_any T h g W (ht.below hb) sm)
  have KG := sm.groups
  have S0 := Lib.hid (St.box (cs := (T.cells h).toArray) ht)
  obtain ⟨i0, hi, hz0, hz1, hz2⟩ := info_parts info3
  generalize hres : (if ok = true ∧ SetM.has os p = true then sums (passS T g1 :: upL T T.groups.length) else 0) = res
  have RS := Lib.hid hres
  clear hres ht sm
  go_enter Tryd.func48, Tryd.ntmps48
  go_upto_region 1 with fail
  generalize w.alloc (.cells (T.cells h).toArray 31) = w1 at S0 ⊢
  have q104 := C.out.g
  generalize hc : T.cells h = c at *
  clear hsz hc
  generalize hn : T.groups.length = n at *
  have HN := Lib.hid hn
  clear hn
  obtain ⟨⟨ga, gcap⟩, sd, sr, sb⟩ := h
  have Q104 : Hid (∀ W, Below w1.heap.size w1 W → W.cell? ⟨w.heap.size, 104, none⟩ = some (.slice ga n gcap)) := Lib.hid (fun W hb => (S0.out.step hb).cell q104)
  have LT : Hid (∀ W, Below w1.heap.size w1 W → Lies W ⟨w.heap.size, 0, none⟩ c) := Lib.hid (fun W hb => by have := Row.lies_of_block (S0.out.step hb).blk; simpa using this)
  have BB : Hid (∀ W, Below w1.heap.size w1 W → Below w.heap.size w W) := Lib.hid (fun W hb => S0.out.bel.trans (hb.mono S0.out.bel.size))
  clear q104
  go_wp2_with (refine Row.wpList_load_g 31 _ rfl (by first | rfl | go_simp) ⟨w.heap.size, 0, none⟩ rfl c _ (LT.out _ (Below.refl _ _)) Tryd.underlying31 rfl IA.out ?_)
  refine (WC.out _ (BB.out _ (Below.refl _ _))).mono ?_
  rintro e u1 ⟨rfl, hb⟩
  have B1 := Lib.hid hb
  clear hb WC
  go_upto_region 2 with (refine Row.wpList_store_new rfl 88 _ _ rfl u1 #[I 0, I 0, I 0, I 0] #[I g1, I k1, I i1, I p1] rfl rfl rfl infoS rfl (by simp [Value.oneCell']) ?_)
  have hb2 : Below u1.heap.size u1 (u1.alloc (.cells #[I g1, I k1, I i1, I p1] 88)) := (Below.refl _ _).alloc (Nat.le_refl _) _
  have hg := heap_alloc_new u1 (.cells #[I g1, I k1, I i1, I p1] 88)
  have B2 := Lib.hid (B1.out.trans (hb2.mono B1.out.size))
  have HG := Lib.hid hg
  clear hb2 hg B1
  generalize u1.alloc (.cells #[I g1, I k1, I i1, I p1] 88) = u2 at B2 HG ⊢
  generalize u1.heap.size = b4 at HG ⊢
  cases ok with
  | false =>
    have HF : Hid (0 = res) := Lib.hid (by rw [← RS.out]; simp)
    have HB := Lib.hid (BB.out _ B2.out)
    go_wp2
    go_ret
    exact ⟨RefC.ret_int HF.out, HB.out⟩
  | true =>
  go_wp2_with (refine Row.wpList_load_g 31 _ rfl (by first | rfl | go_simp) ⟨w.heap.size, 0, none⟩ rfl c _ (LT.out _ B2.out) Tryd.underlying31 rfl IA.out ?_)
  refine (ON.out _ (BB.out _ B2.out)).mono ?_
  rintro e u3 ⟨rfl, hb⟩
  have B3 := Lib.hid (B2.out.trans (hb.mono B2.out.size))
  have HG3 : Hid (u3.heap[b4]? = _) := Lib.hid ((hb.block _ (Array.getElem?_eq_some_iff.1 HG.out).1).trans HG.out)
  clear hb B2 HG ON
  go_wp2_with fail
  refine (rhas_any os p _).mono ?_
  rintro e w' ⟨rfl, rfl⟩
  by_cases hh : SetM.has os p = true
  rotate_left
  · have h2 : SetM.has os p = false := by simpa using hh
    have HF : Hid (0 = res) := Lib.hid (by rw [← RS.out, h2]; simp)
    have HB := Lib.hid (BB.out _ B3.out)
    rw [h2]
    clear hh h2
    go_wp2
    go_ret
    exact ⟨RefC.ret_int HF.out, HB.out⟩
  have HR0 : Hid (sums (passS T g1 :: upL T n) = res) := Lib.hid (by rw [← RS.out, hh]; simp)
  rw [hh]
  clear hh RS
  have c0 : u3.cell? ⟨b4, 0, none⟩ = some (I g1) := by rw [cell_of_row _ _ _ _ _ _ HG3.out]; rfl
  go_wp2_with (refine Row.wpList_load_g 31 _ rfl (by first | rfl | go_simp) ⟨w.heap.size, 0, none⟩ rfl c _ (LT.out _ B3.out) Tryd.underlying31 rfl IA.out ?_)
  refine (PC.out g1 _ (BB.out _ B3.out)).mono ?_
  rintro e u4 ⟨rfl, hb⟩
  have B4 := Lib.hid (B3.out.trans (hb.mono B3.out.size))
  clear hb B3 HG3 c0
  generalize hp1 : passS T g1 = x1 at HR0 ⊢
  clear hp1
  go_wp2_with fail
  have hb5 : Below u4.heap.size u4 (u4.alloc (.cells #[.int .i64 x1] 3)) := (Below.refl _ _).alloc (Nat.le_refl _) _
  have ho := Owns.mono (own_one u4 x1) B4.out.size
  have O5 : Hid (OwnsI w1.heap.size (u4.alloc (.cells #[.int .i64 x1] 3)) (.slice (some ⟨u4.heap.size, 0, none⟩) 1 1) [x1]) := Lib.hid ho
  have B5 := Lib.hid (B4.out.trans (hb5.mono B4.out.size))
  clear hb5 ho B4
  generalize u4.alloc (.cells #[.int .i64 x1] 3) = u5 at O5 B5 ⊢
  generalize u4.heap.size = b5 at O5 ⊢
  have US : Hid (∀ q, upL T (q + 1) = upL T q ++ [passS T q]) := Lib.hid (up_succ T)
  have UL : Hid (∀ q, (upL T q).length = q) := Lib.hid (up_len T)
  have U0 : Hid (upL T 0 = []) := Lib.hid rfl
  generalize upL T = ul at HR0 US UL U0
  go_loopw [7, 8] (fun v i wr => ∃ q : Nat, q ≤ n ∧ i = .int .i64 q ∧ OwnsI w1.heap.size wr v (x1 :: ul q) ∧ Below w1.heap.size w1 wr) (fun _ i _ => n - (intOf i).toNat)
  case atStart => exact ⟨0, by omega, rfl, by rw [U0.out]; exact O5.out, B5.out⟩
  case round =>
    obtain ⟨q, hq, rfl, hown, hbel⟩ := hrel
    have HO := Lib.hid hown
    have HB := Lib.hid hbel
    clear hown hbel
    have q104 := Q104.out _ HB.out
    by_cases hlt : q < n
    · have hlen : (x1 :: ul q).length ≤ 1001 := by rw [List.length_cons, UL.out]; omega
      have HS := Lib.hid (US.out q)
      generalize hP1 : x1 :: ul q = P1 at HO hlen
      have HP1 := Lib.hid hP1
      clear hP1
      go_wp2_with (refine Row.wpList_load_g 31 _ rfl (by first | rfl | go_simp) ⟨w.heap.size, 0, none⟩ rfl c _ (LT.out _ HB.out) Tryd.underlying31 rfl IA.out ?_)
      refine (PC.out q _ (BB.out _ HB.out)).mono ?_
      rintro e w5 ⟨rfl, hb⟩
      have HB5 := Lib.hid (HB.out.trans (hb.mono HB.out.size))
      have HO5 := Lib.hid (HO.out.below hb)
      have HS2 : Hid (x1 :: ul (q + 1) = P1 ++ [passS T q]) := Lib.hid (by rw [HS.out, ← HP1.out]; rfl)
      have hown2 : w5.ownsRow w1.heap.size 3 1 u7 P1.length (P1.flatMap (fun n => [I n])) := HO5.out
      have hsz5 := HB5.out.size
      clear hb HB HO q104
      generalize passS T q = x2 at HS2 ⊢
      go_wp2_with (at_builtin; refine wpList_append_own _ rfl _ _ 47 rfl w1.heap.size 3 i0 (.int .i64 0) 1 8 Tryd.underlying47 hi hz0 hz1 hz2 rfl (by decide) _ _ _ rfl (hown2.alloc _) ⟨w5.heap.size, 0, none⟩ 1 1 [.int .i64 x2] rfl rfl ?c1 ?c2 ?c3 ?c4 ?c5 ?_)
      case c1 =>
        intro m q hm
        match m, hm with
        | 0, hm => simp at hm; subst hm; simp [Addr.add]
      case c2 => intro q hq; simp at hq; subst hq; rfl
      case c3 => unfold maxLen; omega
      case c4 => omega
      case c5 => simp; omega
      intro v' w6 hown' hgrow hnil'
      have HB6 : Hid (Below w1.heap.size w1 w6) := Lib.hid ((HB5.out.alloc hsz5 _).grown hgrow (by simp; omega) fun m hm => (show OwnsI w1.heap.size w5 u7 P1 from hown2).blk m hm)
      have HO6 : Hid (OwnsI w1.heap.size w6 v' (P1 ++ [x2])) := Lib.hid (Owns.snoc hown')
      clear hown' hgrow hown2 hnil'
      go_wp2
      go_roundw
      case rel => exact ⟨q + 1, by omega, by go_num, by rw [HS2.out]; exact HO6.out, HB6.out⟩
      case measure => simp [intOf]; omega
    · have HE : Hid (q = n) := Lib.hid (by omega)
      obtain ⟨⟨sa', sc⟩, hs, hrow⟩ := HO.out.row (enc := fun n => [I n]) (fun _ => rfl)
      rw [HE.out] at hs hrow
      have HR2 := Lib.hid hrow
      have HF := Lib.hid (BB.out _ HB.out)
      clear hrow HE
      subst hs
      generalize hL : x1 :: ul n = P2 at HR0 HR2 ⊢
      clear hL
      show Code.wp _ _ _ _ _
      rw [show (Sl.val ⟨sa', sc⟩ P2.length) = .slice sa' P2.length sc from rfl]
      go_wp2_with fail
      refine (sum_row sa' sc P2 _ HR2.out).mono ?_
      rintro e w' ⟨rfl, rfl⟩
      rw [HR0.out]
      go_wp2
      go_ret
      exact ⟨rfl, HF.out⟩
theorem free_any (T : Tab) (h : Hd) (p : Int) (w : World) (ht : IsTab w h T) (sm : Few T) :
    Calls Tryd.prog 48 #[.agg (T.cells h).toArray, .int .i64 p] w fun e w' => e = .returned (.int .i64 (freeS T p)) ∧ Below w.heap.size w w' := by
  have h2 := fun W (hb : Below w.heap.size w W) => Where.where_any T h p W (ht.below hb) sm
  have ho := fun W (hb : Below w.heap.size w W) => on_any T h W (ht.below hb)
  have hf : freeS T p = match where_ T p with
    | some x => if SetM.has (onS T : Nat) p then freeR T x else 0
    | none => 0 := rfl
  rw [hf]
  cases hw : where_ T p with
  | none =>
    rw [hw] at h2
    have := free_raw T h p 0 0 0 0 false (onS T : Nat) w ht sm (Lib.hid h2) (Lib.hid ho)
    simpa using this
  | some x =>
    rw [hw] at h2
    have := free_raw T h p x.g x.k x.i x.p true (onS T : Nat) w ht sm (Lib.hid h2) (Lib.hid ho)
    simpa [freeR] using this
end FreeS
namespace WaitS
open Go.ChangeShapes Go.WideShapes Go.ChangeAt Go.RowKit
open Tab Gath OnS RefC FreeS OverS
open May (St infoT row_new)
def waitR (T : Tab) (f : Int) : Int := sums [mul (sums [T.share, 1]) (sums [overS T, f, 2]), T.share]
def waitS (T : Tab) (p : Int) : Int := if freeS T p = 0 ∨ T.rails.length = 0 then freeS T p else waitR T (freeS T p)
theorem wait_any (T : Tab) (h : Hd) (p : Int) (w : World) (ht : IsTab w h T) (sm : PlaceM.Few T) (few : T.rails.length ≤ 1000) :
    Calls Tryd.prog 36 #[.agg (T.cells h).toArray, .int .i64 p] w fun e w' => e = .returned (.int .i64 (waitS T p)) ∧ Below w.heap.size w w' := by
  have C := Lib.hid (cells_ok ht)
  have hsz := C.out.size
  have IA : Hid ((Tryd.prog.info? 31).map (·.size) = some (T.cells h).length) := Lib.hid (by rw [List.size_toArray] at hsz; rw [hsz]; exact infoT)
  have FC : Hid (∀ W, Below w.heap.size w W → Calls Tryd.prog 48 #[.agg (T.cells h).toArray, .int .i64 p] W fun e w' => e = .returned (.int .i64 (freeS T p)) ∧ Below W.heap.size W w') := Lib.hid (fun W hb => free_any T h p W (ht.below hb) sm)
  have OC : Hid (∀ W, Below w.heap.size w W → Calls Tryd.prog 51 #[.agg (T.cells h).toArray] W fun e w' => e = .returned (.int .i64 (overS T)) ∧ Below W.heap.size W w') := Lib.hid (fun W hb => over_any T h W (ht.below hb) few)
  have S0 := Lib.hid (St.box (cs := (T.cells h).toArray) ht)
  have RS : Hid (waitS T p = if freeS T p = 0 ∨ T.rails.length = 0 then freeS T p else sums [mul (sums [T.share, 1]) (sums [overS T, freeS T p, 2]), T.share]) := Lib.hid rfl
  generalize waitS T p = res at RS ⊢
  generalize freeS T p = f at RS FC
  clear ht sm
  go_enter Tryd.func36, Tryd.ntmps36
  go_upto_region 1 with fail
  generalize w.alloc (.cells (T.cells h).toArray 31) = w1 at S0 ⊢
  have q114 := C.out.r
  have q130 := C.out.share
  generalize hc : T.cells h = c at *
  clear hsz hc
  generalize T.rails.length = n at *
  obtain ⟨sg, sd, ⟨ra, rcap⟩, sb⟩ := h
  have Q114 : Hid (∀ W, Below w1.heap.size w1 W → W.cell? ⟨w.heap.size, 114, none⟩ = some (.slice ra n rcap)) := Lib.hid (fun W hb => (S0.out.step hb).cell q114)
  have Q130 : Hid (∀ W, Below w1.heap.size w1 W → W.cell? ⟨w.heap.size, 130, none⟩ = some (I T.share)) := Lib.hid (fun W hb => (S0.out.step hb).cell q130)
  have LT : Hid (∀ W, Below w1.heap.size w1 W → Lies W ⟨w.heap.size, 0, none⟩ c) := Lib.hid (fun W hb => by have := Row.lies_of_block (S0.out.step hb).blk; simpa using this)
  have BB : Hid (∀ W, Below w1.heap.size w1 W → Below w.heap.size w W) := Lib.hid (fun W hb => S0.out.bel.trans (hb.mono S0.out.bel.size))
  clear q114 q130
  go_wp2_with (refine Row.wpList_load_g 31 _ rfl (by first | rfl | go_simp) ⟨w.heap.size, 0, none⟩ rfl c _ (LT.out _ (Below.refl _ _)) Tryd.underlying31 rfl IA.out ?_)
  refine (FC.out _ (BB.out _ (Below.refl _ _))).mono ?_
  rintro e wr ⟨rfl, hb⟩
  have B2 := Lib.hid hb
  clear hb FC
  have q114 := Q114.out _ B2.out
  generalize T.share = sh at Q130 RS
  by_cases hf0 : f = 0
  · have HF : Hid (0 = res) := Lib.hid (by rw [RS.out, if_pos (.inl hf0), hf0])
    have HB := Lib.hid (BB.out _ B2.out)
    subst hf0
    go_wp2
    go_ret
    exact ⟨RefC.ret_int HF.out, HB.out⟩
  have hfb : (f == 0) = false := by simpa using hf0
  by_cases hn0 : n = 0
  · have HF : Hid (f = res) := Lib.hid (by rw [RS.out, if_pos (.inr hn0)])
    have HB := Lib.hid (BB.out _ B2.out)
    subst hn0
    clear hf0
    go_wp2
    go_ret
    exact ⟨RefC.ret_int HF.out, HB.out⟩
  have hnb : ((n : Int) == 0) = false := by rw [beq_eq_false_iff_ne]; omega
  have HR0 : Hid (sums [mul (sums [sh, 1]) (sums [overS T, f, 2]), sh] = res) := Lib.hid (by rw [RS.out, if_neg (fun e => e.elim hf0 hn0)])
  clear hf0 hn0 RS
  have CQ : Hid (∀ w', Below wr.heap.size wr w' → w'.cell? ⟨w.heap.size, 130, none⟩ = some (I sh)) := Lib.hid (fun w' hb => Q130.out _ (B2.out.trans (hb.mono B2.out.size)))
  have LS : Hid (∀ w', Below wr.heap.size wr w' → Lies w' ⟨w.heap.size, 0, none⟩ c) := Lib.hid (fun w' hb => LT.out _ (B2.out.trans (hb.mono B2.out.size)))
  have SB : Hid (∀ w', Below wr.heap.size wr w' → Below w.heap.size w w') := Lib.hid (fun w' hb => BB.out _ (B2.out.trans (hb.mono B2.out.size)))
  go_upto_region 4 with fail
  clear q114 hfb hnb
  refine wp_region_held (S := fun w' => Below wr.heap.size wr w') (by kernel_rfl) ?_
  have hS : Below wr.heap.size wr { wr with drawn := wr.drawn + 1 } := (Below.refl _ _).drew
  have hv : wr.heap.size ≤ ({ wr with drawn := wr.drawn + 1 } : World).heap.size := Nat.le_refl _
  generalize ({ wr with drawn := wr.drawn + 1 } : World) = v at hS hv ⊢
  refine Held.take (i := 0) (some 18) rfl (v := ?_) rfl (by kernel_rfl) (by kernel_rfl) (by kernel_rfl) (fun _ _ _ h => h) (Or.inl ⟨by rfl, ?_⟩) hS ?_
  rotate_left
  · intro w' hw'
    have e1 := CQ.out w' hw'
    go_simp
    try with_reducible rfl
  (try dsimp only [Act.put]); (try simp only [List.setIfInBounds_toArray, List.set_cons_zero, List.set_cons_succ])
  refine Held.take (i := 1) (some 19) rfl (v := ?_) rfl (by kernel_rfl) (by kernel_rfl) (by kernel_rfl) (fun _ _ _ h => h) (Or.inl ⟨by rfl, ?_⟩) hS ?_
  rotate_left
  · intro w' hw'
    have e1 := CQ.out w' hw'
    go_simp
    try with_reducible rfl
  (try dsimp only [Act.put]); (try simp only [List.setIfInBounds_toArray, List.set_cons_zero, List.set_cons_succ])
  refine Held.take_load (i := 4) (some 22) rfl 31 _ ⟨w.heap.size, 0, none⟩ c _ rfl rfl (by kernel_rfl) (by kernel_rfl) (by kernel_rfl) (fun _ _ _ h => h) (by rfl) hS rfl (fun w' hw' => LS.out w' hw') Tryd.underlying31 rfl IA.out ?_
  (try dsimp only [Act.put]); (try simp only [List.setIfInBounds_toArray, List.set_cons_zero, List.set_cons_succ])
  refine Held.take (i := 6) (some 24) rfl (v := ?_) rfl (by kernel_rfl) (by kernel_rfl) (by kernel_rfl) (fun _ _ _ h => h) (Or.inl ⟨by rfl, ?_⟩) hS ?_
  rotate_left
  · intro w' hw'
    go_simp
    try with_reducible rfl
  (try dsimp only [Act.put]); (try simp only [List.setIfInBounds_toArray, List.set_cons_zero, List.set_cons_succ])
  refine Held.take (i := 10) (some 28) rfl (v := ?_) rfl (by kernel_rfl) (by kernel_rfl) (by kernel_rfl) (fun _ _ _ h => h) (Or.inl ⟨by rfl, ?_⟩) hS ?_
  rotate_left
  · intro w' hw'
    have e1 := CQ.out w' hw'
    go_simp
    try with_reducible rfl
  (try dsimp only [Act.put]); (try simp only [List.setIfInBounds_toArray, List.set_cons_zero, List.set_cons_succ])
  refine Held.take (i := 11) (some 29) rfl (v := ?_) rfl (by kernel_rfl) (by kernel_rfl) (by kernel_rfl) (fun _ _ _ h => h) (Or.inl ⟨by rfl, ?_⟩) hS ?_
  rotate_left
  · intro w' hw'
    have e1 := CQ.out w' hw'
    go_simp
    try with_reducible rfl
  (try dsimp only [Act.put]); (try simp only [List.setIfInBounds_toArray, List.set_cons_zero, List.set_cons_succ])
  refine wpAnyH_ready (rs := [2]) (by kernel_rfl) (by simp) (AllReadyH.cons rfl (fun K hK => ?_) AllReadyH.nil)
  go_simp
  have r1 : Hid (IntRow (v.alloc (.cells #[I sh, I 1] 3)) ⟨some ⟨v.heap.size, 0, none⟩, 2⟩ [sh, 1]) := Lib.hid (May.row_new v 3 [sh, 1] 2 rfl (by decide) _ rfl)
  have hbw : Below v.heap.size v (v.alloc (.cells #[I sh, I 1] 3)) := (Below.refl _ _).alloc (Nat.le_refl _) _
  have hS2 := hS.alloc hv (.cells #[I sh, I 1] 3)
  replace hv := Nat.le_trans hv hbw.size
  clear hbw hS
  generalize hb0 : v.heap.size = b1 at r1 ⊢
  clear hb0
  generalize World.alloc v (.cells #[I sh, I 1] 3) = x2 at r1 hS2 hv ⊢
  refine hK.out _ _ hS2 (fun hS => ?_)
  clear hK K hS2
  refine wpAnyH_ready (rs := [3]) (by kernel_rfl) (by simp) (AllReadyH.cons rfl (fun K hK => ?_) AllReadyH.nil)
  go_simp
  refine (Clear.sum_len (some ⟨b1, 0, none⟩) 2 [sh, 1] 2 rfl x2 r1.out).mono ?_
  rintro e w' ⟨rfl, hq⟩
  subst w'
  clear r1
  generalize sums [sh, 1] = z1 at HR0 ⊢
  go_simp
  refine hK.out _ _ hS (fun hS => ?_)
  clear hK K
  refine wpAnyH_ready (rs := [5]) (by kernel_rfl) (by simp) (AllReadyH.cons rfl (fun K hK => ?_) AllReadyH.nil)
  go_simp
  refine (OC.out x2 (SB.out x2 hS)).mono ?_
  rintro e x3 ⟨rfl, hb⟩
  generalize overS T = ov at HR0 ⊢
  have hS2 := Below.trans hS (hb.mono hv)
  replace hv := Nat.le_trans hv hb.size
  clear hb hS
  go_simp
  refine hK.out _ _ hS2 (fun hS => ?_)
  clear hK K hS2
  refine wpAnyH_ready (rs := [7]) (by kernel_rfl) (by simp) (AllReadyH.cons rfl (fun K hK => ?_) AllReadyH.nil)
  go_simp
  have r2 : Hid (IntRow (x3.alloc (.cells #[I ov, I f, I 2] 3)) ⟨some ⟨x3.heap.size, 0, none⟩, 3⟩ [ov, f, 2]) := Lib.hid (May.row_new x3 3 [ov, f, 2] 3 rfl (by decide) _ rfl)
  have hbw : Below x3.heap.size x3 (x3.alloc (.cells #[I ov, I f, I 2] 3)) := (Below.refl _ _).alloc (Nat.le_refl _) _
  have hS2 := hS.alloc hv (.cells #[I ov, I f, I 2] 3)
  replace hv := Nat.le_trans hv hbw.size
  clear hbw hS
  generalize hb0 : x3.heap.size = b4 at r2 ⊢
  clear hb0
  generalize World.alloc x3 (.cells #[I ov, I f, I 2] 3) = x5 at r2 hS2 hv ⊢
  refine hK.out _ _ hS2 (fun hS => ?_)
  clear hK K hS2
  refine wpAnyH_ready (rs := [8]) (by kernel_rfl) (by simp) (AllReadyH.cons rfl (fun K hK => ?_) AllReadyH.nil)
  go_simp
  refine (Clear.sum_len (some ⟨b4, 0, none⟩) 3 [ov, f, 2] 3 rfl x5 r2.out).mono ?_
  rintro e w' ⟨rfl, hq⟩
  subst w'
  clear r2
  generalize sums [ov, f, 2] = z2 at HR0 ⊢
  go_simp
  refine hK.out _ _ hS (fun hS => ?_)
  clear hK K
  refine wpAnyH_ready (rs := [9]) (by kernel_rfl) (by simp) (AllReadyH.cons rfl (fun K hK => ?_) AllReadyH.nil)
  go_simp
  refine (rmul_any z1 z2 x5).mono ?_
  rintro e w' ⟨rfl, hq⟩
  subst w'
  generalize mul z1 z2 = z3 at HR0 ⊢
  go_simp
  refine hK.out _ _ hS (fun hS => ?_)
  clear hK K
  refine wpAnyH_ready (rs := [12]) (by kernel_rfl) (by simp) (AllReadyH.cons rfl (fun K hK => ?_) AllReadyH.nil)
  go_simp
  have r3 : Hid (IntRow (x5.alloc (.cells #[I z3, I sh] 3)) ⟨some ⟨x5.heap.size, 0, none⟩, 2⟩ [z3, sh]) := Lib.hid (May.row_new x5 3 [z3, sh] 2 rfl (by decide) _ rfl)
  have hbw : Below x5.heap.size x5 (x5.alloc (.cells #[I z3, I sh] 3)) := (Below.refl _ _).alloc (Nat.le_refl _) _
  have hS2 := hS.alloc hv (.cells #[I z3, I sh] 3)
  replace hv := Nat.le_trans hv hbw.size
  clear hbw hS
  generalize hb0 : x5.heap.size = b6 at r3 ⊢
  clear hb0
  generalize World.alloc x5 (.cells #[I z3, I sh] 3) = x7 at r3 hS2 hv ⊢
  refine hK.out _ _ hS2 (fun hS => ?_)
  clear hK K hS2
  refine wpAnyH_ready (rs := [13]) (by kernel_rfl) (by simp) (AllReadyH.cons rfl (fun K hK => ?_) AllReadyH.nil)
  go_simp
  refine (Clear.sum_len (some ⟨b6, 0, none⟩) 2 [z3, sh] 2 rfl x7 r3.out).mono ?_
  rintro e w' ⟨rfl, hq⟩
  subst w'
  rw [HR0.out]
  go_simp
  refine hK.out _ _ hS (fun hS => ?_)
  clear hK K
  refine Held.take (i := 14) (some 4) rfl (v := ?_) rfl (by kernel_rfl) (by kernel_rfl) (by kernel_rfl) (fun _ _ _ h => h) (Or.inl ⟨by rfl, ?_⟩) hS ?_
  rotate_left
  · intro w' hw'
    go_simp
    try with_reducible rfl
  (try dsimp only [Act.put]); (try simp only [List.setIfInBounds_toArray, List.set_cons_zero, List.set_cons_succ])
  refine wpAnyH_done (by kernel_rfl) ?_ _
  have HF := Lib.hid (SB.out _ hS)
  clear hS
  go_wp2
  go_ret
  exact ⟨rfl, HF.out⟩
end WaitS
namespace CodeAt
open Go
def firstR : Code → Option Nat
  | .region i _ _ => some i
  | .seq a b => (firstR a).or (firstR b)
  | .cond _ a b => (firstR a).or (firstR b)
  | .block _ b => firstR b
  | .loop b => firstR b
  | .scope b => firstR b
  | _ => none
def findL (id : Nat) : Code → Option Code
  | .seq a b => (findL id a).or (findL id b)
  | .cond _ a b => (findL id a).or (findL id b)
  | .block _ b => findL id b
  | .loop b => if firstR b = some id then some (.loop b) else findL id b
  | .scope b => findL id b
  | _ => none
/-- The loop of a function that begins with region number id. -/
def lp (id : Nat) (f : Func) : Code := ((f.body.bind (findL id)).getD .skip)
end CodeAt
namespace GenT
open Go Go.RowKit
open Tab Gath GenG Clone PlaceM
open RefS (num num_range)
/-- The first n of eight are made, the others are as they were. -/
def upd {α : Type} (f : Nat → α) (z : α) (n : Nat) : List α := (List.range 8).map fun i => if i < n then f i else z
theorem upd_len {α : Type} (f : Nat → α) (z : α) (n : Nat) : (upd f z n).length = 8 := by simp [upd]
theorem upd_succ {α : Type} (f : Nat → α) (z : α) (n : Nat) : (upd f z n).set n (f n) = upd f z (n + 1) := by
  apply List.ext_getElem?
  intro j
  unfold upd
  rw [List.getElem?_set]
  simp only [List.length_map, List.length_range, List.getElem?_map]
  by_cases hj : j < 8
  · rw [List.getElem?_range hj]
    simp only [Option.map_some]
    by_cases e : n = j
    · subst e; rw [if_pos rfl, if_pos hj, if_pos (by omega)]
    · rw [if_neg e]; congr 1
      by_cases h2 : j < n
      · rw [if_pos h2, if_pos (by omega)]
      · rw [if_neg h2, if_neg (by omega)]
  · have hn : (List.range 8)[j]? = none := by rw [List.getElem?_eq_none]; simp; omega
    rw [hn]
    simp only [Option.map_none]
    by_cases e : n = j
    · rw [if_pos e, if_neg (by omega)]
    · rw [if_neg e]
theorem upd_at {α : Type} (f : Nat → α) (z : α) (n j : Nat) (h : j < 8) : (upd f z n)[j]? = some (if j < n then f j else z) := by
  unfold upd; rw [List.getElem?_map, List.getElem?_range h]; rfl
/-- One pair of phases: do they conflict? -/
def cset (L : List Int) (T : Tab) (p q : Nat) (C : List Int) : List Int :=
  if beside T p q = false ∧ num L (110 + 8 * p + q) 9 ≠ 1 then (C.set p (SetM.withN (C.getD p 0) q : Nat)).set q (SetM.withN ((C.set p (SetM.withN (C.getD p 0) q : Nat)).getD q 0) p : Nat) else C
def crow (L : List Int) (T : Tab) (p : Nat) (C : List Int) : Nat → List Int
  | 0 => C
  | q + 1 => cset L T p q (crow L T p C q)
def call (L : List Int) (T : Tab) (C : List Int) : Nat → List Int
  | 0 => C
  | p + 1 => crow L T p (call L T C p) p
theorem cset_len (L : List Int) (T : Tab) (p q : Nat) (C : List Int) : (cset L T p q C).length = C.length := by unfold cset; split <;> simp
theorem crow_len (L : List Int) (T : Tab) (p : Nat) (C : List Int) : ∀ q, (crow L T p C q).length = C.length
  | 0 => rfl
  | q + 1 => by rw [crow, cset_len, crow_len L T p C q]
theorem call_len (L : List Int) (T : Tab) (C : List Int) : ∀ p, (call L T C p).length = C.length
  | 0 => rfl
  | p + 1 => by rw [call, crow_len, call_len L T C p]
/-- A list that is made from its number k down to 1. -/
def down {α : Type} (f : Nat → α) (k : Nat) : Nat → List α
  | 0 => []
  | j + 1 => down f k j ++ [f (k - j)]
theorem down_len {α : Type} (f : Nat → α) (k : Nat) : ∀ j, (down f k j).length = j
  | 0 => rfl
  | j + 1 => by rw [down, List.length_append, down_len f k j]; rfl
def genBs (L : List Int) (i n : Nat) : Bs := ⟨max 1 (bits .and .i64 (num L (330 + 2 * i) 256) (GenR.maskV n)), 1 + num L (331 + 2 * i) 30⟩
def maxW (T : Tab) : Nat → Int
  | 0 => 0
  | p + 1 => max (maxW T p) (WaitS.waitS T p)
def zTab : Tab := ⟨[zPh, zPh, zPh, zPh, zPh, zPh, zPh, zPh], [], [0, 0, 0, 0, 0, 0, 0, 0], [], [], [], 0, 0, 0, 0, 0, [0, 0, 0, 0, 0, 0, 0, 0], 0, 0⟩
def tab1 (L : List Int) : Tab := { zTab with groups := genGs L }
def tabP (L : List Int) (n : Nat) : Tab := { tab1 L with phases := upd (fun p => GenP.genPh L (10 + 12 * p)) zPh n, flash := upd (fun _ => 1) 0 n }
def tabC (L : List Int) : Tab := { tabP L (genN L) with conflict := call L (tab1 L) [0, 0, 0, 0, 0, 0, 0, 0] (genN L) }
def tabF (L : List Int) : Tab := if num L 174 ((genN L : Int) + 1) < genN L then { tabC L with flash := (tabC L).flash.set (num L 174 ((genN L : Int) + 1)).toNat 2 } else tabC L
def tabD (L : List Int) (j : Nat) : Tab := { tabF L with dets := down (fun i => GenD.genDet L (180 + 8 * i) (genN L)) (num L 175 9).toNat j }
def tabR (L : List Int) (j : Nat) : Tab := { tabD L (num L 175 9).toNat with rails := down (fun i => GenR.genRl (tab1 L) L (260 + 16 * i) (genN L)) (num L 176 4 % 3).toNat j }
def tabB (L : List Int) (j : Nat) : Tab := { tabR L (num L 176 4 % 3).toNat with buses := down (fun i => genBs L i (genN L)) (num L 177 3).toNat j }
def tabS (L : List Int) : Tab := { tabB L (num L 177 3).toNat with extend := num L 178 12, budget := num L 179 40, start := num L 180 8, revert := num L 181 8, least := num L 182 12, share := num L 183 4 }
/-- The table by the numbers L. -/
def genTab (L : List Int) : Tab := if (num L 176 4 % 3).toNat = 0 then tabS L else { tabS L with window := maxW (tabS L) (genN L) }
theorem beside_same {T U : Tab} (h : T.groups = U.groups) (p q : Int) : PlaceM.beside T p q = PlaceM.beside U p q := by
  unfold PlaceM.beside; unfold where_; unfold PlaceM.spots; rw [h]
/-! ### How a table's cells change -/
theorem cells_phase {T : Tab} (hd : Hd) (h8 : T.phases.length = 8) (p : Nat) (hp : p < 8) (x : Ph) : (T.cells hd).take (13 * p) ++ x.cells ++ (T.cells hd).drop (13 * p + 13) = { T with phases := T.phases.set p x }.cells hd := by
  obtain ⟨a0, a1, a2, a3, a4, a5, a6, a7, e⟩ := eight h8
  obtain ⟨phases, groups, conflict, dets, rails, buses, extend, budget, start, revert, least, flash, window, share⟩ := T
  simp only at e
  subst e
  match p, hp with
  | 0, _ | 1, _ | 2, _ | 3, _ | 4, _ | 5, _ | 6, _ | 7, _ => rfl
theorem cells_cut {T : Tab} (hd : Hd) (h8 : T.phases.length = 8) (hc : T.conflict.length = 8) (hf : T.flash.length = 8) : (T.cells hd).length = 131 := by
  obtain ⟨a0, a1, a2, a3, a4, a5, a6, a7, e⟩ := eight h8
  obtain ⟨c0, c1, c2, c3, c4, c5, c6, c7, e2⟩ := eight hc
  obtain ⟨f0, f1, f2, f3, f4, f5, f6, f7, e3⟩ := eight hf
  obtain ⟨phases, groups, conflict, dets, rails, buses, extend, budget, start, revert, least, flash, window, share⟩ := T
  simp only at e e2 e3
  subst e e2 e3
  rfl
theorem cells_conflict {T : Tab} (hd : Hd) (h8 : T.phases.length = 8) (hc : T.conflict.length = 8) (p : Nat) (hp : p < 8) (x : Int) : (T.cells hd).set (105 + p) (I x) = { T with conflict := T.conflict.set p x }.cells hd := by
  obtain ⟨a0, a1, a2, a3, a4, a5, a6, a7, e⟩ := eight h8
  obtain ⟨c0, c1, c2, c3, c4, c5, c6, c7, e2⟩ := eight hc
  obtain ⟨phases, groups, conflict, dets, rails, buses, extend, budget, start, revert, least, flash, window, share⟩ := T
  simp only at e e2
  subst e e2
  match p, hp with
  | 0, _ | 1, _ | 2, _ | 3, _ | 4, _ | 5, _ | 6, _ | 7, _ => rfl
theorem cells_flash {T : Tab} (hd : Hd) (h8 : T.phases.length = 8) (hc : T.conflict.length = 8) (hf : T.flash.length = 8) (p : Nat) (hp : p < 8) (x : Int) : (T.cells hd).set (121 + p) (I x) = { T with flash := T.flash.set p x }.cells hd := by
  obtain ⟨a0, a1, a2, a3, a4, a5, a6, a7, e⟩ := eight h8
  obtain ⟨c0, c1, c2, c3, c4, c5, c6, c7, e2⟩ := eight hc
  obtain ⟨f0, f1, f2, f3, f4, f5, f6, f7, e3⟩ := eight hf
  obtain ⟨phases, groups, conflict, dets, rails, buses, extend, budget, start, revert, least, flash, window, share⟩ := T
  simp only at e e2 e3
  subst e e2 e3
  match p, hp with
  | 0, _ | 1, _ | 2, _ | 3, _ | 4, _ | 5, _ | 6, _ | 7, _ => rfl
theorem cells_extend {T : Tab} (hd : Hd) (h8 : T.phases.length = 8) (hc : T.conflict.length = 8) (x : Int) : (T.cells hd).set 116 (I x) = { T with extend := x }.cells hd := by
  obtain ⟨a0, a1, a2, a3, a4, a5, a6, a7, e⟩ := eight h8
  obtain ⟨c0, c1, c2, c3, c4, c5, c6, c7, e2⟩ := eight hc
  obtain ⟨phases, groups, conflict, dets, rails, buses, extend, budget, start, revert, least, flash, window, share⟩ := T
  simp only at e e2
  subst e e2
  rfl
theorem cells_budget {T : Tab} (hd : Hd) (h8 : T.phases.length = 8) (hc : T.conflict.length = 8) (x : Int) : (T.cells hd).set 117 (I x) = { T with budget := x }.cells hd := by
  obtain ⟨a0, a1, a2, a3, a4, a5, a6, a7, e⟩ := eight h8
  obtain ⟨c0, c1, c2, c3, c4, c5, c6, c7, e2⟩ := eight hc
  obtain ⟨phases, groups, conflict, dets, rails, buses, extend, budget, start, revert, least, flash, window, share⟩ := T
  simp only at e e2
  subst e e2
  rfl
theorem cells_start {T : Tab} (hd : Hd) (h8 : T.phases.length = 8) (hc : T.conflict.length = 8) (x : Int) : (T.cells hd).set 118 (I x) = { T with start := x }.cells hd := by
  obtain ⟨a0, a1, a2, a3, a4, a5, a6, a7, e⟩ := eight h8
  obtain ⟨c0, c1, c2, c3, c4, c5, c6, c7, e2⟩ := eight hc
  obtain ⟨phases, groups, conflict, dets, rails, buses, extend, budget, start, revert, least, flash, window, share⟩ := T
  simp only at e e2
  subst e e2
  rfl
theorem cells_revert {T : Tab} (hd : Hd) (h8 : T.phases.length = 8) (hc : T.conflict.length = 8) (x : Int) : (T.cells hd).set 119 (I x) = { T with revert := x }.cells hd := by
  obtain ⟨a0, a1, a2, a3, a4, a5, a6, a7, e⟩ := eight h8
  obtain ⟨c0, c1, c2, c3, c4, c5, c6, c7, e2⟩ := eight hc
  obtain ⟨phases, groups, conflict, dets, rails, buses, extend, budget, start, revert, least, flash, window, share⟩ := T
  simp only at e e2
  subst e e2
  rfl
theorem cells_least {T : Tab} (hd : Hd) (h8 : T.phases.length = 8) (hc : T.conflict.length = 8) (x : Int) : (T.cells hd).set 120 (I x) = { T with least := x }.cells hd := by
  obtain ⟨a0, a1, a2, a3, a4, a5, a6, a7, e⟩ := eight h8
  obtain ⟨c0, c1, c2, c3, c4, c5, c6, c7, e2⟩ := eight hc
  obtain ⟨phases, groups, conflict, dets, rails, buses, extend, budget, start, revert, least, flash, window, share⟩ := T
  simp only at e e2
  subst e e2
  rfl
theorem cells_window {T : Tab} (hd : Hd) (h8 : T.phases.length = 8) (hc : T.conflict.length = 8) (hf : T.flash.length = 8) (x : Int) : (T.cells hd).set 129 (I x) = { T with window := x }.cells hd := by
  obtain ⟨a0, a1, a2, a3, a4, a5, a6, a7, e⟩ := eight h8
  obtain ⟨c0, c1, c2, c3, c4, c5, c6, c7, e2⟩ := eight hc
  obtain ⟨f0, f1, f2, f3, f4, f5, f6, f7, e3⟩ := eight hf
  obtain ⟨phases, groups, conflict, dets, rails, buses, extend, budget, start, revert, least, flash, window, share⟩ := T
  simp only at e e2 e3
  subst e e2 e3
  rfl
theorem cells_share {T : Tab} (hd : Hd) (h8 : T.phases.length = 8) (hc : T.conflict.length = 8) (hf : T.flash.length = 8) (x : Int) : (T.cells hd).set 130 (I x) = { T with share := x }.cells hd := by
  obtain ⟨a0, a1, a2, a3, a4, a5, a6, a7, e⟩ := eight h8
  obtain ⟨c0, c1, c2, c3, c4, c5, c6, c7, e2⟩ := eight hc
  obtain ⟨f0, f1, f2, f3, f4, f5, f6, f7, e3⟩ := eight hf
  obtain ⟨phases, groups, conflict, dets, rails, buses, extend, budget, start, revert, least, flash, window, share⟩ := T
  simp only at e e2 e3
  subst e e2 e3
  rfl
theorem cells_dets {T : Tab} (hd : Hd) (h8 : T.phases.length = 8) (hc : T.conflict.length = 8) (s : Sl) (l : List Det) : (T.cells hd).set 113 (s.val l.length) = { T with dets := l }.cells ⟨hd.g, s, hd.r, hd.b⟩ := by
  obtain ⟨a0, a1, a2, a3, a4, a5, a6, a7, e⟩ := eight h8
  obtain ⟨c0, c1, c2, c3, c4, c5, c6, c7, e2⟩ := eight hc
  obtain ⟨phases, groups, conflict, dets, rails, buses, extend, budget, start, revert, least, flash, window, share⟩ := T
  simp only at e e2
  subst e e2
  rfl
theorem cells_rails {T : Tab} (hd : Hd) (h8 : T.phases.length = 8) (hc : T.conflict.length = 8) (s : Sl) (l : List Rl) : (T.cells hd).set 114 (s.val l.length) = { T with rails := l }.cells ⟨hd.g, hd.d, s, hd.b⟩ := by
  obtain ⟨a0, a1, a2, a3, a4, a5, a6, a7, e⟩ := eight h8
  obtain ⟨c0, c1, c2, c3, c4, c5, c6, c7, e2⟩ := eight hc
  obtain ⟨phases, groups, conflict, dets, rails, buses, extend, budget, start, revert, least, flash, window, share⟩ := T
  simp only at e e2
  subst e e2
  rfl
theorem cells_buses {T : Tab} (hd : Hd) (h8 : T.phases.length = 8) (hc : T.conflict.length = 8) (s : Sl) (l : List Bs) : (T.cells hd).set 115 (s.val l.length) = { T with buses := l }.cells ⟨hd.g, hd.d, hd.r, s⟩ := by
  obtain ⟨a0, a1, a2, a3, a4, a5, a6, a7, e⟩ := eight h8
  obtain ⟨c0, c1, c2, c3, c4, c5, c6, c7, e2⟩ := eight hc
  obtain ⟨phases, groups, conflict, dets, rails, buses, extend, budget, start, revert, least, flash, window, share⟩ := T
  simp only at e e2
  subst e e2
  rfl
theorem cells_groups {T : Tab} (hd : Hd) (h8 : T.phases.length = 8) (s : Sl) (l : List (List Int × List Int)) : (T.cells hd).set 104 (s.val l.length) = { T with groups := l }.cells ⟨s, hd.d, hd.r, hd.b⟩ := by
  obtain ⟨a0, a1, a2, a3, a4, a5, a6, a7, e⟩ := eight h8
  obtain ⟨phases, groups, conflict, dets, rails, buses, extend, budget, start, revert, least, flash, window, share⟩ := T
  simp only at e
  subst e
  rfl
/-! ### The box -/
def KT (w : World) (s : Sl) (t : TypeId) : Prop := ∀ x, s.a = some x → ∃ cs : Array Value, w.heap[x.block]? = some (.cells cs t (0, 0))
theorem KT.grown {w w' : World} {s : Sl} {t : TypeId} {row : Option Nat} (h : KT w s t) (hg : w.grownBy w' row) (hne : ∀ x, s.a = some x → some x.block ≠ row) : KT w' s t := fun x hx => by
  obtain ⟨cs, hc⟩ := h x hx
  exact ⟨cs, (hg.block _ (Array.getElem?_eq_some_iff.1 hc).1 (hne x hx)).trans hc⟩
theorem KT.ne {w : World} {s : Sl} {b : Nat} {cs : Array Value} {t t' : TypeId} (h : KT w s t) (hb : w.heap[b]? = some (.cells cs t' (0, 0))) (ht : t' ≠ t) : ∀ x, s.a = some x → x.block ≠ b := by
  intro x hx e
  obtain ⟨ds, hc⟩ := h x hx
  rw [e, hb] at hc
  simp at hc
  exact ht hc.2
theorem row_grown {α : Type} {n : Nat} {enc : α → List Value} {w w' : World} {s : Sl} {l : List α} {row : Option Nat} (h : RowOf n enc w s l) (hg : w.grownBy w' row) (hne : ∀ x, s.a = some x → some x.block ≠ row) : RowOf n enc w' s l := by
  rcases h with h | ⟨x, h1, h2, h3, h4⟩
  · exact .inl h
  · exact .inr ⟨x, h1, h2, h3, fun i v hv j u hu => hg.cell (h4 i v hv j u hu) (by rw [add_block, add_block]; exact hne x h1)⟩
/-- The groups of a table, in blocks of their types. -/
def GrT (w : World) (s : Sl) (l : List (List Int × List Int)) : Prop := ∃ gs : List Gr, gs.map Gr.data = l ∧ RowOf 2 Gr.cells w s gs ∧ KT w s 86 ∧ ∀ g ∈ gs, RowI w g.s0 g.r0 ∧ RowI w g.s1 g.r1
theorem GrT.grown {w w' : World} {s : Sl} {l : List (List Int × List Int)} {row : Option Nat} (h : GrT w s l) (hg : w.grownBy w' row) (hr : ∀ m, row = some m → ∃ cs t, w.heap[m]? = some (.cells cs t (0, 0)) ∧ t ≠ 86 ∧ t ≠ 3) : GrT w' s l := by
  obtain ⟨gs, h1, h2, h3, h4⟩ := h
  have hI : ∀ (s : Sl) (l : List Int), RowI w s l → RowI w' s l := fun s l hs => hs.grown hg (fun x hx e => by
    obtain ⟨cs, t, hb, _, ht⟩ := hr _ e.symm
    exact hs.ne hb ht x hx rfl)
  have hn : ∀ x, s.a = some x → some x.block ≠ row := fun x hx e => by
    obtain ⟨cs, t, hb, ht, _⟩ := hr _ e.symm
    exact h3.ne hb ht x hx rfl
  exact ⟨gs, h1, row_grown h2 hg hn, h3.grown hg hn, fun g hgm => ⟨hI _ _ (h4 g hgm).1, hI _ _ (h4 g hgm).2⟩⟩
theorem GrT.lie {w : World} {s : Sl} {l : List (List Int × List Int)} (h : GrT w s l) : ∃ gs : List Gr, gs.map Gr.data = l ∧ GroupsLie w s gs := by
  obtain ⟨gs, h1, h2, h3, h4⟩ := h
  exact ⟨gs, h1, h2, fun g hg => ⟨(h4 g hg).1.1, (h4 g hg).2.1⟩⟩
def zHd : Hd := ⟨⟨none, 0⟩, ⟨none, 0⟩, ⟨none, 0⟩, ⟨none, 0⟩⟩
/-- The generator's two boxes: the result's, and the table that is built. -/
structure Bx (w : World) (hd : Hd) (T : Tab) (W : World) : Prop where
  bel : Below w.heap.size w W
  res : W.heap[w.heap.size]? = some (.cells (zTab.cells zHd).toArray 31 (0, 0))
  blk : W.heap[w.heap.size + 1]? = some (.cells (T.cells hd).toArray 31 (0, 0))
  ph : T.phases.length = 8
  cf : T.conflict.length = 8
  fl : T.flash.length = 8
  groups : GrT W hd.g T.groups
  dets : Owns Det.cells 7 w.heap.size W 75 (hd.d.val T.dets.length) T.dets
  rails : Owns Rl.cells 11 w.heap.size W 78 (hd.r.val T.rails.length) T.rails
  buses : Owns Bs.cells 2 w.heap.size W 53 (hd.b.val T.buses.length) T.buses
  gbk : ∀ x, hd.g.a = some x → ∃ g, x = ⟨g, 0, none⟩ ∧ w.heap.size ≤ g
theorem own_is {α : Type} {enc : α → List Value} {n B : Nat} {w : World} {t : TypeId} {s : Sl} {l : List α} (henc : ∀ x, (enc x).length = n) (h : Owns enc n B w t (s.val l.length) l) : RowOf n enc w s l := by
  obtain ⟨s', e, r⟩ := Owns.row h henc
  obtain ⟨a, c⟩ := s
  obtain ⟨a', c'⟩ := s'
  simp only [Sl.val, Value.slice.injEq] at e
  obtain ⟨rfl, _, rfl⟩ := e
  exact r
theorem Bx.tab {w W : World} {hd : Hd} {T : Tab} (h : Bx w hd T W) : IsTab W hd T :=
  ⟨h.ph, h.cf, h.fl, h.groups.lie, own_is (fun _ => rfl) h.dets, own_is (fun _ => rfl) h.rails, own_is (fun _ => rfl) h.buses⟩
theorem Bx.size {w W : World} {hd : Hd} {T : Tab} (h : Bx w hd T W) : w.heap.size + 1 < W.heap.size := (Array.getElem?_eq_some_iff.1 h.blk).1
theorem Bx.step {w W W' : World} {hd : Hd} {T : Tab} (h : Bx w hd T W) (hb : Below W.heap.size W W') : Bx w hd T W' :=
  ⟨h.bel.trans (hb.mono h.bel.size), (hb.block _ (by have := h.size; omega)).trans h.res, (hb.block _ h.size).trans h.blk, h.ph, h.cf, h.fl, h.groups.grown (grown_below hb none) (fun m e => by cases e), h.dets.below hb, h.rails.below hb, h.buses.below hb, h.gbk⟩
/-- A block that is neither of the two boxes nor another type's is written. -/
theorem Bx.cell {w W : World} {hd : Hd} {T : Tab} (h : Bx w hd T W) (i : Nat) : W.cell? ⟨w.heap.size + 1, i, none⟩ = (T.cells hd)[i]? := by
  rw [cell_of_row _ _ _ _ _ _ h.blk]; simp
theorem Bx.frozen {w W : World} {hd : Hd} {T : Tab} (h : Bx w hd T W) (i : Nat) : W.frozen? ⟨w.heap.size + 1, i, none⟩ = false := frozen_of_row _ _ _ _ _ h.blk
/-- The table's box is written; its lists stay. -/
theorem Bx.write {w W W' : World} {hd : Hd} {T U : Tab} (h : Bx w hd T W) (hg : W.grownBy W' (some (w.heap.size + 1))) (hb : W'.heap[w.heap.size + 1]? = some (.cells (U.cells hd).toArray 31 (0, 0)))
    (h1 : U.phases.length = 8) (h2 : U.conflict.length = 8) (h3 : U.flash.length = 8) (e1 : U.groups = T.groups) (e2 : U.dets = T.dets) (e3 : U.rails = T.rails) (e4 : U.buses = T.buses) : Bx w hd U W' := by
  refine ⟨h.bel.grown hg h.bel.size (fun k hk => by cases hk; omega), ?_, hb, h1, h2, h3, ?_, ?_, ?_, ?_, h.gbk⟩
  · exact (hg.block _ (by have := h.size; omega) (fun e => by simp at e)).trans h.res
  · rw [e1]
    exact h.groups.grown hg (fun m e => by cases e; exact ⟨_, _, h.blk, by decide, by decide⟩)
  · rw [e2]; exact own_kept h.dets hg (fun m hm e => by cases e; exact own_ne h.dets h.blk (by decide) hm)
  · rw [e3]; exact own_kept h.rails hg (fun m hm e => by cases e; exact own_ne h.rails h.blk (by decide) hm)
  · rw [e4]; exact own_kept h.buses hg (fun m hm e => by cases e; exact own_ne h.buses h.blk (by decide) hm)
/-- One number of the table. -/
theorem Bx.set {w W : World} {hd : Hd} {T U : Tab} (h : Bx w hd T W) (i : Nat) (v : Value) (hc : (T.cells hd).set i v = U.cells hd)
    (h1 : U.phases.length = 8) (h2 : U.conflict.length = 8) (h3 : U.flash.length = 8) (e1 : U.groups = T.groups) (e2 : U.dets = T.dets) (e3 : U.rails = T.rails) (e4 : U.buses = T.buses) : Bx w hd U (W.setCell ⟨w.heap.size + 1, i, none⟩ v) :=
  h.write (grown_set _ _ _ _) (by rw [heap_setCell_same _ _ _ _ _ _ h.blk, ← hc]; simp) h1 h2 h3 e1 e2 e3 e4
theorem setRow_grown (W : World) (b : Nat) (cs : Array Value) (h : b < W.heap.size) : W.grownBy (W.setRow b cs) (some b) :=
  ⟨rfl, rfl, rfl, by simp [World.setRow], fun j _ hj => setRow_other _ _ _ _ (fun e => hj (by rw [e]))⟩
theorem Bx.put_dets {w W W' : World} {hd : Hd} {T : Tab} {v' : Value} (x : Det) (h : Bx w hd T W) (hg : W.grownBy W' (hd.d.val T.dets.length).ownBlock)
    (ho : W'.ownsRow w.heap.size 75 7 v' (T.dets.length + 1) (T.dets.flatMap Det.cells ++ x.cells)) :
    (W'.heap[w.heap.size + 1]? = some (.cells (T.cells hd).toArray 31 (0, 0))) ∧ ∃ a' c', v' = .slice a' (T.dets.length + 1) c' ∧ Bx w ⟨hd.g, ⟨a', c'⟩, hd.r, hd.b⟩ { T with dets := T.dets ++ [x] } (W'.setCell ⟨w.heap.size + 1, 113, none⟩ v') := by
  have hne : ∀ {b : Nat} {cs : Array Value}, W.heap[b]? = some (.cells cs 31 (0, 0)) → some b ≠ (hd.d.val T.dets.length).ownBlock := fun hb e => own_ne h.dets hb (by decide) e.symm
  have hbx := (hg.block _ h.size (hne h.blk)).trans h.blk
  have hrs := (hg.block _ (by have := h.size; omega) (hne h.res)).trans h.res
  have hO : Owns Det.cells 7 w.heap.size W' 75 v' (T.dets ++ [x]) := Owns.snoc ho
  obtain ⟨⟨a', c'⟩, hs, hr⟩ := Owns.row hO (fun _ => rfl)
  refine ⟨hbx, a', c', by rw [hs, List.length_append]; rfl, ?_⟩
  refine ⟨?_, ?_, ?_, h.ph, h.cf, h.fl, ?_, by rw [show Sl.val ⟨a', c'⟩ (T.dets ++ [x]).length = v' from by rw [hs]]; exact own_kept hO (grown_set _ _ _ _) (fun m hm e => by cases e; exact own_ne hO hbx (by decide) hm), own_kept (own_kept h.rails hg (fun m hm e => by obtain ⟨ds, hd2⟩ := own_type h.dets _ e; exact own_ne h.rails hd2 (by decide) hm)) (grown_set _ _ _ _) (fun m hm e => by cases e; exact own_ne (own_kept h.rails hg (fun m hm e => by obtain ⟨ds, hd2⟩ := own_type h.dets _ e; exact own_ne h.rails hd2 (by decide) hm)) hbx (by decide) hm), own_kept (own_kept h.buses hg (fun m hm e => by obtain ⟨ds, hd2⟩ := own_type h.dets _ e; exact own_ne h.buses hd2 (by decide) hm)) (grown_set _ _ _ _) (fun m hm e => by cases e; exact own_ne (own_kept h.buses hg (fun m hm e => by obtain ⟨ds, hd2⟩ := own_type h.dets _ e; exact own_ne h.buses hd2 (by decide) hm)) hbx (by decide) hm), h.gbk⟩
  · exact (h.bel.grown hg h.bel.size (fun k hk => h.dets.blk k hk)).setCell (p := ⟨w.heap.size + 1, 113, none⟩) (by simp) v'
  · rw [heap_setCell_other _ _ _ _ (by simp)]; exact hrs
  · rw [heap_setCell_same _ _ _ _ _ _ hbx, ← cells_dets hd h.ph h.cf ⟨a', c'⟩ (T.dets ++ [x]), ← hs]; simp
  · exact (h.groups.grown hg (fun m e => by obtain ⟨ds, hd2⟩ := own_type h.dets _ e; exact ⟨ds, _, hd2, by decide, by decide⟩)).grown (grown_set _ _ _ _) (fun m e => by cases e; exact ⟨_, _, hbx, by decide, by decide⟩)
theorem Bx.put_rails {w W W' : World} {hd : Hd} {T : Tab} {v' : Value} (x : Rl) (h : Bx w hd T W) (hg : W.grownBy W' (hd.r.val T.rails.length).ownBlock)
    (ho : W'.ownsRow w.heap.size 78 11 v' (T.rails.length + 1) (T.rails.flatMap Rl.cells ++ x.cells)) :
    (W'.heap[w.heap.size + 1]? = some (.cells (T.cells hd).toArray 31 (0, 0))) ∧ ∃ a' c', v' = .slice a' (T.rails.length + 1) c' ∧ Bx w ⟨hd.g, hd.d, ⟨a', c'⟩, hd.b⟩ { T with rails := T.rails ++ [x] } (W'.setCell ⟨w.heap.size + 1, 114, none⟩ v') := by
  have hne : ∀ {b : Nat} {cs : Array Value}, W.heap[b]? = some (.cells cs 31 (0, 0)) → some b ≠ (hd.r.val T.rails.length).ownBlock := fun hb e => own_ne h.rails hb (by decide) e.symm
  have hbx := (hg.block _ h.size (hne h.blk)).trans h.blk
  have hrs := (hg.block _ (by have := h.size; omega) (hne h.res)).trans h.res
  have hO : Owns Rl.cells 11 w.heap.size W' 78 v' (T.rails ++ [x]) := Owns.snoc ho
  obtain ⟨⟨a', c'⟩, hs, hr⟩ := Owns.row hO (fun _ => rfl)
  refine ⟨hbx, a', c', by rw [hs, List.length_append]; rfl, ?_⟩
  refine ⟨?_, ?_, ?_, h.ph, h.cf, h.fl, ?_, own_kept (own_kept h.dets hg (fun m hm e => by obtain ⟨ds, hd2⟩ := own_type h.rails _ e; exact own_ne h.dets hd2 (by decide) hm)) (grown_set _ _ _ _) (fun m hm e => by cases e; exact own_ne (own_kept h.dets hg (fun m hm e => by obtain ⟨ds, hd2⟩ := own_type h.rails _ e; exact own_ne h.dets hd2 (by decide) hm)) hbx (by decide) hm), by rw [show Sl.val ⟨a', c'⟩ (T.rails ++ [x]).length = v' from by rw [hs]]; exact own_kept hO (grown_set _ _ _ _) (fun m hm e => by cases e; exact own_ne hO hbx (by decide) hm), own_kept (own_kept h.buses hg (fun m hm e => by obtain ⟨ds, hd2⟩ := own_type h.rails _ e; exact own_ne h.buses hd2 (by decide) hm)) (grown_set _ _ _ _) (fun m hm e => by cases e; exact own_ne (own_kept h.buses hg (fun m hm e => by obtain ⟨ds, hd2⟩ := own_type h.rails _ e; exact own_ne h.buses hd2 (by decide) hm)) hbx (by decide) hm), h.gbk⟩
  · exact (h.bel.grown hg h.bel.size (fun k hk => h.rails.blk k hk)).setCell (p := ⟨w.heap.size + 1, 114, none⟩) (by simp) v'
  · rw [heap_setCell_other _ _ _ _ (by simp)]; exact hrs
  · rw [heap_setCell_same _ _ _ _ _ _ hbx, ← cells_rails hd h.ph h.cf ⟨a', c'⟩ (T.rails ++ [x]), ← hs]; simp
  · exact (h.groups.grown hg (fun m e => by obtain ⟨ds, hd2⟩ := own_type h.rails _ e; exact ⟨ds, _, hd2, by decide, by decide⟩)).grown (grown_set _ _ _ _) (fun m e => by cases e; exact ⟨_, _, hbx, by decide, by decide⟩)
theorem Bx.put_buses {w W W' : World} {hd : Hd} {T : Tab} {v' : Value} (x : Bs) (h : Bx w hd T W) (hg : W.grownBy W' (hd.b.val T.buses.length).ownBlock)
    (ho : W'.ownsRow w.heap.size 53 2 v' (T.buses.length + 1) (T.buses.flatMap Bs.cells ++ x.cells)) :
    (W'.heap[w.heap.size + 1]? = some (.cells (T.cells hd).toArray 31 (0, 0))) ∧ ∃ a' c', v' = .slice a' (T.buses.length + 1) c' ∧ Bx w ⟨hd.g, hd.d, hd.r, ⟨a', c'⟩⟩ { T with buses := T.buses ++ [x] } (W'.setCell ⟨w.heap.size + 1, 115, none⟩ v') := by
  have hne : ∀ {b : Nat} {cs : Array Value}, W.heap[b]? = some (.cells cs 31 (0, 0)) → some b ≠ (hd.b.val T.buses.length).ownBlock := fun hb e => own_ne h.buses hb (by decide) e.symm
  have hbx := (hg.block _ h.size (hne h.blk)).trans h.blk
  have hrs := (hg.block _ (by have := h.size; omega) (hne h.res)).trans h.res
  have hO : Owns Bs.cells 2 w.heap.size W' 53 v' (T.buses ++ [x]) := Owns.snoc ho
  obtain ⟨⟨a', c'⟩, hs, hr⟩ := Owns.row hO (fun _ => rfl)
  refine ⟨hbx, a', c', by rw [hs, List.length_append]; rfl, ?_⟩
  refine ⟨?_, ?_, ?_, h.ph, h.cf, h.fl, ?_, own_kept (own_kept h.dets hg (fun m hm e => by obtain ⟨ds, hd2⟩ := own_type h.buses _ e; exact own_ne h.dets hd2 (by decide) hm)) (grown_set _ _ _ _) (fun m hm e => by cases e; exact own_ne (own_kept h.dets hg (fun m hm e => by obtain ⟨ds, hd2⟩ := own_type h.buses _ e; exact own_ne h.dets hd2 (by decide) hm)) hbx (by decide) hm), own_kept (own_kept h.rails hg (fun m hm e => by obtain ⟨ds, hd2⟩ := own_type h.buses _ e; exact own_ne h.rails hd2 (by decide) hm)) (grown_set _ _ _ _) (fun m hm e => by cases e; exact own_ne (own_kept h.rails hg (fun m hm e => by obtain ⟨ds, hd2⟩ := own_type h.buses _ e; exact own_ne h.rails hd2 (by decide) hm)) hbx (by decide) hm), by rw [show Sl.val ⟨a', c'⟩ (T.buses ++ [x]).length = v' from by rw [hs]]; exact own_kept hO (grown_set _ _ _ _) (fun m hm e => by cases e; exact own_ne hO hbx (by decide) hm), h.gbk⟩
  · exact (h.bel.grown hg h.bel.size (fun k hk => h.buses.blk k hk)).setCell (p := ⟨w.heap.size + 1, 115, none⟩) (by simp) v'
  · rw [heap_setCell_other _ _ _ _ (by simp)]; exact hrs
  · rw [heap_setCell_same _ _ _ _ _ _ hbx, ← cells_buses hd h.ph h.cf ⟨a', c'⟩ (T.buses ++ [x]), ← hs]; simp
  · exact (h.groups.grown hg (fun m e => by obtain ⟨ds, hd2⟩ := own_type h.buses _ e; exact ⟨ds, _, hd2, by decide, by decide⟩)).grown (grown_set _ _ _ _) (fun m e => by cases e; exact ⟨_, _, hbx, by decide, by decide⟩)
end GenT
namespace GenT
open Go.ChangeShapes Go.WideShapes Go.ChangeAt Go.RowKit
open Tab Gath GenG Clone PlaceM CodeAt
open RefS (num num_range from_any)
theorem cset_same {T U : Tab} (h : T.groups = U.groups) (L : List Int) (p q : Nat) (C : List Int) : cset L T p q C = cset L U p q C := by
  unfold cset; rw [beside_same h]
theorem crow_same {T U : Tab} (h : T.groups = U.groups) (L : List Int) (p : Nat) (C : List Int) : ∀ q, crow L T p C q = crow L U p C q
  | 0 => rfl
  | q + 1 => by rw [crow, crow, crow_same h L p C q, cset_same h]
theorem call_same {T U : Tab} (h : T.groups = U.groups) (L : List Int) (C : List Int) : ∀ p, call L T C p = call L U C p
  | 0 => rfl
  | p + 1 => by rw [call, call, call_same h L C p, crow_same h]
theorem genN_range (L : List Int) : genN L ≤ 8 := up_le L (genG L) (genG_range L).2 _ (Nat.le_refl _)
theorem upTo_pos (L : List Int) (G : Nat) (hG : G ≤ 3) : ∀ g, g < G → (upTo L G g).2 < (upTo L G (g + 1)).2 := fun g hg => by
  show (upTo L G g).2 < (upTo L G g).2 + n0 L G g (upTo L G g).2 + n1 L G g (upTo L G g).2
  have h0 : ∀ g, g < G → (upTo L G g).2 ≤ 4 * g ∧ (upTo L G g).2 ≤ lim G g - 1 := by
    intro g
    induction g with
    | zero => intro h; exact ⟨Nat.zero_le _, Nat.zero_le _⟩
    | succ k ih =>
      intro h
      have := ih (by omega)
      show (upTo L G k).2 + n0 L G k (upTo L G k).2 + n1 L G k (upTo L G k).2 ≤ 4 * (k + 1) ∧ (upTo L G k).2 + n0 L G k (upTo L G k).2 + n1 L G k (upTo L G k).2 ≤ lim G (k + 1) - 1
      have a := want0_le L k
      have b := want1_le L k (n0 L G k (upTo L G k).2)
      unfold n1
      have : n0 L G k (upTo L G k).2 ≤ want0 L k ∧ n0 L G k (upTo L G k).2 ≤ lim G k - (upTo L G k).2 := by unfold n0; omega
      unfold lim at *
      omega
  have h1 := (h0 g hg).2
  have hl : 1 ≤ lim G g - (upTo L G g).2 := by unfold lim at *; omega
  by_cases e : n0 L G g (upTo L G g).2 = 0
  · have hw : 1 ≤ want1 L g (n0 L G g (upTo L G g).2) := by
      rw [e]; unfold want1
      have := num_range L (2 + 2 * g) 3 (by omega)
      split <;> omega
    have : 1 ≤ n1 L G g (upTo L G g).2 := by unfold n1; rw [e] at hw ⊢; omega
    omega
  · omega
theorem genN_pos (L : List Int) : 1 ≤ genN L := by
  obtain ⟨h1, h3⟩ := genG_range L
  have := upTo_pos L (genG L) h3 (genG L - 1) (by omega)
  rw [show genG L - 1 + 1 = genG L by omega] at this
  show 1 ≤ (upTo L (genG L) (genG L)).2
  omega
theorem genGs_len (L : List Int) : (genGs L).length = genG L := up_len L _ _
theorem up_few (L : List Int) (G : Nat) : ∀ g, ∀ x ∈ (upTo L G g).1, x.1.length ≤ 2 ∧ x.2.length ≤ 2
  | 0 => fun x h => by simp [upTo] at h
  | g + 1 => fun x h => by
    rw [upTo] at h
    rcases List.mem_append.1 h with h | h
    · exact up_few L G g x h
    · obtain rfl : x = grpD L G g (upTo L G g).2 := by simpa using h
      have a := want0_le L g
      have b := want1_le L g (n0 L G g (upTo L G g).2)
      constructor
      · show (seg _ _).length ≤ 2
        rw [seg_len]; unfold n0; omega
      · show (seg _ _).length ≤ 2
        rw [seg_len]; unfold n1; omega
theorem tab1_few (L : List Int) : Few (tab1 L) := ⟨by show (genGs L).length ≤ 1000; rw [genGs_len]; have := (genG_range L).2; omega, fun x h => by have := up_few L _ _ x h; omega⟩
theorem tabF_groups (L : List Int) : (tabF L).groups = genGs L := by unfold tabF; split <;> rfl
theorem tabF_dets (L : List Int) : { tabF L with dets := [] } = tabF L := by unfold tabF; split <;> rfl
theorem tabD_rails (L : List Int) (k : Nat) : { tabD L k with rails := [] } = tabD L k := by unfold tabD tabF; split <;> rfl
theorem tabR_buses (L : List Int) (k : Nat) : { tabR L k with buses := [] } = tabR L k := by unfold tabR tabD tabF; split <;> rfl
theorem tabS_window (L : List Int) : { tabS L with window := 0 } = tabS L := by unfold tabS tabB tabR tabD tabF; split <;> rfl
theorem tabS_rails (L : List Int) : (tabS L).rails.length = (num L 176 4 % 3).toNat := down_len _ _ _
theorem tabS_groups (L : List Int) : (tabS L).groups = genGs L := tabF_groups L
theorem tabS_few (L : List Int) : Few (tabS L) := ⟨by rw [tabS_groups]; exact (tab1_few L).groups, by rw [tabS_groups]; exact (tab1_few L).rows⟩
theorem down_same {α : Type} {f g : Nat → α} (h : ∀ i, f i = g i) (k : Nat) : ∀ j, down f k j = down g k j
  | 0 => rfl
  | j + 1 => by rw [down, down, down_same h k j, h]
/-- The first of six numbers are laid. -/
def scal (T : Tab) (l : List Int) : Tab := { T with extend := l.getD 0 T.extend, budget := l.getD 1 T.budget, start := l.getD 2 T.start, revert := l.getD 3 T.revert, least := l.getD 4 T.least, share := l.getD 5 T.share }
theorem scal_set {w W : World} {hd : Hd} {T : Tab} {l : List Int} (h : Bx w hd (scal T l) W) (x : Int) (i k : Nat) (hk : l.length = k) (hi : (k = 0 ∧ i = 116) ∨ (k = 1 ∧ i = 117) ∨ (k = 2 ∧ i = 118) ∨ (k = 3 ∧ i = 119) ∨ (k = 4 ∧ i = 120) ∨ (k = 5 ∧ i = 130)) :
    (∃ v, W.cell? ⟨w.heap.size + 1, i, none⟩ = some (I v)) ∧ W.frozen? ⟨w.heap.size + 1, i, none⟩ = false ∧ Bx w hd (scal T (l ++ [x])) (W.setCell ⟨w.heap.size + 1, i, none⟩ (I x)) := by
  refine ⟨?_, h.frozen i, ?_⟩
  · rw [h.cell, ← List.getElem?_toArray]
    rcases hi with ⟨rfl, rfl⟩ | ⟨rfl, rfl⟩ | ⟨rfl, rfl⟩ | ⟨rfl, rfl⟩ | ⟨rfl, rfl⟩ | ⟨rfl, rfl⟩
    · exact ⟨_, (cells_ok h.tab).extend⟩
    · exact ⟨_, (cells_ok h.tab).budget⟩
    · exact ⟨_, (cells_ok h.tab).start⟩
    · exact ⟨_, (cells_ok h.tab).revert⟩
    · exact ⟨_, (cells_ok h.tab).least⟩
    · exact ⟨_, (cells_ok h.tab).share⟩
  · rcases hi with ⟨rfl, rfl⟩ | ⟨rfl, rfl⟩ | ⟨rfl, rfl⟩ | ⟨rfl, rfl⟩ | ⟨rfl, rfl⟩ | ⟨rfl, rfl⟩
    · match l, hk with
      | [], _ => exact h.set 116 (I x) (cells_extend hd h.ph h.cf x) h.ph h.cf h.fl rfl rfl rfl rfl
    · match l, hk with
      | [_], _ => exact h.set 117 (I x) (cells_budget hd h.ph h.cf x) h.ph h.cf h.fl rfl rfl rfl rfl
    · match l, hk with
      | [_, _], _ => exact h.set 118 (I x) (cells_start hd h.ph h.cf x) h.ph h.cf h.fl rfl rfl rfl rfl
    · match l, hk with
      | [_, _, _], _ => exact h.set 119 (I x) (cells_revert hd h.ph h.cf x) h.ph h.cf h.fl rfl rfl rfl rfl
    · match l, hk with
      | [_, _, _, _], _ => exact h.set 120 (I x) (cells_least hd h.ph h.cf x) h.ph h.cf h.fl rfl rfl rfl rfl
    · match l, hk with
      | [_, _, _, _, _], _ => exact h.set 130 (I x) (cells_share hd h.ph h.cf h.fl x) h.ph h.cf h.fl rfl rfl rfl rfl
theorem infoTz : (Tryd.prog.info? 31).map (fun i => (i.zero, i.size)) = some (some (.agg (zTab.cells zHd).toArray), 131) := by kernel_rfl
/-- Behind rows: the box. -/
theorem Bx.first {w W : World} {L : List Int} {ga : Option Addr} {gc : Nat} {gs : List Gr} {W0 : World} (hW : Below w.heap.size w W0) (hs : W0.heap.size = w.heap.size + 2) (h0 : W0.heap[w.heap.size]? = some (.cells (zTab.cells zHd).toArray 31 (0, 0)))
    (hd : gs.map Gr.data = genGs L) (h : GS W0 (w.heap.size + 1) (zTab.cells zHd) ga gc (genG L) gs W) : Bx w ⟨⟨ga, gc⟩, ⟨none, 0⟩, ⟨none, 0⟩, ⟨none, 0⟩⟩ (tab1 L) W := by
  refine ⟨⟨h.gb.os.trans hW.os, h.gb.tape.trans hW.tape, h.gb.output.trans hW.output, by have := h.gb.size; omega, fun j hj => (h.gb.block j (by omega) (fun e => by simp at e; omega)).trans (hW.block j hj)⟩, (h.gb.block _ (by omega) (fun e => by simp at e)).trans h0, ?_, rfl, rfl, rfl, ?_, Owns.nil, Owns.nil, Owns.nil, ?_⟩
  · rw [h.tbk]
    have := cells_groups (T := zTab) zHd rfl ⟨ga, gc⟩ (genGs L)
    rw [genGs_len] at this
    rw [show (Value.slice ga (genG L) gc) = (Sl.val ⟨ga, gc⟩ (genG L)) from rfl, this]
    rfl
  · have hO : Owns Gr.cells 2 W0.heap.size W 86 (Sl.val ⟨ga, gc⟩ gs.length) gs := by rw [h.len]; exact h.own
    refine ⟨gs, hd, own_is (fun _ => rfl) hO, fun x hx => ?_, h.rows⟩
    obtain rfl : ga = some x := hx
    rcases hO.2 with ⟨e, _⟩ | ⟨g, cp, cur, e, h1, h2, _⟩
    · simp [Sl.val] at e
    · simp [Sl.val] at e
      obtain ⟨rfl, _⟩ := e
      exact ⟨cur, h2⟩
  · have hO : Owns Gr.cells 2 W0.heap.size W 86 (Sl.val ⟨ga, gc⟩ gs.length) gs := by rw [h.len]; exact h.own
    intro x hx
    obtain rfl : ga = some x := hx
    rcases hO.2 with ⟨e, _⟩ | ⟨g, cp, cur, e, h1, h2, _⟩
    · simp [Sl.val] at e
    · simp [Sl.val] at e
      obtain ⟨rfl, _⟩ := e
      exact ⟨g, rfl, by omega⟩
/-- The lists of a table lie in blocks of their own, laid since B. -/
structure Own3 (B : Nat) (W : World) (hd : Hd) (T : Tab) : Prop where
  groups : GrT W hd.g T.groups
  dets : Owns Det.cells 7 B W 75 (hd.d.val T.dets.length) T.dets
  rails : Owns Rl.cells 11 B W 78 (hd.r.val T.rails.length) T.rails
  buses : Owns Bs.cells 2 B W 53 (hd.b.val T.buses.length) T.buses
  gbk : ∀ x, hd.g.a = some x → ∃ g, x = ⟨g, 0, none⟩ ∧ B ≤ g
theorem Bx.store_own {w W : World} {hd : Hd} {T : Tab} (h : Bx w hd T W) : ∃ W', Sem.run Tryd.prog (storeCells ⟨w.heap.size, 0, none⟩ (T.cells hd)) W = .ok () W' ∧ W'.heap[w.heap.size]? = some (.cells (T.cells hd).toArray 31 (0, 0)) ∧ IsTab W' hd T ∧ Own3 w.heap.size W' hd T ∧ Below w.heap.size w W' := by
  have hl := cells_cut hd h.ph h.cf h.fl
  have hr := run_storeCells_at Tryd.prog w.heap.size 0 31 (T.cells hd) 0 (zTab.cells zHd).toArray W h.res (by simp [hl]; exact Nat.le_refl 131) (fun v hv => (Array.all_eq_true_iff_forall_mem.1 (cells_ok h.tab).one) v (by simpa using hv))
  simp only [Nat.add_zero] at hr
  have e : ((zTab.cells zHd).toArray.toList.take 0 ++ T.cells hd ++ (zTab.cells zHd).toArray.toList.drop (0 + (T.cells hd).length)).toArray = (T.cells hd).toArray := by
    rw [List.drop_of_length_le (by rw [hl]; exact Nat.le_refl 131)]; simp
  rw [e] at hr
  have hg := setRow_grown W w.heap.size (T.cells hd).toArray (by have := h.size; omega)
  have k1 : Owns Det.cells 7 w.heap.size (W.setRow w.heap.size (T.cells hd).toArray) 75 (hd.d.val T.dets.length) T.dets := own_kept h.dets hg (fun m hm e => by cases e; exact own_ne h.dets h.res (by decide) hm)
  have k2 : Owns Rl.cells 11 w.heap.size (W.setRow w.heap.size (T.cells hd).toArray) 78 (hd.r.val T.rails.length) T.rails := own_kept h.rails hg (fun m hm e => by cases e; exact own_ne h.rails h.res (by decide) hm)
  have k3 : Owns Bs.cells 2 w.heap.size (W.setRow w.heap.size (T.cells hd).toArray) 53 (hd.b.val T.buses.length) T.buses := own_kept h.buses hg (fun m hm e => by cases e; exact own_ne h.buses h.res (by decide) hm)
  have kg : GrT (W.setRow w.heap.size (T.cells hd).toArray) hd.g T.groups := h.groups.grown hg (fun m e => by cases e; exact ⟨_, _, h.res, by decide, by decide⟩)
  refine ⟨_, hr, setRow_heap _ _ _ _ _ _ h.res, ?_, ?_, h.bel.grown hg h.bel.size (fun k hk => by cases hk; omega)⟩
  · exact ⟨h.ph, h.cf, h.fl, kg.lie, own_is (fun _ => rfl) k1, own_is (fun _ => rfl) k2, own_is (fun _ => rfl) k3⟩
  · exact ⟨kg, k1, k2, k3, h.gbk⟩
end GenT
namespace CodeAt
open Go
def findS (id : Nat) : Code → Option Code
  | .seq a b => if firstR a = some id then some (.seq a b) else (findS id a).or (findS id b)
  | .cond _ a b => (findS id a).or (findS id b)
  | .block _ b => findS id b
  | .loop b => findS id b
  | .scope b => findS id b
  | _ => none
/-- What follows in a function from region number id on. -/
def sq (id : Nat) (f : Func) : Code := ((f.body.bind (findS id)).getD .skip)
end CodeAt
namespace GenT
end GenT
namespace GenT
open Go Tab GenG PlaceM OnS Clone
open RefS (num num_range)
theorem mem_seg {p m : Nat} {x : Int} : x ∈ seg p m ↔ (p : Int) ≤ x ∧ x < p + m := by
  unfold seg
  rw [List.mem_map]
  constructor
  · rintro ⟨i, hi, rfl⟩
    have := List.mem_range.1 hi
    omega
  · rintro ⟨h1, h2⟩
    exact ⟨(x - p).toNat, List.mem_range.2 (by omega), by omega⟩
theorem genTab_groups (L : List Int) : (genTab L).groups = genGs L := by
  unfold genTab; split <;> exact tabF_groups L
theorem genTab_phases (L : List Int) : (genTab L).phases = upd (fun p => GenP.genPh L (10 + 12 * p)) zPh (genN L) := by
  have h : (tabF L).phases = upd (fun p => GenP.genPh L (10 + 12 * p)) zPh (genN L) := by unfold tabF; split <;> rfl
  unfold genTab; split <;> exact h
end GenT
namespace GenT
open Go Tab GenG PlaceM OnS Clone
open RefS (num num_range)
open May MayF
theorem allIn_iff {m : Int} {l : List Int} : allIn m l = true ↔ ∀ x ∈ l, 0 ≤ x ∧ x ≤ m := by
  unfold allIn inB
  rw [List.all_eq_true]
  constructor
  · intro h x hx; have := h x hx; simpa using this
  · intro h x hx; have := h x hx; simpa using this
theorem listMay_iff {α : Type} {m : Int} {f : α → Bool} {l : List α} : listMay m f l = true ↔ (l.length : Int) ≤ m ∧ ∀ x ∈ l, f x = true := by
  unfold listMay
  rw [Bool.and_eq_true, decide_eq_true_eq, List.all_eq_true]
theorem upd_mem {α : Type} {f : Nat → α} {z : α} {n : Nat} {x : α} (h : x ∈ upd f z n) : x = z ∨ ∃ i, i < n ∧ i < 8 ∧ x = f i := by
  unfold upd at h
  rw [List.mem_map] at h
  obtain ⟨i, hi, rfl⟩ := h
  by_cases e : i < n
  · rw [if_pos e]; exact .inr ⟨i, e, List.mem_range.1 hi, rfl⟩
  · rw [if_neg e]; exact .inl rfl
theorem down_mem {α : Type} {f : Nat → α} {k : Nat} {x : α} : ∀ {j : Nat}, j ≤ k → x ∈ down f k j → ∃ i, 0 < i ∧ i ≤ k ∧ x = f i
  | 0, _, h => by simp [down] at h
  | j + 1, hj, h => by
    rw [down] at h
    rcases List.mem_append.1 h with h | h
    · exact down_mem (by omega) h
    · obtain rfl : x = f (k - j) := by simpa using h
      exact ⟨k - j, by omega, by omega, rfl⟩
theorem genPh_may (L : List Int) (i : Int) : Ph.may (GenP.genPh L i) = true := by
  have a0 := num_range L i 12 (by omega)
  have a1 := num_range L (i + 1) 9 (by omega)
  have a2 := num_range L (i + 2) 6 (by omega)
  have a3 := num_range L (i + 3) 4 (by omega)
  have a4 := num_range L (i + 4) 5 (by omega)
  have a5 := num_range L (i + 5) 25 (by omega)
  have a6 := num_range L (i + 6) 15 (by omega)
  have a8 := num_range L (i + 8) 10 (by omega)
  have b8 := num_range L (i + 8) 97 (by omega)
  have a9 := num_range L (i + 9) 7 (by omega)
  unfold Ph.may
  rw [Bool.and_eq_true, allIn_iff, allIn_iff]
  constructor
  · intro x hx
    simp only [GenP.genPh, List.mem_cons, List.not_mem_nil, or_false] at hx
    rcases hx with rfl | rfl | rfl | rfl | rfl | rfl | rfl | rfl | rfl
    · omega
    · omega
    · omega
    · omega
    · omega
    · omega
    · omega
    · split <;> omega
    · split <;> omega
  · intro x hx
    simp only [GenP.genPh, List.mem_cons, List.not_mem_nil, or_false] at hx
    subst hx
    unfold GenP.recall
    split <;> omega
theorem zPh_may : Ph.may zPh = true := by decide
theorem seg_may {p m : Nat} (h : p + m ≤ 8) (h2 : m ≤ 8) : rowMay (seg p m) = true := by
  unfold rowMay
  rw [Bool.and_eq_true, decide_eq_true_eq, allIn_iff, seg_len]
  exact ⟨h2, fun x hx => by have := mem_seg.1 hx; omega⟩
theorem up_may (L : List Int) (G : Nat) (hG : G ≤ 3) : ∀ g, g ≤ G → ∀ x ∈ (upTo L G g).1, groupMay x = true
  | 0, _ => fun x h => by simp [upTo] at h
  | g + 1, hg => fun x h => by
    have h8 := up_le L G hG (g + 1) hg
    have e2 : (upTo L G (g + 1)).2 = (upTo L G g).2 + n0 L G g (upTo L G g).2 + n1 L G g (upTo L G g).2 := rfl
    rw [e2] at h8
    rw [upTo] at h
    rcases List.mem_append.1 h with h | h
    · exact up_may L G hG g (by omega) x h
    · obtain rfl : x = grpD L G g (upTo L G g).2 := by simpa using h
      unfold groupMay grpD
      rw [seg_may (by omega) (by omega), seg_may (by omega) (by omega)]; rfl
theorem set_in {l : List Int} {m x : Int} {i : Nat} (h : ∀ y ∈ l, 0 ≤ y ∧ y ≤ m) (hx : 0 ≤ x ∧ x ≤ m) : ∀ y ∈ l.set i x, 0 ≤ y ∧ y ≤ m := fun y hy => by
  rcases List.mem_or_eq_of_mem_set hy with hy | rfl
  · exact h y hy
  · exact hx
theorem with_in (s p : Int) : 0 ≤ ((SetM.withN s p : Nat) : Int) ∧ ((SetM.withN s p : Nat) : Int) ≤ 255 := by have := SetM.with_lt s p; omega
theorem cset_in {L : List Int} {T : Tab} {p q : Nat} {C : List Int} (h : ∀ y ∈ C, 0 ≤ y ∧ y ≤ 255) : ∀ y ∈ cset L T p q C, 0 ≤ y ∧ y ≤ 255 := by
  unfold cset
  split
  · exact set_in (set_in h (with_in _ _)) (with_in _ _)
  · exact h
theorem crow_in {L : List Int} {T : Tab} {p : Nat} {C : List Int} (h : ∀ y ∈ C, 0 ≤ y ∧ y ≤ 255) : ∀ q, ∀ y ∈ crow L T p C q, 0 ≤ y ∧ y ≤ 255
  | 0 => h
  | q + 1 => cset_in (crow_in h q)
theorem call_in {L : List Int} {T : Tab} {C : List Int} (h : ∀ y ∈ C, 0 ≤ y ∧ y ≤ 255) : ∀ p, ∀ y ∈ call L T C p, 0 ≤ y ∧ y ≤ 255
  | 0 => h
  | p + 1 => crow_in (call_in h p) p
theorem lev_ok : ∀ x, x < 4 → ∀ y, y < 3 → level (GenD.onTab (x : Nat)) = true ∧ level (GenD.mulTab (x : Nat) (y : Nat)) = true := by decide +kernel
theorem span_ok : ∀ k, k < 6 → span (Fl.ofB k) = true := by decide +kernel
theorem genDet_may (L : List Int) (i : Int) (n : Nat) (n0 : 0 < n) (n8 : n ≤ 8) : Det.may (GenD.genDet L i n) = true := by
  have a0 := num_range L i n (by omega)
  obtain ⟨x1, h1⟩ := Int.eq_ofNat_of_zero_le (num_range L (i + 1) 4 (by omega)).1
  obtain ⟨x2, h2⟩ := Int.eq_ofNat_of_zero_le (num_range L (i + 2) 3 (by omega)).1
  have b1 := (num_range L (i + 1) 4 (by omega)).2
  have b2 := (num_range L (i + 2) 3 (by omega)).2
  have a3 := num_range L (i + 3) 4 (by omega)
  have a4 := num_range L (i + 4) 6 (by omega)
  have a6 := num_range L (i + 6) 60 (by omega)
  have a7 := num_range L (i + 7) 300 (by omega)
  have e := lev_ok x1 (by omega) x2 (by omega)
  unfold Det.may GenD.genDet
  simp only [Bool.and_eq_true, allIn_iff]
  refine ⟨?_, ?_, ?_, ?_, ?_, ?_⟩
  · intro x hx; simp at hx; omega
  · rw [h1]; exact e.1
  · rw [h1, h2]; exact e.2
  · exact span_ok _ (by omega)
  · exact span_ok _ (by omega)
  · intro x hx
    simp only [List.mem_cons, List.not_mem_nil, or_false] at hx
    rcases hx with rfl | rfl
    · split <;> omega
    · split <;> omega
theorem and_in (x m : Int) (h : 0 ≤ x ∧ x ≤ 255) : 0 ≤ bits .and .i64 x m ∧ bits .and .i64 x m ≤ 255 := by
  obtain ⟨k, rfl⟩ := Int.eq_ofNat_of_zero_le h.1
  have e : bits .and .i64 (k : Int) m = IntKind.i64.wrap (((BitVec.ofInt 64 (k : Int) &&& BitVec.ofInt 64 m).toNat : Nat) : Int) := rfl
  have hk : (BitVec.ofInt 64 (k : Int)).toNat = k := by rw [BitVec.ofInt_natCast, BitVec.toNat_ofNat]; omega
  have hl : (BitVec.ofInt 64 (k : Int) &&& BitVec.ofInt 64 m).toNat ≤ k := by rw [BitVec.toNat_and, hk]; exact Nat.and_le_left
  rw [e, IntKind.wrap_i64]
  omega
theorem andNot_in (x m : Int) (h : 0 ≤ x ∧ x ≤ 255) : 0 ≤ bits .andNot .i64 x m ∧ bits .andNot .i64 x m ≤ 255 := by
  obtain ⟨k, rfl⟩ := Int.eq_ofNat_of_zero_le h.1
  have e : bits .andNot .i64 (k : Int) m = IntKind.i64.wrap (((BitVec.ofInt 64 (k : Int) &&& ~~~ BitVec.ofInt 64 m).toNat : Nat) : Int) := rfl
  have hk : (BitVec.ofInt 64 (k : Int)).toNat = k := by rw [BitVec.ofInt_natCast, BitVec.toNat_ofNat]; omega
  have hl : (BitVec.ofInt 64 (k : Int) &&& ~~~ BitVec.ofInt 64 m).toNat ≤ k := by rw [BitVec.toNat_and, hk]; exact Nat.and_le_left
  rw [e, IntKind.wrap_i64]
  omega
theorem withS_in (T : Tab) (p q : Int) : 0 ≤ GenW.withS T p q ∧ GenW.withS T p q ≤ 255 := by
  unfold GenW.withS
  split
  · exact with_in _ _
  · have := SetM.of_lt [p]; omega
theorem genRl_may (T : Tab) (L : List Int) (i : Int) (n : Nat) (n0 : 0 < n) (n8 : n ≤ 8) : Rl.may (GenR.genRl T L i n) = true := by
  have a6 := num_range L (i + 6) 10 (by omega)
  have a7 := num_range L (i + 7) 256 (by omega)
  have a8 := num_range L (i + 8) 4 (by omega)
  have a9 := num_range L (i + 9) 6 (by omega)
  have aa := num_range L (i + 10) 6 (by omega)
  have ab := num_range L (i + 11) 15 (by omega)
  have ad := num_range L (i + 13) 30 (by omega)
  have al := GenR.lim_range (num L (i + 14) 3)
  unfold Rl.may
  simp only [Bool.and_eq_true, allIn_iff]
  refine ⟨?_, ?_, ?_⟩
  · intro x hx
    simp only [GenR.genRl, List.mem_cons, List.not_mem_nil, or_false] at hx
    rcases hx with rfl | rfl | rfl | rfl
    · exact andNot_in _ _ (and_in _ _ (by omega))
    · split
      · exact withS_in _ _ _
      · omega
    · exact withS_in _ _ _
    · exact withS_in _ _ _
  · intro x hx
    simp only [GenR.genRl, List.mem_cons, List.not_mem_nil, or_false] at hx
    rcases hx with rfl | rfl | rfl | rfl | rfl | rfl
    · omega
    · omega
    · omega
    · split <;> omega
    · omega
    · split <;> omega
  · intro x hx
    simp only [GenR.genRl, List.mem_cons, List.not_mem_nil, or_false] at hx
    subst hx
    omega
theorem genBs_may (L : List Int) (i n : Nat) : Bs.may (genBs L i n) = true := by
  have a0 := num_range L (330 + 2 * i) 256 (by omega)
  have a1 := num_range L (331 + 2 * i) 30 (by omega)
  have b := and_in (num L (330 + 2 * i) 256) (GenR.maskV n) (by omega)
  unfold Bs.may
  simp only [Bool.and_eq_true, allIn_iff]
  constructor
  · intro x hx
    simp only [genBs, List.mem_cons, List.not_mem_nil, or_false] at hx
    subst hx
    omega
  · intro x hx
    simp only [genBs, List.mem_cons, List.not_mem_nil, or_false] at hx
    subst hx
    omega
theorem sums_in (l : List Int) : 0 ≤ RefC.sums l ∧ RefC.sums l ≤ 2147483647 := by
  unfold RefC.sums
  have h : ∀ (l : List Int) (a : Int), 0 ≤ a ∧ a ≤ 2147483647 → 0 ≤ l.foldl RefC.add a ∧ l.foldl RefC.add a ≤ 2147483647 := by
    intro l
    induction l with
    | nil => intro a h; exact h
    | cons x l ih => intro a _; exact ih _ ⟨RefC.cap_lo _, RefC.cap_hi _⟩
  exact h l 0 (by omega)
theorem wait_in (T : Tab) (p : Int) : 0 ≤ WaitS.waitS T p ∧ WaitS.waitS T p ≤ 2147483647 := by
  have hf : 0 ≤ FreeS.freeS T p ∧ FreeS.freeS T p ≤ 2147483647 := by
    unfold FreeS.freeS
    split
    · split
      · exact sums_in _
      · omega
    · omega
  unfold WaitS.waitS
  split
  · exact hf
  · exact sums_in _
theorem maxW_in (T : Tab) : ∀ p, 0 ≤ maxW T p ∧ maxW T p ≤ 2147483647
  | 0 => by show (0 : Int) ≤ 0 ∧ (0 : Int) ≤ 2147483647; omega
  | p + 1 => by
    have h1 := maxW_in T p
    have h2 := wait_in T p
    show 0 ≤ max (maxW T p) (WaitS.waitS T p) ∧ max (maxW T p) (WaitS.waitS T p) ≤ 2147483647
    omega
/-- By any numbers the table is within its ranges. -/
theorem gen_may (L : List Int) : tabMay (genTab L) = true := by
  obtain ⟨g1, g3⟩ := genG_range L
  have n8 := genN_range L
  have n1 := genN_pos L
  have d9 := num_range L 175 9 (by omega)
  have r4 := num_range L 176 4 (by omega)
  have b3 := num_range L 177 3 (by omega)
  have hD : (genTab L).dets = down (fun i : Nat => GenD.genDet L (180 + 8 * i) (genN L)) (num L 175 9).toNat (num L 175 9).toNat := by unfold genTab; split <;> rfl
  have hR : (genTab L).rails = down (fun i : Nat => GenR.genRl (tab1 L) L (260 + 16 * i) (genN L)) (num L 176 4 % 3).toNat (num L 176 4 % 3).toNat := by unfold genTab; split <;> rfl
  have hB : (genTab L).buses = down (fun i : Nat => genBs L i (genN L)) (num L 177 3).toNat (num L 177 3).toNat := by unfold genTab; split <;> rfl
  have hC : (genTab L).conflict = call L (tab1 L) [0, 0, 0, 0, 0, 0, 0, 0] (genN L) := by
    have h : (tabF L).conflict = call L (tab1 L) [0, 0, 0, 0, 0, 0, 0, 0] (genN L) := by unfold tabF; split <;> rfl
    unfold genTab; split <;> exact h
  have hF : ∀ y ∈ (genTab L).flash, 0 ≤ y ∧ y ≤ 2 := by
    have hu : ∀ y ∈ upd (fun _ => (1 : Int)) 0 (genN L), 0 ≤ y ∧ y ≤ 2 := fun y hy => by rcases upd_mem hy with rfl | ⟨i, _, _, rfl⟩ <;> omega
    have h : ∀ y ∈ (tabF L).flash, 0 ≤ y ∧ y ≤ 2 := by
      unfold tabF; split
      · exact set_in hu (by omega)
      · exact hu
    unfold genTab; split <;> exact h
  have hS : ∀ y ∈ [(genTab L).extend, (genTab L).budget, (genTab L).start, (genTab L).revert, (genTab L).least], 0 ≤ y ∧ y ≤ 9999 := by
    have h : ∀ y ∈ [num L 178 12, num L 179 40, num L 180 8, num L 181 8, num L 182 12], 0 ≤ y ∧ y ≤ 9999 := by
      have a := num_range L 178 12 (by omega)
      have b := num_range L 179 40 (by omega)
      have c := num_range L 180 8 (by omega)
      have d := num_range L 181 8 (by omega)
      have e := num_range L 182 12 (by omega)
      intro y hy
      simp only [List.mem_cons, List.not_mem_nil, or_false] at hy
      rcases hy with rfl | rfl | rfl | rfl | rfl <;> omega
    unfold genTab; split <;> exact h
  have hW : ∀ y ∈ [(genTab L).window, (genTab L).share], 0 ≤ y ∧ y ≤ 2147483647 := by
    have s := num_range L 183 4 (by omega)
    have w0 : (tabS L).window = 0 := by have := congrArg Tab.window (tabS_window L); exact this.symm
    have w := maxW_in (tabS L) (genN L)
    unfold genTab; split
    · intro y hy
      simp only [List.mem_cons, List.not_mem_nil, or_false] at hy
      rcases hy with rfl | rfl
      · rw [w0]; omega
      · show 0 ≤ num L 183 4 ∧ num L 183 4 ≤ 2147483647; omega
    · intro y hy
      simp only [List.mem_cons, List.not_mem_nil, or_false] at hy
      rcases hy with rfl | rfl
      · exact w
      · show 0 ≤ num L 183 4 ∧ num L 183 4 ≤ 2147483647; omega
  unfold tabMay
  simp only [Bool.and_eq_true, listMay_iff, allIn_iff]
  refine ⟨⟨?_, ?_⟩, ⟨?_, ?_⟩, ?_, ⟨?_, ?_⟩, ⟨?_, ?_⟩, ⟨?_, ?_⟩, hS, hF, hW⟩
  · rw [genTab_phases, upd_len]; decide
  · rw [genTab_phases]
    intro x hx
    rcases upd_mem hx with rfl | ⟨i, _, _, rfl⟩
    · exact zPh_may
    · exact genPh_may _ _
  · rw [genTab_groups, genGs_len]; omega
  · rw [genTab_groups]; exact up_may L (genG L) g3 _ (Nat.le_refl _)
  · rw [hC]; exact call_in (fun y hy => by simp at hy; omega) _
  · rw [hD, down_len]; omega
  · rw [hD]
    intro x hx
    obtain ⟨i, _, _, rfl⟩ := down_mem (Nat.le_refl _) hx
    exact genDet_may _ _ _ (by omega) n8
  · rw [hR, down_len]; omega
  · rw [hR]
    intro x hx
    obtain ⟨i, _, _, rfl⟩ := down_mem (Nat.le_refl _) hx
    exact genRl_may _ _ _ _ (by omega) n8
  · rw [hB, down_len]; omega
  · rw [hB]
    intro x hx
    obtain ⟨i, _, _, rfl⟩ := down_mem (Nat.le_refl _) hx
    exact genBs_may _ _ _
end GenT
end Go.Proofs.YtkccepdifgldeaaDoor
