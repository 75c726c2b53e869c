/- 11 texts in one file, in build order. -/
import Derived.Test.YtjolhoilcibdfaaGreatRows
import Derived.Test.YtjolhoilcibdfaaGreatPart08
import Derived.Test.YtjolhoilcibdfaaGreatPart05
import Derived.Test.YtjolhoilcibdfaaGreatPart06
import Derived.Test.YtjolhoilcibdfaaGreatPart01
import Derived.Test.YtjolhoilcibdfaaGreatPart04
import Derived.Test.YtjolhoilcibdfaaGreatPart02
import Derived.Deep.Cut
import Derived.LoopTactic
set_option linter.unusedVariables false
set_option linter.unusedSimpArgs false
set_option linter.unusedSectionVars false
/- A search over the phases of a set, 'for p := range set.Each(s) { if bad(p) { return v(p) } }': one law for every body. -/
namespace Go.Proofs.YtjolhoilcibdfaaGreat.Search
open Go.RowKit Go.Shelf
open Each
set_option linter.unusedVariables false
/-- How a round of a search is left: it goes on, nothing that lay has turned; or it returns, and has written the block R. -/
def post (R : Nat) (o : Int → Obj) (bad : Int → Bool) (x : Int) (W : World) : Exit → Act → World → Prop
  | .normal, _, W' => bad x = false ∧ Below W.heap.size W W'
  | .ret, _, W' => bad x = true ∧ W.grownBy W' (some R) ∧ W'.heap[R]? = some (o x)
  | _, _, _ => False
theorem keeps_below {B : Nat} {W W' : World} (h : Below W.heap.size W W') : KeepsFrom B W W' := ⟨h.size, fun k o _ hk _ => (h.block k (Array.getElem?_eq_some_iff.1 hk).1).trans hk⟩
theorem grown_of_below {W W' : World} {row : Option Nat} (h : Below W.heap.size W W') : W.grownBy W' row := ⟨h.os, h.tape, h.output, h.size, fun j hj _ => h.block j hj⟩
theorem grown_trans {A B C : World} {R : Nat} (h : A.grownBy B (some R)) (k : B.grownBy C (some R)) : A.grownBy C (some R) :=
  ⟨k.os.trans h.os, k.tape.trans h.tape, k.output.trans h.output, Nat.le_trans h.size k.size, fun j hj hne => (k.block j (Nat.lt_of_lt_of_le hj h.size) hne).trans (h.block j hj hne)⟩
theorem grown_from {A B C : World} {R : Nat} {row : Option Nat} (h : A.grownBy B (some R)) (k : B.grownBy C row) (hr : ∀ r, row = some r → A.heap.size ≤ r) : A.grownBy C (some R) :=
  ⟨k.os.trans h.os, k.tape.trans h.tape, k.output.trans h.output, Nat.le_trans h.size k.size, fun j hj hne => (k.block j (Nat.lt_of_lt_of_le hj h.size) (fun e => by have := hr j e.symm; omega)).trans (h.block j hj hne)⟩
theorem find_pre {f : Int → Bool} {l p : List Int} {x : Int} (hp : p ++ [x] <+: l) (hn : ∀ y ∈ p, f y = false) (hx : f x = true) : l.find? f = some x := by
  obtain ⟨t, rfl⟩ := hp
  rw [List.append_assoc, List.find?_append, List.find?_eq_none.2 (fun y hy => by simp [hn y hy])]
  simp [hx]
set_option maxHeartbeats 1000000 in
theorem search {n : Nat} {g : Operand} {ps : Array Tmp} {assign body : Code} {Q : Exit → Act → World → Prop} {a : Act} {W0 : World} (bad : Int → Bool) (o : Int → Obj) (Bs R : Nat) (s : Int)
    (hn : 3 ≤ n) (hg : a.eval g = .func (.func 127) #[] #[.pointer (some ⟨Bs, 0, none⟩)]) (hps : ps.size = 1) (hBs : Bs < W0.heap.size) (hR : R < W0.heap.size) (hc : W0.cell? ⟨Bs, 0, none⟩ = some (.int .i64 s)) (a₁ : Int → Act)
    (hassign : ∀ (l : Nat) (x : Int) (W : World) (K : Act → World → Prop), K (a₁ x) W → assign.wpIn (Fence.wide.inRound l) (n - 1 - 1) Tryz.prog (Exit.then K (fun _ _ _ => False)) { tmps := (ps.zip #[Value.int .i64 x]).foldl (fun t (p, v) => t.setIfInBounds p v) a.tmps, defers := [] } W)
    (hbody : ∀ (l : Nat) (x : Int) (W : World), x ∈ SetM.list s → Below W0.heap.size W0 W → body.wpIn (Fence.wide.inRound l) (n - 1 - 1) Tryz.prog (post R o bad x W) (a₁ x) W)
    (hdone : ∀ (D : Nat) (W : World), W0.heap.size ≤ D → (∀ x ∈ SetM.list s, bad x = false) → Below W0.heap.size W0 W → W.heap[D]? = some (.deferred (some [])) → Q .normal { a with defers := { target := .collected D, args := #[] } :: a.defers } W)
    (hstop : ∀ (D : Nat) (x : Int) (W : World), W0.heap.size ≤ D → (SetM.list s).find? bad = some x → bad x = true → W0.grownBy W (some R) → W.heap[R]? = some (o x) → W.heap[D]? = some (.deferred (some [])) → Code.ret.wpIn Fence.wide n Tryz.prog Q { a with defers := { target := .collected D, args := #[] } :: a.defers } W) :
    (Code.rangeFunc g ps assign body).wpIn Fence.wide n Tryz.prog Q a W0 := by
  refine wpIn_rangeFunc_ownG rfl (by omega) (gf := 127) (lb := #[.pointer (some ⟨Bs, 0, none⟩)]) hg trivial (enters_of Tryz.func127 (by kernel_rfl) rfl)
    (each_mem _ (by omega) Bs s W0 hBs hc) Kept.trans (kept_b hBs) (Below.refl _ _) (fun _ => hps.symm)
    (fun pre W => (∀ y ∈ pre, bad y.1 = false) ∧ Below W0.heap.size W0 W)
    (fun c pre W => (c = .ret ∧ ∃ p0 x, pre = p0 ++ [x] ∧ (∀ y ∈ p0, bad y.1 = false) ∧ bad x.1 = true ∧ W.heap[R]? = some (o x.1)) ∧ W0.grownBy W (some R))
    (OwnFrom.and (ownFrom_pure _ _) (ownFrom_below (Nat.le_refl _) (Nat.le_refl _)))
    ?own ⟨by simp, Below.refl _ _⟩ (fun x => a₁ x.1) (fun l x W K h => hassign l x.1 W K h) ?body ?done ?stop
  case own =>
    rintro c pre W W' row ⟨⟨h1, p0, x, h2, h3, h4, h5⟩, hg⟩ hgr hr
    have hlt : R < W.heap.size := (Array.getElem?_eq_some_iff.1 h5).1
    exact ⟨⟨h1, p0, x, h2, h3, h4, (hgr.block R hlt (fun e => by have := (hr R e.symm).1; omega)).trans h5⟩, grown_from hg hgr (fun r e => (hr r e).1)⟩
  case body =>
    rintro l pre x W ⟨hp, hB⟩ _
    refine wpIn_mono (hbody l x.1 W x.2 hB) ?_
    intro e a' W' h
    cases e with
    | normal =>
      obtain ⟨h1, h2⟩ := h
      refine ⟨keeps_below h2, Kept.below h2 (by have := hB.size; omega), ?_, hB.trans (h2.mono hB.size)⟩
      intro y hy
      rcases List.mem_append.1 hy with hy | hy
      · exact hp y hy
      · obtain rfl : y = x := by simpa using hy
        exact h1
    | ret =>
      obtain ⟨h1, h2, h3⟩ := h
      exact ⟨KeepsFrom.of_grownBy h2 (fun j e => by cases e; exact hR), ⟨rfl, pre, x, rfl, hp, h1, h3⟩, grown_trans (grown_of_below (hB.mono (Nat.le_refl _))) h2⟩
    | _ => exact h.elim
  case done =>
    rintro D xs W hD hS ⟨hp, hB⟩ hK
    refine hdone D W hD ?_ hB hK
    rw [← hS]
    intro x hx
    obtain ⟨y, hy, rfl⟩ := List.mem_map.1 hx
    exact hp y hy
  case stop =>
    rintro D c pre W hD hS ⟨⟨rfl, p0, x, rfl, h3, h4, h5⟩, hg⟩ hK
    refine hstop D x.1 W hD (find_pre (p := p0.map Subtype.val) (by simpa using hS) ?_ h4) h4 hg h5 hK
    intro y hy
    obtain ⟨z, hz, rfl⟩ := List.mem_map.1 hy
    exact h3 z hz
end Go.Proofs.YtjolhoilcibdfaaGreat.Search
/- The contracts of package bound's greatest and clearance. -/
namespace Go.Proofs.YtjolhoilcibdfaaGreat.BdG
open Go.ChangeShapes Go.WideShapes Go.ChangeAt
open Go.RowKit Go.Shelf
open Tab Gath OnS RefC Clear Each Search
open May (St phases_in infoP infoT row_new)
set_option linter.unusedVariables false
set_option linter.unusedSimpArgs false
attribute [local go_sem] Oper.semAt_some
section
variable {l n : Nat} {P : Program} {Q : Exit → Act → World → Prop} {S : World → Prop}
/-- A region that draws, in a round, by what holds in each world. -/
theorem region_held {id : Nat} {a : Act} {w : World} {m : List Oper} (hQ : ¬ LetsOut Q) (hd : Up.noDefer m = true) (hm : P.follows .mixedOrders = true)
    (h : wpAnyH P .any m.toArray Q S m.toArray.size (Array.replicate m.toArray.size false) a { w with drawn := w.drawn + 1 }) : (Code.region id m.toArray true).wpIn (Fence.wide.inRound l) n P Q a w :=
  wpIn_region_any hm (Up.any_up hQ (by simpa using hd) _ _ _ _ (wpAny_of_held _ _ _ _ h))
end
theorem hmx : Tryz.prog.follows .mixedOrders = true := by kernel_rfl
theorem laid3 (w : World) (o0 o1 o2 : Obj) : ∃ W, (((w.alloc o0).alloc o1).alloc o2) = W ∧ W.heap.size = w.heap.size + 3 ∧ Below w.heap.size w W ∧ Below (w.heap.size + 1) (w.alloc o0) W ∧ W.heap[w.heap.size + 1]? = some o1 ∧ W.heap[w.heap.size + 2]? = some o2 := by
  refine ⟨_, rfl, by simp, ((((Below.refl _ w).alloc (Nat.le_refl _) _).alloc (by simp) _).alloc (by simp; omega) _), ?_, ?_, ?_⟩
  · have := ((Below.refl (w.alloc o0).heap.size (w.alloc o0)).alloc (Nat.le_refl _) o1).alloc (by simp) o2
    simpa using this
  · have h1 := heap_alloc_new (w.alloc o0) o1
    have h2 := Below.heap_alloc ((w.alloc o0).alloc o1) o2 (w.heap.size + 1) (by simp)
    rw [World.size_alloc] at h1
    exact h2.trans h1
  · have h1 := heap_alloc_new ((w.alloc o0).alloc o1) o2
    simpa using h1
def grS (fv : Ph → Int) (T : Tab) : Int := mosts ((SetM.list (onS T : Nat)).map (fun p => fv (phAt T p)))
def grL (fv : Ph → Int) (T : Tab) (l : List Int) : Int := mosts (l.map (fun p => fv (phAt T p)))
theorem grL_snoc (fv : Ph → Int) (T : Tab) (l : List Int) (p : Int) : grL fv T (l ++ [p]) = max (grL fv T l) (fv (phAt T p)) := by
  unfold grL; rw [List.map_append, List.map_cons, List.map_nil, BdM.mosts_snoc]
set_option maxRecDepth 100000 in
set_option maxHeartbeats 8000000 in
theorem greatest_any (F : FuncId) (fv : Ph → Int) (hE : ∀ args W, Sem.run Tryz.prog (callFunc F args) W = .ok (.enter F args) W) (hF : ∀ u W, Calls Tryz.prog F #[.agg u.cells.toArray] W fun e w' => e = .returned (.int .i64 (fv u)) ∧ Below W.heap.size W w') (T : Tab) (h : Hd) (w : World) (ht : IsTab w h T) :
    Calls Tryz.prog 67 #[.agg (T.cells h).toArray, .func (.func F) #[] #[]] w fun e w' => e = .returned (.int .i64 (grS fv T)) ∧ Below w.heap.size w w' := by
  have C := Lib.hid (cells_ok ht)
  have hsz := C.out.size
  have IA : Hid ((Tryz.prog.info? 32).map (·.size) = some (T.cells h).length) := Lib.hid (by rw [List.size_toArray] at hsz; rw [hsz]; exact infoT)
  have ON : Hid (∀ W, Below w.heap.size w W → Calls Tryz.prog 96 #[.agg (T.cells h).toArray] W fun e w' => e = .returned (.int .i64 (onS T : Nat)) ∧ Below W.heap.size W w') := Lib.hid (fun W hb => PlanO.pon_any T h W (ht.below hb))
  have L8 := Lib.hid ht.ph
  have S0 := Lib.hid (St.box (cs := (T.cells h).toArray) ht)
  have hs1 : (w.alloc (.cells (T.cells h).toArray 32)).heap.size = w.heap.size + 1 := by simp
  have HFH := Lib.hid hF
  have YR : Hid (grS fv T = grL fv T (SetM.list (onS T : Nat))) := Lib.hid rfl
  generalize grS fv T = res at YR ⊢
  have HEH := Lib.hid hE
  clear ht hF hE
  generalize T.cells h = c at *
  generalize ((onS T : Nat) : Int) = os at *
  refine (callsIn_wide (n := 3)).1 ?_
  refine callsIn_of_wp_marks Tryz.func67 rfl trivial ?_ rfl
  simp only [Tryz.ntmps67, List.size_toArray, List.length_cons, List.length_nil, Nat.reduceAdd, Nat.reduceSub, Array.replicate_succ, Array.replicate_zero, List.push_toArray, List.append_toArray, List.nil_append, List.cons_append]
  refine wpIn_wide.2 ?_
  go_upto_region 2 with fail
  obtain ⟨W1, hW1, E1, E0, EB, bF, bR⟩ := laid3 w (.cells c.toArray 32) (.cells #[.func (.func F) #[] #[]] 88) (.cells #[.int .i64 0] 3)
  rw [hW1]
  have S1 := Lib.hid (S0.out.step (by rw [hs1]; exact EB))
  have B0 := Lib.hid E0
  have LT : Hid (Lies W1 ⟨w.heap.size, 0, none⟩ c) := Lib.hid (by have := Row.lies_of_block S1.out.blk; simpa using this)
  clear hW1 EB hs1 hsz S0 E0
  go_wp2_with (refine Row.wpList_load_g 32 _ rfl (by first | rfl | go_simp) ⟨w.heap.size, 0, none⟩ rfl c _ LT.out Tryz.underlying32 rfl IA.out ?_)
  refine (ON.out _ B0.out).mono ?_
  rintro e W3 ⟨rfl, hb⟩
  go_wp2_with fail
  refine (callsIn_wide.1 (Each.each_in 3 _ _)).mono ?_
  rintro e w' ⟨rfl, rfl⟩
  go_wp2_with fail
  have hb4 : Below W1.heap.size W1 (W3.alloc (.cells #[.int .i64 os] 3)) := hb.alloc hb.size _
  have bE : Boxed (W3.alloc (.cells #[.int .i64 os] 3)) W3.heap.size 3 (.int .i64 os) := Boxed.new _ _ _
  have hsz3 : (W3.alloc (.cells #[.int .i64 os] 3)).heap.size = W3.heap.size + 1 := by simp
  have hs3 := hb.size
  generalize W3.alloc (.cells #[.int .i64 os] 3) = W4 at hb4 bE hsz3 ⊢
  have bR4 : Boxed W4 (w.heap.size + 2) 3 (.int .i64 0) := (hb4.block _ (by omega)).trans bR
  have bF4 : Boxed W4 (w.heap.size + 1) 88 (.func (.func F) #[] #[]) := (hb4.block _ (by omega)).trans bF
  have S4 := Lib.hid (S1.out.step hb4)
  have C0 : Hid (Below w.heap.size w W4) := Lib.hid (B0.out.trans (hb4.mono B0.out.size))
  have E4 : w.heap.size + 3 < W4.heap.size := by omega
  have E5 : W3.heap.size < W4.heap.size := by omega
  have E6 : w.heap.size + 2 < W3.heap.size := by omega
  clear hb hb4 bR bF LT B0 hs3 S1
  generalize W3.heap.size = be at *
  refine (wpIn_wide (n := 3)).1 ?_
  refine wpIn_rangeFunc_ownG rfl (by omega) (gf := 127) (lb := #[.pointer (some ⟨be, 0, none⟩)]) rfl trivial (enters_of Tryz.func127 (by kernel_rfl) rfl)
    (each_mem _ (by omega) be os W4 (by omega) bE.cell) Kept.trans (kept_b E5) (Below.refl _ _) (fun _ => rfl)
    (fun pre W => Boxed W (w.heap.size + 2) 3 (.int .i64 (grL fv T (pre.map Subtype.val))) ∧ W4.grownBy W (some (w.heap.size + 2)))
    (fun _ _ _ => False)
    ?own (fun _ _ _ _ _ hs _ _ => hs) ⟨bR4, grown_of_below (Below.refl _ _)⟩
    (fun x => { tmps := #[.agg c.toArray, .func (.func F) #[] #[], .pointer (some ⟨w.heap.size, 0, none⟩), .pointer (some ⟨w.heap.size + 1, 0, none⟩), .int .i64 0, .pointer (some ⟨w.heap.size + 2, 0, none⟩), .int .i64 x.1, .agg c.toArray, .int .i64 os, .func (.func 127) #[] #[.pointer (some ⟨be, 0, none⟩)], .int .i64 x.1, undef, undef, undef, undef, undef, undef, undef, undef, undef], defers := [] }) ?assign ?body ?done ?stop
  case own =>
    rintro pre W W' row ⟨h1, h2⟩ hgr hr
    exact ⟨h1.kept hgr (fun e => by have := (hr _ e.symm).1; omega), grown_from h2 hgr (fun r e => (hr r e).1)⟩
  case assign =>
    intro l x W K hK
    gi_wp2
    exact hK
  case body =>
    rintro l pre ⟨x, hx⟩ W ⟨hv, hg⟩ hlt
    have hx8 := SetM.list_bd _ x hx
    obtain ⟨k, rfl⟩ := Int.eq_ofNat_of_zero_le hx8.1
    have hk : k < 8 := by omega
    have hpv : T.phases[k]? = some (phAt T k) := by
      unfold phAt
      rw [Int.toNat_natCast, List.getD_eq_getElem?_getD, List.getElem?_eq_getElem (by rw [L8.out]; exact hk)]; rfl
    have GS := Lib.hid (grL_snoc fv T (pre.map Subtype.val) k)
    generalize phAt T k = u at hpv GS
    obtain ⟨y, hy, hcc⟩ := (phases_in S4.out.blk C.out L8.out).at hpv
    obtain rfl := Option.some.inj hy
    have HL4 := Lib.hid (show Lies W4 ⟨w.heap.size, k * 13, none⟩ u.cells by have := hcc; rwa [Addr.add_mid, Nat.zero_add] at this)
    have HLW : Hid (Lies W ⟨w.heap.size, k * 13, none⟩ u.cells) := Lib.hid (fun j v hj => by
      have h1 := HL4.out j v hj
      rw [Addr.add_mid] at h1 ⊢
      exact (Kept.cell (hg.block w.heap.size (by omega) (fun e => by have := Option.some.inj e; omega))).trans h1)
    have bFW : Boxed W (w.heap.size + 1) 88 (.func (.func F) #[] #[]) := (hg.block _ (by omega) (fun e => by have := Option.some.inj e; omega)).trans bF4
    have hWs := hg.size
    clear hpv hcc hy HL4
    have M5 : Hid (∀ w', Below W.heap.size W w' → w'.cell? ⟨w.heap.size + 2, 0, none⟩ = some (.int .i64 (grL fv T (pre.map Subtype.val)))) := Lib.hid (fun w' hb => (show Boxed w' _ _ _ from (hb.block _ (by omega)).trans hv).cell)
    have M3 : Hid (∀ w', W.grownBy w' (some (w.heap.size + 2)) → w'.cell? ⟨w.heap.size + 1, 0, none⟩ = some (.func (.func F) #[] #[])) := Lib.hid (fun w' hb => (show Boxed w' _ _ _ from (hb.block _ (by omega) (fun e => by have := Option.some.inj e; omega)).trans bFW).cell)
    have MP : Hid (∀ w', W.grownBy w' (some (w.heap.size + 2)) → Lies w' ⟨w.heap.size, k * 13, none⟩ u.cells) := Lib.hid (fun w' hb j v hj => by
      have h1 := HLW.out j v hj
      rw [Addr.add_mid] at h1 ⊢
      exact (Kept.cell (hb.block w.heap.size (by omega) (fun e => by have := Option.some.inj e; omega))).trans h1)
    clear bFW HLW
    dsimp only
    generalize grL fv T (pre.map Subtype.val) = m at *
    gi_wp2
    refine region_held (S := fun w' => W.grownBy w' (some (w.heap.size + 2))) (fun ⟨_, _, h⟩ => h) (by kernel_rfl) hmx ?_
    have hB : Below W.heap.size W { W with drawn := W.drawn + 1 } := (Below.refl _ _).drew
    have hS : W.grownBy { W with drawn := W.drawn + 1 } (some (w.heap.size + 2)) := grown_of_below hB
    generalize ({ W with drawn := W.drawn + 1 } : World) = v at hS hB ⊢
    refine Held.take (i := 1) (some 12) rfl (v := ?_) rfl (by kernel_rfl) (by kernel_rfl) (by kernel_rfl) (fun _ _ _ h => h) (Or.inl ⟨by rfl, ?_⟩) hS ?_
    rotate_left
    · intro w' hw'
      have cf := M3.out w' hw'
      go_simp
      try with_reducible rfl
    (try dsimp only [Act.put]); (try simp only [List.setIfInBounds_toArray, List.set_cons_zero, List.set_cons_succ])
    refine Held.take (i := 2) (some 13) rfl (v := ?_) rfl (by kernel_rfl) (by kernel_rfl) (by kernel_rfl) (fun _ _ _ h => h) (Or.inl ⟨by rfl, ?_⟩) hS ?_
    rotate_left
    · intro w' hw'
      go_simp
      try with_reducible rfl
    (try dsimp only [Act.put]); (try simp only [List.setIfInBounds_toArray, List.set_cons_zero, List.set_cons_succ])
    refine Held.take (i := 3) (some 14) rfl (v := ?_) rfl (by kernel_rfl) (by kernel_rfl) (by kernel_rfl) (fun _ _ _ h => h) (Or.inl ⟨by rfl, ?_⟩) hS ?_
    rotate_left
    · intro w' hw'
      go_simp
      try with_reducible rfl
    (try dsimp only [Act.put]); (try simp only [List.setIfInBounds_toArray, List.set_cons_zero, List.set_cons_succ])
    refine Held.take (i := 4) (some 15) rfl (v := ?_) rfl (by kernel_rfl) (by kernel_rfl) (by kernel_rfl) (fun _ _ _ h => h) (Or.inl ⟨by rfl, ?_⟩) hS ?_
    rotate_left
    · intro w' hw'
      go_simp
      try with_reducible rfl
    (try dsimp only [Act.put]); (try simp only [List.setIfInBounds_toArray, List.set_cons_zero, List.set_cons_succ])
    refine Held.take_load (i := 5) (some 16) rfl 24 (.tmp 15) ⟨w.heap.size, k * 13, none⟩ u.cells _ rfl rfl (by kernel_rfl) (by kernel_rfl) (by kernel_rfl) (fun _ _ _ h => h) (by rfl) hS rfl (fun w' hw' => MP.out w' hw') Tryz.underlying24 rfl infoP ?_
    (try dsimp only [Act.put]); (try simp only [List.setIfInBounds_toArray, List.set_cons_zero, List.set_cons_succ])
    refine wpAnyH_ready (rs := [0, 6]) (by kernel_rfl) (by simp) (AllReadyH.cons rfl (fun K hK => ?_) (AllReadyH.cons rfl (fun K hK => ?_) AllReadyH.nil))
    · have c5 := M5.out v hB
      go_simp
      refine hK.out _ _ hS (fun hS => ?_)
      clear hK K c5
      refine wpAnyH_ready (rs := [6]) (by kernel_rfl) (by simp) (AllReadyH.cons rfl (fun K hK => ?_) AllReadyH.nil)
      go_simp
      rw [HEH.out]
      go_simp
      refine (HFH.out u _).mono ?_
      rintro e w' ⟨rfl, hb⟩
      have hq : W.grownBy w' (some (w.heap.size + 2)) := grown_trans hS (grown_of_below hb)
      have hB2 := hB.trans (hb.mono hB.size)
      clear hS hb hB
      have hB := hB2
      clear hB2
      rename World => v
      go_simp
      refine hK.out _ _ hq (fun hS => ?_)
      clear hK K hq
      generalize fv u = z at *
      refine Held.take (i := 7) (some 18) rfl (v := .int .i64 (max m z)) rfl (by kernel_rfl) (by kernel_rfl) (by kernel_rfl) (fun _ _ _ h => h) (Or.inl ⟨by rfl, ?_⟩) hS ?_
      · intro w' hw'
        go_simp
        try (first | rfl | (simp only [Int.max_def]; split <;> split <;> omega))
      (try dsimp only [Act.put]); (try simp only [List.setIfInBounds_toArray, List.set_cons_zero, List.set_cons_succ])
      refine wpAnyH_ready (rs := [8]) (by kernel_rfl) (by simp) (AllReadyH.cons rfl (fun K hK => ?_) AllReadyH.nil)
      have c5 := M5.out v hB
      have hv5 : Boxed v (w.heap.size + 2) 3 (.int .i64 m) := (hB.block _ (by omega)).trans hv
      have f5 := hv5.frozen
      have hq : W.grownBy (v.setCell ⟨w.heap.size + 2, 0, none⟩ (.int .i64 (max m z))) (some (w.heap.size + 2)) := grown_trans hS (grownBy_setCell' _ _ _)
      have hkf : KeepsFrom W4.heap.size W (v.setCell ⟨w.heap.size + 2, 0, none⟩ (.int .i64 (max m z))) := KeepsFrom.of_grownBy hq (fun j e => by cases e; omega)
      have hke : Kept be W (v.setCell ⟨w.heap.size + 2, 0, none⟩ (.int .i64 (max m z))) := Kept.trans (Kept.below hB (by omega)) (Kept.setCell _ _ (by omega))
      have hvz := hv5.set (.int .i64 (max m z))
      have hgz : W4.grownBy (v.setCell ⟨w.heap.size + 2, 0, none⟩ (.int .i64 (max m z))) (some (w.heap.size + 2)) := grown_trans hg (grown_trans (grown_of_below hB) (grownBy_setCell' _ _ _))
      clear hS
      go_simp
      refine hK.out _ _ hq (fun hS => ?_)
      clear hK K
      refine wpAnyH_done (by kernel_rfl) ?_ _
      clear hS hq c5 f5
      gi_wp2
      exact ⟨hkf, hke, by rw [List.map_append, List.map_cons, List.map_nil, GS.out]; exact hvz, hgz⟩
    · go_simp
      rw [HEH.out]
      go_simp
      refine (HFH.out u _).mono ?_
      rintro e w' ⟨rfl, hb⟩
      have hq : W.grownBy w' (some (w.heap.size + 2)) := grown_trans hS (grown_of_below hb)
      have hB2 := hB.trans (hb.mono hB.size)
      clear hS hb hB
      have hB := hB2
      clear hB2
      rename World => v
      go_simp
      refine hK.out _ _ hq (fun hS => ?_)
      clear hK K hq
      refine wpAnyH_ready (rs := [0]) (by kernel_rfl) (by simp) (AllReadyH.cons rfl (fun K hK => ?_) AllReadyH.nil)
      have c5 := M5.out v hB
      go_simp
      refine hK.out _ _ hS (fun hS => ?_)
      clear hK K c5
      generalize fv u = z at *
      refine Held.take (i := 7) (some 18) rfl (v := .int .i64 (max m z)) rfl (by kernel_rfl) (by kernel_rfl) (by kernel_rfl) (fun _ _ _ h => h) (Or.inl ⟨by rfl, ?_⟩) hS ?_
      · intro w' hw'
        go_simp
        try (first | rfl | (simp only [Int.max_def]; split <;> split <;> omega))
      (try dsimp only [Act.put]); (try simp only [List.setIfInBounds_toArray, List.set_cons_zero, List.set_cons_succ])
      refine wpAnyH_ready (rs := [8]) (by kernel_rfl) (by simp) (AllReadyH.cons rfl (fun K hK => ?_) AllReadyH.nil)
      have c5 := M5.out v hB
      have hv5 : Boxed v (w.heap.size + 2) 3 (.int .i64 m) := (hB.block _ (by omega)).trans hv
      have f5 := hv5.frozen
      have hq : W.grownBy (v.setCell ⟨w.heap.size + 2, 0, none⟩ (.int .i64 (max m z))) (some (w.heap.size + 2)) := grown_trans hS (grownBy_setCell' _ _ _)
      have hkf : KeepsFrom W4.heap.size W (v.setCell ⟨w.heap.size + 2, 0, none⟩ (.int .i64 (max m z))) := KeepsFrom.of_grownBy hq (fun j e => by cases e; omega)
      have hke : Kept be W (v.setCell ⟨w.heap.size + 2, 0, none⟩ (.int .i64 (max m z))) := Kept.trans (Kept.below hB (by omega)) (Kept.setCell _ _ (by omega))
      have hvz := hv5.set (.int .i64 (max m z))
      have hgz : W4.grownBy (v.setCell ⟨w.heap.size + 2, 0, none⟩ (.int .i64 (max m z))) (some (w.heap.size + 2)) := grown_trans hg (grown_trans (grown_of_below hB) (grownBy_setCell' _ _ _))
      clear hS
      go_simp
      refine hK.out _ _ hq (fun hS => ?_)
      clear hK K
      refine wpAnyH_done (by kernel_rfl) ?_ _
      clear hS hq c5 f5
      gi_wp2
      exact ⟨hkf, hke, by rw [List.map_append, List.map_cons, List.map_nil, GS.out]; exact hvz, hgz⟩
  case done =>
    rintro D ys W hD hS ⟨hv, hg⟩ hK
    have hc := hv.cell
    have HR : Hid (grL fv T (ys.map Subtype.val) = res) := Lib.hid (by rw [hS]; exact YR.out.symm)
    have HB : Hid (Below w.heap.size w W) := Lib.hid (C0.out.grown hg (by omega) (fun k e => by cases e; omega))
    clear hg
    go_wp2
    refine ⟨by simp, .inl ⟨_, _, rfl, run_takeDeferred hK, ?_⟩⟩
    exact ⟨_, results_tmp rfl _ _ _, by rw [show res = grL fv T (SetM.list os) from YR.out]; rfl, HB.out.trans (belowK_b (w := w) (Nat.le_refl _) _ D _ _ (by omega) hK rfl rfl)⟩
  case stop =>
    rintro D c pre W hD _ h _
    exact h.elim
set_option maxRecDepth 100000 in
set_option maxHeartbeats 4000000 in
theorem clearance_any (T : Tab) (h : Hd) (w : World) (ht : IsTab w h T) :
    Calls Tryz.prog 65 #[.agg (T.cells h).toArray] w fun e w' => e = .returned (.int .i64 (clearS T)) ∧ Below w.heap.size w w' := by
  have C := Lib.hid (cells_ok ht)
  have hsz := C.out.size
  have IA : Hid ((Tryz.prog.info? 32).map (·.size) = some (T.cells h).length) := Lib.hid (by rw [List.size_toArray] at hsz; rw [hsz]; exact infoT)
  have S0 := Lib.hid (St.box (cs := (T.cells h).toArray) ht)
  have G0 : Hid (∀ W, Below w.heap.size w W → Calls Tryz.prog 67 #[.agg (T.cells h).toArray, .func (.func 103) #[] #[]] W fun e w' => e = .returned (.int .i64 (clearS T)) ∧ Below W.heap.size W w') := Lib.hid (fun W hb => greatest_any _ BdA.clrP (fun _ _ => by first | rfl | kernel_rfl) BdA.clr_any T h W (ht.below hb))
  generalize clearS T = r at *
  clear ht
  generalize T.cells h = c at *
  go_enter Tryz.func65, Tryz.ntmps65
  go_upto_region 1 with fail
  generalize w.alloc (.cells c.toArray 32) = w1 at S0 ⊢
  clear hsz
  have LT : Hid (Lies w1 ⟨w.heap.size, 0, none⟩ c) := Lib.hid (by have := Row.lies_of_block S0.out.blk; simpa using this)
  go_wp2_with (refine Row.wpList_load_g 32 _ rfl (by first | rfl | go_simp) ⟨w.heap.size, 0, none⟩ rfl c _ LT.out Tryz.underlying32 rfl IA.out ?_)
  refine (G0.out _ S0.out.bel).mono ?_
  rintro e w2 ⟨rfl, hb⟩
  have HF := Lib.hid (S0.out.step hb).bel
  clear hb S0 LT
  go_wp2
  go_ret
  exact ⟨rfl, HF.out⟩
end Go.Proofs.YtjolhoilcibdfaaGreat.BdG
/- The contract of package bound's Entry: it answers what the document's own does. -/
namespace Go.Proofs.YtjolhoilcibdfaaGreat.BdE
open Go.ChangeShapes Go.WideShapes Go.ChangeAt Go.RowKit
open Tab Gath OnS RefC Clear
open May (St phases_in infoP infoT row_new)
set_option linter.unusedVariables false
set_option linter.unusedSimpArgs false
open EntryS
open May (infoR)
theorem mulN (n g : Int) (h0 : 0 ≤ n) (h5 : n ≤ 5) : cap (mul n g) = min (n * cap g) 2147483647 := by
  have a := cap_lo g
  have b := cap_hi g
  have c : 0 ≤ n * cap g := Int.mul_nonneg h0 a
  unfold mul
  rw [cap_cap, cap_in (n := n) h0 (by omega)]
  by_cases h : n * cap g ≤ 2147483647
  · rw [cap_in c h]; omega
  · rw [cap_big (by omega)]; omega
theorem entryR_eq (T : Tab) (r : Rl) : entryR T r = sums [r.delay, r.hold, mul 2 r.green, mul 3 r.foot, mul 5 (clearS T), mul 3 T.revert, 60] := by
  have e := fun x => mulN 2 x (by omega) (by omega)
  have e3 := fun x => mulN 3 x (by omega) (by omega)
  have e5 := fun x => mulN 5 x (by omega) (by omega)
  unfold entryR
  rw [BdM.sums_tot, BdM.sums_tot]
  simp only [BdM.tot_cons, BdM.tot_nil, e, e3, e5, show cap 60 = 60 from rfl]
  have := cap_lo r.green
  have := cap_lo r.foot
  have := cap_lo (clearS T)
  have := cap_lo T.revert
  have := cap_lo r.delay
  have := cap_lo r.hold
  omega
set_option maxRecDepth 100000 in
set_option maxHeartbeats 8000000 in
theorem pentry_any (T : Tab) (h : Hd) (k : Int) (w : World) (ht : IsTab w h T) :
    Calls Tryz.prog 31 #[.agg (T.cells h).toArray, .int .i64 k] w fun e w' => e = .returned (.int .i64 (entryS T k)) ∧ Below w.heap.size w w' := by
  have C := Lib.hid (cells_ok ht)
  have hsz := C.out.size
  have IA : Hid ((Tryz.prog.info? 32).map (·.size) = some (T.cells h).length) := Lib.hid (by rw [List.size_toArray] at hsz; rw [hsz]; exact infoT)
  have CC : Hid (∀ W, Below w.heap.size w W → Calls Tryz.prog 65 #[.agg (T.cells h).toArray] W fun e w' => e = .returned (.int .i64 (clearS T)) ∧ Below W.heap.size W w') := Lib.hid (fun W hb => BdG.clearance_any T h W (ht.below hb))
  have S0 := Lib.hid (St.box (cs := (T.cells h).toArray) ht)
  have Kr := ht.rails.len
  unfold maxLen at Kr
  have RS : Hid (entryS T k = if k < 0 then 0 else match T.rails[k.toNat]? with
    | some r => entryR T r
    | none => 0) := Lib.hid rfl
  have ER : Hid (∀ r, entryR T r = sums [r.delay, r.hold, mul 2 r.green, mul 3 r.foot, mul 5 (clearS T), mul 3 T.revert, 60]) := Lib.hid (entryR_eq T)
  generalize entryS T k = e0 at RS ⊢
  generalize clearS T = cl at CC ER
  clear ht
  generalize T.cells h = c at *
  go_enter Tryz.func31, Tryz.ntmps31
  go_upto_region 1 with fail
  generalize w.alloc (.cells c.toArray 32) = w1 at S0 ⊢
  clear hsz
  have q114 := S0.out.cell C.out.r
  by_cases h0 : k < 0
  · have HE : Hid (0 = e0) := Lib.hid (by rw [RS.out, if_pos h0])
    go_wp2
    go_ret
    exact ⟨RefC.ret_int HE.out, S0.out.bel⟩
  obtain ⟨m, rfl⟩ := Int.eq_ofNat_of_zero_le (show 0 ≤ k by omega)
  by_cases h1 : T.rails.length ≤ m
  · have HE : Hid (0 = e0) := Lib.hid (by rw [RS.out, if_neg h0, Int.toNat_natCast, List.getElem?_eq_none h1])
    go_wp2
    go_ret
    exact ⟨RefC.ret_int HE.out, S0.out.bel⟩
  have hlt : m < T.rails.length := by omega
  have hv := List.getElem?_eq_getElem hlt
  generalize T.rails[m] = r at hv
  have HE : Hid (entryR T r = e0) := Lib.hid (by rw [RS.out, if_neg h0, Int.toNat_natCast, hv])
  obtain ⟨x, hx, hc⟩ := S0.out.tab.rails.at hv
  have HC := Lib.hid hc
  have qq : Hid (w1.cell? ⟨w.heap.size, 114, none⟩ = some (.slice (some x) T.rails.length h.r.cap)) := by have := q114; simp only [Sl.val, hx] at this; exact this
  clear hv hc hx q114 h0 h1 RS
  have q114 := qq.out
  go_upto_region 3 with fail
  go_upto_region 4 with (first | (refine Row.wpList_load_g 47 _ rfl (by first | rfl | go_simp) (x.add (m * 11)) rfl r.cells _ HC.out Tryz.underlying47 rfl infoR ?_) | (refine Row.wpList_store_new rfl 47 _ _ rfl w1 _ r.cells.toArray rfl rfl rfl infoR rfl (Rl.one _) ?_))
  have hb2 : Below w1.heap.size w1 (w1.alloc (.cells r.cells.toArray 47)) := (Below.refl _ _).alloc (Nat.le_refl _) _
  have hg := heap_alloc_new w1 (.cells r.cells.toArray 47)
  (try dsimp only [Act.put])
  have S1 := Lib.hid (S0.out.step hb2)
  clear q114 qq HC
  generalize World.alloc w1 _ = w2 at hg S1 ⊢
  generalize w1.heap.size = b at hg ⊢
  have HL : Hid (Lies w2 ⟨b, 0, none⟩ r.cells) := Lib.hid (by have := Row.lies_of_block hg; simpa using this)
  clear hg hb2 S0
  have LT : Hid (∀ w', Below w2.heap.size w2 w' → Lies w' ⟨w.heap.size, 0, none⟩ c) := Lib.hid (fun w' hb => by have := Row.lies_of_block (S1.out.step hb).blk; simpa using this)
  have M4 : Hid (∀ w', Below w2.heap.size w2 w' → w'.cell? ⟨b, 4, none⟩ = some (I r.delay)) := Lib.hid (fun w' hb => by have := (HL.out.below hb) 4 _ rfl; rwa [Addr.add_mid, Nat.zero_add] at this)
  have M5 : Hid (∀ w', Below w2.heap.size w2 w' → w'.cell? ⟨b, 5, none⟩ = some (I r.green)) := Lib.hid (fun w' hb => by have := (HL.out.below hb) 5 _ rfl; rwa [Addr.add_mid, Nat.zero_add] at this)
  have M6 : Hid (∀ w', Below w2.heap.size w2 w' → w'.cell? ⟨b, 6, none⟩ = some (I r.foot)) := Lib.hid (fun w' hb => by have := (HL.out.below hb) 6 _ rfl; rwa [Addr.add_mid, Nat.zero_add] at this)
  have M7 : Hid (∀ w', Below w2.heap.size w2 w' → w'.cell? ⟨b, 7, none⟩ = some (I r.hold)) := Lib.hid (fun w' hb => by have := (HL.out.below hb) 7 _ rfl; rwa [Addr.add_mid, Nat.zero_add] at this)
  have MR : Hid (∀ w', Below w2.heap.size w2 w' → w'.cell? ⟨w.heap.size, 119, none⟩ = some (I T.revert)) := Lib.hid (fun w' hb => (S1.out.step hb).cell C.out.revert)
  refine wp_region_held (S := fun w' => Below w2.heap.size w2 w') (by kernel_rfl) ?_
  have hS : Below w2.heap.size w2 { w2 with drawn := w2.drawn + 1 } := (Below.refl _ _).drew
  generalize ({ w2 with drawn := w2.drawn + 1 } : World) = v at hS ⊢
  refine Held.take (i := 0) (some 20) rfl (v := ?_) rfl (by kernel_rfl) (by kernel_rfl) (by kernel_rfl) (fun _ _ _ h => h) (Or.inl ⟨by rfl, ?_⟩) hS ?_
  rotate_left
  · intro w' hw'
    go_simp
    try with_reducible rfl
  (try dsimp only [Act.put]); (try simp only [List.setIfInBounds_toArray, List.set_cons_zero, List.set_cons_succ])
  refine Held.take (i := 1) (some 21) rfl (v := ?_) rfl (by kernel_rfl) (by kernel_rfl) (by kernel_rfl) (fun _ _ _ h => h) (Or.inl ⟨by rfl, ?_⟩) hS ?_
  rotate_left
  · intro w' hw'
    have cf := M4.out w' hw'
    go_simp
    try with_reducible rfl
  (try dsimp only [Act.put]); (try simp only [List.setIfInBounds_toArray, List.set_cons_zero, List.set_cons_succ])
  refine Held.take (i := 2) (some 22) rfl (v := ?_) rfl (by kernel_rfl) (by kernel_rfl) (by kernel_rfl) (fun _ _ _ h => h) (Or.inl ⟨by rfl, ?_⟩) hS ?_
  rotate_left
  · intro w' hw'
    go_simp
    try with_reducible rfl
  (try dsimp only [Act.put]); (try simp only [List.setIfInBounds_toArray, List.set_cons_zero, List.set_cons_succ])
  refine Held.take (i := 3) (some 23) rfl (v := ?_) rfl (by kernel_rfl) (by kernel_rfl) (by kernel_rfl) (fun _ _ _ h => h) (Or.inl ⟨by rfl, ?_⟩) hS ?_
  rotate_left
  · intro w' hw'
    have cf := M7.out w' hw'
    go_simp
    try with_reducible rfl
  (try dsimp only [Act.put]); (try simp only [List.setIfInBounds_toArray, List.set_cons_zero, List.set_cons_succ])
  refine Held.take (i := 4) (some 24) rfl (v := ?_) rfl (by kernel_rfl) (by kernel_rfl) (by kernel_rfl) (fun _ _ _ h => h) (Or.inl ⟨by rfl, ?_⟩) hS ?_
  rotate_left
  · intro w' hw'
    go_simp
    try with_reducible rfl
  (try dsimp only [Act.put]); (try simp only [List.setIfInBounds_toArray, List.set_cons_zero, List.set_cons_succ])
  refine Held.take (i := 5) (some 25) rfl (v := ?_) rfl (by kernel_rfl) (by kernel_rfl) (by kernel_rfl) (fun _ _ _ h => h) (Or.inl ⟨by rfl, ?_⟩) hS ?_
  rotate_left
  · intro w' hw'
    have cf := M5.out w' hw'
    go_simp
    try with_reducible rfl
  (try dsimp only [Act.put]); (try simp only [List.setIfInBounds_toArray, List.set_cons_zero, List.set_cons_succ])
  refine Held.take (i := 7) (some 27) rfl (v := ?_) rfl (by kernel_rfl) (by kernel_rfl) (by kernel_rfl) (fun _ _ _ h => h) (Or.inl ⟨by rfl, ?_⟩) hS ?_
  rotate_left
  · intro w' hw'
    go_simp
    try with_reducible rfl
  (try dsimp only [Act.put]); (try simp only [List.setIfInBounds_toArray, List.set_cons_zero, List.set_cons_succ])
  refine Held.take (i := 8) (some 28) rfl (v := ?_) rfl (by kernel_rfl) (by kernel_rfl) (by kernel_rfl) (fun _ _ _ h => h) (Or.inl ⟨by rfl, ?_⟩) hS ?_
  rotate_left
  · intro w' hw'
    have cf := M6.out w' hw'
    go_simp
    try with_reducible rfl
  (try dsimp only [Act.put]); (try simp only [List.setIfInBounds_toArray, List.set_cons_zero, List.set_cons_succ])
  refine Held.take_load (i := 10) (some 30) rfl 32 (.tmp 2) ⟨w.heap.size, 0, none⟩ c _ rfl rfl (by kernel_rfl) (by kernel_rfl) (by kernel_rfl) (fun _ _ _ h => h) (by rfl) hS rfl (fun w' hw' => LT.out w' hw') Tryz.underlying32 rfl IA.out ?_
  (try dsimp only [Act.put]); (try simp only [List.setIfInBounds_toArray, List.set_cons_zero, List.set_cons_succ])
  refine Held.take (i := 13) (some 33) rfl (v := ?_) rfl (by kernel_rfl) (by kernel_rfl) (by kernel_rfl) (fun _ _ _ h => h) (Or.inl ⟨by rfl, ?_⟩) hS ?_
  rotate_left
  · intro w' hw'
    go_simp
    try with_reducible rfl
  (try dsimp only [Act.put]); (try simp only [List.setIfInBounds_toArray, List.set_cons_zero, List.set_cons_succ])
  refine Held.take (i := 14) (some 34) rfl (v := ?_) rfl (by kernel_rfl) (by kernel_rfl) (by kernel_rfl) (fun _ _ _ h => h) (Or.inl ⟨by rfl, ?_⟩) hS ?_
  rotate_left
  · intro w' hw'
    have cf := MR.out w' hw'
    go_simp
    try with_reducible rfl
  (try dsimp only [Act.put]); (try simp only [List.setIfInBounds_toArray, List.set_cons_zero, List.set_cons_succ])
  refine wpAnyH_ready (rs := [6]) (by kernel_rfl) (by simp) (AllReadyH.cons rfl (fun K hK => ?_) AllReadyH.nil)
  go_simp
  refine (BdS.mul_any 2 r.green _).mono ?_
  rintro e w' ⟨rfl, rfl⟩
  go_simp
  refine hK.out _ _ hS (fun hS => ?_)
  clear hK K
  refine wpAnyH_ready (rs := [9]) (by kernel_rfl) (by simp) (AllReadyH.cons rfl (fun K hK => ?_) AllReadyH.nil)
  go_simp
  refine (BdS.mul_any 3 r.foot _).mono ?_
  rintro e w' ⟨rfl, rfl⟩
  go_simp
  refine hK.out _ _ hS (fun hS => ?_)
  clear hK K
  refine wpAnyH_ready (rs := [11]) (by kernel_rfl) (by simp) (AllReadyH.cons rfl (fun K hK => ?_) AllReadyH.nil)
  go_simp
  refine (CC.out _ (S1.out.step hS).bel).mono ?_
  rintro e w' ⟨rfl, hb⟩
  have hq := hS.trans (hb.mono hS.size)
  clear hS hb
  rename World => v
  go_simp
  refine hK.out _ _ hq (fun hS => ?_)
  clear hK K hq
  refine wpAnyH_ready (rs := [12]) (by kernel_rfl) (by simp) (AllReadyH.cons rfl (fun K hK => ?_) AllReadyH.nil)
  go_simp
  refine (BdS.mul_any 5 cl _).mono ?_
  rintro e w' ⟨rfl, rfl⟩
  go_simp
  refine hK.out _ _ hS (fun hS => ?_)
  clear hK K
  refine wpAnyH_ready (rs := [15]) (by kernel_rfl) (by simp) (AllReadyH.cons rfl (fun K hK => ?_) AllReadyH.nil)
  go_simp
  refine (BdS.mul_any 3 T.revert _).mono ?_
  rintro e w' ⟨rfl, rfl⟩
  go_simp
  refine hK.out _ _ hS (fun hS => ?_)
  clear hK K
  refine wpAnyH_ready (rs := [16]) (by kernel_rfl) (by simp) (AllReadyH.cons rfl (fun K hK => ?_) AllReadyH.nil)
  go_simp
  have R1 : Hid (IntRow (v.alloc (.cells #[I r.delay, I r.hold, I (mul 2 r.green), I (mul 3 r.foot), I (mul 5 cl), I (mul 3 T.revert), I 60] 3)) ⟨some ⟨v.heap.size, 0, none⟩, 7⟩ [r.delay, r.hold, mul 2 r.green, mul 3 r.foot, mul 5 cl, mul 3 T.revert, 60]) := Lib.hid (row_new v 3 [r.delay, r.hold, mul 2 r.green, mul 3 r.foot, mul 5 cl, mul 3 T.revert, 60] 7 rfl (by decide) _ rfl)
  have hq := hS.alloc hS.size (.cells #[I r.delay, I r.hold, I (mul 2 r.green), I (mul 3 r.foot), I (mul 5 cl), I (mul 3 T.revert), I 60] 3)
  clear hS
  generalize v.heap.size = b1 at R1 ⊢
  generalize World.alloc v _ = v at R1 hq ⊢
  refine hK.out _ _ hq (fun hS => ?_)
  clear hK K hq
  refine wpAnyH_ready (rs := [17]) (by kernel_rfl) (by simp) (AllReadyH.cons rfl (fun K hK => ?_) AllReadyH.nil)
  go_simp
  refine (BdS.sum_row (some ⟨b1, 0, none⟩) 7 [r.delay, r.hold, mul 2 r.green, mul 3 r.foot, mul 5 cl, mul 3 T.revert, 60] 7 rfl _ R1.out).mono ?_
  rintro e w' ⟨rfl, rfl⟩
  go_simp
  refine hK.out _ _ hS (fun hS => ?_)
  clear hK K
  rw [← ER.out r, HE.out]
  refine Held.take (i := 18) (some 4) rfl (v := ?_) rfl (by kernel_rfl) (by kernel_rfl) (by kernel_rfl) (fun _ _ _ h => h) (Or.inl ⟨by rfl, ?_⟩) hS ?_
  rotate_left
  · intro w' hw'
    go_simp
    try with_reducible rfl
  (try dsimp only [Act.put]); (try simp only [List.setIfInBounds_toArray, List.set_cons_zero, List.set_cons_succ])
  refine wpAnyH_done (by kernel_rfl) ?_ _
  have HF := Lib.hid (S1.out.bel.trans (hS.mono S1.out.bel.size))
  clear hS
  go_wp2
  go_ret
  exact ⟨rfl, HF.out⟩
end Go.Proofs.YtjolhoilcibdfaaGreat.BdE
/- The contract of package bound's Over: it answers what the document's own does. -/
namespace Go.Proofs.YtjolhoilcibdfaaGreat.BdO
open Go.ChangeShapes Go.WideShapes Go.ChangeAt Go.RowKit
open Tab Gath OnS RefC Clear
open May (St phases_in infoP infoT row_new)
set_option linter.unusedVariables false
set_option linter.unusedSimpArgs false
open EntryS OverS
open May (infoR)
theorem ovM_cap (T : Tab) (l : List Int) : mosts (ovM T l) = cap (BdG.grL BdA.neededP T l) := by
  induction l with
  | nil => rfl
  | cons p t ih =>
    have e : ovM T (p :: t) = cap (phAt T p).min :: sums [(phAt T p).walk, (phAt T p).blinks] :: ovM T t := rfl
    have e2 : BdG.grL BdA.neededP T (p :: t) = max (max 0 (BdA.neededP (phAt T p))) (BdG.grL BdA.neededP T t) := by unfold BdG.grL; rw [List.map_cons, BdM.mosts_cons]
    rw [e, e2, BdM.mosts_cons, BdM.mosts_cons, ih]
    unfold BdA.neededP
    have := cap_lo (phAt T p).min
    have := BdM.sums_lo [(phAt T p).walk, (phAt T p).blinks]
    simp only [BdM.cap_max, BdM.cap_sums, show cap 0 = 0 from rfl]
    omega
theorem overR_eq (T : Tab) : overR T = sums [mosts (ovL T T.rails.length), BdG.grS BdA.neededP T, clearS T, T.revert, 30] := by
  have e : BdG.grS BdA.neededP T = BdG.grL BdA.neededP T (SetM.list (onS T : Nat)) := rfl
  unfold overR
  rw [ovM_cap, e, BdM.sums_tot, BdM.sums_tot]
  simp only [BdM.tot_cons, BdM.tot_nil, cap_cap]
set_option maxRecDepth 100000 in
set_option maxHeartbeats 8000000 in
theorem pover_any (T : Tab) (h : Hd) (w : World) (ht : IsTab w h T) :
    Calls Tryz.prog 33 #[.agg (T.cells h).toArray] w fun e w' => e = .returned (.int .i64 (overS T)) ∧ Below w.heap.size w w' := by
  have C := Lib.hid (cells_ok ht)
  have hsz := C.out.size
  have IA : Hid ((Tryz.prog.info? 32).map (·.size) = some (T.cells h).length) := Lib.hid (by rw [List.size_toArray] at hsz; rw [hsz]; exact infoT)
  have EC : Hid (∀ (k : Nat) W, Below w.heap.size w W → Calls Tryz.prog 31 #[.agg (T.cells h).toArray, .int .i64 k] W fun e w' => e = .returned (.int .i64 (entryS T k)) ∧ Below W.heap.size W w') := Lib.hid (fun k W hb => BdE.pentry_any T h k W (ht.below hb))
  have GC : Hid (∀ W, Below w.heap.size w W → Calls Tryz.prog 67 #[.agg (T.cells h).toArray, .func (.func 59) #[] #[]] W fun e w' => e = .returned (.int .i64 (BdG.grS BdA.neededP T)) ∧ Below W.heap.size W w') := Lib.hid (fun W hb => BdG.greatest_any _ BdA.neededP (fun _ _ => by first | rfl | kernel_rfl) BdA.needed_any T h W (ht.below hb))
  have CC : Hid (∀ W, Below w.heap.size w W → Calls Tryz.prog 65 #[.agg (T.cells h).toArray] W fun e w' => e = .returned (.int .i64 (clearS T)) ∧ Below W.heap.size W w') := Lib.hid (fun W hb => BdG.clearance_any T h W (ht.below hb))
  have RL := Lib.hid ht.rails
  have Kr := ht.rails.len
  unfold maxLen at Kr
  have S0 := Lib.hid (St.box (cs := (T.cells h).toArray) ht)
  have RS : Hid (overS T = if T.rails.length = 0 then 0 else overR T) := Lib.hid rfl
  have RR : Hid (overR T = sums [mosts (ovL T T.rails.length), BdG.grS BdA.neededP T, clearS T, T.revert, 30]) := Lib.hid (overR_eq T)
  generalize overS T = res at RS ⊢
  generalize clearS T = cl at CC RR
  generalize BdG.grS BdA.neededP T = gr at GC RR
  clear ht
  go_enter Tryz.func33, Tryz.ntmps33
  go_upto_region 1 with fail
  generalize w.alloc (.cells (T.cells h).toArray 32) = w1 at S0 ⊢
  have q114 := C.out.r
  have q119 := C.out.revert
  generalize hc : T.cells h = c at *
  clear hsz hc
  generalize hn : T.rails.length = n at *
  have HN := Lib.hid hn
  clear hn
  obtain ⟨sg, sd, ⟨ra, rcap⟩, sb⟩ := h
  have Q114 : Hid (∀ W, Below w1.heap.size w1 W → W.cell? ⟨w.heap.size, 114, none⟩ = some (.slice ra n rcap)) := Lib.hid (fun W hb => (S0.out.step hb).cell q114)
  have Q119 : Hid (∀ W, Below w1.heap.size w1 W → W.cell? ⟨w.heap.size, 119, none⟩ = some (I T.revert)) := Lib.hid (fun W hb => (S0.out.step hb).cell q119)
  have LT : Hid (∀ W, Below w1.heap.size w1 W → Lies W ⟨w.heap.size, 0, none⟩ c) := Lib.hid (fun W hb => by have := Row.lies_of_block (S0.out.step hb).blk; simpa using this)
  have BB : Hid (∀ W, Below w1.heap.size w1 W → Below w.heap.size w W) := Lib.hid (fun W hb => S0.out.bel.trans (hb.mono S0.out.bel.size))
  clear q114 q119
  have q114 := Q114.out _ (Below.refl _ _)
  by_cases hn0 : n = 0
  · have HF : Hid (0 = res) := Lib.hid (by rw [RS.out, if_pos hn0])
    have HB := Lib.hid S0.out.bel
    subst hn0
    go_wp2
    go_ret
    exact ⟨RefC.ret_int HF.out, HB.out⟩
  have hnb : ((n : Int) == 0) = false := by
    rw [beq_eq_false_iff_ne]; omega
  have HR0 : Hid (sums [mosts (ovL T n), gr, cl, T.revert, 30] = res) := Lib.hid (by rw [RS.out, if_neg hn0, RR.out])
  clear RS RR
  have NZ := Lib.hid hn0
  clear hn0
  go_upto_region 4 with fail
  clear hnb
  have US : Hid (∀ q, mosts (ovL T (q + 1)) = max (mosts (ovL T q)) (sums [entryS T q, (T.rails.getD q default).stay])) := Lib.hid (fun q => by rw [ov_succ, BdM.mosts_snoc]; rfl)
  have U0 : Hid (mosts (ovL T 0) = 0) := Lib.hid rfl
  generalize hul : (fun q => mosts (ovL T q)) = ul
  have HU : Hid (∀ q, mosts (ovL T q) = ul q) := Lib.hid (fun q => by rw [← hul])
  clear hul
  have US2 : Hid (∀ q, ul (q + 1) = max (ul q) (sums [entryS T q, (T.rails.getD q default).stay])) := Lib.hid (fun q => by rw [← HU.out, ← HU.out]; exact US.out q)
  have U02 : Hid ((0 : Int) = ul 0) := Lib.hid (by rw [← HU.out]; exact U0.out.symm)
  have HR1 : Hid (sums [ul n, gr, cl, T.revert, 30] = res) := Lib.hid (by rw [← HU.out]; exact HR0.out)
  clear US U0 HU HR0
  go_wp2_with fail
  clear q114
  go_loopw [3, 13] (fun v i wr => ∃ q : Nat, q ≤ n ∧ i = .int .i64 q ∧ v = .int .i64 (ul q) ∧ Below w1.heap.size w1 wr) (fun _ i _ => n - (intOf i).toNat)
  case atStart => exact ⟨0, by omega, rfl, by rw [← U02.out], Below.refl _ _⟩
  case round =>
    obtain ⟨q, hq, rfl, rfl, hbel⟩ := hrel
    have HB := Lib.hid hbel
    clear hbel
    by_cases hlt : q < n
    · have hv0 : T.rails[q]? = some (T.rails.getD q default) := by
        rw [List.getD_eq_getElem?_getD, List.getElem?_eq_getElem (by rw [HN.out]; exact hlt)]; rfl
      have HS := Lib.hid (US2.out q)
      generalize T.rails.getD q default = u at hv0 HS
      obtain ⟨y, hy, hcc⟩ := RL.out.at hv0
      obtain rfl : ra = some y := hy
      have HC := Lib.hid (hcc.below (BB.out _ HB.out))
      clear hv0 hcc
      go_upto_region 7 with (first | (refine Row.wpList_load_g 47 _ rfl (by first | rfl | go_simp) (y.add (q * 11)) rfl u.cells _ HC.out Tryz.underlying47 rfl infoR ?_) | (refine Row.wpList_store_new rfl 47 _ _ rfl wr _ u.cells.toArray rfl rfl rfl infoR rfl (Rl.one _) ?_))
      (try dsimp only [Act.put])
      have hb2 : Below wr.heap.size wr (wr.alloc (.cells u.cells.toArray 47)) := (Below.refl _ _).alloc (Nat.le_refl _) _
      have hg := heap_alloc_new wr (.cells u.cells.toArray 47)
      have B2 := Lib.hid (HB.out.trans (hb2.mono HB.out.size))
      clear HC hb2 HB
      generalize World.alloc wr _ = w2 at hg B2 ⊢
      generalize wr.heap.size = b at hg ⊢
      have HL : Hid (Lies w2 ⟨b, 0, none⟩ u.cells) := Lib.hid (by have := Row.lies_of_block hg; simpa using this)
      clear hg
      have M8 : Hid (∀ w', Below w2.heap.size w2 w' → w'.cell? ⟨b, 8, none⟩ = some (I u.stay)) := Lib.hid (fun w' hb => by have := (HL.out.below hb) 8 _ rfl; rwa [Addr.add_mid, Nat.zero_add] at this)
      have LS : Hid (∀ w', Below w2.heap.size w2 w' → Lies w' ⟨w.heap.size, 0, none⟩ c) := Lib.hid (fun w' hb => LT.out _ (B2.out.trans (hb.mono B2.out.size)))
      generalize u.stay = st at HS M8
      generalize ul q = m at HS ⊢
      have ECq := Lib.hid (EC.out q)
      generalize entryS T q = en at HS ECq
      refine wp_region_held (S := fun w' => Below w2.heap.size w2 w') (by kernel_rfl) ?_
      have hS : Below w2.heap.size w2 { w2 with drawn := w2.drawn + 1 } := (Below.refl _ _).drew
      generalize ({ w2 with drawn := w2.drawn + 1 } : World) = v at hS ⊢
      refine Held.take (i := 0) (some 18) rfl (v := ?_) rfl (by kernel_rfl) (by kernel_rfl) (by kernel_rfl) (fun _ _ _ h => h) (Or.inl ⟨by rfl, ?_⟩) hS ?_
      rotate_left
      · intro w' hw'
        go_simp
        try with_reducible rfl
      (try dsimp only [Act.put]); (try simp only [List.setIfInBounds_toArray, List.set_cons_zero, List.set_cons_succ])
      refine Held.take_load (i := 1) (some 19) rfl 32 (.tmp 1) ⟨w.heap.size, 0, none⟩ c _ rfl rfl (by kernel_rfl) (by kernel_rfl) (by kernel_rfl) (fun _ _ _ h => h) (by rfl) hS rfl (fun w' hw' => LS.out w' hw') Tryz.underlying32 rfl IA.out ?_
      (try dsimp only [Act.put]); (try simp only [List.setIfInBounds_toArray, List.set_cons_zero, List.set_cons_succ])
      refine Held.take (i := 2) (some 20) rfl (v := ?_) rfl (by kernel_rfl) (by kernel_rfl) (by kernel_rfl) (fun _ _ _ h => h) (Or.inl ⟨by rfl, ?_⟩) hS ?_
      rotate_left
      · intro w' hw'
        go_simp
        try with_reducible rfl
      (try dsimp only [Act.put]); (try simp only [List.setIfInBounds_toArray, List.set_cons_zero, List.set_cons_succ])
      refine Held.take (i := 4) (some 22) rfl (v := ?_) rfl (by kernel_rfl) (by kernel_rfl) (by kernel_rfl) (fun _ _ _ h => h) (Or.inl ⟨by rfl, ?_⟩) hS ?_
      rotate_left
      · intro w' hw'
        go_simp
        try with_reducible rfl
      (try dsimp only [Act.put]); (try simp only [List.setIfInBounds_toArray, List.set_cons_zero, List.set_cons_succ])
      refine Held.take (i := 5) (some 23) rfl (v := ?_) rfl (by kernel_rfl) (by kernel_rfl) (by kernel_rfl) (fun _ _ _ h => h) (Or.inl ⟨by rfl, ?_⟩) hS ?_
      rotate_left
      · intro w' hw'
        have cf := M8.out w' hw'
        go_simp
        try with_reducible rfl
      (try dsimp only [Act.put]); (try simp only [List.setIfInBounds_toArray, List.set_cons_zero, List.set_cons_succ])
      refine wpAnyH_ready (rs := [3]) (by kernel_rfl) (by simp) (AllReadyH.cons rfl (fun K hK => ?_) AllReadyH.nil)
      go_simp
      refine (ECq.out _ (BB.out _ (B2.out.trans (hS.mono B2.out.size)))).mono ?_
      rintro e w' ⟨rfl, hb⟩
      have hq := hS.trans (hb.mono hS.size)
      clear hS hb
      rename World => v
      go_simp
      refine hK.out _ _ hq (fun hS => ?_)
      clear hK K hq
      refine wpAnyH_ready (rs := [6]) (by kernel_rfl) (by simp) (AllReadyH.cons rfl (fun K hK => ?_) AllReadyH.nil)
      go_simp
      have R1 : Hid (IntRow (v.alloc (.cells #[I en, I st] 3)) ⟨some ⟨v.heap.size, 0, none⟩, 2⟩ [en, st]) := Lib.hid (row_new v 3 [en, st] 2 rfl (by decide) _ rfl)
      have hq := hS.alloc hS.size (.cells #[I en, I st] 3)
      clear hS
      generalize v.heap.size = b1 at R1 ⊢
      generalize World.alloc v _ = v at R1 hq ⊢
      refine hK.out _ _ hq (fun hS => ?_)
      clear hK K hq
      refine wpAnyH_ready (rs := [7]) (by kernel_rfl) (by simp) (AllReadyH.cons rfl (fun K hK => ?_) AllReadyH.nil)
      go_simp
      refine (BdS.sum_row (some ⟨b1, 0, none⟩) 2 [en, st] 2 rfl _ R1.out).mono ?_
      rintro e w' ⟨rfl, rfl⟩
      go_simp
      refine hK.out _ _ hS (fun hS => ?_)
      clear hK K
      clear R1
      generalize sums [en, st] = z at HS ⊢
      refine Held.take (i := 8) (some 26) rfl (v := .int .i64 (max m z)) rfl (by kernel_rfl) (by kernel_rfl) (by kernel_rfl) (fun _ _ _ h => h) (Or.inl ⟨by rfl, ?_⟩) hS ?_
      · intro w' hw'
        go_simp
        try (first | rfl | (simp only [Int.max_def]; split <;> split <;> omega))
      (try dsimp only [Act.put]); (try simp only [List.setIfInBounds_toArray, List.set_cons_zero, List.set_cons_succ])
      refine Held.take (i := 9) (some 3) rfl (v := ?_) rfl (by kernel_rfl) (by kernel_rfl) (by kernel_rfl) (fun _ _ _ h => h) (Or.inl ⟨by rfl, ?_⟩) hS ?_
      rotate_left
      · intro w' hw'
        go_simp
        try with_reducible rfl
      (try dsimp only [Act.put]); (try simp only [List.setIfInBounds_toArray, List.set_cons_zero, List.set_cons_succ])
      refine wpAnyH_done (by kernel_rfl) ?_ _
      have HF := Lib.hid (B2.out.trans (hS.mono B2.out.size))
      clear hS
      go_wp2
      go_roundw
      case rel => exact ⟨q + 1, by omega, by go_num, by rw [HS.out], HF.out⟩
      case measure => simp [intOf]; omega
    · have HB2 := Lib.hid (BB.out _ HB.out)
      obtain rfl : q = n := by omega
      go_upto_region 9 with fail
      have LS : Hid (∀ w', Below wr.heap.size wr w' → Lies w' ⟨w.heap.size, 0, none⟩ c) := Lib.hid (fun w' hb => LT.out _ (HB.out.trans (hb.mono HB.out.size)))
      have MR : Hid (∀ w', Below wr.heap.size wr w' → w'.cell? ⟨w.heap.size, 119, none⟩ = some (I T.revert)) := Lib.hid (fun w' hb => Q119.out _ (HB.out.trans (hb.mono HB.out.size)))
      generalize ul q = m at HR1 ⊢
      refine wp_region_held (S := fun w' => Below wr.heap.size wr w') (by kernel_rfl) ?_
      have hS : Below wr.heap.size wr { wr with drawn := wr.drawn + 1 } := (Below.refl _ _).drew
      generalize ({ wr with drawn := wr.drawn + 1 } : World) = v at hS ⊢
      refine Held.take (i := 0) (some 28) rfl (v := ?_) rfl (by kernel_rfl) (by kernel_rfl) (by kernel_rfl) (fun _ _ _ h => h) (Or.inl ⟨by rfl, ?_⟩) hS ?_
      rotate_left
      · intro w' hw'
        go_simp
        try with_reducible rfl
      (try dsimp only [Act.put]); (try simp only [List.setIfInBounds_toArray, List.set_cons_zero, List.set_cons_succ])
      refine Held.take_load (i := 1) (some 29) rfl 32 (.tmp 1) ⟨w.heap.size, 0, none⟩ c _ rfl rfl (by kernel_rfl) (by kernel_rfl) (by kernel_rfl) (fun _ _ _ h => h) (by rfl) hS rfl (fun w' hw' => LS.out w' hw') Tryz.underlying32 rfl IA.out ?_
      (try dsimp only [Act.put]); (try simp only [List.setIfInBounds_toArray, List.set_cons_zero, List.set_cons_succ])
      refine Held.take_load (i := 3) (some 31) rfl 32 (.tmp 1) ⟨w.heap.size, 0, none⟩ c _ rfl rfl (by kernel_rfl) (by kernel_rfl) (by kernel_rfl) (fun _ _ _ h => h) (by rfl) hS rfl (fun w' hw' => LS.out w' hw') Tryz.underlying32 rfl IA.out ?_
      (try dsimp only [Act.put]); (try simp only [List.setIfInBounds_toArray, List.set_cons_zero, List.set_cons_succ])
      refine Held.take (i := 5) (some 33) rfl (v := ?_) rfl (by kernel_rfl) (by kernel_rfl) (by kernel_rfl) (fun _ _ _ h => h) (Or.inl ⟨by rfl, ?_⟩) hS ?_
      rotate_left
      · intro w' hw'
        go_simp
        try with_reducible rfl
      (try dsimp only [Act.put]); (try simp only [List.setIfInBounds_toArray, List.set_cons_zero, List.set_cons_succ])
      refine Held.take (i := 6) (some 34) rfl (v := ?_) rfl (by kernel_rfl) (by kernel_rfl) (by kernel_rfl) (fun _ _ _ h => h) (Or.inl ⟨by rfl, ?_⟩) hS ?_
      rotate_left
      · intro w' hw'
        have cf := MR.out w' hw'
        go_simp
        try with_reducible rfl
      (try dsimp only [Act.put]); (try simp only [List.setIfInBounds_toArray, List.set_cons_zero, List.set_cons_succ])
      refine wpAnyH_ready (rs := [2]) (by kernel_rfl) (by simp) (AllReadyH.cons rfl (fun K hK => ?_) AllReadyH.nil)
      go_simp
      refine (GC.out _ (BB.out _ (HB.out.trans (hS.mono HB.out.size)))).mono ?_
      rintro e w' ⟨rfl, hb⟩
      have hq := hS.trans (hb.mono hS.size)
      clear hS hb
      rename World => v
      go_simp
      refine hK.out _ _ hq (fun hS => ?_)
      clear hK K hq
      refine wpAnyH_ready (rs := [4]) (by kernel_rfl) (by simp) (AllReadyH.cons rfl (fun K hK => ?_) AllReadyH.nil)
      go_simp
      refine (CC.out _ (BB.out _ (HB.out.trans (hS.mono HB.out.size)))).mono ?_
      rintro e w' ⟨rfl, hb⟩
      have hq := hS.trans (hb.mono hS.size)
      clear hS hb
      rename World => v
      go_simp
      refine hK.out _ _ hq (fun hS => ?_)
      clear hK K hq
      refine wpAnyH_ready (rs := [7]) (by kernel_rfl) (by simp) (AllReadyH.cons rfl (fun K hK => ?_) AllReadyH.nil)
      go_simp
      have R1 : Hid (IntRow (v.alloc (.cells #[I m, I gr, I cl, I T.revert, I 30] 3)) ⟨some ⟨v.heap.size, 0, none⟩, 5⟩ [m, gr, cl, T.revert, 30]) := Lib.hid (row_new v 3 [m, gr, cl, T.revert, 30] 5 rfl (by decide) _ rfl)
      have hq := hS.alloc hS.size (.cells #[I m, I gr, I cl, I T.revert, I 30] 3)
      clear hS
      generalize v.heap.size = b1 at R1 ⊢
      generalize World.alloc v _ = v at R1 hq ⊢
      refine hK.out _ _ hq (fun hS => ?_)
      clear hK K hq
      refine wpAnyH_ready (rs := [8]) (by kernel_rfl) (by simp) (AllReadyH.cons rfl (fun K hK => ?_) AllReadyH.nil)
      go_simp
      refine (BdS.sum_row (some ⟨b1, 0, none⟩) 5 [m, gr, cl, T.revert, 30] 5 rfl _ R1.out).mono ?_
      rintro e w' ⟨rfl, rfl⟩
      go_simp
      refine hK.out _ _ hS (fun hS => ?_)
      clear hK K
      rw [HR1.out]
      refine Held.take (i := 9) (some 2) rfl (v := ?_) rfl (by kernel_rfl) (by kernel_rfl) (by kernel_rfl) (fun _ _ _ h => h) (Or.inl ⟨by rfl, ?_⟩) hS ?_
      rotate_left
      · intro w' hw'
        go_simp
        try with_reducible rfl
      (try dsimp only [Act.put]); (try simp only [List.setIfInBounds_toArray, List.set_cons_zero, List.set_cons_succ])
      refine wpAnyH_done (by kernel_rfl) ?_ _
      have HF := Lib.hid (HB2.out.trans (hS.mono HB2.out.size))
      clear hS
      go_wp2
      go_ret
      exact ⟨rfl, HF.out⟩
end Go.Proofs.YtjolhoilcibdfaaGreat.BdO
/- The contract of package bound's Wait: it answers what the document's own does. -/
namespace Go.Proofs.YtjolhoilcibdfaaGreat.BdW
open Go.ChangeShapes Go.WideShapes Go.ChangeAt Go.RowKit
open Tab Gath OnS RefC Clear
open May (St phases_in infoP infoT row_new)
set_option linter.unusedVariables false
set_option linter.unusedSimpArgs false
open FreeS OverS WaitS
set_option maxRecDepth 100000 in
set_option maxHeartbeats 8000000 in
theorem pwait_any (T : Tab) (h : Hd) (p : Int) (w : World) (ht : IsTab w h T) (sm : PlaceM.Few T) :
    Calls Tryz.prog 35 #[.agg (T.cells h).toArray, .int .i64 p] w fun e w' => e = .returned (.int .i64 (waitS T p)) ∧ Below w.heap.size w w' := by
  have C := Lib.hid (cells_ok ht)
  have hsz := C.out.size
  have IA : Hid ((Tryz.prog.info? 32).map (·.size) = some (T.cells h).length) := Lib.hid (by rw [List.size_toArray] at hsz; rw [hsz]; exact infoT)
  have FC : Hid (∀ W, Below w.heap.size w W → Calls Tryz.prog 29 #[.agg (T.cells h).toArray, .int .i64 p] W fun e w' => e = .returned (.int .i64 (freeS T p)) ∧ Below W.heap.size W w') := Lib.hid (fun W hb => BdF.pfree_any T h p W (ht.below hb) sm)
  have OC : Hid (∀ W, Below w.heap.size w W → Calls Tryz.prog 33 #[.agg (T.cells h).toArray] W fun e w' => e = .returned (.int .i64 (overS T)) ∧ Below W.heap.size W w') := Lib.hid (fun W hb => BdO.pover_any T h W (ht.below hb))
  have S0 := Lib.hid (St.box (cs := (T.cells h).toArray) ht)
  have RS : Hid (waitS T p = if freeS T p = 0 ∨ T.rails.length = 0 then freeS T p else sums [mul (sums [T.share, 1]) (sums [overS T, freeS T p, 2]), T.share]) := Lib.hid rfl
  generalize waitS T p = res at RS ⊢
  generalize freeS T p = f at RS FC
  generalize overS T = ov at RS OC
  clear ht sm
  go_enter Tryz.func35, Tryz.ntmps35
  go_upto_region 1 with fail
  generalize w.alloc (.cells (T.cells h).toArray 32) = w1 at S0 ⊢
  have q114 := C.out.r
  have q130 := C.out.share
  generalize hc : T.cells h = c at *
  clear hsz hc
  generalize T.rails.length = n at *
  obtain ⟨sg, sd, ⟨ra, rcap⟩, sb⟩ := h
  have Q114 : Hid (∀ W, Below w1.heap.size w1 W → W.cell? ⟨w.heap.size, 114, none⟩ = some (.slice ra n rcap)) := Lib.hid (fun W hb => (S0.out.step hb).cell q114)
  have Q130 : Hid (∀ W, Below w1.heap.size w1 W → W.cell? ⟨w.heap.size, 130, none⟩ = some (I T.share)) := Lib.hid (fun W hb => (S0.out.step hb).cell q130)
  have LT : Hid (∀ W, Below w1.heap.size w1 W → Lies W ⟨w.heap.size, 0, none⟩ c) := Lib.hid (fun W hb => by have := Row.lies_of_block (S0.out.step hb).blk; simpa using this)
  have BB : Hid (∀ W, Below w1.heap.size w1 W → Below w.heap.size w W) := Lib.hid (fun W hb => S0.out.bel.trans (hb.mono S0.out.bel.size))
  clear q114 q130
  go_wp2_with (refine Row.wpList_load_g 32 _ rfl (by first | rfl | go_simp) ⟨w.heap.size, 0, none⟩ rfl c _ (LT.out _ (Below.refl _ _)) Tryz.underlying32 rfl IA.out ?_)
  refine (FC.out _ (BB.out _ (Below.refl _ _))).mono ?_
  rintro e wr ⟨rfl, hb⟩
  have B2 := Lib.hid hb
  clear hb FC
  have q114 := Q114.out _ B2.out
  generalize T.share = sh at Q130 RS
  by_cases hf0 : f = 0
  · have HF : Hid (0 = res) := Lib.hid (by rw [RS.out, if_pos (.inl hf0), hf0])
    have HB := Lib.hid (BB.out _ B2.out)
    subst hf0
    go_wp2
    go_ret
    exact ⟨RefC.ret_int HF.out, HB.out⟩
  have hfb : (f == 0) = false := by simpa using hf0
  by_cases hn0 : n = 0
  · have HF : Hid (f = res) := Lib.hid (by rw [RS.out, if_pos (.inr hn0)])
    have HB := Lib.hid (BB.out _ B2.out)
    subst hn0
    clear hf0
    go_wp2
    go_ret
    exact ⟨RefC.ret_int HF.out, HB.out⟩
  have hnb : ((n : Int) == 0) = false := by rw [beq_eq_false_iff_ne]; omega
  have HR0 : Hid (sums [mul (sums [sh, 1]) (sums [ov, f, 2]), sh] = res) := Lib.hid (by rw [RS.out, if_neg (fun e => e.elim hf0 hn0)])
  clear hf0 hn0 RS
  go_wp2_with (refine Row.wpList_load_g 32 _ rfl (by first | rfl | go_simp) ⟨w.heap.size, 0, none⟩ rfl c _ (LT.out _ B2.out) Tryz.underlying32 rfl IA.out ?_)
  refine (OC.out _ (BB.out _ B2.out)).mono ?_
  rintro e w3 ⟨rfl, hb⟩
  have B3 := Lib.hid (B2.out.trans (hb.mono B2.out.size))
  clear hb B2 OC q114
  go_wp2_with fail
  have R3 : Hid (IntRow (w3.alloc (.cells #[I ov, I f, I 2] 3)) ⟨some ⟨w3.heap.size, 0, none⟩, 3⟩ [ov, f, 2]) := Lib.hid (row_new w3 3 [ov, f, 2] 3 rfl (by decide) _ rfl)
  have hb4 : Below w3.heap.size w3 (w3.alloc (.cells #[I ov, I f, I 2] 3)) := (Below.refl _ _).alloc (Nat.le_refl _) _
  have B4 := Lib.hid (B3.out.trans (hb4.mono B3.out.size))
  clear hb4 B3
  generalize w3.heap.size = b4 at R3 ⊢
  generalize World.alloc w3 _ = w4 at R3 B4 ⊢
  refine (BdS.sum_row (some ⟨b4, 0, none⟩) 3 [ov, f, 2] 3 rfl _ R3.out).mono ?_
  rintro e w' ⟨rfl, rfl⟩
  clear R3
  generalize sums [ov, f, 2] = on at HR0 ⊢
  go_upto_region 5 with fail
  have M : Hid (∀ w', Below w4.heap.size w4 w' → w'.cell? ⟨w.heap.size, 130, none⟩ = some (I sh)) := Lib.hid (fun w' hb => Q130.out _ (B4.out.trans (hb.mono B4.out.size)))
  have SB : Hid (∀ w', Below w4.heap.size w4 w' → Below w.heap.size w w') := Lib.hid (fun w' hb => BB.out _ (B4.out.trans (hb.mono B4.out.size)))
  clear B4 BB LT Q130 Q114 hfb hnb
  refine wp_region_held (S := fun w' => Below w4.heap.size w4 w') (by kernel_rfl) ?_
  have hS : Below w4.heap.size w4 { w4 with drawn := w4.drawn + 1 } := (Below.refl _ _).drew
  generalize ({ w4 with drawn := w4.drawn + 1 } : World) = v at hS ⊢
  refine Held.take (i := 0) (some 24) rfl (v := ?_) rfl (by kernel_rfl) (by kernel_rfl) (by kernel_rfl) (fun _ _ _ h => h) (Or.inl ⟨by rfl, ?_⟩) hS ?_
  rotate_left
  · intro w' hw'
    go_simp
    try with_reducible rfl
  (try dsimp only [Act.put]); (try simp only [List.setIfInBounds_toArray, List.set_cons_zero, List.set_cons_succ])
  refine Held.take (i := 1) (some 25) rfl (v := ?_) rfl (by kernel_rfl) (by kernel_rfl) (by kernel_rfl) (fun _ _ _ h => h) (Or.inl ⟨by rfl, ?_⟩) hS ?_
  rotate_left
  · intro w' hw'
    have cf := M.out w' hw'
    go_simp
    try with_reducible rfl
  (try dsimp only [Act.put]); (try simp only [List.setIfInBounds_toArray, List.set_cons_zero, List.set_cons_succ])
  refine Held.take (i := 4) (some 28) rfl (v := ?_) rfl (by kernel_rfl) (by kernel_rfl) (by kernel_rfl) (fun _ _ _ h => h) (Or.inl ⟨by rfl, ?_⟩) hS ?_
  rotate_left
  · intro w' hw'
    go_simp
    try with_reducible rfl
  (try dsimp only [Act.put]); (try simp only [List.setIfInBounds_toArray, List.set_cons_zero, List.set_cons_succ])
  refine Held.take (i := 6) (some 30) rfl (v := ?_) rfl (by kernel_rfl) (by kernel_rfl) (by kernel_rfl) (fun _ _ _ h => h) (Or.inl ⟨by rfl, ?_⟩) hS ?_
  rotate_left
  · intro w' hw'
    go_simp
    try with_reducible rfl
  (try dsimp only [Act.put]); (try simp only [List.setIfInBounds_toArray, List.set_cons_zero, List.set_cons_succ])
  refine Held.take (i := 7) (some 31) rfl (v := ?_) rfl (by kernel_rfl) (by kernel_rfl) (by kernel_rfl) (fun _ _ _ h => h) (Or.inl ⟨by rfl, ?_⟩) hS ?_
  rotate_left
  · intro w' hw'
    have cf := M.out w' hw'
    go_simp
    try with_reducible rfl
  (try dsimp only [Act.put]); (try simp only [List.setIfInBounds_toArray, List.set_cons_zero, List.set_cons_succ])
  refine wpAnyH_ready (rs := [2]) (by kernel_rfl) (by simp) (AllReadyH.cons rfl (fun K hK => ?_) AllReadyH.nil)
  go_simp
  have R1 : Hid (IntRow (v.alloc (.cells #[I sh, I 1] 3)) ⟨some ⟨v.heap.size, 0, none⟩, 2⟩ [sh, 1]) := Lib.hid (row_new v 3 [sh, 1] 2 rfl (by decide) _ rfl)
  have hq := hS.alloc hS.size (.cells #[I sh, I 1] 3)
  clear hS
  generalize v.heap.size = b1 at R1 ⊢
  generalize World.alloc v _ = v at R1 hq ⊢
  refine hK.out _ _ hq (fun hS => ?_)
  clear hK K hq
  refine wpAnyH_ready (rs := [3]) (by kernel_rfl) (by simp) (AllReadyH.cons rfl (fun K hK => ?_) AllReadyH.nil)
  go_simp
  refine (BdS.sum_row (some ⟨b1, 0, none⟩) 2 [sh, 1] 2 rfl _ R1.out).mono ?_
  rintro e w' ⟨rfl, rfl⟩
  go_simp
  refine hK.out _ _ hS (fun hS => ?_)
  clear hK K
  clear R1
  generalize sums [sh, 1] = z1 at HR0 ⊢
  refine wpAnyH_ready (rs := [5]) (by kernel_rfl) (by simp) (AllReadyH.cons rfl (fun K hK => ?_) AllReadyH.nil)
  go_simp
  refine (BdS.mul_any z1 on _).mono ?_
  rintro e w' ⟨rfl, rfl⟩
  go_simp
  refine hK.out _ _ hS (fun hS => ?_)
  clear hK K
  generalize mul z1 on = z2 at HR0 ⊢
  refine wpAnyH_ready (rs := [8]) (by kernel_rfl) (by simp) (AllReadyH.cons rfl (fun K hK => ?_) AllReadyH.nil)
  go_simp
  have R2 : Hid (IntRow (v.alloc (.cells #[I z2, I sh] 3)) ⟨some ⟨v.heap.size, 0, none⟩, 2⟩ [z2, sh]) := Lib.hid (row_new v 3 [z2, sh] 2 rfl (by decide) _ rfl)
  have hq := hS.alloc hS.size (.cells #[I z2, I sh] 3)
  clear hS
  generalize v.heap.size = b2 at R2 ⊢
  generalize World.alloc v _ = v at R2 hq ⊢
  refine hK.out _ _ hq (fun hS => ?_)
  clear hK K hq
  refine wpAnyH_ready (rs := [9]) (by kernel_rfl) (by simp) (AllReadyH.cons rfl (fun K hK => ?_) AllReadyH.nil)
  go_simp
  refine (BdS.sum_row (some ⟨b2, 0, none⟩) 2 [z2, sh] 2 rfl _ R2.out).mono ?_
  rintro e w' ⟨rfl, rfl⟩
  go_simp
  refine hK.out _ _ hS (fun hS => ?_)
  clear hK K
  clear R2
  rw [HR0.out]
  refine Held.take (i := 10) (some 4) rfl (v := ?_) rfl (by kernel_rfl) (by kernel_rfl) (by kernel_rfl) (fun _ _ _ h => h) (Or.inl ⟨by rfl, ?_⟩) hS ?_
  rotate_left
  · intro w' hw'
    go_simp
    try with_reducible rfl
  (try dsimp only [Act.put]); (try simp only [List.setIfInBounds_toArray, List.set_cons_zero, List.set_cons_succ])
  refine wpAnyH_done (by kernel_rfl) ?_ _
  have HF := Lib.hid (SB.out _ hS)
  clear hS
  go_wp2
  go_ret
  exact ⟨rfl, HF.out⟩
end Go.Proofs.YtjolhoilcibdfaaGreat.BdW
/- More of the plain mathematics of sets of phases: what With and Without change. No condition on the integers. -/
namespace Go.Proofs.YtjolhoilcibdfaaGreat.SetM

theorem has_of (m : Nat) (h : m < 256) (p : Int) : has (m : Int) p = (decide (0 ≤ p) && m.testBit p.toNat) := by unfold has; rw [low_nat m h]
theorem has_with (s p q : Int) : has (withN s p : Nat) q = (has s q || (bit p != 0 && q == p)) := by
  rw [has_of _ (with_lt s p)]
  unfold withN
  by_cases h0 : 0 ≤ q
  · obtain ⟨k, rfl⟩ := Int.eq_ofNat_of_zero_le h0
    rw [decide_eq_true h0, Bool.true_and, Nat.testBit_or, Int.toNat_natCast, has_nat, test_bit]
    congr 1
    rw [Bool.eq_iff_iff, decide_eq_true_iff, Bool.and_eq_true, bne_iff_ne, beq_iff_eq]
    constructor
    · rintro ⟨e, h8⟩
      rw [← e, bit_in k h8]
      exact ⟨Nat.ne_of_gt (Nat.two_pow_pos k), rfl⟩
    · rintro ⟨h1, e⟩
      refine ⟨e, ?_⟩
      by_cases h8 : k < 8
      · exact h8
      · exact absurd (bit_out (p := p) (by omega)) h1
  · rw [decide_eq_false h0, Bool.false_and, has_neg s q (by omega), Bool.false_or]
    symm
    rw [Bool.and_eq_false_iff]
    by_cases e : q = p
    · left; rw [bit_out (by omega)]; rfl
    · right; simpa using e
end Go.Proofs.YtjolhoilcibdfaaGreat.SetM
/- What chapter 9 asks of a table, as plain data: the way of package check, the document's own, and that they agree on tables within their ranges. No program in it. -/
namespace Go.Proofs.YtjolhoilcibdfaaGreat.ChkM
open Go Tab PlaceM PlanM OnS May
set_option linter.unusedVariables false
set_option linter.unusedSimpArgs false
/-- The phases that are On, in order; a phase's own numbers. -/
def ons (T : Tab) : List Int := SetM.list (onS T : Nat)
def phAt (T : Tab) (p : Int) : Ph := T.phases.getD p.toNat default
def cfAt (T : Tab) (p : Int) : Int := T.conflict.getD p.toNat 0
def flAt (T : Tab) (p : Int) : Int := T.flash.getD p.toNat 0
def phBad (u : Ph) : Bool := decide (u.min < 1) || (decide (u.yellow < 10) || (decide (u.max < u.min) || (decide (u.top < u.max) || ((decide (u.step < 1) && decide (u.max < u.top)) || (((u.walk == 0) != (u.blinks == 0)) || (u.recall == 3 && u.walk == 0))))))
def allOn (T : Tab) (s : Int) : Bool := bits .andNot .i64 s (onS T : Nat) == 0
def clashC (T : Tab) (s : Int) : Bool := (SetM.list s).any fun p => bits .and .i64 (cfAt T p) s != 0
def abreast (T : Tab) (s : Int) : Bool := (SetM.list s).all fun p => (SetM.list (SetM.withoutN s p : Nat)).all fun q => beside T p q
def yel (T : Tab) (p : Int) : Bool := flAt T p == 2
def yellows (T : Tab) : Nat := SetM.of ((ons T).filter (yel T))
def confBad (T : Tab) (p : Int) : Bool := SetM.has (cfAt T p) p || (ons T).any fun q => (SetM.has (cfAt T p) q != SetM.has (cfAt T q) p) || (SetM.has (cfAt T p) q && beside T p q)
def flashBad (T : Tab) (p : Int) : Bool := flAt T p == 0 || (flAt T p == 2 && bits .and .i64 (cfAt T p) (yellows T : Nat) != 0)
def gtF (a b : Nat) : Bool := decide (Go.Proofs.Fl.key b < Go.Proofs.Fl.key a)
def detBad (T : Tab) (d : Det) : Bool := gtF d.off d.on || !(phAt T d.phase).on
def timesBad (r : Rl) : Bool := ((r.hold == 0) != (r.clear == 0)) || (decide (r.green < 1) || (decide (r.stay < 1) || ((decide (0 < r.most) && decide (r.most < r.stay)) || decide (r.limit ≤ r.delay))))
def or4 (r : Rl) : Int := bits .or .i64 (bits .or .i64 (bits .or .i64 r.bars r.clear) r.dwell) r.exit
def railBad (T : Tab) (r : Rl) : Bool := !allOn T (or4 r) || (r.dwell == 0 || (r.exit == 0 || (bits .and .i64 r.dwell r.bars != 0 || (clashC T r.clear || (clashC T r.dwell || (clashC T r.exit || (!abreast T r.exit || timesBad r)))))))
def busBad (T : Tab) (b : Bs) : Bool := b.set == 0 || (!allOn T b.set || decide (b.lock < 1))
/-! ### rule 3 -/
/-- Where package plan finds a number. -/
def at0 (o : Option Spt) : Nat × Nat × Nat := match o with | some x => (x.g, x.k, x.i) | none => (0, 0, 0)
def repRow (T : Tab) (g k : Nat) (l : List Int) : Bool := (List.range l.length).any fun i => at0 (where_ T (l.getD i 0)) != (g, k, i)
def repeats (T : Tab) (g : Nat) : Bool := repRow T g 0 (rowsAt T g).1 || repRow T g 1 (rowsAt T g).2
def groupBad (T : Tab) (g : Nat) : Bool := membS T g == 0 || (!allOn T (membS T g : Nat) || repeats T g)
def placed (T : Tab) : Nat → Nat
  | 0 => 0
  | g + 1 => placed T g ||| membS T g
def ringsC (T : Tab) : Option Int :=
  if T.groups.length = 0 then some 0 else
  match (List.range T.groups.length).find? (groupBad T) with
  | some g => some (g : Int)
  | none => if bits .andNot .i64 (onS T : Nat) (placed T T.groups.length : Nat) = 0 then none else some 0
/-! ### all rules -/
/-- The first rule that applies. -/
def firstF : List (Int × Option Int) → Int × Int
  | [] => (0, 0)
  | (c, some p) :: _ => (c, p)
  | (_, none) :: l => firstF l
def idx {α : Type} (f : α → Bool) (l : List α) : Option Int := (l.findIdx? f).map Int.ofNat
def mayF (T : Tab) : Option Int := if tabMay T then none else some 0
def rulesC (T : Tab) : List (Int × Option Int) := [(4, mayF T), (7, (ons T).find? fun p => phBad (phAt T p)), (8, ringsC T), (9, (ons T).find? (confBad T)), (10, idx (detBad T) T.dets), (11, idx (railBad T) T.rails), (12, idx (busBad T) T.buses), (13, (ons T).find? (flashBad T))]
/-- The Fault of package check, and the document's. -/
def chkC (T : Tab) : Int × Int := firstF (rulesC T)
def fcells (x : Int × Int) : Array Value := #[I x.1, I x.2]
theorem first_hit {c p : Int} : ∀ {l : List (Int × Option Int)} {q : Nat}, l[q]? = some (c, some p) → (∀ j x, j < q → l[j]? = some x → x.2 = none) → firstF l = (c, p)
  | [], q, h, _ => by simp at h
  | (d, o) :: l, 0, h, _ => by
    obtain ⟨rfl, rfl⟩ : d = c ∧ o = some p := by simpa using h
    rfl
  | (d, o) :: l, q + 1, h, hn => by
    have h0 : o = none := hn 0 (d, o) (by omega) rfl
    subst h0
    exact first_hit (l := l) (q := q) (by simpa using h) (fun j x hj hx => hn (j + 1) x (by omega) (by simpa using hx))
theorem first_miss : ∀ {l : List (Int × Option Int)}, (∀ x ∈ l, x.2 = none) → firstF l = (0, 0)
  | [], _ => rfl
  | (d, o) :: l, h => by
    have h0 : o = none := h (d, o) (List.mem_cons_self ..)
    subst h0
    exact first_miss (l := l) (fun x hx => h x (List.mem_cons_of_mem _ hx))
end Go.Proofs.YtjolhoilcibdfaaGreat.ChkM
/- What package check and the document ask of a table is one: plain mathematics. No program in it. -/
namespace Go.Proofs.YtjolhoilcibdfaaGreat.ChkX
open Go Tab PlaceM PlanM OnS May ChkM
set_option linter.unusedVariables false
set_option linter.unusedSimpArgs false
/-! ### sets -/
theorem low_in {a : Int} (h : 0 ≤ a ∧ a ≤ 255) : ((SetM.low a : Nat) : Int) = a := by unfold SetM.low; omega
theorem has_bits {a q : Int} : SetM.has a q = true ↔ 0 ≤ q ∧ q < 8 ∧ (SetM.low a).testBit q.toNat = true := by
  unfold SetM.has
  rw [Bool.and_eq_true, decide_eq_true_eq]
  constructor
  · rintro ⟨h1, h2⟩
    refine ⟨h1, ?_, h2⟩
    by_cases h8 : q < 8
    · exact h8
    · rw [SetM.test_high _ _ (SetM.low_lt a) (by omega)] at h2; cases h2
  · rintro ⟨h1, _, h2⟩; exact ⟨h1, h2⟩
theorem low_ne {m : Nat} (hm : m < 256) : m ≠ 0 ↔ ∃ q : Int, SetM.has (m : Int) q = true := by
  constructor
  · intro h
    refine Classical.byContradiction fun hn => h ?_
    refine Nat.eq_of_testBit_eq fun k => ?_
    rw [Nat.zero_testBit]
    cases ht : m.testBit k with
    | false => rfl
    | true =>
      exfalso
      refine hn ⟨(k : Int), has_bits.2 ⟨by omega, ?_, ?_⟩⟩
      · by_cases h8 : k < 8
        · omega
        · rw [SetM.test_high _ _ hm (by omega)] at ht; cases ht
      · rw [SetM.low_nat _ hm, Int.toNat_natCast]; exact ht
  · rintro ⟨q, hq⟩ rfl
    have := (has_bits.1 hq).2.2
    rw [SetM.low_nat _ hm, Nat.zero_testBit] at this
    cases this
theorem and_ne {a b : Int} (hb : 0 ≤ b ∧ b ≤ 255) : bits .and .i64 a b ≠ 0 ↔ ∃ q : Int, SetM.has a q = true ∧ SetM.has b q = true := by
  have e : bits .and .i64 a b = ((SetM.low a &&& SetM.low b : Nat) : Int) := by
    have := SetM.and_low a (SetM.low b) (SetM.low_lt b)
    rwa [low_in hb] at this
  have hlt : SetM.low a &&& SetM.low b < 256 := Nat.lt_of_le_of_lt Nat.and_le_left (SetM.low_lt a)
  rw [e]
  have : ((SetM.low a &&& SetM.low b : Nat) : Int) ≠ 0 ↔ (SetM.low a &&& SetM.low b) ≠ 0 := by omega
  rw [this, low_ne hlt]
  constructor
  · rintro ⟨q, hq⟩
    obtain ⟨h1, h2, h3⟩ := has_bits.1 hq
    rw [SetM.low_nat _ hlt, Nat.testBit_and, Bool.and_eq_true] at h3
    exact ⟨q, has_bits.2 ⟨h1, h2, h3.1⟩, has_bits.2 ⟨h1, h2, h3.2⟩⟩
  · rintro ⟨q, h1, h2⟩
    obtain ⟨h3, h4, h5⟩ := has_bits.1 h1
    obtain ⟨_, _, h6⟩ := has_bits.1 h2
    refine ⟨q, has_bits.2 ⟨h3, h4, ?_⟩⟩
    rw [SetM.low_nat _ hlt, Nat.testBit_and, h5, h6]; rfl
theorem andNot_eq {a : Int} (ha : 0 ≤ a ∧ a ≤ 255) {m : Nat} (hm : m < 256) : bits .andNot .i64 a (m : Int) = ((SetM.low a &&& (255 - m) : Nat) : Int) := by
  obtain ⟨k, rfl⟩ := Int.eq_ofNat_of_zero_le ha.1
  have hk : k < 256 := by omega
  have h1 := SetM.andNot_low (k : Int) m hm
  have e : bits .andNot .i64 (k : Int) (m : Int) = IntKind.i64.wrap (((BitVec.ofInt 64 (k : Int) &&& ~~~ BitVec.ofInt 64 (m : Int)).toNat : Nat) : Int) := rfl
  have hlt : (BitVec.ofInt 64 (k : Int) &&& ~~~ BitVec.ofInt 64 (m : Int)).toNat < 256 := by
    rw [BitVec.toNat_and, SetM.toNat_ofNat k hk]
    exact Nat.lt_of_le_of_lt Nat.and_le_left hk
  rw [e, SetM.wrap_small _ hlt] at h1 ⊢
  rw [← h1, SetM.low_nat _ hlt]
theorem not_bit {m k : Nat} (hm : m < 256) (hk : k < 8) : (255 - m).testBit k = !m.testBit k := by
  have : ∀ m : Fin 256, ∀ k : Fin 8, (255 - m.val).testBit k.val = !m.val.testBit k.val := by decide +kernel
  exact this ⟨m, hm⟩ ⟨k, hk⟩
theorem andNot_zero {a : Int} (ha : 0 ≤ a ∧ a ≤ 255) {m : Nat} (hm : m < 256) : bits .andNot .i64 a (m : Int) = 0 ↔ ∀ q, SetM.has a q = true → SetM.has (m : Int) q = true := by
  rw [andNot_eq ha hm]
  have hlt : SetM.low a &&& (255 - m) < 256 := Nat.lt_of_le_of_lt Nat.and_le_left (SetM.low_lt a)
  have h0 : ((SetM.low a &&& (255 - m) : Nat) : Int) = 0 ↔ ¬ (SetM.low a &&& (255 - m)) ≠ 0 := by omega
  rw [h0, low_ne hlt]
  constructor
  · intro h q hq
    obtain ⟨h1, h2, h3⟩ := has_bits.1 hq
    refine Classical.byContradiction fun hn => h ⟨q, has_bits.2 ⟨h1, h2, ?_⟩⟩
    rw [SetM.low_nat _ hlt, Nat.testBit_and, h3, not_bit hm (by omega), Bool.true_and]
    cases ht : m.testBit q.toNat with
    | false => rfl
    | true => exact absurd (has_bits.2 ⟨h1, h2, by rw [SetM.low_nat _ hm]; exact ht⟩) hn
  · rintro h ⟨q, hq⟩
    obtain ⟨h1, h2, h3⟩ := has_bits.1 hq
    rw [SetM.low_nat _ hlt, Nat.testBit_and, not_bit hm (by omega), Bool.and_eq_true] at h3
    have h4 := (has_bits.1 (h q (has_bits.2 ⟨h1, h2, h3.1⟩))).2.2
    rw [SetM.low_nat _ hm] at h4
    rw [h4] at h3
    cases h3.2
theorem allOn_iff {T : Tab} {s : Int} (hs : 0 ≤ s ∧ s ≤ 255) : allOn T s = true ↔ ∀ q, SetM.has s q = true → SetM.has (onS T : Nat) q = true := by
  unfold allOn
  rw [beq_iff_eq, andNot_zero hs (show onS T < 256 from SetM.of_lt _)]
theorem has_of {l : List Int} {q : Int} : SetM.has ((SetM.of l : Nat) : Int) q = true ↔ 0 ≤ q ∧ q < 8 ∧ q ∈ l := by
  rw [has_bits, SetM.low_nat _ (SetM.of_lt _), SetM.of_test, decide_eq_true_eq]
  constructor
  · rintro ⟨h1, h2, h3, _⟩; exact ⟨h1, h2, by rwa [Int.toNat_of_nonneg h1] at h3⟩
  · rintro ⟨h1, h2, h3⟩; exact ⟨h1, h2, by rwa [Int.toNat_of_nonneg h1], by omega⟩
theorem mem_onTo {x : Int} : ∀ {i : Nat} {l : List Ph}, x ∈ onTo i l ↔ ∃ j u, l[j]? = some u ∧ u.on = true ∧ x = ((i + j : Nat) : Int)
  | i, [] => by simp [onTo]
  | i, p :: l => by
    rw [onTo, List.mem_append, mem_onTo (i := i + 1) (l := l)]
    constructor
    · rintro (h | ⟨j, u, h1, h2, h3⟩)
      · by_cases hp : p.on
        · rw [if_pos hp] at h
          exact ⟨0, p, rfl, hp, by simpa using h⟩
        · rw [if_neg hp] at h; cases h
      · exact ⟨j + 1, u, by simpa using h1, h2, by rw [h3]; congr 1; omega⟩
    · rintro ⟨j, u, h1, h2, h3⟩
      cases j with
      | zero =>
        obtain rfl : p = u := by simpa using h1
        exact .inl (by rw [if_pos h2]; simpa using h3)
      | succ j => exact .inr ⟨j, u, by simpa using h1, h2, by rw [h3]; congr 1; omega⟩
theorem has_on {T : Tab} (h8 : T.phases.length = 8) {p : Int} (h0 : 0 ≤ p) (hp : p < 8) : SetM.has (onS T : Nat) p = (phAt T p).on := by
  obtain ⟨k, rfl⟩ := Int.eq_ofNat_of_zero_le h0
  have hk : k < T.phases.length := by omega
  have e : phAt T k = T.phases[k] := by unfold phAt; rw [Int.toNat_natCast, List.getD_eq_getElem?_getD, List.getElem?_eq_getElem hk]; rfl
  rw [Bool.eq_iff_iff]
  unfold onS onL
  rw [has_of, mem_onTo, e]
  constructor
  · rintro ⟨_, _, j, u, h1, h2, h3⟩
    obtain rfl : k = j := by omega
    rw [List.getElem?_eq_getElem hk] at h1
    obtain rfl := Option.some.inj h1
    exact h2
  · intro h
    exact ⟨h0, hp, k, _, List.getElem?_eq_getElem hk, h, by simp⟩
theorem mem_ons {T : Tab} {q : Int} : q ∈ ons T ↔ SetM.has (onS T : Nat) q = true := SetM.mem_list _ _
theorem allIn_iff {m : Int} {l : List Int} : allIn m l = true ↔ ∀ x ∈ l, 0 ≤ x ∧ x ≤ m := by
  unfold allIn inB
  rw [List.all_eq_true]
  constructor
  · intro h x hx; have := h x hx; simpa using this
  · intro h x hx; have := h x hx; simpa using this
/-- What May gives. -/
structure InR (T : Tab) : Prop where
  ph : ∀ u ∈ T.phases, Ph.may u = true
  gr : ∀ g ∈ T.groups, groupMay g = true
  cf : ∀ x ∈ T.conflict, 0 ≤ x ∧ x ≤ 255
  dt : ∀ d ∈ T.dets, Det.may d = true
  rl : ∀ r ∈ T.rails, Rl.may r = true
  bs : ∀ b ∈ T.buses, Bs.may b = true
theorem in_ranges {T : Tab} (h : tabMay T = true) : InR T := by
  unfold tabMay listMay at h
  simp only [Bool.and_eq_true, List.all_eq_true] at h
  obtain ⟨⟨_, h1⟩, ⟨_, h2⟩, h3, ⟨_, h4⟩, ⟨_, h5⟩, ⟨_, h6⟩, _⟩ := h
  exact ⟨h1, h2, allIn_iff.1 h3, h4, h5, h6⟩
/-! ### rules 2, 4, 5, 8 -/
/-! ### rules 6 and 7 -/
end Go.Proofs.YtjolhoilcibdfaaGreat.ChkX
/- Package bound's All: what it answers, and blocks of a call's own. -/
namespace Go.Proofs.YtjolhoilcibdfaaGreat.BdB
open Go.ChangeShapes Go.WideShapes Go.ChangeAt Go.RowKit
open Tab Gath OnS RefC Clear
open May (St phases_in infoP infoT row_new)
set_option linter.unusedVariables false
set_option linter.unusedSimpArgs false
open ServeS PassS FreeS OverS WaitS EntryS ChkM BdS
def idxF (L : List Int) : Int := match L.findIdx? full with
  | some i => i
  | none => -1
theorem idx_at {L : List Int} {k : Nat} {v : Int} (h : ∀ x ∈ L.take k, full x = false) (hv : L[k]? = some v) (hf : full v = true) : idxF L = k := by
  have hl := (List.getElem?_eq_some_iff.1 hv)
  obtain ⟨hl, hv⟩ := hl
  have : L.findIdx? full = some k := by
    rw [List.findIdx?_eq_some_iff_getElem]
    refine ⟨hl, by rw [hv]; exact hf, fun j hj => ?_⟩
    have := h (L[j]'(by omega)) (by rw [List.mem_take_iff_getElem]; exact ⟨j, by omega, rfl⟩)
    simp [this]
  unfold idxF; rw [this]
theorem idx_none {L : List Int} (h : ∀ x ∈ L, full x = false) : idxF L = -1 := by
  have : L.findIdx? full = none := by
    rw [List.findIdx?_eq_none_iff]
    exact h
  unfold idxF; rw [this]
theorem take_all {L : List Int} {k : Nat} {v : Int} (h : ∀ x ∈ L.take k, full x = false) (hv : L[k]? = some v) (hf : full v = false) : ∀ x ∈ L.take (k + 1), full x = false := by
  intro x hx
  rw [PlaceM.take_succ hv] at hx
  rcases List.mem_append.1 hx with hx | hx
  · exact h x hx
  · obtain rfl := List.mem_singleton.1 hx
    exact hf
def waitsL (T : Tab) : List Int := (List.range 8).map fun i => waitS T (i : Nat)
def entsL (T : Tab) : List Int := (List.range 4).map fun i => entryS T (i : Nat)
theorem waits_len (T : Tab) : (waitsL T).length = 8 := rfl
theorem ents_len (T : Tab) : (entsL T).length = 4 := rfl
theorem waits_at (T : Tab) {i : Nat} (h : i < 8) : (waitsL T)[i]? = some (waitS T i) := by unfold waitsL; rw [List.getElem?_map, List.getElem?_range h]; rfl
theorem ents_at (T : Tab) {i : Nat} (h : i < 4) : (entsL T)[i]? = some (entryS T i) := by unfold entsL; rw [List.getElem?_map, List.getElem?_range h]; rfl
def faultS (T : Tab) : Int × Int := if 0 ≤ idxF (waitsL T) then (14, idxF (waitsL T)) else if 0 ≤ idxF (entsL T) then (14, idxF (entsL T)) else if 0 < T.rails.length ∧ T.window < mosts (waitsL T) then (15, 0) else (0, 0)
def allF (T : Tab) : Int × Int := if chkC T = (0, 0) then faultS T else chkC T
def allB (T : Tab) : List Int := if allF T = (0, 0) then waitsL T ++ entsL T else List.replicate 12 0
theorem wait_lo (T : Tab) (p : Int) : 0 ≤ waitS T p := by
  have hf : 0 ≤ freeS T p := by
    unfold freeS
    split
    · split
      · exact BdM.sums_lo _
      · omega
    · omega
  unfold waitS
  split
  · exact hf
  · exact BdM.sums_lo _
theorem waits_lo (T : Tab) : ∀ x ∈ waitsL T, 0 ≤ x := by
  intro x hx
  obtain ⟨i, _, rfl⟩ := List.mem_map.1 hx
  exact wait_lo T _
theorem entry_far {T : Tab} {k : Nat} (h : T.rails.length ≤ k) : entryS T k = 0 := by
  unfold entryS
  rw [if_neg (by omega), Int.toNat_natCast, List.getElem?_eq_none h]
def zeros (n : Nat) : List Int := List.replicate n 0
/-- The bounds filled up to i. -/
def upTo (L : List Int) (n i : Nat) : List Int := L.take i ++ List.replicate (n - i) 0
theorem upTo_succ {L : List Int} {n i : Nat} {v : Int} (hn : L.length = n) (hv : L[i]? = some v) : (upTo L n i).set i v = upTo L n (i + 1) := by
  have hl := (List.getElem?_eq_some_iff.1 hv).1
  unfold upTo
  rw [PlaceM.take_succ hv, List.append_assoc, List.set_append_right _ _ (by rw [List.length_take]; omega), List.length_take, Nat.min_eq_left (by omega), Nat.sub_self, show n - i = (n - (i + 1)) + 1 by omega, List.replicate_succ]
  rfl
theorem upTo_same {L : List Int} {n i : Nat} (hn : L.length = n) (hi : i ≤ n) (h : ∀ j, i ≤ j → j < n → L[j]? = some 0) : upTo L n i = L := by
  unfold upTo
  have : L.drop i = List.replicate (n - i) 0 := by
    rw [List.eq_replicate_iff]
    refine ⟨by rw [List.length_drop, hn], fun x hx => ?_⟩
    obtain ⟨j, hj, rfl⟩ := List.mem_iff_getElem.1 hx
    rw [List.length_drop] at hj
    have := h (i + j) (by omega) (by omega)
    rw [List.getElem_drop]
    exact (List.getElem?_eq_some_iff.1 this).2
  rw [← this, List.take_append_drop]
theorem upTo_full {L : List Int} {n : Nat} (hn : L.length = n) : upTo L n n = L := by
  unfold upTo; rw [Nat.sub_self, ← hn, List.take_length]; simp
theorem upTo_len {L : List Int} {n i : Nat} (hn : L.length = n) (hi : i ≤ n) : (upTo L n i).length = n := by unfold upTo; rw [List.length_append, List.length_take, List.length_replicate]; omega
/-- A bounds block. -/
def bcells (A E : List Int) : Array Value := ((A ++ E).map I).toArray
theorem setA {A E : List Int} {i : Nat} (v : Int) (h : i < A.length) : (bcells A E).setIfInBounds i (I v) = bcells (A.set i v) E := by
  unfold bcells
  rw [List.setIfInBounds_toArray, ← List.map_set, List.set_append_left _ _ h]
theorem setE {A E : List Int} {i : Nat} (v : Int) (h : i < E.length) : (bcells A E).setIfInBounds (A.length + i) (I v) = bcells A (E.set i v) := by
  unfold bcells
  rw [List.setIfInBounds_toArray, ← List.map_set, List.set_append_right _ _ (by omega), Nat.add_sub_cancel_left]
theorem bsize (A E : List Int) : (bcells A E).size = A.length + E.length := by unfold bcells; simp
theorem batA {A E : List Int} {i : Nat} {v : Int} (h : A[i]? = some v) : (bcells A E)[i]? = some (I v) := by
  have hl := (List.getElem?_eq_some_iff.1 h).1
  unfold bcells
  rw [List.getElem?_toArray, List.map_append, List.getElem?_append_left (by simpa using hl), List.getElem?_map, h]
  rfl
theorem batE {A E : List Int} {i : Nat} {v : Int} (h : E[i]? = some v) : (bcells A E)[A.length + i]? = some (I v) := by
  unfold bcells
  rw [List.getElem?_toArray, List.map_append, List.getElem?_append_right (by simp), List.length_map, Nat.add_sub_cancel_left, List.getElem?_map, h]
  rfl
theorem bone (A E : List Int) : (bcells A E).all (·.oneCell') = true := by
  unfold bcells
  simp [Value.oneCell']
section
variable {w1 u v : World}
/-- Blocks of a call's own, known whole. -/
structure Bks (w1 : World) (m : List (Nat × Array Value × TypeId)) (u : World) : Prop where
  bel : Below w1.heap.size w1 u
  own : ∀ x ∈ m, w1.heap.size ≤ x.1
  blk : ∀ x ∈ m, u.heap[x.1]? = some (.cells x.2.1 x.2.2 (0, 0))
theorem Bks.step {m : List (Nat × Array Value × TypeId)} (h : Bks w1 m u) (hb : Below u.heap.size u v) : Bks w1 m v :=
  ⟨h.bel.trans (hb.mono h.bel.size), h.own, fun x hx => (hb.block _ (Array.getElem?_eq_some_iff.1 (h.blk x hx)).1).trans (h.blk x hx)⟩
theorem Bks.set {m : List (Nat × Array Value × TypeId)} {n : Nat} {cs : Array Value} {t : TypeId} (h : Bks w1 ((n, cs, t) :: m) u) (hd : ∀ x ∈ m, x.1 ≠ n) (i : Nat) (x : Value) :
    Bks w1 ((n, cs.setIfInBounds i x, t) :: m) (u.setCell ⟨n, i, none⟩ x) := by
  have ho := h.own _ (List.mem_cons_self ..)
  have hk := h.blk _ (List.mem_cons_self ..)
  have hg := GenG.grown_set u n i x
  refine ⟨h.bel.grown hg h.bel.size (fun k hk => by cases hk; exact ho), fun y hy => ?_, fun y hy => ?_⟩
  · rcases List.mem_cons.1 hy with rfl | hy
    · exact ho
    · exact h.own _ (List.mem_cons_of_mem _ hy)
  · rcases List.mem_cons.1 hy with rfl | hy
    · exact heap_setCell_same _ _ _ _ _ _ hk
    · have h1 := h.blk _ (List.mem_cons_of_mem _ hy)
      exact (hg.block _ (Array.getElem?_eq_some_iff.1 h1).1 (fun e => hd y hy (Option.some.inj e))).trans h1
theorem Bks.row {m : List (Nat × Array Value × TypeId)} {n : Nat} {cs : Array Value} {t : TypeId} (h : Bks w1 ((n, cs, t) :: m) u) (hd : ∀ x ∈ m, x.1 ≠ n) (cs' : Array Value) :
    Bks w1 ((n, cs', t) :: m) (u.setRow n cs') := by
  have ho := h.own _ (List.mem_cons_self ..)
  have hk := h.blk _ (List.mem_cons_self ..)
  refine ⟨Same.below_setRow h.bel ho cs', fun y hy => ?_, fun y hy => ?_⟩
  · rcases List.mem_cons.1 hy with rfl | hy
    · exact ho
    · exact h.own _ (List.mem_cons_of_mem _ hy)
  · rcases List.mem_cons.1 hy with rfl | hy
    · exact setRow_heap _ _ _ _ _ _ hk
    · have h1 := h.blk _ (List.mem_cons_of_mem _ hy)
      exact (setRow_other _ _ _ _ (hd y hy)).trans h1
theorem row_A {n : Nat} {A E : List Int} {t : TypeId} (h : u.heap[n]? = some (.cells (bcells A E) t (0, 0))) (hm : A.length ≤ maxLen) : IntRow u ⟨some ⟨n, 0, none⟩, A.length⟩ A := by
  refine .inr ⟨_, rfl, Nat.le_refl _, hm, fun i v hv j x hx => ?_⟩
  cases j with
  | zero =>
    obtain rfl := Option.some.inj hx
    rw [Nat.mul_one, add_two, Nat.add_zero, Addr.add_mid, Nat.zero_add, cell_of_row _ _ _ _ _ _ h]
    exact batA hv
  | succ j => simp at hx
theorem row_E {n : Nat} {A E : List Int} {t : TypeId} (h : u.heap[n]? = some (.cells (bcells A E) t (0, 0))) (hm : E.length ≤ maxLen) : IntRow u ⟨some ⟨n, A.length, none⟩, E.length⟩ E := by
  refine .inr ⟨_, rfl, Nat.le_refl _, hm, fun i v hv j x hx => ?_⟩
  cases j with
  | zero =>
    obtain rfl := Option.some.inj hx
    rw [Nat.mul_one, add_two, Nat.add_zero, Addr.add_mid, cell_of_row _ _ _ _ _ _ h]
    exact batE hv
  | succ j => simp at hx
end
theorem results_two {P : Program} {fn : Func} {p q : Tmp} {t1 t2 : TypeId} (h : fn.results = #[.cell p t1, .cell q t2]) (tmps : Array Value) (w : World) (g1 g2 : Nat) (s1 s2 : TypeId) (c1 c2 : Array Value) (d1 d2 : TypeDesc)
    (hp : tmps.getD p undef = .pointer (some ⟨g1, 0, none⟩)) (hq : tmps.getD q undef = .pointer (some ⟨g2, 0, none⟩)) (hg1 : w.heap[g1]? = some (.cells c1 s1 (0, 0))) (hg2 : w.heap[g2]? = some (.cells c2 s2 (0, 0)))
    (hu1 : P.underlying t1 = some d1) (hd1 : (match d1 with | .struct _ | .array _ _ => true | _ => false) = true) (hi1 : (P.info? t1).map (·.size) = some c1.size)
    (hu2 : P.underlying t2 = some d2) (hd2 : (match d2 with | .struct _ | .array _ _ => true | _ => false) = true) (hi2 : (P.info? t2).map (·.size) = some c2.size) :
    (results fn tmps).run P w = .ok (.tuple #[.agg c1, .agg c2]) w := by
  have hp' : tmps[p]?.getD undef = .pointer (some ⟨g1, 0, none⟩) := by simpa using hp
  have hq' : tmps[q]?.getD undef = .pointer (some ⟨g2, 0, none⟩) := by simpa using hq
  simp [results, h, hp', hq', asAddr, Sem.run_bind, Result.andThen, run_loadVar_row w g1 s1 t1 c1 _ d1 hg1 hu1 hd1 hi1, run_loadVar_row w g2 s2 t2 c2 _ d2 hg2 hu2 hd2 hi2]
theorem infoB : (Tryz.prog.info? 65).map (·.size) = some 12 := by kernel_rfl
theorem infoF : (Tryz.prog.info? 37).map (·.size) = some 2 := by kernel_rfl
end Go.Proofs.YtjolhoilcibdfaaGreat.BdB
/- How the waiting times grow with a phase's times; how large they are where all times are in range. Plain mathematics; no program in it. -/
namespace Go.Proofs.YtjolhoilcibdfaaGreat.BdQ
open Go Tab PlaceM RefC Clear OnS ServeS PassS FreeS EntryS OverS WaitS BdM BdPM BdB
set_option linter.unusedVariables false
set_option linter.unusedSimpArgs false
theorem sums_mono {l m : List Int} (h : tot l ≤ tot m) : sums l ≤ sums m := by rw [sums_tot, sums_tot]; omega
theorem tot_map {α : Type} {f g : α → Int} : ∀ {l : List α}, (∀ x ∈ l, f x ≤ g x) → tot (l.map f) ≤ tot (l.map g)
  | [], _ => Int.le_refl _
  | x :: l, h => by
    rw [List.map_cons, List.map_cons, tot_cons, tot_cons]
    have := cap_mono (h x (by simp))
    have := tot_map (l := l) (fun y hy => h y (by simp [hy]))
    omega
theorem mosts_map {α : Type} {f g : α → Int} : ∀ {l : List α}, (∀ x ∈ l, f x ≤ g x) → mosts (l.map f) ≤ mosts (l.map g)
  | [], _ => Int.le_refl _
  | x :: l, h => by
    rw [List.map_cons, List.map_cons, mosts_cons, mosts_cons]
    have := h x (by simp)
    have := mosts_map (l := l) (fun y hy => h y (by simp [hy]))
    omega
/-- U's times are T's or more. -/
structure Ge (T U : Tab) : Prop where
  gr : U.groups = T.groups
  rl : U.rails = T.rails
  ex : U.extend = T.extend
  rv : U.revert = T.revert
  sh : U.share = T.share
  on : onS U = onS T
  mn : ∀ p, (phAt U p).min = (phAt T p).min
  wk : ∀ p, (phAt U p).walk = (phAt T p).walk
  bl : ∀ p, (phAt U p).blinks = (phAt T p).blinks
  yl : ∀ p, (phAt U p).yellow = (phAt T p).yellow
  tp : ∀ p, (phAt T p).top ≤ (phAt U p).top
  rd : ∀ p, (phAt T p).red ≤ (phAt U p).red
theorem serve_ge {T U : Tab} (h : Ge T U) (p : Int) : serveS T p ≤ serveS U p := by
  unfold serveS serveR
  rw [h.on, h.ex, h.rv, h.mn, h.wk, h.bl, h.yl]
  split
  · refine sums_mono ?_
    simp only [tot_cons, tot_nil]
    have h1 := cap_mono (h.tp p)
    have h2 := cap_mono (h.rd p)
    have h3 : cap (mosts [cap (phAt T p).min, sums [(phAt T p).walk, (phAt T p).blinks], cap (phAt T p).top]) ≤ cap (mosts [cap (phAt T p).min, sums [(phAt T p).walk, (phAt T p).blinks], cap (phAt U p).top]) := by
      refine cap_mono ?_
      simp only [mosts_cons, mosts_nil]
      omega
    omega
  · omega
theorem spots_eq {T U : Tab} (h : Ge T U) : spots U = spots T := by unfold spots; rw [h.gr]
theorem where_eq {T U : Tab} (h : Ge T U) (p : Int) : where_ U p = where_ T p := by unfold where_; rw [spots_eq h]
theorem pass_ge {T U : Tab} (h : Ge T U) (g : Int) : passS T g ≤ passS U g := by
  unfold passS
  rw [h.gr, spots_eq h]
  split
  · refine sums_mono ?_
    rw [tot_cons, tot_cons]
    have : tot (passL T g (spots T)) ≤ tot (passL U g (spots T)) := by
      unfold passL
      exact tot_map (fun x _ => serve_ge h x.p)
    omega
  · omega
theorem free_ge {T U : Tab} (h : Ge T U) (p : Int) : freeS T p ≤ freeS U p := by
  unfold freeS
  rw [where_eq h, h.on]
  split
  · split
    · unfold freeR
      refine sums_mono ?_
      rw [tot_cons, tot_cons, h.gr]
      rename_i x _ _
      have h1 := cap_mono (pass_ge h x.g)
      have h2 : tot (upL T T.groups.length) ≤ tot (upL U T.groups.length) := by
        unfold upL
        exact tot_map (fun i _ => pass_ge h i)
      omega
    · omega
  · omega
theorem free_lo (T : Tab) (p : Int) : 0 ≤ freeS T p := by
  unfold freeS
  split
  · split
    · exact sums_lo _
    · omega
  · omega
theorem clear_ge {T U : Tab} (h : Ge T U) : clearS T ≤ clearS U := by
  unfold clearS
  rw [h.on]
  refine mosts_map (fun p _ => ?_)
  unfold clr
  refine sums_mono ?_
  simp only [tot_cons, tot_nil]
  rw [h.yl]
  have := cap_mono (h.rd p)
  omega
theorem entry_ge {T U : Tab} (h : Ge T U) (k : Int) : entryS T k ≤ entryS U k := by
  unfold entryS
  rw [h.rl]
  split
  · omega
  · split
    · unfold entryR
      refine sums_mono ?_
      simp only [tot_cons, tot_nil]
      rw [h.rv]
      have := cap_mono (clear_ge h)
      omega
    · omega
theorem over_ge {T U : Tab} (h : Ge T U) : overS T ≤ overS U := by
  unfold overS
  rw [h.rl]
  split
  · omega
  · unfold overR
    refine sums_mono ?_
    simp only [tot_cons, tot_nil]
    have h1 : ovM U (SetM.list (onS U : Nat)) = ovM T (SetM.list (onS T : Nat)) := by
      rw [h.on]
      unfold ovM
      congr 1
      funext p
      rw [h.mn, h.wk, h.bl]
    have h2 : mosts (ovL T U.rails.length) ≤ mosts (ovL U U.rails.length) := by
      unfold ovL
      refine mosts_map (fun k _ => ?_)
      unfold ovE
      refine sums_mono ?_
      simp only [tot_cons, tot_nil]
      rw [h.rl]
      have := cap_mono (entry_ge h k)
      omega
    rw [h1, h.rv, h.rl]
    rw [h.rl] at h2
    have := cap_mono h2
    have := cap_mono (clear_ge h)
    omega
theorem mul_mono {a b c d : Int} (h1 : a ≤ c) (h2 : b ≤ d) : mul a b ≤ mul c d := by
  unfold mul
  refine cap_mono ?_
  exact Int.mul_le_mul (cap_mono h1) (cap_mono h2) (cap_lo _) (cap_lo _)
theorem wait_ge {T U : Tab} (h : Ge T U) (p : Int) : waitS T p ≤ waitS U p := by
  have hf := free_ge h p
  have h0 := free_lo T p
  have hw := wait_lo U p
  by_cases hr : T.rails.length = 0
  · unfold waitS
    rw [if_pos (.inr hr), if_pos (.inr (by rw [h.rl]; exact hr))]
    exact hf
  by_cases hz : freeS T p = 0
  · have : waitS T p = 0 := by unfold waitS; rw [if_pos (.inl hz)]; exact hz
    omega
  · unfold waitS
    rw [if_neg (by rintro (e | e) <;> contradiction), if_neg (by rw [h.rl]; rintro (e | e) <;> omega)]
    unfold waitR
    refine sums_mono ?_
    simp only [tot_cons, tot_nil]
    rw [h.sh]
    have : mul (sums [T.share, 1]) (sums [overS T, freeS T p, 2]) ≤ mul (sums [T.share, 1]) (sums [overS U, freeS U p, 2]) := by
      refine mul_mono (Int.le_refl _) (sums_mono ?_)
      simp only [tot_cons, tot_nil]
      have := cap_mono (over_ge h)
      have := cap_mono hf
      omega
    have := cap_mono this
    omega
theorem onTo_set {x : Ph} : ∀ (i : Nat) (l : List Ph) (k : Nat) (u : Ph), l[k]? = some u → x.on = u.on → onTo i (l.set k x) = onTo i l
  | i, [], k, u, h, e => by simp at h
  | i, y :: l, 0, u, h, e => by
    obtain rfl : y = u := by simpa using h
    rw [List.set_cons_zero, onTo, onTo, e]
  | i, y :: l, k + 1, u, h, e => by
    rw [List.set_cons_succ, onTo, onTo, onTo_set (i + 1) l k u (by simpa using h) e]
/-- A phase with a longer green and a longer red. -/
theorem ge_set {T : Tab} (h8 : T.phases.length = 8) {k : Nat} {u : Ph} (hu : T.phases[k]? = some u) {a b : Int} (ha : 0 ≤ a) (hb : 0 ≤ b) :
    Ge T { T with phases := T.phases.set k { u with top := u.top + a, red := u.red + b } } := by
  have hk := (List.getElem?_eq_some_iff.1 hu).1
  have key : ∀ p : Int, phAt { T with phases := T.phases.set k { u with top := u.top + a, red := u.red + b } } p = if p.toNat = k then { u with top := u.top + a, red := u.red + b } else phAt T p := by
    intro p
    unfold phAt
    rw [List.getD_eq_getElem?_getD, List.getD_eq_getElem?_getD]
    by_cases e : p.toNat = k
    · rw [if_pos e, e, List.getElem?_set_self hk]; rfl
    · rw [if_neg e, List.getElem?_set_ne (fun q => e q.symm)]
  have at_k : ∀ p : Int, p.toNat = k → phAt T p = u := by
    intro p e
    unfold phAt
    rw [List.getD_eq_getElem?_getD, e, hu]; rfl
  refine ⟨rfl, rfl, rfl, rfl, rfl, ?_, ?_, ?_, ?_, ?_, ?_, ?_⟩
  · have e := onTo_set (x := { u with top := u.top + a, red := u.red + b }) 0 T.phases k u hu rfl
    unfold onS onL
    exact congrArg SetM.of e
  all_goals
    intro p
    rw [key]
    split
    · rename_i e
      rw [at_k p e]
      try (simp only; omega)
    · first | rfl | exact Int.le_refl _
/-! ### how large -/
theorem cap_le {x B : Int} (h : x ≤ B) (h0 : 0 ≤ B) : cap x ≤ B := by unfold cap; split <;> (try split) <;> omega
theorem tot_le {B : Int} (h0 : 0 ≤ B) : ∀ {l : List Int}, (∀ x ∈ l, x ≤ B) → tot l ≤ l.length * B
  | [], _ => by simp [tot_nil]
  | x :: l, h => by
    rw [tot_cons, List.length_cons]
    have := cap_le (h x (by simp)) h0
    have := tot_le h0 (l := l) (fun y hy => h y (by simp [hy]))
    have e : ((l.length + 1 : Nat) : Int) * B = l.length * B + B := by rw [Int.natCast_add, Int.add_mul]; simp
    omega
/-- A table whose times are in range and whose groups are few. -/
structure Lo (T : Tab) : Prop where
  h8 : T.phases.length = 8
  ph : ∀ p, 0 ≤ (phAt T p).min ∧ (phAt T p).min ≤ 9999 ∧ (phAt T p).top ≤ 9999 ∧ (phAt T p).yellow ≤ 9999 ∧ (phAt T p).red ≤ 9999 ∧ (phAt T p).walk ≤ 9999 ∧ (phAt T p).blinks ≤ 9999
  ex : T.extend ≤ 9999
  rv : T.revert ≤ 9999
  sh : 0 ≤ T.share ∧ T.share ≤ 3
  gr : T.groups.length ≤ 3
  rw : ∀ g ∈ T.groups, g.1.length ≤ 2 ∧ g.2.length ≤ 2
  rl : ∀ r ∈ T.rails, r.delay ≤ 9999 ∧ r.hold ≤ 9999 ∧ r.green ≤ 9999 ∧ r.foot ≤ 9999 ∧ r.stay ≤ 9999
theorem serve_le {T : Tab} (h : Lo T) (p : Int) : 0 ≤ serveS T p ∧ serveS T p ≤ 60002 := by
  unfold serveS serveR
  split
  · refine ⟨sums_lo _, ?_⟩
    obtain ⟨h0, h1, h2, h3, h4, h5, h6⟩ := h.ph p
    rw [sums_tot]
    simp only [tot_cons, tot_nil]
    have a1 := cap_le h.ex (by omega)
    have a2 := cap_le h.rv (by omega)
    have a3 := cap_le h3 (by omega)
    have a4 := cap_le h4 (by omega)
    have a5 := cap_le h5 (by omega)
    have a6 := cap_le h6 (by omega)
    have a7 := cap_le h2 (by omega)
    have a8 := cap_le h1 (by omega)
    have b1 : sums [(phAt T p).walk, (phAt T p).blinks] ≤ 19998 := by rw [sums_tot]; simp only [tot_cons, tot_nil]; omega
    have b2 : cap (mosts [cap (phAt T p).min, sums [(phAt T p).walk, (phAt T p).blinks], cap (phAt T p).top]) ≤ 19998 := by
      refine cap_le ?_ (by omega)
      simp only [mosts_cons, mosts_nil]
      omega
    have b3 : cap 8 = 8 := rfl
    omega
  · omega
theorem pass_le {T : Tab} (h : Lo T) (g : Int) : 0 ≤ passS T g ∧ passS T g ≤ 240016 := by
  by_cases hg : 0 ≤ g ∧ g < T.groups.length
  · obtain ⟨q, rfl⟩ := Int.eq_ofNat_of_zero_le hg.1
    have hq : q < T.groups.length := by omega
    rw [pass_rows (List.getElem?_eq_getElem hq)]
    refine ⟨sums_lo _, ?_⟩
    obtain ⟨r0, r1⟩ := h.rw _ (List.getElem_mem hq)
    generalize T.groups[q] = y at r0 r1
    rw [sums_tot, tot_cons]
    have h1 := tot_le (B := 60002) (by omega) (l := (y.1 ++ y.2).map (serveS T)) (by
      intro x hx
      obtain ⟨p, _, rfl⟩ := List.mem_map.1 hx
      exact (serve_le h p).2)
    rw [List.length_map, List.length_append] at h1
    have h2 : ((y.1.length + y.2.length : Nat) : Int) ≤ 4 := by omega
    have h3 : ((y.1.length + y.2.length : Nat) : Int) * 60002 ≤ 4 * 60002 := by omega
    have b3 : cap 8 = 8 := rfl
    omega
  · unfold passS
    rw [if_neg hg]; omega
theorem cap_pass {T : Tab} (h : Lo T) (g : Int) : cap (passS T g) = passS T g := cap_in (pass_le h g).1 (by have := (pass_le h g).2; omega)
theorem up_le {T : Tab} (h : Lo T) {n : Nat} (hn : n ≤ T.groups.length) : 0 ≤ tot (upL T n) ∧ tot (upL T n) ≤ 720048 := by
  refine ⟨tot_lo _, ?_⟩
  have h1 := tot_le (B := 240016) (by omega) (l := upL T n) (by
    intro x hx
    unfold upL at hx
    obtain ⟨i, _, rfl⟩ := List.mem_map.1 hx
    exact (pass_le h i).2)
  have : (upL T n).length = n := by unfold upL; simp
  rw [this] at h1
  have := h.gr
  omega
theorem up_tot {T : Tab} (h : Lo T) (n : Nat) : tot (upL T (n + 1)) = tot (upL T n) + passS T n := by
  rw [up_succ, tot_snoc, cap_pass h]
theorem free_val {T : Tab} (h : Lo T) {p : Int} {x : Spt} (hw : where_ T p = some x) (ho : SetM.has (onS T : Nat) p = true) : freeS T p = tot (upL T T.groups.length) + passS T x.g := by
  unfold freeS
  rw [hw]
  simp only
  rw [if_pos ho]
  unfold freeR
  rw [sums_tot, tot_cons, cap_pass h]
  have := (up_le h (Nat.le_refl _)).2
  have := (pass_le h x.g).2
  omega
theorem free_le {T : Tab} (h : Lo T) (p : Int) : freeS T p ≤ 960064 := by
  by_cases ho : SetM.has (onS T : Nat) p = true
  · cases hw : where_ T p with
    | some x =>
      rw [free_val h hw ho]
      have := (up_le h (Nat.le_refl _)).2
      have := (pass_le h x.g).2
      omega
    | none => unfold freeS; rw [hw]; simp
  · unfold freeS
    split
    · rw [if_neg ho]; omega
    · omega
theorem find_mem {p : Int} {x : Spt} : ∀ {l : List Spt}, find p l = some x → x ∈ l ∧ x.p = p := by
  intro l h
  unfold find at h
  refine ⟨List.mem_of_find?_eq_some h, ?_⟩
  have := List.find?_some h
  simpa using this
theorem cap_tot {x : Int} : ∀ {l : List Int}, x ∈ l → cap x ≤ tot l
  | y :: l, h => by
    rw [tot_cons]
    have := tot_lo l
    have := cap_lo y
    rcases List.mem_cons.1 h with rfl | h
    · omega
    · have := cap_tot h; omega
theorem where_mem {T : Tab} {p : Int} {x : Spt} (h : where_ T p = some x) : x ∈ spots T ∧ x.p = p := by
  unfold where_ at h
  exact find_mem h
theorem serve_pass {T : Tab} (h : Lo T) {p : Int} {x : Spt} (hw : where_ T p = some x) : serveS T p ≤ passS T x.g ∧ (x.g : Nat) < T.groups.length := by
  obtain ⟨hm, hp⟩ := where_mem hw
  have hg : x.g < T.groups.length := by
    obtain ⟨y, hy, _⟩ := PlanM.mem_spots.1 hm
    exact (List.getElem?_eq_some_iff.1 hy).1
  refine ⟨?_, hg⟩
  unfold passS
  rw [if_pos (by omega), sums_tot, tot_cons]
  have hs := serve_le h p
  have hc : cap (serveS T p) = serveS T p := cap_in hs.1 (by omega)
  have h1 : cap (serveS T p) ≤ tot (passL T x.g (spots T)) := by
    have hmem : serveS T p ∈ passL T x.g (spots T) := by
      unfold passL
      refine List.mem_map.2 ⟨x, List.mem_filter.2 ⟨hm, by simp⟩, by rw [hp]⟩
    exact cap_tot hmem
  have b3 : cap 8 = 8 := rfl
  omega
theorem up_ge {T : Tab} (h : Lo T) : ∀ {n g : Nat}, g < n → passS T g ≤ tot (upL T n)
  | n + 1, g, hg => by
    rw [up_tot h]
    have := tot_lo (upL T n)
    have := (pass_le h (n : Int)).1
    by_cases e : g = n
    · subst e; omega
    · have := up_ge h (n := n) (g := g) (by omega); omega
theorem free_two {T : Tab} (h : Lo T) {p : Int} {x : Spt} (hw : where_ T p = some x) (ho : SetM.has (onS T : Nat) p = true) : 2 * serveS T p ≤ freeS T p := by
  rw [free_val h hw ho]
  obtain ⟨h1, h2⟩ := serve_pass h hw
  have := up_ge h h2
  omega
theorem wait_free {T : Tab} (h : Lo T) (p : Int) : freeS T p ≤ waitS T p := by
  unfold waitS
  split
  · omega
  · have hf := free_le h p
    have h0 := free_lo T p
    obtain ⟨s0, s1⟩ := h.sh
    unfold waitR
    have a1 : 1 ≤ sums [T.share, 1] := by
      rw [sums_tot]; simp only [tot_cons, tot_nil]
      have := cap_lo T.share
      have : cap 1 = 1 := rfl
      omega
    have a2 : freeS T p ≤ sums [overS T, freeS T p, 2] := by
      rw [sums_tot]; simp only [tot_cons, tot_nil]
      have := cap_lo (overS T)
      have : cap (freeS T p) = freeS T p := cap_in h0 (by omega)
      have : cap 2 = 2 := rfl
      omega
    have a3 : sums [overS T, freeS T p, 2] ≤ mul (sums [T.share, 1]) (sums [overS T, freeS T p, 2]) := by
      have b1 := sums_lo [overS T, freeS T p, 2]
      have b2 := sums_hi [overS T, freeS T p, 2]
      have b3 := sums_lo [T.share, 1]
      have e := mul_mono a1 (Int.le_refl (sums [overS T, freeS T p, 2]))
      have e2 : mul 1 (sums [overS T, freeS T p, 2]) = sums [overS T, freeS T p, 2] := by
        unfold mul
        rw [show cap 1 = 1 from rfl, Int.one_mul, cap_cap, cap_sums]
      omega
    have a4 : mul (sums [T.share, 1]) (sums [overS T, freeS T p, 2]) ≤ sums [mul (sums [T.share, 1]) (sums [overS T, freeS T p, 2]), T.share] := by
      have c1 : 0 ≤ mul (sums [T.share, 1]) (sums [overS T, freeS T p, 2]) := by unfold mul; exact cap_lo _
      have c2 : mul (sums [T.share, 1]) (sums [overS T, freeS T p, 2]) ≤ 2147483647 := by unfold mul; exact cap_hi _
      generalize mul (sums [T.share, 1]) (sums [overS T, freeS T p, 2]) = m at c1 c2
      rw [sums_tot]; simp only [tot_cons, tot_nil]
      rw [cap_in c1 c2]
      have := cap_lo T.share
      omega
    omega
end Go.Proofs.YtjolhoilcibdfaaGreat.BdQ
/- The contract of package bound's bounds: the wait of each phase, the entry of each rail. -/
namespace Go.Proofs.YtjolhoilcibdfaaGreat.BdN
open Go.ChangeShapes Go.WideShapes Go.ChangeAt Go.RowKit
open Tab Gath OnS RefC Clear
open May (St phases_in infoP infoT row_new)
open FreeS OverS WaitS EntryS BdB PlaceM
set_option linter.unusedVariables false
set_option linter.unusedSimpArgs false
theorem infoBz : (Tryz.prog.info? 65).map (fun i => (i.zero, i.size)) = some (some (.agg (bcells (zeros 8) (zeros 4))), 12) := by kernel_rfl
theorem laid3 (w : World) (a b c : Array Value) (s t r : TypeId) : Bks w [(w.heap.size + 2, c, r), (w.heap.size + 1, b, t), (w.heap.size, a, s)] (((w.alloc (.cells a s)).alloc (.cells b t)).alloc (.cells c r)) := by
  have hb : Below w.heap.size w (((w.alloc (.cells a s)).alloc (.cells b t)).alloc (.cells c r)) := (((Below.refl _ _).alloc (Nat.le_refl _) _).alloc (by simp) _).alloc (by simp; omega) _
  refine ⟨hb, ?_, ?_⟩
  · intro x hx
    simp only [List.mem_cons, List.not_mem_nil, or_false] at hx
    rcases hx with rfl | rfl | rfl <;> simp
  · intro x hx
    simp only [List.mem_cons, List.not_mem_nil, or_false] at hx
    have s2 : ((w.alloc (.cells a s)).alloc (.cells b t)).heap.size = w.heap.size + 2 := by simp
    rcases hx with rfl | rfl | rfl
    · have := heap_alloc_new ((w.alloc (.cells a s)).alloc (.cells b t)) (.cells c r)
      rwa [s2] at this
    · rw [heap_alloc_old _ _ (by rw [s2]; simp)]; exact heap_alloc2_new w _ _
    · rw [heap_alloc_old _ _ (by rw [s2]; simp)]; exact heap_alloc2_old w _ _
theorem bks_lies {w1 u : World} {m : List (Nat × Array Value × TypeId)} (h : Bks w1 m u) {x : Nat × Array Value × TypeId} (hx : x ∈ m) : Lies u ⟨x.1, 0, none⟩ x.2.1.toList := Row.lies_of_block (h.blk x hx)
theorem bks_cell {w1 u : World} {m : List (Nat × Array Value × TypeId)} (h : Bks w1 m u) {x : Nat × Array Value × TypeId} (hx : x ∈ m) {o : Nat} {v : Value} (hv : x.2.1[o]? = some v) : u.cell? ⟨x.1, o, none⟩ = some v := by
  rw [cell_of_row _ _ _ _ _ _ (h.blk x hx)]; exact hv
theorem bks_frozen {w1 u : World} {m : List (Nat × Array Value × TypeId)} (h : Bks w1 m u) {x : Nat × Array Value × TypeId} (hx : x ∈ m) (o : Nat) : u.frozen? ⟨x.1, o, none⟩ = false := frozen_of_row _ _ _ _ _ (h.blk x hx)
set_option maxRecDepth 100000 in
set_option maxHeartbeats 8000000 in
theorem bounds_any (T : Tab) (h : Hd) (w : World) (ht : IsTab w h T) (sm : Few T) (hr : T.rails.length ≤ 4) :
    Calls Tryz.prog 69 #[.agg (T.cells h).toArray] w fun e w' => e = .returned (.agg (bcells (waitsL T) (entsL T))) ∧ Below w.heap.size w w' := by
  have C := Lib.hid (cells_ok ht)
  have hsz := C.out.size
  have IA : Hid ((Tryz.prog.info? 32).map (·.size) = some (T.cells h).length) := Lib.hid (by rw [List.size_toArray] at hsz; rw [hsz]; exact infoT)
  have WC : Hid (∀ (q : Nat) W, Below w.heap.size w W → Calls Tryz.prog 35 #[.agg (T.cells h).toArray, .int .i64 q] W fun e w' => e = .returned (.int .i64 (waitS T q)) ∧ Below W.heap.size W w') := Lib.hid (fun q W hb => BdW.pwait_any T h q W (ht.below hb) sm)
  have EC : Hid (∀ (q : Nat) W, Below w.heap.size w W → Calls Tryz.prog 31 #[.agg (T.cells h).toArray, .int .i64 q] W fun e w' => e = .returned (.int .i64 (entryS T q)) ∧ Below W.heap.size W w') := Lib.hid (fun q W hb => BdE.pentry_any T h q W (ht.below hb))
  have q114 := C.out.r
  have WA : Hid (∀ i : Nat, i < 8 → (waitsL T)[i]? = some (waitS T i)) := Lib.hid (fun i hi => waits_at T hi)
  have EA : Hid (∀ i : Nat, i < 4 → (entsL T)[i]? = some (entryS T i)) := Lib.hid (fun i hi => ents_at T hi)
  have EF : Hid (∀ k : Nat, T.rails.length ≤ k → entryS T k = 0) := Lib.hid (fun k hk => entry_far hk)
  have WL : Hid ((waitsL T).length = 8) := Lib.hid (waits_len T)
  have EL : Hid ((entsL T).length = 4) := Lib.hid (ents_len T)
  generalize waitsL T = wl at WA WL ⊢
  generalize entsL T = el at EA EL ⊢
  obtain ⟨sg, sd, ⟨ra, rcap⟩, sb⟩ := h
  clear ht sm C
  generalize T.cells _ = c at *
  have hz := (zero_of_info infoBz).1
  have ST := Lib.hid (laid3 w c.toArray (bcells (zeros 8) (zeros 4)) (bcells (zeros 8) (zeros 4)) 32 65 65)
  have H00 : Hid (bcells (zeros 8) (zeros 4) = bcells (upTo wl 8 0) (upTo el 4 0)) := Lib.hid rfl
  have HZs : Hid ((bcells (zeros 8) (zeros 4)).size = 12) := Lib.hid rfl
  generalize bcells (zeros 8) (zeros 4) = Z at *
  rw [H00.out] at ST
  generalize T.rails.length = n at *
  have HN := Lib.hid hr
  go_enter Tryz.func69, Tryz.ntmps69
  go_upto_region 2 with fail
  rw [← H00.out] at ST
  generalize (((w.alloc (.cells c.toArray 32)).alloc (.cells Z 65)).alloc (.cells Z 65)) = w1 at ST ⊢
  rw [H00.out] at ST
  clear hz hsz H00 HZs hr
  have LT : Hid (∀ W, Below w1.heap.size w1 W → Lies W ⟨w.heap.size, 0, none⟩ c) := Lib.hid (fun W hb => by have := bks_lies (ST.out.step hb) (x := (w.heap.size, c.toArray, 32)) (by simp); simpa using this)
  have Q114 : Hid (∀ W, Below w1.heap.size w1 W → W.cell? ⟨w.heap.size, 114, none⟩ = some (.slice ra n rcap)) := Lib.hid (fun W hb => bks_cell (ST.out.step hb) (x := (w.heap.size, c.toArray, 32)) (by simp) q114)
  have C114 := Lib.hid q114
  clear q114
  generalize hN0 : w.heap.size + 2 = N0 at *
  generalize hN1 : w.heap.size + 1 = N1 at *
  have NE : Hid (N0 ≠ N1 ∧ N0 ≠ w.heap.size ∧ N1 ≠ w.heap.size) := Lib.hid (by omega)
  clear hN0 hN1
  go_wp2_with fail
  go_loopw [6] (fun i wr => ∃ q : Nat, q ≤ 8 ∧ i = .int .i64 q ∧ Bks w [(N0, bcells (upTo wl 8 q) (upTo el 4 0), 65), (N1, bcells (upTo wl 8 0) (upTo el 4 0), 65), (w.heap.size, c.toArray, 32)] wr) (fun i _ => 8 - (intOf i).toNat)
  case atStart => exact ⟨0, by omega, rfl, ST.out⟩
  case round =>
    obtain ⟨q, hq, rfl, hB⟩ := hrel
    have HB := Lib.hid hB
    clear hB
    by_cases hlt : q < 8
    · skip
      have hv := WA.out q (by omega)
      have UP : Hid ((upTo wl 8 q).set q (waitS T q) = upTo wl 8 (q + 1)) := Lib.hid (upTo_succ WL.out hv)
      have WCq := Lib.hid (WC.out q)
      generalize waitS T q = x at UP WCq hv
      clear hv
      have LTW : Hid (Lies wr ⟨w.heap.size, 0, none⟩ c) := Lib.hid (by have := bks_lies HB.out (x := (w.heap.size, c.toArray, 32)) (by simp); simpa using this)
      go_wp2_with (refine Row.wpList_load_g 32 _ rfl (by first | rfl | go_simp) ⟨w.heap.size, 0, none⟩ rfl c _ LTW.out Tryz.underlying32 rfl IA.out ?_)
      refine (WCq.out _ HB.out.bel).mono ?_
      rintro e u5 ⟨rfl, hb⟩
      have HB5 := Lib.hid (HB.out.step hb)
      clear hb LTW WCq HB
      obtain ⟨v0, hv0⟩ : ∃ v0, (bcells (upTo wl 8 q) (upTo el 4 0))[q]? = some v0 := ⟨_, Array.getElem?_eq_getElem (by rw [bsize]; rw [upTo_len WL.out (by omega), upTo_len EL.out (by omega)]; omega)⟩
      have c5 : u5.cell? ⟨N0, q, none⟩ = some v0 := bks_cell HB5.out (x := (N0, bcells (upTo wl 8 q) (upTo el 4 0), 65)) (by simp) hv0
      have f5 : u5.frozen? ⟨N0, q, none⟩ = false := bks_frozen HB5.out (x := (N0, bcells (upTo wl 8 q) (upTo el 4 0), 65)) (by simp) (q)
      have HB6 : Hid (Bks w [(N0, bcells (upTo wl 8 (q + 1)) (upTo el 4 0), 65), (N1, bcells (upTo wl 8 0) (upTo el 4 0), 65), (w.heap.size, c.toArray, 32)] (u5.setCell ⟨N0, q, none⟩ (I x))) := Lib.hid (by
        have := HB5.out.set (by intro y hy; simp only [List.mem_cons, List.not_mem_nil, or_false] at hy; obtain ⟨n1, n2, n3⟩ := NE.out; rcases hy with rfl | rfl <;> simp only <;> omega) (q) (I x)
        rwa [setA x (by rw [upTo_len WL.out hq]; exact hlt), UP.out] at this)
      clear HB5 hv0
      go_wp2
      go_roundw
      case rel => exact ⟨q + 1, by omega, by go_num, HB6.out⟩
      case measure => simp [intOf]; omega
    · obtain rfl : q = 8 := by omega
      have HB2 : Hid (Bks w [(N0, bcells wl (upTo el 4 0), 65), (N1, bcells (upTo wl 8 0) (upTo el 4 0), 65), (w.heap.size, c.toArray, 32)] wr) := Lib.hid (by have := HB.out; rwa [upTo_full WL.out] at this)
      have q114 : wr.cell? ⟨w.heap.size, 114, none⟩ = some (.slice ra n rcap) := bks_cell HB2.out (x := (w.heap.size, c.toArray, 32)) (by simp) C114.out
      clear HB ST LT Q114 WC WA hq hlt
      rw [show ((8 : Nat) : Int) = (8 : Int) from rfl]
      go_upto_region 8 with fail
      clear q114
      go_loopw [19] (fun i wr => ∃ q : Nat, q ≤ n ∧ i = .int .i64 q ∧ Bks w [(N0, bcells wl (upTo el 4 q), 65), (N1, bcells (upTo wl 8 0) (upTo el 4 0), 65), (w.heap.size, c.toArray, 32)] wr) (fun i _ => n - (intOf i).toNat)
      case atStart => exact ⟨0, by omega, rfl, HB2.out⟩
      case round =>
        obtain ⟨q, hq, rfl, hB⟩ := hrel
        have HB := Lib.hid hB
        have hn4 := HN.out
        clear hB HB2
        by_cases hlt : q < n
        · skip
          have hv := EA.out q (by omega)
          have UP : Hid ((upTo el 4 q).set q (entryS T q) = upTo el 4 (q + 1)) := Lib.hid (upTo_succ EL.out hv)
          have WCq := Lib.hid (EC.out q)
          generalize entryS T q = x at UP WCq hv
          clear hv
          have LTW : Hid (Lies wr ⟨w.heap.size, 0, none⟩ c) := Lib.hid (by have := bks_lies HB.out (x := (w.heap.size, c.toArray, 32)) (by simp); simpa using this)
          go_wp2_with (refine Row.wpList_load_g 32 _ rfl (by first | rfl | go_simp) ⟨w.heap.size, 0, none⟩ rfl c _ LTW.out Tryz.underlying32 rfl IA.out ?_)
          refine (WCq.out _ HB.out.bel).mono ?_
          rintro e u5 ⟨rfl, hb⟩
          have HB5 := Lib.hid (HB.out.step hb)
          clear hb LTW WCq HB
          obtain ⟨v0, hv0⟩ : ∃ v0, (bcells wl (upTo el 4 q))[8 + q]? = some v0 := ⟨_, Array.getElem?_eq_getElem (by rw [bsize]; rw [WL.out, upTo_len EL.out (by omega)]; omega)⟩
          have c5 : u5.cell? ⟨N0, 8 + q, none⟩ = some v0 := bks_cell HB5.out (x := (N0, bcells wl (upTo el 4 q), 65)) (by simp) hv0
          have f5 : u5.frozen? ⟨N0, 8 + q, none⟩ = false := bks_frozen HB5.out (x := (N0, bcells wl (upTo el 4 q), 65)) (by simp) (8 + q)
          have HB6 : Hid (Bks w [(N0, bcells wl (upTo el 4 (q + 1)), 65), (N1, bcells (upTo wl 8 0) (upTo el 4 0), 65), (w.heap.size, c.toArray, 32)] (u5.setCell ⟨N0, 8 + q, none⟩ (I x))) := Lib.hid (by
            have := HB5.out.set (by intro y hy; simp only [List.mem_cons, List.not_mem_nil, or_false] at hy; obtain ⟨n1, n2, n3⟩ := NE.out; rcases hy with rfl | rfl <;> simp only <;> omega) (8 + q) (I x)
            rw [← WL.out, setE x (by rw [upTo_len EL.out (by omega)]; omega), UP.out, WL.out] at this; exact this)
          clear HB5 hv0
          go_wp2
          go_roundw
          case rel => exact ⟨q + 1, by omega, by go_num, HB6.out⟩
          case measure => simp [intOf]; omega
        · obtain rfl : q = n := by omega
          have HF : Hid (Bks w [(N0, ((wl ++ el).map I).toArray, 65), (N1, bcells (upTo wl 8 0) (upTo el 4 0), 65), (w.heap.size, c.toArray, 32)] wr) := Lib.hid (by
            have := HB.out
            rwa [upTo_same EL.out hn4 (fun j h1 h2 => by rw [EA.out j h2, EF.out j h1])] at this)
          have LB : Hid (Lies wr ⟨N0, 0, none⟩ ((wl ++ el).map I)) := Lib.hid (by have := bks_lies HF.out (x := (N0, ((wl ++ el).map I).toArray, 65)) (by simp); simpa using this)
          have K1 : Hid (wr.heap[N1]? = some (.cells (bcells (upTo wl 8 0) (upTo el 4 0)) 65 (0, 0))) := Lib.hid (HF.out.blk (N1, bcells (upTo wl 8 0) (upTo el 4 0), 65) (by simp))
          have hsz0 : (bcells (upTo wl 8 0) (upTo el 4 0)).size = 12 := by rw [bsize, upTo_len WL.out (by omega), upTo_len EL.out (by omega)]
          have hln : ((wl ++ el).map I).length = 12 := by rw [List.length_map, List.length_append, WL.out, EL.out]
          have LN : Hid (((wl ++ el).map I).length = 12) := Lib.hid hln
          have ON : Hid (((wl ++ el).map I).toArray.all (·.oneCell') = true) := Lib.hid (by have := bone wl el; exact this)
          have RF : Hid (bcells wl el = ((wl ++ el).map I).toArray) := Lib.hid rfl
          generalize (wl ++ el).map I = bc at HF LB LN ON RF
          generalize bcells (upTo wl 8 0) (upTo el 4 0) = Z0 at K1 hsz0 HF
          have Z12 := Lib.hid hsz0
          have IB : Hid ((Tryz.prog.info? 65).map (·.size) = some bc.length) := Lib.hid (by rw [LN.out]; exact infoB)
          have HW := Lib.hid (Same.below_setRow HF.out.bel (HF.out.own (N1, Z0, 65) (by simp)) bc.toArray)
          have HK := Lib.hid (setRow_heap wr N1 _ bc.toArray _ _ K1.out)
          clear hsz0 HB HF hln
          go_wp2_with (first | (refine Row.wpList_load_g 65 _ rfl (by first | rfl | go_simp) ⟨N0, 0, none⟩ rfl bc _ LB.out Tryz.underlying65 rfl IB.out ?_) | (refine wpList_store_row rfl 65 _ _ rfl N1 bc.toArray rfl rfl 65 _ K1.out (by rw [List.size_toArray]; exact IB.out) (by rw [Z12.out, List.size_toArray, LN.out]) ON.out ?_))
          generalize wr.setRow N1 bc.toArray = uz at HW HK ⊢
          (try go_wp2_with fail)
          (try simp only [Exit.inBlock, Exit.then])
          refine bodyPost_ret (v := .agg bc.toArray) ?_ rfl ⟨by rw [RF.out], HW.out⟩
          exact results_cell_row rfl _ _ N1 65 _ (0, 0) _ rfl HK.out Tryz.underlying65 rfl (by rw [List.size_toArray]; exact IB.out)
end Go.Proofs.YtjolhoilcibdfaaGreat.BdN
