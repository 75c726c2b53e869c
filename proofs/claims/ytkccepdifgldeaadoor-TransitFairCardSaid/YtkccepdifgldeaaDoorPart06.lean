/- 3 texts in one file, in build order. -/
import Derived.Test.YtkccepdifgldeaaDoorRows
import Derived.Test.YtkccepdifgldeaaDoorPart05
import Derived.Test.YtkccepdifgldeaaDoorPart01
import Derived.Test.YtkccepdifgldeaaDoorPart02
import Derived.Test.YtkccepdifgldeaaDoorPart04
import Derived.StillTailTactics
import Derived.Laws.Rows
import Derived.Deep.Cut
set_option linter.unusedVariables false
set_option linter.unusedSimpArgs false
set_option linter.unusedSectionVars false
set_option maxHeartbeats 8000000
set_option maxRecDepth 100000
namespace Go.Proofs.YtkccepdifgldeaaDoor
namespace GenR
open Go.ChangeShapes Go.WideShapes Go.ChangeAt Go.RowKit
open Tab Clone RefS
open May (infoR infoT)
open GenW Where
open Same (below_setRow)
theorem infoRz : (Tryd.prog.info? 78).map (fun i => (i.zero, i.size)) = some (some (.agg #[I 0, I 0, I 0, I 0, I 0, I 0, I 0, I 0, I 0, I 0, I 0]), 11) := by kernel_rfl
def maskV (n : Int) : Int := IntKind.i64.wrap (IntKind.i64.wrap (2 ^ min (IntKind.u64.wrap n).toNat 64) - 1)
def barsV (x d n : Int) : Int := bits .andNot .i64 (bits .and .i64 x (maskV n)) d
def limTab (x : Int) : Int := [10000, 400, 20].getD x.toNat 0
theorem lim_range (x : Int) : 0 ≤ limTab x ∧ limTab x ≤ 10000 := by
  unfold limTab
  match x.toNat with
  | 0 | 1 | 2 => decide
  | _ + 3 => exact ⟨show (0 : Int) ≤ 0 from by decide, show (0 : Int) ≤ 10000 from by decide⟩
theorem lim_0 (w : World) : Sem.run Tryd.prog (Instr.index 95 (.agg #[I 10000, I 400, I 20]) (.int .i64 0)) w = .ok (I (limTab 0)) w := by kernel_rfl
theorem lim_1 (w : World) : Sem.run Tryd.prog (Instr.index 95 (.agg #[I 10000, I 400, I 20]) (.int .i64 1)) w = .ok (I (limTab 1)) w := by kernel_rfl
theorem lim_2 (w : World) : Sem.run Tryd.prog (Instr.index 95 (.agg #[I 10000, I 400, I 20]) (.int .i64 2)) w = .ok (I (limTab 2)) w := by kernel_rfl
theorem lim_at (x : Int) (h0 : 0 ≤ x) (h1 : x < 3) (w : World) : Sem.run Tryd.prog (Instr.index 95 (.agg #[I 10000, I 400, I 20]) (.int .i64 x)) w = .ok (I (limTab x)) w := by
  have : x = 0 ∨ x = 1 ∨ x = 2 := by omega
  rcases this with rfl | rfl | rfl
  · exact lim_0 w
  · exact lim_1 w
  · exact lim_2 w
/-- A rail by sixteen numbers, among n phases. -/
def genRl (T : Tab) (L : List Int) (i n : Int) : Rl :=
  let dwell := withS T (num L i n) (num L (i + 1) n)
  let p := num L (i + 4) (n + 1)
  let stay := 1 + num L (i + 11) 15
  ⟨barsV (num L (i + 7) 256) dwell n, if p < n then withS T p (num L (i + 5) n) else 0, dwell, withS T (num L (i + 2) n) (num L (i + 3) n),
    num L (i + 8) 4, 1 + num L (i + 9) 6, num L (i + 10) 6, if p < n then 1 + num L (i + 6) 10 else 0, stay, if num L (i + 12) 3 = 1 then stay + num L (i + 13) 30 else 0, num L (i + 8) 4 + 1 + limTab (num L (i + 14) 3)⟩
theorem rail_any (T : Tab) (hd : Hd) (a : Option Addr) (cap : Nat) (L : List Int) (i n : Int) (w : World) (ht : IsTab w hd T) (sm : PlaceM.Few T) (h : IntRow w ⟨a, cap⟩ L) (h0 : 0 ≤ i) (h1 : i ≤ 100000) (n0 : 0 < n) (n8 : n ≤ 8) :
    Calls Tryd.prog 35 #[.agg (T.cells hd).toArray, .slice a L.length cap, .int .i64 i, .int .i64 n] w fun e w' => e = .returned (.agg (genRl T L i n).cells.toArray) ∧ Below w.heap.size w w' := by
  obtain ⟨x0, hx0, ⟨r0, s0⟩, F0⟩ : ∃ x : Int, x = num L i n ∧ (0 ≤ x ∧ x < n) ∧ Hid (∀ W, Below w.heap.size w W → Calls Tryd.prog 33 #[.slice a L.length cap, .int .i64 i, .int .i64 n] W fun e w' => e = .returned (.int .i64 x) ∧ w' = W) := ⟨_, rfl, num_range _ _ _ (by omega), Lib.hid (fun W hb => (from_any a cap L _ _ W (h.below hb) (by omega) (by omega) (by omega)).mono fun _ _ ⟨e, q⟩ => ⟨e, q.symm⟩)⟩
  obtain ⟨x1, hx1, ⟨r1, s1⟩, F1⟩ : ∃ x : Int, x = num L (i + 1) n ∧ (0 ≤ x ∧ x < n) ∧ Hid (∀ W, Below w.heap.size w W → Calls Tryd.prog 33 #[.slice a L.length cap, .int .i64 (i + 1), .int .i64 n] W fun e w' => e = .returned (.int .i64 x) ∧ w' = W) := ⟨_, rfl, num_range _ _ _ (by omega), Lib.hid (fun W hb => (from_any a cap L _ _ W (h.below hb) (by omega) (by omega) (by omega)).mono fun _ _ ⟨e, q⟩ => ⟨e, q.symm⟩)⟩
  obtain ⟨x2, hx2, ⟨r2, s2⟩, F2⟩ : ∃ x : Int, x = num L (i + 2) n ∧ (0 ≤ x ∧ x < n) ∧ Hid (∀ W, Below w.heap.size w W → Calls Tryd.prog 33 #[.slice a L.length cap, .int .i64 (i + 2), .int .i64 n] W fun e w' => e = .returned (.int .i64 x) ∧ w' = W) := ⟨_, rfl, num_range _ _ _ (by omega), Lib.hid (fun W hb => (from_any a cap L _ _ W (h.below hb) (by omega) (by omega) (by omega)).mono fun _ _ ⟨e, q⟩ => ⟨e, q.symm⟩)⟩
  obtain ⟨x3, hx3, ⟨r3, s3⟩, F3⟩ : ∃ x : Int, x = num L (i + 3) n ∧ (0 ≤ x ∧ x < n) ∧ Hid (∀ W, Below w.heap.size w W → Calls Tryd.prog 33 #[.slice a L.length cap, .int .i64 (i + 3), .int .i64 n] W fun e w' => e = .returned (.int .i64 x) ∧ w' = W) := ⟨_, rfl, num_range _ _ _ (by omega), Lib.hid (fun W hb => (from_any a cap L _ _ W (h.below hb) (by omega) (by omega) (by omega)).mono fun _ _ ⟨e, q⟩ => ⟨e, q.symm⟩)⟩
  obtain ⟨x4, hx4, ⟨r4, s4⟩, F4⟩ : ∃ x : Int, x = num L (i + 4) (n + 1) ∧ (0 ≤ x ∧ x < (n + 1)) ∧ Hid (∀ W, Below w.heap.size w W → Calls Tryd.prog 33 #[.slice a L.length cap, .int .i64 (i + 4), .int .i64 (n + 1)] W fun e w' => e = .returned (.int .i64 x) ∧ w' = W) := ⟨_, rfl, num_range _ _ _ (by omega), Lib.hid (fun W hb => (from_any a cap L _ _ W (h.below hb) (by omega) (by omega) (by omega)).mono fun _ _ ⟨e, q⟩ => ⟨e, q.symm⟩)⟩
  obtain ⟨x5, hx5, ⟨r5, s5⟩, F5⟩ : ∃ x : Int, x = num L (i + 5) n ∧ (0 ≤ x ∧ x < n) ∧ Hid (∀ W, Below w.heap.size w W → Calls Tryd.prog 33 #[.slice a L.length cap, .int .i64 (i + 5), .int .i64 n] W fun e w' => e = .returned (.int .i64 x) ∧ w' = W) := ⟨_, rfl, num_range _ _ _ (by omega), Lib.hid (fun W hb => (from_any a cap L _ _ W (h.below hb) (by omega) (by omega) (by omega)).mono fun _ _ ⟨e, q⟩ => ⟨e, q.symm⟩)⟩
  obtain ⟨x6, hx6, ⟨r6, s6⟩, F6⟩ : ∃ x : Int, x = num L (i + 6) 10 ∧ (0 ≤ x ∧ x < 10) ∧ Hid (∀ W, Below w.heap.size w W → Calls Tryd.prog 33 #[.slice a L.length cap, .int .i64 (i + 6), .int .i64 10] W fun e w' => e = .returned (.int .i64 x) ∧ w' = W) := ⟨_, rfl, num_range _ _ _ (by omega), Lib.hid (fun W hb => (from_any a cap L _ _ W (h.below hb) (by omega) (by omega) (by omega)).mono fun _ _ ⟨e, q⟩ => ⟨e, q.symm⟩)⟩
  obtain ⟨x7, hx7, ⟨r7, s7⟩, F7⟩ : ∃ x : Int, x = num L (i + 7) 256 ∧ (0 ≤ x ∧ x < 256) ∧ Hid (∀ W, Below w.heap.size w W → Calls Tryd.prog 33 #[.slice a L.length cap, .int .i64 (i + 7), .int .i64 256] W fun e w' => e = .returned (.int .i64 x) ∧ w' = W) := ⟨_, rfl, num_range _ _ _ (by omega), Lib.hid (fun W hb => (from_any a cap L _ _ W (h.below hb) (by omega) (by omega) (by omega)).mono fun _ _ ⟨e, q⟩ => ⟨e, q.symm⟩)⟩
  obtain ⟨x8, hx8, ⟨r8, s8⟩, F8⟩ : ∃ x : Int, x = num L (i + 8) 4 ∧ (0 ≤ x ∧ x < 4) ∧ Hid (∀ W, Below w.heap.size w W → Calls Tryd.prog 33 #[.slice a L.length cap, .int .i64 (i + 8), .int .i64 4] W fun e w' => e = .returned (.int .i64 x) ∧ w' = W) := ⟨_, rfl, num_range _ _ _ (by omega), Lib.hid (fun W hb => (from_any a cap L _ _ W (h.below hb) (by omega) (by omega) (by omega)).mono fun _ _ ⟨e, q⟩ => ⟨e, q.symm⟩)⟩
  obtain ⟨x9, hx9, ⟨r9, s9⟩, F9⟩ : ∃ x : Int, x = num L (i + 9) 6 ∧ (0 ≤ x ∧ x < 6) ∧ Hid (∀ W, Below w.heap.size w W → Calls Tryd.prog 33 #[.slice a L.length cap, .int .i64 (i + 9), .int .i64 6] W fun e w' => e = .returned (.int .i64 x) ∧ w' = W) := ⟨_, rfl, num_range _ _ _ (by omega), Lib.hid (fun W hb => (from_any a cap L _ _ W (h.below hb) (by omega) (by omega) (by omega)).mono fun _ _ ⟨e, q⟩ => ⟨e, q.symm⟩)⟩
  obtain ⟨xa, hxa, ⟨ra, sa⟩, Fa⟩ : ∃ x : Int, x = num L (i + 10) 6 ∧ (0 ≤ x ∧ x < 6) ∧ Hid (∀ W, Below w.heap.size w W → Calls Tryd.prog 33 #[.slice a L.length cap, .int .i64 (i + 10), .int .i64 6] W fun e w' => e = .returned (.int .i64 x) ∧ w' = W) := ⟨_, rfl, num_range _ _ _ (by omega), Lib.hid (fun W hb => (from_any a cap L _ _ W (h.below hb) (by omega) (by omega) (by omega)).mono fun _ _ ⟨e, q⟩ => ⟨e, q.symm⟩)⟩
  obtain ⟨xb, hxb, ⟨rb, sb⟩, Fb⟩ : ∃ x : Int, x = num L (i + 11) 15 ∧ (0 ≤ x ∧ x < 15) ∧ Hid (∀ W, Below w.heap.size w W → Calls Tryd.prog 33 #[.slice a L.length cap, .int .i64 (i + 11), .int .i64 15] W fun e w' => e = .returned (.int .i64 x) ∧ w' = W) := ⟨_, rfl, num_range _ _ _ (by omega), Lib.hid (fun W hb => (from_any a cap L _ _ W (h.below hb) (by omega) (by omega) (by omega)).mono fun _ _ ⟨e, q⟩ => ⟨e, q.symm⟩)⟩
  obtain ⟨xc, hxc, ⟨rc, sc⟩, Fc⟩ : ∃ x : Int, x = num L (i + 12) 3 ∧ (0 ≤ x ∧ x < 3) ∧ Hid (∀ W, Below w.heap.size w W → Calls Tryd.prog 33 #[.slice a L.length cap, .int .i64 (i + 12), .int .i64 3] W fun e w' => e = .returned (.int .i64 x) ∧ w' = W) := ⟨_, rfl, num_range _ _ _ (by omega), Lib.hid (fun W hb => (from_any a cap L _ _ W (h.below hb) (by omega) (by omega) (by omega)).mono fun _ _ ⟨e, q⟩ => ⟨e, q.symm⟩)⟩
  obtain ⟨xd, hxd, ⟨rd, sd⟩, Fd⟩ : ∃ x : Int, x = num L (i + 13) 30 ∧ (0 ≤ x ∧ x < 30) ∧ Hid (∀ W, Below w.heap.size w W → Calls Tryd.prog 33 #[.slice a L.length cap, .int .i64 (i + 13), .int .i64 30] W fun e w' => e = .returned (.int .i64 x) ∧ w' = W) := ⟨_, rfl, num_range _ _ _ (by omega), Lib.hid (fun W hb => (from_any a cap L _ _ W (h.below hb) (by omega) (by omega) (by omega)).mono fun _ _ ⟨e, q⟩ => ⟨e, q.symm⟩)⟩
  obtain ⟨xg, hxg, ⟨rg, sg⟩, Fg⟩ : ∃ x : Int, x = num L (i + 14) 3 ∧ (0 ≤ x ∧ x < 3) ∧ Hid (∀ W, Below w.heap.size w W → Calls Tryd.prog 33 #[.slice a L.length cap, .int .i64 (i + 14), .int .i64 3] W fun e w' => e = .returned (.int .i64 x) ∧ w' = W) := ⟨_, rfl, num_range _ _ _ (by omega), Lib.hid (fun W hb => (from_any a cap L _ _ W (h.below hb) (by omega) (by omega) (by omega)).mono fun _ _ ⟨e, q⟩ => ⟨e, q.symm⟩)⟩
  have hsz := (cells_ok ht).size
  have IA : Hid ((Tryd.prog.info? 31).map (·.size) = some (T.cells hd).length) := Lib.hid (by rw [List.size_toArray] at hsz; rw [hsz]; exact infoT)
  have WC : Hid (∀ (p q : Int) W, Below w.heap.size w W → Calls Tryd.prog 47 #[.agg (T.cells hd).toArray, .int .i64 p, .int .i64 q] W fun e w' => e = .returned (.int .i64 (withS T p q)) ∧ Below W.heap.size W w') := Lib.hid (fun p q W hb => with_any T hd p q W (ht.below hb) sm)
  generalize T.cells hd = c at *
  clear ht sm h
  obtain ⟨bv, hbv, EB⟩ : ∃ v : Int, v = barsV x7 (withS T x0 x1) n ∧ Hid (bits .andNot .i64 (bits .and .i64 x7 (IntKind.i64.wrap (IntKind.i64.wrap (2 ^ min (IntKind.u64.wrap n).toNat 64) - 1))) (withS T x0 x1) = v) := ⟨_, rfl, Lib.hid rfl⟩
  obtain ⟨vg, hvg, ⟨rv, sv⟩, EG⟩ : ∃ v : Int, v = limTab xg ∧ (0 ≤ v ∧ v ≤ 10000) ∧ Hid (∀ w, Sem.run Tryd.prog (Instr.index 95 (.agg #[I 10000, I 400, I 20]) (.int .i64 xg)) w = .ok (.int .i64 v) w) := ⟨_, rfl, lim_range xg, Lib.hid (fun w => lim_at xg rg sg w)⟩
  have RES : Hid (genRl T L i n = ⟨bv, if x4 < n then withS T x4 x5 else 0, withS T x0 x1, withS T x2 x3, x8, 1 + x9, xa, if x4 < n then 1 + x6 else 0, 1 + xb, if xc = 1 then 1 + xb + xd else 0, x8 + 1 + vg⟩) := Lib.hid (by subst hbv hvg hx0 hx1 hx2 hx3 hx4 hx5 hx6 hx7 hx8 hx9 hxa hxb hxc hxd hxg; rfl)
  generalize genRl T L i n = R at RES ⊢
  clear hbv hvg
  clear hx0 hx1 hx2 hx3 hx4 hx5 hx6 hx7 hx8 hx9 hxa hxb hxc hxd hxg
  have hz := (zero_of_info infoRz).1
  have hb := ((Below.refl w.heap.size w).alloc (Nat.le_refl _) (.cells c.toArray 31)).alloc (by simp) (.cells #[I 0, I 0, I 0, I 0, I 0, I 0, I 0, I 0, I 0, I 0, I 0] 78)
  have g0 := heap_alloc2_old w (.cells c.toArray 31) (.cells #[I 0, I 0, I 0, I 0, I 0, I 0, I 0, I 0, I 0, I 0, I 0] 78)
  have g4 := heap_alloc2_new w (.cells c.toArray 31) (.cells #[I 0, I 0, I 0, I 0, I 0, I 0, I 0, I 0, I 0, I 0, I 0] 78)
  have hs : ((w.alloc (.cells c.toArray 31)).alloc (.cells #[I 0, I 0, I 0, I 0, I 0, I 0, I 0, I 0, I 0, I 0, I 0] 78)).heap.size = w.heap.size + 2 := by simp
  have HB := Lib.hid hb
  have G0 := Lib.hid g0
  have G4 := Lib.hid g4
  have HS := Lib.hid hs
  clear hb g0 g4 hs
  go_enter Tryd.func35, Tryd.ntmps35
  go_upto_region 1 with fail
  generalize (World.alloc (World.alloc w _) _) = u at HB G0 G4 HS ⊢
  clear hsz hz
  have LT : Hid (∀ w', Below u.heap.size u w' → Lies w' ⟨w.heap.size, 0, none⟩ c) := Lib.hid (fun w' hb => by
    have := (Row.lies_of_block G0.out)
    exact Lies.below this hb)
  refine rail1_rg (fun c a a' w e h => by cases a; cases a'; cases e; exact h) T c a cap L i n x0 x1 x2 x3 w u h0 h1 IA HB HS LT F0 F1 F2 F3 WC _ _ _ _ _ _ _ _ _ _ _ _ _ _ _ _ _ _ _ _ _ _ _ _ _ _ _ _ _ _ _ _ _ _ _ _ _ _ _ _ _ _ _ _ _ _ _ _ _ _ _ _ _ _ _ _ _ _ _ _ _ _ _ _ _ _ _ _ _ _ _ _ _ _ _ _ _ _ _ _ _ _ _ _ _ _ _ _ _ _ _ _ _ _ _ _ _ _ _ _ _ _ _ _ _ _ _ _ _ _ _ _ _ _ _ (Lib.hid ?_)
  intro x_11 x_12 x_13 x_14 x_15 x_16 x_17 x_18 x_19 x_20 x_21 x_22 x_23 x_24 x_25 x_26 x_27 x_28 x_29 x_30 x_31 x_32 x_33 x_34 b5 wx b5lt g5 hbx
  have hb := HB.out.trans (hbx.mono HB.out.size)
  have gG0 := (hbx.block _ (by have := HS.out; omega)).trans G0.out
  have gG4 := (hbx.block _ (by have := HS.out; omega)).trans G4.out
  clear HB G0 G4 HS LT hbx
  generalize wx = u0 at gG0 gG4 g5 hb ⊢
  have G0 := Lib.hid gG0
  have G4 := Lib.hid gG4
  have G5 := Lib.hid g5
  have HB := Lib.hid hb
  clear gG0 gG4 g5 hb
  go_wp2_with fail
  refine (F4.out _ HB.out).mono ?_
  rintro e w' ⟨rfl, hq⟩
  subst w'
  by_cases h4 : x4 < n
  · have H4 := Lib.hid h4
    go_upto_region 4 with fail
    clear h4
    have LT : Hid (∀ w', Below b5 u0 w' → Lies w' ⟨w.heap.size, 0, none⟩ c) := Lib.hid (fun w' hb => by
      have g := (hb.block w.heap.size (by omega)).trans G0.out
      have := Row.lies_of_block g
      simpa using this)
    have e5 : IntKind.i64.wrap (i + 5) = i + 5 := by rw [IntKind.wrap_i64]; omega
    refine wp_region_held (S := fun w' => Below b5 u0 w') (by kernel_rfl) ?_
    have hS : Below b5 u0 { u0 with drawn := u0.drawn + 1 } := (Below.refl _ _).drew
    have G5v : Hid (({ u0 with drawn := u0.drawn + 1 } : World).heap[b5]? = some (.cells #[I 0, I 0, I (withS T x0 x1), I (withS T x2 x3), I 0, I 0, I 0, I 0, I 0, I 0, I 0] 78 (0, 0))) := Lib.hid G5.out
    generalize ({ u0 with drawn := u0.drawn + 1 } : World) = v at hS G5v ⊢
    refine Held.take_load (i := 0) (some 44) rfl 31 _ ⟨w.heap.size, 0, none⟩ c _ rfl rfl (by kernel_rfl) (by kernel_rfl) (by kernel_rfl) (fun _ _ _ h => h) (by rfl) hS rfl (LT.out) Tryd.underlying31 rfl IA.out ?_
    (try dsimp only [Act.put]); (try simp only [List.setIfInBounds_toArray, List.set_cons_zero, List.set_cons_succ])
    refine Held.take (i := 1) (some 45) rfl (v := ?_) rfl (by kernel_rfl) (by kernel_rfl) (by kernel_rfl) (fun _ _ _ h => h) (Or.inl ⟨by rfl, ?_⟩) hS ?_
    rotate_left
    · intro w' hw'
      go_simp
      try with_reducible rfl
    (try dsimp only [Act.put]); (try simp only [List.setIfInBounds_toArray, List.set_cons_zero, List.set_cons_succ])
    refine Held.take (i := 2) (some 46) rfl (v := ?_) rfl (by kernel_rfl) (by kernel_rfl) (by kernel_rfl) (fun _ _ _ h => h) (Or.inl ⟨by rfl, ?_⟩) hS ?_
    rotate_left
    · intro w' hw'
      go_simp
      try with_reducible rfl
    (try dsimp only [Act.put]); (try simp only [List.setIfInBounds_toArray, List.set_cons_zero, List.set_cons_succ])
    refine Held.take (i := 3) (some 47) rfl (v := ?_) rfl (by kernel_rfl) (by kernel_rfl) (by kernel_rfl) (fun _ _ _ h => h) (Or.inl ⟨by rfl, ?_⟩) hS ?_
    rotate_left
    · intro w' hw'
      go_simp
      try with_reducible rfl
    (try dsimp only [Act.put]); (try simp only [List.setIfInBounds_toArray, List.set_cons_zero, List.set_cons_succ])
    refine Held.take (i := 4) (some 48) rfl (v := ?_) rfl (by kernel_rfl) (by kernel_rfl) (by kernel_rfl) (fun _ _ _ h => h) (Or.inl ⟨by rfl, ?_⟩) hS ?_
    rotate_left
    · intro w' hw'
      go_simp
      try with_reducible rfl
    (try dsimp only [Act.put]); (try simp only [List.setIfInBounds_toArray, List.set_cons_zero, List.set_cons_succ])
    refine Held.take (i := 5) (some 49) rfl (v := ?_) rfl (by kernel_rfl) (by kernel_rfl) (by kernel_rfl) (fun _ _ _ h => h) (Or.inl ⟨by rfl, ?_⟩) hS ?_
    rotate_left
    · intro w' hw'
      go_simp
      try with_reducible rfl
    (try dsimp only [Act.put]); (try simp only [List.setIfInBounds_toArray, List.set_cons_zero, List.set_cons_succ])
    refine wpAnyH_ready (rs := [6]) (by kernel_rfl) (by simp) (AllReadyH.cons rfl (fun K hK => ?_) AllReadyH.nil)
    go_simp
    refine (F5.out _ (HB.out.trans (hS.mono (by omega)))).mono ?_
    rintro e w' ⟨rfl, hq⟩
    subst w'
    go_simp
    refine hK.out _ _ hS (fun hS => ?_)
    clear hK K
    refine wpAnyH_ready (rs := [7]) (by kernel_rfl) (by simp) (AllReadyH.cons rfl (fun K hK => ?_) AllReadyH.nil)
    go_simp
    refine (WC.out x4 x5 _ (HB.out.trans (hS.mono (by omega)))).mono ?_
    rintro e v ⟨rfl, hb⟩
    go_simp
    have hlt := (Array.getElem?_eq_some_iff.1 G5v.out).1
    have G5w := Lib.hid ((hb.block _ hlt).trans G5v.out)
    refine hK.out _ _ (hS.trans (hb.mono (by omega))) (fun hS => ?_)
    clear hK K hb hlt G5v
    refine Held.take (i := 8) (some 52) rfl (v := ?_) rfl (by kernel_rfl) (by kernel_rfl) (by kernel_rfl) (fun _ _ _ h => h) (Or.inl ⟨by rfl, ?_⟩) hS ?_
    rotate_left
    · intro w' hw'
      go_simp
      try with_reducible rfl
    (try dsimp only [Act.put]); (try simp only [List.setIfInBounds_toArray, List.set_cons_zero, List.set_cons_succ])
    have c1 : v.cell? ⟨b5, 1, none⟩ = some (I 0) := by rw [cell_of_row _ _ _ _ _ _ G5w.out]; rfl
    have f1 : v.frozen? ⟨b5, 1, none⟩ = false := frozen_of_row _ _ _ _ _ G5w.out
    refine wpAnyH_ready (rs := [9]) (by kernel_rfl) (by simp) (AllReadyH.cons rfl (fun K hK => ?_) AllReadyH.nil)
    go_simp
    have hS2 := Owned.below_write hS (Nat.le_refl b5) (i := 1) (.int .i64 (withS T x4 x5))
    have g5 := heap_setCell_same v b5 1 _ _ (.int .i64 (withS T x4 x5)) G5w.out
    simp only [List.setIfInBounds_toArray, List.set_cons_succ, List.set_cons_zero] at g5
    clear c1 f1 G5w hS
    generalize World.setCell v ⟨b5, 1, none⟩ _ = v at hS2 g5 ⊢
    refine hK.out _ _ hS2 (fun hS => ?_)
    clear hK K
    refine wpAnyH_done (by kernel_rfl) ?_ _
    have hb := HB.out.trans (hS2.mono (by omega))
    have gG0 := (hS2.block w.heap.size (by omega)).trans G0.out
    have gG4 := (hS2.block (w.heap.size + 1) (by omega)).trans G4.out
    clear HB G0 G4 G5 hS hS2 LT e5
    generalize v = u1 at gG0 gG4 g5 hb ⊢
    have G0 := Lib.hid gG0
    have G4 := Lib.hid gG4
    have G5 := Lib.hid g5
    have HB := Lib.hid hb
    clear gG0 gG4 g5 hb
    go_upto_region 5 with fail
    have c7 : u1.cell? ⟨b5, 7, none⟩ = some (I 0) := by rw [cell_of_row _ _ _ _ _ _ G5.out]; rfl
    have f7 : u1.frozen? ⟨b5, 7, none⟩ = false := frozen_of_row _ _ _ _ _ G5.out
    go_wp2_with fail
    refine (F6.out _ HB.out).mono ?_
    rintro e w' ⟨rfl, hq⟩
    subst w'
    go_upto_region 6 with fail
    have g5 := heap_setCell_same u1 b5 7 _ _ (I (1 + x6)) G5.out
    simp only [List.setIfInBounds_toArray, List.set_cons_succ, List.set_cons_zero] at g5
    have gG0 := (Below.heap_setCell u1 ⟨b5, 7, none⟩ (I (1 + x6)) w.heap.size (by simp; omega)).trans G0.out
    have gG4 := (Below.heap_setCell u1 ⟨b5, 7, none⟩ (I (1 + x6)) (w.heap.size + 1) (by simp; omega)).trans G4.out
    have hb := Owned.below_write HB.out (g := b5) (i := 7) (by omega) (I (1 + x6))
    clear c7 f7 G0 G4 G5 HB
    generalize World.setCell u1 ⟨b5, 7, none⟩ (I (1 + x6)) = u2 at gG0 gG4 g5 hb ⊢
    have G0 := Lib.hid gG0
    have G4 := Lib.hid gG4
    have G5 := Lib.hid g5
    have HB := Lib.hid hb
    clear gG0 gG4 g5 hb
    have e0 : IntKind.i64.wrap (i + 7) = i + 7 := by rw [IntKind.wrap_i64]; omega
    have eb := EB.out
    have gG0 : u2.drew.heap[w.heap.size]? = some (.cells c.toArray 31 (0, 0)) := G0.out
    have gG4 : u2.drew.heap[(w.heap.size + 1)]? = some (.cells #[I 0, I 0, I 0, I 0, I 0, I 0, I 0, I 0, I 0, I 0, I 0] 78 (0, 0)) := G4.out
    have g5 : u2.drew.heap[b5]? = some (.cells #[I 0, I (withS T x4 x5), I (withS T x0 x1), I (withS T x2 x3), I 0, I 0, I 0, I (1 + x6), I 0, I 0, I 0] 78 (0, 0)) := G5.out
    have hb : Below w.heap.size w u2.drew := HB.out.drew
    clear G0 G4 G5 HB
    refine QB.region_tail 13 (by kernel_rfl) (by kernel_rfl) ?_
    generalize World.drew u2 = u3 at gG0 gG4 g5 hb ⊢
    have G0 := Lib.hid gG0
    have G4 := Lib.hid gG4
    have G5 := Lib.hid g5
    have HB := Lib.hid hb
    clear gG0 gG4 g5 hb
    have c0 : u3.cell? ⟨b5, 0, none⟩ = some (I 0) := by rw [cell_of_row _ _ _ _ _ _ G5.out]; rfl
    have c2 : u3.cell? ⟨b5, 2, none⟩ = some (I (withS T x0 x1)) := by rw [cell_of_row _ _ _ _ _ _ G5.out]; rfl
    have f0 : u3.frozen? ⟨b5, 0, none⟩ = false := frozen_of_row _ _ _ _ _ G5.out
    simp only [List.take_succ_cons, List.take_zero, List.drop_succ_cons, List.drop_zero]
    repeat still_step
    still_call (F7.out _ HB.out)
    repeat still_step
    refine wpStill_nil ?_
    go_upto_region 7 with fail
    clear e0 eb
    have g5 := heap_setCell_same u3 b5 0 _ _ (I bv) G5.out
    simp only [List.setIfInBounds_toArray, List.set_cons_succ, List.set_cons_zero] at g5
    have gG0 := (Below.heap_setCell u3 ⟨b5, 0, none⟩ (I bv) w.heap.size (by simp; omega)).trans G0.out
    have gG4 := (Below.heap_setCell u3 ⟨b5, 0, none⟩ (I bv) (w.heap.size + 1) (by simp; omega)).trans G4.out
    have hb := Owned.below_write HB.out (g := b5) (i := 0) (by omega) (I bv)
    clear c0 c2 f0 G0 G4 G5 HB
    generalize World.setCell u3 ⟨b5, 0, none⟩ (I bv) = u4 at gG0 gG4 g5 hb ⊢
    have G0 := Lib.hid gG0
    have G4 := Lib.hid gG4
    have G5 := Lib.hid g5
    have HB := Lib.hid hb
    clear gG0 gG4 g5 hb
    have c4 : u4.cell? ⟨b5, 4, none⟩ = some (I 0) := by rw [cell_of_row _ _ _ _ _ _ G5.out]; rfl
    have f4 : u4.frozen? ⟨b5, 4, none⟩ = false := frozen_of_row _ _ _ _ _ G5.out
    go_wp2_with fail
    refine (F8.out _ HB.out).mono ?_
    rintro e w' ⟨rfl, hq⟩
    subst w'
    go_upto_region 8 with fail
    have g5 := heap_setCell_same u4 b5 4 _ _ (I x8) G5.out
    simp only [List.setIfInBounds_toArray, List.set_cons_succ, List.set_cons_zero] at g5
    have gG0 := (Below.heap_setCell u4 ⟨b5, 4, none⟩ (I x8) w.heap.size (by simp; omega)).trans G0.out
    have gG4 := (Below.heap_setCell u4 ⟨b5, 4, none⟩ (I x8) (w.heap.size + 1) (by simp; omega)).trans G4.out
    have hb := Owned.below_write HB.out (g := b5) (i := 4) (by omega) (I x8)
    clear c4 f4 G0 G4 G5 HB
    generalize World.setCell u4 ⟨b5, 4, none⟩ (I x8) = u5 at gG0 gG4 g5 hb ⊢
    have G0 := Lib.hid gG0
    have G4 := Lib.hid gG4
    have G5 := Lib.hid g5
    have HB := Lib.hid hb
    clear gG0 gG4 g5 hb
    have c5 : u5.cell? ⟨b5, 5, none⟩ = some (I 0) := by rw [cell_of_row _ _ _ _ _ _ G5.out]; rfl
    have f5 : u5.frozen? ⟨b5, 5, none⟩ = false := frozen_of_row _ _ _ _ _ G5.out
    go_wp2_with fail
    refine (F9.out _ HB.out).mono ?_
    rintro e w' ⟨rfl, hq⟩
    subst w'
    go_upto_region 9 with fail
    have g5 := heap_setCell_same u5 b5 5 _ _ (I (1 + x9)) G5.out
    simp only [List.setIfInBounds_toArray, List.set_cons_succ, List.set_cons_zero] at g5
    have gG0 := (Below.heap_setCell u5 ⟨b5, 5, none⟩ (I (1 + x9)) w.heap.size (by simp; omega)).trans G0.out
    have gG4 := (Below.heap_setCell u5 ⟨b5, 5, none⟩ (I (1 + x9)) (w.heap.size + 1) (by simp; omega)).trans G4.out
    have hb := Owned.below_write HB.out (g := b5) (i := 5) (by omega) (I (1 + x9))
    clear c5 f5 G0 G4 G5 HB
    generalize World.setCell u5 ⟨b5, 5, none⟩ (I (1 + x9)) = u6 at gG0 gG4 g5 hb ⊢
    have G0 := Lib.hid gG0
    have G4 := Lib.hid gG4
    have G5 := Lib.hid g5
    have HB := Lib.hid hb
    clear gG0 gG4 g5 hb
    have c6 : u6.cell? ⟨b5, 6, none⟩ = some (I 0) := by rw [cell_of_row _ _ _ _ _ _ G5.out]; rfl
    have f6 : u6.frozen? ⟨b5, 6, none⟩ = false := frozen_of_row _ _ _ _ _ G5.out
    go_wp2_with fail
    refine (Fa.out _ HB.out).mono ?_
    rintro e w' ⟨rfl, hq⟩
    subst w'
    go_upto_region 10 with fail
    have g5 := heap_setCell_same u6 b5 6 _ _ (I xa) G5.out
    simp only [List.setIfInBounds_toArray, List.set_cons_succ, List.set_cons_zero] at g5
    have gG0 := (Below.heap_setCell u6 ⟨b5, 6, none⟩ (I xa) w.heap.size (by simp; omega)).trans G0.out
    have gG4 := (Below.heap_setCell u6 ⟨b5, 6, none⟩ (I xa) (w.heap.size + 1) (by simp; omega)).trans G4.out
    have hb := Owned.below_write HB.out (g := b5) (i := 6) (by omega) (I xa)
    clear c6 f6 G0 G4 G5 HB
    generalize World.setCell u6 ⟨b5, 6, none⟩ (I xa) = u7 at gG0 gG4 g5 hb ⊢
    have G0 := Lib.hid gG0
    have G4 := Lib.hid gG4
    have G5 := Lib.hid g5
    have HB := Lib.hid hb
    clear gG0 gG4 g5 hb
    have c8 : u7.cell? ⟨b5, 8, none⟩ = some (I 0) := by rw [cell_of_row _ _ _ _ _ _ G5.out]; rfl
    have f8 : u7.frozen? ⟨b5, 8, none⟩ = false := frozen_of_row _ _ _ _ _ G5.out
    go_wp2_with fail
    refine (Fb.out _ HB.out).mono ?_
    rintro e w' ⟨rfl, hq⟩
    subst w'
    go_upto_region 11 with fail
    have g5 := heap_setCell_same u7 b5 8 _ _ (I (1 + xb)) G5.out
    simp only [List.setIfInBounds_toArray, List.set_cons_succ, List.set_cons_zero] at g5
    have gG0 := (Below.heap_setCell u7 ⟨b5, 8, none⟩ (I (1 + xb)) w.heap.size (by simp; omega)).trans G0.out
    have gG4 := (Below.heap_setCell u7 ⟨b5, 8, none⟩ (I (1 + xb)) (w.heap.size + 1) (by simp; omega)).trans G4.out
    have hb := Owned.below_write HB.out (g := b5) (i := 8) (by omega) (I (1 + xb))
    clear c8 f8 G0 G4 G5 HB
    generalize World.setCell u7 ⟨b5, 8, none⟩ (I (1 + xb)) = u8 at gG0 gG4 g5 hb ⊢
    have G0 := Lib.hid gG0
    have G4 := Lib.hid gG4
    have G5 := Lib.hid g5
    have HB := Lib.hid hb
    clear gG0 gG4 g5 hb
    go_wp2_with fail
    refine (Fc.out _ HB.out).mono ?_
    rintro e w' ⟨rfl, hq⟩
    subst w'
    by_cases hc : xc = 1
    · have HC := Lib.hid hc
      have ec : (xc == 1) = true := by simpa using hc
      clear hc
      go_upto_region 12 with fail
      have e0 : IntKind.i64.wrap (i + 13) = i + 13 := by rw [IntKind.wrap_i64]; omega
      have e1 : IntKind.i64.wrap (1 + xb + xd) = 1 + xb + xd := by rw [IntKind.wrap_i64]; omega
      have gG0 : u8.drew.heap[w.heap.size]? = some (.cells c.toArray 31 (0, 0)) := G0.out
      have gG4 : u8.drew.heap[(w.heap.size + 1)]? = some (.cells #[I 0, I 0, I 0, I 0, I 0, I 0, I 0, I 0, I 0, I 0, I 0] 78 (0, 0)) := G4.out
      have g5 : u8.drew.heap[b5]? = some (.cells #[I bv, I (withS T x4 x5), I (withS T x0 x1), I (withS T x2 x3), I x8, I (1 + x9), I xa, I (1 + x6), I (1 + xb), I 0, I 0] 78 (0, 0)) := G5.out
      have hb : Below w.heap.size w u8.drew := HB.out.drew
      clear G0 G4 G5 HB
      refine QB.region_tail 8 (by kernel_rfl) (by kernel_rfl) ?_
      generalize World.drew u8 = u9 at gG0 gG4 g5 hb ⊢
      have G0 := Lib.hid gG0
      have G4 := Lib.hid gG4
      have G5 := Lib.hid g5
      have HB := Lib.hid hb
      clear gG0 gG4 g5 hb
      have c8 : u9.cell? ⟨b5, 8, none⟩ = some (I (1 + xb)) := by rw [cell_of_row _ _ _ _ _ _ G5.out]; rfl
      have c9 : u9.cell? ⟨b5, 9, none⟩ = some (I 0) := by rw [cell_of_row _ _ _ _ _ _ G5.out]; rfl
      have f9 : u9.frozen? ⟨b5, 9, none⟩ = false := frozen_of_row _ _ _ _ _ G5.out
      simp only [List.take_succ_cons, List.take_zero, List.drop_succ_cons, List.drop_zero]
      repeat still_step
      still_call (Fd.out _ HB.out)
      repeat still_step
      refine wpStill_nil ?_
      go_upto_region 13 with fail
      clear e0 e1
      have g5 := heap_setCell_same u9 b5 9 _ _ (I (1 + xb + xd)) G5.out
      simp only [List.setIfInBounds_toArray, List.set_cons_succ, List.set_cons_zero] at g5
      have gG0 := (Below.heap_setCell u9 ⟨b5, 9, none⟩ (I (1 + xb + xd)) w.heap.size (by simp; omega)).trans G0.out
      have gG4 := (Below.heap_setCell u9 ⟨b5, 9, none⟩ (I (1 + xb + xd)) (w.heap.size + 1) (by simp; omega)).trans G4.out
      have hb := Owned.below_write HB.out (g := b5) (i := 9) (by omega) (I (1 + xb + xd))
      clear c8 c9 f9 G0 G4 G5 HB
      generalize World.setCell u9 ⟨b5, 9, none⟩ (I (1 + xb + xd)) = u10 at gG0 gG4 g5 hb ⊢
      have G0 := Lib.hid gG0
      have G4 := Lib.hid gG4
      have G5 := Lib.hid g5
      have HB := Lib.hid hb
      clear gG0 gG4 g5 hb
      have e0 : IntKind.i64.wrap (x8 + 1) = x8 + 1 := by rw [IntKind.wrap_i64]; omega
      have e1 : IntKind.i64.wrap (i + 14) = i + 14 := by rw [IntKind.wrap_i64]; omega
      have e2 : IntKind.i64.wrap (x8 + 1 + vg) = x8 + 1 + vg := by rw [IntKind.wrap_i64]; omega
      have eg := EG.out
      have gG0 : u10.drew.heap[w.heap.size]? = some (.cells c.toArray 31 (0, 0)) := G0.out
      have gG4 : u10.drew.heap[(w.heap.size + 1)]? = some (.cells #[I 0, I 0, I 0, I 0, I 0, I 0, I 0, I 0, I 0, I 0, I 0] 78 (0, 0)) := G4.out
      have g5 : u10.drew.heap[b5]? = some (.cells #[I bv, I (withS T x4 x5), I (withS T x0 x1), I (withS T x2 x3), I x8, I (1 + x9), I xa, I (1 + x6), I (1 + xb), I (1 + xb + xd), I 0] 78 (0, 0)) := G5.out
      have hb : Below w.heap.size w u10.drew := HB.out.drew
      clear G0 G4 G5 HB
      refine QB.region_tail 11 (by kernel_rfl) (by kernel_rfl) ?_
      generalize World.drew u10 = u11 at gG0 gG4 g5 hb ⊢
      have G0 := Lib.hid gG0
      have G4 := Lib.hid gG4
      have G5 := Lib.hid g5
      have HB := Lib.hid hb
      clear gG0 gG4 g5 hb
      have c4 : u11.cell? ⟨b5, 4, none⟩ = some (I x8) := by rw [cell_of_row _ _ _ _ _ _ G5.out]; rfl
      have c10 : u11.cell? ⟨b5, 10, none⟩ = some (I 0) := by rw [cell_of_row _ _ _ _ _ _ G5.out]; rfl
      have f10 : u11.frozen? ⟨b5, 10, none⟩ = false := frozen_of_row _ _ _ _ _ G5.out
      simp only [List.take_succ_cons, List.take_zero, List.drop_succ_cons, List.drop_zero]
      repeat still_step
      still_call (Fg.out _ HB.out)
      repeat still_step
      refine wpStill_nil ?_
      go_upto_region 14 with fail
      clear e0 e1 e2 eg
      have g5 := heap_setCell_same u11 b5 10 _ _ (I (x8 + 1 + vg)) G5.out
      simp only [List.setIfInBounds_toArray, List.set_cons_succ, List.set_cons_zero] at g5
      have gG0 := (Below.heap_setCell u11 ⟨b5, 10, none⟩ (I (x8 + 1 + vg)) w.heap.size (by simp; omega)).trans G0.out
      have gG4 := (Below.heap_setCell u11 ⟨b5, 10, none⟩ (I (x8 + 1 + vg)) (w.heap.size + 1) (by simp; omega)).trans G4.out
      have hb := Owned.below_write HB.out (g := b5) (i := 10) (by omega) (I (x8 + 1 + vg))
      clear c4 c10 f10 G0 G4 G5 HB
      generalize World.setCell u11 ⟨b5, 10, none⟩ (I (x8 + 1 + vg)) = u12 at gG0 gG4 g5 hb ⊢
      have G0 := Lib.hid gG0
      have G4 := Lib.hid gG4
      have G5 := Lib.hid g5
      have HB := Lib.hid hb
      clear gG0 gG4 g5 hb
      have FIN : Hid (R.cells.toArray = #[I bv, I (withS T x4 x5), I (withS T x0 x1), I (withS T x2 x3), I x8, I (1 + x9), I xa, I (1 + x6), I (1 + xb), I (1 + xb + xd), I (x8 + 1 + vg)]) := Lib.hid (by rw [RES.out]; simp only [Rl.cells, if_pos H4.out, if_pos HC.out])
      have LV : Hid (Lies u12 ⟨b5, 0, none⟩ #[I bv, I (withS T x4 x5), I (withS T x0 x1), I (withS T x2 x3), I x8, I (1 + x9), I xa, I (1 + x6), I (1 + xb), I (1 + xb + xd), I (x8 + 1 + vg)].toList) := Lib.hid (Row.lies_of_block G5.out)
      have HG := Lib.hid (below_setRow HB.out (g := w.heap.size + 1) (by omega) #[I bv, I (withS T x4 x5), I (withS T x0 x1), I (withS T x2 x3), I x8, I (1 + x9), I xa, I (1 + x6), I (1 + xb), I (1 + xb + xd), I (x8 + 1 + vg)])
      have HK := Lib.hid (setRow_heap u12 (w.heap.size + 1) _ #[I bv, I (withS T x4 x5), I (withS T x0 x1), I (withS T x2 x3), I x8, I (1 + x9), I xa, I (1 + x6), I (1 + xb), I (1 + xb + xd), I (x8 + 1 + vg)] _ _ G4.out)
      go_wp2_with (first | (refine Row.wpList_load_g 78 _ rfl (by first | rfl | go_simp) ⟨b5, 0, none⟩ rfl #[I bv, I (withS T x4 x5), I (withS T x0 x1), I (withS T x2 x3), I x8, I (1 + x9), I xa, I (1 + x6), I (1 + xb), I (1 + xb + xd), I (x8 + 1 + vg)].toList _ LV.out Tryd.underlying78 rfl infoR ?_) | (refine wpList_store_row rfl 78 _ _ rfl (w.heap.size + 1) #[I bv, I (withS T x4 x5), I (withS T x0 x1), I (withS T x2 x3), I x8, I (1 + x9), I xa, I (1 + x6), I (1 + xb), I (1 + xb + xd), I (x8 + 1 + vg)] rfl rfl 78 _ G4.out infoR rfl (by simp [Value.oneCell']) ?_))
      generalize u12.setRow (w.heap.size + 1) #[I bv, I (withS T x4 x5), I (withS T x0 x1), I (withS T x2 x3), I x8, I (1 + x9), I xa, I (1 + x6), I (1 + xb), I (1 + xb + xd), I (x8 + 1 + vg)] = uz at HG HK ⊢
      go_wp2_with fail
      (try simp only [Exit.inBlock, Exit.then])
      refine bodyPost_ret (v := .agg #[I bv, I (withS T x4 x5), I (withS T x0 x1), I (withS T x2 x3), I x8, I (1 + x9), I xa, I (1 + x6), I (1 + xb), I (1 + xb + xd), I (x8 + 1 + vg)]) ?_ rfl ⟨by rw [FIN.out], HG.out⟩
      exact results_cell_row rfl _ _ (w.heap.size + 1) 78 _ (0, 0) _ rfl HK.out Tryd.underlying78 rfl infoR
    · have HC := Lib.hid hc
      have ec : (xc == 1) = false := by simpa using hc
      clear hc
      go_upto_region 13 with fail
      have e0 : IntKind.i64.wrap (x8 + 1) = x8 + 1 := by rw [IntKind.wrap_i64]; omega
      have e1 : IntKind.i64.wrap (i + 14) = i + 14 := by rw [IntKind.wrap_i64]; omega
      have e2 : IntKind.i64.wrap (x8 + 1 + vg) = x8 + 1 + vg := by rw [IntKind.wrap_i64]; omega
      have eg := EG.out
      have gG0 : u8.drew.heap[w.heap.size]? = some (.cells c.toArray 31 (0, 0)) := G0.out
      have gG4 : u8.drew.heap[(w.heap.size + 1)]? = some (.cells #[I 0, I 0, I 0, I 0, I 0, I 0, I 0, I 0, I 0, I 0, I 0] 78 (0, 0)) := G4.out
      have g5 : u8.drew.heap[b5]? = some (.cells #[I bv, I (withS T x4 x5), I (withS T x0 x1), I (withS T x2 x3), I x8, I (1 + x9), I xa, I (1 + x6), I (1 + xb), I 0, I 0] 78 (0, 0)) := G5.out
      have hb : Below w.heap.size w u8.drew := HB.out.drew
      clear G0 G4 G5 HB
      refine QB.region_tail 11 (by kernel_rfl) (by kernel_rfl) ?_
      generalize World.drew u8 = u9 at gG0 gG4 g5 hb ⊢
      have G0 := Lib.hid gG0
      have G4 := Lib.hid gG4
      have G5 := Lib.hid g5
      have HB := Lib.hid hb
      clear gG0 gG4 g5 hb
      have c4 : u9.cell? ⟨b5, 4, none⟩ = some (I x8) := by rw [cell_of_row _ _ _ _ _ _ G5.out]; rfl
      have c10 : u9.cell? ⟨b5, 10, none⟩ = some (I 0) := by rw [cell_of_row _ _ _ _ _ _ G5.out]; rfl
      have f10 : u9.frozen? ⟨b5, 10, none⟩ = false := frozen_of_row _ _ _ _ _ G5.out
      simp only [List.take_succ_cons, List.take_zero, List.drop_succ_cons, List.drop_zero]
      repeat still_step
      still_call (Fg.out _ HB.out)
      repeat still_step
      refine wpStill_nil ?_
      go_upto_region 14 with fail
      clear e0 e1 e2 eg
      have g5 := heap_setCell_same u9 b5 10 _ _ (I (x8 + 1 + vg)) G5.out
      simp only [List.setIfInBounds_toArray, List.set_cons_succ, List.set_cons_zero] at g5
      have gG0 := (Below.heap_setCell u9 ⟨b5, 10, none⟩ (I (x8 + 1 + vg)) w.heap.size (by simp; omega)).trans G0.out
      have gG4 := (Below.heap_setCell u9 ⟨b5, 10, none⟩ (I (x8 + 1 + vg)) (w.heap.size + 1) (by simp; omega)).trans G4.out
      have hb := Owned.below_write HB.out (g := b5) (i := 10) (by omega) (I (x8 + 1 + vg))
      clear c4 c10 f10 G0 G4 G5 HB
      generalize World.setCell u9 ⟨b5, 10, none⟩ (I (x8 + 1 + vg)) = u10 at gG0 gG4 g5 hb ⊢
      have G0 := Lib.hid gG0
      have G4 := Lib.hid gG4
      have G5 := Lib.hid g5
      have HB := Lib.hid hb
      clear gG0 gG4 g5 hb
      have FIN : Hid (R.cells.toArray = #[I bv, I (withS T x4 x5), I (withS T x0 x1), I (withS T x2 x3), I x8, I (1 + x9), I xa, I (1 + x6), I (1 + xb), I 0, I (x8 + 1 + vg)]) := Lib.hid (by rw [RES.out]; simp only [Rl.cells, if_pos H4.out, if_neg HC.out])
      have LV : Hid (Lies u10 ⟨b5, 0, none⟩ #[I bv, I (withS T x4 x5), I (withS T x0 x1), I (withS T x2 x3), I x8, I (1 + x9), I xa, I (1 + x6), I (1 + xb), I 0, I (x8 + 1 + vg)].toList) := Lib.hid (Row.lies_of_block G5.out)
      have HG := Lib.hid (below_setRow HB.out (g := w.heap.size + 1) (by omega) #[I bv, I (withS T x4 x5), I (withS T x0 x1), I (withS T x2 x3), I x8, I (1 + x9), I xa, I (1 + x6), I (1 + xb), I 0, I (x8 + 1 + vg)])
      have HK := Lib.hid (setRow_heap u10 (w.heap.size + 1) _ #[I bv, I (withS T x4 x5), I (withS T x0 x1), I (withS T x2 x3), I x8, I (1 + x9), I xa, I (1 + x6), I (1 + xb), I 0, I (x8 + 1 + vg)] _ _ G4.out)
      go_wp2_with (first | (refine Row.wpList_load_g 78 _ rfl (by first | rfl | go_simp) ⟨b5, 0, none⟩ rfl #[I bv, I (withS T x4 x5), I (withS T x0 x1), I (withS T x2 x3), I x8, I (1 + x9), I xa, I (1 + x6), I (1 + xb), I 0, I (x8 + 1 + vg)].toList _ LV.out Tryd.underlying78 rfl infoR ?_) | (refine wpList_store_row rfl 78 _ _ rfl (w.heap.size + 1) #[I bv, I (withS T x4 x5), I (withS T x0 x1), I (withS T x2 x3), I x8, I (1 + x9), I xa, I (1 + x6), I (1 + xb), I 0, I (x8 + 1 + vg)] rfl rfl 78 _ G4.out infoR rfl (by simp [Value.oneCell']) ?_))
      generalize u10.setRow (w.heap.size + 1) #[I bv, I (withS T x4 x5), I (withS T x0 x1), I (withS T x2 x3), I x8, I (1 + x9), I xa, I (1 + x6), I (1 + xb), I 0, I (x8 + 1 + vg)] = uz at HG HK ⊢
      go_wp2_with fail
      (try simp only [Exit.inBlock, Exit.then])
      refine bodyPost_ret (v := .agg #[I bv, I (withS T x4 x5), I (withS T x0 x1), I (withS T x2 x3), I x8, I (1 + x9), I xa, I (1 + x6), I (1 + xb), I 0, I (x8 + 1 + vg)]) ?_ rfl ⟨by rw [FIN.out], HG.out⟩
      exact results_cell_row rfl _ _ (w.heap.size + 1) 78 _ (0, 0) _ rfl HK.out Tryd.underlying78 rfl infoR
  · have H4 := Lib.hid h4
    go_upto_region 6 with fail
    clear h4
    have e0 : IntKind.i64.wrap (i + 7) = i + 7 := by rw [IntKind.wrap_i64]; omega
    have eb := EB.out
    have gG0 : u0.drew.heap[w.heap.size]? = some (.cells c.toArray 31 (0, 0)) := G0.out
    have gG4 : u0.drew.heap[(w.heap.size + 1)]? = some (.cells #[I 0, I 0, I 0, I 0, I 0, I 0, I 0, I 0, I 0, I 0, I 0] 78 (0, 0)) := G4.out
    have g5 : u0.drew.heap[b5]? = some (.cells #[I 0, I 0, I (withS T x0 x1), I (withS T x2 x3), I 0, I 0, I 0, I 0, I 0, I 0, I 0] 78 (0, 0)) := G5.out
    have hb : Below w.heap.size w u0.drew := HB.out.drew
    clear G0 G4 G5 HB
    refine QB.region_tail 13 (by kernel_rfl) (by kernel_rfl) ?_
    generalize World.drew u0 = u1 at gG0 gG4 g5 hb ⊢
    have G0 := Lib.hid gG0
    have G4 := Lib.hid gG4
    have G5 := Lib.hid g5
    have HB := Lib.hid hb
    clear gG0 gG4 g5 hb
    have c0 : u1.cell? ⟨b5, 0, none⟩ = some (I 0) := by rw [cell_of_row _ _ _ _ _ _ G5.out]; rfl
    have c2 : u1.cell? ⟨b5, 2, none⟩ = some (I (withS T x0 x1)) := by rw [cell_of_row _ _ _ _ _ _ G5.out]; rfl
    have f0 : u1.frozen? ⟨b5, 0, none⟩ = false := frozen_of_row _ _ _ _ _ G5.out
    simp only [List.take_succ_cons, List.take_zero, List.drop_succ_cons, List.drop_zero]
    repeat still_step
    still_call (F7.out _ HB.out)
    repeat still_step
    refine wpStill_nil ?_
    go_upto_region 7 with fail
    clear e0 eb
    have g5 := heap_setCell_same u1 b5 0 _ _ (I bv) G5.out
    simp only [List.setIfInBounds_toArray, List.set_cons_succ, List.set_cons_zero] at g5
    have gG0 := (Below.heap_setCell u1 ⟨b5, 0, none⟩ (I bv) w.heap.size (by simp; omega)).trans G0.out
    have gG4 := (Below.heap_setCell u1 ⟨b5, 0, none⟩ (I bv) (w.heap.size + 1) (by simp; omega)).trans G4.out
    have hb := Owned.below_write HB.out (g := b5) (i := 0) (by omega) (I bv)
    clear c0 c2 f0 G0 G4 G5 HB
    generalize World.setCell u1 ⟨b5, 0, none⟩ (I bv) = u2 at gG0 gG4 g5 hb ⊢
    have G0 := Lib.hid gG0
    have G4 := Lib.hid gG4
    have G5 := Lib.hid g5
    have HB := Lib.hid hb
    clear gG0 gG4 g5 hb
    have c4 : u2.cell? ⟨b5, 4, none⟩ = some (I 0) := by rw [cell_of_row _ _ _ _ _ _ G5.out]; rfl
    have f4 : u2.frozen? ⟨b5, 4, none⟩ = false := frozen_of_row _ _ _ _ _ G5.out
    go_wp2_with fail
    refine (F8.out _ HB.out).mono ?_
    rintro e w' ⟨rfl, hq⟩
    subst w'
    go_upto_region 8 with fail
    have g5 := heap_setCell_same u2 b5 4 _ _ (I x8) G5.out
    simp only [List.setIfInBounds_toArray, List.set_cons_succ, List.set_cons_zero] at g5
    have gG0 := (Below.heap_setCell u2 ⟨b5, 4, none⟩ (I x8) w.heap.size (by simp; omega)).trans G0.out
    have gG4 := (Below.heap_setCell u2 ⟨b5, 4, none⟩ (I x8) (w.heap.size + 1) (by simp; omega)).trans G4.out
    have hb := Owned.below_write HB.out (g := b5) (i := 4) (by omega) (I x8)
    clear c4 f4 G0 G4 G5 HB
    generalize World.setCell u2 ⟨b5, 4, none⟩ (I x8) = u3 at gG0 gG4 g5 hb ⊢
    have G0 := Lib.hid gG0
    have G4 := Lib.hid gG4
    have G5 := Lib.hid g5
    have HB := Lib.hid hb
    clear gG0 gG4 g5 hb
    have c5 : u3.cell? ⟨b5, 5, none⟩ = some (I 0) := by rw [cell_of_row _ _ _ _ _ _ G5.out]; rfl
    have f5 : u3.frozen? ⟨b5, 5, none⟩ = false := frozen_of_row _ _ _ _ _ G5.out
    go_wp2_with fail
    refine (F9.out _ HB.out).mono ?_
    rintro e w' ⟨rfl, hq⟩
    subst w'
    go_upto_region 9 with fail
    have g5 := heap_setCell_same u3 b5 5 _ _ (I (1 + x9)) G5.out
    simp only [List.setIfInBounds_toArray, List.set_cons_succ, List.set_cons_zero] at g5
    have gG0 := (Below.heap_setCell u3 ⟨b5, 5, none⟩ (I (1 + x9)) w.heap.size (by simp; omega)).trans G0.out
    have gG4 := (Below.heap_setCell u3 ⟨b5, 5, none⟩ (I (1 + x9)) (w.heap.size + 1) (by simp; omega)).trans G4.out
    have hb := Owned.below_write HB.out (g := b5) (i := 5) (by omega) (I (1 + x9))
    clear c5 f5 G0 G4 G5 HB
    generalize World.setCell u3 ⟨b5, 5, none⟩ (I (1 + x9)) = u4 at gG0 gG4 g5 hb ⊢
    have G0 := Lib.hid gG0
    have G4 := Lib.hid gG4
    have G5 := Lib.hid g5
    have HB := Lib.hid hb
    clear gG0 gG4 g5 hb
    have c6 : u4.cell? ⟨b5, 6, none⟩ = some (I 0) := by rw [cell_of_row _ _ _ _ _ _ G5.out]; rfl
    have f6 : u4.frozen? ⟨b5, 6, none⟩ = false := frozen_of_row _ _ _ _ _ G5.out
    go_wp2_with fail
    refine (Fa.out _ HB.out).mono ?_
    rintro e w' ⟨rfl, hq⟩
    subst w'
    go_upto_region 10 with fail
    have g5 := heap_setCell_same u4 b5 6 _ _ (I xa) G5.out
    simp only [List.setIfInBounds_toArray, List.set_cons_succ, List.set_cons_zero] at g5
    have gG0 := (Below.heap_setCell u4 ⟨b5, 6, none⟩ (I xa) w.heap.size (by simp; omega)).trans G0.out
    have gG4 := (Below.heap_setCell u4 ⟨b5, 6, none⟩ (I xa) (w.heap.size + 1) (by simp; omega)).trans G4.out
    have hb := Owned.below_write HB.out (g := b5) (i := 6) (by omega) (I xa)
    clear c6 f6 G0 G4 G5 HB
    generalize World.setCell u4 ⟨b5, 6, none⟩ (I xa) = u5 at gG0 gG4 g5 hb ⊢
    have G0 := Lib.hid gG0
    have G4 := Lib.hid gG4
    have G5 := Lib.hid g5
    have HB := Lib.hid hb
    clear gG0 gG4 g5 hb
    have c8 : u5.cell? ⟨b5, 8, none⟩ = some (I 0) := by rw [cell_of_row _ _ _ _ _ _ G5.out]; rfl
    have f8 : u5.frozen? ⟨b5, 8, none⟩ = false := frozen_of_row _ _ _ _ _ G5.out
    go_wp2_with fail
    refine (Fb.out _ HB.out).mono ?_
    rintro e w' ⟨rfl, hq⟩
    subst w'
    go_upto_region 11 with fail
    have g5 := heap_setCell_same u5 b5 8 _ _ (I (1 + xb)) G5.out
    simp only [List.setIfInBounds_toArray, List.set_cons_succ, List.set_cons_zero] at g5
    have gG0 := (Below.heap_setCell u5 ⟨b5, 8, none⟩ (I (1 + xb)) w.heap.size (by simp; omega)).trans G0.out
    have gG4 := (Below.heap_setCell u5 ⟨b5, 8, none⟩ (I (1 + xb)) (w.heap.size + 1) (by simp; omega)).trans G4.out
    have hb := Owned.below_write HB.out (g := b5) (i := 8) (by omega) (I (1 + xb))
    clear c8 f8 G0 G4 G5 HB
    generalize World.setCell u5 ⟨b5, 8, none⟩ (I (1 + xb)) = u6 at gG0 gG4 g5 hb ⊢
    have G0 := Lib.hid gG0
    have G4 := Lib.hid gG4
    have G5 := Lib.hid g5
    have HB := Lib.hid hb
    clear gG0 gG4 g5 hb
    go_wp2_with fail
    refine (Fc.out _ HB.out).mono ?_
    rintro e w' ⟨rfl, hq⟩
    subst w'
    by_cases hc : xc = 1
    · have HC := Lib.hid hc
      have ec : (xc == 1) = true := by simpa using hc
      clear hc
      go_upto_region 12 with fail
      have e0 : IntKind.i64.wrap (i + 13) = i + 13 := by rw [IntKind.wrap_i64]; omega
      have e1 : IntKind.i64.wrap (1 + xb + xd) = 1 + xb + xd := by rw [IntKind.wrap_i64]; omega
      have gG0 : u6.drew.heap[w.heap.size]? = some (.cells c.toArray 31 (0, 0)) := G0.out
      have gG4 : u6.drew.heap[(w.heap.size + 1)]? = some (.cells #[I 0, I 0, I 0, I 0, I 0, I 0, I 0, I 0, I 0, I 0, I 0] 78 (0, 0)) := G4.out
      have g5 : u6.drew.heap[b5]? = some (.cells #[I bv, I 0, I (withS T x0 x1), I (withS T x2 x3), I x8, I (1 + x9), I xa, I 0, I (1 + xb), I 0, I 0] 78 (0, 0)) := G5.out
      have hb : Below w.heap.size w u6.drew := HB.out.drew
      clear G0 G4 G5 HB
      refine QB.region_tail 8 (by kernel_rfl) (by kernel_rfl) ?_
      generalize World.drew u6 = u7 at gG0 gG4 g5 hb ⊢
      have G0 := Lib.hid gG0
      have G4 := Lib.hid gG4
      have G5 := Lib.hid g5
      have HB := Lib.hid hb
      clear gG0 gG4 g5 hb
      have c8 : u7.cell? ⟨b5, 8, none⟩ = some (I (1 + xb)) := by rw [cell_of_row _ _ _ _ _ _ G5.out]; rfl
      have c9 : u7.cell? ⟨b5, 9, none⟩ = some (I 0) := by rw [cell_of_row _ _ _ _ _ _ G5.out]; rfl
      have f9 : u7.frozen? ⟨b5, 9, none⟩ = false := frozen_of_row _ _ _ _ _ G5.out
      simp only [List.take_succ_cons, List.take_zero, List.drop_succ_cons, List.drop_zero]
      repeat still_step
      still_call (Fd.out _ HB.out)
      repeat still_step
      refine wpStill_nil ?_
      go_upto_region 13 with fail
      clear e0 e1
      have g5 := heap_setCell_same u7 b5 9 _ _ (I (1 + xb + xd)) G5.out
      simp only [List.setIfInBounds_toArray, List.set_cons_succ, List.set_cons_zero] at g5
      have gG0 := (Below.heap_setCell u7 ⟨b5, 9, none⟩ (I (1 + xb + xd)) w.heap.size (by simp; omega)).trans G0.out
      have gG4 := (Below.heap_setCell u7 ⟨b5, 9, none⟩ (I (1 + xb + xd)) (w.heap.size + 1) (by simp; omega)).trans G4.out
      have hb := Owned.below_write HB.out (g := b5) (i := 9) (by omega) (I (1 + xb + xd))
      clear c8 c9 f9 G0 G4 G5 HB
      generalize World.setCell u7 ⟨b5, 9, none⟩ (I (1 + xb + xd)) = u8 at gG0 gG4 g5 hb ⊢
      have G0 := Lib.hid gG0
      have G4 := Lib.hid gG4
      have G5 := Lib.hid g5
      have HB := Lib.hid hb
      clear gG0 gG4 g5 hb
      have e0 : IntKind.i64.wrap (x8 + 1) = x8 + 1 := by rw [IntKind.wrap_i64]; omega
      have e1 : IntKind.i64.wrap (i + 14) = i + 14 := by rw [IntKind.wrap_i64]; omega
      have e2 : IntKind.i64.wrap (x8 + 1 + vg) = x8 + 1 + vg := by rw [IntKind.wrap_i64]; omega
      have eg := EG.out
      have gG0 : u8.drew.heap[w.heap.size]? = some (.cells c.toArray 31 (0, 0)) := G0.out
      have gG4 : u8.drew.heap[(w.heap.size + 1)]? = some (.cells #[I 0, I 0, I 0, I 0, I 0, I 0, I 0, I 0, I 0, I 0, I 0] 78 (0, 0)) := G4.out
      have g5 : u8.drew.heap[b5]? = some (.cells #[I bv, I 0, I (withS T x0 x1), I (withS T x2 x3), I x8, I (1 + x9), I xa, I 0, I (1 + xb), I (1 + xb + xd), I 0] 78 (0, 0)) := G5.out
      have hb : Below w.heap.size w u8.drew := HB.out.drew
      clear G0 G4 G5 HB
      refine QB.region_tail 11 (by kernel_rfl) (by kernel_rfl) ?_
      generalize World.drew u8 = u9 at gG0 gG4 g5 hb ⊢
      have G0 := Lib.hid gG0
      have G4 := Lib.hid gG4
      have G5 := Lib.hid g5
      have HB := Lib.hid hb
      clear gG0 gG4 g5 hb
      have c4 : u9.cell? ⟨b5, 4, none⟩ = some (I x8) := by rw [cell_of_row _ _ _ _ _ _ G5.out]; rfl
      have c10 : u9.cell? ⟨b5, 10, none⟩ = some (I 0) := by rw [cell_of_row _ _ _ _ _ _ G5.out]; rfl
      have f10 : u9.frozen? ⟨b5, 10, none⟩ = false := frozen_of_row _ _ _ _ _ G5.out
      simp only [List.take_succ_cons, List.take_zero, List.drop_succ_cons, List.drop_zero]
      repeat still_step
      still_call (Fg.out _ HB.out)
      repeat still_step
      refine wpStill_nil ?_
      go_upto_region 14 with fail
      clear e0 e1 e2 eg
      have g5 := heap_setCell_same u9 b5 10 _ _ (I (x8 + 1 + vg)) G5.out
      simp only [List.setIfInBounds_toArray, List.set_cons_succ, List.set_cons_zero] at g5
      have gG0 := (Below.heap_setCell u9 ⟨b5, 10, none⟩ (I (x8 + 1 + vg)) w.heap.size (by simp; omega)).trans G0.out
      have gG4 := (Below.heap_setCell u9 ⟨b5, 10, none⟩ (I (x8 + 1 + vg)) (w.heap.size + 1) (by simp; omega)).trans G4.out
      have hb := Owned.below_write HB.out (g := b5) (i := 10) (by omega) (I (x8 + 1 + vg))
      clear c4 c10 f10 G0 G4 G5 HB
      generalize World.setCell u9 ⟨b5, 10, none⟩ (I (x8 + 1 + vg)) = u10 at gG0 gG4 g5 hb ⊢
      have G0 := Lib.hid gG0
      have G4 := Lib.hid gG4
      have G5 := Lib.hid g5
      have HB := Lib.hid hb
      clear gG0 gG4 g5 hb
      have FIN : Hid (R.cells.toArray = #[I bv, I 0, I (withS T x0 x1), I (withS T x2 x3), I x8, I (1 + x9), I xa, I 0, I (1 + xb), I (1 + xb + xd), I (x8 + 1 + vg)]) := Lib.hid (by rw [RES.out]; simp only [Rl.cells, if_neg (Int.not_lt.2 H4.out), if_pos HC.out])
      have LV : Hid (Lies u10 ⟨b5, 0, none⟩ #[I bv, I 0, I (withS T x0 x1), I (withS T x2 x3), I x8, I (1 + x9), I xa, I 0, I (1 + xb), I (1 + xb + xd), I (x8 + 1 + vg)].toList) := Lib.hid (Row.lies_of_block G5.out)
      have HG := Lib.hid (below_setRow HB.out (g := w.heap.size + 1) (by omega) #[I bv, I 0, I (withS T x0 x1), I (withS T x2 x3), I x8, I (1 + x9), I xa, I 0, I (1 + xb), I (1 + xb + xd), I (x8 + 1 + vg)])
      have HK := Lib.hid (setRow_heap u10 (w.heap.size + 1) _ #[I bv, I 0, I (withS T x0 x1), I (withS T x2 x3), I x8, I (1 + x9), I xa, I 0, I (1 + xb), I (1 + xb + xd), I (x8 + 1 + vg)] _ _ G4.out)
      go_wp2_with (first | (refine Row.wpList_load_g 78 _ rfl (by first | rfl | go_simp) ⟨b5, 0, none⟩ rfl #[I bv, I 0, I (withS T x0 x1), I (withS T x2 x3), I x8, I (1 + x9), I xa, I 0, I (1 + xb), I (1 + xb + xd), I (x8 + 1 + vg)].toList _ LV.out Tryd.underlying78 rfl infoR ?_) | (refine wpList_store_row rfl 78 _ _ rfl (w.heap.size + 1) #[I bv, I 0, I (withS T x0 x1), I (withS T x2 x3), I x8, I (1 + x9), I xa, I 0, I (1 + xb), I (1 + xb + xd), I (x8 + 1 + vg)] rfl rfl 78 _ G4.out infoR rfl (by simp [Value.oneCell']) ?_))
      generalize u10.setRow (w.heap.size + 1) #[I bv, I 0, I (withS T x0 x1), I (withS T x2 x3), I x8, I (1 + x9), I xa, I 0, I (1 + xb), I (1 + xb + xd), I (x8 + 1 + vg)] = uz at HG HK ⊢
      go_wp2_with fail
      (try simp only [Exit.inBlock, Exit.then])
      refine bodyPost_ret (v := .agg #[I bv, I 0, I (withS T x0 x1), I (withS T x2 x3), I x8, I (1 + x9), I xa, I 0, I (1 + xb), I (1 + xb + xd), I (x8 + 1 + vg)]) ?_ rfl ⟨by rw [FIN.out], HG.out⟩
      exact results_cell_row rfl _ _ (w.heap.size + 1) 78 _ (0, 0) _ rfl HK.out Tryd.underlying78 rfl infoR
    · have HC := Lib.hid hc
      have ec : (xc == 1) = false := by simpa using hc
      clear hc
      go_upto_region 13 with fail
      have e0 : IntKind.i64.wrap (x8 + 1) = x8 + 1 := by rw [IntKind.wrap_i64]; omega
      have e1 : IntKind.i64.wrap (i + 14) = i + 14 := by rw [IntKind.wrap_i64]; omega
      have e2 : IntKind.i64.wrap (x8 + 1 + vg) = x8 + 1 + vg := by rw [IntKind.wrap_i64]; omega
      have eg := EG.out
      have gG0 : u6.drew.heap[w.heap.size]? = some (.cells c.toArray 31 (0, 0)) := G0.out
      have gG4 : u6.drew.heap[(w.heap.size + 1)]? = some (.cells #[I 0, I 0, I 0, I 0, I 0, I 0, I 0, I 0, I 0, I 0, I 0] 78 (0, 0)) := G4.out
      have g5 : u6.drew.heap[b5]? = some (.cells #[I bv, I 0, I (withS T x0 x1), I (withS T x2 x3), I x8, I (1 + x9), I xa, I 0, I (1 + xb), I 0, I 0] 78 (0, 0)) := G5.out
      have hb : Below w.heap.size w u6.drew := HB.out.drew
      clear G0 G4 G5 HB
      refine QB.region_tail 11 (by kernel_rfl) (by kernel_rfl) ?_
      generalize World.drew u6 = u7 at gG0 gG4 g5 hb ⊢
      have G0 := Lib.hid gG0
      have G4 := Lib.hid gG4
      have G5 := Lib.hid g5
      have HB := Lib.hid hb
      clear gG0 gG4 g5 hb
      have c4 : u7.cell? ⟨b5, 4, none⟩ = some (I x8) := by rw [cell_of_row _ _ _ _ _ _ G5.out]; rfl
      have c10 : u7.cell? ⟨b5, 10, none⟩ = some (I 0) := by rw [cell_of_row _ _ _ _ _ _ G5.out]; rfl
      have f10 : u7.frozen? ⟨b5, 10, none⟩ = false := frozen_of_row _ _ _ _ _ G5.out
      simp only [List.take_succ_cons, List.take_zero, List.drop_succ_cons, List.drop_zero]
      repeat still_step
      still_call (Fg.out _ HB.out)
      repeat still_step
      refine wpStill_nil ?_
      go_upto_region 14 with fail
      clear e0 e1 e2 eg
      have g5 := heap_setCell_same u7 b5 10 _ _ (I (x8 + 1 + vg)) G5.out
      simp only [List.setIfInBounds_toArray, List.set_cons_succ, List.set_cons_zero] at g5
      have gG0 := (Below.heap_setCell u7 ⟨b5, 10, none⟩ (I (x8 + 1 + vg)) w.heap.size (by simp; omega)).trans G0.out
      have gG4 := (Below.heap_setCell u7 ⟨b5, 10, none⟩ (I (x8 + 1 + vg)) (w.heap.size + 1) (by simp; omega)).trans G4.out
      have hb := Owned.below_write HB.out (g := b5) (i := 10) (by omega) (I (x8 + 1 + vg))
      clear c4 c10 f10 G0 G4 G5 HB
      generalize World.setCell u7 ⟨b5, 10, none⟩ (I (x8 + 1 + vg)) = u8 at gG0 gG4 g5 hb ⊢
      have G0 := Lib.hid gG0
      have G4 := Lib.hid gG4
      have G5 := Lib.hid g5
      have HB := Lib.hid hb
      clear gG0 gG4 g5 hb
      have FIN : Hid (R.cells.toArray = #[I bv, I 0, I (withS T x0 x1), I (withS T x2 x3), I x8, I (1 + x9), I xa, I 0, I (1 + xb), I 0, I (x8 + 1 + vg)]) := Lib.hid (by rw [RES.out]; simp only [Rl.cells, if_neg (Int.not_lt.2 H4.out), if_neg HC.out])
      have LV : Hid (Lies u8 ⟨b5, 0, none⟩ #[I bv, I 0, I (withS T x0 x1), I (withS T x2 x3), I x8, I (1 + x9), I xa, I 0, I (1 + xb), I 0, I (x8 + 1 + vg)].toList) := Lib.hid (Row.lies_of_block G5.out)
      have HG := Lib.hid (below_setRow HB.out (g := w.heap.size + 1) (by omega) #[I bv, I 0, I (withS T x0 x1), I (withS T x2 x3), I x8, I (1 + x9), I xa, I 0, I (1 + xb), I 0, I (x8 + 1 + vg)])
      have HK := Lib.hid (setRow_heap u8 (w.heap.size + 1) _ #[I bv, I 0, I (withS T x0 x1), I (withS T x2 x3), I x8, I (1 + x9), I xa, I 0, I (1 + xb), I 0, I (x8 + 1 + vg)] _ _ G4.out)
      go_wp2_with (first | (refine Row.wpList_load_g 78 _ rfl (by first | rfl | go_simp) ⟨b5, 0, none⟩ rfl #[I bv, I 0, I (withS T x0 x1), I (withS T x2 x3), I x8, I (1 + x9), I xa, I 0, I (1 + xb), I 0, I (x8 + 1 + vg)].toList _ LV.out Tryd.underlying78 rfl infoR ?_) | (refine wpList_store_row rfl 78 _ _ rfl (w.heap.size + 1) #[I bv, I 0, I (withS T x0 x1), I (withS T x2 x3), I x8, I (1 + x9), I xa, I 0, I (1 + xb), I 0, I (x8 + 1 + vg)] rfl rfl 78 _ G4.out infoR rfl (by simp [Value.oneCell']) ?_))
      generalize u8.setRow (w.heap.size + 1) #[I bv, I 0, I (withS T x0 x1), I (withS T x2 x3), I x8, I (1 + x9), I xa, I 0, I (1 + xb), I 0, I (x8 + 1 + vg)] = uz at HG HK ⊢
      go_wp2_with fail
      (try simp only [Exit.inBlock, Exit.then])
      refine bodyPost_ret (v := .agg #[I bv, I 0, I (withS T x0 x1), I (withS T x2 x3), I x8, I (1 + x9), I xa, I 0, I (1 + xb), I 0, I (x8 + 1 + vg)]) ?_ rfl ⟨by rw [FIN.out], HG.out⟩
      exact results_cell_row rfl _ _ (w.heap.size + 1) 78 _ (0, 0) _ rfl HK.out Tryd.underlying78 rfl infoR
end GenR
namespace EntryS
open Go.ChangeShapes Go.WideShapes Go.ChangeAt Go.RowKit
open Tab Gath RefS OnS RefC Clear
open May (St phases_in infoP infoT infoR row_new)
def entryR (T : Tab) (r : Rl) : Int := sums [r.delay, r.hold, r.green, r.green, r.foot, r.foot, r.foot, clearS T, clearS T, clearS T, clearS T, clearS T, T.revert, T.revert, T.revert, 60]
def entryS (T : Tab) (k : Int) : Int := if k < 0 then 0 else match T.rails[k.toNat]? with
  | some r => entryR T r
  | none => 0
theorem entry_any (T : Tab) (h : Hd) (k : Int) (w : World) (ht : IsTab w h T) :
    Calls Tryd.prog 59 #[.agg (T.cells h).toArray, .int .i64 k] w fun e w' => e = .returned (.int .i64 (entryS T k)) ∧ Below w.heap.size w w' := by
  have C := Lib.hid (cells_ok ht)
  have hsz := C.out.size
  have IA : Hid ((Tryd.prog.info? 31).map (·.size) = some (T.cells h).length) := Lib.hid (by rw [List.size_toArray] at hsz; rw [hsz]; exact infoT)
  have CC : Hid (∀ W, Below w.heap.size w W → Calls Tryd.prog 61 #[.agg (T.cells h).toArray] W fun e w' => e = .returned (.int .i64 (clearS T)) ∧ Below W.heap.size W w') := Lib.hid (fun W hb => clear_any T h W (ht.below hb))
  have S0 := Lib.hid (St.box (cs := (T.cells h).toArray) ht)
  have Kr := ht.rails.len
  unfold maxLen at Kr
  have RS : Hid (entryS T k = if k < 0 then 0 else match T.rails[k.toNat]? with
    | some r => entryR T r
    | none => 0) := Lib.hid rfl
  have ER : Hid (∀ r, entryR T r = sums [r.delay, r.hold, r.green, r.green, r.foot, r.foot, r.foot, clearS T, clearS T, clearS T, clearS T, clearS T, T.revert, T.revert, T.revert, 60]) := Lib.hid (fun r => rfl)
  generalize entryS T k = e0 at RS ⊢
  generalize clearS T = cl at CC ER
  clear ht
  generalize T.cells h = c at *
  go_enter Tryd.func59, Tryd.ntmps59
  go_upto_region 1 with fail
  generalize w.alloc (.cells c.toArray 31) = w1 at S0 ⊢
  clear hsz
  have q114 := S0.out.cell C.out.r
  by_cases h0 : k < 0
  · have HE : Hid (0 = e0) := Lib.hid (by rw [RS.out, if_pos h0])
    go_wp2
    go_ret
    exact ⟨RefC.ret_int HE.out, S0.out.bel⟩
  obtain ⟨m, rfl⟩ := Int.eq_ofNat_of_zero_le (show 0 ≤ k by omega)
  by_cases h1 : T.rails.length ≤ m
  · have HE : Hid (0 = e0) := Lib.hid (by rw [RS.out, if_neg h0, Int.toNat_natCast, List.getElem?_eq_none h1])
    go_wp2
    go_ret
    exact ⟨RefC.ret_int HE.out, S0.out.bel⟩
  have hlt : m < T.rails.length := by omega
  have hv := List.getElem?_eq_getElem hlt
  generalize T.rails[m] = r at hv
  have HE : Hid (entryR T r = e0) := Lib.hid (by rw [RS.out, if_neg h0, Int.toNat_natCast, hv])
  obtain ⟨x, hx, hc⟩ := S0.out.tab.rails.at hv
  have HC := Lib.hid hc
  have qq : Hid (w1.cell? ⟨w.heap.size, 114, none⟩ = some (.slice (some x) T.rails.length h.r.cap)) := by have := q114; simp only [Sl.val, hx] at this; exact this
  clear hv hc hx q114 h0 h1 RS
  have q114 := qq.out
  go_upto_region 3 with fail
  go_upto_region 4 with (first | (refine Row.wpList_load_g 78 _ rfl (by first | rfl | go_simp) (x.add (m * 11)) rfl r.cells _ HC.out Tryd.underlying78 rfl infoR ?_) | (refine Row.wpList_store_new rfl 78 _ _ rfl w1 _ r.cells.toArray rfl rfl rfl infoR rfl (Rl.one _) ?_))
  have hb2 : Below w1.heap.size w1 (w1.alloc (.cells r.cells.toArray 78)) := (Below.refl _ _).alloc (Nat.le_refl _) _
  have hg := heap_alloc_new w1 (.cells r.cells.toArray 78)
  (try dsimp only [Act.put])
  have S1 := Lib.hid (S0.out.step hb2)
  clear q114 qq HC
  generalize World.alloc w1 _ = w2 at hg S1 ⊢
  generalize w1.heap.size = b at hg ⊢
  have HG := Lib.hid hg
  clear hg hb2 S0
  have LT : Hid (Lies w2 ⟨w.heap.size, 0, none⟩ c) := Lib.hid (by have := Row.lies_of_block S1.out.blk; simpa using this)
  go_wp2_with (refine Row.wpList_load_g 31 _ rfl (by first | rfl | go_simp) ⟨w.heap.size, 0, none⟩ rfl c _ LT.out Tryd.underlying31 rfl IA.out ?_)
  refine (CC.out _ S1.out.bel).mono ?_
  rintro e w3 ⟨rfl, hb⟩
  have S2 := Lib.hid (S1.out.step hb)
  have hg3 := (hb.block _ (Array.getElem?_eq_some_iff.1 HG.out).1).trans HG.out
  have HL : Hid (Lies w3 ⟨b, 0, none⟩ r.cells) := Lib.hid (by have := Row.lies_of_block hg3; simpa using this)
  clear hb hg3 HG S1 LT CC IA
  have c4 : w3.cell? ⟨b, 4, none⟩ = some (I r.delay) := by have := HL.out 4 _ rfl; rwa [Addr.add_mid, Nat.zero_add] at this
  have c5 : w3.cell? ⟨b, 5, none⟩ = some (I r.green) := by have := HL.out 5 _ rfl; rwa [Addr.add_mid, Nat.zero_add] at this
  have c6 : w3.cell? ⟨b, 6, none⟩ = some (I r.foot) := by have := HL.out 6 _ rfl; rwa [Addr.add_mid, Nat.zero_add] at this
  have c7 : w3.cell? ⟨b, 7, none⟩ = some (I r.hold) := by have := HL.out 7 _ rfl; rwa [Addr.add_mid, Nat.zero_add] at this
  have c119 := S2.out.cell C.out.revert
  go_wp2_with fail
  have hrow := row_new w3 3 [r.delay, r.hold, r.green, r.green, r.foot, r.foot, r.foot, cl, cl, cl, cl, cl, T.revert, T.revert, T.revert, 60] 16 rfl (by decide) _ rfl
  have HF : Hid (Below w.heap.size w (w3.alloc (.cells #[I r.delay, I r.hold, I r.green, I r.green, I r.foot, I r.foot, I r.foot, I cl, I cl, I cl, I cl, I cl, I T.revert, I T.revert, I T.revert, I 60] 3))) := Lib.hid (S2.out.bel.alloc S2.out.bel.size _)
  refine (sum_len (some ⟨w3.heap.size, 0, none⟩) 16 [r.delay, r.hold, r.green, r.green, r.foot, r.foot, r.foot, cl, cl, cl, cl, cl, T.revert, T.revert, T.revert, 60] 16 rfl _ hrow).mono ?_
  rintro e w' ⟨rfl, rfl⟩
  rw [← ER.out r, HE.out]
  clear hrow c4 c5 c6 c7 c119
  go_wp2
  go_ret
  exact ⟨rfl, HF.out⟩
end EntryS
namespace OverS
open Go.ChangeShapes Go.WideShapes Go.ChangeAt Go.RowKit
open Tab Gath RefS OnS RefC Clear EntryS
open May (St phases_in infoP infoT infoR row_new)
def ovE (T : Tab) (k : Nat) : Int := sums [entryS T k, (T.rails.getD k default).stay]
def ovL (T : Tab) (n : Nat) : List Int := (List.range n).map (ovE T)
def ovM (T : Tab) (l : List Int) : List Int := l.flatMap fun p => [cap (phAt T p).min, sums [(phAt T p).walk, (phAt T p).blinks]]
def overR (T : Tab) : Int := sums [mosts (ovL T T.rails.length), mosts (ovM T (SetM.list (onS T : Nat))), clearS T, T.revert, 30]
def overS (T : Tab) : Int := if T.rails.length = 0 then 0 else overR T
theorem ov_succ (T : Tab) (n : Nat) : ovL T (n + 1) = ovL T n ++ [ovE T n] := by
  unfold ovL
  rw [List.range_succ, List.map_append]; rfl
theorem ov_len (T : Tab) (n : Nat) : (ovL T n).length = n := by unfold ovL; simp
theorem ovM_len (T : Tab) (l : List Int) : (ovM T l).length = l.length * 2 := by
  unfold ovM
  induction l with
  | nil => rfl
  | cons p l ih => rw [List.flatMap_cons, List.length_append, ih]; simp; omega
theorem own_snoc2 {B : Nat} {w : World} {v' : Value} {l : List Int} {a b : Int} (h : w.ownsRow B 3 1 v' (l.length + 2) (l.flatMap (fun n => [I n]) ++ [I a, I b])) : OwnsI B w v' (l ++ [a, b]) := by
  unfold OwnsI Gath.Owns
  rw [List.length_append, List.flatMap_append]
  exact h
theorem ovM_snoc (T : Tab) (l : List Int) (p : Int) : ovM T (l ++ [p]) = ovM T l ++ [cap (phAt T p).min, sums [(phAt T p).walk, (phAt T p).blinks]] := by
  unfold ovM
  rw [List.flatMap_append]; simp
theorem over_any (T : Tab) (h : Hd) (w : World) (ht : IsTab w h T) (few : T.rails.length ≤ 1000) :
    Calls Tryd.prog 51 #[.agg (T.cells h).toArray] w fun e w' => e = .returned (.int .i64 (overS T)) ∧ Below w.heap.size w w' := by
  have C := Lib.hid (cells_ok ht)
  have hsz := C.out.size
  have IA : Hid ((Tryd.prog.info? 31).map (·.size) = some (T.cells h).length) := Lib.hid (by rw [List.size_toArray] at hsz; rw [hsz]; exact infoT)
  have EC : Hid (∀ (k : Nat) W, Below w.heap.size w W → Calls Tryd.prog 59 #[.agg (T.cells h).toArray, .int .i64 k] W fun e w' => e = .returned (.int .i64 (entryS T k)) ∧ Below W.heap.size W w') := Lib.hid (fun k W hb => entry_any T h k W (ht.below hb))
  have ON : Hid (∀ W, Below w.heap.size w W → Calls Tryd.prog 55 #[.agg (T.cells h).toArray] W fun e w' => e = .returned (.int .i64 (onS T : Nat)) ∧ Below W.heap.size W w') := Lib.hid (fun W hb => on_any T h W (ht.below hb))
  have CC : Hid (∀ W, Below w.heap.size w W → Calls Tryd.prog 61 #[.agg (T.cells h).toArray] W fun e w' => e = .returned (.int .i64 (clearS T)) ∧ Below W.heap.size W w') := Lib.hid (fun W hb => clear_any T h W (ht.below hb))
  have L8 := Lib.hid ht.ph
  have RL := Lib.hid ht.rails
  have S0 := Lib.hid (St.box (cs := (T.cells h).toArray) ht)
  have HZ : Hid ((w.alloc (.cells (T.cells h).toArray 31)).heap.size = w.heap.size + 1) := Lib.hid (by simp)
  have RS : Hid (overS T = if T.rails.length = 0 then 0 else overR T) := Lib.hid rfl
  have RR : Hid (overR T = sums [mosts (ovL T T.rails.length), mosts (ovM T (SetM.list (onS T : Nat))), clearS T, T.revert, 30]) := Lib.hid rfl
  generalize overS T = res at RS ⊢
  generalize ((onS T : Nat) : Int) = os at RR ON
  obtain ⟨i0, hi, hz0, hz1, hz2⟩ := info_parts info3
  clear ht
  go_enter Tryd.func51, Tryd.ntmps51
  go_upto_region 1 with fail
  generalize w.alloc (.cells (T.cells h).toArray 31) = w1 at S0 HZ ⊢
  have q114 := C.out.r
  have q119 := C.out.revert
  generalize hc : T.cells h = c at *
  clear hsz hc
  generalize hn : T.rails.length = n at *
  have HN := Lib.hid hn
  clear hn
  obtain ⟨sg, sd, ⟨ra, rcap⟩, sb⟩ := h
  have Q114 : Hid (∀ W, Below w1.heap.size w1 W → W.cell? ⟨w.heap.size, 114, none⟩ = some (.slice ra n rcap)) := Lib.hid (fun W hb => (S0.out.step hb).cell q114)
  have Q119 : Hid (∀ W, Below w1.heap.size w1 W → W.cell? ⟨w.heap.size, 119, none⟩ = some (I T.revert)) := Lib.hid (fun W hb => (S0.out.step hb).cell q119)
  have LT : Hid (∀ W, Below w1.heap.size w1 W → Lies W ⟨w.heap.size, 0, none⟩ c) := Lib.hid (fun W hb => by have := Row.lies_of_block (S0.out.step hb).blk; simpa using this)
  have BB : Hid (∀ W, Below w1.heap.size w1 W → Below w.heap.size w W) := Lib.hid (fun W hb => S0.out.bel.trans (hb.mono S0.out.bel.size))
  clear q114 q119
  have q114 := Q114.out _ (Below.refl _ _)
  by_cases hn0 : n = 0
  · have HF : Hid (0 = res) := Lib.hid (by rw [RS.out, if_pos hn0])
    have HB := Lib.hid S0.out.bel
    subst hn0
    go_wp2
    go_ret
    exact ⟨RefC.ret_int HF.out, HB.out⟩
  have hnb : ((n : Int) == 0) = false := by
    rw [beq_eq_false_iff_ne]; omega
  have HR0 : Hid (sums [mosts (ovL T n), mosts (ovM T (SetM.list os)), clearS T, T.revert, 30] = res) := Lib.hid (by rw [RS.out, if_neg hn0, RR.out])
  clear RS RR
  have NZ := Lib.hid hn0
  clear hn0
  go_upto_region 4 with fail
  clear q114 hnb
  have US : Hid (∀ q, ovL T (q + 1) = ovL T q ++ [ovE T q]) := Lib.hid (ov_succ T)
  have UL : Hid (∀ q, (ovL T q).length = q) := Lib.hid (ov_len T)
  have U0 : Hid (ovL T 0 = []) := Lib.hid rfl
  have UE : Hid (∀ q, ovE T q = sums [entryS T q, (T.rails.getD q default).stay]) := Lib.hid (fun q => rfl)
  generalize ovL T = ul at HR0 US UL U0
  generalize ovE T = ue at US UE
  go_wp2_with fail
  go_loopw [3, 5] (fun v i wr => ∃ q : Nat, q ≤ n ∧ i = .int .i64 q ∧ OwnsI w1.heap.size wr v (ul q) ∧ Below w1.heap.size w1 wr) (fun _ i _ => n - (intOf i).toNat)
  case atStart => exact ⟨0, by omega, rfl, by rw [U0.out]; exact Owns.nil, Below.refl _ _⟩
  case round =>
    obtain ⟨q, hq, rfl, hown, hbel⟩ := hrel
    have HO := Lib.hid hown
    have HB := Lib.hid hbel
    clear hown hbel
    have q114 := Q114.out _ HB.out
    by_cases hlt : q < n
    · have hv0 : T.rails[q]? = some (T.rails.getD q default) := by
        rw [List.getD_eq_getElem?_getD, List.getElem?_eq_getElem (by rw [HN.out]; exact hlt)]; rfl
      have HS : Hid (ul (q + 1) = ul q ++ [sums [entryS T q, (T.rails.getD q default).stay]]) := Lib.hid (by rw [US.out, UE.out])
      generalize T.rails.getD q default = u at hv0 HS
      obtain ⟨y, hy, hcc⟩ := RL.out.at hv0
      obtain rfl : ra = some y := hy
      have d8 : w.cell? ⟨(y.add (q * 11)).block, (y.add (q * 11)).off + 8, none⟩ = some (I u.stay) := by have := hcc 8 _ rfl; simpa [Addr.add] using this
      have hlb : (⟨(y.add (q * 11)).block, (y.add (q * 11)).off + 8, none⟩ : Addr).block < w.heap.size := World.block_lt_of_cell? w _ d8
      have CF : Hid (∀ w', Below w1.heap.size wr w' → w'.cell? ⟨(y.add (q * 11)).block, (y.add (q * 11)).off + 8, none⟩ = some (I u.stay)) := Lib.hid (fun w' hb => ((BB.out _ (HB.out.trans hb)).cell hlb).trans d8)
      have CQ : Hid (∀ w', Below w1.heap.size wr w' → w'.cell? ⟨w.heap.size, 114, none⟩ = some (.slice (some y) n rcap)) := Lib.hid (fun w' hb => Q114.out _ (HB.out.trans hb))
      have LS : Hid (∀ w', Below w1.heap.size wr w' → Lies w' ⟨w.heap.size, 0, none⟩ c) := Lib.hid (fun w' hb => LT.out _ (HB.out.trans hb))
      have SB : Hid (∀ w', Below w1.heap.size wr w' → Below w.heap.size w w') := Lib.hid (fun w' hb => BB.out _ (HB.out.trans hb))
      have hwr := HB.out.size
      have hlen : (ul q).length ≤ 1000 := by rw [UL.out]; omega
      generalize ul q = P1 at HO HS hlen
      have HS2 := HS
      clear hv0 hcc d8 HS hlb
      generalize u.stay = st at CF HS2
      go_upto_region 7 with fail
      clear q114
      refine wp_region_held (S := fun w' => Below w1.heap.size wr w') (by kernel_rfl) ?_
      have hO : OwnsI w1.heap.size { wr with drawn := wr.drawn + 1 } u3 P1 := HO.out
      have hS : Below w1.heap.size wr { wr with drawn := wr.drawn + 1 } := (Below.refl _ _).drew
      have hv : w1.heap.size ≤ ({ wr with drawn := wr.drawn + 1 } : World).heap.size := hwr
      generalize ({ wr with drawn := wr.drawn + 1 } : World) = v at hS hO hv ⊢
      refine Held.take (i := 0) (some 19) rfl (v := ?_) rfl (by kernel_rfl) (by kernel_rfl) (by kernel_rfl) (fun _ _ _ h => h) (Or.inl ⟨by rfl, ?_⟩) hS ?_
      rotate_left
      · intro w' hw'
        go_simp
        try with_reducible rfl
      (try dsimp only [Act.put]); (try simp only [List.setIfInBounds_toArray, List.set_cons_zero, List.set_cons_succ])
      refine Held.take_load (i := 1) (some 20) rfl 31 _ ⟨w.heap.size, 0, none⟩ c _ rfl rfl (by kernel_rfl) (by kernel_rfl) (by kernel_rfl) (fun _ _ _ h => h) (by rfl) hS rfl (fun w' hw' => LS.out w' hw') Tryd.underlying31 rfl IA.out ?_
      (try dsimp only [Act.put]); (try simp only [List.setIfInBounds_toArray, List.set_cons_zero, List.set_cons_succ])
      refine Held.take (i := 2) (some 21) rfl (v := ?_) rfl (by kernel_rfl) (by kernel_rfl) (by kernel_rfl) (fun _ _ _ h => h) (Or.inl ⟨by rfl, ?_⟩) hS ?_
      rotate_left
      · intro w' hw'
        go_simp
        try with_reducible rfl
      (try dsimp only [Act.put]); (try simp only [List.setIfInBounds_toArray, List.set_cons_zero, List.set_cons_succ])
      refine Held.take (i := 4) (some 23) rfl (v := ?_) rfl (by kernel_rfl) (by kernel_rfl) (by kernel_rfl) (fun _ _ _ h => h) (Or.inl ⟨by rfl, ?_⟩) hS ?_
      rotate_left
      · intro w' hw'
        have cf := CF.out w' hw'
        have cq := CQ.out w' hw'
        go_simp
        try with_reducible rfl
      (try dsimp only [Act.put]); (try simp only [List.setIfInBounds_toArray, List.set_cons_zero, List.set_cons_succ])
      refine Held.take (i := 5) (some 24) rfl (v := ?_) rfl (by kernel_rfl) (by kernel_rfl) (by kernel_rfl) (fun _ _ _ h => h) (Or.inl ⟨by rfl, ?_⟩) hS ?_
      rotate_left
      · intro w' hw'
        have cf := CF.out w' hw'
        have cq := CQ.out w' hw'
        go_simp
        try with_reducible rfl
      (try dsimp only [Act.put]); (try simp only [List.setIfInBounds_toArray, List.set_cons_zero, List.set_cons_succ])
      refine Held.take (i := 6) (some 25) rfl (v := ?_) rfl (by kernel_rfl) (by kernel_rfl) (by kernel_rfl) (fun _ _ _ h => h) (Or.inl ⟨by rfl, ?_⟩) hS ?_
      rotate_left
      · intro w' hw'
        have cf := CF.out w' hw'
        have cq := CQ.out w' hw'
        go_simp
        try with_reducible rfl
      (try dsimp only [Act.put]); (try simp only [List.setIfInBounds_toArray, List.set_cons_zero, List.set_cons_succ])
      refine Held.take (i := 7) (some 26) rfl (v := ?_) rfl (by kernel_rfl) (by kernel_rfl) (by kernel_rfl) (fun _ _ _ h => h) (Or.inl ⟨by rfl, ?_⟩) hS ?_
      rotate_left
      · intro w' hw'
        have cf := CF.out w' hw'
        have cq := CQ.out w' hw'
        go_simp
        try with_reducible rfl
      (try dsimp only [Act.put]); (try simp only [List.setIfInBounds_toArray, List.set_cons_zero, List.set_cons_succ])
      refine Held.take (i := 8) (some 27) rfl (v := ?_) rfl (by kernel_rfl) (by kernel_rfl) (by kernel_rfl) (fun _ _ _ h => h) (Or.inl ⟨by rfl, ?_⟩) hS ?_
      rotate_left
      · intro w' hw'
        have cf := CF.out w' hw'
        have cq := CQ.out w' hw'
        go_simp
        try with_reducible rfl
      (try dsimp only [Act.put]); (try simp only [List.setIfInBounds_toArray, List.set_cons_zero, List.set_cons_succ])
      refine Held.take (i := 9) (some 28) rfl (v := ?_) rfl (by kernel_rfl) (by kernel_rfl) (by kernel_rfl) (fun _ _ _ h => h) (Or.inl ⟨by rfl, ?_⟩) hS ?_
      rotate_left
      · intro w' hw'
        have cf := CF.out w' hw'
        have cq := CQ.out w' hw'
        go_simp
        try with_reducible rfl
      (try dsimp only [Act.put]); (try simp only [List.setIfInBounds_toArray, List.set_cons_zero, List.set_cons_succ])
      refine wpAnyH_ready (rs := [3]) (by kernel_rfl) (by simp) (AllReadyH.cons rfl (fun K hK => ?_) AllReadyH.nil)
      go_simp
      refine (EC.out q v (SB.out v hS)).mono ?_
      rintro e x1 ⟨rfl, hb⟩
      generalize entryS T ((q : Nat) : Int) = en at HS2 ⊢
      replace hO := Owns.below hO hb
      have hS2 := Below.trans hS (hb.mono hv)
      replace hv := Nat.le_trans hv hb.size
      clear hb hS
      go_simp
      refine hK.out _ _ hS2 (fun hS => ?_)
      clear hK K hS2
      refine wpAnyH_ready (rs := [10]) (by kernel_rfl) (by simp) (AllReadyH.cons rfl (fun K hK => ?_) AllReadyH.nil)
      go_simp
      have r1 : Hid (IntRow (x1.alloc (.cells #[I en, I st] 3)) ⟨some ⟨x1.heap.size, 0, none⟩, 2⟩ [en, st]) := Lib.hid (May.row_new x1 3 [en, st] 2 rfl (by decide) _ rfl)
      have hbw : Below x1.heap.size x1 (x1.alloc (.cells #[I en, I st] 3)) := (Below.refl _ _).alloc (Nat.le_refl _) _
      replace hO := Owns.below hO hbw
      have hS2 := hS.alloc hv (.cells #[I en, I st] 3)
      replace hv := Nat.le_trans hv hbw.size
      clear hbw hS
      generalize hb0 : x1.heap.size = b2 at r1 ⊢
      clear hb0
      generalize World.alloc x1 (.cells #[I en, I st] 3) = x3 at r1 hO hS2 hv ⊢
      refine hK.out _ _ hS2 (fun hS => ?_)
      clear hK K hS2
      refine wpAnyH_ready (rs := [11]) (by kernel_rfl) (by simp) (AllReadyH.cons rfl (fun K hK => ?_) AllReadyH.nil)
      go_simp
      refine (Clear.sum_len (some ⟨b2, 0, none⟩) 2 [en, st] 2 rfl x3 r1.out).mono ?_
      rintro e w' ⟨rfl, hq⟩
      subst w'
      clear r1
      generalize sums [en, st] = z at HS2 ⊢
      go_simp
      refine hK.out _ _ hS (fun hS => ?_)
      clear hK K
      refine wpAnyH_ready (rs := [12]) (by kernel_rfl) (by simp) (AllReadyH.cons rfl (fun K hK => ?_) AllReadyH.nil)
      go_simp
      have r2 : Hid (IntRow (x3.alloc (.cells #[I z] 3)) ⟨some ⟨x3.heap.size, 0, none⟩, 1⟩ [z]) := Lib.hid (May.row_new x3 3 [z] 1 rfl (by decide) _ rfl)
      have hbw : Below x3.heap.size x3 (x3.alloc (.cells #[I z] 3)) := (Below.refl _ _).alloc (Nat.le_refl _) _
      replace hO := Owns.below hO hbw
      have hS2 := hS.alloc hv (.cells #[I z] 3)
      replace hv := Nat.le_trans hv hbw.size
      clear hbw hS
      generalize hb0 : x3.heap.size = b4 at r2 ⊢
      clear hb0
      generalize World.alloc x3 (.cells #[I z] 3) = x5 at r2 hO hS2 hv ⊢
      refine hK.out _ _ hS2 (fun hS => ?_)
      clear hK K hS2
      refine wpAnyH_ready (rs := [13]) (by kernel_rfl) (by simp) (AllReadyH.cons rfl (fun K hK => ?_) AllReadyH.nil)
      rw [if_pos (by rfl)]
      refine wp_append_own _ _ _ _ rfl w1.heap.size 3 i0 (.int .i64 0) 1 8 Tryd.underlying47 hi hz0 hz1 hz2 rfl (by decide) u3 P1.length _ rfl hO ⟨b4, 0, none⟩ 1 1 [I z] rfl rfl ?c1 ?c2 ?c3 ?c4 hv ?_
      case c1 =>
        intro j e hj
        obtain ⟨x, hx, hc⟩ := IntRow.at r2.out (i := j) (v := intOf e) (by
          match j, hj with
          | 0, hj => simp at hj; subst hj; rfl)
        obtain rfl := Option.some.inj hx
        rw [hc]
        match j, hj with
        | 0, hj => simp at hj; subst hj; rfl
      case c2 => intro e he; simp at he; subst he; rfl
      case c3 => unfold maxLen; omega
      case c4 => omega
      intro v' x6 hown' hgrow hnil'
      have hS2 := hS.grown hgrow hv (fun m hm => Owns.blk (show OwnsI w1.heap.size x5 u3 P1 from hO) m hm)
      have HO2 : Hid (x6.ownsRow w1.heap.size 3 1 v' (P1.length + 1) (P1.flatMap (fun n => [I n]) ++ [I z])) := Lib.hid hown'
      clear hown' hgrow hnil' hO hS
      refine hK.out _ _ hS2 (fun hS => ?_)
      clear hK K hS2
      refine Held.take (i := 14) (some 3) rfl (v := ?_) rfl (by kernel_rfl) (by kernel_rfl) (by kernel_rfl) (fun _ _ _ h => h) (Or.inl ⟨by rfl, ?_⟩) hS ?_
      rotate_left
      · intro w' hw'
        go_simp
        try with_reducible rfl
      (try dsimp only [Act.put]); (try simp only [List.setIfInBounds_toArray, List.set_cons_zero, List.set_cons_succ])
      refine wpAnyH_done (by kernel_rfl) ?_ _
      have HB2 := Lib.hid (HB.out.trans hS)
      clear hS
      go_wp2
      go_roundw
      case rel => exact ⟨q + 1, by omega, by go_num, by rw [HS2.out]; exact Owns.snoc HO2.out, HB2.out⟩
      case measure => simp [intOf]; omega
    · have HE : Hid (q = n) := Lib.hid (by omega)
      obtain ⟨⟨ea, ec⟩, hs, hrow⟩ := HO.out.row (enc := fun n => [I n]) (fun _ => rfl)
      rw [HE.out] at hs hrow
      have H3 := Lib.hid hrow
      clear hrow
      subst hs
      generalize ul n = P3 at HR0 H3 ⊢
      show Code.wp _ _ _ _ _
      rw [show (Sl.val ⟨ea, ec⟩ P3.length) = .slice ea P3.length ec from rfl]
      go_upto_region 8 with fail
      clear q114
      go_wp2_with (refine Row.wpList_load_g 31 _ rfl (by first | rfl | go_simp) ⟨w.heap.size, 0, none⟩ rfl c _ (LT.out _ HB.out) Tryd.underlying31 rfl IA.out ?_)
      refine (ON.out _ (BB.out _ HB.out)).mono ?_
      rintro e w2 ⟨rfl, hb⟩
      have B2 := Lib.hid (HB.out.trans (hb.mono HB.out.size))
      have R2 := Lib.hid (RowOf.below H3.out hb)
      clear hb HB H3 ON
      go_wp2_with fail
      refine (rlist_any os _).mono ?_
      rintro e w3 ⟨v0, rfl, hown, hb⟩
      have B3 := Lib.hid (B2.out.trans (hb.mono B2.out.size))
      have R3 := Lib.hid (RowOf.below R2.out hb)
      obtain ⟨sa, sc, rfl, hrow⟩ := row_of hown
      have HR := Lib.hid hrow
      have hl8 := SetM.list_len os
      have BD := Lib.hid (SetM.list_bd os)
      clear hown hrow hb B2 R2
      generalize SetM.list os = M at HR0 HR hl8 BD ⊢
      have MT : Hid (∀ q, q < M.length → ovM T (M.take (q + 1)) = ovM T (M.take q) ++ [cap (phAt T (M.getD q 0)).min, sums [(phAt T (M.getD q 0)).walk, (phAt T (M.getD q 0)).blinks]]) := Lib.hid (fun q hq => by rw [RefS.take_succ M q hq, ovM_snoc])
      have ML : Hid (∀ q, (ovM T (M.take q)).length ≤ 16) := Lib.hid (fun q => by rw [ovM_len, List.length_take]; omega)
      go_wp2_with fail
      go_loopw [4, 37] (fun v i wr => ∃ q : Nat, q ≤ M.length ∧ i = .int .i64 q ∧ OwnsI w3.heap.size wr v (ovM T (M.take q)) ∧ Below w3.heap.size w3 wr) (fun _ i _ => M.length - (intOf i).toNat)
      case atStart => exact ⟨0, by omega, rfl, Owns.nil, Below.refl _ _⟩
      case round =>
        obtain ⟨q, hq, rfl, hown, hbel⟩ := hrel
        have HO := Lib.hid hown
        have HB := Lib.hid hbel
        clear hown hbel
        by_cases hlt : q < M.length
        · obtain ⟨x, hx, hc⟩ := (HR.out.below HB.out).cells hlt
          obtain rfl : sa = some x := hx
          have c0 := hc q hlt
          have hmem : M.getD q 0 ∈ M := by rw [List.getD_eq_getElem?_getD, List.getElem?_eq_getElem hlt]; exact List.getElem_mem hlt
          have hbd := BD.out _ hmem
          have MS := Lib.hid (MT.out q hlt)
          have hlen := ML.out q
          clear hc hmem
          generalize M.getD q 0 = p at c0 hbd MS
          obtain ⟨p0, p8⟩ := hbd
          obtain ⟨k, rfl⟩ := Int.eq_ofNat_of_zero_le p0
          have hk : k < 8 := by omega
          have hv : T.phases[k]? = some (phAt T k) := by
            unfold phAt
            rw [Int.toNat_natCast, List.getD_eq_getElem?_getD, List.getElem?_eq_getElem (by rw [L8.out]; exact hk)]; rfl
          generalize phAt T k = u at hv MS
          have S4 := Lib.hid (S0.out.step (B3.out.trans (HB.out.mono B3.out.size)))
          obtain ⟨y, hy, hcc⟩ := (phases_in S4.out.blk C.out L8.out).at hv
          obtain rfl := Option.some.inj hy
          have d1 : wr.cell? ⟨w.heap.size, k * 13 + 1, none⟩ = some (I u.min) := by have := hcc 1 _ rfl; rwa [Addr.add_mid, Nat.zero_add, Addr.add_mid] at this
          have d8 : wr.cell? ⟨w.heap.size, k * 13 + 8, none⟩ = some (I u.walk) := by have := hcc 8 _ rfl; rwa [Addr.add_mid, Nat.zero_add, Addr.add_mid] at this
          have d9 : wr.cell? ⟨w.heap.size, k * 13 + 9, none⟩ = some (I u.blinks) := by have := hcc 9 _ rfl; rwa [Addr.add_mid, Nat.zero_add, Addr.add_mid] at this
          have hl3 : w.heap.size < w3.heap.size := by have := B3.out.size; have := HZ.out; omega
          have C1 : Hid (∀ w', Below w3.heap.size wr w' → w'.cell? ⟨w.heap.size, k * 13 + 1, none⟩ = some (I u.min)) := Lib.hid (fun w' hb => (hb.cell (show w.heap.size < _ from hl3)).trans d1)
          have C8 : Hid (∀ w', Below w3.heap.size wr w' → w'.cell? ⟨w.heap.size, k * 13 + 8, none⟩ = some (I u.walk)) := Lib.hid (fun w' hb => (hb.cell (show w.heap.size < _ from hl3)).trans d8)
          have C9 : Hid (∀ w', Below w3.heap.size wr w' → w'.cell? ⟨w.heap.size, k * 13 + 9, none⟩ = some (I u.blinks)) := Lib.hid (fun w' hb => (hb.cell (show w.heap.size < _ from hl3)).trans d9)
          clear hv hcc hy d1 d8 d9 hl3
          have hwr := HB.out.size
          generalize ovM T (M.take q) = P1 at HO MS hlen
          generalize u.min = mi at C1 MS
          generalize u.walk = wa at C8 MS
          generalize u.blinks = bl at C9 MS
          go_upto_region 11 with fail
          refine wp_region_held (S := fun w' => Below w3.heap.size wr w') (by kernel_rfl) ?_
          have hO : OwnsI w3.heap.size { wr with drawn := wr.drawn + 1 } u4 P1 := HO.out
          have hS : Below w3.heap.size wr { wr with drawn := wr.drawn + 1 } := (Below.refl _ _).drew
          have hv : w3.heap.size ≤ ({ wr with drawn := wr.drawn + 1 } : World).heap.size := hwr
          generalize ({ wr with drawn := wr.drawn + 1 } : World) = v at hS hO hv ⊢
          refine Held.take (i := 0) (some 41) rfl (v := ?_) rfl (by kernel_rfl) (by kernel_rfl) (by kernel_rfl) (fun _ _ _ h => h) (Or.inl ⟨by rfl, ?_⟩) hS ?_
          rotate_left
          · intro w' hw'
            have e1 := C1.out w' hw'
            have e8 := C8.out w' hw'
            have e9 := C9.out w' hw'
            go_simp
            try with_reducible rfl
          (try dsimp only [Act.put]); (try simp only [List.setIfInBounds_toArray, List.set_cons_zero, List.set_cons_succ])
          refine Held.take (i := 1) (some 42) rfl (v := ?_) rfl (by kernel_rfl) (by kernel_rfl) (by kernel_rfl) (fun _ _ _ h => h) (Or.inl ⟨by rfl, ?_⟩) hS ?_
          rotate_left
          · intro w' hw'
            have e1 := C1.out w' hw'
            have e8 := C8.out w' hw'
            have e9 := C9.out w' hw'
            go_simp
            try with_reducible rfl
          (try dsimp only [Act.put]); (try simp only [List.setIfInBounds_toArray, List.set_cons_zero, List.set_cons_succ])
          refine Held.take (i := 2) (some 43) rfl (v := ?_) rfl (by kernel_rfl) (by kernel_rfl) (by kernel_rfl) (fun _ _ _ h => h) (Or.inl ⟨by rfl, ?_⟩) hS ?_
          rotate_left
          · intro w' hw'
            have e1 := C1.out w' hw'
            have e8 := C8.out w' hw'
            have e9 := C9.out w' hw'
            go_simp
            try with_reducible rfl
          (try dsimp only [Act.put]); (try simp only [List.setIfInBounds_toArray, List.set_cons_zero, List.set_cons_succ])
          refine Held.take (i := 3) (some 44) rfl (v := ?_) rfl (by kernel_rfl) (by kernel_rfl) (by kernel_rfl) (fun _ _ _ h => h) (Or.inl ⟨by rfl, ?_⟩) hS ?_
          rotate_left
          · intro w' hw'
            have e1 := C1.out w' hw'
            have e8 := C8.out w' hw'
            have e9 := C9.out w' hw'
            go_simp
            try with_reducible rfl
          (try dsimp only [Act.put]); (try simp only [List.setIfInBounds_toArray, List.set_cons_zero, List.set_cons_succ])
          refine Held.take (i := 4) (some 45) rfl (v := ?_) rfl (by kernel_rfl) (by kernel_rfl) (by kernel_rfl) (fun _ _ _ h => h) (Or.inl ⟨by rfl, ?_⟩) hS ?_
          rotate_left
          · intro w' hw'
            have e1 := C1.out w' hw'
            have e8 := C8.out w' hw'
            have e9 := C9.out w' hw'
            go_simp
            try with_reducible rfl
          (try dsimp only [Act.put]); (try simp only [List.setIfInBounds_toArray, List.set_cons_zero, List.set_cons_succ])
          refine Held.take (i := 5) (some 46) rfl (v := ?_) rfl (by kernel_rfl) (by kernel_rfl) (by kernel_rfl) (fun _ _ _ h => h) (Or.inl ⟨by rfl, ?_⟩) hS ?_
          rotate_left
          · intro w' hw'
            have e1 := C1.out w' hw'
            have e8 := C8.out w' hw'
            have e9 := C9.out w' hw'
            go_simp
            try with_reducible rfl
          (try dsimp only [Act.put]); (try simp only [List.setIfInBounds_toArray, List.set_cons_zero, List.set_cons_succ])
          refine Held.take (i := 7) (some 48) rfl (v := ?_) rfl (by kernel_rfl) (by kernel_rfl) (by kernel_rfl) (fun _ _ _ h => h) (Or.inl ⟨by rfl, ?_⟩) hS ?_
          rotate_left
          · intro w' hw'
            have e1 := C1.out w' hw'
            have e8 := C8.out w' hw'
            have e9 := C9.out w' hw'
            go_simp
            try with_reducible rfl
          (try dsimp only [Act.put]); (try simp only [List.setIfInBounds_toArray, List.set_cons_zero, List.set_cons_succ])
          refine Held.take (i := 8) (some 49) rfl (v := ?_) rfl (by kernel_rfl) (by kernel_rfl) (by kernel_rfl) (fun _ _ _ h => h) (Or.inl ⟨by rfl, ?_⟩) hS ?_
          rotate_left
          · intro w' hw'
            have e1 := C1.out w' hw'
            have e8 := C8.out w' hw'
            have e9 := C9.out w' hw'
            go_simp
            try with_reducible rfl
          (try dsimp only [Act.put]); (try simp only [List.setIfInBounds_toArray, List.set_cons_zero, List.set_cons_succ])
          refine Held.take (i := 9) (some 50) rfl (v := ?_) rfl (by kernel_rfl) (by kernel_rfl) (by kernel_rfl) (fun _ _ _ h => h) (Or.inl ⟨by rfl, ?_⟩) hS ?_
          rotate_left
          · intro w' hw'
            have e1 := C1.out w' hw'
            have e8 := C8.out w' hw'
            have e9 := C9.out w' hw'
            go_simp
            try with_reducible rfl
          (try dsimp only [Act.put]); (try simp only [List.setIfInBounds_toArray, List.set_cons_zero, List.set_cons_succ])
          refine Held.take (i := 10) (some 51) rfl (v := ?_) rfl (by kernel_rfl) (by kernel_rfl) (by kernel_rfl) (fun _ _ _ h => h) (Or.inl ⟨by rfl, ?_⟩) hS ?_
          rotate_left
          · intro w' hw'
            have e1 := C1.out w' hw'
            have e8 := C8.out w' hw'
            have e9 := C9.out w' hw'
            go_simp
            try with_reducible rfl
          (try dsimp only [Act.put]); (try simp only [List.setIfInBounds_toArray, List.set_cons_zero, List.set_cons_succ])
          refine Held.take (i := 11) (some 52) rfl (v := ?_) rfl (by kernel_rfl) (by kernel_rfl) (by kernel_rfl) (fun _ _ _ h => h) (Or.inl ⟨by rfl, ?_⟩) hS ?_
          rotate_left
          · intro w' hw'
            have e1 := C1.out w' hw'
            have e8 := C8.out w' hw'
            have e9 := C9.out w' hw'
            go_simp
            try with_reducible rfl
          (try dsimp only [Act.put]); (try simp only [List.setIfInBounds_toArray, List.set_cons_zero, List.set_cons_succ])
          refine Held.take (i := 12) (some 53) rfl (v := ?_) rfl (by kernel_rfl) (by kernel_rfl) (by kernel_rfl) (fun _ _ _ h => h) (Or.inl ⟨by rfl, ?_⟩) hS ?_
          rotate_left
          · intro w' hw'
            have e1 := C1.out w' hw'
            have e8 := C8.out w' hw'
            have e9 := C9.out w' hw'
            go_simp
            try with_reducible rfl
          (try dsimp only [Act.put]); (try simp only [List.setIfInBounds_toArray, List.set_cons_zero, List.set_cons_succ])
          refine Held.take (i := 13) (some 54) rfl (v := ?_) rfl (by kernel_rfl) (by kernel_rfl) (by kernel_rfl) (fun _ _ _ h => h) (Or.inl ⟨by rfl, ?_⟩) hS ?_
          rotate_left
          · intro w' hw'
            have e1 := C1.out w' hw'
            have e8 := C8.out w' hw'
            have e9 := C9.out w' hw'
            go_simp
            try with_reducible rfl
          (try dsimp only [Act.put]); (try simp only [List.setIfInBounds_toArray, List.set_cons_zero, List.set_cons_succ])
          refine Held.take (i := 14) (some 55) rfl (v := ?_) rfl (by kernel_rfl) (by kernel_rfl) (by kernel_rfl) (fun _ _ _ h => h) (Or.inl ⟨by rfl, ?_⟩) hS ?_
          rotate_left
          · intro w' hw'
            have e1 := C1.out w' hw'
            have e8 := C8.out w' hw'
            have e9 := C9.out w' hw'
            go_simp
            try with_reducible rfl
          (try dsimp only [Act.put]); (try simp only [List.setIfInBounds_toArray, List.set_cons_zero, List.set_cons_succ])
          refine Held.take (i := 15) (some 56) rfl (v := ?_) rfl (by kernel_rfl) (by kernel_rfl) (by kernel_rfl) (fun _ _ _ h => h) (Or.inl ⟨by rfl, ?_⟩) hS ?_
          rotate_left
          · intro w' hw'
            have e1 := C1.out w' hw'
            have e8 := C8.out w' hw'
            have e9 := C9.out w' hw'
            go_simp
            try with_reducible rfl
          (try dsimp only [Act.put]); (try simp only [List.setIfInBounds_toArray, List.set_cons_zero, List.set_cons_succ])
          refine Held.take (i := 16) (some 57) rfl (v := ?_) rfl (by kernel_rfl) (by kernel_rfl) (by kernel_rfl) (fun _ _ _ h => h) (Or.inl ⟨by rfl, ?_⟩) hS ?_
          rotate_left
          · intro w' hw'
            have e1 := C1.out w' hw'
            have e8 := C8.out w' hw'
            have e9 := C9.out w' hw'
            go_simp
            try with_reducible rfl
          (try dsimp only [Act.put]); (try simp only [List.setIfInBounds_toArray, List.set_cons_zero, List.set_cons_succ])
          refine wpAnyH_ready (rs := [6, 17]) (by kernel_rfl) (by simp) (AllReadyH.cons rfl (fun K hK => ?_) (AllReadyH.cons rfl (fun K hK => ?_) AllReadyH.nil))
          · go_simp
            refine (rcap_any mi v).mono ?_
            rintro e w' ⟨rfl, hq⟩
            subst w'
            generalize cap mi = cm at MS ⊢
            go_simp
            refine hK.out _ _ hS (fun hS => ?_)
            clear hK K
            refine wpAnyH_ready (rs := [17]) (by kernel_rfl) (by simp) (AllReadyH.cons rfl (fun K hK => ?_) AllReadyH.nil)
            go_simp
            have r1 : Hid (IntRow (v.alloc (.cells #[I wa, I bl] 3)) ⟨some ⟨v.heap.size, 0, none⟩, 2⟩ [wa, bl]) := Lib.hid (May.row_new v 3 [wa, bl] 2 rfl (by decide) _ rfl)
            have hbw : Below v.heap.size v (v.alloc (.cells #[I wa, I bl] 3)) := (Below.refl _ _).alloc (Nat.le_refl _) _
            replace hO := Owns.below hO hbw
            have hS2 := hS.alloc hv (.cells #[I wa, I bl] 3)
            replace hv := Nat.le_trans hv hbw.size
            clear hbw hS
            generalize hb0 : v.heap.size = b1 at r1 ⊢
            clear hb0
            generalize World.alloc v (.cells #[I wa, I bl] 3) = x2 at r1 hO hS2 hv ⊢
            refine hK.out _ _ hS2 (fun hS => ?_)
            clear hK K hS2
            refine wpAnyH_ready (rs := [18]) (by kernel_rfl) (by simp) (AllReadyH.cons rfl (fun K hK => ?_) AllReadyH.nil)
            go_simp
            refine (Clear.sum_len (some ⟨b1, 0, none⟩) 2 [wa, bl] 2 rfl x2 r1.out).mono ?_
            rintro e w' ⟨rfl, hq⟩
            subst w'
            clear r1
            generalize sums [wa, bl] = z at MS ⊢
            go_simp
            refine hK.out _ _ hS (fun hS => ?_)
            clear hK K
            refine wpAnyH_ready (rs := [19]) (by kernel_rfl) (by simp) (AllReadyH.cons rfl (fun K hK => ?_) AllReadyH.nil)
            go_simp
            have r2 : Hid (IntRow (x2.alloc (.cells #[I cm, I z] 3)) ⟨some ⟨x2.heap.size, 0, none⟩, 2⟩ [cm, z]) := Lib.hid (May.row_new x2 3 [cm, z] 2 rfl (by decide) _ rfl)
            have hbw : Below x2.heap.size x2 (x2.alloc (.cells #[I cm, I z] 3)) := (Below.refl _ _).alloc (Nat.le_refl _) _
            replace hO := Owns.below hO hbw
            have hS2 := hS.alloc hv (.cells #[I cm, I z] 3)
            replace hv := Nat.le_trans hv hbw.size
            clear hbw hS
            generalize hb0 : x2.heap.size = b3 at r2 ⊢
            clear hb0
            generalize World.alloc x2 (.cells #[I cm, I z] 3) = x4 at r2 hO hS2 hv ⊢
            refine hK.out _ _ hS2 (fun hS => ?_)
            clear hK K hS2
            refine wpAnyH_ready (rs := [20]) (by kernel_rfl) (by simp) (AllReadyH.cons rfl (fun K hK => ?_) AllReadyH.nil)
            rw [if_pos (by rfl)]
            refine wp_append_own _ _ _ _ rfl w3.heap.size 3 i0 (.int .i64 0) 1 8 Tryd.underlying47 hi hz0 hz1 hz2 rfl (by decide) u4 P1.length _ rfl hO ⟨b3, 0, none⟩ 2 2 [I cm, I z] rfl rfl ?c1 ?c2 ?c3 ?c4 hv ?_
            case c1 =>
              intro j e hj
              obtain ⟨x, hx, hc⟩ := IntRow.at r2.out (i := j) (v := intOf e) (by
                match j, hj with
                | 0, hj => simp at hj; subst hj; rfl
                | 1, hj => simp at hj; subst hj; rfl)
              obtain rfl := Option.some.inj hx
              rw [hc]
              match j, hj with
              | 0, hj => simp at hj; subst hj; rfl
              | 1, hj => simp at hj; subst hj; rfl
            case c2 => intro e he; simp at he; rcases he with rfl | rfl <;> rfl
            case c3 => unfold maxLen; omega
            case c4 => omega
            intro v' x5 hown' hgrow hnil'
            have hS2 := hS.grown hgrow hv (fun m hm => Owns.blk (show OwnsI w3.heap.size x4 u4 P1 from hO) m hm)
            have HO2 : Hid (x5.ownsRow w3.heap.size 3 1 v' (P1.length + 2) (P1.flatMap (fun n => [I n]) ++ [I cm, I z])) := Lib.hid hown'
            clear hown' hgrow hnil' hO hS
            refine hK.out _ _ hS2 (fun hS => ?_)
            clear hK K hS2
            refine Held.take (i := 21) (some 4) rfl (v := ?_) rfl (by kernel_rfl) (by kernel_rfl) (by kernel_rfl) (fun _ _ _ h => h) (Or.inl ⟨by rfl, ?_⟩) hS ?_
            rotate_left
            · intro w' hw'
              go_simp
              try with_reducible rfl
            (try dsimp only [Act.put]); (try simp only [List.setIfInBounds_toArray, List.set_cons_zero, List.set_cons_succ])
            refine wpAnyH_done (by kernel_rfl) ?_ _
            have HB2 := Lib.hid (HB.out.trans hS)
            clear hS
            go_wp2
            go_roundw
            case rel => exact ⟨q + 1, by omega, by go_num, by rw [MS.out]; exact own_snoc2 HO2.out, HB2.out⟩
            case measure => simp [intOf]; omega
          · go_simp
            have r1 : Hid (IntRow (v.alloc (.cells #[I wa, I bl] 3)) ⟨some ⟨v.heap.size, 0, none⟩, 2⟩ [wa, bl]) := Lib.hid (May.row_new v 3 [wa, bl] 2 rfl (by decide) _ rfl)
            have hbw : Below v.heap.size v (v.alloc (.cells #[I wa, I bl] 3)) := (Below.refl _ _).alloc (Nat.le_refl _) _
            replace hO := Owns.below hO hbw
            have hS2 := hS.alloc hv (.cells #[I wa, I bl] 3)
            replace hv := Nat.le_trans hv hbw.size
            clear hbw hS
            generalize hb0 : v.heap.size = b6 at r1 ⊢
            clear hb0
            generalize World.alloc v (.cells #[I wa, I bl] 3) = x7 at r1 hO hS2 hv ⊢
            refine hK.out _ _ hS2 (fun hS => ?_)
            clear hK K hS2
            refine wpAnyH_ready (rs := [6]) (by kernel_rfl) (by simp) (AllReadyH.cons rfl (fun K hK => ?_) AllReadyH.nil)
            go_simp
            refine (rcap_any mi x7).mono ?_
            rintro e w' ⟨rfl, hq⟩
            subst w'
            generalize cap mi = cm at MS ⊢
            go_simp
            refine hK.out _ _ hS (fun hS => ?_)
            clear hK K
            refine wpAnyH_ready (rs := [18]) (by kernel_rfl) (by simp) (AllReadyH.cons rfl (fun K hK => ?_) AllReadyH.nil)
            go_simp
            refine (Clear.sum_len (some ⟨b6, 0, none⟩) 2 [wa, bl] 2 rfl x7 r1.out).mono ?_
            rintro e w' ⟨rfl, hq⟩
            subst w'
            clear r1
            generalize sums [wa, bl] = z at MS ⊢
            go_simp
            refine hK.out _ _ hS (fun hS => ?_)
            clear hK K
            refine wpAnyH_ready (rs := [19]) (by kernel_rfl) (by simp) (AllReadyH.cons rfl (fun K hK => ?_) AllReadyH.nil)
            go_simp
            have r2 : Hid (IntRow (x7.alloc (.cells #[I cm, I z] 3)) ⟨some ⟨x7.heap.size, 0, none⟩, 2⟩ [cm, z]) := Lib.hid (May.row_new x7 3 [cm, z] 2 rfl (by decide) _ rfl)
            have hbw : Below x7.heap.size x7 (x7.alloc (.cells #[I cm, I z] 3)) := (Below.refl _ _).alloc (Nat.le_refl _) _
            replace hO := Owns.below hO hbw
            have hS2 := hS.alloc hv (.cells #[I cm, I z] 3)
            replace hv := Nat.le_trans hv hbw.size
            clear hbw hS
            generalize hb0 : x7.heap.size = b8 at r2 ⊢
            clear hb0
            generalize World.alloc x7 (.cells #[I cm, I z] 3) = x9 at r2 hO hS2 hv ⊢
            refine hK.out _ _ hS2 (fun hS => ?_)
            clear hK K hS2
            refine wpAnyH_ready (rs := [20]) (by kernel_rfl) (by simp) (AllReadyH.cons rfl (fun K hK => ?_) AllReadyH.nil)
            rw [if_pos (by rfl)]
            refine wp_append_own _ _ _ _ rfl w3.heap.size 3 i0 (.int .i64 0) 1 8 Tryd.underlying47 hi hz0 hz1 hz2 rfl (by decide) u4 P1.length _ rfl hO ⟨b8, 0, none⟩ 2 2 [I cm, I z] rfl rfl ?c1 ?c2 ?c3 ?c4 hv ?_
            case c1 =>
              intro j e hj
              obtain ⟨x, hx, hc⟩ := IntRow.at r2.out (i := j) (v := intOf e) (by
                match j, hj with
                | 0, hj => simp at hj; subst hj; rfl
                | 1, hj => simp at hj; subst hj; rfl)
              obtain rfl := Option.some.inj hx
              rw [hc]
              match j, hj with
              | 0, hj => simp at hj; subst hj; rfl
              | 1, hj => simp at hj; subst hj; rfl
            case c2 => intro e he; simp at he; rcases he with rfl | rfl <;> rfl
            case c3 => unfold maxLen; omega
            case c4 => omega
            intro v' x10 hown' hgrow hnil'
            have hS2 := hS.grown hgrow hv (fun m hm => Owns.blk (show OwnsI w3.heap.size x9 u4 P1 from hO) m hm)
            have HO2 : Hid (x10.ownsRow w3.heap.size 3 1 v' (P1.length + 2) (P1.flatMap (fun n => [I n]) ++ [I cm, I z])) := Lib.hid hown'
            clear hown' hgrow hnil' hO hS
            refine hK.out _ _ hS2 (fun hS => ?_)
            clear hK K hS2
            refine Held.take (i := 21) (some 4) rfl (v := ?_) rfl (by kernel_rfl) (by kernel_rfl) (by kernel_rfl) (fun _ _ _ h => h) (Or.inl ⟨by rfl, ?_⟩) hS ?_
            rotate_left
            · intro w' hw'
              go_simp
              try with_reducible rfl
            (try dsimp only [Act.put]); (try simp only [List.setIfInBounds_toArray, List.set_cons_zero, List.set_cons_succ])
            refine wpAnyH_done (by kernel_rfl) ?_ _
            have HB2 := Lib.hid (HB.out.trans hS)
            clear hS
            go_wp2
            go_roundw
            case rel => exact ⟨q + 1, by omega, by go_num, by rw [MS.out]; exact own_snoc2 HO2.out, HB2.out⟩
            case measure => simp [intOf]; omega
        · have HE : Hid (ovM T (M.take q) = ovM T M) := Lib.hid (by rw [List.take_of_length_le (by omega)])
          obtain ⟨⟨fa, fc⟩, hs, hrow⟩ := HO.out.row (enc := fun n => [I n]) (fun _ => rfl)
          rw [HE.out] at hs hrow
          have H4 := Lib.hid hrow
          have R4 := Lib.hid (RowOf.below R3.out HB.out)
          have B4 := Lib.hid (B3.out.trans (HB.out.mono B3.out.size))
          clear hrow HE
          subst hs
          generalize ovM T M = P4 at HR0 H4 ⊢
          rw [show (Sl.val ⟨fa, fc⟩ P4.length) = .slice fa P4.length fc from rfl]
          have CQ : Hid (∀ w', Below wr.heap.size wr w' → w'.cell? ⟨w.heap.size, 119, none⟩ = some (I T.revert)) := Lib.hid (fun w' hb => Q119.out _ (B4.out.trans (hb.mono B4.out.size)))
          have LS : Hid (∀ w', Below wr.heap.size wr w' → Lies w' ⟨w.heap.size, 0, none⟩ c) := Lib.hid (fun w' hb => LT.out _ (B4.out.trans (hb.mono B4.out.size)))
          have SB : Hid (∀ w', Below wr.heap.size wr w' → Below w.heap.size w w') := Lib.hid (fun w' hb => BB.out _ (B4.out.trans (hb.mono B4.out.size)))
          generalize T.revert = rv at CQ HR0
          go_upto_region 13 with fail
          refine wp_region_held (S := fun w' => Below wr.heap.size wr w') (by kernel_rfl) ?_
          have hS : Below wr.heap.size wr { wr with drawn := wr.drawn + 1 } := (Below.refl _ _).drew
          have hv : wr.heap.size ≤ ({ wr with drawn := wr.drawn + 1 } : World).heap.size := Nat.le_refl _
          generalize ({ wr with drawn := wr.drawn + 1 } : World) = v at hS hv ⊢
          refine Held.take (i := 0) (some 63) rfl (v := ?_) rfl (by kernel_rfl) (by kernel_rfl) (by kernel_rfl) (fun _ _ _ h => h) (Or.inl ⟨by rfl, ?_⟩) hS ?_
          rotate_left
          · intro w' hw'
            go_simp
            try with_reducible rfl
          (try dsimp only [Act.put]); (try simp only [List.setIfInBounds_toArray, List.set_cons_zero, List.set_cons_succ])
          refine Held.take (i := 2) (some 65) rfl (v := ?_) rfl (by kernel_rfl) (by kernel_rfl) (by kernel_rfl) (fun _ _ _ h => h) (Or.inl ⟨by rfl, ?_⟩) hS ?_
          rotate_left
          · intro w' hw'
            go_simp
            try with_reducible rfl
          (try dsimp only [Act.put]); (try simp only [List.setIfInBounds_toArray, List.set_cons_zero, List.set_cons_succ])
          refine Held.take_load (i := 4) (some 67) rfl 31 _ ⟨w.heap.size, 0, none⟩ c _ rfl rfl (by kernel_rfl) (by kernel_rfl) (by kernel_rfl) (fun _ _ _ h => h) (by rfl) hS rfl (fun w' hw' => LS.out w' hw') Tryd.underlying31 rfl IA.out ?_
          (try dsimp only [Act.put]); (try simp only [List.setIfInBounds_toArray, List.set_cons_zero, List.set_cons_succ])
          refine Held.take (i := 6) (some 69) rfl (v := ?_) rfl (by kernel_rfl) (by kernel_rfl) (by kernel_rfl) (fun _ _ _ h => h) (Or.inl ⟨by rfl, ?_⟩) hS ?_
          rotate_left
          · intro w' hw'
            have e1 := CQ.out w' hw'
            go_simp
            try with_reducible rfl
          (try dsimp only [Act.put]); (try simp only [List.setIfInBounds_toArray, List.set_cons_zero, List.set_cons_succ])
          refine Held.take (i := 7) (some 70) rfl (v := ?_) rfl (by kernel_rfl) (by kernel_rfl) (by kernel_rfl) (fun _ _ _ h => h) (Or.inl ⟨by rfl, ?_⟩) hS ?_
          rotate_left
          · intro w' hw'
            have e1 := CQ.out w' hw'
            go_simp
            try with_reducible rfl
          (try dsimp only [Act.put]); (try simp only [List.setIfInBounds_toArray, List.set_cons_zero, List.set_cons_succ])
          refine wpAnyH_ready (rs := [1]) (by kernel_rfl) (by simp) (AllReadyH.cons rfl (fun K hK => ?_) AllReadyH.nil)
          go_simp
          refine (most_row ea ec P3 v (RowOf.below R4.out hS)).mono ?_
          rintro e w' ⟨rfl, hq⟩
          subst w'
          generalize mosts P3 = m3 at HR0 ⊢
          go_simp
          refine hK.out _ _ hS (fun hS => ?_)
          clear hK K
          refine wpAnyH_ready (rs := [3]) (by kernel_rfl) (by simp) (AllReadyH.cons rfl (fun K hK => ?_) AllReadyH.nil)
          go_simp
          refine (most_row fa fc P4 v (RowOf.below H4.out hS)).mono ?_
          rintro e w' ⟨rfl, hq⟩
          subst w'
          generalize mosts P4 = m4 at HR0 ⊢
          go_simp
          refine hK.out _ _ hS (fun hS => ?_)
          clear hK K
          refine wpAnyH_ready (rs := [5]) (by kernel_rfl) (by simp) (AllReadyH.cons rfl (fun K hK => ?_) AllReadyH.nil)
          go_simp
          refine (CC.out v (SB.out v hS)).mono ?_
          rintro e x1 ⟨rfl, hb⟩
          generalize clearS T = cl at HR0 ⊢
          have hS2 := Below.trans hS (hb.mono hv)
          replace hv := Nat.le_trans hv hb.size
          clear hb hS
          go_simp
          refine hK.out _ _ hS2 (fun hS => ?_)
          clear hK K hS2
          refine wpAnyH_ready (rs := [8]) (by kernel_rfl) (by simp) (AllReadyH.cons rfl (fun K hK => ?_) AllReadyH.nil)
          go_simp
          have r1 : Hid (IntRow (x1.alloc (.cells #[I m3, I m4, I cl, I rv, I 30] 3)) ⟨some ⟨x1.heap.size, 0, none⟩, 5⟩ [m3, m4, cl, rv, 30]) := Lib.hid (May.row_new x1 3 [m3, m4, cl, rv, 30] 5 rfl (by decide) _ rfl)
          have hbw : Below x1.heap.size x1 (x1.alloc (.cells #[I m3, I m4, I cl, I rv, I 30] 3)) := (Below.refl _ _).alloc (Nat.le_refl _) _
          have hS2 := hS.alloc hv (.cells #[I m3, I m4, I cl, I rv, I 30] 3)
          replace hv := Nat.le_trans hv hbw.size
          clear hbw hS
          generalize hb0 : x1.heap.size = b2 at r1 ⊢
          clear hb0
          generalize World.alloc x1 (.cells #[I m3, I m4, I cl, I rv, I 30] 3) = x3 at r1 hS2 hv ⊢
          refine hK.out _ _ hS2 (fun hS => ?_)
          clear hK K hS2
          refine wpAnyH_ready (rs := [9]) (by kernel_rfl) (by simp) (AllReadyH.cons rfl (fun K hK => ?_) AllReadyH.nil)
          go_simp
          refine (Clear.sum_len (some ⟨b2, 0, none⟩) 5 [m3, m4, cl, rv, 30] 5 rfl x3 r1.out).mono ?_
          rintro e w' ⟨rfl, hq⟩
          subst w'
          rw [HR0.out]
          go_simp
          refine hK.out _ _ hS (fun hS => ?_)
          clear hK K
          refine Held.take (i := 10) (some 2) rfl (v := ?_) rfl (by kernel_rfl) (by kernel_rfl) (by kernel_rfl) (fun _ _ _ h => h) (Or.inl ⟨by rfl, ?_⟩) hS ?_
          rotate_left
          · intro w' hw'
            go_simp
            try with_reducible rfl
          (try dsimp only [Act.put]); (try simp only [List.setIfInBounds_toArray, List.set_cons_zero, List.set_cons_succ])
          refine wpAnyH_done (by kernel_rfl) ?_ _
          have HF := Lib.hid (SB.out _ hS)
          clear hS
          go_wp2
          go_ret
          exact ⟨rfl, HF.out⟩
end OverS
end Go.Proofs.YtkccepdifgldeaaDoor
