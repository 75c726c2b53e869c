/- Package level: its contracts with the result named; the statements' own awake; what a run of samples does. -/
import Derived.Test.YtolakjdikamffaaRows
import Derived.Test.YtolakjdikamffaaLvl
import Derived.Test.YtolakjdikamffaaRow
import Derived.Test.YtolakjdikamffaaRecs
namespace Go.Proofs.Ytolakjdikamffaa.Lvl
open Go.ChangeShapes Go.WideShapes Go.ChangeAt Go.RowKit
open Tab Flat TabArg Go.Proofs.Fl
open Cnt (more ct)
set_option linter.unusedVariables false
set_option linter.unusedSimpArgs false
theorem step_is {ph mo mf n n' : Int} {on off dl ex x : Nat} {b b' : Bool} (hx : x < 18446744073709551616) (h : stp on off ⟨b, n⟩ x = ⟨b', n'⟩) (w : World) :
    Calls Try.prog 7 #[.agg #[I ph, F on, F off, F dl, F ex, I mo, I mf], .agg #[.bool b, I n], .float .f64 x] w fun e w' => e = .returned (.agg #[.bool b', I n']) ∧ Below w.heap.size w w' := by
  have := step_any ⟨ph, on, off, dl, ex, mo, mf⟩ ⟨b, n⟩ x hx w
  rw [h] at this
  exact this
theorem rstep_is {ph mo mf n n' : Int} {on off dl ex x : Nat} {b b' : Bool} (hx : x < 18446744073709551616) (h : stp on off ⟨b, n⟩ x = ⟨b', n'⟩) (w : World) :
    Calls Try.prog 8 #[.agg #[I ph, F on, F off, F dl, F ex, I mo, I mf], .agg #[.bool b, I n], .float .f64 x] w fun e w' => e = .returned (.agg #[.bool b', I n']) ∧ Below w.heap.size w w' := by
  have := rstep_any ⟨ph, on, off, dl, ex, mo, mf⟩ ⟨b, n⟩ x hx w
  rw [h] at this
  exact this
theorem seen_is {b : Bool} {n : Int} (w : World) : Calls Try.prog 11 #[.agg #[.bool b, I n]] w fun e w' => e = .returned (.bool (seen ⟨b, n⟩)) ∧ Below w.heap.size w w' := seen_any ⟨b, n⟩ w
theorem rseen_is {b : Bool} {n : Int} (w : World) : Calls Try.prog 12 #[.agg #[.bool b, I n]] w fun e w' => e = .returned (.bool (seen ⟨b, n⟩)) ∧ Below w.heap.size w w' := rseen_any ⟨b, n⟩ w
theorem failed_is {b : Bool} {n : Int} (w : World) : Calls Try.prog 9 #[.agg #[.bool b, I n]] w fun e w' => e = .returned (.bool (failed ⟨b, n⟩)) ∧ Below w.heap.size w w' := failed_any ⟨b, n⟩ w
theorem rfailed_is {b : Bool} {n : Int} (w : World) : Calls Try.prog 10 #[.agg #[.bool b, I n]] w fun e w' => e = .returned (.bool (failed ⟨b, n⟩)) ∧ Below w.heap.size w w' := rfailed_any ⟨b, n⟩ w
theorem chain {a b c : World} (h : Below a.heap.size a b) (k : Below b.heap.size b c) : Below a.heap.size a c := h.trans (k.mono h.size)
theorem aw1 : stp 4617315517961601024 4611686018427387904 ⟨false, 0⟩ 4618441417868443648 = ⟨true, 0⟩ := by decide +kernel
theorem aw2 : stp 4617315517961601024 4611686018427387904 ⟨true, 0⟩ 4611686018427387904 = ⟨false, 0⟩ := by decide +kernel
theorem infoD : (Try.prog.info? 24).map (·.size) = some 7 := by kernel_rfl
/-- Behind a call that leaves the old as it was, and behind the making of one block. -/
theorem kept {u u1 : World} {g : Nat} {o : Obj} (h : Below u.heap.size u u1) (hg : u.heap[g]? = some o) : u1.heap[g]? = some o := by
  have : g < u.heap.size := by
    obtain ⟨h, _⟩ := Array.getElem?_eq_some_iff.1 hg
    exact h
  rw [h.block g this, hg]
theorem kept_alloc {u : World} {g : Nat} {o p : Obj} (hg : u.heap[g]? = some o) : (u.alloc p).heap[g]? = some o := by
  have : g < u.heap.size := by
    obtain ⟨h, _⟩ := Array.getElem?_eq_some_iff.1 hg
    exact h
  rw [Below.heap_alloc _ _ _ this, hg]
theorem lt_of {u : World} {g : Nat} {o : Obj} (hg : u.heap[g]? = some o) : g < u.heap.size := by
  obtain ⟨h, _⟩ := Array.getElem?_eq_some_iff.1 hg
  exact h
set_option maxHeartbeats 4000000 in
theorem awake_any (w : World) : Calls Try.prog 13 #[] w fun e w' => e = .returned (.bool true) ∧ Below w.heap.size w w' := by
  have hb : Below w.heap.size w (w.alloc (.cells #[I 0, F 4617315517961601024, F 4611686018427387904, F 0, F 0, I 0, I 0] 24)) := (Below.refl _ _).alloc (Nat.le_refl _) _
  have hs := heap_alloc_new w (.cells #[I 0, F 4617315517961601024, F 4611686018427387904, F 0, F 0, I 0, I 0] 24)
  go_enter Try.func13, Try.ntmps13
  go_upto_region 2 with (refine Row.wpList_store_new rfl 24 _ _ rfl w #[I 0, F 0, F 0, F 0, F 0, I 0, I 0] #[I 0, F 4617315517961601024, F 4611686018427387904, F 0, F 0, I 0, I 0] rfl rfl rfl infoD rfl (by simp [Value.oneCell']) ?_)
  generalize World.alloc w _ = u at hb hs ⊢
  have HB := Lib.hid hb
  have HS := Lib.hid hs
  clear hb hs
  have k0 : u.cell? ⟨w.heap.size, 0, none⟩ = some (I 0) := by rw [cell_of_row _ _ _ _ _ _ HS.out]; rfl
  have k1 : u.cell? ⟨w.heap.size, 1, none⟩ = some (F 4617315517961601024) := by rw [cell_of_row _ _ _ _ _ _ HS.out]; rfl
  have k2 : u.cell? ⟨w.heap.size, 2, none⟩ = some (F 4611686018427387904) := by rw [cell_of_row _ _ _ _ _ _ HS.out]; rfl
  have k3 : u.cell? ⟨w.heap.size, 3, none⟩ = some (F 0) := by rw [cell_of_row _ _ _ _ _ _ HS.out]; rfl
  have k4 : u.cell? ⟨w.heap.size, 4, none⟩ = some (F 0) := by rw [cell_of_row _ _ _ _ _ _ HS.out]; rfl
  have k5 : u.cell? ⟨w.heap.size, 5, none⟩ = some (I 0) := by rw [cell_of_row _ _ _ _ _ _ HS.out]; rfl
  have k6 : u.cell? ⟨w.heap.size, 6, none⟩ = some (I 0) := by rw [cell_of_row _ _ _ _ _ _ HS.out]; rfl
  go_wp2_with fail
  refine (step_is (by decide) aw1 _).mono ?_
  rintro e u1 ⟨rfl, b1⟩
  clear k0 k1 k2 k3 k4 k5 k6
  go_upto_region 3 with fail
  have hd : (u1.alloc (.cells #[.bool true, I 0] 26)).heap[w.heap.size]? = some _ := kept_alloc (kept b1 HS.out)
  have hl := heap_alloc_new u1 (.cells #[.bool true, I 0] 26)
  have hb : Below w.heap.size w (u1.alloc (.cells #[.bool true, I 0] 26)) := (HB.out.trans (b1.mono HB.out.size)).alloc (Nat.le_trans HB.out.size b1.size) _
  generalize World.alloc u1 _ = u2 at hd hl hb ⊢
  generalize u1.heap.size = g at hl ⊢
  clear HB HS b1
  have HB := Lib.hid hb
  have HS := Lib.hid hd
  have HL := Lib.hid hl
  clear hb hd hl
  have l0 : u2.cell? ⟨g, 0, none⟩ = some (.bool true) := by rw [cell_of_row _ _ _ _ _ _ HL.out]; rfl
  have l1 : u2.cell? ⟨g, 1, none⟩ = some (I 0) := by rw [cell_of_row _ _ _ _ _ _ HL.out]; rfl
  go_wp2_with fail
  refine (seen_is _).mono ?_
  rintro e u3 ⟨rfl, b3⟩
  rw [show seen ⟨true, 0⟩ = true from rfl]
  have hd := kept b3 HS.out
  have hl := kept b3 HL.out
  have hb := HB.out.trans (b3.mono HB.out.size)
  clear l0 l1 HB HS HL b3
  have HB := Lib.hid hb
  have HS := Lib.hid hd
  have HL := Lib.hid hl
  clear hb hd hl
  have k0 : u3.cell? ⟨w.heap.size, 0, none⟩ = some (I 0) := by rw [cell_of_row _ _ _ _ _ _ HS.out]; rfl
  have k1 : u3.cell? ⟨w.heap.size, 1, none⟩ = some (F 4617315517961601024) := by rw [cell_of_row _ _ _ _ _ _ HS.out]; rfl
  have k2 : u3.cell? ⟨w.heap.size, 2, none⟩ = some (F 4611686018427387904) := by rw [cell_of_row _ _ _ _ _ _ HS.out]; rfl
  have k3 : u3.cell? ⟨w.heap.size, 3, none⟩ = some (F 0) := by rw [cell_of_row _ _ _ _ _ _ HS.out]; rfl
  have k4 : u3.cell? ⟨w.heap.size, 4, none⟩ = some (F 0) := by rw [cell_of_row _ _ _ _ _ _ HS.out]; rfl
  have k5 : u3.cell? ⟨w.heap.size, 5, none⟩ = some (I 0) := by rw [cell_of_row _ _ _ _ _ _ HS.out]; rfl
  have k6 : u3.cell? ⟨w.heap.size, 6, none⟩ = some (I 0) := by rw [cell_of_row _ _ _ _ _ _ HS.out]; rfl
  have l0 : u3.cell? ⟨g, 0, none⟩ = some (.bool true) := by rw [cell_of_row _ _ _ _ _ _ HL.out]; rfl
  have l1 : u3.cell? ⟨g, 1, none⟩ = some (I 0) := by rw [cell_of_row _ _ _ _ _ _ HL.out]; rfl
  go_wp2_with fail
  refine (step_is (by decide) aw2 _).mono ?_
  rintro e u4 ⟨rfl, b4⟩
  go_wp2_with fail
  refine (seen_is _).mono ?_
  rintro e u5 ⟨rfl, b5⟩
  rw [show seen ⟨false, 0⟩ = false from rfl]
  go_wp2_with fail
  refine (failed_is _).mono ?_
  rintro e u6 ⟨rfl, b6⟩
  rw [show failed ⟨false, 3⟩ = true from rfl]
  go_wp2
  go_ret
  exact ⟨rfl, HB.out.trans ((chain b4 (chain b5 b6)).mono HB.out.size)⟩
/-! two boxes at the start -/
structure B2 (w u : World) (dc sc : Array Value) : Prop where
  d : u.heap[w.heap.size]? = some (.cells dc 24 (0, 0))
  s : u.heap[w.heap.size + 1]? = some (.cells sc 26 (0, 0))
  bel : Below w.heap.size w u
theorem b2 (w : World) (dc sc : Array Value) : B2 w ((w.alloc (.cells dc 24)).alloc (.cells sc 26)) dc sc := by
  have s1 : (w.alloc (.cells dc 24)).heap.size = w.heap.size + 1 := by simp
  have n1 := heap_alloc_new w (.cells dc 24)
  have n2 := heap_alloc_new (w.alloc (.cells dc 24)) (.cells sc 26)
  rw [s1] at n2
  refine ⟨?_, n2, ((Below.refl _ _).alloc (Nat.le_refl _) _).alloc (by simp) _⟩
  rw [Below.heap_alloc _ _ _ (by rw [s1]; omega)]; exact n1
theorem B2.below {w u u1 : World} {dc sc : Array Value} (h : B2 w u dc sc) (hb : Below u.heap.size u u1) : B2 w u1 dc sc := ⟨kept hb h.d, kept hb h.s, h.bel.trans (hb.mono h.bel.size)⟩
theorem B2.alloc {w u : World} {dc sc : Array Value} (h : B2 w u dc sc) (o : Obj) : B2 w (u.alloc o) dc sc := ⟨kept_alloc h.d, kept_alloc h.s, h.bel.alloc h.bel.size _⟩
/-! samples that came in -/
theorem flts_at {w : World} {a : Option Addr} {len cap : Nat} {Z : Nat → Nat} (h : Recs.IsFlts w a len cap Z) : ∃ x : Addr, (∀ q, q < len → a = some x ∧ w.cell? (x.add q) = some (.float .f64 (Z q)) ∧ Z q < 18446744073709551616) ∧ len ≤ cap ∧ cap ≤ maxLen := by
  rcases h with ⟨rfl, rfl, rfl⟩ | ⟨x, rfl, h1, h2, h3⟩
  · exact ⟨⟨0, 0, none⟩, fun q hq => by omega, Nat.le_refl _, Nat.zero_le _⟩
  · exact ⟨x, fun q hq => ⟨rfl, (h3 q hq).1, by simpa [Lit.wf] using (h3 q hq).2⟩, h1, h2⟩
theorem at_below {w u : World} {a : Addr} {v : Value} (h : w.cell? a = some v) (hb : Below w.heap.size w u) : u.cell? a = some v := by
  have := Lies.below (cs := [v]) (x := a) (fun j v' hv => by
    cases j with
    | zero => obtain rfl := Option.some.inj hv; rw [Tab.add_zero]; exact h
    | succ j => simp at hv) hb 0 v rfl
  rwa [Tab.add_zero] at this
/-! what a comparison tells -/
theorem ord_some {x y : Nat} {o : Ordering} (h : FloatKind.f64.format.order x y = some o) : isn x = false ∧ isn y = false := by
  cases hx : isn x
  · cases hy : isn y
    · exact ⟨rfl, rfl⟩
    · rw [Secs.ord_nan x y (.inr hy)] at h; cases h
  · rw [Secs.ord_nan x y (.inl hx)] at h; cases h
theorem ord_lt {x y : Nat} (h : FloatKind.f64.format.order x y = some .lt) : isn x = false ∧ isn y = false ∧ key x < key y := by
  obtain ⟨hx, hy⟩ := ord_some h
  rcases Secs.ord_cases x y hx hy with ⟨a, b⟩ | ⟨a, b⟩ | ⟨a, b⟩
  · exact ⟨hx, hy, a⟩
  · rw [h] at b; cases b
  · rw [h] at b; cases b
theorem ord_eq {x y : Nat} (h : FloatKind.f64.format.order x y = some .eq) : isn x = false ∧ isn y = false ∧ key x = key y := by
  obtain ⟨hx, hy⟩ := ord_some h
  rcases Secs.ord_cases x y hx hy with ⟨a, b⟩ | ⟨a, b⟩ | ⟨a, b⟩
  · rw [h] at b; cases b
  · exact ⟨hx, hy, a⟩
  · rw [h] at b; cases b
theorem ord_gt {x y : Nat} (h : FloatKind.f64.format.order x y = some .gt) : isn x = false ∧ isn y = false ∧ key y < key x := by
  obtain ⟨hx, hy⟩ := ord_some h
  rcases Secs.ord_cases x y hx hy with ⟨a, b⟩ | ⟨a, b⟩ | ⟨a, b⟩
  · rw [h] at b; cases b
  · rw [h] at b; cases b
  · exact ⟨hx, hy, a⟩
theorem ge_key {x y : Nat} (hx : isn x = false) (hy : isn y = false) : ge x y = decide (key y ≤ key x) := by
  unfold ge
  rcases Secs.ord_cases x y hx hy with ⟨a, b⟩ | ⟨a, b⟩ | ⟨a, b⟩ <;> rw [b] <;> simp <;> omega
theorem le_key {x y : Nat} (hx : isn x = false) (hy : isn y = false) : le x y = decide (key x ≤ key y) := by
  unfold le
  rcases Secs.ord_cases x y hx hy with ⟨a, b⟩ | ⟨a, b⟩ | ⟨a, b⟩ <;> rw [b] <;> simp <;> omega
theorem bad_in {x : Nat} (hx : isn x = false) (h0 : -4696837146684686336 ≤ key x) (h1 : key x ≤ 4696837146684686336) : bad x = false := by
  unfold bad
  rw [hx]
  simp
  omega
/-- A good sample, by the keys. -/
theorem stp_key {on off x : Nat} {s : Lv} (hx : isn x = false) (h0 : -4696837146684686336 ≤ key x) (h1 : key x ≤ 4696837146684686336) (hn : isn on = false) (hf : isn off = false) :
    stp on off s x = if key on ≤ key x then ⟨true, 0⟩ else if key x ≤ key off then ⟨false, 0⟩ else ⟨s.on, 0⟩ := by
  unfold stp
  rw [bad_in hx h0 h1, ge_key hx hn, le_key hx hf]
  simp
theorem key0 : key 0 = 0 := by decide
theorem key1000 : key 4652007308841189376 = 4652007308841189376 := by decide
theorem rnan_any (x : Nat) (w : World) : Calls Try.prog 15 #[.float .f64 x] w fun e w' => e = .returned (.bool (isn x)) ∧ w = w' := by
  go_enter Try.func15, Try.ntmps15
  go_wp2
  go_ret
  exact ⟨Secs.ret_bool (Secs.o_ne_self x), rfl⟩
theorem rnan_t {x : Nat} (h : isn x = true) (w : World) : Calls Try.prog 15 #[.float .f64 x] w fun e w' => e = .returned (.bool true) ∧ w = w' :=
  (rnan_any x w).mono fun _ _ ⟨a, b⟩ => ⟨by rw [a, h], b⟩
theorem rnan_f {x : Nat} (h : isn x = false) (w : World) : Calls Try.prog 15 #[.float .f64 x] w fun e w' => e = .returned (.bool false) ∧ w = w' :=
  (rnan_any x w).mono fun _ _ ⟨a, b⟩ => ⟨by rw [a, h], b⟩
theorem isn5 : isn 4617315517961601024 = false := by decide
theorem isn2 : isn 4611686018427387904 = false := by decide
theorem key5 : key 4617315517961601024 = 4617315517961601024 := by decide
theorem key2 : key 4611686018427387904 = 4611686018427387904 := by decide
theorem key10 : key 4621819117588971520 = 4621819117588971520 := by decide
theorem keym10 : key 13845191154443747328 = -4621819117588971520 := by decide
theorem stp_bad {on off x : Nat} {s : Lv} (h : bad x = true) : stp on off s x = ⟨s.on, more s.bad⟩ := by unfold stp; rw [if_pos h]
theorem stp_good {on off x : Nat} {s : Lv} (h : bad x = false) : (stp on off s x).bad = 0 := by
  unfold stp
  rw [if_neg (by rw [h]; simp)]
  split
  · rfl
  · split <;> rfl
end Go.Proofs.Ytolakjdikamffaa.Lvl
