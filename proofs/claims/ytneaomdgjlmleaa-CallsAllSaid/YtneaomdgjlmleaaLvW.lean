/- Package level: its contracts with the result named; the statements' own awake; what a run of samples does. -/
import Derived.Test.YtneaomdgjlmleaaRows
import Derived.Test.YtneaomdgjlmleaaLvl
import Derived.Test.YtneaomdgjlmleaaRow
import Derived.Test.YtneaomdgjlmleaaRecs
namespace Go.Proofs.Ytneaomdgjlmleaa.Lvl
open Go.ChangeShapes Go.WideShapes Go.ChangeAt Go.RowKit
open Tab Flat TabArg Go.Proofs.Fl
open Cnt (more ct)
set_option linter.unusedVariables false
set_option linter.unusedSimpArgs false
theorem step_is {ph mo mf n n' : Int} {on off dl ex x : Nat} {b b' : Bool} (hx : x < 18446744073709551616) (h : stp on off ⟨b, n⟩ x = ⟨b', n'⟩) (w : World) :
    Calls Try.prog 73 #[.agg #[I ph, F on, F off, F dl, F ex, I mo, I mf], .agg #[.bool b, I n], .float .f64 x] w fun e w' => e = .returned (.agg #[.bool b', I n']) ∧ Below w.heap.size w w' := by
  have := step_any ⟨ph, on, off, dl, ex, mo, mf⟩ ⟨b, n⟩ x hx w
  rw [h] at this
  exact this
theorem rstep_is {ph mo mf n n' : Int} {on off dl ex x : Nat} {b b' : Bool} (hx : x < 18446744073709551616) (h : stp on off ⟨b, n⟩ x = ⟨b', n'⟩) (w : World) :
    Calls Try.prog 54 #[.agg #[I ph, F on, F off, F dl, F ex, I mo, I mf], .agg #[.bool b, I n], .float .f64 x] w fun e w' => e = .returned (.agg #[.bool b', I n']) ∧ Below w.heap.size w w' := by
  have := rstep_any ⟨ph, on, off, dl, ex, mo, mf⟩ ⟨b, n⟩ x hx w
  rw [h] at this
  exact this
theorem seen_is {b : Bool} {n : Int} (w : World) : Calls Try.prog 74 #[.agg #[.bool b, I n]] w fun e w' => e = .returned (.bool (seen ⟨b, n⟩)) ∧ Below w.heap.size w w' := seen_any ⟨b, n⟩ w
theorem rseen_is {b : Bool} {n : Int} (w : World) : Calls Try.prog 56 #[.agg #[.bool b, I n]] w fun e w' => e = .returned (.bool (seen ⟨b, n⟩)) ∧ Below w.heap.size w w' := rseen_any ⟨b, n⟩ w
theorem failed_is {b : Bool} {n : Int} (w : World) : Calls Try.prog 81 #[.agg #[.bool b, I n]] w fun e w' => e = .returned (.bool (failed ⟨b, n⟩)) ∧ Below w.heap.size w w' := failed_any ⟨b, n⟩ w
theorem rfailed_is {b : Bool} {n : Int} (w : World) : Calls Try.prog 60 #[.agg #[.bool b, I n]] w fun e w' => e = .returned (.bool (failed ⟨b, n⟩)) ∧ Below w.heap.size w w' := rfailed_any ⟨b, n⟩ w
theorem chain {a b c : World} (h : Below a.heap.size a b) (k : Below b.heap.size b c) : Below a.heap.size a c := h.trans (k.mono h.size)
theorem aw1 : stp 4617315517961601024 4611686018427387904 ⟨false, 0⟩ 4618441417868443648 = ⟨true, 0⟩ := by decide +kernel
theorem aw2 : stp 4617315517961601024 4611686018427387904 ⟨true, 0⟩ 4611686018427387904 = ⟨false, 0⟩ := by decide +kernel
theorem infoD : (Try.prog.info? 65).map (·.size) = some 7 := by kernel_rfl
/-- Behind a call that leaves the old as it was, and behind the making of one block. -/
theorem kept {u u1 : World} {g : Nat} {o : Obj} (h : Below u.heap.size u u1) (hg : u.heap[g]? = some o) : u1.heap[g]? = some o := by
  have : g < u.heap.size := by
    obtain ⟨h, _⟩ := Array.getElem?_eq_some_iff.1 hg
    exact h
  rw [h.block g this, hg]
theorem kept_alloc {u : World} {g : Nat} {o p : Obj} (hg : u.heap[g]? = some o) : (u.alloc p).heap[g]? = some o := by
  have : g < u.heap.size := by
    obtain ⟨h, _⟩ := Array.getElem?_eq_some_iff.1 hg
    exact h
  rw [Below.heap_alloc _ _ _ this, hg]
theorem lt_of {u : World} {g : Nat} {o : Obj} (hg : u.heap[g]? = some o) : g < u.heap.size := by
  obtain ⟨h, _⟩ := Array.getElem?_eq_some_iff.1 hg
  exact h
/-! two boxes at the start -/
structure B2 (w u : World) (dc sc : Array Value) : Prop where
  d : u.heap[w.heap.size]? = some (.cells dc 65 (0, 0))
  s : u.heap[w.heap.size + 1]? = some (.cells sc 69 (0, 0))
  bel : Below w.heap.size w u
theorem b2 (w : World) (dc sc : Array Value) : B2 w ((w.alloc (.cells dc 65)).alloc (.cells sc 69)) dc sc := by
  have s1 : (w.alloc (.cells dc 65)).heap.size = w.heap.size + 1 := by simp
  have n1 := heap_alloc_new w (.cells dc 65)
  have n2 := heap_alloc_new (w.alloc (.cells dc 65)) (.cells sc 69)
  rw [s1] at n2
  refine ⟨?_, n2, ((Below.refl _ _).alloc (Nat.le_refl _) _).alloc (by simp) _⟩
  rw [Below.heap_alloc _ _ _ (by rw [s1]; omega)]; exact n1
theorem B2.below {w u u1 : World} {dc sc : Array Value} (h : B2 w u dc sc) (hb : Below u.heap.size u u1) : B2 w u1 dc sc := ⟨kept hb h.d, kept hb h.s, h.bel.trans (hb.mono h.bel.size)⟩
theorem B2.alloc {w u : World} {dc sc : Array Value} (h : B2 w u dc sc) (o : Obj) : B2 w (u.alloc o) dc sc := ⟨kept_alloc h.d, kept_alloc h.s, h.bel.alloc h.bel.size _⟩
/-! samples that came in -/
theorem flts_at {w : World} {a : Option Addr} {len cap : Nat} {Z : Nat → Nat} (h : Recs.IsFlts w a len cap Z) : ∃ x : Addr, (∀ q, q < len → a = some x ∧ w.cell? (x.add q) = some (.float .f64 (Z q)) ∧ Z q < 18446744073709551616) ∧ len ≤ cap ∧ cap ≤ maxLen := by
  rcases h with ⟨rfl, rfl, rfl⟩ | ⟨x, rfl, h1, h2, h3⟩
  · exact ⟨⟨0, 0, none⟩, fun q hq => by omega, Nat.le_refl _, Nat.zero_le _⟩
  · exact ⟨x, fun q hq => ⟨rfl, (h3 q hq).1, by simpa [Lit.wf] using (h3 q hq).2⟩, h1, h2⟩
theorem at_below {w u : World} {a : Addr} {v : Value} (h : w.cell? a = some v) (hb : Below w.heap.size w u) : u.cell? a = some v := by
  have := Lies.below (cs := [v]) (x := a) (fun j v' hv => by
    cases j with
    | zero => obtain rfl := Option.some.inj hv; rw [Tab.add_zero]; exact h
    | succ j => simp at hv) hb 0 v rfl
  rwa [Tab.add_zero] at this
/-! what a comparison tells -/
theorem ord_some {x y : Nat} {o : Ordering} (h : FloatKind.f64.format.order x y = some o) : isn x = false ∧ isn y = false := by
  cases hx : isn x
  · cases hy : isn y
    · exact ⟨rfl, rfl⟩
    · rw [Secs.ord_nan x y (.inr hy)] at h; cases h
  · rw [Secs.ord_nan x y (.inl hx)] at h; cases h
theorem ord_lt {x y : Nat} (h : FloatKind.f64.format.order x y = some .lt) : isn x = false ∧ isn y = false ∧ key x < key y := by
  obtain ⟨hx, hy⟩ := ord_some h
  rcases Secs.ord_cases x y hx hy with ⟨a, b⟩ | ⟨a, b⟩ | ⟨a, b⟩
  · exact ⟨hx, hy, a⟩
  · rw [h] at b; cases b
  · rw [h] at b; cases b
theorem ord_eq {x y : Nat} (h : FloatKind.f64.format.order x y = some .eq) : isn x = false ∧ isn y = false ∧ key x = key y := by
  obtain ⟨hx, hy⟩ := ord_some h
  rcases Secs.ord_cases x y hx hy with ⟨a, b⟩ | ⟨a, b⟩ | ⟨a, b⟩
  · rw [h] at b; cases b
  · exact ⟨hx, hy, a⟩
  · rw [h] at b; cases b
theorem ord_gt {x y : Nat} (h : FloatKind.f64.format.order x y = some .gt) : isn x = false ∧ isn y = false ∧ key y < key x := by
  obtain ⟨hx, hy⟩ := ord_some h
  rcases Secs.ord_cases x y hx hy with ⟨a, b⟩ | ⟨a, b⟩ | ⟨a, b⟩
  · rw [h] at b; cases b
  · rw [h] at b; cases b
  · exact ⟨hx, hy, a⟩
theorem ge_key {x y : Nat} (hx : isn x = false) (hy : isn y = false) : ge x y = decide (key y ≤ key x) := by
  unfold ge
  rcases Secs.ord_cases x y hx hy with ⟨a, b⟩ | ⟨a, b⟩ | ⟨a, b⟩ <;> rw [b] <;> simp <;> omega
theorem le_key {x y : Nat} (hx : isn x = false) (hy : isn y = false) : le x y = decide (key x ≤ key y) := by
  unfold le
  rcases Secs.ord_cases x y hx hy with ⟨a, b⟩ | ⟨a, b⟩ | ⟨a, b⟩ <;> rw [b] <;> simp <;> omega
theorem bad_in {x : Nat} (hx : isn x = false) (h0 : -4696837146684686336 ≤ key x) (h1 : key x ≤ 4696837146684686336) : bad x = false := by
  unfold bad
  rw [hx]
  simp
  omega
/-- A good sample, by the keys. -/
theorem stp_key {on off x : Nat} {s : Lv} (hx : isn x = false) (h0 : -4696837146684686336 ≤ key x) (h1 : key x ≤ 4696837146684686336) (hn : isn on = false) (hf : isn off = false) :
    stp on off s x = if key on ≤ key x then ⟨true, 0⟩ else if key x ≤ key off then ⟨false, 0⟩ else ⟨s.on, 0⟩ := by
  unfold stp
  rw [bad_in hx h0 h1, ge_key hx hn, le_key hx hf]
  simp
theorem key0 : key 0 = 0 := by decide
theorem key1000 : key 4652007308841189376 = 4652007308841189376 := by decide
theorem isn5 : isn 4617315517961601024 = false := by decide
theorem isn2 : isn 4611686018427387904 = false := by decide
theorem key5 : key 4617315517961601024 = 4617315517961601024 := by decide
theorem key2 : key 4611686018427387904 = 4611686018427387904 := by decide
theorem key10 : key 4621819117588971520 = 4621819117588971520 := by decide
theorem keym10 : key 13845191154443747328 = -4621819117588971520 := by decide
theorem stp_bad {on off x : Nat} {s : Lv} (h : bad x = true) : stp on off s x = ⟨s.on, more s.bad⟩ := by unfold stp; rw [if_pos h]
theorem stp_good {on off x : Nat} {s : Lv} (h : bad x = false) : (stp on off s x).bad = 0 := by
  unfold stp
  rw [if_neg (by rw [h]; simp)]
  split
  · rfl
  · split <;> rfl
end Go.Proofs.Ytneaomdgjlmleaa.Lvl
