/- The Reader: what its block holds; bytes.Clone, wire.New, and the methods At, Left and Fault. -/
import Derived.Test.YtmffgdgnaafbpaaPut
import Derived.Defers
import Derived.Recover
import Derived.Laws.Pointers
namespace Go.Proofs.Ytmffgdgnaafbpaa.Rd
open Go.ChangeShapes Go.WideShapes Go.ChangeAt Go.RowKit
open B Put
set_option linter.unusedVariables false

/-- All that was there, block g aside, is as it was. -/
structure But (g : Nat) (w w' : World) : Prop where
  os : w'.os = w.os
  tape : w'.tape = w.tape
  output : w'.output = w.output
  size : w.heap.size ≤ w'.heap.size
  block : ∀ k, k < w.heap.size → k ≠ g → w'.heap[k]? = w.heap[k]?
theorem But.refl (g : Nat) (w : World) : But g w w := ⟨rfl, rfl, rfl, Nat.le_refl _, fun _ _ _ => rfl⟩
theorem But.trans {g : Nat} {a b c : World} (h : But g a b) (k : But g b c) : But g a c :=
  ⟨k.os.trans h.os, k.tape.trans h.tape, k.output.trans h.output, Nat.le_trans h.size k.size, fun i hi hg => (k.block i (Nat.lt_of_lt_of_le hi h.size) hg).trans (h.block i hi hg)⟩
theorem But.of {g : Nat} {w w' : World} (h : Below w.heap.size w w') : But g w w' := ⟨h.os, h.tape, h.output, h.size, fun k hk _ => h.block k hk⟩
theorem But.below {g B : Nat} {w w' : World} (h : But g w w') (hB : B ≤ w.heap.size) (hg : B ≤ g) : Below B w w' := ⟨h.os, h.tape, h.output, h.size, fun k hk => h.block k (by omega) (by omega)⟩
theorem But.set (g i : Nat) (w : World) (v : Value) : But g w (w.setCell ⟨g, i, none⟩ v) :=
  ⟨rfl, rfl, rfl, by simp [World.setCell], fun k _ hk => Below.heap_setCell _ _ _ _ hk⟩
theorem But.cell {g : Nat} {w w' : World} (h : But g w w') {p : Addr} (hp : p.block < w.heap.size) (hg : p.block ≠ g) : w'.cell? p = w.cell? p := World.cell?_of_block (w := w) (h.block p.block hp hg)
theorem But.row {g : Nat} {w w' : World} (h : But g w w') {ad : Option Addr} {l : List Nat} (hr : Row w ad l) (hg : l ≠ [] → ∀ x, ad = some x → x.block ≠ g) : Row w' ad l := by
  refine ⟨hr.1, hr.2.1, ?_⟩
  by_cases hl : l = []
  · exact .inl hl
  replace hg := hg hl
  rcases hr.2.2 with h1 | ⟨x, hx, hc⟩
  · exact .inl h1
  · refine .inr ⟨x, hx, fun i hi => ?_⟩
    have hlt := World.block_lt_of_cell? w _ (hc i hi)
    refine (h.cell hlt ?_).trans (hc i hi)
    have := hg x hx
    unfold Addr.add
    split <;> exact this

/-- A Reader of the bytes l in block g: how many have been read, the Fault. -/
structure Rd (w : World) (g : Nat) (ad : Option Addr) (cap : Nat) (l : List Nat) (k : Nat) (code fat : Int) : Prop where
  lt : g < w.heap.size
  row : Row w ad l
  off : l ≠ [] → ∀ x, ad = some x → x.block ≠ g
  c0 : w.cell? ⟨g, 0, none⟩ = some (.slice ad l.length cap)
  c1 : w.cell? ⟨g, 1, none⟩ = some (.int .i64 k)
  c2 : w.cell? ⟨g, 2, none⟩ = some (.int .i64 code)
  c3 : w.cell? ⟨g, 3, none⟩ = some (.int .i64 fat)
  fz : ∀ i, w.frozen? ⟨g, i, none⟩ = false
  cap_le : l.length ≤ cap
theorem Rd.but {w w' : World} {g g' : Nat} {ad : Option Addr} {cap : Nat} {l : List Nat} {k : Nat} {code fat : Int} (h : Rd w g ad cap l k code fat) (hb : But g' w w') (hg : g ≠ g') (hx : l ≠ [] → ∀ x, ad = some x → x.block ≠ g') : Rd w' g ad cap l k code fat :=
  ⟨Nat.lt_of_lt_of_le h.lt hb.size, hb.row h.row hx, h.off, (hb.cell h.lt hg).trans h.c0, (hb.cell h.lt hg).trans h.c1, (hb.cell h.lt hg).trans h.c2, (hb.cell h.lt hg).trans h.c3,
    fun i => (World.frozen?_of_block (w := w) (hb.block g h.lt hg)).trans (h.fz i), h.cap_le⟩
theorem Rd.below {w w' : World} {g : Nat} {ad : Option Addr} {cap : Nat} {l : List Nat} {k : Nat} {code fat : Int} (h : Rd w g ad cap l k code fat) (hb : Below w.heap.size w w') : Rd w' g ad cap l k code fat :=
  ⟨Nat.lt_of_lt_of_le h.lt hb.size, h.row.below hb, h.off, (hb.cell h.lt).trans h.c0, (hb.cell h.lt).trans h.c1, (hb.cell h.lt).trans h.c2, (hb.cell h.lt).trans h.c3,
    fun i => (hb.frozen (p := ⟨g, i, none⟩) h.lt).trans (h.fz i), h.cap_le⟩

set_option maxHeartbeats 1000000 in
theorem clone_any (ad : Option Addr) (cap : Nat) (l : List Nat) (w : World) (hr : Row w ad l) (hl : l.length ≤ 10000) (hnil : ad = none → cap = 0) :
    Calls Try.prog 28 #[.slice ad l.length cap] w fun e w' => ∃ v, e = .returned v ∧ Own w.heap.size w' v l ∧ Below w.heap.size w w' := by
  have Hr := Lib.hid hr
  clear hr
  cases ad with
  | none =>
    have h0 := hnil rfl
    subst h0
    have hl0 : l = [] := by
      rcases Hr.out.2.2 with h | ⟨x, hx, _⟩
      · exact h
      · cases hx
    subst hl0
    have he : ∀ w : World, (binOp .eql 22 (.slice none 0 0) (.slice none 0 0)).run Try.prog w = .ok (.bool true) w := fun _ => rfl
    go_enter Try.func28, Try.ntmps28
    go_wp2
    go_ret
    exact ⟨_, rfl, own_nil _ _, Below.refl _ _⟩
  | some x =>
    clear hnil
    have he : ∀ (w : World) (n : Nat), (binOp .eql 22 (.slice (some x) n cap) (.slice none 0 0)).run Try.prog w = .ok (.bool false) w := fun _ _ => rfl
    go_enter Try.func28, Try.ntmps28
    have hown : Own w.heap.size (w.alloc (.cells #[] 5)) (.slice (some ⟨w.heap.size, 0, none⟩) 0 0) [] :=
      ⟨rfl, .inr ⟨w.heap.size, 0, #[], rfl, Nat.le_refl _, heap_alloc_new w _, Nat.le_refl _, by unfold maxLen; omega, rfl, rfl⟩⟩
    have Hown := Lib.hid hown
    clear hown
    go_wp2_with (at_builtin; refine wpList_more rfl _ _ rfl w.heap.size _ [] rfl Hown.out x cap l rfl (Hr.out.below ((Below.refl _ _).alloc (Nat.le_refl _) _)) ?hB ?len ?_)
    case hB => simp
    case len => simp; omega
    intro v w' hown' hb
    have hgo : Below w.heap.size w w' := ((Below.refl _ _).alloc (Nat.le_refl _) _).trans hb
    have Hown' := Lib.hid hown'
    clear hown'
    go_wp2
    go_ret
    exact ⟨_, rfl, Hown'.out, hgo⟩

set_option maxHeartbeats 1000000 in
theorem new_any (ad : Option Addr) (cap : Nat) (l : List Nat) (w : World) (hr : Row w ad l) (hl : l.length ≤ 10000) (hnil : ad = none → cap = 0) :
    Calls Try.prog 13 #[.slice ad l.length cap] w fun e w' => ∃ g ad' cap', e = .returned (.pointer (some ⟨g, 0, none⟩)) ∧ w.heap.size ≤ g ∧ (∀ x, ad' = some x → w.heap.size ≤ x.block ∧ x.block < g) ∧ Rd w' g ad' cap' l 0 0 0 ∧ Below w.heap.size w w' := by
  have Hr := Lib.hid hr
  clear hr
  go_enter Try.func13, Try.ntmps13
  go_wp2_with fail
  refine (clone_any ad cap l _ Hr.out hl hnil).mono ?_
  rintro e w1 ⟨v, rfl, hown, hbel⟩
  obtain ⟨a1, cap1, rfl, hr1⟩ := own_row hown Hr.out.2.1
  have Hown := Lib.hid hown
  have Hr1 := Lib.hid hr1
  clear hown hr1 hnil
  go_wp2
  go_ret
  refine ⟨w1.heap.size, a1, cap1, rfl, hbel.size, ?_, ?_, hbel.alloc hbel.size _⟩
  · intro x hx
    subst hx
    exact Hown.out.lt x.block rfl
  · refine ⟨by simp, Hr1.out.below ((Below.refl _ _).alloc (Nat.le_refl _) _), fun _ x hx e => ?_, by simp, by simp, by simp, by simp, fun i => by unfold World.frozen?; rw [heap_alloc_new]; simp, ?_⟩
    · subst hx
      have := (Hown.out.lt x.block rfl).2
      omega
    · have h := Hown.out
      rcases h.2 with ⟨h1, h2⟩ | ⟨g', c', cur, h1, h2, h3, h4, h5⟩
      · omega
      · cases h1; exact h4

theorem left_any (g : Nat) (ad : Option Addr) (cap : Nat) (l : List Nat) (k : Nat) (code fat : Int) (w : World) (h : Rd w g ad cap l k code fat) (hl : l.length ≤ 10000) (hk : k ≤ l.length) :
    Calls Try.prog 22 #[.pointer (some ⟨g, 0, none⟩)] w fun e w' => e = .returned (.int .i64 (l.length - k : Int)) ∧ ∃ n, w' = w.drewN n := by
  have h0 := h.c0
  have h1 := h.c1
  clear h
  go_enter Try.func22, Try.ntmps22
  go_wp2
  go_quiet (fail)
  go_wp2
  go_ret
  exact ⟨rfl, _, rfl⟩
theorem at_any (g : Nat) (ad : Option Addr) (cap : Nat) (l : List Nat) (k : Nat) (code fat : Int) (w : World) (h : Rd w g ad cap l k code fat) :
    Calls Try.prog 21 #[.pointer (some ⟨g, 0, none⟩)] w fun e w' => e = .returned (.int .i64 k) ∧ w = w' := by
  have h1 := h.c1
  clear h
  go_enter Try.func21, Try.ntmps21
  go_wp2
  go_ret
  exact ⟨rfl, rfl⟩
theorem fault_any (g : Nat) (ad : Option Addr) (cap : Nat) (l : List Nat) (k : Nat) (code fat : Int) (w : World) (h : Rd w g ad cap l k code fat) :
    Calls Try.prog 23 #[.pointer (some ⟨g, 0, none⟩)] w fun e w' => e = .returned (.agg #[.int .i64 code, .int .i64 fat]) ∧ Below w.heap.size w w' := by
  have h2 := h.c2
  have h3 := h.c3
  have hg := h.lt
  clear h
  go_enter Try.func23, Try.ntmps23
  go_wp2
  refine bodyPost_ret (v := .agg #[.int .i64 code, .int .i64 fat]) ?_ rfl ⟨rfl, (Below.refl _ _).alloc (Nat.le_refl _) _⟩
  exact results_cell_row rfl _ _ w.heap.size 35 #[.int .i64 code, .int .i64 fat] (0, 0) _ rfl (heap_alloc_new w _) Try.underlying35 rfl (by kernel_rfl)
end Go.Proofs.Ytmffgdgnaafbpaa.Rd
