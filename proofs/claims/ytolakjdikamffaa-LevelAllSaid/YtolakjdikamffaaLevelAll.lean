/- LevelAll returns true at any detector, any state and any sample: Step, Failed and Seen of package level answer as the document's own answers do. No condition. -/
import Derived.Test.YtolakjdikamffaaRows
import Derived.Test.YtolakjdikamffaaLvW
import Derived.Deep.Cut
import Derived.WalkKit
import Derived.WalkLawsBesides
import Derived.ProofKit
import Derived.OpenShut
import Derived.ShutString
import Derived.ChangeOld
import Derived.Below
namespace Go.Proofs.Ytolakjdikamffaa.levelAll
open Go.ChangeShapes Go.WideShapes Go.ChangeAt Go.RowKit
open Tab Lvl Go.Proofs.Fl
set_option linter.unusedVariables false
set_option linter.unusedSimpArgs false

theorem own : ownKnob Try.prog.godebug = none := by kernel_rfl
theorem laidOut : laidOutB Try.prog = true := by kernel_rfl

/-- WHAT THE WALK IS TOLD OF A SLICE OF INTEGERS THAT CAME IN: it is nil; or it leads to a row of 'cap' cells, the numbers 'zs' (the first 'len' are its elements, the rest its spare room), each fitting its kind. -/
def IsRow (k : IntKind) (w : World) (a : Option Addr) (len cap : Nat) (zs : List Int) : Prop :=
  (a = none ∧ len = 0 ∧ cap = 0 ∧ zs = []) ∨
  ∃ x, a = some x ∧ len ≤ cap ∧ cap ≤ maxLen ∧ zs.length = cap ∧ (∀ i, i < zs.length → w.cell? (x.add i) = some (.int k (zs.getD i 0))) ∧ ∀ n ∈ zs, (Lit.int k n).wf = true

/-! ### the walk -/
set_option maxHeartbeats 4000000 in
theorem walk (x0 : Tab.Det) (x1 : Lvl.Lv) (a2 : Nat) (w : World) (w2 : (Lit.float .f64 a2).wf = true) :
    Calls Try.prog 3 #[.agg x0.cells.toArray, .agg x1.cells.toArray, .float .f64 a2] w fun e w' => e = .returned (.bool true) ∧ Below w.heap.size w w' := by
  obtain ⟨ph, on, off, dl, ex, mo, mf⟩ := x0
  obtain ⟨b, n⟩ := x1
  have hx : a2 < 18446744073709551616 := by simpa [Lit.wf] using w2
  have HX := Lib.hid hx
  clear hx w2
  obtain ⟨b', n', hs⟩ : ∃ b' n', stp on off ⟨b, n⟩ a2 = ⟨b', n'⟩ := ⟨_, _, rfl⟩
  have HS := Lib.hid hs
  clear hs
  have h2 := b2 w #[I ph, F on, F off, F dl, F ex, I mo, I mf] #[Value.bool b, I n]
  simp only [Det.cells, Lv.cells]
  go_enter Try.func3, Try.ntmps3
  go_upto_region 1 with fail
  generalize World.alloc _ (.cells #[Value.bool b, I n] 26) = u at h2 ⊢
  have H2 := Lib.hid h2
  clear h2
  have k0 : u.cell? ⟨w.heap.size, 0, none⟩ = some (I ph) := by rw [cell_of_row _ _ _ _ _ _ H2.out.d]; rfl
  have k1 : u.cell? ⟨w.heap.size, 1, none⟩ = some (F on) := by rw [cell_of_row _ _ _ _ _ _ H2.out.d]; rfl
  have k2 : u.cell? ⟨w.heap.size, 2, none⟩ = some (F off) := by rw [cell_of_row _ _ _ _ _ _ H2.out.d]; rfl
  have k3 : u.cell? ⟨w.heap.size, 3, none⟩ = some (F dl) := by rw [cell_of_row _ _ _ _ _ _ H2.out.d]; rfl
  have k4 : u.cell? ⟨w.heap.size, 4, none⟩ = some (F ex) := by rw [cell_of_row _ _ _ _ _ _ H2.out.d]; rfl
  have k5 : u.cell? ⟨w.heap.size, 5, none⟩ = some (I mo) := by rw [cell_of_row _ _ _ _ _ _ H2.out.d]; rfl
  have k6 : u.cell? ⟨w.heap.size, 6, none⟩ = some (I mf) := by rw [cell_of_row _ _ _ _ _ _ H2.out.d]; rfl
  have l0 : u.cell? ⟨w.heap.size + 1, 0, none⟩ = some (Value.bool b) := by rw [cell_of_row _ _ _ _ _ _ H2.out.s]; rfl
  have l1 : u.cell? ⟨w.heap.size + 1, 1, none⟩ = some (I n) := by rw [cell_of_row _ _ _ _ _ _ H2.out.s]; rfl
  go_wp2_with fail
  refine (step_is HX.out HS.out _).mono ?_
  rintro e u1 ⟨rfl, b1⟩
  clear k0 k1 k2 k3 k4 k5 k6 l0 l1
  go_upto_region 2 with fail
  have h2 := (H2.out.below b1).alloc (.cells #[.bool b', I n'] 26)
  have hl := heap_alloc_new u1 (.cells #[.bool b', I n'] 26)
  clear H2 b1
  generalize World.alloc u1 _ = v at h2 hl ⊢
  generalize u1.heap.size = g at hl ⊢
  have H2 := Lib.hid h2
  have HL := Lib.hid hl
  clear h2 hl
  have k0 : ∀ p : QB.By v.heap.size v, p.world.cell? ⟨w.heap.size, 0, none⟩ = some (I ph) := fun p => by rw [cell_of_row _ _ _ _ _ _ (kept p.below H2.out.d)]; rfl
  have k1 : ∀ p : QB.By v.heap.size v, p.world.cell? ⟨w.heap.size, 1, none⟩ = some (F on) := fun p => by rw [cell_of_row _ _ _ _ _ _ (kept p.below H2.out.d)]; rfl
  have k2 : ∀ p : QB.By v.heap.size v, p.world.cell? ⟨w.heap.size, 2, none⟩ = some (F off) := fun p => by rw [cell_of_row _ _ _ _ _ _ (kept p.below H2.out.d)]; rfl
  have k3 : ∀ p : QB.By v.heap.size v, p.world.cell? ⟨w.heap.size, 3, none⟩ = some (F dl) := fun p => by rw [cell_of_row _ _ _ _ _ _ (kept p.below H2.out.d)]; rfl
  have k4 : ∀ p : QB.By v.heap.size v, p.world.cell? ⟨w.heap.size, 4, none⟩ = some (F ex) := fun p => by rw [cell_of_row _ _ _ _ _ _ (kept p.below H2.out.d)]; rfl
  have k5 : ∀ p : QB.By v.heap.size v, p.world.cell? ⟨w.heap.size, 5, none⟩ = some (I mo) := fun p => by rw [cell_of_row _ _ _ _ _ _ (kept p.below H2.out.d)]; rfl
  have k6 : ∀ p : QB.By v.heap.size v, p.world.cell? ⟨w.heap.size, 6, none⟩ = some (I mf) := fun p => by rw [cell_of_row _ _ _ _ _ _ (kept p.below H2.out.d)]; rfl
  have l0 : ∀ p : QB.By v.heap.size v, p.world.cell? ⟨w.heap.size + 1, 0, none⟩ = some (Value.bool b) := fun p => by rw [cell_of_row _ _ _ _ _ _ (kept p.below H2.out.s)]; rfl
  have l1 : ∀ p : QB.By v.heap.size v, p.world.cell? ⟨w.heap.size + 1, 1, none⟩ = some (I n) := fun p => by rw [cell_of_row _ _ _ _ _ _ (kept p.below H2.out.s)]; rfl
  have m0 : ∀ p : QB.By v.heap.size v, p.world.cell? ⟨g, 0, none⟩ = some (Value.bool b') := fun p => by rw [cell_of_row _ _ _ _ _ _ (kept p.below HL.out)]; rfl
  have m1 : ∀ p : QB.By v.heap.size v, p.world.cell? ⟨g, 1, none⟩ = some (I n') := fun p => by rw [cell_of_row _ _ _ _ _ _ (kept p.below HL.out)]; rfl
  refine QB.region_below v.heap.size (by kernel_rfl) (by kernel_rfl) ?_
  repeat (quiet_step (first
    | (go_at_call 8; exact QB.call_of (Nat.le_refl _) (fun b => rstep_is HX.out HS.out _))
    | (go_at_call 9; exact QB.call_of (Nat.le_refl _) (fun b => failed_is _))
    | (go_at_call 10; exact QB.call_of (Nat.le_refl _) (fun b => rfailed_is _))
    | (go_at_call 11; exact QB.call_of (Nat.le_refl _) (fun b => seen_is _))
    | (go_at_call 12; exact QB.call_of (Nat.le_refl _) (fun b => rseen_is _))
    | (go_at_call 13; exact QB.call_of (Nat.le_refl _) (fun b => Lvl.awake_any _))))
  refine wpQuiet_nil ?_
  intro _ hw'
  obtain ⟨p, rfl⟩ := hw'
  have Hp := Lib.hid (H2.out.bel.trans (p.below.mono H2.out.bel.size))
  go_wp2
  go_ret
  exact ⟨rfl, Hp.out⟩

/-! ### the row's step -/
set_option maxRecDepth 100000 in
theorem lifted (os : Os) (started : os.Started) (H : Type) (enc : TypeId × Value → H) :
    ReturnsInHanded {} Try.checked os 3 .any (Rows.levelAllSpec.pre6 enc Try.prog Try.f3 Rows.levelAllRow.domain false) (Rows.levelAllSpec.post enc Try.prog Try.f3 false true false false) := by
  refine returnsInHanded_of_change (C := Try.checked) own started (by kernel_rfl) Try.func3
    (ChangeSpec.witness6 (enc := enc) (C := Try.checked) false ⟨#[], #[.agg (Tab.Det.cells ⟨0, 0, 0, 0, 0, 0, 0⟩).toArray, .agg (Lvl.Lv.cells ⟨false, 0⟩).toArray, .float .f64 0], []⟩ 8 (by kernel_rfl) (by kernel_rfl) (by kernel_rfl) (by kernel_rfl)) ?_
  intro W base args ds gs before hval0 hW hcnd _
  have hval : ∀ (j : Nat) t v, Try.f3.params[j]? = some t → args[j]? = some v → Value.okWide Try.prog W .any base t v := hval0
  have hW' := hW
  obtain ⟨p, q, hA0, hV, rfl, hfz, hnd⟩ := hW
  have hA : DataW.TrodAll enc Try.prog W 0 (fun _ => true) true Try.f3.params.toList args.toList ds p := hA0
  rw [Try.params3] at hA hval
  obtain ⟨v0, vs0, d0, ds0, p0, q0, hargs, rfl, rfl, h0, r0⟩ := trodAll_cons hA
  obtain ⟨v1, vs1, d1, ds1, p1, q1, rfl, rfl, rfl, h1, r1⟩ := trodAll_cons r0
  obtain ⟨v2, vs2, d2, ds2, p2, q2, rfl, rfl, rfl, h2, r2⟩ := trodAll_cons r1
  obtain ⟨rfl, rfl, rfl⟩ := trodAll_nil r2
  obtain rfl : args = #[v0, v1, v2] := by cases args; simp_all
  obtain ⟨rfl, rfl⟩ := trodVars_none hV
  obtain ⟨c0, rfl, _⟩ := okWide_struct Try.underlying24 (hval 0 24 v0 rfl rfl)
  have k0 := h0
  have lt0 : ∀ x ∈ p0, x.block < W.heap.size := by obtain ⟨m, hm⟩ := k0; exact DataW.trod_lt m _ _ _ hm
  obtain ⟨x0, e0⟩ : ∃ x : Tab.Det, c0 = x.cells.toArray := by
    obtain ⟨fuel, hf⟩ := h0
    obtain ⟨x, e⟩ := TabArg.det_el (Flat.trod_flat 4 _ _ TabArg.flD fuel _ _ hf)
    exact ⟨x, by rw [← e]; simp [Value.cells]⟩
  subst e0
  obtain ⟨c1, rfl, _⟩ := okWide_struct Try.underlying26 (hval 1 26 v1 rfl rfl)
  have k1 := h1
  have lt1 : ∀ x ∈ p1, x.block < W.heap.size := by obtain ⟨m, hm⟩ := k1; exact DataW.trod_lt m _ _ _ hm
  obtain ⟨x1, e1⟩ : ∃ x : Lvl.Lv, c1 = x.cells.toArray := by
    obtain ⟨fuel, hf⟩ := h1
    obtain ⟨x, e⟩ := Lvl.lv_el (Flat.trod_flat 4 _ _ Lvl.flL fuel _ _ hf)
    exact ⟨x, by rw [← e]; simp [Value.cells]⟩
  subst e1
  obtain ⟨a2, rfl, rfl, rfl, w2⟩ := open_float Try.underlying22 (hval 2 22 v2 rfl rfl) h2
  clear hA0 hval0
  refine (walk x0 x1 a2 W w2).mono fun e W' ⟨he, bel⟩ => ?_
  subst he
  exact ⟨_, rfl, _, _, _, [], _, [], hW', trodAll_mk1 (shut_bool Try.underlying4 _), (trodAll_cons_mk (Below.trod laidOut (by kernel_rfl) (of_decide_eq_true (by kernel_rfl)) k0 bel lt0) (trodAll_cons_mk (Below.trod laidOut (by kernel_rfl) (of_decide_eq_true (by kernel_rfl)) k1 bel lt1) (trodAll_cons_mk (shut_float Try.underlying22 w2) trodAll_mk0))), rfl, bel.frame _, fun h => by cases h⟩

theorem over : Rows.levelAllRow.holds Try.pinned (OpenSpec.ofChange Rows.levelAllSpec) :=
  OpenClaim.holds_of_wide 3 Try.f3 rfl rfl rfl rfl rfl rfl rfl ⟨rfl, rfl, rfl, rfl, rfl⟩ rfl rfl rfl rfl rfl (by kernel_rfl) Try.func3 (by kernel_rfl)
    (of_decide_eq_true (by kernel_rfl)) (by unfold Func.isWrapper; first | (rw [if_pos (by decide +kernel)]; kernel_rfl) | (rw [if_neg (by decide +kernel)]; exact ⟨rfl, rfl⟩))
    (fun os started H enc _ => lifted os started H enc)

/-- the statement -/
theorem proved : Rows.LevelAllSaid :=
  over
#print axioms proved
end Go.Proofs.Ytolakjdikamffaa.levelAll
