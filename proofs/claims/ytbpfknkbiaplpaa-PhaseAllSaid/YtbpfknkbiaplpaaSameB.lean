/- What == answers at the arrays and structs of a table: equality. -/
import Derived.Test.YtbpfknkbiaplpaaRows
import Derived.Test.YtbpfknkbiaplpaaTab
import Derived.Test.YtbpfknkbiaplpaaFlat
namespace Go.Proofs.Ytbpfknkbiaplpaa.Same
open Go.ChangeShapes Go.WideShapes
open Tab Flat
set_option linter.unusedVariables false
set_option linter.unusedSimpArgs false

def Eqs (t : TypeId) (xs ys : List Value) (b : Bool) : Prop := ∀ w : World, (Op.equalIn 10000 t (.agg xs.toArray) (.agg ys.toArray)).run Try.prog w = .ok b w
theorem eqs_of {d : Nat} {t : TypeId} {ts : List TypeId} (h : flat Try.prog d t = some ts) (hd : d ≤ 10000) (hr : rowT Try.prog t = true) (zs : List (Value × Value)) (hall : All2 (LeafEq Try.prog) ts zs) {xs ys : List Value} (hx : zs.map (·.1) = xs) (hy : zs.map (·.2) = ys) {p : Prop} [Decidable p]
    (hp : xs = ys ↔ p) : Eqs t xs ys (decide p) := by
  subst hx hy
  obtain ⟨b, hb, hiff⟩ := eql_flat h hd hr zs hall
  rw [hp] at hiff
  have e : b = decide p := by
    by_cases hq : p
    · rw [decide_eq_true hq]; exact hiff.2 hq
    · rw [decide_eq_false hq]; cases b
      · rfl
      · exact absurd (hiff.1 rfl) hq
  intro w
  rw [hb w, e]
theorem lint (a b : Int) : LeafEq Try.prog 3 (I a, I b) := leaf_int Try.underlying3 a b
theorem lu64 (a b : Int) : LeafEq Try.prog 114 (.int .u64 a, .int .u64 b) := leaf_int Try.underlying114 a b
theorem lbool (a b : Bool) : LeafEq Try.prog 4 (.bool a, .bool b) := leaf_bool Try.underlying4 a b
theorem flatR : flat Try.prog 3 75 = some [3, 3, 3, 3, 3, 3, 3, 3, 3, 3, 3] := by kernel_rfl
theorem flatB : flat Try.prog 3 79 = some [3, 3] := by kernel_rfl
abbrev phTs : List TypeId := [4, 3, 3, 3, 3, 3, 3, 3, 3, 3, 3, 4, 4]
theorem flatP : flat Try.prog 4 38 = some (List.replicate 8 phTs).flatten := by kernel_rfl
theorem flat8 : flat Try.prog 3 40 = some (List.replicate 8 [3]).flatten := by kernel_rfl
theorem rail_eqs (r s : Rl) : Eqs 75 r.cells s.cells (decide (r = s)) := by
  obtain ⟨a0, a1, a2, a3, a4, a5, a6, a7, a8, a9, a10⟩ := r
  obtain ⟨b0, b1, b2, b3, b4, b5, b6, b7, b8, b9, b10⟩ := s
  refine eqs_of flatR (by decide) (by kernel_rfl) [(I a0, I b0), (I a1, I b1), (I a2, I b2), (I a3, I b3), (I a4, I b4), (I a5, I b5), (I a6, I b6), (I a7, I b7), (I a8, I b8), (I a9, I b9), (I a10, I b10)]
    ⟨lint _ _, lint _ _, lint _ _, lint _ _, lint _ _, lint _ _, lint _ _, lint _ _, lint _ _, lint _ _, lint _ _, trivial⟩ rfl rfl ?_
  simp [Rl.cells]
theorem bus_eqs (r s : Bs) : Eqs 79 r.cells s.cells (decide (r = s)) := by
  obtain ⟨a0, a1⟩ := r
  obtain ⟨b0, b1⟩ := s
  refine eqs_of flatB (by decide) (by kernel_rfl) [(I a0, I b0), (I a1, I b1)] ⟨lint _ _, lint _ _, trivial⟩ rfl rfl ?_
  simp [Bs.cells]
theorem ph_leaves (p q : Ph) : ∃ zs, All2 (LeafEq Try.prog) phTs zs ∧ zs.map (·.1) = p.cells ∧ zs.map (·.2) = q.cells := by
  obtain ⟨a0, a1, a2, a3, a4, a5, a6, a7, a8, a9, a10, a11, a12⟩ := p
  obtain ⟨b0, b1, b2, b3, b4, b5, b6, b7, b8, b9, b10, b11, b12⟩ := q
  exact ⟨[(.bool a0, .bool b0), (I a1, I b1), (I a2, I b2), (I a3, I b3), (I a4, I b4), (I a5, I b5), (I a6, I b6), (I a7, I b7), (I a8, I b8), (I a9, I b9), (I a10, I b10), (.bool a11, .bool b11), (.bool a12, .bool b12)],
    ⟨lbool _ _, lint _ _, lint _ _, lint _ _, lint _ _, lint _ _, lint _ _, lint _ _, lint _ _, lint _ _, lint _ _, lbool _ _, lbool _ _, trivial⟩, rfl, rfl⟩
theorem many {α : Type} {ts : List TypeId} {enc : α → List Value} (h1 : ∀ p q : α, ∃ zs, All2 (LeafEq Try.prog) ts zs ∧ zs.map (·.1) = enc p ∧ zs.map (·.2) = enc q) : ∀ (n : Nat) (l m : List α), l.length = n → m.length = n →
    ∃ zs, All2 (LeafEq Try.prog) (List.replicate n ts).flatten zs ∧ zs.map (·.1) = l.flatMap enc ∧ zs.map (·.2) = m.flatMap enc
  | 0, [], [], _, _ => ⟨[], trivial, rfl, rfl⟩
  | n + 1, p :: l, q :: m, hl, hm => by
    obtain ⟨z1, h2, h3, h4⟩ := h1 p q
    obtain ⟨z2, h5, h6, h7⟩ := many h1 n l m (by simpa using hl) (by simpa using hm)
    refine ⟨z1 ++ z2, ?_, by simp [h3, h6], by simp [h4, h7]⟩
    rw [List.replicate_succ, List.flatten_cons]
    exact h2.append h5
  | 0, _ :: _, _, hl, _ => by simp at hl
  | 0, [], _ :: _, _, hm => by simp at hm
  | n + 1, [], _, hl, _ => by simp at hl
  | n + 1, _ :: _, [], _, hm => by simp at hm
theorem phases_eqs (l m : List Ph) (hl : l.length = 8) (hm : m.length = 8) : Eqs 38 (l.flatMap Ph.cells) (m.flatMap Ph.cells) (decide (l = m)) := by
  obtain ⟨zs, h1, h2, h3⟩ := many ph_leaves 8 l m hl hm
  exact eqs_of flatP (by decide) (by kernel_rfl) zs h1 h2 h3 ⟨phases_inj, fun e => by rw [e]⟩
theorem flat_one (l : List Int) : l.flatMap (fun n => [I n]) = l.map I := by
  induction l with
  | nil => rfl
  | cons a l ih => rw [List.flatMap_cons, ih]; rfl
theorem eight_eqs (l m : List Int) (hl : l.length = 8) (hm : m.length = 8) : Eqs 40 (l.map I) (m.map I) (decide (l = m)) := by
  obtain ⟨zs, h1, h2, h3⟩ := many (ts := [3]) (enc := fun n => [I n]) (fun p q => ⟨[(I p, I q)], ⟨lint _ _, trivial⟩, rfl, rfl⟩) 8 l m hl hm
  rw [flat_one] at h2 h3
  exact eqs_of flat8 (by decide) (by kernel_rfl) zs h1 h2 h3 ⟨ints_inj, fun e => by rw [e]⟩
def single (T : Tab) : List Int := [T.extend, T.budget, T.start, T.revert, T.least, T.window, T.share]
abbrev U64 (n : Nat) : Value := .int .u64 n
def bitsOf (d : Det) : List Value := [U64 d.on, U64 d.off, U64 d.delay, U64 d.extend]
theorem guardR : Try.prog.eqGuardType Try.prog.depth 75 = false := by kernel_rfl
theorem guardB : Try.prog.eqGuardType Try.prog.depth 79 = false := by kernel_rfl
theorem guardP : Try.prog.eqGuardType Try.prog.depth 38 = false := by kernel_rfl
theorem guard8 : Try.prog.eqGuardType Try.prog.depth 40 = false := by kernel_rfl
end Go.Proofs.Ytbpfknkbiaplpaa.Same
