/- A region that draws its order of evaluation and whose calls may make memory: walked once, in the order of the text, in the class 'below block B as it was'. No program in it. -/
import Derived.Deep.QuietTactic
import Derived.Below
import Derived.StillTail
namespace Go.Proofs.Ytbpfknkbiaplpaa.QB
open Go.RowKit
structure By (B : Nat) (w : World) where
  world : World
  below : Below B w world
instance {B : Nat} {w : World} : Inhabited (By B w) := ⟨⟨w, Below.refl _ _⟩⟩
theorem region_below {P : Program} {id : Nat} {Q : Exit → Act → World → Prop} {a : Act} {w : World} {l : List Oper} (B : Nat) (hm : P.follows .mixedOrders = true) (hB : Region.lexB .any l.toArray = true)
    (h : wpQuiet P l.toArray (fun w' => ∃ p : By B w, w' = p.world) (fun a' => ∀ w', (∃ p : By B w, w' = p.world) → Q .normal a' w') l a) : (Code.region id l.toArray true).wp P Q a w :=
  wp_region_quiet (C := fun w' => ∃ p : By B w, w' = p.world) hm hB ⟨⟨w.drew, (Below.refl _ _).drew⟩, rfl⟩ (by simpa using h)
/-- A callee's contract, met in a world of the class. -/
theorem call_of {P : Program} {f : FuncId} {args : Array Value} {B : Nat} {w : World} {p : By B w} {v : Value} (hB : B ≤ w.heap.size)
    (h : Below B w p.world → Calls P f args p.world fun e w' => e = .returned v ∧ Below p.world.heap.size p.world w') :
    Calls P f args p.world fun e w'' => e = .returned v ∧ ∃ q : By B w, w'' = q.world :=
  (h p.below).mono fun _ w'' ⟨he, hb⟩ => ⟨he, ⟨w'', p.below.trans (hb.mono (Nat.le_trans hB p.below.size))⟩, rfl⟩
/-- A still head, and a chain behind it. -/
theorem region_tail {P : Program} {w : World} {id : Nat} {Q : Exit → Act → World → Prop} {a : Act} {l : List Oper} (n : Nat) (hm : P.follows .mixedOrders = true) (hB : Region.lexTailB .any l.toArray n = true)
    (h : wpStill P l.toArray w.drew (fun a' => wpList P l.toArray Q (l.drop n) a' w.drew) (l.take n) a) : (Code.region id l.toArray true).wp P Q a w :=
  wp_region_still_tail n hm hB h
end Go.Proofs.Ytbpfknkbiaplpaa.QB
