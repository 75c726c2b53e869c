/- 17 texts in one file, in build order. -/
import Derived.Test.YtneaomdgjlmleaaRows
import Derived.Test.YtneaomdgjlmleaaPart01
import Derived.WalkKit
import Derived.ProofKit
import Derived.IntWalk
import Derived.Lib.Hide
import Derived.LoopTactic
import Derived.Below
import Derived.OpenShut
import Derived.ChangeArms
import Derived.DeepKeys
import Derived.Deep.QuietTactic
import Derived.StillTail
import Derived.Laws.Rows
import Derived.Laws.Tables
import Derived.Laws.CopyOwn
import Derived.Deep.Slices
import Derived.ChangeSame
import Derived.Laws.Cover2
import Derived.WalkLawsBesides
import Derived.StillTailTactics
import Derived.Deep.Cut
import Derived.Shelf.Abstract
import Derived.BigQuiet
import Derived.Deep.RegionHeld
set_option linter.unusedVariables false
set_option linter.unusedSimpArgs false
set_option linter.unusedSectionVars false
set_option maxHeartbeats 8000000
set_option maxRecDepth 100000
namespace Go.Proofs.Ytneaomdgjlmleaa
namespace SetP
open Go.ChangeShapes Go.WideShapes Go.ChangeAt Go.RowKit
open Go.Proofs.Ytneaomdgjlmleaa
theorem ret_int {k : IntKind} {a b : Int} (h : a = b) : Ending.returned (.int k a) = .returned (.int k b) := by rw [h]
theorem ret_bool {a b : Bool} (h : a = b) : Ending.returned (.bool a) = .returned (.bool b) := by rw [h]
theorem eight {p : Int} (h : 0 ≤ p) (h' : p < 8) : p = 0 ∨ p = 1 ∨ p = 2 ∨ p = 3 ∨ p = 4 ∨ p = 5 ∨ p = 6 ∨ p = 7 := by omega
theorem bit_any (p : Int) (w : World) : Calls Try.prog 65 #[.int .i64 p] w fun e w' => e = .returned (.int .i64 (SetM.bit p)) ∧ w = w' := by
  by_cases h1 : p < 0
  · have HB := Lib.hid (SetM.bit_out (p := p) (by omega))
    go_enter Try.func65, Try.ntmps65
    go_wp2
    go_ret
    exact ⟨ret_int (by rw [HB.out]; rfl), rfl⟩
  by_cases h2 : 8 ≤ p
  · have HB := Lib.hid (SetM.bit_out (p := p) (by omega))
    go_enter Try.func65, Try.ntmps65
    go_wp2
    go_ret
    exact ⟨ret_int (by rw [HB.out]; rfl), rfl⟩
  rcases eight (p := p) (by omega) (by omega) with rfl | rfl | rfl | rfl | rfl | rfl | rfl | rfl
  all_goals
    clear h1 h2
    go_enter Try.func65, Try.ntmps65
    go_wp2
    go_ret
    exact ⟨ret_int (by decide), rfl⟩
theorem ne_has (s p : Int) : (bits .and .i64 s (SetM.bit p) != 0) = SetM.has s p := by
  have h := SetM.has_and s p
  cases hb : SetM.has s p
  · rw [h.2 hb]; rfl
  · rw [bne_iff_ne]; intro e; rw [h.1 e] at hb; cases hb
theorem has_any (s p : Int) (w : World) : Calls Try.prog 36 #[.int .i64 s, .int .i64 p] w fun e w' => e = .returned (.bool (SetM.has s p)) ∧ w = w' := by
  have HB := Lib.hid (ne_has s p)
  go_enter Try.func36, Try.ntmps36
  go_wp2_with (go_at_call 65; refine (bit_any _ _).mono ?_; rintro e w' ⟨rfl, rfl⟩)
  go_ret
  exact ⟨ret_bool HB.out, rfl⟩
theorem with_any (s p : Int) (w : World) : Calls Try.prog 64 #[.int .i64 s, .int .i64 p] w fun e w' => e = .returned (.int .i64 (SetM.withN s p)) ∧ w = w' := by
  have HB := Lib.hid (SetM.with_bits s p)
  go_enter Try.func64, Try.ntmps64
  go_wp2_with (go_at_call 65; refine (bit_any _ _).mono ?_; rintro e w' ⟨rfl, rfl⟩)
  go_ret
  exact ⟨ret_int HB.out, rfl⟩
end SetP
namespace Flat
open Go Go.ChangeShapes Go.WideShapes
section
variable {α β : Type}
def All2 (R : α → β → Prop) : List α → List β → Prop
  | [], [] => True
  | a :: l, b :: m => R a b ∧ All2 R l m
  | _, _ => False
variable {R : α → β → Prop}
theorem All2.length : ∀ {a : List α} {b : List β}, All2 R a b → a.length = b.length
  | [], [], _ => rfl
  | _ :: _, _ :: _, ⟨_, h⟩ => by simp [All2.length h]
  | [], _ :: _, h => h.elim
  | _ :: _, [], h => h.elim
theorem All2.append : ∀ {a : List α} {b : List β} {c : List α} {d : List β}, All2 R a b → All2 R c d → All2 R (a ++ c) (b ++ d)
  | [], [], _, _, _, h => h
  | _ :: _, _ :: _, _, _, ⟨h, k⟩, h2 => ⟨h, All2.append k h2⟩
  | [], _ :: _, _, _, h, _ => h.elim
  | _ :: _, [], _, _, h, _ => h.elim
theorem All2.at : ∀ {a : List α} {b : List β}, All2 R a b → ∀ {i : Nat} {x : α} {y : β}, a[i]? = some x → b[i]? = some y → R x y
  | _ :: _, _ :: _, ⟨h, _⟩, 0, _, _, h1, h2 => by simp at h1 h2; subst h1 h2; exact h
  | _ :: _, _ :: _, ⟨_, k⟩, i + 1, _, _, h1, h2 => All2.at k (i := i) (by simpa using h1) (by simpa using h2)
  | [], _, _, _, _, _, h1, _ => by simp at h1
  | _ :: _, [], h, _, _, _, _, _ => h.elim
theorem All2.mono {S : α → β → Prop} (hm : ∀ x y, R x y → S x y) : ∀ {a : List α} {b : List β}, All2 R a b → All2 S a b
  | [], [], _ => trivial
  | _ :: _, _ :: _, ⟨h, k⟩ => ⟨hm _ _ h, All2.mono hm k⟩
  | [], _ :: _, h => h.elim
  | _ :: _, [], h => h.elim
end
def rowT (P : Program) (t : TypeId) : Bool := match P.underlying t with | some (.struct _) | some (.array _ _) => true | _ => false
def flatF (P : Program) (g : TypeId → Option (List TypeId)) : Nat → List Field → Option (List TypeId)
  | _, [] => some []
  | o, f :: fs => if f.name ≠ "_" ∧ f.offset = o then
      match g f.type with
      | some r => if r.length = P.cellsOf f.type then (flatF P g (o + r.length) fs).map (r ++ ·) else none
      | none => none
    else none
/-- The one-cell types that lie in a type, in order; none where its parts do not lie side by side. -/
def flat (P : Program) : Nat → TypeId → Option (List TypeId)
  | 0, _ => none
  | d + 1, t => match P.underlying t with
    | some (.struct fs) => if P.stoodInHeld t = true then none else match flatF P (flat P d) 0 fs.toList with
      | some l => if l.length = P.cellsOf t then some l else none
      | none => none
    | some (.array n e) => match flat P d e with
      | some r => if r.length = P.cellsOf e ∧ n * P.cellsOf e = P.cellsOf t then some (List.replicate n r).flatten else none
      | none => none
    | some _ => if P.cellsOf t = 1 then some [t] else none
    | none => none
theorem flatF_cons {P : Program} {g : TypeId → Option (List TypeId)} {o : Nat} {f : Field} {fs : List Field} {l : List TypeId} (h : flatF P g o (f :: fs) = some l) :
    f.name ≠ "_" ∧ f.offset = o ∧ ∃ r l', g f.type = some r ∧ r.length = P.cellsOf f.type ∧ flatF P g (o + r.length) fs = some l' ∧ l = r ++ l' := by
  unfold flatF at h
  split at h
  · rename_i h1
    split at h
    · rename_i r hr
      split at h
      · rename_i hl
        simp only [Option.map_eq_some_iff] at h
        obtain ⟨l', h2, rfl⟩ := h
        exact ⟨h1.1, h1.2, r, l', hr, hl, h2, rfl⟩
      · cases h
    · cases h
  · cases h
theorem take_two {α : Type} (l : List α) (o a b : Nat) : (l.drop o).take (a + b) = (l.drop o).take a ++ (l.drop (o + a)).take b := by
  rw [List.take_add, List.drop_drop]
section
variable {P : Program} {R : TypeId → Value → Prop} {G : TypeId → List Value → Prop} {g : TypeId → Option (List TypeId)}
theorem fields_flat (hg : ∀ t ts cs, g t = some ts → G t cs → All2 R ts cs) (cs : List Value) : ∀ (fs : List Field) (o : Nat) (l : List TypeId), flatF P g o fs = some l →
    (∀ f ∈ fs, G f.type ((cs.drop f.offset).take (P.cellsOf f.type))) → All2 R l ((cs.drop o).take l.length)
  | [], _, l, h, _ => by
    simp only [flatF, Option.some.injEq] at h
    subst h; simp [All2]
  | f :: fs, o, l, h, hall => by
    obtain ⟨_, ho, r, l', h1, h2, h3, rfl⟩ := flatF_cons h
    have h4 := hg _ _ _ h1 (hall f (by simp))
    rw [ho, ← h2] at h4
    rw [List.length_append, take_two]
    exact h4.append (fields_flat hg cs fs _ _ h3 fun f hf => hall f (by simp [hf]))
theorem items_flat {c : Nat} {e : TypeId} {r : List TypeId} (hg : ∀ cs, G e cs → All2 R r cs) (cs : List Value) : ∀ (n k : Nat), (∀ i, i < n → G e ((cs.drop ((k + i) * c)).take c)) →
    All2 R (List.replicate n r).flatten ((cs.drop (k * c)).take (n * c))
  | 0, _, _ => by simp [All2]
  | n + 1, k, h => by
    rw [List.replicate_succ, List.flatten_cons, Nat.add_mul, Nat.one_mul, Nat.add_comm (n * c) c, take_two]
    refine (hg _ (by simpa using h 0 (by omega))).append ?_
    have := items_flat hg cs n (k + 1) (fun i hi => by have := h (i + 1) (by omega); rwa [show k + (i + 1) = k + 1 + i by omega] at this)
    rwa [Nat.add_mul, Nat.one_mul] at this
end
section
variable {H : Type} {enc : TypeId × Value → H} {P : Program} {w : World} {base : Nat} {spare : Nat → Bool} {held : Bool}
theorem trod_one {t : TypeId} {n : Nat} {cs : List Value} {x : DataW H × List MemPlace} {d : TypeDesc} (hu : P.underlying t = some d) (hd : rowT P t = false) (h : DataW.trod enc P w base spare held n t cs = some x) : ∃ v, cs = [v] := by
  cases n with
  | zero => simp [DataW.trod] at h
  | succ n =>
    unfold DataW.trod at h
    unfold rowT at hd
    rw [hu] at h hd
    split at h <;> first | exact ⟨_, rfl⟩ | (simp_all; done)
/-- A value that can be read: each of its cells can be read as its own type. -/
theorem trod_flat : ∀ (d : Nat) (t : TypeId) (ts : List TypeId), flat P d t = some ts → ∀ (n : Nat) (cs : List Value) (x : DataW H × List MemPlace), DataW.trod enc P w base spare held n t cs = some x →
    All2 (fun t v => ∃ n y, DataW.trod enc P w base spare held n t [v] = some y) ts cs
  | 0, _, _, h, _, _, _, _ => by simp [flat] at h
  | d + 1, t, ts, h, n, cs, x, hx => by
    unfold flat at h
    split at h
    · rename_i fs hu
      split at h
      · cases h
      · split at h
        · rename_i l hl
          split at h
          · rename_i hlen
            simp only [Option.some.injEq] at h; subst h
            obtain ⟨xs, m, _, _, hcl, hxl, hf⟩ := DataW.trod_struct hu hx
            have := fields_flat (P := P) (G := fun t cs => ∃ n y, DataW.trod enc P w base spare held n t cs = some y) (g := flat P d) (fun t ts cs h ⟨n, y, hy⟩ => trod_flat d t ts h n cs y hy) cs fs.toList 0 l hl (fun f hf' => by
              obtain ⟨i, hi⟩ := List.getElem?_of_mem hf'
              have h1 := hf i f (by simpa using hi)
              have h2 : i < xs.length := by
                have := (List.getElem?_eq_some_iff.1 hi).1
                simp at this; omega
              rw [List.getElem?_eq_getElem h2] at h1
              exact ⟨m, _, h1⟩)
            rw [List.drop_zero, hlen, ← hcl, List.take_length] at this
            exact this
          · cases h
        · cases h
    · rename_i k e hu
      split at h
      · rename_i r hr
        split at h
        · rename_i hlen
          simp only [Option.some.injEq] at h; subst h
          obtain ⟨xs, m, _, _, hcl, hxl, hf⟩ := DataW.trod_array hu hx
          have := items_flat (c := P.cellsOf e) (e := e) (r := r) (G := fun t cs => ∃ n y, DataW.trod enc P w base spare held n t cs = some y) (fun cs ⟨n, y, hy⟩ => trod_flat d e r hr n cs y hy) cs k 0 (fun i hi => by
            have h1 := hf i hi
            rw [List.getElem?_eq_getElem (by omega)] at h1
            exact ⟨m, _, by simpa using h1⟩)
          rw [Nat.zero_mul, List.drop_zero, hlen.2, ← hcl, List.take_length] at this
          exact this
        · cases h
      · cases h
    · rename_i dd hns hna hu
      split at h
      · simp only [Option.some.injEq] at h; subst h
        obtain ⟨v, rfl⟩ := trod_one hu (by unfold rowT; rw [hu]; cases dd <;> simp_all) hx
        exact ⟨⟨n, x, hx⟩, trivial⟩
      · cases h
    · cases h
end
/-! ### comparing -/
section
variable {P : Program}
def vOf (P : Program) (t : TypeId) (cs : List Value) : Value := if rowT P t then .agg cs.toArray else cs.headD undef
theorem run_part (w : World) {t : TypeId} {d : TypeDesc} (hu : P.underlying t = some d) (hc : rowT P t = false → P.cellsOf t = 1) (cs : List Value) (off : Nat) (hl : off + P.cellsOf t ≤ cs.length) :
    (part t cs.toArray off).run P w = .ok (vOf P t ((cs.drop off).take (P.cellsOf t))) w := by
  obtain ⟨i, hi⟩ := info_of_underlying hu
  have hagg : (isAgg t).run P w = .ok (rowT P t) w := by
    unfold isAgg rowT
    rw [Sem.run_bind, run_underlying hu w]
    rw [hu]
    cases d <;> simp
  unfold part vOf
  rw [Sem.run_bind, hagg, Result.andThen_ok]
  cases hr : rowT P t with
  | true =>
    simp only [if_true, Sem.run_bind, run_sizeOf w hi, Result.andThen_ok, Sem.run_pure]
    congr 2
    simp [List.extract]
  | false =>
    have h1 := hc hr
    have h2 : off < cs.length := by omega
    simp only [Bool.false_eq_true, if_false, List.getElem?_toArray, List.getElem?_eq_getElem h2, Sem.run_pure, h1]
    have h3 : (cs.drop off).take 1 = [cs[off]] := by rw [List.drop_eq_getElem_cons h2]; rfl
    rw [h3]
    simp
end
end Flat
namespace Phx
open Go.ChangeShapes Go.WideShapes Go.ChangeAt Go.RowKit
open Tab
open May (infoP)
theorem ph_len (l : List Ph) : (l.flatMap Ph.cells).length = l.length * 13 := by
  induction l with
  | nil => rfl
  | cons p l ih => rw [List.flatMap_cons, List.length_append, ih, List.length_cons, show p.cells.length = 13 from rfl]; omega
/-- The value of an array of phases, at one of its places. -/
theorem infoPs : (Try.prog.info? 24).map (·.size) = some 104 := by kernel_rfl
theorem cellsP : Try.prog.cellsOf 23 = 13 := by kernel_rfl
theorem rowP : Flat.rowT Try.prog 23 = true := by kernel_rfl
theorem infoPz : ∃ i, Try.prog.info? 23 = some i ∧ i.size = 13 := by
  have := infoP
  cases h : Try.prog.info? 23 with
  | none => rw [h] at this; simp at this
  | some i => rw [h] at this; exact ⟨i, rfl, by simpa using this⟩
theorem flat_take : ∀ {l : List Ph} {q : Nat} {u : Ph}, l[q]? = some u → ((l.flatMap Ph.cells).drop (q * 13)).take 13 = u.cells
  | [], q, u, h => by simp at h
  | p :: l, 0, u, h => by
    obtain rfl : p = u := by simpa using h
    rw [Nat.zero_mul, List.drop_zero, List.flatMap_cons]
    exact List.take_left' rfl
  | p :: l, q + 1, u, h => by
    rw [List.flatMap_cons, Nat.add_mul, Nat.one_mul, Nat.add_comm, List.drop_append, List.drop_of_length_le (by simp [Ph.cells]), List.nil_append, show 13 + q * 13 - p.cells.length = q * 13 by simp [Ph.cells]]
    exact flat_take (by simpa using h)
theorem idx_phase {l : List Ph} {q : Nat} {u : Ph} (hl : l.length = 8) (hu : l[q]? = some u) (w : World) :
    Sem.run Try.prog (Instr.index 24 (.agg (l.flatMap Ph.cells).toArray) (.int .i64 q)) w = .ok (.agg u.cells.toArray) w := by
  have hq : q < l.length := (List.getElem?_eq_some_iff.1 hu).1
  obtain ⟨i, hi, hs⟩ := infoPz
  have hp := Flat.run_part (P := Try.prog) w (t := 23) (d := _) Try.underlying23 (by rw [rowP]; simp) (l.flatMap Ph.cells) (q * 13) (by rw [cellsP, ph_len]; omega)
  rw [cellsP, Flat.vOf, if_pos rowP, flat_take hu] at hp
  unfold Instr.index
  have hc : 0 ≤ (q : Int) ∧ (q : Int) < 8 := by omega
  simp [run_underlying Try.underlying24, asIntOf]
  rw [if_pos (by omega)]
  first | exact hp | (rw [cellsP]; exact hp)
theorem lies_take {w : World} {b : Nat} {cs : Array Value} {t : TypeId} {fr : Nat × Nat} (hb : w.heap[b]? = some (.cells cs t fr)) (n : Nat) (l : List Value) (h : cs.toList.take n = l) : Lies w ⟨b, 0, none⟩ l := by
  intro j v hv
  rw [Addr.add_mid, Nat.zero_add, cell_of_row _ _ _ _ _ _ hb]
  subst h
  rw [List.getElem?_take] at hv
  split at hv
  · rwa [Array.getElem?_toList] at hv
  · cases hv
end Phx
namespace QB
open Go.RowKit
structure By (B : Nat) (w : World) where
  world : World
  below : Below B w world
instance {B : Nat} {w : World} : Inhabited (By B w) := ⟨⟨w, Below.refl _ _⟩⟩
theorem region_below {P : Program} {id : Nat} {Q : Exit → Act → World → Prop} {a : Act} {w : World} {l : List Oper} (B : Nat) (hm : P.follows .mixedOrders = true) (hB : Region.lexB .any l.toArray = true)
    (h : wpQuiet P l.toArray (fun w' => ∃ p : By B w, w' = p.world) (fun a' => ∀ w', (∃ p : By B w, w' = p.world) → Q .normal a' w') l a) : (Code.region id l.toArray true).wp P Q a w :=
  wp_region_quiet (C := fun w' => ∃ p : By B w, w' = p.world) hm hB ⟨⟨w.drew, (Below.refl _ _).drew⟩, rfl⟩ (by simpa using h)
/-- A callee's contract, met in a world of the class. -/
theorem call_of {P : Program} {f : FuncId} {args : Array Value} {B : Nat} {w : World} {p : By B w} {v : Value} (hB : B ≤ w.heap.size)
    (h : Below B w p.world → Calls P f args p.world fun e w' => e = .returned v ∧ Below p.world.heap.size p.world w') :
    Calls P f args p.world fun e w'' => e = .returned v ∧ ∃ q : By B w, w'' = q.world :=
  (h p.below).mono fun _ w'' ⟨he, hb⟩ => ⟨he, ⟨w'', p.below.trans (hb.mono (Nat.le_trans hB p.below.size))⟩, rfl⟩
/-- A still head, and a chain behind it. -/
theorem region_tail {P : Program} {w : World} {id : Nat} {Q : Exit → Act → World → Prop} {a : Act} {l : List Oper} (n : Nat) (hm : P.follows .mixedOrders = true) (hB : Region.lexTailB .any l.toArray n = true)
    (h : wpStill P l.toArray w.drew (fun a' => wpList P l.toArray Q (l.drop n) a' w.drew) (l.take n) a) : (Code.region id l.toArray true).wp P Q a w :=
  wp_region_still_tail n hm hB h
end QB
namespace Blk
open Go Go.RowKit Go.ChangeShapes Tab
abbrev Bl : Type := Nat × Array Value × TypeId
structure Bks (w : World) (L : List Bl) (u : World) : Prop where
  bel : Below w.heap.size w u
  low : ∀ x ∈ L, w.heap.size ≤ x.1
  blk : ∀ x ∈ L, u.heap[x.1]? = some (.cells x.2.1 x.2.2 (0, 0))
  apart : (L.map (·.1)).Nodup
section
variable {w u v : World} {L : List Bl}
theorem lt_of {g : Nat} {o : Obj} (hg : u.heap[g]? = some o) : g < u.heap.size := (Array.getElem?_eq_some_iff.1 hg).1
theorem Bks.nil (w : World) : Bks w [] w := ⟨Below.refl _ _, by simp, by simp, by simp⟩
theorem Bks.step (h : Bks w L u) (hb : Below u.heap.size u v) : Bks w L v :=
  ⟨h.bel.trans (hb.mono h.bel.size), h.low, fun x hx => (hb.block _ (lt_of (h.blk x hx))).trans (h.blk x hx), h.apart⟩
theorem Bks.drew (h : Bks w L u) : Bks w L u.drew := ⟨h.bel.drew, h.low, h.blk, h.apart⟩
theorem Bks.lt (h : Bks w L u) {x : Bl} (hx : x ∈ L) : x.1 < u.heap.size := lt_of (h.blk x hx)
theorem Bks.alloc (h : Bks w L u) (cs : Array Value) (t : TypeId) : Bks w ((u.heap.size, cs, t) :: L) (u.alloc (.cells cs t)) := by
  refine ⟨h.bel.alloc h.bel.size _, ?_, ?_, ?_⟩
  · intro x hx
    rcases List.mem_cons.1 hx with rfl | hx
    · exact h.bel.size
    · exact h.low x hx
  · intro x hx
    rcases List.mem_cons.1 hx with rfl | hx
    · exact heap_alloc_new u _
    · rw [Below.heap_alloc _ _ _ (h.lt hx)]; exact h.blk x hx
  · rw [List.map_cons, List.nodup_cons]
    refine ⟨fun hm => ?_, h.apart⟩
    obtain ⟨x, hx, e⟩ := List.mem_map.1 hm
    have := h.lt hx
    simp only at e
    omega
theorem Bks.at (h : Bks w L u) (i : Nat) {g : Nat} {cs : Array Value} {t : TypeId} (hi : L[i]? = some (g, cs, t)) : u.heap[g]? = some (.cells cs t (0, 0)) := h.blk (g, cs, t) (List.mem_of_getElem? hi)
theorem Bks.cell (h : Bks w L u) (i j : Nat) {g : Nat} {cs : Array Value} {t : TypeId} {v : Value} (hi : L[i]? = some (g, cs, t)) (hv : cs[j]? = some v) : u.cell? ⟨g, j, none⟩ = some v := by rw [cell_of_row _ _ _ _ _ _ (h.at i hi), hv]
theorem Bks.frozen (h : Bks w L u) (i j : Nat) {g : Nat} {cs : Array Value} {t : TypeId} (hi : L[i]? = some (g, cs, t)) : u.frozen? ⟨g, j, none⟩ = false := frozen_of_row _ _ _ _ _ (h.at i hi)
theorem Bks.ge (h : Bks w L u) (i : Nat) {g : Nat} {cs : Array Value} {t : TypeId} (hi : L[i]? = some (g, cs, t)) : w.heap.size ≤ g := h.low (g, cs, t) (List.mem_of_getElem? hi)
theorem nd_ne : ∀ {L : List Nat} {i j : Nat} {a b : Nat}, L.Nodup → L[i]? = some a → L[j]? = some b → i ≠ j → a ≠ b
  | [], _, _, _, _, _, h, _, _ => by simp at h
  | c :: L, 0, 0, _, _, _, _, _, h => absurd rfl h
  | c :: L, 0, j + 1, a, b, hn, hi, hj, _ => by
    simp at hi hj
    subst hi
    intro e
    subst e
    exact (List.nodup_cons.1 hn).1 (List.mem_of_getElem? hj)
  | c :: L, i + 1, 0, a, b, hn, hi, hj, _ => by
    simp at hi hj
    subst hj
    intro e
    subst e
    exact (List.nodup_cons.1 hn).1 (List.mem_of_getElem? hi)
  | c :: L, i + 1, j + 1, a, b, hn, hi, hj, h => nd_ne (List.nodup_cons.1 hn).2 (by simpa using hi) (by simpa using hj) (fun e => h (by rw [e]))
/-- A whole block is written anew. -/
theorem Bks.put (h : Bks w L u) (i : Nat) {g : Nat} {cs : Array Value} {t : TypeId} (hi : L[i]? = some (g, cs, t)) (cs' : Array Value) : Bks w (L.set i (g, cs', t)) (u.setRow g cs') := by
  have hlt : i < L.length := (List.getElem?_eq_some_iff.1 hi).1
  have hmap : (L.set i (g, cs', t)).map (·.1) = L.map (·.1) := by
    rw [List.map_set]
    apply List.ext_getElem?
    intro k
    rw [List.getElem?_set]
    split
    · rename_i e; subst e; rw [List.length_map, if_pos hlt, List.getElem?_map, hi]; rfl
    · rfl
  refine ⟨below_setRow h.bel (h.ge i hi) cs', ?_, ?_, by rw [hmap]; exact h.apart⟩
  · intro x hx
    rcases List.mem_or_eq_of_mem_set hx with hx | rfl
    · exact h.low x hx
    · exact h.ge i hi
  · intro x hx
    obtain ⟨k, hk⟩ := List.mem_iff_getElem?.1 hx
    rw [List.getElem?_set] at hk
    split at hk
    · rename_i e; subst e
      (try rw [if_pos hlt] at hk)
      obtain rfl := Option.some.inj hk
      exact setRow_heap _ _ _ _ _ _ (h.at i hi)
    · rename_i e
      have hne : x.1 ≠ g := nd_ne h.apart (i := k) (j := i) (by rw [List.getElem?_map, hk]; rfl) (by rw [List.getElem?_map, hi]; rfl) (fun e' => e e'.symm)
      rw [setRow_other _ _ _ _ hne]
      exact h.blk x (List.mem_of_getElem? hk)
/-- One cell of a block is written. -/
theorem Bks.set (h : Bks w L u) (i j : Nat) {g : Nat} {cs : Array Value} {t : TypeId} (hi : L[i]? = some (g, cs, t)) (v : Value) : Bks w (L.set i (g, cs.setIfInBounds j v, t)) (u.setCell ⟨g, j, none⟩ v) := by
  rw [setCell_eq_setRow u g j cs t (0, 0) v (h.at i hi)]
  exact h.put i hi _
/-- In a later world of the class 'below'. -/
theorem Bks.by (h : Bks w L u) (p : QB.By u.heap.size u) : Bks w L p.world := h.step p.below
/-- A block that is not asked for any more. -/
theorem Bks.drop {a : Bl} (h : Bks w (a :: L) u) : Bks w L u := ⟨h.bel, fun x hx => h.low x (List.mem_cons_of_mem _ hx), fun x hx => h.blk x (List.mem_cons_of_mem _ hx), (List.nodup_cons.1 h.apart).2⟩
end
end Blk
namespace QT
open Go Go.RowKit
section
variable {P : Program} {ops : Array Oper} {md : Region.Mode} {C : World → Prop} {m n : Nat}
/-- Nothing of the end comes up ahead of the head: each of the head is waited for by a later one, at the latest by number n. -/
def sinks (md : Region.Mode) (ops : Array Oper) (m n : Nat) : Bool := (List.range n).all fun i => decide (i < m) || (List.range (n + 1)).any fun j => decide (i < j) && Region.waitsFor md ops j i
/-- The first m wait for none but the first m. -/
def shut (md : Region.Mode) (ops : Array Oper) (m : Nat) : Bool := (List.range m).all fun j => match ops[j]? with | some o => o.after.all fun e => !Region.binds md e || decide (e.on < m) | none => true
def begun (ops : Array Oper) (m : Nat) : Array Bool := Array.replicate m true ++ Array.replicate (ops.size - m) false
/-- What has come up: the first m, and what it waits for. -/
structure Inv (md : Region.Mode) (ops : Array Oper) (m n : Nat) (L : Array Bool) : Prop where
  size : L.size = ops.size
  first : ∀ j, j < m → L.getD j false = true
  back : ∀ j o, ops[j]? = some o → L.getD j false = true → ∀ e ∈ o.after, Region.binds md e = true → L.getD e.on false = true
  rest : ∀ t, n ≤ t → t < ops.size → L.getD t true = false
theorem Inv.set {i : Nat} {L : Array Bool} (h : Inv md ops m n L) (hi : i ∈ Region.ready md ops L) (hn : i < n) : Inv md ops m n (L.setIfInBounds i true) := by
  obtain ⟨_, oi, hoi, hall⟩ := mem_ready.1 hi
  refine ⟨by simp [h.size], fun j hj => getD_set_true (h.first j hj), fun j o hj hl e he hb => ?_, fun t h1 h2 => (getD_set_ne true (by omega)).trans (h.rest t h1 h2)⟩
  rcases Nat.decEq i j with hij | hij
  · rw [getD_set_ne false hij] at hl
    exact getD_set_true (h.back j o hj hl e he hb)
  · subst hij
    obtain rfl : o = oi := Option.some.inj (hj.symm.trans hoi)
    exact getD_set_true (hall e he hb)
/-- As long as one of the head has not come up, none of the end is ready. -/
theorem later {L : Array Bool} (hs : sinks md ops m n = true) (hc : Region.chainB md ops n = true) (hn : n < ops.size) (h : Inv md ops m n L) :
    ∀ (d i : Nat), n - i ≤ d → i < n → L.getD i true = false → ∀ t ∈ Region.ready md ops L, t < n
  | 0, i, hd, hi, _, _, _ => by omega
  | d + 1, i, hd, hi, hun, t, ht => by
    rcases Nat.lt_or_ge t n with hlt | hge
    · exact hlt
    exfalso
    obtain ⟨_, ot, hot, hall⟩ := mem_ready.1 ht
    have htl : t < ops.size := (Array.getElem?_eq_some_iff.1 hot).1
    rcases Nat.eq_or_lt_of_le hge with rfl | hgt
    · have h1 := List.all_eq_true.1 hs i (List.mem_range.2 hi)
      have hm : ¬ i < m := fun hm => by have := getD_both hun; rw [h.first i hm] at this; cases this
      rw [decide_eq_false hm, Bool.false_or] at h1
      obtain ⟨j, hj, hj2⟩ := List.any_eq_true.1 h1
      simp only [Bool.and_eq_true, decide_eq_true_eq] at hj2
      obtain ⟨oj, hoj, e, he, hb, hon⟩ := Region.waitsFor_spec hj2.2
      have hjl := List.mem_range.1 hj
      have hno : L.getD e.on false = false := by rw [hon]; exact getD_both hun
      by_cases hjt : j = n
      · subst hjt
        obtain rfl : oj = ot := Option.some.inj (hoj.symm.trans hot)
        rw [hall e he hb] at hno
        cases hno
      · cases hl : L.getD j false with
        | true => rw [h.back j oj hoj hl e he hb] at hno; cases hno
        | false => exact absurd (later hs hc hn h d j (by omega) (by omega) (getD_in (by rw [h.size]; omega) hl) n ht) (by omega)
    · have h1 := List.all_eq_true.1 hc t (List.mem_range.2 htl)
      simp only [Bool.or_eq_true, decide_eq_true_eq] at h1
      obtain ⟨o', ho', e, he, hb, hon⟩ := Region.waitsFor_spec (h1.resolve_left (by omega))
      obtain rfl : o' = ot := Option.some.inj (ho'.symm.trans hot)
      have h2 := hall e he hb
      rw [hon, getD_both (h.rest (t - 1) (by omega) (by omega))] at h2
      cases h2
/-- Whatever of the head comes up next. -/
def anyT (P : Program) (md : Region.Mode) (ops : Array Oper) (C : World → Prop) (n : Nat) (E : Array Bool → Act → Prop) : Nat → Array Bool → Act → Prop
  | 0, L, a => E L a
  | f + 1, L, a => Region.ready md ops L ≠ [] ∧ ∀ i ∈ Region.ready md ops L, i < n ∧ qOp P ops C i (anyT P md ops C n E f (L.setIfInBounds i true)) a
theorem wpAny_of {g : Nat} {E : Array Bool → Act → Prop} {Q : Exit → Act → World → Prop} (hE : ∀ L a w, C w → E L a → wpAny P md ops Q g L a w) : ∀ (f : Nat) (L : Array Bool) (a : Act) (w : World), C w → anyT P md ops C n E f L a → wpAny P md ops Q (f + g) L a w
  | 0, L, a, w, hw, h => by rw [Nat.zero_add]; exact hE _ _ _ hw h
  | f + 1, L, a, w, hw, h => by
    rw [Nat.add_right_comm]
    exact ⟨fun h0 => absurd h0 h.1, fun i hi => wpOp_of_qOp hw (fun a' w' hw' h' => wpAny_of hE f _ a' w' hw' h') (h.2 i hi).2⟩
theorem one {i : Nat} {oi : Oper} {v : Value} {E : Array Bool → Act → Prop} (hi : ops[i]? = some oi) (hsel : ∀ (j : Nat) (o : Oper) cs b, ops[j]? = some o → o.op ≠ .select cs b)
    (hs : sinks md ops m n = true) (hc : Region.chainB md ops n = true) (hn : n < ops.size) (hin : i < n) (hE : ∀ L a, E L a → ∀ j ∈ Region.ready md ops L, n ≤ j) : ∀ (f : Nat) (L : Array Bool) (a : Act), Inv md ops m n L →
      (∀ j oj, ops[j]? = some oj → j ≠ i → L.getD j true = false → (∀ e ∈ oj.after, Region.binds md e = true → e.on ≠ i) → oi.apart ops oj = true) →
      i ∈ Region.ready md ops L → YieldsIn P ops C oi v a → anyT P md ops C n E f (L.setIfInBounds i true) (a.put oi.dst v) → anyT P md ops C n E (f + 1) L a := by
  intro f
  induction f with
  | zero =>
    intro L a inv _ hr hy H
    refine ⟨List.ne_nil_of_mem hr, fun j hj => ?_⟩
    have hjn := later hs hc hn inv _ i (Nat.le_refl _) hin (mem_ready.1 hr).1 j hj
    refine ⟨hjn, ?_⟩
    rcases Nat.decEq j i with hji | rfl
    · exact absurd (hE _ _ H j (ready_mono hj hji)) (by omega)
    · exact hy.qOp hi H
  | succ f ih =>
    intro L a inv hfree hr hy H
    refine ⟨List.ne_nil_of_mem hr, fun j hj => ?_⟩
    have hjn := later hs hc hn inv _ i (Nat.le_refl _) hin (mem_ready.1 hr).1 j hj
    refine ⟨hjn, ?_⟩
    rcases Nat.decEq j i with hji | rfl
    · obtain ⟨hjun, oj, hoj, hall⟩ := mem_ready.1 hj
      have hno : ∀ e ∈ oj.after, Region.binds md e = true → e.on ≠ i := fun e he hb heq => by
        have h1 := hall e he hb
        rw [heq, getD_both (mem_ready.1 hr).1] at h1
        cases h1
      refine qOp_mono (fun a' h3 => ih (L.setIfInBounds j true) a' (inv.set hj hjn) (fun k ok hk hki hun hnk => ?_) (ready_mono hr (Ne.symm hji)) h3.1 ?_)
        (qOp_put hoj (hfree j oj hoj hji hjun hno) (fun cs b => hsel i oi cs b hi) (fun cs b => hsel j oj cs b hoj) hy (H.2 j (ready_mono hj hji)).2)
      · refine hfree k ok hk hki ?_ hnk
        rcases Nat.decEq j k with hjk | rfl
        · rwa [getD_set_ne true hjk] at hun
        · exact hjun
      · rw [Array.setIfInBounds_comm _ _ hji]
        exact h3.2
    · exact hy.qOp hi H
theorem lex {g : Nat} {E : Act → Prop} (hsel : Region.noSelect ops = true) (hs : sinks md ops m n = true) (hc : Region.chainB md ops n = true) (hn : n < ops.size) : ∀ (l : List Oper) (k : Nat) (L : Array Bool) (a : Act), (∀ j, j < l.length → l[j]? = ops[k + j]?) → k + l.length = n → Inv md ops m n L →
    Region.lexHead md ops g l.length k L = true → wpQuiet P ops C E l a → anyT P md ops C n (fun L' a' => Region.seqB md ops g n L' = true ∧ E a') l.length L a
  | [], k, L, a, _, hk, _, hB, h => by
    obtain rfl : k = n := hk
    exact ⟨hB, h⟩
  | o :: l, k, L, a, hl, hk, inv, hB, h => by
    have h0 : ops[k]? = some o := (hl 0 (Nat.zero_lt_succ _)).symm
    simp only [List.length_cons, Region.lexHead, Bool.and_eq_true] at hB hk
    obtain ⟨⟨hr, hf⟩, hB'⟩ := hB
    have hr' : k ∈ Region.ready md ops L := List.contains_iff_mem.1 hr
    have hst : qOp P ops C k (wpQuiet P ops C E l) a := by unfold qOp; rw [h0]; exact h
    obtain ⟨v, hy, hK⟩ := yieldsIn_of_qOp h0 hst
    refine one h0 (Region.noSelect_spec hsel) hs hc hn (by omega) (fun L' a' hL => seqB_ready hL.1) l.length L a inv (Region.free_spec h0 hf) hr' hy (lex hsel hs hc hn l (k + 1) _ _ (fun j hj => ?_) (by omega) (inv.set hr' (by omega)) hB' hK)
    have := hl (j + 1) (Nat.succ_lt_succ hj)
    rwa [show k + (j + 1) = k + 1 + j by omega] at this
theorem getD_begun {m j : Nat} (hm : m ≤ ops.size) (d : Bool) (hj : j < ops.size) : (begun ops m).getD j d = decide (j < m) := by
  have hsz : (begun ops m).size = ops.size := by simp [begun]; omega
  have h1 : (begun ops m)[j]? = some (decide (j < m)) := by
    unfold begun
    rw [Array.getElem?_append]
    split <;> rename_i h
    · simp at h; simp [h]
    · simp at h
      have hr : (Array.replicate (ops.size - m) false)[j - m]? = some false := by rw [Array.getElem?_replicate]; simp; omega
      simp only [Array.size_replicate]
      rw [hr]
      simp; omega
  rw [Array.getD_eq_getD_getElem?, h1]
  rfl
theorem inv_begun (hm : m ≤ n) (hn : n < ops.size) (hh : shut md ops m = true) : Inv md ops m n (begun ops m) := by
  have hsz : (begun ops m).size = ops.size := by simp [begun]; omega
  refine ⟨hsz, fun j hj => by rw [getD_begun (by omega) _ (by omega)]; simpa using hj, fun j o hj hl e he hb => ?_, fun t h1 h2 => by rw [getD_begun (by omega) _ h2]; simp; omega⟩
  have hjs : j < ops.size := (Array.getElem?_eq_some_iff.1 hj).1
  rw [getD_begun (by omega) _ hjs, decide_eq_true_eq] at hl
  have h1 := List.all_eq_true.1 hh j (List.mem_range.2 hl)
  simp only [hj] at h1
  have h2 := Array.all_eq_true_iff_forall_mem.1 h1 e he
  simp only [hb, Bool.not_true, Bool.false_or, decide_eq_true_eq] at h2
  rw [getD_begun (by omega) _ (by omega)]
  simpa using h2
def okB (md : Region.Mode) (ops : Array Oper) (m n : Nat) : Bool :=
  Region.noSelect ops && decide (n < ops.size) && decide (m ≤ n) && shut md ops m && sinks md ops m n && Region.chainB md ops n && Region.lexHead md ops (ops.size - n) (n - m) m (begun ops m)
/-- Behind the first m. -/
theorem behind {Q : Exit → Act → World → Prop} {a : Act} {w : World} {l : List Oper} (hB : okB md l.toArray m n = true) (hC : C w)
    (h : wpQuiet P l.toArray C (fun a' => ∀ w', C w' → wpList P l.toArray Q (l.drop n) a' w') ((l.take n).drop m) a) : wpAny P md l.toArray Q (l.length - m) (begun l.toArray m) a w := by
  simp only [okB, Bool.and_eq_true, decide_eq_true_eq] at hB
  obtain ⟨⟨⟨⟨⟨⟨hsel, hn⟩, hm⟩, hh⟩, hs⟩, hc⟩, hlex⟩ := hB
  have hn' : n < l.length := by simpa using hn
  have htl : ((l.take n).drop m).length = n - m := by simp; omega
  have hdl : (l.drop n).length = l.toArray.size - n := by simp
  have H := lex (md := md) (g := l.toArray.size - n) hsel hs hc hn ((l.take n).drop m) m _ a (fun j hj => by
    rw [htl] at hj
    rw [List.getElem?_drop, List.getElem?_take, if_pos (by omega)]
    simp) (by rw [htl]; omega) (inv_begun hm hn hh) (by rw [htl]; exact hlex) h
  have := wpAny_of (Q := Q) (g := l.toArray.size - n) (fun L a' w' hw' hL => by
    have := wpAny_of_seq (md := md) (Q' := Q) (l.drop n) n L a' w' (fun j => by simp [List.getElem?_drop]) (by rw [hdl]; exact hL.1) (hL.2 w' hw')
    rwa [hdl] at this) _ _ _ _ hC H
  rwa [htl, show n - m + (l.toArray.size - n) = l.length - m by simp; omega] at this
/-- **No pure ones ahead.** -/
theorem region {id : Nat} {Q : Exit → Act → World → Prop} {a : Act} {w : World} {l : List Oper} (B n : Nat) (hm : P.follows .mixedOrders = true) (hB : okB .any l.toArray 0 n = true)
    (h : wpQuiet P l.toArray (fun w' => ∃ p : QB.By B w, w' = p.world) (fun a' => ∀ w', (∃ p : QB.By B w, w' = p.world) → wpList P l.toArray Q (l.drop n) a' w') (l.take n) a) : (Code.region id l.toArray true).wp P Q a w := by
  have := behind (C := fun w' => ∃ p : QB.By B w, w' = p.world) (w := w.drew) (md := .any) (Q := Q) hB ⟨⟨w.drew, (Below.refl _ _).drew⟩, rfl⟩ (by simpa using h)
  refine wp_region_any hm ?_
  simpa [begun] using this
end
end QT
namespace Pw
open Go Go.RowKit
open Tab
structure W (P : Program) (ops : Array Oper) (D : Nat → World → Prop) (cs : List Nat) (Q : Act → Prop) (k : Nat) (l : List Oper) (a : Act) : Prop where
  out : Ph.wpPh P ops D cs Q k l a
section
variable {P : Program} {D : Nat → World → Prop} {ns : List Nat} {ops : Array Oper} {Q : Act → Prop} {k : Nat} {a : Act} {o : Oper} {rest : List Oper}
theorem region {id : Nat} {Q : Exit → Act → World → Prop} {a : Act} {w : World} {l : List Oper} (D : Nat → World → Prop) (cs : List Nat) (hm : P.follows .mixedOrders = true) (hB : Ph.okB .any l.toArray cs = true) (hD : D 0 w.drew)
    (h : W P l.toArray D cs (fun a' => ∀ w', D cs.length w' → Q .normal a' w') 0 l a) : (Code.region id l.toArray true).wp P Q a w := Ph.wp_region_ph D cs hm hB hD h.out
end
end Pw
namespace TabArg
open Go Go.ChangeShapes Go.WideShapes Go.Deep Flat Tab
section
variable {H : Type} {enc : TypeId × Value → H} {P : Program} {w : World} {base : Nat} {spare : Nat → Bool} {held : Bool}
abbrev Tr (enc : TypeId × Value → H) (P : Program) (w : World) (base : Nat) (spare : Nat → Bool) (held : Bool) (t : TypeId) (v : Value) : Prop := ∃ n y, DataW.trod enc P w base spare held n t [v] = some y
theorem tr_int {t : TypeId} {v : Value} (hu : P.underlying t = some (.int .i64)) (h : Tr enc P w base spare held t v) : ∃ z, v = I z := by
  obtain ⟨n, y, h⟩ := h
  obtain ⟨z, hz, _⟩ := DataW.trod_int hu h
  exact ⟨z, by simpa using hz⟩
instance : Inhabited Gr := ⟨⟨[], [], ⟨none, 0⟩, ⟨none, 0⟩⟩⟩
end
end TabArg
namespace Cnt
open Go.ChangeShapes Go.WideShapes Go.ChangeAt Go.RowKit
/-- n, cut to a to b -/
def ct (n a b : Int) : Int := if n < a then a else if b < n then b else n
def more (n : Int) : Int := ct n 0 9999 + 1
end Cnt
namespace Lvl
open Go.ChangeShapes Go.WideShapes Go.ChangeAt Go.RowKit
open Tab Flat TabArg Go.Proofs.Fl
open Cnt (more ct)
open Secs (bits_call ord_cases ord_nan isnan_t isnan_f isnan_any ret_bool ret_int ret_float)
/-! a state -/
structure Lv where
  on : Bool
  bad : Int
deriving DecidableEq
def Lv.cells (s : Lv) : List Value := [.bool s.on, I s.bad]
section
variable {H : Type} {enc : TypeId × Value → H} {P : Program} {w : World} {base : Nat} {spare : Nat → Bool} {held : Bool}
end
/-! is a sample none? -/
def bad (x : Nat) : Bool := isn x || (decide (4696837146684686336 < key x) || decide (key x < -4696837146684686336))
/-! the two comparisons -/
/-! the parts -/
/-! ### by lvl.py -/
structure B3 (w u : World) (dc sc zc : Array Value) : Prop where
  d : u.heap[w.heap.size]? = some (.cells dc 65 (0, 0))
  s : u.heap[w.heap.size + 1]? = some (.cells sc 69 (0, 0))
  r : u.heap[w.heap.size + 1 + 1]? = some (.cells zc 69 (0, 0))
  bel : Below w.heap.size w u
theorem B3.drew {w u : World} {dc sc zc : Array Value} (h : B3 w u dc sc zc) : B3 w u.drew dc sc zc := ⟨h.d, h.s, h.r, h.bel.drew⟩
end Lvl
namespace Recs
open Go Go.ChangeShapes Go.WideShapes Go.Deep
section
variable {H : Type} {enc : TypeId × Value → H} {P : Program} {w : World} {base : Nat} {spare : Nat → Bool} {held : Bool}
end
end Recs
namespace Lvl
open Go.ChangeShapes Go.WideShapes Go.ChangeAt Go.RowKit
open Tab Flat TabArg Go.Proofs.Fl
open Cnt (more ct)
/-- Behind a call that leaves the old as it was, and behind the making of one block. -/
theorem kept {u u1 : World} {g : Nat} {o : Obj} (h : Below u.heap.size u u1) (hg : u.heap[g]? = some o) : u1.heap[g]? = some o := by
  have : g < u.heap.size := by
    obtain ⟨h, _⟩ := Array.getElem?_eq_some_iff.1 hg
    exact h
  rw [h.block g this, hg]
theorem kept_alloc {u : World} {g : Nat} {o p : Obj} (hg : u.heap[g]? = some o) : (u.alloc p).heap[g]? = some o := by
  have : g < u.heap.size := by
    obtain ⟨h, _⟩ := Array.getElem?_eq_some_iff.1 hg
    exact h
  rw [Below.heap_alloc _ _ _ this, hg]
/-! two boxes at the start -/
structure B2 (w u : World) (dc sc : Array Value) : Prop where
  d : u.heap[w.heap.size]? = some (.cells dc 65 (0, 0))
  s : u.heap[w.heap.size + 1]? = some (.cells sc 69 (0, 0))
  bel : Below w.heap.size w u
theorem B2.below {w u u1 : World} {dc sc : Array Value} (h : B2 w u dc sc) (hb : Below u.heap.size u u1) : B2 w u1 dc sc := ⟨kept hb h.d, kept hb h.s, h.bel.trans (hb.mono h.bel.size)⟩
theorem B2.alloc {w u : World} {dc sc : Array Value} (h : B2 w u dc sc) (o : Obj) : B2 w (u.alloc o) dc sc := ⟨kept_alloc h.d, kept_alloc h.s, h.bel.alloc h.bel.size _⟩
/-! samples that came in -/
/-! what a comparison tells -/
end Lvl
namespace Cl
open Go.ChangeShapes Go.WideShapes Go.ChangeAt Go.RowKit
open Tab PlaceM OnS Phx
open May (infoP St)
open SetP (with_any has_any)
/-- The phases that are On and that the rule holds for. -/
def whTo (r : Nat → Ph → Bool) : Nat → List Ph → List Int
  | _, [] => []
  | i, p :: l => (if (p.on && r i p) = true then [(i : Int)] else []) ++ whTo r (i + 1) l
theorem wh_append (r : Nat → Ph → Bool) : ∀ (i : Nat) (l m : List Ph), whTo r i (l ++ m) = whTo r i l ++ whTo r (i + l.length) m
  | i, [], m => rfl
  | i, p :: l, m => by
    rw [List.cons_append, whTo, whTo, wh_append r (i + 1) l m, List.append_assoc, List.length_cons, show i + 1 + l.length = i + (l.length + 1) by omega]
theorem wh_step {r : Nat → Ph → Bool} {l : List Ph} {q : Nat} {p : Ph} (h : l[q]? = some p) : whTo r 0 (l.take (q + 1)) = whTo r 0 (l.take q) ++ (if (p.on && r q p) = true then [(q : Int)] else []) := by
  have hi : q < l.length := (List.getElem?_eq_some_iff.1 h).1
  rw [PlaceM.take_succ h, wh_append, List.length_take, Nat.min_eq_left (by omega), Nat.zero_add]
  simp [whTo]
theorem wh_with {r : Nat → Ph → Bool} {l : List Ph} {q : Nat} {p : Ph} (h : l[q]? = some p) (hp : p.on = true) (hr : r q p = true) : SetM.withN (SetM.of (whTo r 0 (l.take q)) : Nat) q = SetM.of (whTo r 0 (l.take (q + 1))) := by
  rw [wh_step h, hp, hr, Bool.and_true, if_pos rfl, SetM.with_of]
theorem wh_skip {r : Nat → Ph → Bool} {l : List Ph} {q : Nat} {p : Ph} (h : l[q]? = some p) (hp : (p.on && r q p) = false) : SetM.of (whTo r 0 (l.take (q + 1))) = SetM.of (whTo r 0 (l.take q)) := by
  rw [wh_step h, hp]; simp
theorem mem_wh {r : Nat → Ph → Bool} {x : Int} : ∀ {i : Nat} {l : List Ph}, x ∈ whTo r i l ↔ ∃ (q : Nat) (p : Ph), x = ((i + q : Nat) : Int) ∧ l[q]? = some p ∧ (p.on && r (i + q) p) = true
  | i, [] => by simp [whTo]
  | i, u :: l => by
    rw [whTo, List.mem_append, mem_wh]
    constructor
    · rintro (h | ⟨q, p, rfl, hq, hp⟩)
      · split at h
        · rename_i hc
          simp at h
          exact ⟨0, u, by simpa using h, rfl, by simpa using hc⟩
        · simp at h
      · exact ⟨q + 1, p, by rw [Nat.add_right_comm, Nat.add_assoc], by simpa using hq, by rw [show i + (q + 1) = i + 1 + q by omega]; exact hp⟩
    · rintro ⟨q, p, rfl, hq, hp⟩
      cases q with
      | zero =>
        simp at hq
        subst hq
        rw [Nat.add_zero] at hp
        exact .inl (by rw [if_pos hp]; simp)
      | succ q =>
        exact .inr ⟨q, p, by rw [Nat.add_right_comm, Nat.add_assoc], by simpa using hq, by rw [show i + 1 + q = i + (q + 1) by omega]; exact hp⟩
/-- Their set. -/
def whS (r : Nat → Ph → Bool) (T : Tab) : Nat := SetM.of (whTo r 0 T.phases)
theorem wh_lt (r : Nat → Ph → Bool) (T : Tab) : whS r T < 256 := SetM.of_lt _
/-- What is in it. -/
theorem wh_test {r : Nat → Ph → Bool} {T : Tab} (h8 : T.phases.length = 8) {k : Nat} {p : Ph} (hp : T.phases[k]? = some p) : (whS r T).testBit k = (p.on && r k p) := by
  have hk : k < 8 := by have := (List.getElem?_eq_some_iff.1 hp).1; omega
  unfold whS
  rw [SetM.of_test, Bool.eq_iff_iff, decide_eq_true_iff, mem_wh]
  constructor
  · rintro ⟨⟨q, u, hq, hu, hc⟩, _⟩
    obtain rfl : k = q := by omega
    rw [Nat.zero_add] at hc
    obtain rfl := Option.some.inj (hp.symm.trans hu)
    exact hc
  · intro hc
    exact ⟨⟨k, p, by rw [Nat.zero_add], hp, by rw [Nat.zero_add]; exact hc⟩, hk⟩
theorem infoC2 : (Try.prog.info? 33).map (·.size) = some 2 := by kernel_rfl
theorem ret_int {k : IntKind} {a b : Int} (h : a = b) : Ending.returned (.int k a) = .returned (.int k b) := by rw [h]
theorem ret_bool {a b : Bool} (h : a = b) : Ending.returned (.bool a) = .returned (.bool b) := by rw [h]
theorem where1_any (T : Tab) (h : Hd) (w : World) (ht : IsTab w h T) (F : FuncId) (en : ∀ (args : Array Value) (w : World), (callFunc F args).run Try.prog w = .ok (.enter F args) w) (c1 : Nat) (r : Nat → Ph → Bool)
    (HR : Hid (∀ W (q : Nat) (u : Ph), Below w.heap.size w W → Calls Try.prog F #[.int .i64 q, .agg u.cells.toArray, .pointer (some ⟨c1, 0, none⟩)] W fun e w' => e = .returned (.bool (r q u)) ∧ Below W.heap.size W w')) :
    Calls Try.prog 34 #[.agg (T.cells h).toArray, .func (.func F) #[] #[.pointer (some ⟨c1, 0, none⟩)]] w fun e w' => e = .returned (.int .i64 (whS r T : Nat)) ∧ Below w.heap.size w w' := by
  have C := Lib.hid (cells_ok ht)
  generalize (T.cells h).toArray = cs at C ⊢
  have hsz := C.out.size
  have L8 := Lib.hid ht.ph
  have S0 := Lib.hid (St.box (cs := cs) ht)
  have RS : Hid ((whS r T : Nat) = SetM.of (whTo r 0 T.phases)) := Lib.hid rfl
  have IX : Hid (∀ (q : Nat) u, T.phases[q]? = some u → ∀ W, Sem.run Try.prog (Instr.index 24 (.agg (T.phases.flatMap Ph.cells).toArray) (.int .i64 q)) W = .ok (.agg u.cells.toArray) W) := Lib.hid (fun q u hu W => idx_phase L8.out hu W)
  have LI : Hid ((Try.prog.info? 24).map (·.size) = some (T.phases.flatMap Ph.cells).length) := Lib.hid (by rw [ph_len, L8.out]; exact infoPs)
  generalize whS r T = res at RS ⊢
  clear ht
  go_enter Try.func34, Try.ntmps34
  go_upto_region 1 with fail
  generalize w.alloc (.cells cs 31) = w1 at S0 ⊢
  clear hsz
  have LT : Hid (Lies w1 ⟨w.heap.size, 0, none⟩ (T.phases.flatMap Ph.cells)) := Lib.hid (lies_take S0.out.blk 104 _ C.out.phases)
  generalize T.phases.flatMap Ph.cells = fl at IX LI LT
  go_wp2_with (refine Row.wpList_load_g 24 _ rfl (by first | rfl | go_simp) ⟨w.heap.size, 0, none⟩ rfl fl _ LT.out Try.underlying24 rfl LI.out ?_)
  go_loopw [5, 10] (fun v g wr => ∃ q : Nat, q ≤ 8 ∧ g = .int .i64 q ∧ v = .int .i64 (SetM.of (whTo r 0 (T.phases.take q)) : Nat) ∧ Below w1.heap.size w1 wr) (fun _ g _ => 8 - (intOf g).toNat)
  case atStart => exact ⟨0, by omega, rfl, rfl, Below.refl _ _⟩
  case round =>
    obtain ⟨q, hq, rfl, rfl, hbel⟩ := hrel
    have HB := Lib.hid hbel
    clear hbel
    by_cases hlt : q < 8
    · have hv : T.phases[q]? = some (T.phases[q]'(by rw [L8.out]; exact hlt)) := List.getElem?_eq_getElem _
      generalize T.phases[q]'(by rw [L8.out]; exact hlt) = u at hv
      have HV := Lib.hid hv
      have hidx := IX.out q u hv
      clear hv
      have hsz := HB.out.size
      go_upto_region 5 with (refine Row.wpList_store_new rfl 23 _ _ rfl wr _ u.cells.toArray rfl rfl rfl infoP rfl (Ph.one _) ?_)
      clear hidx
      have hbn : Below w1.heap.size w1 (wr.alloc (.cells u.cells.toArray 23)) := HB.out.alloc hsz _
      have hg := Row.lies_of_block (heap_alloc_new wr (.cells u.cells.toArray 23))
      have HL := Lib.hid hg
      have HN := Lib.hid hbn
      clear hg hbn HB
      generalize wr.alloc (.cells u.cells.toArray 23) = w4 at HL HN ⊢
      generalize wr.heap.size = b4 at HL ⊢
      have c0 : w4.cell? ⟨b4, 0, none⟩ = some (.bool u.on) := by
        have := HL.out 0 _ rfl
        rwa [Tab.add_zero] at this
      cases hon : u.on with
      | true =>
        rw [hon] at c0
        have hcall := HR.out w4 q u (S0.out.bel.trans (HN.out.mono S0.out.bel.size))
        cases hr : r q u with
        | true =>
          rw [hr] at hcall
          have HS := Lib.hid (wh_with HV.out hon hr)
          clear hon hr
          generalize SetM.of (whTo r 0 (T.phases.take q)) = s0 at HS ⊢
          go_wp2_with (refine Row.wpList_load_g 23 _ rfl (by first | rfl | go_simp) ⟨b4, 0, none⟩ rfl u.cells _ HL.out Try.underlying23 rfl infoP ?_)
          refine hcall.mono ?_
          rintro e w5 ⟨rfl, hb5⟩
          go_wp2_with (go_at_call 64; refine (with_any _ _ _).mono ?_; rintro e w' ⟨rfl, rfl⟩)
          have HN5 := Lib.hid (HN.out.trans (hb5.mono HN.out.size))
          clear hb5 hcall
          go_roundw
          case rel => exact ⟨q + 1, by omega, by go_num, by rw [← HS.out], HN5.out⟩
          case measure => simp [intOf]; omega
        | false =>
          rw [hr] at hcall
          have HS := Lib.hid (wh_skip (r := r) HV.out (by rw [hon, hr]; rfl))
          clear hon hr
          generalize SetM.of (whTo r 0 (T.phases.take q)) = s0 at HS ⊢
          go_wp2_with (refine Row.wpList_load_g 23 _ rfl (by first | rfl | go_simp) ⟨b4, 0, none⟩ rfl u.cells _ HL.out Try.underlying23 rfl infoP ?_)
          refine hcall.mono ?_
          rintro e w5 ⟨rfl, hb5⟩
          go_wp2_with (go_at_call 64; refine (with_any _ _ _).mono ?_; rintro e w' ⟨rfl, rfl⟩)
          have HN5 := Lib.hid (HN.out.trans (hb5.mono HN.out.size))
          clear hb5 hcall
          go_roundw
          case rel => exact ⟨q + 1, by omega, by go_num, by rw [← HS.out], HN5.out⟩
          case measure => simp [intOf]; omega
      | false =>
        rw [hon] at c0
        have HS := Lib.hid (wh_skip (r := r) HV.out (by rw [hon]; rfl))
        clear hon
        generalize SetM.of (whTo r 0 (T.phases.take q)) = s0 at HS ⊢
        go_wp2
        go_roundw
        case rel => exact ⟨q + 1, by omega, by go_num, by rw [← HS.out], HN.out⟩
        case measure => simp [intOf]; omega
    · have HE : Hid (SetM.of (whTo r 0 (T.phases.take q)) = res) := Lib.hid (by rw [RS.out, List.take_of_length_le (by rw [L8.out]; omega)])
      have HF : Hid (Below w.heap.size w wr) := Lib.hid (S0.out.bel.trans (HB.out.mono S0.out.bel.size))
      generalize SetM.of (whTo r 0 (T.phases.take q)) = s0 at HE ⊢
      go_wp2
      go_ret
      exact ⟨ret_int (by rw [HE.out]), HF.out⟩
theorem where2_any (T : Tab) (h : Hd) (w : World) (ht : IsTab w h T) (F : FuncId) (en : ∀ (args : Array Value) (w : World), (callFunc F args).run Try.prog w = .ok (.enter F args) w) (c1 c2 : Nat) (r : Nat → Ph → Bool)
    (HR : Hid (∀ W (q : Nat) (u : Ph), Below w.heap.size w W → Calls Try.prog F #[.int .i64 q, .agg u.cells.toArray, .pointer (some ⟨c1, 0, none⟩), .pointer (some ⟨c2, 0, none⟩)] W fun e w' => e = .returned (.bool (r q u)) ∧ Below W.heap.size W w')) :
    Calls Try.prog 34 #[.agg (T.cells h).toArray, .func (.func F) #[] #[.pointer (some ⟨c1, 0, none⟩), .pointer (some ⟨c2, 0, none⟩)]] w fun e w' => e = .returned (.int .i64 (whS r T : Nat)) ∧ Below w.heap.size w w' := by
  have C := Lib.hid (cells_ok ht)
  generalize (T.cells h).toArray = cs at C ⊢
  have hsz := C.out.size
  have L8 := Lib.hid ht.ph
  have S0 := Lib.hid (St.box (cs := cs) ht)
  have RS : Hid ((whS r T : Nat) = SetM.of (whTo r 0 T.phases)) := Lib.hid rfl
  have IX : Hid (∀ (q : Nat) u, T.phases[q]? = some u → ∀ W, Sem.run Try.prog (Instr.index 24 (.agg (T.phases.flatMap Ph.cells).toArray) (.int .i64 q)) W = .ok (.agg u.cells.toArray) W) := Lib.hid (fun q u hu W => idx_phase L8.out hu W)
  have LI : Hid ((Try.prog.info? 24).map (·.size) = some (T.phases.flatMap Ph.cells).length) := Lib.hid (by rw [ph_len, L8.out]; exact infoPs)
  generalize whS r T = res at RS ⊢
  clear ht
  go_enter Try.func34, Try.ntmps34
  go_upto_region 1 with fail
  generalize w.alloc (.cells cs 31) = w1 at S0 ⊢
  clear hsz
  have LT : Hid (Lies w1 ⟨w.heap.size, 0, none⟩ (T.phases.flatMap Ph.cells)) := Lib.hid (lies_take S0.out.blk 104 _ C.out.phases)
  generalize T.phases.flatMap Ph.cells = fl at IX LI LT
  go_wp2_with (refine Row.wpList_load_g 24 _ rfl (by first | rfl | go_simp) ⟨w.heap.size, 0, none⟩ rfl fl _ LT.out Try.underlying24 rfl LI.out ?_)
  go_loopw [5, 10] (fun v g wr => ∃ q : Nat, q ≤ 8 ∧ g = .int .i64 q ∧ v = .int .i64 (SetM.of (whTo r 0 (T.phases.take q)) : Nat) ∧ Below w1.heap.size w1 wr) (fun _ g _ => 8 - (intOf g).toNat)
  case atStart => exact ⟨0, by omega, rfl, rfl, Below.refl _ _⟩
  case round =>
    obtain ⟨q, hq, rfl, rfl, hbel⟩ := hrel
    have HB := Lib.hid hbel
    clear hbel
    by_cases hlt : q < 8
    · have hv : T.phases[q]? = some (T.phases[q]'(by rw [L8.out]; exact hlt)) := List.getElem?_eq_getElem _
      generalize T.phases[q]'(by rw [L8.out]; exact hlt) = u at hv
      have HV := Lib.hid hv
      have hidx := IX.out q u hv
      clear hv
      have hsz := HB.out.size
      go_upto_region 5 with (refine Row.wpList_store_new rfl 23 _ _ rfl wr _ u.cells.toArray rfl rfl rfl infoP rfl (Ph.one _) ?_)
      clear hidx
      have hbn : Below w1.heap.size w1 (wr.alloc (.cells u.cells.toArray 23)) := HB.out.alloc hsz _
      have hg := Row.lies_of_block (heap_alloc_new wr (.cells u.cells.toArray 23))
      have HL := Lib.hid hg
      have HN := Lib.hid hbn
      clear hg hbn HB
      generalize wr.alloc (.cells u.cells.toArray 23) = w4 at HL HN ⊢
      generalize wr.heap.size = b4 at HL ⊢
      have c0 : w4.cell? ⟨b4, 0, none⟩ = some (.bool u.on) := by
        have := HL.out 0 _ rfl
        rwa [Tab.add_zero] at this
      cases hon : u.on with
      | true =>
        rw [hon] at c0
        have hcall := HR.out w4 q u (S0.out.bel.trans (HN.out.mono S0.out.bel.size))
        cases hr : r q u with
        | true =>
          rw [hr] at hcall
          have HS := Lib.hid (wh_with HV.out hon hr)
          clear hon hr
          generalize SetM.of (whTo r 0 (T.phases.take q)) = s0 at HS ⊢
          go_wp2_with (refine Row.wpList_load_g 23 _ rfl (by first | rfl | go_simp) ⟨b4, 0, none⟩ rfl u.cells _ HL.out Try.underlying23 rfl infoP ?_)
          refine hcall.mono ?_
          rintro e w5 ⟨rfl, hb5⟩
          go_wp2_with (go_at_call 64; refine (with_any _ _ _).mono ?_; rintro e w' ⟨rfl, rfl⟩)
          have HN5 := Lib.hid (HN.out.trans (hb5.mono HN.out.size))
          clear hb5 hcall
          go_roundw
          case rel => exact ⟨q + 1, by omega, by go_num, by rw [← HS.out], HN5.out⟩
          case measure => simp [intOf]; omega
        | false =>
          rw [hr] at hcall
          have HS := Lib.hid (wh_skip (r := r) HV.out (by rw [hon, hr]; rfl))
          clear hon hr
          generalize SetM.of (whTo r 0 (T.phases.take q)) = s0 at HS ⊢
          go_wp2_with (refine Row.wpList_load_g 23 _ rfl (by first | rfl | go_simp) ⟨b4, 0, none⟩ rfl u.cells _ HL.out Try.underlying23 rfl infoP ?_)
          refine hcall.mono ?_
          rintro e w5 ⟨rfl, hb5⟩
          go_wp2_with (go_at_call 64; refine (with_any _ _ _).mono ?_; rintro e w' ⟨rfl, rfl⟩)
          have HN5 := Lib.hid (HN.out.trans (hb5.mono HN.out.size))
          clear hb5 hcall
          go_roundw
          case rel => exact ⟨q + 1, by omega, by go_num, by rw [← HS.out], HN5.out⟩
          case measure => simp [intOf]; omega
      | false =>
        rw [hon] at c0
        have HS := Lib.hid (wh_skip (r := r) HV.out (by rw [hon]; rfl))
        clear hon
        generalize SetM.of (whTo r 0 (T.phases.take q)) = s0 at HS ⊢
        go_wp2
        go_roundw
        case rel => exact ⟨q + 1, by omega, by go_num, by rw [← HS.out], HN.out⟩
        case measure => simp [intOf]; omega
    · have HE : Hid (SetM.of (whTo r 0 (T.phases.take q)) = res) := Lib.hid (by rw [RS.out, List.take_of_length_le (by rw [L8.out]; omega)])
      have HF : Hid (Below w.heap.size w wr) := Lib.hid (S0.out.bel.trans (HB.out.mono S0.out.bel.size))
      generalize SetM.of (whTo r 0 (T.phases.take q)) = s0 at HE ⊢
      go_wp2
      go_ret
      exact ⟨ret_int (by rw [HE.out]), HF.out⟩
theorem where3_any (T : Tab) (h : Hd) (w : World) (ht : IsTab w h T) (F : FuncId) (en : ∀ (args : Array Value) (w : World), (callFunc F args).run Try.prog w = .ok (.enter F args) w) (c1 c2 c3 : Nat) (r : Nat → Ph → Bool)
    (HR : Hid (∀ W (q : Nat) (u : Ph), Below w.heap.size w W → Calls Try.prog F #[.int .i64 q, .agg u.cells.toArray, .pointer (some ⟨c1, 0, none⟩), .pointer (some ⟨c2, 0, none⟩), .pointer (some ⟨c3, 0, none⟩)] W fun e w' => e = .returned (.bool (r q u)) ∧ Below W.heap.size W w')) :
    Calls Try.prog 34 #[.agg (T.cells h).toArray, .func (.func F) #[] #[.pointer (some ⟨c1, 0, none⟩), .pointer (some ⟨c2, 0, none⟩), .pointer (some ⟨c3, 0, none⟩)]] w fun e w' => e = .returned (.int .i64 (whS r T : Nat)) ∧ Below w.heap.size w w' := by
  have C := Lib.hid (cells_ok ht)
  generalize (T.cells h).toArray = cs at C ⊢
  have hsz := C.out.size
  have L8 := Lib.hid ht.ph
  have S0 := Lib.hid (St.box (cs := cs) ht)
  have RS : Hid ((whS r T : Nat) = SetM.of (whTo r 0 T.phases)) := Lib.hid rfl
  have IX : Hid (∀ (q : Nat) u, T.phases[q]? = some u → ∀ W, Sem.run Try.prog (Instr.index 24 (.agg (T.phases.flatMap Ph.cells).toArray) (.int .i64 q)) W = .ok (.agg u.cells.toArray) W) := Lib.hid (fun q u hu W => idx_phase L8.out hu W)
  have LI : Hid ((Try.prog.info? 24).map (·.size) = some (T.phases.flatMap Ph.cells).length) := Lib.hid (by rw [ph_len, L8.out]; exact infoPs)
  generalize whS r T = res at RS ⊢
  clear ht
  go_enter Try.func34, Try.ntmps34
  go_upto_region 1 with fail
  generalize w.alloc (.cells cs 31) = w1 at S0 ⊢
  clear hsz
  have LT : Hid (Lies w1 ⟨w.heap.size, 0, none⟩ (T.phases.flatMap Ph.cells)) := Lib.hid (lies_take S0.out.blk 104 _ C.out.phases)
  generalize T.phases.flatMap Ph.cells = fl at IX LI LT
  go_wp2_with (refine Row.wpList_load_g 24 _ rfl (by first | rfl | go_simp) ⟨w.heap.size, 0, none⟩ rfl fl _ LT.out Try.underlying24 rfl LI.out ?_)
  go_loopw [5, 10] (fun v g wr => ∃ q : Nat, q ≤ 8 ∧ g = .int .i64 q ∧ v = .int .i64 (SetM.of (whTo r 0 (T.phases.take q)) : Nat) ∧ Below w1.heap.size w1 wr) (fun _ g _ => 8 - (intOf g).toNat)
  case atStart => exact ⟨0, by omega, rfl, rfl, Below.refl _ _⟩
  case round =>
    obtain ⟨q, hq, rfl, rfl, hbel⟩ := hrel
    have HB := Lib.hid hbel
    clear hbel
    by_cases hlt : q < 8
    · have hv : T.phases[q]? = some (T.phases[q]'(by rw [L8.out]; exact hlt)) := List.getElem?_eq_getElem _
      generalize T.phases[q]'(by rw [L8.out]; exact hlt) = u at hv
      have HV := Lib.hid hv
      have hidx := IX.out q u hv
      clear hv
      have hsz := HB.out.size
      go_upto_region 5 with (refine Row.wpList_store_new rfl 23 _ _ rfl wr _ u.cells.toArray rfl rfl rfl infoP rfl (Ph.one _) ?_)
      clear hidx
      have hbn : Below w1.heap.size w1 (wr.alloc (.cells u.cells.toArray 23)) := HB.out.alloc hsz _
      have hg := Row.lies_of_block (heap_alloc_new wr (.cells u.cells.toArray 23))
      have HL := Lib.hid hg
      have HN := Lib.hid hbn
      clear hg hbn HB
      generalize wr.alloc (.cells u.cells.toArray 23) = w4 at HL HN ⊢
      generalize wr.heap.size = b4 at HL ⊢
      have c0 : w4.cell? ⟨b4, 0, none⟩ = some (.bool u.on) := by
        have := HL.out 0 _ rfl
        rwa [Tab.add_zero] at this
      cases hon : u.on with
      | true =>
        rw [hon] at c0
        have hcall := HR.out w4 q u (S0.out.bel.trans (HN.out.mono S0.out.bel.size))
        cases hr : r q u with
        | true =>
          rw [hr] at hcall
          have HS := Lib.hid (wh_with HV.out hon hr)
          clear hon hr
          generalize SetM.of (whTo r 0 (T.phases.take q)) = s0 at HS ⊢
          go_wp2_with (refine Row.wpList_load_g 23 _ rfl (by first | rfl | go_simp) ⟨b4, 0, none⟩ rfl u.cells _ HL.out Try.underlying23 rfl infoP ?_)
          refine hcall.mono ?_
          rintro e w5 ⟨rfl, hb5⟩
          go_wp2_with (go_at_call 64; refine (with_any _ _ _).mono ?_; rintro e w' ⟨rfl, rfl⟩)
          have HN5 := Lib.hid (HN.out.trans (hb5.mono HN.out.size))
          clear hb5 hcall
          go_roundw
          case rel => exact ⟨q + 1, by omega, by go_num, by rw [← HS.out], HN5.out⟩
          case measure => simp [intOf]; omega
        | false =>
          rw [hr] at hcall
          have HS := Lib.hid (wh_skip (r := r) HV.out (by rw [hon, hr]; rfl))
          clear hon hr
          generalize SetM.of (whTo r 0 (T.phases.take q)) = s0 at HS ⊢
          go_wp2_with (refine Row.wpList_load_g 23 _ rfl (by first | rfl | go_simp) ⟨b4, 0, none⟩ rfl u.cells _ HL.out Try.underlying23 rfl infoP ?_)
          refine hcall.mono ?_
          rintro e w5 ⟨rfl, hb5⟩
          go_wp2_with (go_at_call 64; refine (with_any _ _ _).mono ?_; rintro e w' ⟨rfl, rfl⟩)
          have HN5 := Lib.hid (HN.out.trans (hb5.mono HN.out.size))
          clear hb5 hcall
          go_roundw
          case rel => exact ⟨q + 1, by omega, by go_num, by rw [← HS.out], HN5.out⟩
          case measure => simp [intOf]; omega
      | false =>
        rw [hon] at c0
        have HS := Lib.hid (wh_skip (r := r) HV.out (by rw [hon]; rfl))
        clear hon
        generalize SetM.of (whTo r 0 (T.phases.take q)) = s0 at HS ⊢
        go_wp2
        go_roundw
        case rel => exact ⟨q + 1, by omega, by go_num, by rw [← HS.out], HN.out⟩
        case measure => simp [intOf]; omega
    · have HE : Hid (SetM.of (whTo r 0 (T.phases.take q)) = res) := Lib.hid (by rw [RS.out, List.take_of_length_le (by rw [L8.out]; omega)])
      have HF : Hid (Below w.heap.size w wr) := Lib.hid (S0.out.bel.trans (HB.out.mono S0.out.bel.size))
      generalize SetM.of (whTo r 0 (T.phases.take q)) = s0 at HE ⊢
      go_wp2
      go_ret
      exact ⟨ret_int (by rw [HE.out]), HF.out⟩
/-- The rules. -/
def rHeld (here : Int) (q : Nat) (u : Ph) : Bool := SetM.has here q || u.recall == 2
def rCar (green car here : Int) (q : Nat) (u : Ph) : Bool := !SetM.has green q && (SetM.has car q || (u.lock && SetM.has here q) || (u.recall == 1 || u.recall == 2))
def rFoot (walk foot push : Int) (q : Nat) (u : Ph) : Bool := decide (0 < u.walk) && !SetM.has walk q && (SetM.has foot q || SetM.has push q || u.recall == 3)
def rWant (car foot held : Int) (q : Nat) (u : Ph) : Bool := SetM.has car q || SetM.has held q || (SetM.has foot q && decide (0 < u.walk))
/-- What a block holds, then and later. -/
abbrev Keeps (W : World) (b j : Nat) (x : Int) : Prop := Hid (∀ W', Below W.heap.size W W' → W'.cell? ⟨b, j, none⟩ = some (I x))
theorem Keeps.next {W V : World} {b j : Nat} {x : Int} (h : Keeps W b j x) (hb : Below W.heap.size W V) : Keeps V b j x := Lib.hid (fun W' hw => h.out W' (hb.trans (hw.mono hb.size)))
theorem walks_any (u : Ph) (W : World) : Calls Try.prog 41 #[.agg u.cells.toArray] W fun e w' => e = .returned (.bool (decide (0 < u.walk))) ∧ Below W.heap.size W w' := by
  have h0 := (Blk.Bks.nil W).alloc u.cells.toArray 23
  go_enter Try.func41, Try.ntmps41
  go_upto_region 1 with fail
  generalize World.alloc W _ = v at h0 ⊢
  generalize W.heap.size = g at h0 ⊢
  have H0 := Lib.hid h0
  clear h0
  have k8 : v.cell? ⟨g, 8, none⟩ = some (I u.walk) := H0.out.cell 0 8 rfl rfl
  go_wp2
  go_ret
  exact ⟨rfl, H0.out.bel⟩
theorem recalled_any (u : Ph) (W : World) : Calls Try.prog 39 #[.agg u.cells.toArray] W fun e w' => e = .returned (.bool (u.recall == 1 || u.recall == 2)) ∧ Below W.heap.size W w' := by
  have h0 := (Blk.Bks.nil W).alloc u.cells.toArray 23
  cases h1 : (u.recall == 1) with
  | true =>
    have HB : Hid ((true || u.recall == 2) = true) := Lib.hid rfl
    go_enter Try.func39, Try.ntmps39
    go_upto_region 1 with fail
    generalize World.alloc W _ = v at h0 ⊢
    generalize W.heap.size = g at h0 ⊢
    have H0 := Lib.hid h0
    clear h0
    have k10 : v.cell? ⟨g, 10, none⟩ = some (I u.recall) := H0.out.cell 0 10 rfl rfl
    go_wp2
    go_ret
    exact ⟨ret_bool (by first | rfl | simp), H0.out.bel⟩
  | false =>
    have HB : Hid ((false || u.recall == 2) = (u.recall == 2)) := Lib.hid rfl
    go_enter Try.func39, Try.ntmps39
    go_upto_region 1 with fail
    generalize World.alloc W _ = v at h0 ⊢
    generalize W.heap.size = g at h0 ⊢
    have H0 := Lib.hid h0
    clear h0
    have k10 : v.cell? ⟨g, 10, none⟩ = some (I u.recall) := H0.out.cell 0 10 rfl rfl
    go_wp2
    go_ret
    exact ⟨ret_bool (by rw [HB.out]), H0.out.bel⟩
theorem held1_is {here : Int} {W : World} {b1 : Nat} (Khere : Keeps W b1 0 here) (q : Nat) (u : Ph) :
    Calls Try.prog 35 #[.int .i64 q, .agg u.cells.toArray, .pointer (some ⟨b1, 0, none⟩)] W fun e w' => e = .returned (.bool (rHeld here q u)) ∧ Below W.heap.size W w' := by
  have h0 := (Blk.Bks.nil W).alloc u.cells.toArray 23
  obtain ⟨r, hr⟩ : ∃ r, rHeld here q u = r := ⟨_, rfl⟩
  rw [hr]
  unfold rHeld at hr
  cases hh : SetM.has here q with
  | true =>
    rw [hh] at hr
    have HR := Lib.hid hr
    clear hr
    go_enter Try.func35, Try.ntmps35
    go_upto_region 1 with fail
    generalize World.alloc W _ = v at h0 ⊢
    generalize W.heap.size = g at h0 ⊢
    have H0 := Lib.hid h0
    clear h0
    have k_here := Khere.out v H0.out.bel
    have k10 : v.cell? ⟨g, 10, none⟩ = some (I u.recall) := H0.out.cell 0 10 rfl rfl
    go_wp2_with (go_at_call 36; refine (has_any _ _ _).mono ?_; rintro e w' ⟨rfl, rfl⟩; first | rw [hh])
    go_ret
    exact ⟨ret_bool (by rw [← HR.out]; first | rfl | simp), H0.out.bel⟩
  | false =>
    rw [hh] at hr
    have HR := Lib.hid hr
    clear hr
    go_enter Try.func35, Try.ntmps35
    go_upto_region 1 with fail
    generalize World.alloc W _ = v at h0 ⊢
    generalize W.heap.size = g at h0 ⊢
    have H0 := Lib.hid h0
    clear h0
    have k_here := Khere.out v H0.out.bel
    have k10 : v.cell? ⟨g, 10, none⟩ = some (I u.recall) := H0.out.cell 0 10 rfl rfl
    go_wp2_with (go_at_call 36; refine (has_any _ _ _).mono ?_; rintro e w' ⟨rfl, rfl⟩; first | rw [hh])
    go_ret
    exact ⟨ret_bool (by rw [← HR.out]; first | rfl | simp), H0.out.bel⟩
theorem want1_is {car foot held : Int} {W : World} {b1 b2 : Nat} (Kcar : Keeps W b1 0 car) (Kfoot : Keeps W b1 1 foot) (Kheld : Keeps W b2 0 held) (q : Nat) (u : Ph) :
    Calls Try.prog 42 #[.int .i64 q, .agg u.cells.toArray, .pointer (some ⟨b1, 0, none⟩), .pointer (some ⟨b2, 0, none⟩)] W fun e w' => e = .returned (.bool (rWant car foot held q u)) ∧ Below W.heap.size W w' := by
  have h0 := (Blk.Bks.nil W).alloc u.cells.toArray 23
  obtain ⟨r, hr⟩ : ∃ r, rWant car foot held q u = r := ⟨_, rfl⟩
  rw [hr]
  unfold rWant at hr
  cases hc : SetM.has car q with
  | true =>
    rw [hc] at hr
    have HR := Lib.hid hr
    clear hr
    go_enter Try.func42, Try.ntmps42
    go_upto_region 1 with fail
    generalize World.alloc W _ = v at h0 ⊢
    generalize W.heap.size = g at h0 ⊢
    have H0 := Lib.hid h0
    clear h0
    have k_car := Kcar.out v H0.out.bel
    have k_foot := Kfoot.out v H0.out.bel
    have k_held := Kheld.out v H0.out.bel
    go_wp2_with (go_at_call 36; refine (has_any _ _ _).mono ?_; rintro e w' ⟨rfl, rfl⟩; first | rw [hc])
    go_ret
    exact ⟨ret_bool (by rw [← HR.out]; first | rfl | simp), H0.out.bel⟩
  | false =>
    rw [hc] at hr
    cases hh : SetM.has held q with
    | true =>
      rw [hh] at hr
      have HR := Lib.hid hr
      clear hr
      go_enter Try.func42, Try.ntmps42
      go_upto_region 1 with fail
      generalize World.alloc W _ = v at h0 ⊢
      generalize W.heap.size = g at h0 ⊢
      have H0 := Lib.hid h0
      clear h0
      have k_car := Kcar.out v H0.out.bel
      have k_foot := Kfoot.out v H0.out.bel
      have k_held := Kheld.out v H0.out.bel
      go_wp2_with (go_at_call 36; refine (has_any _ _ _).mono ?_; rintro e w' ⟨rfl, rfl⟩; first | rw [hc] | rw [hh])
      go_ret
      exact ⟨ret_bool (by rw [← HR.out]; first | rfl | simp), H0.out.bel⟩
    | false =>
      rw [hh] at hr
      cases hf : SetM.has foot q with
      | true =>
        rw [hf] at hr
        have HR := Lib.hid hr
        clear hr
        go_enter Try.func42, Try.ntmps42
        go_upto_region 1 with fail
        generalize World.alloc W _ = v at h0 ⊢
        generalize W.heap.size = g at h0 ⊢
        have H0 := Lib.hid h0
        clear h0
        have k_car := Kcar.out v H0.out.bel
        have k_foot := Kfoot.out v H0.out.bel
        have k_held := Kheld.out v H0.out.bel
        go_wp2_with (first | (go_at_call 36; refine (has_any _ _ _).mono ?_; rintro e w' ⟨rfl, rfl⟩; first | rw [hc] | rw [hh] | rw [hf]) | (refine Row.wpList_load_g 23 _ rfl (by first | rfl | go_simp) ⟨g, 0, none⟩ rfl u.cells _ (by have := Row.lies_of_block (H0.out.at 0 rfl); simpa using this) Try.underlying23 rfl infoP ?_) | (go_at_call 41; refine (walks_any _ _).mono ?_; rintro e w2 ⟨rfl, hb2⟩))
        go_ret
        exact ⟨ret_bool (by rw [← HR.out]; first | rfl | simp), H0.out.bel.trans (hb2.mono H0.out.bel.size)⟩
      | false =>
        rw [hf] at hr
        have HR := Lib.hid hr
        clear hr
        go_enter Try.func42, Try.ntmps42
        go_upto_region 1 with fail
        generalize World.alloc W _ = v at h0 ⊢
        generalize W.heap.size = g at h0 ⊢
        have H0 := Lib.hid h0
        clear h0
        have k_car := Kcar.out v H0.out.bel
        have k_foot := Kfoot.out v H0.out.bel
        have k_held := Kheld.out v H0.out.bel
        go_wp2_with (go_at_call 36; refine (has_any _ _ _).mono ?_; rintro e w' ⟨rfl, rfl⟩; first | rw [hc] | rw [hh] | rw [hf])
        go_ret
        exact ⟨ret_bool (by rw [← HR.out]; first | rfl | simp), H0.out.bel⟩
theorem step1_is {green car here : Int} {W : World} {b1 b2 b3 : Nat} (Kgreen : Keeps W b1 0 green) (Kcar : Keeps W b2 0 car) (Khere : Keeps W b3 0 here) (q : Nat) (u : Ph) :
    Calls Try.prog 38 #[.int .i64 q, .agg u.cells.toArray, .pointer (some ⟨b1, 0, none⟩), .pointer (some ⟨b2, 0, none⟩), .pointer (some ⟨b3, 0, none⟩)] W fun e w' => e = .returned (.bool (rCar green car here q u)) ∧ Below W.heap.size W w' := by
  have h0 := (Blk.Bks.nil W).alloc u.cells.toArray 23
  obtain ⟨r, hr⟩ : ∃ r, rCar green car here q u = r := ⟨_, rfl⟩
  rw [hr]
  unfold rCar at hr
  cases hg : SetM.has green q with
  | true =>
    rw [hg] at hr
    have HR := Lib.hid hr
    clear hr
    go_enter Try.func38, Try.ntmps38
    go_upto_region 1 with fail
    generalize World.alloc W _ = v at h0 ⊢
    generalize W.heap.size = g at h0 ⊢
    have H0 := Lib.hid h0
    clear h0
    have k_green := Kgreen.out v H0.out.bel
    have k_car := Kcar.out v H0.out.bel
    have k_here := Khere.out v H0.out.bel
    have k11 : v.cell? ⟨g, 11, none⟩ = some (.bool u.lock) := H0.out.cell 0 11 rfl rfl
    go_wp2_with (go_at_call 36; refine (has_any _ _ _).mono ?_; rintro e w' ⟨rfl, rfl⟩; first | rw [hg])
    go_ret
    exact ⟨ret_bool (by rw [← HR.out]; first | rfl | simp), H0.out.bel⟩
  | false =>
    rw [hg] at hr
    cases hc : SetM.has car q with
    | true =>
      rw [hc] at hr
      have HR := Lib.hid hr
      clear hr
      go_enter Try.func38, Try.ntmps38
      go_upto_region 1 with fail
      generalize World.alloc W _ = v at h0 ⊢
      generalize W.heap.size = g at h0 ⊢
      have H0 := Lib.hid h0
      clear h0
      have k_green := Kgreen.out v H0.out.bel
      have k_car := Kcar.out v H0.out.bel
      have k_here := Khere.out v H0.out.bel
      have k11 : v.cell? ⟨g, 11, none⟩ = some (.bool u.lock) := H0.out.cell 0 11 rfl rfl
      go_wp2_with (go_at_call 36; refine (has_any _ _ _).mono ?_; rintro e w' ⟨rfl, rfl⟩; first | rw [hg] | rw [hc])
      go_ret
      exact ⟨ret_bool (by rw [← HR.out]; first | rfl | simp), H0.out.bel⟩
    | false =>
      rw [hc] at hr
      cases hl : u.lock with
      | true =>
        rw [hl] at hr
        cases hh : SetM.has here q with
        | true =>
          rw [hh] at hr
          have HR := Lib.hid hr
          clear hr
          go_enter Try.func38, Try.ntmps38
          go_upto_region 1 with fail
          generalize World.alloc W _ = v at h0 ⊢
          generalize W.heap.size = g at h0 ⊢
          have H0 := Lib.hid h0
          clear h0
          have k_green := Kgreen.out v H0.out.bel
          have k_car := Kcar.out v H0.out.bel
          have k_here := Khere.out v H0.out.bel
          have k11 : v.cell? ⟨g, 11, none⟩ = some (.bool u.lock) := H0.out.cell 0 11 rfl rfl
          rw [hl] at k11
          go_wp2_with (go_at_call 36; refine (has_any _ _ _).mono ?_; rintro e w' ⟨rfl, rfl⟩; first | rw [hg] | rw [hc] | rw [hh])
          go_ret
          exact ⟨ret_bool (by rw [← HR.out]; first | rfl | simp), H0.out.bel⟩
        | false =>
          rw [hh] at hr
          have HR := Lib.hid hr
          clear hr
          go_enter Try.func38, Try.ntmps38
          go_upto_region 1 with fail
          generalize World.alloc W _ = v at h0 ⊢
          generalize W.heap.size = g at h0 ⊢
          have H0 := Lib.hid h0
          clear h0
          have k_green := Kgreen.out v H0.out.bel
          have k_car := Kcar.out v H0.out.bel
          have k_here := Khere.out v H0.out.bel
          have k11 : v.cell? ⟨g, 11, none⟩ = some (.bool u.lock) := H0.out.cell 0 11 rfl rfl
          rw [hl] at k11
          go_wp2_with (first | (go_at_call 36; refine (has_any _ _ _).mono ?_; rintro e w' ⟨rfl, rfl⟩; first | rw [hg] | rw [hc] | rw [hh]) | (refine Row.wpList_load_g 23 _ rfl (by first | rfl | go_simp) ⟨g, 0, none⟩ rfl u.cells _ (by have := Row.lies_of_block (H0.out.at 0 rfl); simpa using this) Try.underlying23 rfl infoP ?_) | (go_at_call 39; refine (recalled_any _ _).mono ?_; rintro e w2 ⟨rfl, hb2⟩))
          go_ret
          exact ⟨ret_bool (by rw [← HR.out]; first | rfl | simp), H0.out.bel.trans (hb2.mono H0.out.bel.size)⟩
      | false =>
        rw [hl] at hr
        have HR := Lib.hid hr
        clear hr
        go_enter Try.func38, Try.ntmps38
        go_upto_region 1 with fail
        generalize World.alloc W _ = v at h0 ⊢
        generalize W.heap.size = g at h0 ⊢
        have H0 := Lib.hid h0
        clear h0
        have k_green := Kgreen.out v H0.out.bel
        have k_car := Kcar.out v H0.out.bel
        have k_here := Khere.out v H0.out.bel
        have k11 : v.cell? ⟨g, 11, none⟩ = some (.bool u.lock) := H0.out.cell 0 11 rfl rfl
        rw [hl] at k11
        go_wp2_with (first | (go_at_call 36; refine (has_any _ _ _).mono ?_; rintro e w' ⟨rfl, rfl⟩; first | rw [hg] | rw [hc]) | (refine Row.wpList_load_g 23 _ rfl (by first | rfl | go_simp) ⟨g, 0, none⟩ rfl u.cells _ (by have := Row.lies_of_block (H0.out.at 0 rfl); simpa using this) Try.underlying23 rfl infoP ?_) | (go_at_call 39; refine (recalled_any _ _).mono ?_; rintro e w2 ⟨rfl, hb2⟩))
        go_ret
        exact ⟨ret_bool (by rw [← HR.out]; first | rfl | simp), H0.out.bel.trans (hb2.mono H0.out.bel.size)⟩
theorem step2_is {walk foot push : Int} {W : World} {b1 b2 b3 : Nat} (Kwalk : Keeps W b1 0 walk) (Kfoot : Keeps W b2 1 foot) (Kpush : Keeps W b3 0 push) (q : Nat) (u : Ph) :
    Calls Try.prog 40 #[.int .i64 q, .agg u.cells.toArray, .pointer (some ⟨b1, 0, none⟩), .pointer (some ⟨b2, 0, none⟩), .pointer (some ⟨b3, 0, none⟩)] W fun e w' => e = .returned (.bool (rFoot walk foot push q u)) ∧ Below W.heap.size W w' := by
  have h0 := (Blk.Bks.nil W).alloc u.cells.toArray 23
  obtain ⟨r, hr⟩ : ∃ r, rFoot walk foot push q u = r := ⟨_, rfl⟩
  rw [hr]
  unfold rFoot at hr
  cases hk : decide (0 < u.walk) with
  | true =>
    rw [hk] at hr
    cases hg : SetM.has walk q with
    | true =>
      rw [hg] at hr
      have HR := Lib.hid hr
      clear hr
      go_enter Try.func40, Try.ntmps40
      go_upto_region 1 with fail
      generalize World.alloc W _ = v at h0 ⊢
      generalize W.heap.size = g at h0 ⊢
      have H0 := Lib.hid h0
      clear h0
      go_wp2_with (refine Row.wpList_load_g 23 _ rfl (by first | rfl | go_simp) ⟨g, 0, none⟩ rfl u.cells _ (by have := Row.lies_of_block (H0.out.at 0 rfl); simpa using this) Try.underlying23 rfl infoP ?_)
      refine (walks_any _ _).mono ?_
      rintro e v2 ⟨rfl, hb2⟩
      rw [hk]
      have H2 := Lib.hid (H0.out.step hb2)
      clear hb2 H0
      have H0 := H2
      have k_walk := Kwalk.out v2 H0.out.bel
      have k_foot := Kfoot.out v2 H0.out.bel
      have k_push := Kpush.out v2 H0.out.bel
      have k10 : v2.cell? ⟨g, 10, none⟩ = some (I u.recall) := H0.out.cell 0 10 rfl rfl
      go_wp2_with (go_at_call 36; refine (has_any _ _ _).mono ?_; rintro e w' ⟨rfl, rfl⟩; first | rw [hg])
      go_ret
      exact ⟨ret_bool (by rw [← HR.out]; first | rfl | simp), H0.out.bel⟩
    | false =>
      rw [hg] at hr
      cases hc : SetM.has foot q with
      | true =>
        rw [hc] at hr
        have HR := Lib.hid hr
        clear hr
        go_enter Try.func40, Try.ntmps40
        go_upto_region 1 with fail
        generalize World.alloc W _ = v at h0 ⊢
        generalize W.heap.size = g at h0 ⊢
        have H0 := Lib.hid h0
        clear h0
        go_wp2_with (refine Row.wpList_load_g 23 _ rfl (by first | rfl | go_simp) ⟨g, 0, none⟩ rfl u.cells _ (by have := Row.lies_of_block (H0.out.at 0 rfl); simpa using this) Try.underlying23 rfl infoP ?_)
        refine (walks_any _ _).mono ?_
        rintro e v2 ⟨rfl, hb2⟩
        rw [hk]
        have H2 := Lib.hid (H0.out.step hb2)
        clear hb2 H0
        have H0 := H2
        have k_walk := Kwalk.out v2 H0.out.bel
        have k_foot := Kfoot.out v2 H0.out.bel
        have k_push := Kpush.out v2 H0.out.bel
        have k10 : v2.cell? ⟨g, 10, none⟩ = some (I u.recall) := H0.out.cell 0 10 rfl rfl
        go_wp2_with (go_at_call 36; refine (has_any _ _ _).mono ?_; rintro e w' ⟨rfl, rfl⟩; first | rw [hg] | rw [hc])
        go_ret
        exact ⟨ret_bool (by rw [← HR.out]; first | rfl | simp), H0.out.bel⟩
      | false =>
        rw [hc] at hr
        cases hp : SetM.has push q with
        | true =>
          rw [hp] at hr
          have HR := Lib.hid hr
          clear hr
          go_enter Try.func40, Try.ntmps40
          go_upto_region 1 with fail
          generalize World.alloc W _ = v at h0 ⊢
          generalize W.heap.size = g at h0 ⊢
          have H0 := Lib.hid h0
          clear h0
          go_wp2_with (refine Row.wpList_load_g 23 _ rfl (by first | rfl | go_simp) ⟨g, 0, none⟩ rfl u.cells _ (by have := Row.lies_of_block (H0.out.at 0 rfl); simpa using this) Try.underlying23 rfl infoP ?_)
          refine (walks_any _ _).mono ?_
          rintro e v2 ⟨rfl, hb2⟩
          rw [hk]
          have H2 := Lib.hid (H0.out.step hb2)
          clear hb2 H0
          have H0 := H2
          have k_walk := Kwalk.out v2 H0.out.bel
          have k_foot := Kfoot.out v2 H0.out.bel
          have k_push := Kpush.out v2 H0.out.bel
          have k10 : v2.cell? ⟨g, 10, none⟩ = some (I u.recall) := H0.out.cell 0 10 rfl rfl
          go_wp2_with (go_at_call 36; refine (has_any _ _ _).mono ?_; rintro e w' ⟨rfl, rfl⟩; first | rw [hg] | rw [hc] | rw [hp])
          go_ret
          exact ⟨ret_bool (by rw [← HR.out]; first | rfl | simp), H0.out.bel⟩
        | false =>
          rw [hp] at hr
          have HR := Lib.hid hr
          clear hr
          go_enter Try.func40, Try.ntmps40
          go_upto_region 1 with fail
          generalize World.alloc W _ = v at h0 ⊢
          generalize W.heap.size = g at h0 ⊢
          have H0 := Lib.hid h0
          clear h0
          go_wp2_with (refine Row.wpList_load_g 23 _ rfl (by first | rfl | go_simp) ⟨g, 0, none⟩ rfl u.cells _ (by have := Row.lies_of_block (H0.out.at 0 rfl); simpa using this) Try.underlying23 rfl infoP ?_)
          refine (walks_any _ _).mono ?_
          rintro e v2 ⟨rfl, hb2⟩
          rw [hk]
          have H2 := Lib.hid (H0.out.step hb2)
          clear hb2 H0
          have H0 := H2
          have k_walk := Kwalk.out v2 H0.out.bel
          have k_foot := Kfoot.out v2 H0.out.bel
          have k_push := Kpush.out v2 H0.out.bel
          have k10 : v2.cell? ⟨g, 10, none⟩ = some (I u.recall) := H0.out.cell 0 10 rfl rfl
          go_wp2_with (go_at_call 36; refine (has_any _ _ _).mono ?_; rintro e w' ⟨rfl, rfl⟩; first | rw [hg] | rw [hc] | rw [hp])
          go_ret
          exact ⟨ret_bool (by rw [← HR.out]; first | rfl | simp), H0.out.bel⟩
  | false =>
    rw [hk] at hr
    have HR := Lib.hid hr
    clear hr
    go_enter Try.func40, Try.ntmps40
    go_upto_region 1 with fail
    generalize World.alloc W _ = v at h0 ⊢
    generalize W.heap.size = g at h0 ⊢
    have H0 := Lib.hid h0
    clear h0
    go_wp2_with (refine Row.wpList_load_g 23 _ rfl (by first | rfl | go_simp) ⟨g, 0, none⟩ rfl u.cells _ (by have := Row.lies_of_block (H0.out.at 0 rfl); simpa using this) Try.underlying23 rfl infoP ?_)
    refine (walks_any _ _).mono ?_
    rintro e v2 ⟨rfl, hb2⟩
    rw [hk]
    have H2 := Lib.hid (H0.out.step hb2)
    clear hb2 H0
    have H0 := H2
    have k_walk := Kwalk.out v2 H0.out.bel
    have k_foot := Kfoot.out v2 H0.out.bel
    have k_push := Kpush.out v2 H0.out.bel
    have k10 : v2.cell? ⟨g, 10, none⟩ = some (I u.recall) := H0.out.cell 0 10 rfl rfl
    go_wp2_with (go_at_call 36; refine (has_any _ _ _).mono ?_; rintro e w' ⟨rfl, rfl⟩; first | rw [rfl])
    go_ret
    exact ⟨ret_bool (by rw [← HR.out]; first | rfl | simp), H0.out.bel⟩
end Cl
namespace QL
open Go Go.RowKit
open Tab
/-- A whole row is loaded in a walk by a class. -/
theorem wpQuiet_load {P : Program} {C : World → Prop} {ops : Array Oper} {Q : Act → Prop} {a : Act} {o : Oper} {rest : List Oper} (hw : Region.wanted o (yielded ops a.tmps) = true) (ty : TypeId) (x : Operand) (ho : o.op = .load ty x) (y : Addr) (hx : a.eval x = .pointer (some y))
    (cs : List Value) (d : TypeDesc) (hc : ∀ w, C w → Lies w y cs) (hu : P.underlying ty = some d) (hd : d.isRow = true) (hi : (P.info? ty).map (·.size) = some cs.length) (h : wpQuiet P ops C Q rest (a.put o.dst (.agg cs.toArray))) : wpQuiet P ops C Q (o :: rest) a :=
  wpQuiet_step fun K hK => by
    rw [if_pos hw]
    refine ⟨_, fun w hw' => ?_, hK _ h⟩
    unfold Oper.quietAt execOp
    simp only [ho, hx, Instr.loadAt, Instr.sureAddr, Sem.run_bind, Sem.run_pure, Result.andThen_ok, Row.run_loadVar_lies w y ty cs d (hc w hw') hu hd hi]
    exact ⟨rfl, rfl⟩
/-- A store whose run is known. -/
theorem wpList_store_run {P : Program} {ops : Array Oper} {rest : List Oper} {op : Oper} {a : Act} {w w' : World} {Q : Exit → Act → World → Prop} (hw : Region.wanted op (yielded ops a.tmps) = true) (ty : TypeId) (x y : Operand) (ho : op.op = .store ty x y) (p : Addr) (cells : Array Value)
    (hx : a.eval x = .pointer (some p)) (hy : a.eval y = .agg cells) (hr : (Instr.storeAt ty (.pointer (some p)) (.agg cells)).run P w = .ok () w') (h : wpList P ops Q rest (a.put op.dst undef) w') : wpList P ops Q (op :: rest) a w :=
  BigFrame.wpList_want hw fun _ hK => by
    unfold Oper.wp execOp
    simp only [ho, hx, hy, Sem.run_bind, hr, Result.andThen_ok, Sem.run_pure]
    exact hK _ _ h
end QL
namespace Cl
open Go.ChangeShapes Go.WideShapes Go.ChangeAt Go.RowKit
open Tab PlaceM OnS Phx QL
open May (infoP St)
open SetP (with_any has_any)
theorem held_any {T : Tab} {hd : Hd} {w : World} (ht : IsTab w hd T) (here : Int) :
    Calls Try.prog 11 #[.agg (T.cells hd).toArray, .int .i64 here] w fun e w' => e = .returned (.int .i64 (whS (rHeld here) T : Nat)) ∧ Below w.heap.size w w' := by
  have IA : Hid ((Try.prog.info? 31).map (·.size) = some (T.cells hd).length) := Lib.hid (by have := (cells_ok ht).size; rw [List.size_toArray] at this; rw [this]; exact May.infoT)
  have HT := Lib.hid ht
  have WH : Hid (∀ W b, Below w.heap.size w W → Keeps W b 0 here → Calls Try.prog 34 #[.agg (T.cells hd).toArray, .func (.func 35) #[] #[.pointer (some ⟨b, 0, none⟩)]] W fun e w' => e = .returned (.int .i64 (whS (rHeld here) T : Nat)) ∧ Below W.heap.size W w') := Lib.hid (fun W b hb k => where1_any T hd W (HT.out.below hb) 35 (fun args w => Go.Proofs.enters_of Try.func35 (by kernel_rfl) rfl args w) b (rHeld here) (Lib.hid (fun V q u hv => held1_is (k.next hv) q u)))
  clear HT ht
  generalize (whS (rHeld here) T : Nat) = res at WH ⊢
  generalize T.cells hd = c at *
  have h0 := ((Blk.Bks.nil w).alloc c.toArray 31).alloc #[I here] 3
  rw [show (w.alloc (.cells c.toArray 31)).heap.size = w.heap.size + 1 by simp] at h0
  go_enter Try.func11, Try.ntmps11
  go_upto_region 1 with fail
  generalize World.alloc (World.alloc w _) _ = u at h0 ⊢
  generalize hgh : w.heap.size + 1 = gh at h0 ⊢
  generalize w.heap.size = gt at h0 ⊢
  clear hgh
  have H0 := Lib.hid h0
  clear h0
  go_wp2_with (refine Row.wpList_load_g 31 _ rfl (by first | rfl | go_simp) ⟨gt, 0, none⟩ rfl c _ (by have := Row.lies_of_block (H0.out.at 1 rfl); simpa using this) Try.underlying31 rfl IA.out ?_)
  refine (WH.out u gh H0.out.bel (Lib.hid fun W' hb => (H0.out.step hb).cell 0 0 rfl rfl)).mono ?_
  rintro e u1 ⟨rfl, hb⟩
  have HF := Lib.hid (H0.out.bel.trans (hb.mono H0.out.bel.size))
  clear hb
  go_wp2
  go_ret
  exact ⟨rfl, HF.out⟩
theorem want_any {T : Tab} {hd : Hd} {w : World} (ht : IsTab w hd T) (car foot here : Int) :
    Calls Try.prog 15 #[.agg (T.cells hd).toArray, .agg #[I car, I foot], .int .i64 here] w fun e w' => e = .returned (.int .i64 (whS (rWant car foot (whS (rHeld here) T : Nat)) T : Nat)) ∧ Below w.heap.size w w' := by
  have IA : Hid ((Try.prog.info? 31).map (·.size) = some (T.cells hd).length) := Lib.hid (by have := (cells_ok ht).size; rw [List.size_toArray] at this; rw [this]; exact May.infoT)
  have HT := Lib.hid ht
  obtain ⟨hl, hhl⟩ : ∃ x, x = ((whS (rHeld here) T : Nat) : Int) := ⟨_, rfl⟩
  have HH : Hid (∀ W, Below w.heap.size w W → Calls Try.prog 11 #[.agg (T.cells hd).toArray, .int .i64 here] W fun e w' => e = .returned (.int .i64 hl) ∧ Below W.heap.size W w') := Lib.hid (fun W hb => by rw [hhl]; exact held_any (HT.out.below hb) here)
  rw [← hhl]
  clear hhl
  have WH : Hid (∀ W b b2, Below w.heap.size w W → Keeps W b 0 car → Keeps W b 1 foot → Keeps W b2 0 hl → Calls Try.prog 34 #[.agg (T.cells hd).toArray, .func (.func 42) #[] #[.pointer (some ⟨b, 0, none⟩), .pointer (some ⟨b2, 0, none⟩)]] W fun e w' => e = .returned (.int .i64 (whS (rWant car foot hl) T : Nat)) ∧ Below W.heap.size W w') := Lib.hid (fun W b b2 hb k k1 k2 => where2_any T hd W (HT.out.below hb) 42 (fun args w => Go.Proofs.enters_of Try.func42 (by kernel_rfl) rfl args w) b b2 (rWant car foot hl) (Lib.hid (fun V q u hv => want1_is (k.next hv) (k1.next hv) (k2.next hv) q u)))
  clear HT ht
  generalize (whS (rWant car foot hl) T : Nat) = res at WH ⊢
  generalize T.cells hd = c at *
  have h0 := ((Blk.Bks.nil w).alloc c.toArray 31).alloc #[I car, I foot] 33
  rw [show (w.alloc (.cells c.toArray 31)).heap.size = w.heap.size + 1 by simp] at h0
  go_enter Try.func15, Try.ntmps15
  go_upto_region 1 with fail
  generalize World.alloc (World.alloc w _) _ = u at h0 ⊢
  generalize hgh : w.heap.size + 1 = gh at h0 ⊢
  generalize w.heap.size = gt at h0 ⊢
  clear hgh
  have H0 := Lib.hid h0
  clear h0
  go_wp2_with (refine Row.wpList_load_g 31 _ rfl (by first | rfl | go_simp) ⟨gt, 0, none⟩ rfl c _ (by have := Row.lies_of_block (H0.out.at 1 rfl); simpa using this) Try.underlying31 rfl IA.out ?_)
  refine (HH.out u H0.out.bel).mono ?_
  rintro e u1 ⟨rfl, hb⟩
  have H1 := Lib.hid (H0.out.step hb)
  clear hb H0 HH
  go_upto_region 2 with fail
  have h2 := H1.out.alloc #[I hl] 3
  generalize World.alloc u1 _ = u2 at h2 ⊢
  generalize u1.heap.size = gl at h2 ⊢
  have H2 := Lib.hid h2
  clear h2 H1
  go_wp2_with (refine Row.wpList_load_g 31 _ rfl (by first | rfl | go_simp) ⟨gt, 0, none⟩ rfl c _ (by have := Row.lies_of_block (H2.out.at 2 rfl); simpa using this) Try.underlying31 rfl IA.out ?_)
  refine (WH.out u2 gh gl H2.out.bel (Lib.hid fun W' hb => (H2.out.step hb).cell 1 0 rfl rfl) (Lib.hid fun W' hb => (H2.out.step hb).cell 1 1 rfl rfl) (Lib.hid fun W' hb => (H2.out.step hb).cell 0 0 rfl rfl)).mono ?_
  rintro e u3 ⟨rfl, hb⟩
  have HF := Lib.hid (H2.out.bel.trans (hb.mono H2.out.bel.size))
  clear hb
  go_wp2
  go_ret
  exact ⟨rfl, HF.out⟩
theorem step_any {T : Tab} {hd : Hd} {w : World} (ht : IsTab w hd T) (car foot here push green walk : Int) :
    Calls Try.prog 13 #[.agg (T.cells hd).toArray, .agg #[I car, I foot], .int .i64 here, .int .i64 push, .int .i64 green, .int .i64 walk] w fun e w' => e = .returned (.agg #[I (whS (rCar green car here) T : Nat), I (whS (rFoot walk foot push) T : Nat)]) ∧ Below w.heap.size w w' := by
  have IA : Hid ((Try.prog.info? 31).map (·.size) = some (T.cells hd).length) := Lib.hid (by have := (cells_ok ht).size; rw [List.size_toArray] at this; rw [this]; exact May.infoT)
  have HT := Lib.hid ht
  have W1 : Hid (∀ W b1 b2 b3, Below w.heap.size w W → Keeps W b1 0 green → Keeps W b2 0 car → Keeps W b3 0 here → Calls Try.prog 34 #[.agg (T.cells hd).toArray, .func (.func 38) #[] #[.pointer (some ⟨b1, 0, none⟩), .pointer (some ⟨b2, 0, none⟩), .pointer (some ⟨b3, 0, none⟩)]] W fun e w' => e = .returned (.int .i64 (whS (rCar green car here) T : Nat)) ∧ Below W.heap.size W w') := Lib.hid (fun W b1 b2 b3 hb k k1 k2 => where3_any T hd W (HT.out.below hb) 38 (fun args w => Go.Proofs.enters_of Try.func38 (by kernel_rfl) rfl args w) b1 b2 b3 (rCar green car here) (Lib.hid (fun V q u hv => step1_is (k.next hv) (k1.next hv) (k2.next hv) q u)))
  have W2 : Hid (∀ W b1 b2 b3, Below w.heap.size w W → Keeps W b1 0 walk → Keeps W b2 1 foot → Keeps W b3 0 push → Calls Try.prog 34 #[.agg (T.cells hd).toArray, .func (.func 40) #[] #[.pointer (some ⟨b1, 0, none⟩), .pointer (some ⟨b2, 0, none⟩), .pointer (some ⟨b3, 0, none⟩)]] W fun e w' => e = .returned (.int .i64 (whS (rFoot walk foot push) T : Nat)) ∧ Below W.heap.size W w') := Lib.hid (fun W b1 b2 b3 hb k k1 k2 => where3_any T hd W (HT.out.below hb) 40 (fun args w => Go.Proofs.enters_of Try.func40 (by kernel_rfl) rfl args w) b1 b2 b3 (rFoot walk foot push) (Lib.hid (fun V q u hv => step2_is (k.next hv) (k1.next hv) (k2.next hv) q u)))
  clear HT ht
  generalize (whS (rCar green car here) T : Nat) = r1 at W1 ⊢
  generalize (whS (rFoot walk foot push) T : Nat) = r2 at W2 ⊢
  generalize T.cells hd = c at *
  have h0 := (((((((Blk.Bks.nil w).alloc c.toArray 31).alloc #[I car, I foot] 33).alloc #[I here] 3).alloc #[I push] 3).alloc #[I green] 3).alloc #[I walk] 3).alloc #[I 0, I 0] 33
  simp only [World.size_alloc, Nat.add_assoc, Nat.reduceAdd] at h0
  go_enter Try.func13, Try.ntmps13
  go_upto_region 1 with fail
  generalize World.alloc (World.alloc (World.alloc (World.alloc (World.alloc (World.alloc (World.alloc w _) _) _) _) _) _) _ = u at h0 ⊢
  generalize hg6 : w.heap.size + 6 = gr at h0 ⊢
  generalize hg5 : w.heap.size + 5 = gw at h0 ⊢
  generalize hg4 : w.heap.size + 4 = gg at h0 ⊢
  generalize hg3 : w.heap.size + 3 = gp at h0 ⊢
  generalize hg2 : w.heap.size + 2 = gh at h0 ⊢
  generalize hg1 : w.heap.size + 1 = gc at h0 ⊢
  generalize w.heap.size = gt at h0 ⊢
  clear hg1 hg2 hg3 hg4 hg5 hg6
  have H0 := Lib.hid h0
  clear h0
  go_upto_region 3 with fail
  refine QT.region u.heap.size 7 (by kernel_rfl) (by kernel_rfl) ?_
  simp only [List.take_succ_cons, List.take_zero]
  have P0 : Hid (∀ W, Below u.heap.size u W → Below w.heap.size w W) := Lib.hid (fun W b => H0.out.bel.trans (b.mono H0.out.bel.size))
  repeat first
    | (refine wpQuiet_load rfl 31 _ rfl ⟨gt, 0, none⟩ rfl c _ (fun w' ⟨p, e⟩ => by rw [e]; have := Row.lies_of_block ((H0.out.by p).at 6 rfl); simpa using this) Try.underlying31 rfl IA.out ?_
       dsimp only [Act.put]
       simp only [List.setIfInBounds_toArray, List.set_cons_zero, List.set_cons_succ])
    | (quiet_step (first
        | (go_at_call 34; with_reducible exact QB.call_of (Nat.le_refl _) (fun b => W1.out _ gg gc gh (P0.out _ b) (Lib.hid fun W' hb => ((H0.out.step b).step hb).cell 2 0 rfl rfl) (Lib.hid fun W' hb => ((H0.out.step b).step hb).cell 5 0 rfl rfl) (Lib.hid fun W' hb => ((H0.out.step b).step hb).cell 4 0 rfl rfl)))
        | (go_at_call 34; with_reducible exact QB.call_of (Nat.le_refl _) (fun b => W2.out _ gw gc gp (P0.out _ b) (Lib.hid fun W' hb => ((H0.out.step b).step hb).cell 1 0 rfl rfl) (Lib.hid fun W' hb => ((H0.out.step b).step hb).cell 5 1 rfl rfl) (Lib.hid fun W' hb => ((H0.out.step b).step hb).cell 3 0 rfl rfl)))))
  refine wpQuiet_nil ?_
  intro _ hw'
  obtain ⟨p, rfl⟩ := hw'
  have H3 := Lib.hid (H0.out.by p)
  clear H0 W1 W2
  generalize p.world = v2 at H3 ⊢
  simp only [List.drop_succ_cons, List.drop_zero]
  go_wp2_with (refine wpList_store_row rfl 33 _ _ rfl gr #[I r1, I r2] rfl rfl 33 _ (H3.out.at 0 rfl) infoC2 rfl (by simp [Value.oneCell']) ?_)
  have hput := H3.out.put 0 rfl #[I r1, I r2]
  simp only [List.set_cons_succ, List.set_cons_zero] at hput
  generalize World.setRow v2 gr _ = v3 at hput ⊢
  have H4 := Lib.hid hput
  clear hput
  go_wp2_with fail
  (try simp only [Exit.inBlock, Exit.then])
  refine bodyPost_ret (v := .agg #[I r1, I r2]) ?_ rfl ⟨rfl, H4.out.bel⟩
  exact results_cell_row rfl _ _ gr 33 _ (0, 0) _ rfl (H4.out.at 0 rfl) Try.underlying33 rfl infoC2
end Cl
namespace RefC
open Go.ChangeShapes Go.WideShapes Go.ChangeAt Go.RowKit
def cap (n : Int) : Int := if n < 0 then 0 else if 2147483647 < n then 2147483647 else n
theorem cap_lo (n : Int) : 0 ≤ cap n := by unfold cap; split <;> (try split) <;> omega
theorem cap_hi (n : Int) : cap n ≤ 2147483647 := by unfold cap; split <;> (try split) <;> omega
theorem cap_neg {n : Int} (h : n < 0) : cap n = 0 := by unfold cap; rw [if_pos h]
theorem cap_big {n : Int} (h : 2147483647 < n) : cap n = 2147483647 := by unfold cap; rw [if_neg (by omega), if_pos h]
theorem cap_in {n : Int} (h : 0 ≤ n) (h' : n ≤ 2147483647) : cap n = n := by unfold cap; rw [if_neg (by omega), if_neg (by omega)]
theorem mul_bd {a b : Int} (ha : 0 ≤ a) (ha' : a ≤ 2147483647) (hb : 0 ≤ b) (hb' : b ≤ 2147483647) : 0 ≤ a * b ∧ a * b ≤ 2147483647 * 2147483647 := by
  refine ⟨Int.mul_nonneg ha hb, ?_⟩
  exact Int.mul_le_mul ha' hb' hb (by omega)
theorem ret_int {k : IntKind} {a b : Int} (h : a = b) : Ending.returned (.int k a) = .returned (.int k b) := by rw [h]
def add (a b : Int) : Int := cap (cap a + cap b)
def mul (a b : Int) : Int := cap (cap a * cap b)
theorem cut_cap (n : Int) (w : World) : Calls Try.prog 80 #[.int .i64 n, .int .i64 0, .int .i64 2147483647] w fun e w' => e = .returned (.int .i64 (cap n)) ∧ w = w' := by
  by_cases h1 : n < 0
  · go_enter Try.func80, Try.ntmps80
    go_wp2
    go_ret
    exact ⟨ret_int (cap_neg h1).symm, rfl⟩
  by_cases h2 : 2147483647 < n
  · go_enter Try.func80, Try.ntmps80
    go_wp2
    go_ret
    exact ⟨ret_int (cap_big h2).symm, rfl⟩
  · go_enter Try.func80, Try.ntmps80
    go_wp2
    go_ret
    exact ⟨ret_int (cap_in (by omega) (by omega)).symm, rfl⟩
theorem rcap_any (n : Int) (w : World) : Calls Try.prog 87 #[.int .i64 n] w fun e w' => e = .returned (.int .i64 (cap n)) ∧ w = w' := by
  go_enter Try.func87, Try.ntmps87
  go_wp2_with (go_at_call 80; refine (cut_cap _ _).mono ?_; rintro e w' ⟨rfl, rfl⟩)
  go_ret
  exact ⟨rfl, rfl⟩
theorem radd_any (a b : Int) (w : World) : Calls Try.prog 100 #[.int .i64 a, .int .i64 b] w fun e w' => e = .returned (.int .i64 (add a b)) ∧ w = w' := by
  have b1 := cap_lo a
  have b2 := cap_hi a
  have b3 := cap_lo b
  have b4 := cap_hi b
  go_enter Try.func100, Try.ntmps100
  go_wp2_with (go_at_call 87; refine (rcap_any _ _).mono ?_; rintro e w' ⟨rfl, rfl⟩)
  go_ret
  exact ⟨rfl, rfl⟩
theorem rmul_any (a b : Int) (w : World) : Calls Try.prog 71 #[.int .i64 a, .int .i64 b] w fun e w' => e = .returned (.int .i64 (mul a b)) ∧ w = w' := by
  have b1 := cap_lo a
  have b2 := cap_hi a
  have b3 := cap_lo b
  have b4 := cap_hi b
  obtain ⟨c1, c2⟩ := mul_bd b1 b2 b3 b4
  go_enter Try.func71, Try.ntmps71
  go_wp2_with (go_at_call 87; refine (rcap_any _ _).mono ?_; rintro e w' ⟨rfl, rfl⟩)
  go_ret
  exact ⟨rfl, rfl⟩
/-- A slice of integers as a list: nil, or a row of cells. -/
def IsRow (w : World) (a : Option Addr) (len : Nat) (zs : List Int) : Prop :=
  len ≤ zs.length ∧ len ≤ maxLen ∧ (len = 0 ∨ ∃ x, a = some x ∧ ∀ i, i < zs.length → w.cell? (x.add i) = some (.int .i64 (zs.getD i 0)))
def sums (l : List Int) : Int := l.foldl add 0
theorem sums_snoc (l : List Int) (x : Int) : sums (l ++ [x]) = add (sums l) x := by unfold sums; rw [List.foldl_append]; rfl
theorem take_succ_getD (zs : List Int) (k : Nat) (h : k < zs.length) : zs.take (k + 1) = zs.take k ++ [zs.getD k 0] := by
  rw [List.take_succ_eq_append_getElem h, List.getD_eq_getElem?_getD, List.getElem?_eq_getElem h]; rfl
theorem sums_take (zs : List Int) (k : Nat) (h : k < zs.length) : sums (zs.take (k + 1)) = add (sums (zs.take k)) (zs.getD k 0) := by
  rw [take_succ_getD zs k h, sums_snoc]
theorem rsum_any (a : Option Addr) (len cap : Nat) (zs : List Int) (w : World) (h : IsRow w a len zs) :
    Calls Try.prog 86 #[.slice a len cap] w fun e w' => e = .returned (.int .i64 (sums (zs.take len))) ∧ w = w' := by
  obtain ⟨h1, h2, h3⟩ := h
  unfold maxLen at h2
  go_enter Try.func86, Try.ntmps86
  go_wp2
  go_loop [3, 4] (fun t i => ∃ k : Nat, k ≤ len ∧ i = .int .i64 k ∧ t = .int .i64 (sums (zs.take k))) (fun _ i => len - (intOf i).toNat)
  case atStart => exact ⟨0, Nat.zero_le _, rfl, rfl⟩
  case round =>
    obtain ⟨k, hk, rfl, rfl⟩ := hrel
    by_cases hlt : k < len
    · have HS := Lib.hid (sums_take zs k (by omega))
      obtain ⟨x, rfl, hc⟩ : ∃ x, a = some x ∧ ∀ i, i < zs.length → w.cell? (x.add i) = some (.int .i64 (zs.getD i 0)) := by
        rcases h3 with h3 | h3
        · omega
        · exact h3
      have hcell := hc k (by omega)
      clear hc h3
      go_wp2_with (go_at_call 100; refine (radd_any _ _ _).mono ?_; rintro e w' ⟨rfl, rfl⟩)
      go_round
      case rel => exact ⟨k + 1, by omega, by go_num, by rw [HS.out, List.getD_eq_getElem?_getD]⟩
      case measure => simp [intOf]; omega
    · go_wp2
      go_ret
      have : k = len := by omega
      subst this
      exact ⟨rfl, rfl⟩
open Tab in
theorem is_row {w : World} {a : Option Addr} {cap : Nat} {L : List Int} (h : IntRow w ⟨a, cap⟩ L) : IsRow w a L.length L := by
  have hl := h.len
  refine ⟨Nat.le_refl _, by omega, ?_⟩
  by_cases h0 : L.length = 0
  · exact .inl h0
  · have h1 : L[0]? = some L[0] := List.getElem?_eq_getElem (by omega)
    obtain ⟨x, hx, _⟩ := IntRow.at h h1
    refine .inr ⟨x, hx, fun i hi => ?_⟩
    obtain ⟨y, hy, hc⟩ := IntRow.at h (List.getElem?_eq_getElem hi)
    obtain rfl : x = y := Option.some.inj (hx.symm.trans hy)
    rw [hc, List.getD_eq_getElem?_getD, List.getElem?_eq_getElem hi]
    rfl
open Tab in
theorem rsum_row (a : Option Addr) (cap : Nat) (L : List Int) (w : World) (h : IntRow w ⟨a, cap⟩ L) :
    Calls Try.prog 86 #[.slice a L.length cap] w fun e w' => e = .returned (.int .i64 (sums L)) ∧ w = w' := by
  have := rsum_any a L.length cap L w (is_row h)
  rwa [List.take_length] at this
open Tab in
theorem sum_row (a : Option Addr) (cap : Nat) (L : List Int) (w : World) (h : IntRow w ⟨a, cap⟩ L) :
    Calls Try.prog 70 #[.slice a L.length cap] w fun e w' => e = .returned (.int .i64 (sums L)) ∧ w = w' := by
  have H := Lib.hid (rsum_row a cap L w h)
  clear h
  generalize sums L = s at H ⊢
  go_enter Try.func70, Try.ntmps70
  go_wp2_with fail
  refine H.out.mono ?_
  rintro e w' ⟨rfl, rfl⟩
  go_wp2
  go_ret
  exact ⟨rfl, rfl⟩
/-- The greatest, 0 of none. -/
def mosts (l : List Int) : Int := l.foldl max 0
theorem mosts_take (l : List Int) (k : Nat) (h : k < l.length) : mosts (l.take (k + 1)) = max (mosts (l.take k)) (l.getD k 0) := by
  rw [take_succ_getD l k h]; unfold mosts; rw [List.foldl_append]; rfl
open Tab in
theorem most_row (a : Option Addr) (cap : Nat) (L : List Int) (w : World) (h : IntRow w ⟨a, cap⟩ L) :
    Calls Try.prog 89 #[.slice a L.length cap] w fun e w' => e = .returned (.int .i64 (mosts L)) ∧ w = w' := by
  obtain ⟨h1, h2, h3⟩ := is_row h
  unfold maxLen at h2
  clear h
  go_enter Try.func89, Try.ntmps89
  go_wp2
  go_loop [3, 4] (fun t i => ∃ k : Nat, k ≤ L.length ∧ i = .int .i64 k ∧ t = .int .i64 (mosts (L.take k))) (fun _ i => L.length - (intOf i).toNat)
  case atStart => exact ⟨0, Nat.zero_le _, rfl, rfl⟩
  case round =>
    obtain ⟨k, hk, rfl, rfl⟩ := hrel
    by_cases hlt : k < L.length
    · have HS := Lib.hid (mosts_take L k (by omega))
      obtain ⟨x, rfl, hc⟩ : ∃ x, a = some x ∧ ∀ i, i < L.length → w.cell? (x.add i) = some (.int .i64 (L.getD i 0)) := by
        rcases h3 with h3 | h3
        · omega
        · exact h3
      have hcell := hc k (by omega)
      clear hc h3
      generalize L.getD k 0 = v at HS hcell
      generalize mosts (L.take k) = m at HS ⊢
      by_cases hmv : m < v
      · have HM : Hid (max m v = v) := Lib.hid (by omega)
        go_wp2
        go_round
        case rel => exact ⟨k + 1, by omega, by go_num, by rw [HS.out]; first | rw [HM.out] | rfl⟩
        case measure => simp [intOf]; omega
      · have HM : Hid (max m v = m) := Lib.hid (by omega)
        go_wp2
        go_round
        case rel => exact ⟨k + 1, by omega, by go_num, by rw [HS.out]; first | rw [HM.out] | rfl⟩
        case measure => simp [intOf]; omega
    · go_wp2
      go_ret
      have : k = L.length := by omega
      subst this
      exact ⟨by rw [List.take_length]; rfl, rfl⟩
end RefC
namespace Held
open Go Go.RowKit
open Tab
section
variable {P : Program} {ops : Array Oper} {Q : Exit → Act → World → Prop} {md : Region.Mode} {S : World → Prop}
theorem take {i : Nat} {oi : Oper} (d0 : Option Tmp) (hd0 : oi.dst = d0) {fuel : Nat} {listed : Array Bool} {a : Act} {w : World} {v : Value} (hi : ops[i]? = some oi) (hs : Region.noSelect ops = true) (hf : Region.free md ops listed i = true) (hr : (Region.ready md ops listed).contains i = true)
    (hQ : ∀ c a w, Q (.panic c) (a.put d0 v) w → Q (.panic c) a w) (hy : YieldsIf P ops S oi v a) (hS : S w)
    (h : wpAnyH P md ops Q S fuel (listed.setIfInBounds i true) (a.put d0 v) w) : wpAnyH P md ops Q S (fuel + 1) listed a w :=
  by
  subst hd0
  exact wpAnyH_take hi hs hf hr hQ hy hS h
theorem take_load {i : Nat} {oi : Oper} (d0 : Option Tmp) (hd0 : oi.dst = d0) {fuel : Nat} {listed : Array Bool} {a : Act} {w : World} (ty : TypeId) (x : Operand) (y : Addr) (cs : List Value) (d : TypeDesc) (hi : ops[i]? = some oi) (ho : oi.op = .load ty x) (hs : Region.noSelect ops = true) (hf : Region.free md ops listed i = true) (hr : (Region.ready md ops listed).contains i = true)
    (hQ : ∀ c a w, Q (.panic c) (a.put d0 (.agg cs.toArray)) w → Q (.panic c) a w) (hw : Region.wanted oi (yielded ops a.tmps) = true) (hS : S w) (hx : a.eval x = .pointer (some y)) (hc : ∀ w, S w → Lies w y cs) (hu : P.underlying ty = some d) (hd : d.isRow = true) (hz : (P.info? ty).map (·.size) = some cs.length)
    (h : wpAnyH P md ops Q S fuel (listed.setIfInBounds i true) (a.put d0 (.agg cs.toArray)) w) : wpAnyH P md ops Q S (fuel + 1) listed a w :=
  by
  subst hd0
  exact wpAnyH_take hi hs hf hr hQ (.inl ⟨hw, fun w' hw' => by
    unfold execOp
    simp only [ho, hx, Instr.loadAt, Instr.sureAddr, Sem.run_bind, Sem.run_pure, Result.andThen_ok, Row.run_loadVar_lies w' y ty cs d (hc w' hw') hu hd hz]⟩) hS h
theorem take_build {i : Nat} {oi : Oper} (d0 : Option Tmp) (hd0 : oi.dst = d0) {fuel : Nat} {listed : Array Bool} {a : Act} {w : World} (t : TypeId) (parts : Array (Nat × Operand)) (cells : Array Value) (hi : ops[i]? = some oi) (ho : oi.op = .build t parts) (hs : Region.noSelect ops = true) (hf : Region.free md ops listed i = true) (hr : (Region.ready md ops listed).contains i = true)
    (hQ : ∀ c a w, Q (.panic c) (a.put d0 (.agg cells)) w → Q (.panic c) a w) (hw : Region.wanted oi (yielded ops a.tmps) = true) (hS : S w) (hb : P.built t (parts.map fun (i, x) => (i, a.eval x)).toList = some cells)
    (h : wpAnyH P md ops Q S fuel (listed.setIfInBounds i true) (a.put d0 (.agg cells)) w) : wpAnyH P md ops Q S (fuel + 1) listed a w :=
  by
  subst hd0
  exact wpAnyH_take hi hs hf hr hQ (.inl ⟨hw, fun w' _ => by
    unfold execOp
    simp only [ho, Sem.run_bind, run_build w' t _ _ hb, Result.andThen_ok, Sem.run_pure]⟩) hS h
end
end Held
end Go.Proofs.Ytneaomdgjlmleaa
