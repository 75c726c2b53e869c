/- 10 texts in one file, in build order. -/
import Derived.OpenShut
import Derived.ChangeArms
import Derived.DeepKeys
import Derived.Test.YtfekngnfjemgeaaRows
import Derived.Test.YtfekngnfjemgeaaPart02
import Derived.Test.YtfekngnfjemgeaaPart01
import Derived.LoopTactic
import Derived.Deep.QuietTactic
import Derived.Below
import Derived.StillTail
import Derived.Test.YtfekngnfjemgeaaPart03
import Derived.StillTailTactics
import Derived.Deep.Cut
import Derived.Laws.ResultCell
import Derived.Laws.Rows
import Derived.WalkMore
import Derived.Great.BuildSlice
set_option linter.unusedVariables false
set_option linter.unusedSimpArgs false
set_option linter.unusedSectionVars false
/- A type's cells in order ('flat'): a value that can be read is typed cell by cell; two values of the type are compared cell by cell. No program in it. -/
namespace Go.Proofs.Ytfekngnfjemgeaa.Flat
open Go Go.ChangeShapes Go.WideShapes

section
variable {α β : Type}
def All2 (R : α → β → Prop) : List α → List β → Prop
  | [], [] => True
  | a :: l, b :: m => R a b ∧ All2 R l m
  | _, _ => False
variable {R : α → β → Prop}
theorem All2.length : ∀ {a : List α} {b : List β}, All2 R a b → a.length = b.length
  | [], [], _ => rfl
  | _ :: _, _ :: _, ⟨_, h⟩ => by simp [All2.length h]
  | [], _ :: _, h => h.elim
  | _ :: _, [], h => h.elim
theorem All2.append : ∀ {a : List α} {b : List β} {c : List α} {d : List β}, All2 R a b → All2 R c d → All2 R (a ++ c) (b ++ d)
  | [], [], _, _, _, h => h
  | _ :: _, _ :: _, _, _, ⟨h, k⟩, h2 => ⟨h, All2.append k h2⟩
  | [], _ :: _, _, _, h, _ => h.elim
  | _ :: _, [], _, _, h, _ => h.elim
theorem All2.split : ∀ {a c : List α} {b : List β}, All2 R (a ++ c) b → All2 R a (b.take a.length) ∧ All2 R c (b.drop a.length)
  | [], _, _, h => ⟨trivial, h⟩
  | _ :: _, _, _ :: _, ⟨h, k⟩ => ⟨⟨h, (All2.split k).1⟩, (All2.split k).2⟩
  | _ :: _, _, [], h => h.elim
theorem All2.at : ∀ {a : List α} {b : List β}, All2 R a b → ∀ {i : Nat} {x : α} {y : β}, a[i]? = some x → b[i]? = some y → R x y
  | _ :: _, _ :: _, ⟨h, _⟩, 0, _, _, h1, h2 => by simp at h1 h2; subst h1 h2; exact h
  | _ :: _, _ :: _, ⟨_, k⟩, i + 1, _, _, h1, h2 => All2.at k (i := i) (by simpa using h1) (by simpa using h2)
  | [], _, _, _, _, _, h1, _ => by simp at h1
  | _ :: _, [], h, _, _, _, _, _ => h.elim
theorem All2.mono {S : α → β → Prop} (hm : ∀ x y, R x y → S x y) : ∀ {a : List α} {b : List β}, All2 R a b → All2 S a b
  | [], [], _ => trivial
  | _ :: _, _ :: _, ⟨h, k⟩ => ⟨hm _ _ h, All2.mono hm k⟩
  | [], _ :: _, h => h.elim
  | _ :: _, [], h => h.elim
end

def rowT (P : Program) (t : TypeId) : Bool := match P.underlying t with | some (.struct _) | some (.array _ _) => true | _ => false
def flatF (P : Program) (g : TypeId → Option (List TypeId)) : Nat → List Field → Option (List TypeId)
  | _, [] => some []
  | o, f :: fs => if f.name ≠ "_" ∧ f.offset = o then
      match g f.type with
      | some r => if r.length = P.cellsOf f.type then (flatF P g (o + r.length) fs).map (r ++ ·) else none
      | none => none
    else none
/-- The one-cell types that lie in a type, in order; none where its parts do not lie side by side. -/
def flat (P : Program) : Nat → TypeId → Option (List TypeId)
  | 0, _ => none
  | d + 1, t => match P.underlying t with
    | some (.struct fs) => if P.stoodInHeld t = true then none else match flatF P (flat P d) 0 fs.toList with
      | some l => if l.length = P.cellsOf t then some l else none
      | none => none
    | some (.array n e) => match flat P d e with
      | some r => if r.length = P.cellsOf e ∧ n * P.cellsOf e = P.cellsOf t then some (List.replicate n r).flatten else none
      | none => none
    | some _ => if P.cellsOf t = 1 then some [t] else none
    | none => none
theorem flatF_cons {P : Program} {g : TypeId → Option (List TypeId)} {o : Nat} {f : Field} {fs : List Field} {l : List TypeId} (h : flatF P g o (f :: fs) = some l) :
    f.name ≠ "_" ∧ f.offset = o ∧ ∃ r l', g f.type = some r ∧ r.length = P.cellsOf f.type ∧ flatF P g (o + r.length) fs = some l' ∧ l = r ++ l' := by
  unfold flatF at h
  split at h
  · rename_i h1
    split at h
    · rename_i r hr
      split at h
      · rename_i hl
        simp only [Option.map_eq_some_iff] at h
        obtain ⟨l', h2, rfl⟩ := h
        exact ⟨h1.1, h1.2, r, l', hr, hl, h2, rfl⟩
      · cases h
    · cases h
  · cases h
theorem take_two {α : Type} (l : List α) (o a b : Nat) : (l.drop o).take (a + b) = (l.drop o).take a ++ (l.drop (o + a)).take b := by
  rw [List.take_add, List.drop_drop]

section
variable {P : Program} {R : TypeId → Value → Prop} {G : TypeId → List Value → Prop} {g : TypeId → Option (List TypeId)}
theorem fields_flat (hg : ∀ t ts cs, g t = some ts → G t cs → All2 R ts cs) (cs : List Value) : ∀ (fs : List Field) (o : Nat) (l : List TypeId), flatF P g o fs = some l →
    (∀ f ∈ fs, G f.type ((cs.drop f.offset).take (P.cellsOf f.type))) → All2 R l ((cs.drop o).take l.length)
  | [], _, l, h, _ => by
    simp only [flatF, Option.some.injEq] at h
    subst h; simp [All2]
  | f :: fs, o, l, h, hall => by
    obtain ⟨_, ho, r, l', h1, h2, h3, rfl⟩ := flatF_cons h
    have h4 := hg _ _ _ h1 (hall f (by simp))
    rw [ho, ← h2] at h4
    rw [List.length_append, take_two]
    exact h4.append (fields_flat hg cs fs _ _ h3 fun f hf => hall f (by simp [hf]))
theorem items_flat {c : Nat} {e : TypeId} {r : List TypeId} (hg : ∀ cs, G e cs → All2 R r cs) (cs : List Value) : ∀ (n k : Nat), (∀ i, i < n → G e ((cs.drop ((k + i) * c)).take c)) →
    All2 R (List.replicate n r).flatten ((cs.drop (k * c)).take (n * c))
  | 0, _, _ => by simp [All2]
  | n + 1, k, h => by
    rw [List.replicate_succ, List.flatten_cons, Nat.add_mul, Nat.one_mul, Nat.add_comm (n * c) c, take_two]
    refine (hg _ (by simpa using h 0 (by omega))).append ?_
    have := items_flat hg cs n (k + 1) (fun i hi => by have := h (i + 1) (by omega); rwa [show k + (i + 1) = k + 1 + i by omega] at this)
    rwa [Nat.add_mul, Nat.one_mul] at this
end

section
variable {H : Type} {enc : TypeId × Value → H} {P : Program} {w : World} {base : Nat} {spare : Nat → Bool} {held : Bool}
theorem trod_one {t : TypeId} {n : Nat} {cs : List Value} {x : DataW H × List MemPlace} {d : TypeDesc} (hu : P.underlying t = some d) (hd : rowT P t = false) (h : DataW.trod enc P w base spare held n t cs = some x) : ∃ v, cs = [v] := by
  cases n with
  | zero => simp [DataW.trod] at h
  | succ n =>
    unfold DataW.trod at h
    unfold rowT at hd
    rw [hu] at h hd
    split at h <;> first | exact ⟨_, rfl⟩ | (simp_all; done)
/-- A value that can be read: each of its cells can be read as its own type. -/
theorem trod_flat : ∀ (d : Nat) (t : TypeId) (ts : List TypeId), flat P d t = some ts → ∀ (n : Nat) (cs : List Value) (x : DataW H × List MemPlace), DataW.trod enc P w base spare held n t cs = some x →
    All2 (fun t v => ∃ n y, DataW.trod enc P w base spare held n t [v] = some y) ts cs
  | 0, _, _, h, _, _, _, _ => by simp [flat] at h
  | d + 1, t, ts, h, n, cs, x, hx => by
    unfold flat at h
    split at h
    · rename_i fs hu
      split at h
      · cases h
      · split at h
        · rename_i l hl
          split at h
          · rename_i hlen
            simp only [Option.some.injEq] at h; subst h
            obtain ⟨xs, m, _, _, hcl, hxl, hf⟩ := DataW.trod_struct hu hx
            have := fields_flat (P := P) (G := fun t cs => ∃ n y, DataW.trod enc P w base spare held n t cs = some y) (g := flat P d) (fun t ts cs h ⟨n, y, hy⟩ => trod_flat d t ts h n cs y hy) cs fs.toList 0 l hl (fun f hf' => by
              obtain ⟨i, hi⟩ := List.getElem?_of_mem hf'
              have h1 := hf i f (by simpa using hi)
              have h2 : i < xs.length := by
                have := (List.getElem?_eq_some_iff.1 hi).1
                simp at this; omega
              rw [List.getElem?_eq_getElem h2] at h1
              exact ⟨m, _, h1⟩)
            rw [List.drop_zero, hlen, ← hcl, List.take_length] at this
            exact this
          · cases h
        · cases h
    · rename_i k e hu
      split at h
      · rename_i r hr
        split at h
        · rename_i hlen
          simp only [Option.some.injEq] at h; subst h
          obtain ⟨xs, m, _, _, hcl, hxl, hf⟩ := DataW.trod_array hu hx
          have := items_flat (c := P.cellsOf e) (e := e) (r := r) (G := fun t cs => ∃ n y, DataW.trod enc P w base spare held n t cs = some y) (fun cs ⟨n, y, hy⟩ => trod_flat d e r hr n cs y hy) cs k 0 (fun i hi => by
            have h1 := hf i hi
            rw [List.getElem?_eq_getElem (by omega)] at h1
            exact ⟨m, _, by simpa using h1⟩)
          rw [Nat.zero_mul, List.drop_zero, hlen.2, ← hcl, List.take_length] at this
          exact this
        · cases h
      · cases h
    · rename_i dd hns hna hu
      split at h
      · simp only [Option.some.injEq] at h; subst h
        obtain ⟨v, rfl⟩ := trod_one hu (by unfold rowT; rw [hu]; cases dd <;> simp_all) hx
        exact ⟨⟨n, x, hx⟩, trivial⟩
      · cases h
    · cases h
end

/-! ### comparing -/
section
variable {P : Program}
def vOf (P : Program) (t : TypeId) (cs : List Value) : Value := if rowT P t then .agg cs.toArray else cs.headD undef
/-- Two cells of a type of one cell: '==' is equality. -/
def LeafEq (P : Program) (t : TypeId) (p : Value × Value) : Prop := ∃ b : Bool, (∀ D w, (Op.equalIn (D + 1) t p.1 p.2).run P w = .ok b w) ∧ (b = true ↔ p.1 = p.2)
theorem leaf_int {t : TypeId} {k : IntKind} (h : P.underlying t = some (.int k)) (a b : Int) : LeafEq P t (.int k a, .int k b) := ⟨a == b, fun D w => run_equalIn_int w D t k k a b h, by simp⟩
theorem leaf_bool {t : TypeId} (h : P.underlying t = some .bool) (a b : Bool) : LeafEq P t (.bool a, .bool b) := ⟨a == b, fun D w => run_equalIn_bool w D t a b h, by simp⟩

theorem run_part (w : World) {t : TypeId} {d : TypeDesc} (hu : P.underlying t = some d) (hc : rowT P t = false → P.cellsOf t = 1) (cs : List Value) (off : Nat) (hl : off + P.cellsOf t ≤ cs.length) :
    (part t cs.toArray off).run P w = .ok (vOf P t ((cs.drop off).take (P.cellsOf t))) w := by
  obtain ⟨i, hi⟩ := info_of_underlying hu
  have hagg : (isAgg t).run P w = .ok (rowT P t) w := by
    unfold isAgg rowT
    rw [Sem.run_bind, run_underlying hu w]
    rw [hu]
    cases d <;> simp
  unfold part vOf
  rw [Sem.run_bind, hagg, Result.andThen_ok]
  cases hr : rowT P t with
  | true =>
    simp only [if_true, Sem.run_bind, run_sizeOf w hi, Result.andThen_ok, Sem.run_pure]
    congr 2
    simp [List.extract]
  | false =>
    have h1 := hc hr
    have h2 : off < cs.length := by omega
    simp only [Bool.false_eq_true, if_false, List.getElem?_toArray, List.getElem?_eq_getElem h2, Sem.run_pure, h1]
    have h3 : (cs.drop off).take 1 = [cs[off]] := by rw [List.drop_eq_getElem_cons h2]; rfl
    rw [h3]
    simp

theorem cells_one {d : Nat} {t : TypeId} {ts : List TypeId} (h : flat P d t = some ts) : (∃ dd, P.underlying t = some dd) ∧ (rowT P t = false → P.cellsOf t = 1) := by
  cases d with
  | zero => simp [flat] at h
  | succ d =>
    unfold flat at h
    unfold rowT
    split at h
    · rename_i hu; exact ⟨⟨_, hu⟩, by rw [hu]; simp⟩
    · rename_i hu; exact ⟨⟨_, hu⟩, by rw [hu]; simp⟩
    · rename_i hu
      split at h
      · rename_i h1; exact ⟨⟨_, hu⟩, fun _ => h1⟩
      · cases h
    · cases h

def EqG (P : Program) (D : Nat) (g : TypeId → Option (List TypeId)) : Prop := ∀ (t : TypeId) (ts : List TypeId) (zs : List (Value × Value)), g t = some ts → All2 (LeafEq P) ts zs →
  ∃ b : Bool, (∀ w, (Op.equalIn D t (vOf P t (zs.map (·.1))) (vOf P t (zs.map (·.2)))).run P w = .ok b w) ∧ (b = true ↔ zs.map (·.1) = zs.map (·.2))

theorem map_part {γ : Type} (f : Value × Value → γ) (zs : List (Value × Value)) (o n : Nat) : ((zs.map f).drop o).take n = ((zs.drop o).take n).map f := by
  rw [← List.map_drop, ← List.map_take]

theorem fields_eq {D d : Nat} (hg : EqG P D (flat P d)) (zs : List (Value × Value)) : ∀ (fs : List Field) (o : Nat) (l : List TypeId), flatF P (flat P d) o fs = some l → o + l.length ≤ zs.length →
    All2 (LeafEq P) l ((zs.drop o).take l.length) →
    ∃ b : Bool, (∀ w, (Op.eqFields D (zs.map (·.1)).toArray (zs.map (·.2)).toArray fs).run P w = .ok b w) ∧ (b = true ↔ ((zs.drop o).take l.length).map (·.1) = ((zs.drop o).take l.length).map (·.2))
  | [], _, l, h, _, _ => by
    simp only [flatF, Option.some.injEq] at h
    subst h
    exact ⟨true, fun w => by simp [Op.eqFields], by simp⟩
  | f :: fs, o, l, h, hlen, hall => by
    obtain ⟨hn, ho, r, l', h1, h2, h3, rfl⟩ := flatF_cons h
    obtain ⟨⟨dd, hu⟩, hone⟩ := cells_one h1
    rw [List.length_append] at hlen hall ⊢
    rw [take_two] at hall ⊢
    have hs := hall.split
    have hlr : ((zs.drop o).take r.length).length = r.length := by simp; omega
    rw [List.take_left' hlr, List.drop_left' hlr] at hs
    obtain ⟨b, hb, hiff⟩ := hg f.type r _ h1 hs.1
    obtain ⟨b', hb', hiff'⟩ := fields_eq hg zs fs (o + r.length) l' h3 (by omega) hs.2
    have p1 := fun w => run_part (P := P) w hu hone (zs.map (·.1)) f.offset (by simp; omega)
    have p2 := fun w => run_part (P := P) w hu hone (zs.map (·.2)) f.offset (by simp; omega)
    rw [ho, ← h2] at p1 p2
    simp only [map_part] at p1 p2
    refine ⟨b && b', fun w => ?_, ?_⟩
    · simp only [Op.eqFields, hn, ne_eq, not_false_eq_true, if_true, Sem.run_bind, ho, p1, p2, hb, Result.andThen_ok]
      cases b
      · simp
      · simpa using hb' w
    · rw [Bool.and_eq_true, hiff, hiff', List.map_append, List.map_append]
      constructor
      · rintro ⟨e1, e2⟩; rw [e1, e2]
      · intro e; exact List.append_inj e (by simp)
theorem items_eq {D d : Nat} (hg : EqG P D (flat P d)) {e : TypeId} {r : List TypeId} (hr : flat P d e = some r) (hc : r.length = P.cellsOf e) (zs : List (Value × Value)) : ∀ (n k : Nat), (k + n) * P.cellsOf e ≤ zs.length →
    All2 (LeafEq P) (List.replicate n r).flatten ((zs.drop (k * P.cellsOf e)).take (n * P.cellsOf e)) →
    ∃ b : Bool, (∀ w, (Op.eqItems D e (P.cellsOf e) (zs.map (·.1)).toArray (zs.map (·.2)).toArray (List.range' k n)).run P w = .ok b w) ∧
      (b = true ↔ ((zs.drop (k * P.cellsOf e)).take (n * P.cellsOf e)).map (·.1) = ((zs.drop (k * P.cellsOf e)).take (n * P.cellsOf e)).map (·.2))
  | 0, k, _, _ => ⟨true, fun w => by simp [Op.eqItems], by simp⟩
  | n + 1, k, hlen, hall => by
    obtain ⟨⟨dd, hu⟩, hone⟩ := cells_one hr
    have hlen' : k * P.cellsOf e + P.cellsOf e + n * P.cellsOf e ≤ zs.length := by
      have : (k + (n + 1)) * P.cellsOf e = k * P.cellsOf e + P.cellsOf e + n * P.cellsOf e := by
        rw [Nat.add_mul, Nat.add_mul, Nat.one_mul]; omega
      omega
    rw [List.replicate_succ, List.flatten_cons] at hall
    rw [Nat.add_mul, Nat.one_mul, Nat.add_comm (n * _), take_two] at hall ⊢
    have hs := hall.split
    have hlr : ((zs.drop (k * P.cellsOf e)).take (P.cellsOf e)).length = r.length := by rw [hc]; simp; omega
    rw [List.take_left' hlr, List.drop_left' hlr] at hs
    obtain ⟨b, hb, hiff⟩ := hg e r _ hr hs.1
    have hk : k * P.cellsOf e + P.cellsOf e = (k + 1) * P.cellsOf e := by rw [Nat.add_mul, Nat.one_mul]
    rw [hk] at hs ⊢
    obtain ⟨b', hb', hiff'⟩ := items_eq hg hr hc zs n (k + 1) (by rw [Nat.add_mul, Nat.add_mul] at *; omega) hs.2
    have p1 := fun w => run_part (P := P) w hu hone (zs.map (·.1)) (k * P.cellsOf e) (by simp; omega)
    have p2 := fun w => run_part (P := P) w hu hone (zs.map (·.2)) (k * P.cellsOf e) (by simp; omega)
    simp only [map_part] at p1 p2
    refine ⟨b && b', fun w => ?_, ?_⟩
    · simp only [List.range'_succ, Op.eqItems, Sem.run_bind, p1, p2, hb, Result.andThen_ok]
      cases b
      · simp
      · simpa using hb' w
    · rw [Bool.and_eq_true, hiff, hiff', List.map_append, List.map_append]
      constructor
      · rintro ⟨e1, e2⟩; rw [e1, e2]
      · intro e; exact List.append_inj e (by simp)
theorem eq_flat : ∀ (d D : Nat), d ≤ D → EqG P D (flat P d)
  | 0, _, _ => fun t ts zs h _ => by simp [flat] at h
  | d + 1, 0, h => absurd h (by omega)
  | d + 1, D + 1, hD => fun t ts zs h hall => by
    have IH := eq_flat d D (by omega)
    unfold flat at h
    split at h
    · rename_i fs hu
      split at h
      · cases h
      · rename_i hst
        split at h
        · rename_i l hl
          split at h
          · rename_i hlen
            simp only [Option.some.injEq] at h; subst h
            have hz := hall.length
            obtain ⟨b, hb, hiff⟩ := fields_eq IH zs fs.toList 0 l hl (by omega) (by rw [List.drop_zero, hz, List.take_length]; exact hall)
            rw [List.drop_zero, hz, List.take_length] at hiff
            have hfs : P.fieldsOf t = fs := by simp [Program.fieldsOf, hu]
            refine ⟨b, fun w => ?_, hiff⟩
            have hr : rowT P t = true := by unfold rowT; rw [hu]
            unfold vOf
            rw [if_pos hr, if_pos hr, run_equalIn_struct w D t _ _ (by rw [hfs]; exact hu) (by simpa using hst), hfs]
            exact hb w
          · cases h
        · cases h
    · rename_i n e hu
      split at h
      · rename_i r hr
        split at h
        · rename_i hlen
          simp only [Option.some.injEq] at h; subst h
          have hz := hall.length
          have hz2 : n * P.cellsOf e = zs.length := by rw [← hz]; simp [hlen.1]
          obtain ⟨b, hb, hiff⟩ := items_eq IH hr hlen.1 zs n 0 (by rw [Nat.zero_add]; omega) (by rw [Nat.zero_mul, List.drop_zero, hz2, List.take_length]; exact hall)
          rw [Nat.zero_mul, List.drop_zero, hz2, List.take_length] at hiff
          obtain ⟨⟨dd, hue⟩, _⟩ := cells_one hr
          obtain ⟨i, hi⟩ := info_of_underlying hue
          refine ⟨b, fun w => ?_, hiff⟩
          have hrow : rowT P t = true := by unfold rowT; rw [hu]
          unfold vOf
          rw [if_pos hrow, if_pos hrow, run_equalIn_array w D _ _ hu hi, List.range_eq_range']
          exact hb w
        · cases h
      · cases h
    · rename_i dd hns hna hu
      split at h
      · simp only [Option.some.injEq] at h; subst h
        have hr : rowT P t = false := by unfold rowT; rw [hu]; cases dd <;> simp_all
        match zs, hall with
        | [p], ⟨⟨b, hb, hiff⟩, _⟩ =>
          refine ⟨b, fun w => ?_, by simpa using hiff⟩
          unfold vOf
          rw [hr]
          simpa using hb D w
      · cases h
    · cases h
/-- What a walk asks. -/
theorem eql_flat {d : Nat} {t : TypeId} {ts : List TypeId} (h : flat P d t = some ts) (hd : d ≤ 10000) (hr : rowT P t = true) (zs : List (Value × Value)) (hall : All2 (LeafEq P) ts zs) :
    ∃ b : Bool, (∀ w, (Op.equalIn 10000 t (.agg (zs.map (·.1)).toArray) (.agg (zs.map (·.2)).toArray)).run P w = .ok b w) ∧ (b = true ↔ zs.map (·.1) = zs.map (·.2)) := by
  obtain ⟨b, hb, hiff⟩ := eq_flat d 10000 hd t ts zs h hall
  refine ⟨b, fun w => ?_, hiff⟩
  have := hb w
  unfold vOf at this
  rwa [if_pos hr, if_pos hr] at this
end
end Go.Proofs.Ytfekngnfjemgeaa.Flat
/- The contracts of sameValue, sameList and sameGroup at ints, rails, buses and groups, and of the document's SameInts: are two lists equal? -/
namespace Go.Proofs.Ytfekngnfjemgeaa.Same
open Go.ChangeShapes Go.WideShapes Go.ChangeAt Go.RowKit
open Tab
open May (ret_bool chain take_succ' infoP infoG infoD infoR infoB row_new)
set_option linter.unusedVariables false
set_option linter.unusedSimpArgs false

theorem eq_step {α : Type} {l m : List α} {k : Nat} {v u : α} (h : l[k]? = some v) (h' : m[k]? = some u) (e : l.take k = m.take k) (hv : v = u) : l.take (k + 1) = m.take (k + 1) := by
  rw [take_succ' l k v h, take_succ' m k u h', e, hv]
theorem eq_break {α : Type} {l m : List α} {k : Nat} {v u : α} (h : l[k]? = some v) (h' : m[k]? = some u) (hv : ¬ v = u) : ¬ l = m := by
  rintro rfl; rw [h] at h'; exact hv (Option.some.inj h')
theorem eq_end {α : Type} {l m : List α} {k : Nat} (e : l.take k = m.take k) (hl : l.length = m.length) (hk : ¬ k < l.length) : l = m := by
  rwa [List.take_of_length_le (by omega), List.take_of_length_le (by omega)] at e

theorem value_any (a b : Int) (w : World) : Calls Try.prog 63 #[.int .i64 a, .int .i64 b] w fun e w' => e = .returned (.bool (decide (a = b))) ∧ w = w' := by
  go_enter Try.func63, Try.ntmps63
  go_wp2
  go_ret
  exact ⟨ret_bool (by by_cases h : a = b <;> simp [h]), rfl⟩
theorem ints_any (a b : Option Addr) (ca cb : Nat) (l m : List Int) (w : World) (h : IntRow w ⟨a, ca⟩ l) (h' : IntRow w ⟨b, cb⟩ m) :
    Calls Try.prog 62 #[.slice a l.length ca, .slice b m.length cb, .func (.func 63) #[] #[]] w fun e w' => e = .returned (.bool (decide (l = m))) ∧ w = w' := by
  have h1 := h.len
  have h2 := h'.len
  unfold maxLen at h1 h2
  have Hr := Lib.hid h
  have Hr' := Lib.hid h'
  clear h h'
  by_cases hlen : l.length = m.length
  · have HL := Lib.hid hlen
    have hd : ((l.length : Int) != (m.length : Int)) = false := by rw [bne_eq_false_iff_eq]; omega
    go_enter Try.func62, Try.ntmps62
    go_wp2
    go_loop [16] (fun i => ∃ k : Nat, k ≤ l.length ∧ i = .int .i64 k ∧ l.take k = m.take k) (fun i => l.length - (intOf i).toNat)
    case atStart => exact ⟨0, by omega, rfl, rfl⟩
    case round =>
      obtain ⟨k, hk, rfl, hall⟩ := hrel
      have Hall := Lib.hid hall
      clear hall
      by_cases hlt : k < l.length
      · have hv := List.getElem?_eq_getElem hlt
        have hu := List.getElem?_eq_getElem (show k < m.length by omega)
        generalize l[k] = v at hv
        generalize m[k]'(show k < m.length by omega) = u at hu
        obtain ⟨x, hx, hc⟩ := Hr.out.at hv
        obtain rfl : a = some x := hx
        obtain ⟨y, hy, hc'⟩ := Hr'.out.at hu
        obtain rfl : b = some y := hy
        have HV := Lib.hid hv
        have HU := Lib.hid hu
        clear hv hu
        go_wp2_with fail
        refine (value_any v u _).mono ?_
        rintro e w2 ⟨rfl, rfl⟩
        by_cases hvu : v = u
        · have HE := Lib.hid hvu
          rw [decide_eq_true hvu]
          clear hvu
          go_wp2
          go_round
          case rel => exact ⟨k + 1, by omega, by go_num, eq_step HV.out HU.out Hall.out HE.out⟩
          case measure => simp [intOf]; omega
        · have HE := Lib.hid (show ¬ l = m from eq_break HV.out HU.out hvu)
          rw [decide_eq_false hvu]
          clear hvu
          go_wp2
          go_ret
          exact ⟨ret_bool (decide_eq_false HE.out).symm, rfl⟩
      · have HE := Lib.hid (show l = m from eq_end Hall.out HL.out hlt)
        go_wp2
        go_ret
        exact ⟨ret_bool (decide_eq_true HE.out).symm, rfl⟩
  · have HL := Lib.hid (show ¬ l = m from fun e => hlen (by rw [e]))
    have hd : ((l.length : Int) != (m.length : Int)) = true := by rw [bne_iff_ne]; omega
    go_enter Try.func62, Try.ntmps62
    go_wp2
    go_ret
    exact ⟨ret_bool (decide_eq_false HL.out).symm, rfl⟩
end Go.Proofs.Ytfekngnfjemgeaa.Same
/- What == answers at the arrays and structs of a table: equality. -/
namespace Go.Proofs.Ytfekngnfjemgeaa.Same
open Go.ChangeShapes Go.WideShapes
open Tab Flat
set_option linter.unusedVariables false
set_option linter.unusedSimpArgs false

def Eqs (t : TypeId) (xs ys : List Value) (b : Bool) : Prop := ∀ w : World, (Op.equalIn 10000 t (.agg xs.toArray) (.agg ys.toArray)).run Try.prog w = .ok b w
theorem eqs_of {d : Nat} {t : TypeId} {ts : List TypeId} (h : flat Try.prog d t = some ts) (hd : d ≤ 10000) (hr : rowT Try.prog t = true) (zs : List (Value × Value)) (hall : All2 (LeafEq Try.prog) ts zs) {xs ys : List Value} (hx : zs.map (·.1) = xs) (hy : zs.map (·.2) = ys) {p : Prop} [Decidable p]
    (hp : xs = ys ↔ p) : Eqs t xs ys (decide p) := by
  subst hx hy
  obtain ⟨b, hb, hiff⟩ := eql_flat h hd hr zs hall
  rw [hp] at hiff
  have e : b = decide p := by
    by_cases hq : p
    · rw [decide_eq_true hq]; exact hiff.2 hq
    · rw [decide_eq_false hq]; cases b
      · rfl
      · exact absurd (hiff.1 rfl) hq
  intro w
  rw [hb w, e]
theorem lint (a b : Int) : LeafEq Try.prog 3 (I a, I b) := leaf_int Try.underlying3 a b
theorem lu64 (a b : Int) : LeafEq Try.prog 77 (.int .u64 a, .int .u64 b) := leaf_int Try.underlying77 a b
theorem lbool (a b : Bool) : LeafEq Try.prog 4 (.bool a, .bool b) := leaf_bool Try.underlying4 a b
theorem flatR : flat Try.prog 3 41 = some [3, 3, 3, 3, 3, 3, 3, 3, 3, 3, 3] := by kernel_rfl
theorem flatB : flat Try.prog 3 43 = some [3, 3] := by kernel_rfl
abbrev phTs : List TypeId := [4, 3, 3, 3, 3, 3, 3, 3, 3, 3, 3, 4, 4]
theorem flatP : flat Try.prog 4 25 = some (List.replicate 8 phTs).flatten := by kernel_rfl
theorem flat8 : flat Try.prog 3 27 = some (List.replicate 8 [3]).flatten := by kernel_rfl
theorem flat7 : flat Try.prog 3 74 = some [3, 3, 3, 3, 3, 3, 3] := by kernel_rfl
theorem flat4 : flat Try.prog 3 100 = some [77, 77, 77, 77] := by kernel_rfl

theorem rail_eqs (r s : Rl) : Eqs 41 r.cells s.cells (decide (r = s)) := by
  obtain ⟨a0, a1, a2, a3, a4, a5, a6, a7, a8, a9, a10⟩ := r
  obtain ⟨b0, b1, b2, b3, b4, b5, b6, b7, b8, b9, b10⟩ := s
  refine eqs_of flatR (by decide) (by kernel_rfl) [(I a0, I b0), (I a1, I b1), (I a2, I b2), (I a3, I b3), (I a4, I b4), (I a5, I b5), (I a6, I b6), (I a7, I b7), (I a8, I b8), (I a9, I b9), (I a10, I b10)]
    ⟨lint _ _, lint _ _, lint _ _, lint _ _, lint _ _, lint _ _, lint _ _, lint _ _, lint _ _, lint _ _, lint _ _, trivial⟩ rfl rfl ?_
  simp [Rl.cells]
theorem bus_eqs (r s : Bs) : Eqs 43 r.cells s.cells (decide (r = s)) := by
  obtain ⟨a0, a1⟩ := r
  obtain ⟨b0, b1⟩ := s
  refine eqs_of flatB (by decide) (by kernel_rfl) [(I a0, I b0), (I a1, I b1)] ⟨lint _ _, lint _ _, trivial⟩ rfl rfl ?_
  simp [Bs.cells]
theorem ph_leaves (p q : Ph) : ∃ zs, All2 (LeafEq Try.prog) phTs zs ∧ zs.map (·.1) = p.cells ∧ zs.map (·.2) = q.cells := by
  obtain ⟨a0, a1, a2, a3, a4, a5, a6, a7, a8, a9, a10, a11, a12⟩ := p
  obtain ⟨b0, b1, b2, b3, b4, b5, b6, b7, b8, b9, b10, b11, b12⟩ := q
  exact ⟨[(.bool a0, .bool b0), (I a1, I b1), (I a2, I b2), (I a3, I b3), (I a4, I b4), (I a5, I b5), (I a6, I b6), (I a7, I b7), (I a8, I b8), (I a9, I b9), (I a10, I b10), (.bool a11, .bool b11), (.bool a12, .bool b12)],
    ⟨lbool _ _, lint _ _, lint _ _, lint _ _, lint _ _, lint _ _, lint _ _, lint _ _, lint _ _, lint _ _, lint _ _, lbool _ _, lbool _ _, trivial⟩, rfl, rfl⟩
theorem many {α : Type} {ts : List TypeId} {enc : α → List Value} (h1 : ∀ p q : α, ∃ zs, All2 (LeafEq Try.prog) ts zs ∧ zs.map (·.1) = enc p ∧ zs.map (·.2) = enc q) : ∀ (n : Nat) (l m : List α), l.length = n → m.length = n →
    ∃ zs, All2 (LeafEq Try.prog) (List.replicate n ts).flatten zs ∧ zs.map (·.1) = l.flatMap enc ∧ zs.map (·.2) = m.flatMap enc
  | 0, [], [], _, _ => ⟨[], trivial, rfl, rfl⟩
  | n + 1, p :: l, q :: m, hl, hm => by
    obtain ⟨z1, h2, h3, h4⟩ := h1 p q
    obtain ⟨z2, h5, h6, h7⟩ := many h1 n l m (by simpa using hl) (by simpa using hm)
    refine ⟨z1 ++ z2, ?_, by simp [h3, h6], by simp [h4, h7]⟩
    rw [List.replicate_succ, List.flatten_cons]
    exact h2.append h5
  | 0, _ :: _, _, hl, _ => by simp at hl
  | 0, [], _ :: _, _, hm => by simp at hm
  | n + 1, [], _, hl, _ => by simp at hl
  | n + 1, _ :: _, [], _, hm => by simp at hm
theorem phases_eqs (l m : List Ph) (hl : l.length = 8) (hm : m.length = 8) : Eqs 25 (l.flatMap Ph.cells) (m.flatMap Ph.cells) (decide (l = m)) := by
  obtain ⟨zs, h1, h2, h3⟩ := many ph_leaves 8 l m hl hm
  exact eqs_of flatP (by decide) (by kernel_rfl) zs h1 h2 h3 ⟨phases_inj, fun e => by rw [e]⟩
theorem flat_one (l : List Int) : l.flatMap (fun n => [I n]) = l.map I := by
  induction l with
  | nil => rfl
  | cons a l ih => rw [List.flatMap_cons, ih]; rfl
theorem eight_eqs (l m : List Int) (hl : l.length = 8) (hm : m.length = 8) : Eqs 27 (l.map I) (m.map I) (decide (l = m)) := by
  obtain ⟨zs, h1, h2, h3⟩ := many (ts := [3]) (enc := fun n => [I n]) (fun p q => ⟨[(I p, I q)], ⟨lint _ _, trivial⟩, rfl, rfl⟩) 8 l m hl hm
  rw [flat_one] at h2 h3
  exact eqs_of flat8 (by decide) (by kernel_rfl) zs h1 h2 h3 ⟨ints_inj, fun e => by rw [e]⟩
def single (T : Tab) : List Int := [T.extend, T.budget, T.start, T.revert, T.least, T.window, T.share]
theorem seven_eqs (T U : Tab) : Eqs 74 ((single T).map I) ((single U).map I) (decide (single T = single U)) := by
  refine eqs_of flat7 (by decide) (by kernel_rfl) [(I T.extend, I U.extend), (I T.budget, I U.budget), (I T.start, I U.start), (I T.revert, I U.revert), (I T.least, I U.least), (I T.window, I U.window), (I T.share, I U.share)]
    ⟨lint _ _, lint _ _, lint _ _, lint _ _, lint _ _, lint _ _, lint _ _, trivial⟩ (xs := (single T).map I) (ys := (single U).map I) rfl rfl ⟨ints_inj, fun e => by rw [e]⟩
abbrev U64 (n : Nat) : Value := .int .u64 n
def bitsOf (d : Det) : List Value := [U64 d.on, U64 d.off, U64 d.delay, U64 d.extend]
theorem bits_eqs (d e : Det) : Eqs 100 (bitsOf d) (bitsOf e) (decide (d.on = e.on ∧ d.off = e.off ∧ d.delay = e.delay ∧ d.extend = e.extend)) := by
  refine eqs_of flat4 (by decide) (by kernel_rfl) [(U64 d.on, U64 e.on), (U64 d.off, U64 e.off), (U64 d.delay, U64 e.delay), (U64 d.extend, U64 e.extend)] ⟨lu64 _ _, lu64 _ _, lu64 _ _, lu64 _ _, trivial⟩ rfl rfl ?_
  simp [bitsOf]
  omega
theorem guardR : Try.prog.eqGuardType Try.prog.depth 41 = false := by kernel_rfl
theorem guardB : Try.prog.eqGuardType Try.prog.depth 43 = false := by kernel_rfl
theorem guardP : Try.prog.eqGuardType Try.prog.depth 25 = false := by kernel_rfl
theorem guard8 : Try.prog.eqGuardType Try.prog.depth 27 = false := by kernel_rfl
theorem guard7 : Try.prog.eqGuardType Try.prog.depth 74 = false := by kernel_rfl
theorem guard4 : Try.prog.eqGuardType Try.prog.depth 100 = false := by kernel_rfl
end Go.Proofs.Ytfekngnfjemgeaa.Same
/- The contracts of sameValue and sameList at rails, buses and groups, and of sameGroup. -/
namespace Go.Proofs.Ytfekngnfjemgeaa.Same
open Go.ChangeShapes Go.WideShapes Go.ChangeAt Go.RowKit
open Tab
open May (ret_bool chain take_succ' infoP infoG infoD infoR infoB row_new)
set_option linter.unusedVariables false
set_option linter.unusedSimpArgs false

theorem group_any (g u : Gr) (w : World) (h : g.ok w) (h' : u.ok w) :
    Calls Try.prog 30 #[.agg g.cells.toArray, .agg u.cells.toArray] w fun e w' => e = .returned (.bool (decide (g.data = u.data))) ∧ Below w.heap.size w w' := by
  obtain ⟨l0, l1, ⟨a0, ca0⟩, ⟨a1, ca1⟩⟩ := g
  obtain ⟨m0, m1, ⟨b0, cb0⟩, ⟨b1, cb1⟩⟩ := u
  have H0 := Lib.hid h.1
  have H1 := Lib.hid h.2
  have U0 := Lib.hid h'.1
  have U1 := Lib.hid h'.2
  clear h h'
  show Calls Try.prog 30 #[.agg #[.slice a0 l0.length ca0, .slice a1 l1.length ca1], .agg #[.slice b0 m0.length cb0, .slice b1 m1.length cb1]] w _
  go_enter Try.func30, Try.ntmps30
  go_wp2_with fail
  have hb : Below w.heap.size w ((w.alloc (.cells #[.slice a0 l0.length ca0, .slice a1 l1.length ca1] 36)).alloc (.cells #[.slice b0 m0.length cb0, .slice b1 m1.length cb1] 36)) := ((Below.refl _ _).alloc (Nat.le_refl _) _).alloc (by simp) _
  have HB := Lib.hid hb
  clear hb
  refine (ints_any a0 b0 ca0 cb0 l0 m0 _ (H0.out.below HB.out) (U0.out.below HB.out)).mono ?_
  rintro e w' ⟨rfl, rfl⟩
  by_cases h0 : l0 = m0
  · have E0 := Lib.hid h0
    rw [decide_eq_true h0]
    clear h0
    go_wp2_with fail
    refine (ints_any a1 b1 ca1 cb1 l1 m1 _ (H1.out.below HB.out) (U1.out.below HB.out)).mono ?_
    rintro e w' ⟨rfl, rfl⟩
    generalize hv : decide (l1 = m1) = b
    have HV := Lib.hid hv
    clear hv
    go_wp2
    go_ret
    exact ⟨ret_bool (by rw [← HV.out]; simp [Gr.data, E0.out]), HB.out⟩
  · have E0 := Lib.hid h0
    rw [decide_eq_false h0]
    clear h0
    go_wp2
    go_ret
    exact ⟨ret_bool (by rw [decide_eq_false (fun e => E0.out (congrArg Prod.fst e))]), HB.out⟩
theorem railv_any (r s : Rl) (w : World) :
    Calls Try.prog 34 #[.agg r.cells.toArray, .agg s.cells.toArray] w fun e w' => e = .returned (.bool (decide (r = s))) ∧ Below w.heap.size w w' := by
  have HE := Lib.hid (rail_eqs r s)
  generalize hb : decide (r = s) = b at HE ⊢
  clear hb
  go_enter Try.func34, Try.ntmps34
  go_wp2_with (first | (refine wpList_load_row rfl 41 _ rfl _ rfl _ _ _ _ (heap_alloc2_old _ _ _) Try.underlying41 rfl infoR ?_) | (refine wpList_load_row rfl 41 _ rfl _ rfl _ _ _ _ (heap_alloc2_new _ _ _) Try.underlying41 rfl infoR ?_) | (refine Row.wpList_eql 41 _ _ _ rfl rfl r.cells.toArray s.cells.toArray rfl rfl guardR b HE.out ?_))
  go_ret
  exact ⟨rfl, ((Below.refl _ _).alloc (Nat.le_refl _) _).alloc (by simp) _⟩
theorem busv_any (r s : Bs) (w : World) :
    Calls Try.prog 36 #[.agg r.cells.toArray, .agg s.cells.toArray] w fun e w' => e = .returned (.bool (decide (r = s))) ∧ Below w.heap.size w w' := by
  have HE := Lib.hid (bus_eqs r s)
  generalize hb : decide (r = s) = b at HE ⊢
  clear hb
  go_enter Try.func36, Try.ntmps36
  go_wp2_with (first | (refine wpList_load_row rfl 43 _ rfl _ rfl _ _ _ _ (heap_alloc2_old _ _ _) Try.underlying43 rfl infoB ?_) | (refine wpList_load_row rfl 43 _ rfl _ rfl _ _ _ _ (heap_alloc2_new _ _ _) Try.underlying43 rfl infoB ?_) | (refine Row.wpList_eql 43 _ _ _ rfl rfl r.cells.toArray s.cells.toArray rfl rfl guardB b HE.out ?_))
  go_ret
  exact ⟨rfl, ((Below.refl _ _).alloc (Nat.le_refl _) _).alloc (by simp) _⟩
set_option maxHeartbeats 1000000 in
theorem rails_any (a b : Option Addr) (ca cb : Nat) (l m : List Rl) (w : World) (h : RowOf 11 Rl.cells w ⟨a, ca⟩ l) (h' : RowOf 11 Rl.cells w ⟨b, cb⟩ m) :
    Calls Try.prog 33 #[.slice a l.length ca, .slice b m.length cb, .func (.func 34) #[] #[]] w fun e w' => e = .returned (.bool (decide (l = m))) ∧ Below w.heap.size w w' := by
  have h1 := h.len
  have h2 := h'.len
  unfold maxLen at h1 h2
  have Hr := Lib.hid h
  have Hr' := Lib.hid h'
  clear h h'
  by_cases hlen : l.length = m.length
  · have HL := Lib.hid hlen
    have hd : ((l.length : Int) != (m.length : Int)) = false := by rw [bne_eq_false_iff_eq]; omega
    go_enter Try.func33, Try.ntmps33
    go_wp2
    go_loopw [16] (fun i wr => ∃ k : Nat, k ≤ l.length ∧ i = .int .i64 k ∧ l.take k = m.take k ∧ Below w.heap.size w wr) (fun i _ => l.length - (intOf i).toNat)
    case atStart => exact ⟨0, by omega, rfl, rfl, Below.refl _ _⟩
    case round =>
      obtain ⟨k, hk, rfl, hall, hbel⟩ := hrel
      have Hall := Lib.hid hall
      have Hb := Lib.hid hbel
      clear hall hbel
      by_cases hlt : k < l.length
      · have hv := List.getElem?_eq_getElem hlt
        have hu := List.getElem?_eq_getElem (show k < m.length by omega)
        generalize l[k] = v at hv
        generalize m[k]'(show k < m.length by omega) = u at hu
        obtain ⟨x, hx, hc⟩ := (Hr.out.below Hb.out).at hv
        obtain rfl : a = some x := hx
        obtain ⟨y, hy, hc'⟩ := (Hr'.out.below Hb.out).at hu
        obtain rfl : b = some y := hy
        have HV := Lib.hid hv
        have HU := Lib.hid hu
        have HC := Lib.hid hc
        have HC' := Lib.hid hc'
        clear hv hu hc hc'
        go_wp2_with (first | (refine Row.wpList_load_lies rfl 41 _ rfl (x.add (k * 11)) rfl v.cells _ HC.out Try.underlying41 rfl infoR ?_) | (refine Row.wpList_store_new rfl 41 _ _ rfl _ _ v.cells.toArray rfl rfl rfl infoR rfl v.one ?_))
        have B1 : Hid (Below wr.heap.size wr (wr.alloc (.cells v.cells.toArray 41))) := (Below.refl _ _).alloc (Nat.le_refl _) _
        have L1 : Hid (Lies (wr.alloc (.cells v.cells.toArray 41)) ⟨wr.heap.size, 0, none⟩ v.cells) := Row.lies_new _ _ _
        have L2 : Hid (Lies (wr.alloc (.cells v.cells.toArray 41)) (y.add (k * 11)) u.cells) := HC'.out.below B1.out
        generalize hw1 : wr.alloc (.cells v.cells.toArray 41) = w1 at B1 L1 L2 ⊢
        clear hw1
        have hkm : k < m.length := by omega
        have hne : Nonempty (Ph.S (Row.Old w1)) := ⟨⟨0, w1, Below.refl _ _⟩⟩
        refine Ph.wp_region_ph (Row.Old w1) [] (by kernel_rfl) (by kernel_rfl) (Row.Old.drew _) ?_
        repeat
          first
            | (refine Row.wpPh_load rfl rfl 41 _ rfl ⟨wr.heap.size, 0, none⟩ rfl v.cells _ (fun p => L1.out.below p.is) Try.underlying41 rfl infoR ?_)
            | (refine Row.wpPh_load rfl rfl 41 _ rfl (y.add (k * 11)) rfl u.cells _ (fun p => L2.out.below p.is) Try.underlying41 rfl infoR ?_)
            | (refine Ph.wpPh_calm rfl (fun K hK => ?_)
               go_simp
               first
                 | (refine hK _ ?_; clear hK K)
                 | (refine ⟨_, fun p => Row.Old.call (railv_any v u _), hK _ ?_⟩; clear hK K))
        refine Ph.wpPh_nil ?_
        intro w2 hb2
        clear hne
        have B2 := Lib.hid (Below.trans Hb.out ((Below.trans B1.out (Below.mono hb2 B1.out.size)).mono Hb.out.size))
        clear hb2
        by_cases hvu : v = u
        · have HE := Lib.hid hvu
          rw [decide_eq_true hvu]
          clear hvu
          go_wp2
          go_roundw
          case rel => exact ⟨k + 1, by omega, by go_num, eq_step HV.out HU.out Hall.out HE.out, B2.out⟩
          case measure => simp [intOf]; omega
        · have HE := Lib.hid (show ¬ l = m from eq_break HV.out HU.out hvu)
          rw [decide_eq_false hvu]
          clear hvu
          go_wp2
          go_ret
          exact ⟨ret_bool (decide_eq_false HE.out).symm, B2.out⟩
      · have HE := Lib.hid (show l = m from eq_end Hall.out HL.out hlt)
        go_wp2
        go_ret
        exact ⟨ret_bool (decide_eq_true HE.out).symm, Hb.out⟩
  · have HL := Lib.hid (show ¬ l = m from fun e => hlen (by rw [e]))
    have hd : ((l.length : Int) != (m.length : Int)) = true := by rw [bne_iff_ne]; omega
    go_enter Try.func33, Try.ntmps33
    go_wp2
    go_ret
    exact ⟨ret_bool (decide_eq_false HL.out).symm, Below.refl _ _⟩
set_option maxHeartbeats 1000000 in
theorem buses_any (a b : Option Addr) (ca cb : Nat) (l m : List Bs) (w : World) (h : RowOf 2 Bs.cells w ⟨a, ca⟩ l) (h' : RowOf 2 Bs.cells w ⟨b, cb⟩ m) :
    Calls Try.prog 35 #[.slice a l.length ca, .slice b m.length cb, .func (.func 36) #[] #[]] w fun e w' => e = .returned (.bool (decide (l = m))) ∧ Below w.heap.size w w' := by
  have h1 := h.len
  have h2 := h'.len
  unfold maxLen at h1 h2
  have Hr := Lib.hid h
  have Hr' := Lib.hid h'
  clear h h'
  by_cases hlen : l.length = m.length
  · have HL := Lib.hid hlen
    have hd : ((l.length : Int) != (m.length : Int)) = false := by rw [bne_eq_false_iff_eq]; omega
    go_enter Try.func35, Try.ntmps35
    go_wp2
    go_loopw [16] (fun i wr => ∃ k : Nat, k ≤ l.length ∧ i = .int .i64 k ∧ l.take k = m.take k ∧ Below w.heap.size w wr) (fun i _ => l.length - (intOf i).toNat)
    case atStart => exact ⟨0, by omega, rfl, rfl, Below.refl _ _⟩
    case round =>
      obtain ⟨k, hk, rfl, hall, hbel⟩ := hrel
      have Hall := Lib.hid hall
      have Hb := Lib.hid hbel
      clear hall hbel
      by_cases hlt : k < l.length
      · have hv := List.getElem?_eq_getElem hlt
        have hu := List.getElem?_eq_getElem (show k < m.length by omega)
        generalize l[k] = v at hv
        generalize m[k]'(show k < m.length by omega) = u at hu
        obtain ⟨x, hx, hc⟩ := (Hr.out.below Hb.out).at hv
        obtain rfl : a = some x := hx
        obtain ⟨y, hy, hc'⟩ := (Hr'.out.below Hb.out).at hu
        obtain rfl : b = some y := hy
        have HV := Lib.hid hv
        have HU := Lib.hid hu
        have HC := Lib.hid hc
        have HC' := Lib.hid hc'
        clear hv hu hc hc'
        go_wp2_with (first | (refine Row.wpList_load_lies rfl 43 _ rfl (x.add (k * 2)) rfl v.cells _ HC.out Try.underlying43 rfl infoB ?_) | (refine Row.wpList_store_new rfl 43 _ _ rfl _ _ v.cells.toArray rfl rfl rfl infoB rfl v.one ?_))
        have B1 : Hid (Below wr.heap.size wr (wr.alloc (.cells v.cells.toArray 43))) := (Below.refl _ _).alloc (Nat.le_refl _) _
        have L1 : Hid (Lies (wr.alloc (.cells v.cells.toArray 43)) ⟨wr.heap.size, 0, none⟩ v.cells) := Row.lies_new _ _ _
        have L2 : Hid (Lies (wr.alloc (.cells v.cells.toArray 43)) (y.add (k * 2)) u.cells) := HC'.out.below B1.out
        generalize hw1 : wr.alloc (.cells v.cells.toArray 43) = w1 at B1 L1 L2 ⊢
        clear hw1
        have hkm : k < m.length := by omega
        have hne : Nonempty (Ph.S (Row.Old w1)) := ⟨⟨0, w1, Below.refl _ _⟩⟩
        refine Ph.wp_region_ph (Row.Old w1) [] (by kernel_rfl) (by kernel_rfl) (Row.Old.drew _) ?_
        repeat
          first
            | (refine Row.wpPh_load rfl rfl 43 _ rfl ⟨wr.heap.size, 0, none⟩ rfl v.cells _ (fun p => L1.out.below p.is) Try.underlying43 rfl infoB ?_)
            | (refine Row.wpPh_load rfl rfl 43 _ rfl (y.add (k * 2)) rfl u.cells _ (fun p => L2.out.below p.is) Try.underlying43 rfl infoB ?_)
            | (refine Ph.wpPh_calm rfl (fun K hK => ?_)
               go_simp
               first
                 | (refine hK _ ?_; clear hK K)
                 | (refine ⟨_, fun p => Row.Old.call (busv_any v u _), hK _ ?_⟩; clear hK K))
        refine Ph.wpPh_nil ?_
        intro w2 hb2
        clear hne
        have B2 := Lib.hid (Below.trans Hb.out ((Below.trans B1.out (Below.mono hb2 B1.out.size)).mono Hb.out.size))
        clear hb2
        by_cases hvu : v = u
        · have HE := Lib.hid hvu
          rw [decide_eq_true hvu]
          clear hvu
          go_wp2
          go_roundw
          case rel => exact ⟨k + 1, by omega, by go_num, eq_step HV.out HU.out Hall.out HE.out, B2.out⟩
          case measure => simp [intOf]; omega
        · have HE := Lib.hid (show ¬ l = m from eq_break HV.out HU.out hvu)
          rw [decide_eq_false hvu]
          clear hvu
          go_wp2
          go_ret
          exact ⟨ret_bool (decide_eq_false HE.out).symm, B2.out⟩
      · have HE := Lib.hid (show l = m from eq_end Hall.out HL.out hlt)
        go_wp2
        go_ret
        exact ⟨ret_bool (decide_eq_true HE.out).symm, Hb.out⟩
  · have HL := Lib.hid (show ¬ l = m from fun e => hlen (by rw [e]))
    have hd : ((l.length : Int) != (m.length : Int)) = true := by rw [bne_iff_ne]; omega
    go_enter Try.func35, Try.ntmps35
    go_wp2
    go_ret
    exact ⟨ret_bool (decide_eq_false HL.out).symm, Below.refl _ _⟩
set_option maxHeartbeats 1000000 in
theorem groups_any (a b : Option Addr) (ca cb : Nat) (l m : List Gr) (w : World) (h : RowOf 2 Gr.cells w ⟨a, ca⟩ l) (h' : RowOf 2 Gr.cells w ⟨b, cb⟩ m) (k1 : ∀ v ∈ l, v.ok w) (k2 : ∀ v ∈ m, v.ok w) :
    Calls Try.prog 29 #[.slice a l.length ca, .slice b m.length cb, .func (.func 30) #[] #[]] w fun e w' => e = .returned (.bool (decide (l.map Gr.data = m.map Gr.data))) ∧ Below w.heap.size w w' := by
  have h1 := h.len
  have h2 := h'.len
  unfold maxLen at h1 h2
  have Hr := Lib.hid h
  have Hr' := Lib.hid h'
  clear h h'
  have K1 := Lib.hid k1
  have K2 := Lib.hid k2
  clear k1 k2
  by_cases hlen : l.length = m.length
  · have HL := Lib.hid hlen
    have hd : ((l.length : Int) != (m.length : Int)) = false := by rw [bne_eq_false_iff_eq]; omega
    go_enter Try.func29, Try.ntmps29
    go_wp2
    go_loopw [16] (fun i wr => ∃ k : Nat, k ≤ l.length ∧ i = .int .i64 k ∧ (l.take k).map Gr.data = (m.take k).map Gr.data ∧ Below w.heap.size w wr) (fun i _ => l.length - (intOf i).toNat)
    case atStart => exact ⟨0, by omega, rfl, rfl, Below.refl _ _⟩
    case round =>
      obtain ⟨k, hk, rfl, hall, hbel⟩ := hrel
      have Hall := Lib.hid hall
      have Hb := Lib.hid hbel
      clear hall hbel
      by_cases hlt : k < l.length
      · have hv := List.getElem?_eq_getElem hlt
        have hu := List.getElem?_eq_getElem (show k < m.length by omega)
        generalize l[k] = v at hv
        generalize m[k]'(show k < m.length by omega) = u at hu
        obtain ⟨x, hx, hc⟩ := (Hr.out.below Hb.out).at hv
        obtain rfl : a = some x := hx
        obtain ⟨y, hy, hc'⟩ := (Hr'.out.below Hb.out).at hu
        obtain rfl : b = some y := hy
        have HV := Lib.hid hv
        have HU := Lib.hid hu
        have HC := Lib.hid hc
        have HC' := Lib.hid hc'
        clear hv hu hc hc'
        go_wp2_with (first | (refine Row.wpList_load_lies rfl 36 _ rfl (x.add (k * 2)) rfl v.cells _ HC.out Try.underlying36 rfl infoG ?_) | (refine Row.wpList_store_new rfl 36 _ _ rfl _ _ v.cells.toArray rfl rfl rfl infoG rfl v.one ?_))
        have B1 : Hid (Below wr.heap.size wr (wr.alloc (.cells v.cells.toArray 36))) := (Below.refl _ _).alloc (Nat.le_refl _) _
        have L1 : Hid (Lies (wr.alloc (.cells v.cells.toArray 36)) ⟨wr.heap.size, 0, none⟩ v.cells) := Row.lies_new _ _ _
        have L2 : Hid (Lies (wr.alloc (.cells v.cells.toArray 36)) (y.add (k * 2)) u.cells) := HC'.out.below B1.out
        generalize hw1 : wr.alloc (.cells v.cells.toArray 36) = w1 at B1 L1 L2 ⊢
        clear hw1
        have hkm : k < m.length := by omega
        have hne : Nonempty (Ph.S (Row.Old w1)) := ⟨⟨0, w1, Below.refl _ _⟩⟩
        refine Ph.wp_region_ph (Row.Old w1) [] (by kernel_rfl) (by kernel_rfl) (Row.Old.drew _) ?_
        repeat
          first
            | (refine Row.wpPh_load rfl rfl 36 _ rfl ⟨wr.heap.size, 0, none⟩ rfl v.cells _ (fun p => L1.out.below p.is) Try.underlying36 rfl infoG ?_)
            | (refine Row.wpPh_load rfl rfl 36 _ rfl (y.add (k * 2)) rfl u.cells _ (fun p => L2.out.below p.is) Try.underlying36 rfl infoG ?_)
            | (refine Ph.wpPh_calm rfl (fun K hK => ?_)
               go_simp
               first
                 | (refine hK _ ?_; clear hK K)
                 | (refine ⟨_, fun p => Row.Old.call (group_any v u _ ((K1.out v (List.mem_of_getElem? HV.out)).below ((Hb.out.trans (B1.out.mono Hb.out.size)).trans (p.is.mono (Nat.le_trans Hb.out.size B1.out.size)))) ((K2.out u (List.mem_of_getElem? HU.out)).below ((Hb.out.trans (B1.out.mono Hb.out.size)).trans (p.is.mono (Nat.le_trans Hb.out.size B1.out.size))))), hK _ ?_⟩; clear hK K))
        refine Ph.wpPh_nil ?_
        intro w2 hb2
        clear hne
        have B2 := Lib.hid (Below.trans Hb.out ((Below.trans B1.out (Below.mono hb2 B1.out.size)).mono Hb.out.size))
        clear hb2
        by_cases hvu : v.data = u.data
        · have HE := Lib.hid hvu
          rw [decide_eq_true hvu]
          clear hvu
          go_wp2
          go_roundw
          case rel => exact ⟨k + 1, by omega, by go_num, by rw [take_succ' l k v HV.out, take_succ' m k u HU.out, List.map_append, List.map_append, Hall.out]; simp [HE.out], B2.out⟩
          case measure => simp [intOf]; omega
        · have HE := Lib.hid (show ¬ l.map Gr.data = m.map Gr.data from fun e => hvu (by have h3 := congrArg (·[k]?) e; simp only [List.getElem?_map, HV.out, HU.out, Option.map_some] at h3; exact Option.some.inj h3))
          rw [decide_eq_false hvu]
          clear hvu
          go_wp2
          go_ret
          exact ⟨ret_bool (decide_eq_false HE.out).symm, B2.out⟩
      · have HE := Lib.hid (show l.map Gr.data = m.map Gr.data from by have h3 := Hall.out; rwa [List.take_of_length_le (by omega), List.take_of_length_le (by have := HL.out; omega)] at h3)
        go_wp2
        go_ret
        exact ⟨ret_bool (decide_eq_true HE.out).symm, Hb.out⟩
  · have HL := Lib.hid (show ¬ l.map Gr.data = m.map Gr.data from fun e => hlen (by have := congrArg List.length e; simpa using this))
    have hd : ((l.length : Int) != (m.length : Int)) = true := by rw [bne_iff_ne]; omega
    go_enter Try.func29, Try.ntmps29
    go_wp2
    go_ret
    exact ⟨ret_bool (decide_eq_false HL.out).symm, Below.refl _ _⟩
end Go.Proofs.Ytfekngnfjemgeaa.Same
/- A region that draws its order of evaluation and whose calls may make memory: walked once, in the order of the text, in the class 'below block B as it was'. No program in it. -/
namespace Go.Proofs.Ytfekngnfjemgeaa.QB
open Go.RowKit
structure By (B : Nat) (w : World) where
  world : World
  below : Below B w world
instance {B : Nat} {w : World} : Inhabited (By B w) := ⟨⟨w, Below.refl _ _⟩⟩
theorem region_below {P : Program} {id : Nat} {Q : Exit → Act → World → Prop} {a : Act} {w : World} {l : List Oper} (B : Nat) (hm : P.follows .mixedOrders = true) (hB : Region.lexB .any l.toArray = true)
    (h : wpQuiet P l.toArray (fun w' => ∃ p : By B w, w' = p.world) (fun a' => ∀ w', (∃ p : By B w, w' = p.world) → Q .normal a' w') l a) : (Code.region id l.toArray true).wp P Q a w :=
  wp_region_quiet (C := fun w' => ∃ p : By B w, w' = p.world) hm hB ⟨⟨w.drew, (Below.refl _ _).drew⟩, rfl⟩ (by simpa using h)
/-- A callee's contract, met in a world of the class. -/
theorem call_of {P : Program} {f : FuncId} {args : Array Value} {B : Nat} {w : World} {p : By B w} {v : Value} (hB : B ≤ w.heap.size)
    (h : Below B w p.world → Calls P f args p.world fun e w' => e = .returned v ∧ Below p.world.heap.size p.world w') :
    Calls P f args p.world fun e w'' => e = .returned v ∧ ∃ q : By B w, w'' = q.world :=
  (h p.below).mono fun _ w'' ⟨he, hb⟩ => ⟨he, ⟨w'', p.below.trans (hb.mono (Nat.le_trans hB p.below.size))⟩, rfl⟩
/-- A still head, and a chain behind it. -/
theorem region_tail {P : Program} {w : World} {id : Nat} {Q : Exit → Act → World → Prop} {a : Act} {l : List Oper} (n : Nat) (hm : P.follows .mixedOrders = true) (hB : Region.lexTailB .any l.toArray n = true)
    (h : wpStill P l.toArray w.drew (fun a' => wpList P l.toArray Q (l.drop n) a' w.drew) (l.take n) a) : (Code.region id l.toArray true).wp P Q a w :=
  wp_region_still_tail n hm hB h
end Go.Proofs.Ytfekngnfjemgeaa.QB
/- The contracts of table.bits, single, sameDetector and of sameList at detectors. -/
namespace Go.Proofs.Ytfekngnfjemgeaa.Same
open Go.ChangeShapes Go.WideShapes Go.ChangeAt Go.RowKit
open Tab
open May (ret_bool chain take_succ' infoP infoG infoD infoR infoB row_new St)
set_option linter.unusedVariables false
set_option linter.unusedSimpArgs false
theorem info4 : (Try.prog.info? 100).map (·.size) = some 4 := by kernel_rfl
theorem info7 : (Try.prog.info? 74).map (·.size) = some 7 := by kernel_rfl
theorem below_setRow {B : Nat} {a w : World} (h : Below B a w) {g : Nat} (hg : B ≤ g) (cs : Array Value) : Below B a (w.setRow g cs) :=
  h.trans ⟨rfl, rfl, rfl, by simp [World.setRow], fun j hj => setRow_other _ _ _ _ (by omega)⟩
set_option maxRecDepth 10000 in
set_option maxHeartbeats 1000000 in
theorem bits_any (d : Det) (w : World) :
    Calls Try.prog 64 #[.agg d.cells.toArray] w fun e w' => e = .returned (.agg (bitsOf d).toArray) ∧ Below w.heap.size w w' := by
  obtain ⟨phase, on, off, delay, extend, maxOn, maxOff⟩ := d
  show Calls Try.prog 64 #[.agg #[I phase, F on, F off, F delay, F extend, I maxOn, I maxOff]] w _
  have hb := Secs.bits_call
  go_enter Try.func64, Try.ntmps64
  go_wp2_with fail
  refine QB.region_tail 13 (by kernel_rfl) (by kernel_rfl) ?_
  simp only [List.take_succ_cons, List.take_zero, List.drop_succ_cons, List.drop_zero]
  repeat still_step
  refine wpStill_nil ?_
  refine wpList_store_row rfl 100 _ _ rfl (w.heap.size + 1) (bitsOf ⟨phase, on, off, delay, extend, maxOn, maxOff⟩).toArray rfl rfl 100 #[.int .u64 0, .int .u64 0, .int .u64 0, .int .u64 0] (heap_alloc2_new w _ _) info4 rfl (by simp [bitsOf, Value.oneCell']) ?_
  have hbl : Below w.heap.size w (World.setRow (((w.alloc (.cells #[I phase, F on, F off, F delay, F extend, I maxOn, I maxOff] 39)).alloc (.cells #[.int .u64 0, .int .u64 0, .int .u64 0, .int .u64 0] 100)).drew) (w.heap.size + 1) (bitsOf ⟨phase, on, off, delay, extend, maxOn, maxOff⟩).toArray) :=
    below_setRow (((Below.refl _ _).alloc (Nat.le_refl _) _).alloc (by simp) _).drew (by omega) _
  have hbk : (World.setRow (((w.alloc (.cells #[I phase, F on, F off, F delay, F extend, I maxOn, I maxOff] 39)).alloc (.cells #[.int .u64 0, .int .u64 0, .int .u64 0, .int .u64 0] 100)).drew) (w.heap.size + 1) (bitsOf ⟨phase, on, off, delay, extend, maxOn, maxOff⟩).toArray).heap[w.heap.size + 1]? = some (.cells (bitsOf ⟨phase, on, off, delay, extend, maxOn, maxOff⟩).toArray 100 (0, 0)) :=
    setRow_heap _ _ _ _ _ _ (heap_alloc2_new w _ _)
  generalize World.setRow _ _ _ = w3 at hbl hbk ⊢
  have HB := Lib.hid hbl
  have HK := Lib.hid hbk
  clear hbl hbk hb
  go_wp2_with fail
  (try simp only [Exit.inBlock, Exit.then])
  refine bodyPost_ret (v := .agg (bitsOf ⟨phase, on, off, delay, extend, maxOn, maxOff⟩).toArray) ?_ rfl ⟨rfl, HB.out⟩
  exact results_cell_row rfl _ _ (w.heap.size + 1) 100 _ (0, 0) _ rfl HK.out Try.underlying100 rfl info4
set_option maxRecDepth 10000 in
set_option maxHeartbeats 1000000 in
theorem single_any (T : Tab) (h : Hd) (w : World) (k : IsTab w h T) :
    Calls Try.prog 37 #[.agg (T.cells h).toArray] w fun e w' => e = .returned (.agg ((single T).map I).toArray) ∧ Below w.heap.size w w' := by
  have C := Lib.hid (cells_ok k)
  generalize (T.cells h).toArray = cs at C ⊢
  have hsz := C.out.size
  have S0 := Lib.hid (St.box (cs := cs) k)
  clear k
  go_enter Try.func37, Try.ntmps37
  go_upto_region 1 with fail
  have hz : (w.alloc (.cells cs 32)).heap.size = w.heap.size + 1 := by simp
  have HZ := Lib.hid hz
  generalize hw1 : w.alloc (.cells cs 32) = w1 at S0 HZ ⊢
  clear hw1 hsz hz
  have hb1 : Below w1.heap.size w1 (w1.alloc (.cells #[.int .i64 0, .int .i64 0, .int .i64 0, .int .i64 0, .int .i64 0, .int .i64 0, .int .i64 0] 74)) := (Below.refl _ _).alloc (Nat.le_refl _) _
  have S1 := Lib.hid (S0.out.step hb1)
  have hg1 : (w1.alloc (.cells #[.int .i64 0, .int .i64 0, .int .i64 0, .int .i64 0, .int .i64 0, .int .i64 0, .int .i64 0] 74)).heap[w.heap.size + 1]? = some (.cells #[.int .i64 0, .int .i64 0, .int .i64 0, .int .i64 0, .int .i64 0, .int .i64 0, .int .i64 0] 74 (0, 0)) := by rw [← HZ.out]; exact heap_alloc_new w1 _
  have HG := Lib.hid hg1
  generalize w1.alloc (.cells #[.int .i64 0, .int .i64 0, .int .i64 0, .int .i64 0, .int .i64 0, .int .i64 0, .int .i64 0] 74) = w2 at S1 HG ⊢
  clear hb1 hg1 S0 HZ
  have c116 := S1.out.cell C.out.extend
  have c117 := S1.out.cell C.out.budget
  have c118 := S1.out.cell C.out.start
  have c119 := S1.out.cell C.out.revert
  have c120 := S1.out.cell C.out.least
  have c129 := S1.out.cell C.out.window
  have c130 := S1.out.cell C.out.share
  go_wp2_with (refine wpList_store_row rfl 74 _ _ rfl (w.heap.size + 1) ((single T).map I).toArray rfl rfl 74 _ HG.out info7 rfl (by simp [single, Value.oneCell']) ?_)
  have hbl : Below w.heap.size w (w2.setRow (w.heap.size + 1) ((single T).map I).toArray) := below_setRow S1.out.bel (by omega) _
  have hbk := setRow_heap w2 (w.heap.size + 1) _ ((single T).map I).toArray _ _ HG.out
  generalize w2.setRow (w.heap.size + 1) ((single T).map I).toArray = w3 at hbl hbk ⊢
  have HB := Lib.hid hbl
  have HK := Lib.hid hbk
  clear hbl hbk c116 c117 c118 c119 c120 c129 c130
  go_wp2_with fail
  (try simp only [Exit.inBlock, Exit.then])
  refine bodyPost_ret (v := .agg ((single T).map I).toArray) ?_ rfl ⟨rfl, HB.out⟩
  exact results_cell_row rfl _ _ (w.heap.size + 1) 74 _ (0, 0) _ rfl HK.out Try.underlying74 rfl info7
set_option maxRecDepth 10000 in
set_option maxHeartbeats 4000000 in
theorem detv_any (d e : Det) (w : World) :
    Calls Try.prog 32 #[.agg d.cells.toArray, .agg e.cells.toArray] w fun r w' => r = .returned (.bool (decide (d = e))) ∧ Below w.heap.size w w' := by
  have L1 : Hid (Lies ((w.alloc (.cells d.cells.toArray 39)).alloc (.cells e.cells.toArray 39)) ⟨w.heap.size, 0, none⟩ d.cells) := (Row.lies_new w d.cells.toArray 39).below ((Below.refl _ _).alloc (Nat.le_refl _) _)
  have L2 : Hid (Lies ((w.alloc (.cells d.cells.toArray 39)).alloc (.cells e.cells.toArray 39)) ⟨w.heap.size + 1, 0, none⟩ e.cells) := by
    have := Row.lies_new (w.alloc (.cells d.cells.toArray 39)) e.cells.toArray 39
    rwa [show (w.alloc (.cells d.cells.toArray 39)).heap.size = w.heap.size + 1 by simp] at this
  have HB : Hid (Below w.heap.size w ((w.alloc (.cells d.cells.toArray 39)).alloc (.cells e.cells.toArray 39))) := ((Below.refl _ _).alloc (Nat.le_refl _) _).alloc (by simp) _
  go_enter Try.func32, Try.ntmps32
  go_wp2_with fail
  generalize (w.alloc (.cells d.cells.toArray 39)).alloc (.cells e.cells.toArray 39) = w1 at L1 L2 HB ⊢
  have hne : Nonempty (Ph.S (Row.Old w1)) := ⟨⟨0, w1, Below.refl _ _⟩⟩
  have q00 : ∀ p : Ph.S (Row.Old w1), p.world.cell? ⟨w.heap.size, 0, none⟩ = some (I d.phase) := fun p => by have := (L1.out.below p.is) 0 _ rfl; rwa [Addr.add_mid, Nat.zero_add] at this
  have q05 : ∀ p : Ph.S (Row.Old w1), p.world.cell? ⟨w.heap.size, 5, none⟩ = some (I d.maxOn) := fun p => by have := (L1.out.below p.is) 5 _ rfl; rwa [Addr.add_mid, Nat.zero_add] at this
  have q06 : ∀ p : Ph.S (Row.Old w1), p.world.cell? ⟨w.heap.size, 6, none⟩ = some (I d.maxOff) := fun p => by have := (L1.out.below p.is) 6 _ rfl; rwa [Addr.add_mid, Nat.zero_add] at this
  have q10 : ∀ p : Ph.S (Row.Old w1), p.world.cell? ⟨w.heap.size + 1, 0, none⟩ = some (I e.phase) := fun p => by have := (L2.out.below p.is) 0 _ rfl; rwa [Addr.add_mid, Nat.zero_add] at this
  have q15 : ∀ p : Ph.S (Row.Old w1), p.world.cell? ⟨w.heap.size + 1, 5, none⟩ = some (I e.maxOn) := fun p => by have := (L2.out.below p.is) 5 _ rfl; rwa [Addr.add_mid, Nat.zero_add] at this
  have q16 : ∀ p : Ph.S (Row.Old w1), p.world.cell? ⟨w.heap.size + 1, 6, none⟩ = some (I e.maxOff) := fun p => by have := (L2.out.below p.is) 6 _ rfl; rwa [Addr.add_mid, Nat.zero_add] at this
  refine Ph.wp_region_ph (Row.Old w1) [] (by kernel_rfl) (by kernel_rfl) (Row.Old.drew _) ?_
  by_cases h0 : d.phase = e.phase
  rotate_left
  · have E0 := Lib.hid h0
    have hb0 : (d.phase == e.phase) = false := by simpa using h0
    clear h0
    repeat
      (refine Ph.wpPh_calm rfl (fun K hK => ?_)
       go_simp
       refine hK _ ?_
       clear hK K)

    refine Ph.wpPh_nil ?_
    intro w2 hb2
    have B2 : Hid (Below w.heap.size w w2) := Below.trans HB.out (Below.mono hb2 HB.out.size)
    clear hb2 hne q00 q05 q06 q10 q15 q16
    go_wp2
    go_ret
    exact ⟨ret_bool (decide_eq_false (fun q => E0.out (by rw [q]))).symm, B2.out⟩
  have E0 := Lib.hid h0
  have hb0 : (d.phase == e.phase) = true := by simpa using h0
  clear h0
  by_cases h1 : d.maxOn = e.maxOn
  rotate_left
  · have E1 := Lib.hid h1
    have hb1 : (d.maxOn == e.maxOn) = false := by simpa using h1
    clear h1
    repeat
      (refine Ph.wpPh_calm rfl (fun K hK => ?_)
       go_simp
       refine hK _ ?_
       clear hK K)

    refine Ph.wpPh_nil ?_
    intro w2 hb2
    have B2 : Hid (Below w.heap.size w w2) := Below.trans HB.out (Below.mono hb2 HB.out.size)
    clear hb2 hne q00 q05 q06 q10 q15 q16
    go_wp2
    go_ret
    exact ⟨ret_bool (decide_eq_false (fun q => E1.out (by rw [q]))).symm, B2.out⟩
  have E1 := Lib.hid h1
  have hb1 : (d.maxOn == e.maxOn) = true := by simpa using h1
  clear h1
  by_cases h2 : d.maxOff = e.maxOff
  rotate_left
  · have E2 := Lib.hid h2
    have hb2 : (d.maxOff == e.maxOff) = false := by simpa using h2
    clear h2
    repeat
      (refine Ph.wpPh_calm rfl (fun K hK => ?_)
       go_simp
       refine hK _ ?_
       clear hK K)

    refine Ph.wpPh_nil ?_
    intro w2 hb2
    have B2 : Hid (Below w.heap.size w w2) := Below.trans HB.out (Below.mono hb2 HB.out.size)
    clear hb2 hne q00 q05 q06 q10 q15 q16
    go_wp2
    go_ret
    exact ⟨ret_bool (decide_eq_false (fun q => E2.out (by rw [q]))).symm, B2.out⟩
  have E2 := Lib.hid h2
  have hb2 : (d.maxOff == e.maxOff) = true := by simpa using h2
  clear h2
  iterate 20
    (refine Ph.wpPh_calm rfl (fun K hK => ?_)
     go_simp
     refine hK _ ?_
     clear hK K)

  refine Row.wpPh_load rfl rfl 39 _ rfl ⟨w.heap.size, 0, none⟩ rfl d.cells _ (fun p => L1.out.below p.is) Try.underlying39 rfl infoD ?_
  (refine Ph.wpPh_calm rfl (fun K hK => ?_)
   go_simp
   refine ⟨_, fun p => Row.Old.call (bits_any d _), hK _ ?_⟩
   clear hK K)
  refine Row.wpPh_load rfl rfl 39 _ rfl ⟨w.heap.size + 1, 0, none⟩ rfl e.cells _ (fun p => L2.out.below p.is) Try.underlying39 rfl infoD ?_
  (refine Ph.wpPh_calm rfl (fun K hK => ?_)
   go_simp
   refine ⟨_, fun p => Row.Old.call (bits_any e _), hK _ ?_⟩
   clear hK K)
  refine Row.wpPh_eql 100 _ _ _ rfl rfl rfl (bitsOf d).toArray (bitsOf e).toArray rfl rfl guard4 _ (bits_eqs d e) ?_
  (refine Ph.wpPh_calm rfl (fun K hK => ?_)
   go_simp
   refine hK _ ?_
   clear hK K)
  (refine Ph.wpPh_calm rfl (fun K hK => ?_)
   go_simp
   refine hK _ ?_
   clear hK K)
  refine Ph.wpPh_nil ?_
  intro w2 hb2
  have B2 : Hid (Below w.heap.size w w2) := Below.trans HB.out (Below.mono hb2 HB.out.size)
  clear hb2 hne q00 q05 q06 q10 q15 q16
  go_wp2
  go_ret
  refine ⟨ret_bool ?_, B2.out⟩
  obtain ⟨a0, a1, a2, a3, a4, a5, a6⟩ := d
  obtain ⟨b0, b1, b2, b3, b4, b5, b6⟩ := e
  have e0 : a0 = b0 := E0.out
  have e1 : a5 = b5 := E1.out
  have e2 : a6 = b6 := E2.out
  subst e0 e1 e2
  simp
set_option maxHeartbeats 1000000 in
theorem dets_any (a b : Option Addr) (ca cb : Nat) (l m : List Det) (w : World) (h : RowOf 7 Det.cells w ⟨a, ca⟩ l) (h' : RowOf 7 Det.cells w ⟨b, cb⟩ m) :
    Calls Try.prog 31 #[.slice a l.length ca, .slice b m.length cb, .func (.func 32) #[] #[]] w fun e w' => e = .returned (.bool (decide (l = m))) ∧ Below w.heap.size w w' := by
  have h1 := h.len
  have h2 := h'.len
  unfold maxLen at h1 h2
  have Hr := Lib.hid h
  have Hr' := Lib.hid h'
  clear h h'
  by_cases hlen : l.length = m.length
  · have HL := Lib.hid hlen
    have hd : ((l.length : Int) != (m.length : Int)) = false := by rw [bne_eq_false_iff_eq]; omega
    go_enter Try.func31, Try.ntmps31
    go_wp2
    go_loopw [16] (fun i wr => ∃ k : Nat, k ≤ l.length ∧ i = .int .i64 k ∧ l.take k = m.take k ∧ Below w.heap.size w wr) (fun i _ => l.length - (intOf i).toNat)
    case atStart => exact ⟨0, by omega, rfl, rfl, Below.refl _ _⟩
    case round =>
      obtain ⟨k, hk, rfl, hall, hbel⟩ := hrel
      have Hall := Lib.hid hall
      have Hb := Lib.hid hbel
      clear hall hbel
      by_cases hlt : k < l.length
      · have hv := List.getElem?_eq_getElem hlt
        have hu := List.getElem?_eq_getElem (show k < m.length by omega)
        generalize l[k] = v at hv
        generalize m[k]'(show k < m.length by omega) = u at hu
        obtain ⟨x, hx, hc⟩ := (Hr.out.below Hb.out).at hv
        obtain rfl : a = some x := hx
        obtain ⟨y, hy, hc'⟩ := (Hr'.out.below Hb.out).at hu
        obtain rfl : b = some y := hy
        have HV := Lib.hid hv
        have HU := Lib.hid hu
        have HC := Lib.hid hc
        have HC' := Lib.hid hc'
        clear hv hu hc hc'
        go_wp2_with (first | (refine Row.wpList_load_lies rfl 39 _ rfl (x.add (k * 7)) rfl v.cells _ HC.out Try.underlying39 rfl infoD ?_) | (refine Row.wpList_store_new rfl 39 _ _ rfl _ _ v.cells.toArray rfl rfl rfl infoD rfl v.one ?_))
        have B1 : Hid (Below wr.heap.size wr (wr.alloc (.cells v.cells.toArray 39))) := (Below.refl _ _).alloc (Nat.le_refl _) _
        have L1 : Hid (Lies (wr.alloc (.cells v.cells.toArray 39)) ⟨wr.heap.size, 0, none⟩ v.cells) := Row.lies_new _ _ _
        have L2 : Hid (Lies (wr.alloc (.cells v.cells.toArray 39)) (y.add (k * 7)) u.cells) := HC'.out.below B1.out
        generalize hw1 : wr.alloc (.cells v.cells.toArray 39) = w1 at B1 L1 L2 ⊢
        clear hw1
        have hkm : k < m.length := by omega
        have hne : Nonempty (Ph.S (Row.Old w1)) := ⟨⟨0, w1, Below.refl _ _⟩⟩
        refine Ph.wp_region_ph (Row.Old w1) [] (by kernel_rfl) (by kernel_rfl) (Row.Old.drew _) ?_
        repeat
          first
            | (refine Row.wpPh_load rfl rfl 39 _ rfl ⟨wr.heap.size, 0, none⟩ rfl v.cells _ (fun p => L1.out.below p.is) Try.underlying39 rfl infoD ?_)
            | (refine Row.wpPh_load rfl rfl 39 _ rfl (y.add (k * 7)) rfl u.cells _ (fun p => L2.out.below p.is) Try.underlying39 rfl infoD ?_)
            | (refine Ph.wpPh_calm rfl (fun K hK => ?_)
               go_simp
               first
                 | (refine hK _ ?_; clear hK K)
                 | (refine ⟨_, fun p => Row.Old.call (detv_any v u _), hK _ ?_⟩; clear hK K))
        refine Ph.wpPh_nil ?_
        intro w2 hb2
        clear hne
        have B2 := Lib.hid (Below.trans Hb.out ((Below.trans B1.out (Below.mono hb2 B1.out.size)).mono Hb.out.size))
        clear hb2
        by_cases hvu : v = u
        · have HE := Lib.hid hvu
          rw [decide_eq_true hvu]
          clear hvu
          go_wp2
          go_roundw
          case rel => exact ⟨k + 1, by omega, by go_num, eq_step HV.out HU.out Hall.out HE.out, B2.out⟩
          case measure => simp [intOf]; omega
        · have HE := Lib.hid (show ¬ l = m from eq_break HV.out HU.out hvu)
          rw [decide_eq_false hvu]
          clear hvu
          go_wp2
          go_ret
          exact ⟨ret_bool (decide_eq_false HE.out).symm, B2.out⟩
      · have HE := Lib.hid (show l = m from eq_end Hall.out HL.out hlt)
        go_wp2
        go_ret
        exact ⟨ret_bool (decide_eq_true HE.out).symm, Hb.out⟩
  · have HL := Lib.hid (show ¬ l = m from fun e => hlen (by rw [e]))
    have hd : ((l.length : Int) != (m.length : Int)) = true := by rw [bne_iff_ne]; omega
    go_enter Try.func31, Try.ntmps31
    go_wp2
    go_ret
    exact ⟨ret_bool (decide_eq_false HL.out).symm, Below.refl _ _⟩
end Go.Proofs.Ytfekngnfjemgeaa.Same
/- The contracts of plan.hasGroup, rowsOf, Members, On, Next and Following. -/
namespace Go.Proofs.Ytfekngnfjemgeaa.PlanC
open Go.ChangeShapes Go.WideShapes Go.ChangeAt Go.RowKit
open Tab PlaceM PlanM
open May (ret_bool chain infoP infoG St phases_in)
open SetP (of_any has_any)
open Same (below_setRow)
set_option linter.unusedVariables false
set_option linter.unusedSimpArgs false
theorem ret_int {k : IntKind} {a b : Int} (h : a = b) : Ending.returned (.int k a) = .returned (.int k b) := by rw [h]
theorem infoZ : (Try.prog.info? 36).map (fun i => (i.zero, i.size)) = some (some (.agg #[.slice none 0 0, .slice none 0 0]), 2) := by kernel_rfl
theorem infoT : (Try.prog.info? 32).map (·.size) = some 131 := by kernel_rfl
theorem info2 : (Try.prog.info? 36).map (·.size) = some 2 := by kernel_rfl
theorem builtG : Try.prog.built 36 [] = some #[.slice none 0 0, .slice none 0 0] := by kernel_rfl
theorem idx0 (v0 v1 : Value) (w : World) : Sem.run Try.prog (Instr.index 36 (.agg #[v0, v1]) (.int .i64 0)) w = .ok v0 w := by kernel_rfl
theorem idx1 (v0 v1 : Value) (w : World) : Sem.run Try.prog (Instr.index 36 (.agg #[v0, v1]) (.int .i64 1)) w = .ok v1 w := by kernel_rfl
theorem row_of_int {w : World} {a : Option Addr} {cap : Nat} {L : List Int} (h : IntRow w ⟨a, cap⟩ L) : RefS.Row w a L := by
  have hl := h.len
  refine ⟨by omega, ?_⟩
  by_cases h0 : L = []
  · exact .inl h0
  · have hp : 0 < L.length := List.length_pos_iff.2 h0
    obtain ⟨x, hx, _⟩ := IntRow.at h (List.getElem?_eq_getElem hp)
    refine .inr ⟨x, hx, fun i hi => ?_⟩
    obtain ⟨y, hy, hc⟩ := IntRow.at h (List.getElem?_eq_getElem hi)
    obtain rfl : x = y := Option.some.inj (hx.symm.trans hy)
    rw [hc, List.getD_eq_getElem?_getD, List.getElem?_eq_getElem hi]
    rfl
set_option maxRecDepth 100000 in
set_option maxHeartbeats 4000000 in
theorem hasGroup_any (T : Tab) (h : Hd) (g : Int) (w : World) (ht : IsTab w h T) :
    Calls Try.prog 143 #[.agg (T.cells h).toArray, .int .i64 g] w fun e w' => e = .returned (.bool (decide (0 ≤ g ∧ g < T.groups.length))) ∧ Below w.heap.size w w' := by
  have C := Lib.hid (cells_ok ht)
  generalize (T.cells h).toArray = cs at C ⊢
  have hsz := C.out.size
  have S0 := Lib.hid (St.box (cs := cs) ht)
  clear ht
  have q104 := S0.out.cell C.out.g
  generalize hr : decide (0 ≤ g ∧ g < T.groups.length) = r
  have HR := Lib.hid hr
  clear hr
  generalize T.groups.length = n at *
  have Q104 := Lib.hid q104
  clear q104
  go_enter Try.func143, Try.ntmps143
  go_upto_region 1 with fail
  generalize w.alloc (.cells cs 32) = w1 at S0 Q104 ⊢
  clear hsz
  have q104 := Q104.out
  by_cases h0 : 0 ≤ g
  · by_cases h1 : g < n
    · go_wp2
      go_ret
      exact ⟨ret_bool (by rw [← HR.out]; simp [h0, h1]), S0.out.bel⟩
    · go_wp2
      go_ret
      exact ⟨ret_bool (by rw [← HR.out]; simp [h0, h1]), S0.out.bel⟩
  · go_wp2
    go_ret
    exact ⟨ret_bool (by rw [← HR.out]; symm; rw [decide_eq_false_iff_not]; omega), S0.out.bel⟩
/-- A group's two rows as a value. -/
def Pair (w : World) (y : List Int × List Int) (s0 s1 : Sl) : Prop := IntRow w s0 y.1 ∧ IntRow w s1 y.2
set_option maxRecDepth 100000 in
set_option maxHeartbeats 4000000 in
theorem rowsOf_any (T : Tab) (h : Hd) (g : Int) (w : World) (ht : IsTab w h T) :
    Calls Try.prog 134 #[.agg (T.cells h).toArray, .int .i64 g] w fun e w' => ∃ s0 s1 : Sl, e = .returned (.agg #[s0.val (rowsAt T g).1.length, s1.val (rowsAt T g).2.length]) ∧ Pair w' (rowsAt T g) s0 s1 ∧ Below w.heap.size w w' := by
  have hsz := (cells_ok ht).size
  have C := Lib.hid (cells_ok ht)
  have IA : Hid ((Try.prog.info? 32).map (·.size) = some (T.cells h).length) := Lib.hid (by rw [List.size_toArray] at hsz; rw [hsz]; exact infoT)
  have HG : Hid (∀ W, Below w.heap.size w W → Calls Try.prog 143 #[.agg (T.cells h).toArray, .int .i64 g] W fun e w' => e = .returned (.bool (decide (0 ≤ g ∧ g < T.groups.length))) ∧ Below W.heap.size W w') := Lib.hid (fun W hb => hasGroup_any T h g W (ht.below hb))
  obtain ⟨gs, hgd, hgr⟩ := ht.groups
  have Hgr := Lib.hid hgr
  have Hgd := Lib.hid hgd
  have Hgl := Lib.hid (show T.groups.length = gs.length by rw [← hgd, List.length_map])
  have Kg := hgr.1.len
  unfold maxLen at Kg
  have A0 : Hid (Below w.heap.size w ((w.alloc (.cells (T.cells h).toArray 32)).alloc (.cells #[.slice none 0 0, .slice none 0 0] 36))) := Lib.hid (((Below.refl _ _).alloc (Nat.le_refl _) _).alloc (by simp) _)
  have A1 : Hid (((w.alloc (.cells (T.cells h).toArray 32)).alloc (.cells #[.slice none 0 0, .slice none 0 0] 36)).heap[w.heap.size]? = some (.cells (T.cells h).toArray 32 (0, 0))) := Lib.hid (heap_alloc2_old w _ _)
  have A2 : Hid (((w.alloc (.cells (T.cells h).toArray 32)).alloc (.cells #[.slice none 0 0, .slice none 0 0] 36)).heap[w.heap.size + 1]? = some (.cells #[.slice none 0 0, .slice none 0 0] 36 (0, 0))) := Lib.hid (heap_alloc2_new w _ _)
  have hz := (zero_of_info infoZ).1
  clear ht hgr hgd
  generalize T.cells h = c at *
  go_enter Try.func134, Try.ntmps134
  go_upto_region 1 with fail
  generalize ((w.alloc (.cells c.toArray 32)).alloc (.cells #[.slice none 0 0, .slice none 0 0] 36)) = u at A0 A1 A2 ⊢
  clear hsz hz
  have LT : Hid (Lies u ⟨w.heap.size, 0, none⟩ c) := Lib.hid (by have := Row.lies_of_block A1.out; simpa using this)
  go_wp2_with (refine Row.wpList_load_g 32 _ rfl (by first | rfl | go_simp) ⟨w.heap.size, 0, none⟩ rfl c _ LT.out Try.underlying32 rfl IA.out ?_)
  refine (HG.out _ A0.out).mono ?_
  rintro e u1 ⟨rfl, hb⟩
  have B0 : Hid (Below w.heap.size w u1) := Lib.hid (A0.out.trans (hb.mono A0.out.size))
  have B1 : Hid (u1.heap[w.heap.size]? = some (.cells c.toArray 32 (0, 0))) := Lib.hid ((hb.block _ (Array.getElem?_eq_some_iff.1 A1.out).1).trans A1.out)
  have B2 : Hid (u1.heap[w.heap.size + 1]? = some (.cells #[.slice none 0 0, .slice none 0 0] 36 (0, 0))) := Lib.hid ((hb.block _ (Array.getElem?_eq_some_iff.1 A2.out).1).trans A2.out)
  clear hb A0 A1 A2 LT HG
  by_cases hg : 0 ≤ g ∧ g < T.groups.length
  · rw [decide_eq_true hg]
    obtain ⟨g0, g1⟩ := hg
    obtain ⟨q, rfl⟩ := Int.eq_ofNat_of_zero_le g0
    have hlt : q < gs.length := by have := Hgl.out; omega
    have hv := List.getElem?_eq_getElem hlt
    generalize gs[q] = v at hv
    have HR : Hid (rowsAt T q = v.data) := Lib.hid (rows_in (by rw [← Hgd.out, List.getElem?_map, hv]; rfl))
    obtain ⟨x, hx, hc⟩ := (Hgr.out.1.below B0.out).at hv
    have hok := (Hgr.out.2 v (List.mem_of_getElem? hv)).below B0.out
    have q104 : u1.cell? ⟨w.heap.size, 104, none⟩ = some (.slice (some x) gs.length h.g.cap) := by
      rw [cell_of_row _ _ _ _ _ _ B1.out, C.out.g, Hgl.out]; simp only [Sl.val, hx]
    have HC := Lib.hid hc
    have HM := Lib.hid (List.mem_of_getElem? hv)
    have HW := Lib.hid (below_setRow B0.out (g := w.heap.size + 1) (by omega) v.cells.toArray)
    have HK := Lib.hid (setRow_heap u1 (w.heap.size + 1) _ v.cells.toArray _ _ B2.out)
    have V1 : Hid (v.cells.toArray.all (·.oneCell') = true) := Lib.hid (Gr.one v)
    clear hv hc hok hx g1
    go_wp2_with (first | (refine Row.wpList_load_g 36 _ rfl (by first | rfl | go_simp) (x.add (q * 2)) rfl v.cells _ HC.out Try.underlying36 rfl info2 ?_) | (refine wpList_store_row rfl 36 _ _ rfl (w.heap.size + 1) v.cells.toArray rfl rfl 36 _ B2.out info2 rfl V1.out ?_))
    have HO2 : Hid (v.ok (u1.setRow (w.heap.size + 1) v.cells.toArray)) := Lib.hid ((Hgr.out.2 v HM.out).below HW.out)
    generalize u1.setRow (w.heap.size + 1) v.cells.toArray = u2 at HW HK HO2 ⊢
    go_wp2_with fail
    (try simp only [Exit.inBlock, Exit.then])
    refine bodyPost_ret (v := .agg v.cells.toArray) ?_ rfl ⟨v.s0, v.s1, by rw [HR.out]; rfl, by rw [HR.out]; exact HO2.out, HW.out⟩
    exact results_cell_row rfl _ _ (w.heap.size + 1) 36 _ (0, 0) _ rfl HK.out Try.underlying36 rfl info2
  · rw [decide_eq_false hg]
    have HR : Hid (rowsAt T g = ([], [])) := Lib.hid (rows_out hg)
    have HW := Lib.hid (below_setRow B0.out (g := w.heap.size + 1) (by omega) #[.slice none 0 0, .slice none 0 0])
    have HK := Lib.hid (setRow_heap u1 (w.heap.size + 1) _ #[.slice none 0 0, .slice none 0 0] _ _ B2.out)
    clear hg
    go_wp2_with (first | (refine wpList_store_row rfl 36 _ _ rfl (w.heap.size + 1) #[.slice none 0 0, .slice none 0 0] rfl rfl 36 _ B2.out info2 rfl (by simp [Value.oneCell']) ?_))
    generalize u1.setRow (w.heap.size + 1) #[.slice none 0 0, .slice none 0 0] = u2 at HW HK ⊢
    go_wp2_with fail
    (try simp only [Exit.inBlock, Exit.then])
    refine bodyPost_ret (v := .agg #[.slice none 0 0, .slice none 0 0]) ?_ rfl ⟨⟨none, 0⟩, ⟨none, 0⟩, by rw [HR.out]; rfl, by rw [HR.out]; exact ⟨RowOf.nil _, RowOf.nil _⟩, HW.out⟩
    exact results_cell_row rfl _ _ (w.heap.size + 1) 36 _ (0, 0) _ rfl HK.out Try.underlying36 rfl info2
theorem of_len (a : Option Addr) (cap : Nat) (l : List Int) (w : World) (h : IntRow w ⟨a, cap⟩ l) : Calls Try.prog 135 #[.slice a l.length cap] w fun e w' => e = .returned (.int .i64 (SetM.of l : Nat)) ∧ w = w' := of_any a cap l w (row_of_int h)
theorem or0 (m : Nat) (h : m < 256) : bits .or .i64 0 (m : Int) = (m : Int) := by
  have := RefS.or_small 0 m (by decide) h
  simpa using this
set_option maxRecDepth 100000 in
set_option maxHeartbeats 4000000 in
theorem members_any (T : Tab) (h : Hd) (g : Int) (w : World) (ht : IsTab w h T) :
    Calls Try.prog 113 #[.agg (T.cells h).toArray, .int .i64 g] w fun e w' => e = .returned (.int .i64 (membS T g : Nat)) ∧ Below w.heap.size w w' := by
  have hsz := (cells_ok ht).size
  have C := Lib.hid (cells_ok ht)
  have IA : Hid ((Try.prog.info? 32).map (·.size) = some (T.cells h).length) := Lib.hid (by rw [List.size_toArray] at hsz; rw [hsz]; exact infoT)
  have RO : Hid (∀ W, Below w.heap.size w W → Calls Try.prog 134 #[.agg (T.cells h).toArray, .int .i64 g] W fun e w' => ∃ s0 s1 : Sl, e = .returned (.agg #[s0.val (rowsAt T g).1.length, s1.val (rowsAt T g).2.length]) ∧ Pair w' (rowsAt T g) s0 s1 ∧ Below W.heap.size W w') := Lib.hid (fun W hb => rowsOf_any T h g W (ht.below hb))
  have A0 : Hid (Below w.heap.size w (w.alloc (.cells (T.cells h).toArray 32))) := Lib.hid ((Below.refl _ _).alloc (Nat.le_refl _) _)
  have A1 : Hid (Lies (w.alloc (.cells (T.cells h).toArray 32)) ⟨w.heap.size, 0, none⟩ (T.cells h)) := Lib.hid (Row.lies_new w _ _)
  have MS : Hid (membS T g = SetM.of (rowsAt T g).1 ||| SetM.of (rowsAt T g).2) := Lib.hid rfl
  generalize membS T g = m at MS ⊢
  generalize rowsAt T g = y at MS RO
  obtain ⟨l0, l1⟩ := y
  clear ht
  generalize T.cells h = c at *
  go_enter Try.func113, Try.ntmps113
  go_upto_region 1 with fail
  generalize w.alloc (.cells c.toArray 32) = u at A0 A1 ⊢
  clear hsz
  go_wp2_with (refine Row.wpList_load_g 32 _ rfl (by first | rfl | go_simp) ⟨w.heap.size, 0, none⟩ rfl c _ A1.out Try.underlying32 rfl IA.out ?_)
  refine (RO.out _ A0.out).mono ?_
  rintro e u1 ⟨⟨a0, cap0⟩, ⟨a1, cap1⟩, rfl, hpair, hb⟩
  have B0 : Hid (Below w.heap.size w u1) := Lib.hid (A0.out.trans (hb.mono A0.out.size))
  have HP := Lib.hid hpair
  clear hb A0 A1 RO hpair IA
  rw [show (Value.agg #[Sl.val ⟨a0, cap0⟩ (l0, l1).fst.length, Sl.val ⟨a1, cap1⟩ (l0, l1).snd.length]) = .agg #[.slice a0 l0.length cap0, .slice a1 l1.length cap1] from rfl]
  have i0 := idx0 (.slice a0 l0.length cap0) (.slice a1 l1.length cap1)
  have i1 := idx1 (.slice a0 l0.length cap0) (.slice a1 l1.length cap1)
  have I0 := Lib.hid i0
  have I1 := Lib.hid i1
  clear i0 i1
  go_wp2_with fail
  go_loopw [5, 11] (fun t i wr => ∃ r : Nat, r ≤ 2 ∧ i = .int .i64 r ∧ t = .int .i64 ((if r = 0 then 0 else if r = 1 then SetM.of l0 else m : Nat) : Int) ∧ wr = u1) (fun _ i _ => 2 - (intOf i).toNat)
  case atStart => exact ⟨0, by omega, rfl, rfl, rfl⟩
  case round =>
    obtain ⟨r, hr, rfl, rfl, rfl⟩ := hrel
    have hr2 : r = 0 ∨ r = 1 ∨ r = 2 := by omega
    rcases hr2 with rfl | rfl | rfl
    · rw [show ((0 : Nat) : Int) = (0 : Int) from rfl]
      have i0 := I0.out
      have HS := Lib.hid (or0 (SetM.of l0) (SetM.of_lt l0))
      simp only [if_true]
      go_wp2_with fail
      refine (of_len a0 cap0 l0 _ HP.out.1).mono ?_
      rintro e w' ⟨rfl, rfl⟩
      generalize hs : SetM.of l0 = s at HS MS ⊢
      have HQ := Lib.hid hs
      clear hs
      go_wp2
      go_roundw
      case rel => exact ⟨1, by omega, by go_num, by rw [HS.out, ← HQ.out]; rfl, trivial⟩
      case measure => simp [intOf]
    · rw [show ((1 : Nat) : Int) = (1 : Int) from rfl]
      have i1 := I1.out
      have HS : Hid (bits .or .i64 (SetM.of l0 : Nat) (SetM.of l1 : Nat) = (m : Nat)) := Lib.hid (by rw [RefS.or_small _ _ (SetM.of_lt _) (SetM.of_lt _), MS.out])
      simp only [Nat.one_ne_zero, if_false, if_true]
      go_wp2_with fail
      refine (of_len a1 cap1 l1 _ HP.out.2).mono ?_
      rintro e w' ⟨rfl, rfl⟩
      generalize SetM.of l0 = s at HS MS ⊢
      generalize SetM.of l1 = s' at HS MS ⊢
      go_wp2
      go_roundw
      case rel => exact ⟨2, by omega, by go_num, by rw [HS.out]; rfl, trivial⟩
      case measure => simp [intOf]
    · rw [show ((2 : Nat) : Int) = (2 : Int) from rfl]
      simp only [show ¬ (2 = 0) by decide, show ¬ (2 = 1) by decide, if_false]
      go_wp2
      go_ret
      exact ⟨rfl, B0.out⟩
/-- The value of an array of phases, at one of its places. -/
theorem infoPs : (Try.prog.info? 25).map (·.size) = some 104 := by kernel_rfl
theorem cellsP : Try.prog.cellsOf 24 = 13 := by kernel_rfl
theorem rowP : Flat.rowT Try.prog 24 = true := by kernel_rfl
theorem infoPz : ∃ i, Try.prog.info? 24 = some i ∧ i.size = 13 := by
  have := infoP
  cases h : Try.prog.info? 24 with
  | none => rw [h] at this; simp at this
  | some i => rw [h] at this; exact ⟨i, rfl, by simpa using this⟩
theorem flat_take : ∀ {l : List Ph} {q : Nat} {u : Ph}, l[q]? = some u → ((l.flatMap Ph.cells).drop (q * 13)).take 13 = u.cells
  | [], q, u, h => by simp at h
  | p :: l, 0, u, h => by
    obtain rfl : p = u := by simpa using h
    rw [Nat.zero_mul, List.drop_zero, List.flatMap_cons]
    exact List.take_left' rfl
  | p :: l, q + 1, u, h => by
    rw [List.flatMap_cons, Nat.add_mul, Nat.one_mul, Nat.add_comm, List.drop_append, List.drop_of_length_le (by simp [Ph.cells]), List.nil_append, show 13 + q * 13 - p.cells.length = q * 13 by simp [Ph.cells]]
    exact flat_take (by simpa using h)
theorem idx_phase {l : List Ph} {q : Nat} {u : Ph} (hl : l.length = 8) (hu : l[q]? = some u) (w : World) :
    Sem.run Try.prog (Instr.index 25 (.agg (l.flatMap Ph.cells).toArray) (.int .i64 q)) w = .ok (.agg u.cells.toArray) w := by
  have hq : q < l.length := (List.getElem?_eq_some_iff.1 hu).1
  obtain ⟨i, hi, hs⟩ := infoPz
  have hp := Flat.run_part (P := Try.prog) w (t := 24) (d := _) Try.underlying24 (by rw [rowP]; simp) (l.flatMap Ph.cells) (q * 13) (by rw [cellsP, phases_len]; omega)
  rw [cellsP, Flat.vOf, if_pos rowP, flat_take hu] at hp
  unfold Instr.index
  have hc : 0 ≤ (q : Int) ∧ (q : Int) < 8 := by omega
  simp [run_underlying Try.underlying25, asIntOf]
  rw [if_pos (by omega)]
  first | exact hp | (rw [cellsP]; exact hp)
theorem lies_take {w : World} {b : Nat} {cs : Array Value} {t : TypeId} {fr : Nat × Nat} (hb : w.heap[b]? = some (.cells cs t fr)) (n : Nat) (l : List Value) (h : cs.toList.take n = l) : Lies w ⟨b, 0, none⟩ l := by
  intro j v hv
  rw [Addr.add_mid, Nat.zero_add, cell_of_row _ _ _ _ _ _ hb]
  subst h
  rw [List.getElem?_take] at hv
  split at hv
  · rwa [Array.getElem?_toList] at hv
  · cases hv
end Go.Proofs.Ytfekngnfjemgeaa.PlanC
/- The contract of plan.On. -/
namespace Go.Proofs.Ytfekngnfjemgeaa.PlanO
open Go.ChangeShapes Go.WideShapes Go.ChangeAt Go.RowKit
open Tab PlaceM PlanM OnS PlanC
open May (infoP St)
open SetP (with_any)
set_option linter.unusedVariables false
set_option linter.unusedSimpArgs false
theorem on_with {l : List Ph} {q : Nat} {p : Ph} (h : l[q]? = some p) (hp : p.on = true) : SetM.withN (SetM.of (onTo 0 (l.take q)) : Nat) q = SetM.of (onTo 0 (l.take (q + 1))) := by
  rw [on_step h, hp, if_pos rfl, SetM.with_of]
theorem on_skip {l : List Ph} {q : Nat} {p : Ph} (h : l[q]? = some p) (hp : p.on = false) : SetM.of (onTo 0 (l.take (q + 1))) = SetM.of (onTo 0 (l.take q)) := by
  rw [on_step h, hp]; simp
set_option maxRecDepth 100000 in
set_option maxHeartbeats 4000000 in
theorem pon_any (T : Tab) (h : Hd) (w : World) (ht : IsTab w h T) :
    Calls Try.prog 111 #[.agg (T.cells h).toArray] w fun e w' => e = .returned (.int .i64 (onS T : Nat)) ∧ Below w.heap.size w w' := by
  have C := Lib.hid (cells_ok ht)
  generalize (T.cells h).toArray = cs at C ⊢
  have hsz := C.out.size
  have L8 := Lib.hid ht.ph
  have S0 := Lib.hid (St.box (cs := cs) ht)
  have RS : Hid ((onS T : Nat) = SetM.of (onTo 0 T.phases)) := Lib.hid rfl
  have IX : Hid (∀ (q : Nat) u, T.phases[q]? = some u → ∀ W, Sem.run Try.prog (Instr.index 25 (.agg (T.phases.flatMap Ph.cells).toArray) (.int .i64 q)) W = .ok (.agg u.cells.toArray) W) := Lib.hid (fun q u hu W => idx_phase L8.out hu W)
  have LI : Hid ((Try.prog.info? 25).map (·.size) = some (T.phases.flatMap Ph.cells).length) := Lib.hid (by rw [phases_len, L8.out]; exact infoPs)
  generalize onS T = r at RS ⊢
  clear ht
  go_enter Try.func111, Try.ntmps111
  go_upto_region 1 with fail
  generalize w.alloc (.cells cs 32) = w1 at S0 ⊢
  clear hsz
  have LT : Hid (Lies w1 ⟨w.heap.size, 0, none⟩ (T.phases.flatMap Ph.cells)) := Lib.hid (lies_take S0.out.blk 104 _ C.out.phases)
  generalize T.phases.flatMap Ph.cells = fl at IX LI LT
  go_wp2_with (refine Row.wpList_load_g 25 _ rfl (by first | rfl | go_simp) ⟨w.heap.size, 0, none⟩ rfl fl _ LT.out Try.underlying25 rfl LI.out ?_)
  go_loopw [3, 8] (fun v g wr => ∃ q : Nat, q ≤ 8 ∧ g = .int .i64 q ∧ v = .int .i64 (SetM.of (onTo 0 (T.phases.take q)) : Nat) ∧ Below w1.heap.size w1 wr) (fun _ g _ => 8 - (intOf g).toNat)
  case atStart => exact ⟨0, by omega, rfl, rfl, Below.refl _ _⟩
  case round =>
    obtain ⟨q, hq, rfl, rfl, hbel⟩ := hrel
    have HB := Lib.hid hbel
    clear hbel
    by_cases hlt : q < 8
    · have hv : T.phases[q]? = some (T.phases[q]'(by rw [L8.out]; exact hlt)) := List.getElem?_eq_getElem _
      generalize T.phases[q]'(by rw [L8.out]; exact hlt) = u at hv
      have HV := Lib.hid hv
      have hidx := IX.out q u hv
      clear hv
      have hsz := HB.out.size
      go_upto_region 5 with (refine Row.wpList_store_new rfl 24 _ _ rfl wr _ u.cells.toArray rfl rfl rfl infoP rfl (Ph.one _) ?_)
      clear hidx
      have hbn : Below w1.heap.size w1 (wr.alloc (.cells u.cells.toArray 24)) := HB.out.alloc hsz _
      have hg := Row.lies_of_block (heap_alloc_new wr (.cells u.cells.toArray 24))
      have HL := Lib.hid hg
      have HN := Lib.hid hbn
      clear hg hbn HB
      generalize wr.alloc (.cells u.cells.toArray 24) = w4 at HL HN ⊢
      generalize wr.heap.size = b4 at HL ⊢
      have c0 : w4.cell? ⟨b4, 0, none⟩ = some (.bool u.on) := by
        have := HL.out 0 _ rfl
        rwa [Tab.add_zero] at this
      cases hon : u.on with
      | true =>
        rw [hon] at c0
        have HS := Lib.hid (on_with HV.out hon)
        clear hon
        generalize SetM.of (onTo 0 (T.phases.take q)) = s0 at HS ⊢
        go_wp2_with (go_at_call 132; refine (with_any _ _ _).mono ?_; rintro e w' ⟨rfl, rfl⟩)
        go_roundw
        case rel => exact ⟨q + 1, by omega, by go_num, by rw [← HS.out], HN.out⟩
        case measure => simp [intOf]; omega
      | false =>
        rw [hon] at c0
        have HS := Lib.hid (on_skip HV.out hon)
        clear hon
        generalize SetM.of (onTo 0 (T.phases.take q)) = s0 at HS ⊢
        go_wp2
        go_roundw
        case rel => exact ⟨q + 1, by omega, by go_num, by rw [← HS.out], HN.out⟩
        case measure => simp [intOf]; omega
    · have HE : Hid (SetM.of (onTo 0 (T.phases.take q)) = r) := Lib.hid (by rw [RS.out, List.take_of_length_le (by rw [L8.out]; omega)])
      have HF : Hid (Below w.heap.size w wr) := Lib.hid (S0.out.bel.trans (HB.out.mono S0.out.bel.size))
      generalize SetM.of (onTo 0 (T.phases.take q)) = s0 at HE ⊢
      go_wp2
      go_ret
      exact ⟨ret_int (by rw [HE.out]), HF.out⟩
end Go.Proofs.Ytfekngnfjemgeaa.PlanO
/- The contracts of package check's small functions: allOn, the lists of a table, ranges. -/
namespace Go.Proofs.Ytfekngnfjemgeaa.ChkA
open Go.ChangeShapes Go.WideShapes Go.ChangeAt Go.RowKit
open Tab PlaceM PlanM OnS ChkM
open May (ret_bool infoT St ints_in phases_in)
set_option linter.unusedVariables false
set_option linter.unusedSimpArgs false
set_option maxRecDepth 100000 in
set_option maxHeartbeats 4000000 in
theorem allOn_any (T : Tab) (h : Hd) (s : Int) (w : World) (ht : IsTab w h T) :
    Calls Try.prog 118 #[.agg (T.cells h).toArray, .int .i64 s] w fun e w' => e = .returned (.bool (allOn T s)) ∧ Below w.heap.size w w' := by
  have hsz := (cells_ok ht).size
  have IA : Hid ((Try.prog.info? 32).map (·.size) = some (T.cells h).length) := Lib.hid (by rw [List.size_toArray] at hsz; rw [hsz]; exact infoT)
  have ON : Hid (∀ W, Below w.heap.size w W → Calls Try.prog 111 #[.agg (T.cells h).toArray] W fun e w' => e = .returned (.int .i64 (onS T : Nat)) ∧ Below W.heap.size W w') := Lib.hid (fun W hb => PlanO.pon_any T h W (ht.below hb))
  have A0 : Hid (Below w.heap.size w (w.alloc (.cells (T.cells h).toArray 32))) := Lib.hid ((Below.refl _ _).alloc (Nat.le_refl _) _)
  have A1 : Hid (Lies (w.alloc (.cells (T.cells h).toArray 32)) ⟨w.heap.size, 0, none⟩ (T.cells h)) := Lib.hid (Row.lies_new w _ _)
  have HR : Hid (allOn T s = (bits .andNot .i64 s (onS T : Nat) == 0)) := Lib.hid rfl
  generalize allOn T s = r at HR ⊢
  generalize onS T = m at HR ON
  clear ht
  generalize T.cells h = c at *
  go_enter Try.func118, Try.ntmps118
  go_upto_region 1 with fail
  generalize w.alloc (.cells c.toArray 32) = u at A0 A1 ⊢
  clear hsz
  go_wp2_with (refine Row.wpList_load_g 32 _ rfl (by first | rfl | go_simp) ⟨w.heap.size, 0, none⟩ rfl c _ A1.out Try.underlying32 rfl IA.out ?_)
  refine (ON.out _ A0.out).mono ?_
  rintro e u1 ⟨rfl, hb⟩
  have B0 : Hid (Below w.heap.size w u1) := Lib.hid (A0.out.trans (hb.mono A0.out.size))
  clear hb A0 A1 ON
  go_wp2
  go_ret
  exact ⟨ret_bool (by rw [HR.out]), B0.out⟩
set_option maxRecDepth 100000 in
set_option maxHeartbeats 4000000 in
theorem listD_any (T : Tab) (h : Hd) (w : World) (ht : IsTab w h T) :
    Calls Try.prog 83 #[.agg (T.cells h).toArray] w fun e w' => e = .returned (h.d.val T.dets.length) ∧ Below w.heap.size w w' := by
  have S0 := Lib.hid (St.box (cs := (T.cells h).toArray) ht)
  have hsz := (cells_ok ht).size
  have q := (St.box (cs := (T.cells h).toArray) ht).cell (cells_ok ht).d
  generalize (T.cells h).toArray = cs at *
  clear ht
  go_enter Try.func83, Try.ntmps83
  go_upto_region 1 with fail
  generalize w.alloc (.cells cs 32) = w1 at S0 q ⊢
  clear hsz
  go_wp2
  go_ret
  exact ⟨rfl, S0.out.bel⟩
set_option maxRecDepth 100000 in
set_option maxHeartbeats 4000000 in
theorem listR_any (T : Tab) (h : Hd) (w : World) (ht : IsTab w h T) :
    Calls Try.prog 86 #[.agg (T.cells h).toArray] w fun e w' => e = .returned (h.r.val T.rails.length) ∧ Below w.heap.size w w' := by
  have S0 := Lib.hid (St.box (cs := (T.cells h).toArray) ht)
  have hsz := (cells_ok ht).size
  have q := (St.box (cs := (T.cells h).toArray) ht).cell (cells_ok ht).r
  generalize (T.cells h).toArray = cs at *
  clear ht
  go_enter Try.func86, Try.ntmps86
  go_upto_region 1 with fail
  generalize w.alloc (.cells cs 32) = w1 at S0 q ⊢
  clear hsz
  go_wp2
  go_ret
  exact ⟨rfl, S0.out.bel⟩
set_option maxRecDepth 100000 in
set_option maxHeartbeats 4000000 in
theorem listB_any (T : Tab) (h : Hd) (w : World) (ht : IsTab w h T) :
    Calls Try.prog 89 #[.agg (T.cells h).toArray] w fun e w' => e = .returned (h.b.val T.buses.length) ∧ Below w.heap.size w w' := by
  have S0 := Lib.hid (St.box (cs := (T.cells h).toArray) ht)
  have hsz := (cells_ok ht).size
  have q := (St.box (cs := (T.cells h).toArray) ht).cell (cells_ok ht).b
  generalize (T.cells h).toArray = cs at *
  clear ht
  go_enter Try.func89, Try.ntmps89
  go_upto_region 1 with fail
  generalize w.alloc (.cells cs 32) = w1 at S0 q ⊢
  clear hsz
  go_wp2
  go_ret
  exact ⟨rfl, S0.out.bel⟩
/-! ### the numbers of a rail -/
theorem rail_cells (r : Rl) (w : World) (b : Nat) (hb : w.heap[b]? = some (.cells r.cells.toArray 41 (0, 0))) :
    w.cell? ⟨b, 0, none⟩ = some (I r.bars) ∧ w.cell? ⟨b, 1, none⟩ = some (I r.clear) ∧ w.cell? ⟨b, 2, none⟩ = some (I r.dwell) ∧ w.cell? ⟨b, 3, none⟩ = some (I r.exit) ∧ w.cell? ⟨b, 4, none⟩ = some (I r.delay) ∧ w.cell? ⟨b, 5, none⟩ = some (I r.green) ∧ w.cell? ⟨b, 7, none⟩ = some (I r.hold) ∧ w.cell? ⟨b, 8, none⟩ = some (I r.stay) ∧ w.cell? ⟨b, 9, none⟩ = some (I r.most) ∧ w.cell? ⟨b, 10, none⟩ = some (I r.limit) := by
  refine ⟨?_, ?_, ?_, ?_, ?_, ?_, ?_, ?_, ?_, ?_⟩ <;> (rw [cell_of_row _ _ _ _ _ _ hb]; rfl)
set_option maxRecDepth 100000 in
set_option maxHeartbeats 4000000 in
theorem badTimes_any (r : Rl) (w : World) :
    Calls Try.prog 121 #[.agg r.cells.toArray] w fun e w' => e = .returned (.bool (timesBad r)) ∧ Below w.heap.size w w' := by
  have A0 : Hid (Below w.heap.size w (w.alloc (.cells r.cells.toArray 41))) := Lib.hid ((Below.refl _ _).alloc (Nat.le_refl _) _)
  obtain ⟨q0, q1, q2, q3, q4, q5, q7, q8, q9, q10⟩ := rail_cells r _ _ (heap_alloc_new w (.cells r.cells.toArray 41))
  have HR : Hid (timesBad r = _) := Lib.hid (by unfold timesBad; rfl)
  generalize timesBad r = x at HR ⊢
  have hone := Rl.one r
  have hsz : r.cells.toArray.size = 11 := rfl
  generalize r.cells.toArray = cs at *
  obtain ⟨bars, clear, dwell, exit, delay, green, foot, hold, stay, most, limit⟩ := r
  simp only at *
  go_enter Try.func121, Try.ntmps121
  go_upto_region 1 with fail
  generalize w.alloc (.cells cs 41) = u at *
  clear q0 q2 q3 hone hsz
  go_wp2
  all_goals go_ret
  all_goals (refine ⟨ret_bool ?_, A0.out⟩)
  all_goals (rw [HR.out])
  all_goals (clear HR q1 q4 q5 q7 q8 q9 q10 A0)
  all_goals (first | grind | (simp_all <;> omega))
end Go.Proofs.Ytfekngnfjemgeaa.ChkA
/- The contracts of plan.Where and plan.Beside: what the document's own find. -/
namespace Go.Proofs.Ytfekngnfjemgeaa.PlanW
open Go.ChangeShapes Go.WideShapes Go.ChangeAt Go.RowKit
open Tab PlaceM PlanM
open May (ret_bool chain infoP infoG St)
open SetP (of_any has_any)
set_option linter.unusedVariables false
set_option linter.unusedSimpArgs false
theorem info2 : (Try.prog.info? 36).map (·.size) = some 2 := by kernel_rfl
theorem infoT : (Try.prog.info? 32).map (·.size) = some 131 := by kernel_rfl
theorem row_one (w : World) (p : Int) (t : TypeId) (b : Nat) (hb : w.heap.size = b) : RefS.Row (w.alloc (.cells #[.int .i64 p] t)) (some ⟨b, 0, none⟩) [p] := by
  subst hb
  refine ⟨by simp [maxLen], .inr ⟨_, rfl, fun i hi => ?_⟩⟩
  obtain rfl : i = 0 := by simpa using hi
  rw [RefS.add_zero, cell_of_row _ _ _ _ _ _ (heap_alloc_new w _)]
  rfl
theorem idx0 (v0 v1 : Value) (w : World) : Sem.run Try.prog (Instr.index 36 (.agg #[v0, v1]) (.int .i64 0)) w = .ok v0 w := by kernel_rfl
theorem idx1 (v0 v1 : Value) (w : World) : Sem.run Try.prog (Instr.index 36 (.agg #[v0, v1]) (.int .i64 1)) w = .ok v1 w := by kernel_rfl
theorem has_one (p q : Int) : SetM.has ((SetM.of [p] : Nat) : Int) q = (decide (0 ≤ p ∧ p < 8) && decide (q = p)) := by
  unfold SetM.has
  rw [SetM.low_nat _ (SetM.of_lt _), SetM.of_test]
  by_cases h0 : 0 ≤ q
  · obtain ⟨k, rfl⟩ := Int.eq_ofNat_of_zero_le h0
    simp only [Int.toNat_natCast, List.mem_singleton, h0, decide_true, Bool.true_and]
    rw [Bool.eq_iff_iff]
    simp only [Bool.and_eq_true, decide_eq_true_eq]
    omega
  · rw [decide_eq_false h0, Bool.false_and]
    symm
    rw [Bool.and_eq_false_iff, decide_eq_false_iff_not, decide_eq_false_iff_not]
    omega
theorem results_tmp4 {P : Program} {fn : Func} {t u v x : Tmp} (h : fn.results = #[.tmp t, .tmp u, .tmp v, .tmp x]) (tmps : Array Value) (w : World) :
    (results fn tmps).run P w = .ok (.tuple #[tmps.getD t undef, tmps.getD u undef, tmps.getD v undef, tmps.getD x undef]) w := by
  simp [results, h]
def wG : Option Spt → Int | some x => x.g | none => 0
def wK : Option Spt → Int | some x => x.k | none => 0
def wI : Option Spt → Int | some x => x.i | none => 0
/-- Nothing that is looked for before a place. -/
theorem where_none {T : Tab} {p : Int} (h : ∀ x ∈ spots T, x.p ≠ p) : where_ T p = none := find_none h
theorem where_some {T : Tab} {p : Int} {x : Spt} (hx : x ∈ spots T) (hp : x.p = p) (hn : ∀ y ∈ spots T, Lt y x → y.p ≠ p) : where_ T p = some x := by
  unfold where_ find
  exact find_hit (spots_sorted T) hx (by simpa using hp) (fun y hy hl => by simpa using hn y hy hl)
def Tup (o : Option Spt) : Value := .tuple #[I (wG o), I (wK o), I (wI o), .bool o.isSome]
set_option maxRecDepth 100000 in
set_option maxHeartbeats 4000000 in
theorem pwhere_any (T : Tab) (h : Hd) (p : Int) (w : World) (ht : IsTab w h T) :
    Calls Try.prog 137 #[.agg (T.cells h).toArray, .int .i64 p] w fun e w' => e = .returned (.tuple #[I (wG (where_ T p)), I (wK (where_ T p)), I (wI (where_ T p)), .bool (where_ T p).isSome]) ∧ Below w.heap.size w w' := by
  obtain ⟨⟨ga, gcap⟩, sd, sr, sb⟩ := h
  have C := Lib.hid (cells_ok ht)
  generalize (T.cells ⟨⟨ga, gcap⟩, sd, sr, sb⟩).toArray = cs at C ⊢
  obtain ⟨gs, hgd, hgr⟩ := ht.groups
  have Hgr := Lib.hid hgr
  have Hgd := Lib.hid hgd
  have hsz := C.out.size
  have S0 := Lib.hid (St.box (cs := cs) ht)
  have Hgl := Lib.hid (show T.groups.length = gs.length by rw [← hgd, List.length_map])
  have Kg := hgr.1.len
  unfold maxLen at Kg
  have HS : Hid (∀ q, SetM.has ((SetM.of [p] : Nat) : Int) q = (decide (0 ≤ p ∧ p < 8) && decide (q = p))) := Lib.hid (has_one p)
  have WN : Hid ((∀ x ∈ spots T, x.p ≠ p) → where_ T p = none) := Lib.hid where_none
  have WS : Hid (∀ x, x ∈ spots T → x.p = p → (∀ y ∈ spots T, Lt y x → y.p ≠ p) → where_ T p = some x) := Lib.hid (fun x => where_some)
  generalize where_ T p = o at WN WS ⊢
  clear ht hgr hgd
  go_enter Try.func137, Try.ntmps137
  go_upto_region 1 with fail
  generalize w.alloc (.cells cs 32) = w1 at S0 ⊢
  clear hsz
  go_step3
  go_wp2_with fail
  have hb1 : Below w1.heap.size w1 (w1.alloc (.cells #[.int .i64 p] 3)) := (Below.refl _ _).alloc (Nat.le_refl _) _
  have hr := row_one w1 p 3 _ rfl
  have S2 := Lib.hid (S0.out.step hb1)
  have HR := Lib.hid hr
  clear hb1 hr S0
  generalize w1.alloc (.cells #[.int .i64 p] 3) = w2 at S2 HR ⊢
  refine (of_any _ _ [p] _ HR.out).mono ?_
  rintro e w' ⟨rfl, rfl⟩
  generalize ((SetM.of [p] : Nat) : Int) = s0 at HS ⊢
  clear HR
  have q104 := S2.out.cell C.out.g
  rw [Hgl.out] at q104
  have Q104 : Hid (w2.cell? ⟨w.heap.size, 104, none⟩ = some (.slice ga gs.length gcap)) := Lib.hid q104
  clear q104
  have q104 := Q104.out
  have LIFT : Hid (∀ W, Below w2.heap.size w2 W → ∀ (z : Addr) (c : Value), w2.cell? z = some c → W.cell? z = some c) := Lib.hid (fun W hb z c hc => (hb.cell (World.block_lt_of_cell? w2 _ hc)).trans hc)
  go_wp2_with fail
  go_step3
  go_wp2_with fail
  clear q104
  go_loopw [4, 5, 6, 7, 21] (fun a b c d g wr => ∃ q : Nat, q ≤ gs.length ∧ a = .int .i64 0 ∧ b = .int .i64 0 ∧ c = .int .i64 0 ∧ d = .bool false ∧ g = .int .i64 q ∧ (∀ x ∈ spots T, x.g < q → x.p ≠ p) ∧ Below w2.heap.size w2 wr) (fun _ _ _ _ g _ => gs.length - (intOf g).toNat)
  case atStart => exact ⟨0, by omega, rfl, rfl, rfl, rfl, rfl, (fun x _ h => by omega), Below.refl _ _⟩
  case round =>
    obtain ⟨q, hq, rfl, rfl, rfl, rfl, rfl, hall, hbel⟩ := hrel
    have HA := Lib.hid hall
    have HB := Lib.hid hbel
    clear hall hbel
    by_cases hlt : q < gs.length
    · have hv := List.getElem?_eq_getElem hlt
      generalize gs[q] = u at hv
      obtain ⟨x, hx, hc⟩ := (Hgr.out.1.below (S2.out.bel.trans (HB.out.mono S2.out.bel.size))).at hv
      have hok := (Hgr.out.2 u (List.mem_of_getElem? hv)).below (S2.out.bel.trans (HB.out.mono S2.out.bel.size))
      have HD : Hid (T.groups[q]? = some u.data) := Lib.hid (by rw [← Hgd.out, List.getElem?_map, hv]; rfl)
      obtain rfl : ga = some x := hx
      obtain ⟨l0, l1, ⟨a0, cap0⟩, ⟨a1, cap1⟩⟩ := u
      have HC : Hid (Lies wr (x.add (q * 2)) [.slice a0 l0.length cap0, .slice a1 l1.length cap1]) := Lib.hid hc
      have HO := Lib.hid hok
      clear hv hc hok
      have hwr := HB.out.size
      go_upto_region 5 with (first | (refine Row.wpList_load_g 36 _ rfl (by first | rfl | go_simp) (x.add (q * 2)) rfl [.slice a0 l0.length cap0, .slice a1 l1.length cap1] _ HC.out Try.underlying36 rfl info2 ?_) | (refine Row.wpList_store_new rfl 36 _ _ rfl wr #[.slice none 0 0, .slice none 0 0] #[.slice a0 l0.length cap0, .slice a1 l1.length cap1] rfl rfl rfl info2 rfl (by simp [Value.oneCell']) ?_))
      have hbn : Below w2.heap.size w2 (wr.alloc (.cells #[.slice a0 l0.length cap0, .slice a1 l1.length cap1] 36)) := HB.out.alloc hwr _
      have hbo : Below wr.heap.size wr (wr.alloc (.cells #[.slice a0 l0.length cap0, .slice a1 l1.length cap1] 36)) := (Below.refl _ _).alloc (Nat.le_refl _) _
      have hg := Row.lies_of_block (heap_alloc_new wr (.cells #[.slice a0 l0.length cap0, .slice a1 l1.length cap1] 36))
      have HL := Lib.hid hg
      have HO2 := Lib.hid (HO.out.below hbo)
      have HN := Lib.hid hbn
      clear hg hbn hbo HC HO
      generalize wr.alloc (.cells #[.slice a0 l0.length cap0, .slice a1 l1.length cap1] 36) = w4 at HL HO2 HN ⊢
      generalize wr.heap.size = b4 at HL ⊢
      go_wp2_with (first | (refine Row.wpList_load_g 36 _ rfl (by first | rfl | go_simp) ⟨b4, 0, none⟩ rfl [.slice a0 l0.length cap0, .slice a1 l1.length cap1] _ HL.out Try.underlying36 rfl info2 ?_))
      go_loopw [4, 5, 6, 7, 27] (fun a b c d k wk => ∃ r : Nat, r ≤ 2 ∧ a = .int .i64 0 ∧ b = .int .i64 0 ∧ c = .int .i64 0 ∧ d = .bool false ∧ k = .int .i64 r ∧ (∀ x ∈ spots T, x.g = q → x.k < r → x.p ≠ p) ∧ wk = w4) (fun _ _ _ _ k _ => 2 - (intOf k).toNat)
      case atStart => exact ⟨0, by omega, rfl, rfl, rfl, rfl, rfl, (fun x _ _ h => by omega), rfl⟩
      case round =>
        obtain ⟨r, hr, rfl, rfl, rfl, rfl, rfl, hall, rfl⟩ := hrel
        have HA2 := Lib.hid hall
        clear hall
        by_cases hr2 : r < 2
        · obtain ⟨l, a, cap, hidx, hrow, hring⟩ : ∃ (l : List Int) (a : Option Addr) (cap : Nat), (∀ W, Sem.run Try.prog (Instr.index 36 (.agg #[.slice a0 l0.length cap0, .slice a1 l1.length cap1]) (.int .i64 r)) W = .ok (.slice a l.length cap) W) ∧ IntRow wr ⟨a, cap⟩ l ∧ ringOf (l0, l1) r = l := by
            have : r = 0 ∨ r = 1 := by omega
            rcases this with rfl | rfl
            · exact ⟨l0, a0, cap0, fun W => idx0 _ _ W, HO2.out.1, rfl⟩
            · exact ⟨l1, a1, cap1, fun W => idx1 _ _ W, HO2.out.2, rfl⟩
          have HROW := Lib.hid hrow
          have HRING := Lib.hid hring
          have K := hrow.len
          unfold maxLen at K
          clear hrow hring
          go_wp2_with fail
          clear hidx
          go_loopw [4, 5, 6, 7, 33] (fun a0' b c d k wk => ∃ j : Nat, j ≤ l.length ∧ a0' = .int .i64 0 ∧ b = .int .i64 0 ∧ c = .int .i64 0 ∧ d = .bool false ∧ k = .int .i64 j ∧ (∀ i, i < j → SetM.has s0 (l.getD i 0) = false) ∧ wk = wr) (fun _ _ _ _ k _ => l.length - (intOf k).toNat)
          case atStart => exact ⟨0, by omega, rfl, rfl, rfl, rfl, rfl, (fun i h => by omega), rfl⟩
          case round =>
            obtain ⟨j, hj, rfl, rfl, rfl, rfl, rfl, hall, rfl⟩ := hrel
            have HA3 := Lib.hid hall
            clear hall
            by_cases hjl : j < l.length
            · have hv := List.getElem?_eq_getElem hjl
              generalize hz : l[j] = z at hv
              obtain ⟨y, hy, hp⟩ := IntRow.at HROW.out hv
              obtain rfl : a = some y := hy
              have HV := Lib.hid hv
              have hgd : l.getD j 0 = z := by rw [List.getD_eq_getElem?_getD, hv]; rfl
              have HGD := Lib.hid hgd
              clear hv hz hgd
              cases hh : SetM.has s0 z with
              | true =>
                have HF : Hid (o = some ⟨q, r, j, p⟩) := Lib.hid (by
                  have h1 := HS.out z
                  rw [hh] at h1
                  simp only [Eq.comm (a := true), Bool.and_eq_true, decide_eq_true_eq] at h1
                  obtain ⟨⟨p0, p8⟩, rfl⟩ := h1
                  refine WS.out _ (mem_spots.2 ⟨(l0, l1), HD.out, by rw [HRING.out]; exact HV.out, p0, p8⟩) rfl fun y hy hl => ?_
                  unfold Lt at hl
                  simp only at hl
                  rcases hl with hl | ⟨hl, hl2 | ⟨hl2, hl3⟩⟩
                  · exact HA.out y hy hl
                  · exact HA2.out y hy hl hl2
                  · intro e
                    obtain ⟨z, h2, h3, _⟩ := mem_spots.1 hy
                    rw [hl, HD.out] at h2
                    obtain rfl := Option.some.inj h2
                    have h4 : l[y.i]? = some y.p := by have := h3; rw [hl2] at this; rw [← HRING.out]; exact this
                    have h5 := HA3.out y.i hl3
                    rw [List.getD_eq_getElem?_getD, h4] at h5
                    have h6 := HS.out y.p
                    rw [show SetM.has s0 y.p = false from h5, e] at h6
                    simp [p0, p8] at h6)
                go_wp2_with (go_at_call 114; refine (has_any _ _ _).mono ?_; rintro e w' ⟨rfl, rfl⟩; rw [hh])
                (try rw [Exit.noGoto_ret])
                (try simp only [Exit.inBlock, Exit.then])
                refine bodyPost_ret (v := .tuple #[I q, I r, I j, .bool true]) ?_ rfl ⟨?_, ?_⟩
                · exact results_tmp4 (fn := Try.f137) (t := 4) (u := 5) (v := 6) (x := 7) rfl _ _
                · rw [HF.out]; rfl
                · exact S2.out.bel.trans (HN.out.mono S2.out.bel.size)
              | false =>
                go_wp2_with (go_at_call 114; refine (has_any _ _ _).mono ?_; rintro e w' ⟨rfl, rfl⟩; rw [hh])
                go_roundw
                case rel => exact ⟨j + 1, by omega, rfl, rfl, rfl, rfl, by go_num, (fun i hi => by
                  by_cases e : i = j
                  · subst e; rw [HGD.out]; exact hh
                  · exact HA3.out i (by omega)), trivial⟩
                case measure => simp [intOf]; omega
            · have HN : Hid (∀ x ∈ spots T, x.g = q → x.k < r + 1 → x.p ≠ p) := Lib.hid (fun y hy h1 h2 e => by
                by_cases h3 : y.k < r
                · exact HA2.out y hy h1 h3 e
                · obtain ⟨z, h4, h5, h6, h7⟩ := mem_spots.1 hy
                  rw [h1, HD.out] at h4
                  obtain rfl := Option.some.inj h4
                  have hk : y.k = r := by omega
                  have h8 : l[y.i]? = some y.p := by rw [hk] at h5; rw [← HRING.out]; exact h5
                  have h9 := HA3.out y.i (by have := (List.getElem?_eq_some_iff.1 h8).1; omega)
                  rw [List.getD_eq_getElem?_getD, h8] at h9
                  have h10 := HS.out y.p
                  rw [show SetM.has s0 y.p = false from h9, e] at h10
                  rw [e] at h6 h7
                  simp [h6, h7] at h10)
              go_wp2
              go_roundw
              case rel => exact ⟨r + 1, by omega, rfl, rfl, rfl, rfl, by go_num, HN.out, trivial⟩
              case measure => simp [intOf]; omega
        · have HN3 : Hid (∀ x ∈ spots T, x.g < q + 1 → x.p ≠ p) := Lib.hid (fun y hy h1 e => by
            by_cases h3 : y.g < q
            · exact HA.out y hy h3 e
            · obtain ⟨z, h4, h5, _⟩ := mem_spots.1 hy
              refine HA2.out y hy (by omega) ?_ e
              unfold ringOf at h5
              by_cases h6 : y.k = 0
              · omega
              · by_cases h7 : y.k = 1
                · omega
                · rw [if_neg h6, if_neg h7] at h5; simp at h5)
          go_wp2
          go_roundw
          case rel => exact ⟨q + 1, by omega, rfl, rfl, rfl, rfl, by go_num, HN3.out, HN.out⟩
          case measure => simp [intOf]; omega
    · have HF : Hid (o = none) := Lib.hid (WN.out (fun y hy => by
        refine HA.out y hy ?_
        obtain ⟨z, h4, _⟩ := mem_spots.1 hy
        have := (List.getElem?_eq_some_iff.1 h4).1
        rw [Hgl.out] at this
        omega))
      go_wp2
      (try rw [Exit.noGoto_ret])
      (try simp only [Exit.inBlock, Exit.then])
      refine bodyPost_ret (v := .tuple #[I 0, I 0, I 0, .bool false]) ?_ rfl ⟨?_, ?_⟩
      · exact results_tmp4 (fn := Try.f137) (t := 4) (u := 5) (v := 6) (x := 7) rfl _ _
      · rw [HF.out]; rfl
      · exact S2.out.bel.trans (HB.out.mono S2.out.bel.size)
set_option maxRecDepth 100000 in
set_option maxHeartbeats 4000000 in
theorem pbeside_raw (c : List Value) (p q g1 k1 i1 g2 k2 i2 : Int) (ok1 ok2 : Bool) (w : World) (hc : c.length = 131)
    (V1 : Hid (∀ W, Below w.heap.size w W → Calls Try.prog 137 #[.agg c.toArray, .int .i64 p] W fun e w' => e = .returned (.tuple #[I g1, I k1, I i1, .bool ok1]) ∧ Below W.heap.size W w'))
    (V2 : Hid (∀ W, Below w.heap.size w W → Calls Try.prog 137 #[.agg c.toArray, .int .i64 q] W fun e w' => e = .returned (.tuple #[I g2, I k2, I i2, .bool ok2]) ∧ Below W.heap.size W w')) :
    Calls Try.prog 115 #[.agg c.toArray, .int .i64 p, .int .i64 q] w fun e w' => e = .returned (.bool (ok1 && ok2 && g1 == g2 && k1 != k2)) ∧ Below w.heap.size w w' := by
  have hsz : c.toArray.size = 131 := by simpa using hc
  have IA : Hid ((Try.prog.info? 32).map (·.size) = some c.length) := Lib.hid (by rw [hc]; exact infoT)
  have A0 : Hid (Below w.heap.size w (w.alloc (.cells c.toArray 32))) := Lib.hid ((Below.refl _ _).alloc (Nat.le_refl _) _)
  have A1 : Hid (Lies (w.alloc (.cells c.toArray 32)) ⟨w.heap.size, 0, none⟩ c) := Lib.hid (Row.lies_new w _ _)
  generalize hr : (ok1 && ok2 && g1 == g2 && k1 != k2) = r
  have HR := Lib.hid hr
  clear hr hc
  go_enter Try.func115, Try.ntmps115
  go_upto_region 1 with fail
  generalize w.alloc (.cells c.toArray 32) = u at A0 A1 ⊢
  clear hsz
  go_wp2_with (refine Row.wpList_load_g 32 _ rfl (by first | rfl | go_simp) ⟨w.heap.size, 0, none⟩ rfl c _ A1.out Try.underlying32 rfl IA.out ?_)
  refine (V1.out _ A0.out).mono ?_
  rintro e u1 ⟨rfl, hb⟩
  have B0 : Hid (Below w.heap.size w u1) := Lib.hid (A0.out.trans (hb.mono A0.out.size))
  have B1 := Lib.hid (A1.out.below hb)
  clear hb A0 A1 V1
  go_wp2_with (refine Row.wpList_load_g 32 _ rfl (by first | rfl | go_simp) ⟨w.heap.size, 0, none⟩ rfl c _ B1.out Try.underlying32 rfl IA.out ?_)
  refine (V2.out _ B0.out).mono ?_
  rintro e u3 ⟨rfl, hb⟩
  have HF : Hid (Below w.heap.size w u3) := Lib.hid (B0.out.trans (hb.mono B0.out.size))
  clear hb B0 B1 V2 IA
  cases ok1
  · go_wp2
    go_ret
    exact ⟨ret_bool (by rw [← HR.out]; simp), HF.out⟩
  cases ok2
  · go_wp2
    go_ret
    exact ⟨ret_bool (by rw [← HR.out]; simp), HF.out⟩
  by_cases hg : g1 = g2
  · have e1 : (g1 == g2) = true := by simpa using hg
    have E1 := Lib.hid e1
    clear hg
    go_wp2
    go_ret
    exact ⟨ret_bool (by rw [← HR.out, E1.out]; simp), HF.out⟩
  · have e1 : (g1 == g2) = false := by simpa using hg
    have E1 := Lib.hid e1
    clear hg
    go_wp2
    go_ret
    exact ⟨ret_bool (by rw [← HR.out, E1.out]; simp), HF.out⟩
theorem pbeside_any (T : Tab) (h : Hd) (p q : Int) (w : World) (ht : IsTab w h T) :
    Calls Try.prog 115 #[.agg (T.cells h).toArray, .int .i64 p, .int .i64 q] w fun e w' => e = .returned (.bool (beside T p q)) ∧ Below w.heap.size w w' := by
  have hsz := (cells_ok ht).size
  rw [List.size_toArray] at hsz
  have V := fun r W (hb : Below w.heap.size w W) => pwhere_any T h r W (ht.below hb)
  have V1 := V p
  have V2 := V q
  have hB : beside T p q = match where_ T p, where_ T q with
    | some a, some b => a.g == b.g && a.k != b.k
    | _, _ => false := rfl
  rw [hB]
  generalize where_ T p = o1 at V1 ⊢
  generalize where_ T q = o2 at V2 ⊢
  have e0 : ∀ a b : Nat, ((a : Int) == (b : Int)) = (a == b) := fun a b => by
    by_cases h : a = b
    · subst h; simp
    · rw [beq_eq_false_iff_ne.2 h, beq_eq_false_iff_ne.2 (by omega)]
  have e1 : ∀ a b : Nat, ((a : Int) != (b : Int)) = (a != b) := fun a b => by unfold bne; rw [e0]
  cases o1 with
  | none =>
    cases o2 with
    | none => exact pbeside_raw _ p q 0 0 0 0 0 0 false false w hsz (Lib.hid V1) (Lib.hid V2)
    | some b => exact pbeside_raw _ p q 0 0 0 b.g b.k b.i false true w hsz (Lib.hid V1) (Lib.hid V2)
  | some a =>
    cases o2 with
    | none => exact pbeside_raw _ p q a.g a.k a.i 0 0 0 true false w hsz (Lib.hid V1) (Lib.hid V2)
    | some b =>
      have := pbeside_raw _ p q a.g a.k a.i b.g b.k b.i true true w hsz (Lib.hid V1) (Lib.hid V2)
      rw [e0, e1] at this
      simpa using this
end Go.Proofs.Ytfekngnfjemgeaa.PlanW
