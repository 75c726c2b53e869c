/- A type's cells in order ('flat'): a value that can be read is typed cell by cell; two values of the type are compared cell by cell. No program in it. -/
import Derived.OpenShut
import Derived.ChangeArms
import Derived.DeepKeys
namespace Go.Proofs.Ytbpfknkbiaplpaa.Flat
open Go Go.ChangeShapes Go.WideShapes

section
variable {α β : Type}
def All2 (R : α → β → Prop) : List α → List β → Prop
  | [], [] => True
  | a :: l, b :: m => R a b ∧ All2 R l m
  | _, _ => False
variable {R : α → β → Prop}
theorem All2.length : ∀ {a : List α} {b : List β}, All2 R a b → a.length = b.length
  | [], [], _ => rfl
  | _ :: _, _ :: _, ⟨_, h⟩ => by simp [All2.length h]
  | [], _ :: _, h => h.elim
  | _ :: _, [], h => h.elim
theorem All2.append : ∀ {a : List α} {b : List β} {c : List α} {d : List β}, All2 R a b → All2 R c d → All2 R (a ++ c) (b ++ d)
  | [], [], _, _, _, h => h
  | _ :: _, _ :: _, _, _, ⟨h, k⟩, h2 => ⟨h, All2.append k h2⟩
  | [], _ :: _, _, _, h, _ => h.elim
  | _ :: _, [], _, _, h, _ => h.elim
theorem All2.split : ∀ {a c : List α} {b : List β}, All2 R (a ++ c) b → All2 R a (b.take a.length) ∧ All2 R c (b.drop a.length)
  | [], _, _, h => ⟨trivial, h⟩
  | _ :: _, _, _ :: _, ⟨h, k⟩ => ⟨⟨h, (All2.split k).1⟩, (All2.split k).2⟩
  | _ :: _, _, [], h => h.elim
theorem All2.at : ∀ {a : List α} {b : List β}, All2 R a b → ∀ {i : Nat} {x : α} {y : β}, a[i]? = some x → b[i]? = some y → R x y
  | _ :: _, _ :: _, ⟨h, _⟩, 0, _, _, h1, h2 => by simp at h1 h2; subst h1 h2; exact h
  | _ :: _, _ :: _, ⟨_, k⟩, i + 1, _, _, h1, h2 => All2.at k (i := i) (by simpa using h1) (by simpa using h2)
  | [], _, _, _, _, _, h1, _ => by simp at h1
  | _ :: _, [], h, _, _, _, _, _ => h.elim
theorem All2.mono {S : α → β → Prop} (hm : ∀ x y, R x y → S x y) : ∀ {a : List α} {b : List β}, All2 R a b → All2 S a b
  | [], [], _ => trivial
  | _ :: _, _ :: _, ⟨h, k⟩ => ⟨hm _ _ h, All2.mono hm k⟩
  | [], _ :: _, h => h.elim
  | _ :: _, [], h => h.elim
end

def rowT (P : Program) (t : TypeId) : Bool := match P.underlying t with | some (.struct _) | some (.array _ _) => true | _ => false
def flatF (P : Program) (g : TypeId → Option (List TypeId)) : Nat → List Field → Option (List TypeId)
  | _, [] => some []
  | o, f :: fs => if f.name ≠ "_" ∧ f.offset = o then
      match g f.type with
      | some r => if r.length = P.cellsOf f.type then (flatF P g (o + r.length) fs).map (r ++ ·) else none
      | none => none
    else none
/-- The one-cell types that lie in a type, in order; none where its parts do not lie side by side. -/
def flat (P : Program) : Nat → TypeId → Option (List TypeId)
  | 0, _ => none
  | d + 1, t => match P.underlying t with
    | some (.struct fs) => if P.stoodInHeld t = true then none else match flatF P (flat P d) 0 fs.toList with
      | some l => if l.length = P.cellsOf t then some l else none
      | none => none
    | some (.array n e) => match flat P d e with
      | some r => if r.length = P.cellsOf e ∧ n * P.cellsOf e = P.cellsOf t then some (List.replicate n r).flatten else none
      | none => none
    | some _ => if P.cellsOf t = 1 then some [t] else none
    | none => none
theorem flatF_cons {P : Program} {g : TypeId → Option (List TypeId)} {o : Nat} {f : Field} {fs : List Field} {l : List TypeId} (h : flatF P g o (f :: fs) = some l) :
    f.name ≠ "_" ∧ f.offset = o ∧ ∃ r l', g f.type = some r ∧ r.length = P.cellsOf f.type ∧ flatF P g (o + r.length) fs = some l' ∧ l = r ++ l' := by
  unfold flatF at h
  split at h
  · rename_i h1
    split at h
    · rename_i r hr
      split at h
      · rename_i hl
        simp only [Option.map_eq_some_iff] at h
        obtain ⟨l', h2, rfl⟩ := h
        exact ⟨h1.1, h1.2, r, l', hr, hl, h2, rfl⟩
      · cases h
    · cases h
  · cases h
theorem take_two {α : Type} (l : List α) (o a b : Nat) : (l.drop o).take (a + b) = (l.drop o).take a ++ (l.drop (o + a)).take b := by
  rw [List.take_add, List.drop_drop]

section
variable {P : Program} {R : TypeId → Value → Prop} {G : TypeId → List Value → Prop} {g : TypeId → Option (List TypeId)}
theorem fields_flat (hg : ∀ t ts cs, g t = some ts → G t cs → All2 R ts cs) (cs : List Value) : ∀ (fs : List Field) (o : Nat) (l : List TypeId), flatF P g o fs = some l →
    (∀ f ∈ fs, G f.type ((cs.drop f.offset).take (P.cellsOf f.type))) → All2 R l ((cs.drop o).take l.length)
  | [], _, l, h, _ => by
    simp only [flatF, Option.some.injEq] at h
    subst h; simp [All2]
  | f :: fs, o, l, h, hall => by
    obtain ⟨_, ho, r, l', h1, h2, h3, rfl⟩ := flatF_cons h
    have h4 := hg _ _ _ h1 (hall f (by simp))
    rw [ho, ← h2] at h4
    rw [List.length_append, take_two]
    exact h4.append (fields_flat hg cs fs _ _ h3 fun f hf => hall f (by simp [hf]))
theorem items_flat {c : Nat} {e : TypeId} {r : List TypeId} (hg : ∀ cs, G e cs → All2 R r cs) (cs : List Value) : ∀ (n k : Nat), (∀ i, i < n → G e ((cs.drop ((k + i) * c)).take c)) →
    All2 R (List.replicate n r).flatten ((cs.drop (k * c)).take (n * c))
  | 0, _, _ => by simp [All2]
  | n + 1, k, h => by
    rw [List.replicate_succ, List.flatten_cons, Nat.add_mul, Nat.one_mul, Nat.add_comm (n * c) c, take_two]
    refine (hg _ (by simpa using h 0 (by omega))).append ?_
    have := items_flat hg cs n (k + 1) (fun i hi => by have := h (i + 1) (by omega); rwa [show k + (i + 1) = k + 1 + i by omega] at this)
    rwa [Nat.add_mul, Nat.one_mul] at this
end

section
variable {H : Type} {enc : TypeId × Value → H} {P : Program} {w : World} {base : Nat} {spare : Nat → Bool} {held : Bool}
theorem trod_one {t : TypeId} {n : Nat} {cs : List Value} {x : DataW H × List MemPlace} {d : TypeDesc} (hu : P.underlying t = some d) (hd : rowT P t = false) (h : DataW.trod enc P w base spare held n t cs = some x) : ∃ v, cs = [v] := by
  cases n with
  | zero => simp [DataW.trod] at h
  | succ n =>
    unfold DataW.trod at h
    unfold rowT at hd
    rw [hu] at h hd
    split at h <;> first | exact ⟨_, rfl⟩ | (simp_all; done)
/-- A value that can be read: each of its cells can be read as its own type. -/
theorem trod_flat : ∀ (d : Nat) (t : TypeId) (ts : List TypeId), flat P d t = some ts → ∀ (n : Nat) (cs : List Value) (x : DataW H × List MemPlace), DataW.trod enc P w base spare held n t cs = some x →
    All2 (fun t v => ∃ n y, DataW.trod enc P w base spare held n t [v] = some y) ts cs
  | 0, _, _, h, _, _, _, _ => by simp [flat] at h
  | d + 1, t, ts, h, n, cs, x, hx => by
    unfold flat at h
    split at h
    · rename_i fs hu
      split at h
      · cases h
      · split at h
        · rename_i l hl
          split at h
          · rename_i hlen
            simp only [Option.some.injEq] at h; subst h
            obtain ⟨xs, m, _, _, hcl, hxl, hf⟩ := DataW.trod_struct hu hx
            have := fields_flat (P := P) (G := fun t cs => ∃ n y, DataW.trod enc P w base spare held n t cs = some y) (g := flat P d) (fun t ts cs h ⟨n, y, hy⟩ => trod_flat d t ts h n cs y hy) cs fs.toList 0 l hl (fun f hf' => by
              obtain ⟨i, hi⟩ := List.getElem?_of_mem hf'
              have h1 := hf i f (by simpa using hi)
              have h2 : i < xs.length := by
                have := (List.getElem?_eq_some_iff.1 hi).1
                simp at this; omega
              rw [List.getElem?_eq_getElem h2] at h1
              exact ⟨m, _, h1⟩)
            rw [List.drop_zero, hlen, ← hcl, List.take_length] at this
            exact this
          · cases h
        · cases h
    · rename_i k e hu
      split at h
      · rename_i r hr
        split at h
        · rename_i hlen
          simp only [Option.some.injEq] at h; subst h
          obtain ⟨xs, m, _, _, hcl, hxl, hf⟩ := DataW.trod_array hu hx
          have := items_flat (c := P.cellsOf e) (e := e) (r := r) (G := fun t cs => ∃ n y, DataW.trod enc P w base spare held n t cs = some y) (fun cs ⟨n, y, hy⟩ => trod_flat d e r hr n cs y hy) cs k 0 (fun i hi => by
            have h1 := hf i hi
            rw [List.getElem?_eq_getElem (by omega)] at h1
            exact ⟨m, _, by simpa using h1⟩)
          rw [Nat.zero_mul, List.drop_zero, hlen.2, ← hcl, List.take_length] at this
          exact this
        · cases h
      · cases h
    · rename_i dd hns hna hu
      split at h
      · simp only [Option.some.injEq] at h; subst h
        obtain ⟨v, rfl⟩ := trod_one hu (by unfold rowT; rw [hu]; cases dd <;> simp_all) hx
        exact ⟨⟨n, x, hx⟩, trivial⟩
      · cases h
    · cases h
end

/-! ### comparing -/
section
variable {P : Program}
def vOf (P : Program) (t : TypeId) (cs : List Value) : Value := if rowT P t then .agg cs.toArray else cs.headD undef
/-- Two cells of a type of one cell: '==' is equality. -/
def LeafEq (P : Program) (t : TypeId) (p : Value × Value) : Prop := ∃ b : Bool, (∀ D w, (Op.equalIn (D + 1) t p.1 p.2).run P w = .ok b w) ∧ (b = true ↔ p.1 = p.2)
theorem leaf_int {t : TypeId} {k : IntKind} (h : P.underlying t = some (.int k)) (a b : Int) : LeafEq P t (.int k a, .int k b) := ⟨a == b, fun D w => run_equalIn_int w D t k k a b h, by simp⟩
theorem leaf_bool {t : TypeId} (h : P.underlying t = some .bool) (a b : Bool) : LeafEq P t (.bool a, .bool b) := ⟨a == b, fun D w => run_equalIn_bool w D t a b h, by simp⟩

theorem run_part (w : World) {t : TypeId} {d : TypeDesc} (hu : P.underlying t = some d) (hc : rowT P t = false → P.cellsOf t = 1) (cs : List Value) (off : Nat) (hl : off + P.cellsOf t ≤ cs.length) :
    (part t cs.toArray off).run P w = .ok (vOf P t ((cs.drop off).take (P.cellsOf t))) w := by
  obtain ⟨i, hi⟩ := info_of_underlying hu
  have hagg : (isAgg t).run P w = .ok (rowT P t) w := by
    unfold isAgg rowT
    rw [Sem.run_bind, run_underlying hu w]
    rw [hu]
    cases d <;> simp
  unfold part vOf
  rw [Sem.run_bind, hagg, Result.andThen_ok]
  cases hr : rowT P t with
  | true =>
    simp only [if_true, Sem.run_bind, run_sizeOf w hi, Result.andThen_ok, Sem.run_pure]
    congr 2
    simp [List.extract]
  | false =>
    have h1 := hc hr
    have h2 : off < cs.length := by omega
    simp only [Bool.false_eq_true, if_false, List.getElem?_toArray, List.getElem?_eq_getElem h2, Sem.run_pure, h1]
    have h3 : (cs.drop off).take 1 = [cs[off]] := by rw [List.drop_eq_getElem_cons h2]; rfl
    rw [h3]
    simp

theorem cells_one {d : Nat} {t : TypeId} {ts : List TypeId} (h : flat P d t = some ts) : (∃ dd, P.underlying t = some dd) ∧ (rowT P t = false → P.cellsOf t = 1) := by
  cases d with
  | zero => simp [flat] at h
  | succ d =>
    unfold flat at h
    unfold rowT
    split at h
    · rename_i hu; exact ⟨⟨_, hu⟩, by rw [hu]; simp⟩
    · rename_i hu; exact ⟨⟨_, hu⟩, by rw [hu]; simp⟩
    · rename_i hu
      split at h
      · rename_i h1; exact ⟨⟨_, hu⟩, fun _ => h1⟩
      · cases h
    · cases h

def EqG (P : Program) (D : Nat) (g : TypeId → Option (List TypeId)) : Prop := ∀ (t : TypeId) (ts : List TypeId) (zs : List (Value × Value)), g t = some ts → All2 (LeafEq P) ts zs →
  ∃ b : Bool, (∀ w, (Op.equalIn D t (vOf P t (zs.map (·.1))) (vOf P t (zs.map (·.2)))).run P w = .ok b w) ∧ (b = true ↔ zs.map (·.1) = zs.map (·.2))

theorem map_part {γ : Type} (f : Value × Value → γ) (zs : List (Value × Value)) (o n : Nat) : ((zs.map f).drop o).take n = ((zs.drop o).take n).map f := by
  rw [← List.map_drop, ← List.map_take]

theorem fields_eq {D d : Nat} (hg : EqG P D (flat P d)) (zs : List (Value × Value)) : ∀ (fs : List Field) (o : Nat) (l : List TypeId), flatF P (flat P d) o fs = some l → o + l.length ≤ zs.length →
    All2 (LeafEq P) l ((zs.drop o).take l.length) →
    ∃ b : Bool, (∀ w, (Op.eqFields D (zs.map (·.1)).toArray (zs.map (·.2)).toArray fs).run P w = .ok b w) ∧ (b = true ↔ ((zs.drop o).take l.length).map (·.1) = ((zs.drop o).take l.length).map (·.2))
  | [], _, l, h, _, _ => by
    simp only [flatF, Option.some.injEq] at h
    subst h
    exact ⟨true, fun w => by simp [Op.eqFields], by simp⟩
  | f :: fs, o, l, h, hlen, hall => by
    obtain ⟨hn, ho, r, l', h1, h2, h3, rfl⟩ := flatF_cons h
    obtain ⟨⟨dd, hu⟩, hone⟩ := cells_one h1
    rw [List.length_append] at hlen hall ⊢
    rw [take_two] at hall ⊢
    have hs := hall.split
    have hlr : ((zs.drop o).take r.length).length = r.length := by simp; omega
    rw [List.take_left' hlr, List.drop_left' hlr] at hs
    obtain ⟨b, hb, hiff⟩ := hg f.type r _ h1 hs.1
    obtain ⟨b', hb', hiff'⟩ := fields_eq hg zs fs (o + r.length) l' h3 (by omega) hs.2
    have p1 := fun w => run_part (P := P) w hu hone (zs.map (·.1)) f.offset (by simp; omega)
    have p2 := fun w => run_part (P := P) w hu hone (zs.map (·.2)) f.offset (by simp; omega)
    rw [ho, ← h2] at p1 p2
    simp only [map_part] at p1 p2
    refine ⟨b && b', fun w => ?_, ?_⟩
    · simp only [Op.eqFields, hn, ne_eq, not_false_eq_true, if_true, Sem.run_bind, ho, p1, p2, hb, Result.andThen_ok]
      cases b
      · simp
      · simpa using hb' w
    · rw [Bool.and_eq_true, hiff, hiff', List.map_append, List.map_append]
      constructor
      · rintro ⟨e1, e2⟩; rw [e1, e2]
      · intro e; exact List.append_inj e (by simp)
theorem items_eq {D d : Nat} (hg : EqG P D (flat P d)) {e : TypeId} {r : List TypeId} (hr : flat P d e = some r) (hc : r.length = P.cellsOf e) (zs : List (Value × Value)) : ∀ (n k : Nat), (k + n) * P.cellsOf e ≤ zs.length →
    All2 (LeafEq P) (List.replicate n r).flatten ((zs.drop (k * P.cellsOf e)).take (n * P.cellsOf e)) →
    ∃ b : Bool, (∀ w, (Op.eqItems D e (P.cellsOf e) (zs.map (·.1)).toArray (zs.map (·.2)).toArray (List.range' k n)).run P w = .ok b w) ∧
      (b = true ↔ ((zs.drop (k * P.cellsOf e)).take (n * P.cellsOf e)).map (·.1) = ((zs.drop (k * P.cellsOf e)).take (n * P.cellsOf e)).map (·.2))
  | 0, k, _, _ => ⟨true, fun w => by simp [Op.eqItems], by simp⟩
  | n + 1, k, hlen, hall => by
    obtain ⟨⟨dd, hu⟩, hone⟩ := cells_one hr
    have hlen' : k * P.cellsOf e + P.cellsOf e + n * P.cellsOf e ≤ zs.length := by
      have : (k + (n + 1)) * P.cellsOf e = k * P.cellsOf e + P.cellsOf e + n * P.cellsOf e := by
        rw [Nat.add_mul, Nat.add_mul, Nat.one_mul]; omega
      omega
    rw [List.replicate_succ, List.flatten_cons] at hall
    rw [Nat.add_mul, Nat.one_mul, Nat.add_comm (n * _), take_two] at hall ⊢
    have hs := hall.split
    have hlr : ((zs.drop (k * P.cellsOf e)).take (P.cellsOf e)).length = r.length := by rw [hc]; simp; omega
    rw [List.take_left' hlr, List.drop_left' hlr] at hs
    obtain ⟨b, hb, hiff⟩ := hg e r _ hr hs.1
    have hk : k * P.cellsOf e + P.cellsOf e = (k + 1) * P.cellsOf e := by rw [Nat.add_mul, Nat.one_mul]
    rw [hk] at hs ⊢
    obtain ⟨b', hb', hiff'⟩ := items_eq hg hr hc zs n (k + 1) (by rw [Nat.add_mul, Nat.add_mul] at *; omega) hs.2
    have p1 := fun w => run_part (P := P) w hu hone (zs.map (·.1)) (k * P.cellsOf e) (by simp; omega)
    have p2 := fun w => run_part (P := P) w hu hone (zs.map (·.2)) (k * P.cellsOf e) (by simp; omega)
    simp only [map_part] at p1 p2
    refine ⟨b && b', fun w => ?_, ?_⟩
    · simp only [List.range'_succ, Op.eqItems, Sem.run_bind, p1, p2, hb, Result.andThen_ok]
      cases b
      · simp
      · simpa using hb' w
    · rw [Bool.and_eq_true, hiff, hiff', List.map_append, List.map_append]
      constructor
      · rintro ⟨e1, e2⟩; rw [e1, e2]
      · intro e; exact List.append_inj e (by simp)
theorem eq_flat : ∀ (d D : Nat), d ≤ D → EqG P D (flat P d)
  | 0, _, _ => fun t ts zs h _ => by simp [flat] at h
  | d + 1, 0, h => absurd h (by omega)
  | d + 1, D + 1, hD => fun t ts zs h hall => by
    have IH := eq_flat d D (by omega)
    unfold flat at h
    split at h
    · rename_i fs hu
      split at h
      · cases h
      · rename_i hst
        split at h
        · rename_i l hl
          split at h
          · rename_i hlen
            simp only [Option.some.injEq] at h; subst h
            have hz := hall.length
            obtain ⟨b, hb, hiff⟩ := fields_eq IH zs fs.toList 0 l hl (by omega) (by rw [List.drop_zero, hz, List.take_length]; exact hall)
            rw [List.drop_zero, hz, List.take_length] at hiff
            have hfs : P.fieldsOf t = fs := by simp [Program.fieldsOf, hu]
            refine ⟨b, fun w => ?_, hiff⟩
            have hr : rowT P t = true := by unfold rowT; rw [hu]
            unfold vOf
            rw [if_pos hr, if_pos hr, run_equalIn_struct w D t _ _ (by rw [hfs]; exact hu) (by simpa using hst), hfs]
            exact hb w
          · cases h
        · cases h
    · rename_i n e hu
      split at h
      · rename_i r hr
        split at h
        · rename_i hlen
          simp only [Option.some.injEq] at h; subst h
          have hz := hall.length
          have hz2 : n * P.cellsOf e = zs.length := by rw [← hz]; simp [hlen.1]
          obtain ⟨b, hb, hiff⟩ := items_eq IH hr hlen.1 zs n 0 (by rw [Nat.zero_add]; omega) (by rw [Nat.zero_mul, List.drop_zero, hz2, List.take_length]; exact hall)
          rw [Nat.zero_mul, List.drop_zero, hz2, List.take_length] at hiff
          obtain ⟨⟨dd, hue⟩, _⟩ := cells_one hr
          obtain ⟨i, hi⟩ := info_of_underlying hue
          refine ⟨b, fun w => ?_, hiff⟩
          have hrow : rowT P t = true := by unfold rowT; rw [hu]
          unfold vOf
          rw [if_pos hrow, if_pos hrow, run_equalIn_array w D _ _ hu hi, List.range_eq_range']
          exact hb w
        · cases h
      · cases h
    · rename_i dd hns hna hu
      split at h
      · simp only [Option.some.injEq] at h; subst h
        have hr : rowT P t = false := by unfold rowT; rw [hu]; cases dd <;> simp_all
        match zs, hall with
        | [p], ⟨⟨b, hb, hiff⟩, _⟩ =>
          refine ⟨b, fun w => ?_, by simpa using hiff⟩
          unfold vOf
          rw [hr]
          simpa using hb D w
      · cases h
    · cases h
/-- What a walk asks. -/
theorem eql_flat {d : Nat} {t : TypeId} {ts : List TypeId} (h : flat P d t = some ts) (hd : d ≤ 10000) (hr : rowT P t = true) (zs : List (Value × Value)) (hall : All2 (LeafEq P) ts zs) :
    ∃ b : Bool, (∀ w, (Op.equalIn 10000 t (.agg (zs.map (·.1)).toArray) (.agg (zs.map (·.2)).toArray)).run P w = .ok b w) ∧ (b = true ↔ zs.map (·.1) = zs.map (·.2)) := by
  obtain ⟨b, hb, hiff⟩ := eq_flat d 10000 hd t ts zs h hall
  refine ⟨b, fun w => ?_, hiff⟩
  have := hb w
  unfold vOf at this
  rwa [if_pos hr, if_pos hr] at this
end
end Go.Proofs.Ytbpfknkbiaplpaa.Flat
