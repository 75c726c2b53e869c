/- 11 texts in one file, in build order. -/
import Derived.OpenShut
import Derived.ChangeArms
import Derived.DeepKeys
import Derived.Test.YtpgoafbkjmmedaaGreatRows
import Derived.Test.YtpgoafbkjmmedaaGreatPart01
import Derived.OwnWalk
import Derived.Laws.CopyOwn
import Derived.Test.YtpgoafbkjmmedaaGreatPart04
import Derived.Test.YtpgoafbkjmmedaaGreatPart02
import Derived.BigQuiet
import Derived.Test.YtpgoafbkjmmedaaGreatPart03
import Derived.StillTailTactics
import Derived.LoopTactic
set_option linter.unusedVariables false
set_option linter.unusedSimpArgs false
set_option linter.unusedSectionVars false
set_option maxHeartbeats 8000000
set_option maxRecDepth 100000
namespace Go.Proofs.YtpgoafbkjmmedaaGreat
namespace Flat
open Go Go.ChangeShapes Go.WideShapes
section
variable {α β : Type}
def All2 (R : α → β → Prop) : List α → List β → Prop
  | [], [] => True
  | a :: l, b :: m => R a b ∧ All2 R l m
  | _, _ => False
variable {R : α → β → Prop}
theorem All2.length : ∀ {a : List α} {b : List β}, All2 R a b → a.length = b.length
  | [], [], _ => rfl
  | _ :: _, _ :: _, ⟨_, h⟩ => by simp [All2.length h]
  | [], _ :: _, h => h.elim
  | _ :: _, [], h => h.elim
theorem All2.append : ∀ {a : List α} {b : List β} {c : List α} {d : List β}, All2 R a b → All2 R c d → All2 R (a ++ c) (b ++ d)
  | [], [], _, _, _, h => h
  | _ :: _, _ :: _, _, _, ⟨h, k⟩, h2 => ⟨h, All2.append k h2⟩
  | [], _ :: _, _, _, h, _ => h.elim
  | _ :: _, [], _, _, h, _ => h.elim
theorem All2.split : ∀ {a c : List α} {b : List β}, All2 R (a ++ c) b → All2 R a (b.take a.length) ∧ All2 R c (b.drop a.length)
  | [], _, _, h => ⟨trivial, h⟩
  | _ :: _, _, _ :: _, ⟨h, k⟩ => ⟨⟨h, (All2.split k).1⟩, (All2.split k).2⟩
  | _ :: _, _, [], h => h.elim
theorem All2.at : ∀ {a : List α} {b : List β}, All2 R a b → ∀ {i : Nat} {x : α} {y : β}, a[i]? = some x → b[i]? = some y → R x y
  | _ :: _, _ :: _, ⟨h, _⟩, 0, _, _, h1, h2 => by simp at h1 h2; subst h1 h2; exact h
  | _ :: _, _ :: _, ⟨_, k⟩, i + 1, _, _, h1, h2 => All2.at k (i := i) (by simpa using h1) (by simpa using h2)
  | [], _, _, _, _, _, h1, _ => by simp at h1
  | _ :: _, [], h, _, _, _, _, _ => h.elim
theorem All2.mono {S : α → β → Prop} (hm : ∀ x y, R x y → S x y) : ∀ {a : List α} {b : List β}, All2 R a b → All2 S a b
  | [], [], _ => trivial
  | _ :: _, _ :: _, ⟨h, k⟩ => ⟨hm _ _ h, All2.mono hm k⟩
  | [], _ :: _, h => h.elim
  | _ :: _, [], h => h.elim
end
def rowT (P : Program) (t : TypeId) : Bool := match P.underlying t with | some (.struct _) | some (.array _ _) => true | _ => false
def flatF (P : Program) (g : TypeId → Option (List TypeId)) : Nat → List Field → Option (List TypeId)
  | _, [] => some []
  | o, f :: fs => if f.name ≠ "_" ∧ f.offset = o then
      match g f.type with
      | some r => if r.length = P.cellsOf f.type then (flatF P g (o + r.length) fs).map (r ++ ·) else none
      | none => none
    else none
/-- The one-cell types that lie in a type, in order; none where its parts do not lie side by side. -/
def flat (P : Program) : Nat → TypeId → Option (List TypeId)
  | 0, _ => none
  | d + 1, t => match P.underlying t with
    | some (.struct fs) => if P.stoodInHeld t = true then none else match flatF P (flat P d) 0 fs.toList with
      | some l => if l.length = P.cellsOf t then some l else none
      | none => none
    | some (.array n e) => match flat P d e with
      | some r => if r.length = P.cellsOf e ∧ n * P.cellsOf e = P.cellsOf t then some (List.replicate n r).flatten else none
      | none => none
    | some _ => if P.cellsOf t = 1 then some [t] else none
    | none => none
theorem flatF_cons {P : Program} {g : TypeId → Option (List TypeId)} {o : Nat} {f : Field} {fs : List Field} {l : List TypeId} (h : flatF P g o (f :: fs) = some l) :
    f.name ≠ "_" ∧ f.offset = o ∧ ∃ r l', g f.type = some r ∧ r.length = P.cellsOf f.type ∧ flatF P g (o + r.length) fs = some l' ∧ l = r ++ l' := by
  unfold flatF at h
  split at h
  · rename_i h1
    split at h
    · rename_i r hr
      split at h
      · rename_i hl
        simp only [Option.map_eq_some_iff] at h
        obtain ⟨l', h2, rfl⟩ := h
        exact ⟨h1.1, h1.2, r, l', hr, hl, h2, rfl⟩
      · cases h
    · cases h
  · cases h
theorem take_two {α : Type} (l : List α) (o a b : Nat) : (l.drop o).take (a + b) = (l.drop o).take a ++ (l.drop (o + a)).take b := by
  rw [List.take_add, List.drop_drop]
section
variable {P : Program} {R : TypeId → Value → Prop} {G : TypeId → List Value → Prop} {g : TypeId → Option (List TypeId)}
theorem fields_flat (hg : ∀ t ts cs, g t = some ts → G t cs → All2 R ts cs) (cs : List Value) : ∀ (fs : List Field) (o : Nat) (l : List TypeId), flatF P g o fs = some l →
    (∀ f ∈ fs, G f.type ((cs.drop f.offset).take (P.cellsOf f.type))) → All2 R l ((cs.drop o).take l.length)
  | [], _, l, h, _ => by
    simp only [flatF, Option.some.injEq] at h
    subst h; simp [All2]
  | f :: fs, o, l, h, hall => by
    obtain ⟨_, ho, r, l', h1, h2, h3, rfl⟩ := flatF_cons h
    have h4 := hg _ _ _ h1 (hall f (by simp))
    rw [ho, ← h2] at h4
    rw [List.length_append, take_two]
    exact h4.append (fields_flat hg cs fs _ _ h3 fun f hf => hall f (by simp [hf]))
theorem items_flat {c : Nat} {e : TypeId} {r : List TypeId} (hg : ∀ cs, G e cs → All2 R r cs) (cs : List Value) : ∀ (n k : Nat), (∀ i, i < n → G e ((cs.drop ((k + i) * c)).take c)) →
    All2 R (List.replicate n r).flatten ((cs.drop (k * c)).take (n * c))
  | 0, _, _ => by simp [All2]
  | n + 1, k, h => by
    rw [List.replicate_succ, List.flatten_cons, Nat.add_mul, Nat.one_mul, Nat.add_comm (n * c) c, take_two]
    refine (hg _ (by simpa using h 0 (by omega))).append ?_
    have := items_flat hg cs n (k + 1) (fun i hi => by have := h (i + 1) (by omega); rwa [show k + (i + 1) = k + 1 + i by omega] at this)
    rwa [Nat.add_mul, Nat.one_mul] at this
end
section
variable {H : Type} {enc : TypeId × Value → H} {P : Program} {w : World} {base : Nat} {spare : Nat → Bool} {held : Bool}
theorem trod_one {t : TypeId} {n : Nat} {cs : List Value} {x : DataW H × List MemPlace} {d : TypeDesc} (hu : P.underlying t = some d) (hd : rowT P t = false) (h : DataW.trod enc P w base spare held n t cs = some x) : ∃ v, cs = [v] := by
  cases n with
  | zero => simp [DataW.trod] at h
  | succ n =>
    unfold DataW.trod at h
    unfold rowT at hd
    rw [hu] at h hd
    split at h <;> first | exact ⟨_, rfl⟩ | (simp_all; done)
/-- A value that can be read: each of its cells can be read as its own type. -/
theorem trod_flat : ∀ (d : Nat) (t : TypeId) (ts : List TypeId), flat P d t = some ts → ∀ (n : Nat) (cs : List Value) (x : DataW H × List MemPlace), DataW.trod enc P w base spare held n t cs = some x →
    All2 (fun t v => ∃ n y, DataW.trod enc P w base spare held n t [v] = some y) ts cs
  | 0, _, _, h, _, _, _, _ => by simp [flat] at h
  | d + 1, t, ts, h, n, cs, x, hx => by
    unfold flat at h
    split at h
    · rename_i fs hu
      split at h
      · cases h
      · split at h
        · rename_i l hl
          split at h
          · rename_i hlen
            simp only [Option.some.injEq] at h; subst h
            obtain ⟨xs, m, _, _, hcl, hxl, hf⟩ := DataW.trod_struct hu hx
            have := fields_flat (P := P) (G := fun t cs => ∃ n y, DataW.trod enc P w base spare held n t cs = some y) (g := flat P d) (fun t ts cs h ⟨n, y, hy⟩ => trod_flat d t ts h n cs y hy) cs fs.toList 0 l hl (fun f hf' => by
              obtain ⟨i, hi⟩ := List.getElem?_of_mem hf'
              have h1 := hf i f (by simpa using hi)
              have h2 : i < xs.length := by
                have := (List.getElem?_eq_some_iff.1 hi).1
                simp at this; omega
              rw [List.getElem?_eq_getElem h2] at h1
              exact ⟨m, _, h1⟩)
            rw [List.drop_zero, hlen, ← hcl, List.take_length] at this
            exact this
          · cases h
        · cases h
    · rename_i k e hu
      split at h
      · rename_i r hr
        split at h
        · rename_i hlen
          simp only [Option.some.injEq] at h; subst h
          obtain ⟨xs, m, _, _, hcl, hxl, hf⟩ := DataW.trod_array hu hx
          have := items_flat (c := P.cellsOf e) (e := e) (r := r) (G := fun t cs => ∃ n y, DataW.trod enc P w base spare held n t cs = some y) (fun cs ⟨n, y, hy⟩ => trod_flat d e r hr n cs y hy) cs k 0 (fun i hi => by
            have h1 := hf i hi
            rw [List.getElem?_eq_getElem (by omega)] at h1
            exact ⟨m, _, by simpa using h1⟩)
          rw [Nat.zero_mul, List.drop_zero, hlen.2, ← hcl, List.take_length] at this
          exact this
        · cases h
      · cases h
    · rename_i dd hns hna hu
      split at h
      · simp only [Option.some.injEq] at h; subst h
        obtain ⟨v, rfl⟩ := trod_one hu (by unfold rowT; rw [hu]; cases dd <;> simp_all) hx
        exact ⟨⟨n, x, hx⟩, trivial⟩
      · cases h
    · cases h
end
/-! ### comparing -/
section
variable {P : Program}
def vOf (P : Program) (t : TypeId) (cs : List Value) : Value := if rowT P t then .agg cs.toArray else cs.headD undef
/-- Two cells of a type of one cell: '==' is equality. -/
def LeafEq (P : Program) (t : TypeId) (p : Value × Value) : Prop := ∃ b : Bool, (∀ D w, (Op.equalIn (D + 1) t p.1 p.2).run P w = .ok b w) ∧ (b = true ↔ p.1 = p.2)
theorem leaf_int {t : TypeId} {k : IntKind} (h : P.underlying t = some (.int k)) (a b : Int) : LeafEq P t (.int k a, .int k b) := ⟨a == b, fun D w => run_equalIn_int w D t k k a b h, by simp⟩
theorem run_part (w : World) {t : TypeId} {d : TypeDesc} (hu : P.underlying t = some d) (hc : rowT P t = false → P.cellsOf t = 1) (cs : List Value) (off : Nat) (hl : off + P.cellsOf t ≤ cs.length) :
    (part t cs.toArray off).run P w = .ok (vOf P t ((cs.drop off).take (P.cellsOf t))) w := by
  obtain ⟨i, hi⟩ := info_of_underlying hu
  have hagg : (isAgg t).run P w = .ok (rowT P t) w := by
    unfold isAgg rowT
    rw [Sem.run_bind, run_underlying hu w]
    rw [hu]
    cases d <;> simp
  unfold part vOf
  rw [Sem.run_bind, hagg, Result.andThen_ok]
  cases hr : rowT P t with
  | true =>
    simp only [if_true, Sem.run_bind, run_sizeOf w hi, Result.andThen_ok, Sem.run_pure]
    congr 2
    simp [List.extract]
  | false =>
    have h1 := hc hr
    have h2 : off < cs.length := by omega
    simp only [Bool.false_eq_true, if_false, List.getElem?_toArray, List.getElem?_eq_getElem h2, Sem.run_pure, h1]
    have h3 : (cs.drop off).take 1 = [cs[off]] := by rw [List.drop_eq_getElem_cons h2]; rfl
    rw [h3]
    simp
theorem cells_one {d : Nat} {t : TypeId} {ts : List TypeId} (h : flat P d t = some ts) : (∃ dd, P.underlying t = some dd) ∧ (rowT P t = false → P.cellsOf t = 1) := by
  cases d with
  | zero => simp [flat] at h
  | succ d =>
    unfold flat at h
    unfold rowT
    split at h
    · rename_i hu; exact ⟨⟨_, hu⟩, by rw [hu]; simp⟩
    · rename_i hu; exact ⟨⟨_, hu⟩, by rw [hu]; simp⟩
    · rename_i hu
      split at h
      · rename_i h1; exact ⟨⟨_, hu⟩, fun _ => h1⟩
      · cases h
    · cases h
def EqG (P : Program) (D : Nat) (g : TypeId → Option (List TypeId)) : Prop := ∀ (t : TypeId) (ts : List TypeId) (zs : List (Value × Value)), g t = some ts → All2 (LeafEq P) ts zs →
  ∃ b : Bool, (∀ w, (Op.equalIn D t (vOf P t (zs.map (·.1))) (vOf P t (zs.map (·.2)))).run P w = .ok b w) ∧ (b = true ↔ zs.map (·.1) = zs.map (·.2))
theorem map_part {γ : Type} (f : Value × Value → γ) (zs : List (Value × Value)) (o n : Nat) : ((zs.map f).drop o).take n = ((zs.drop o).take n).map f := by
  rw [← List.map_drop, ← List.map_take]
theorem fields_eq {D d : Nat} (hg : EqG P D (flat P d)) (zs : List (Value × Value)) : ∀ (fs : List Field) (o : Nat) (l : List TypeId), flatF P (flat P d) o fs = some l → o + l.length ≤ zs.length →
    All2 (LeafEq P) l ((zs.drop o).take l.length) →
    ∃ b : Bool, (∀ w, (Op.eqFields D (zs.map (·.1)).toArray (zs.map (·.2)).toArray fs).run P w = .ok b w) ∧ (b = true ↔ ((zs.drop o).take l.length).map (·.1) = ((zs.drop o).take l.length).map (·.2))
  | [], _, l, h, _, _ => by
    simp only [flatF, Option.some.injEq] at h
    subst h
    exact ⟨true, fun w => by simp [Op.eqFields], by simp⟩
  | f :: fs, o, l, h, hlen, hall => by
    obtain ⟨hn, ho, r, l', h1, h2, h3, rfl⟩ := flatF_cons h
    obtain ⟨⟨dd, hu⟩, hone⟩ := cells_one h1
    rw [List.length_append] at hlen hall ⊢
    rw [take_two] at hall ⊢
    have hs := hall.split
    have hlr : ((zs.drop o).take r.length).length = r.length := by simp; omega
    rw [List.take_left' hlr, List.drop_left' hlr] at hs
    obtain ⟨b, hb, hiff⟩ := hg f.type r _ h1 hs.1
    obtain ⟨b', hb', hiff'⟩ := fields_eq hg zs fs (o + r.length) l' h3 (by omega) hs.2
    have p1 := fun w => run_part (P := P) w hu hone (zs.map (·.1)) f.offset (by simp; omega)
    have p2 := fun w => run_part (P := P) w hu hone (zs.map (·.2)) f.offset (by simp; omega)
    rw [ho, ← h2] at p1 p2
    simp only [map_part] at p1 p2
    refine ⟨b && b', fun w => ?_, ?_⟩
    · simp only [Op.eqFields, hn, ne_eq, not_false_eq_true, if_true, Sem.run_bind, ho, p1, p2, hb, Result.andThen_ok]
      cases b
      · simp
      · simpa using hb' w
    · rw [Bool.and_eq_true, hiff, hiff', List.map_append, List.map_append]
      constructor
      · rintro ⟨e1, e2⟩; rw [e1, e2]
      · intro e; exact List.append_inj e (by simp)
theorem items_eq {D d : Nat} (hg : EqG P D (flat P d)) {e : TypeId} {r : List TypeId} (hr : flat P d e = some r) (hc : r.length = P.cellsOf e) (zs : List (Value × Value)) : ∀ (n k : Nat), (k + n) * P.cellsOf e ≤ zs.length →
    All2 (LeafEq P) (List.replicate n r).flatten ((zs.drop (k * P.cellsOf e)).take (n * P.cellsOf e)) →
    ∃ b : Bool, (∀ w, (Op.eqItems D e (P.cellsOf e) (zs.map (·.1)).toArray (zs.map (·.2)).toArray (List.range' k n)).run P w = .ok b w) ∧
      (b = true ↔ ((zs.drop (k * P.cellsOf e)).take (n * P.cellsOf e)).map (·.1) = ((zs.drop (k * P.cellsOf e)).take (n * P.cellsOf e)).map (·.2))
  | 0, k, _, _ => ⟨true, fun w => by simp [Op.eqItems], by simp⟩
  | n + 1, k, hlen, hall => by
    obtain ⟨⟨dd, hu⟩, hone⟩ := cells_one hr
    have hlen' : k * P.cellsOf e + P.cellsOf e + n * P.cellsOf e ≤ zs.length := by
      have : (k + (n + 1)) * P.cellsOf e = k * P.cellsOf e + P.cellsOf e + n * P.cellsOf e := by
        rw [Nat.add_mul, Nat.add_mul, Nat.one_mul]; omega
      omega
    rw [List.replicate_succ, List.flatten_cons] at hall
    rw [Nat.add_mul, Nat.one_mul, Nat.add_comm (n * _), take_two] at hall ⊢
    have hs := hall.split
    have hlr : ((zs.drop (k * P.cellsOf e)).take (P.cellsOf e)).length = r.length := by rw [hc]; simp; omega
    rw [List.take_left' hlr, List.drop_left' hlr] at hs
    obtain ⟨b, hb, hiff⟩ := hg e r _ hr hs.1
    have hk : k * P.cellsOf e + P.cellsOf e = (k + 1) * P.cellsOf e := by rw [Nat.add_mul, Nat.one_mul]
    rw [hk] at hs ⊢
    obtain ⟨b', hb', hiff'⟩ := items_eq hg hr hc zs n (k + 1) (by rw [Nat.add_mul, Nat.add_mul] at *; omega) hs.2
    have p1 := fun w => run_part (P := P) w hu hone (zs.map (·.1)) (k * P.cellsOf e) (by simp; omega)
    have p2 := fun w => run_part (P := P) w hu hone (zs.map (·.2)) (k * P.cellsOf e) (by simp; omega)
    simp only [map_part] at p1 p2
    refine ⟨b && b', fun w => ?_, ?_⟩
    · simp only [List.range'_succ, Op.eqItems, Sem.run_bind, p1, p2, hb, Result.andThen_ok]
      cases b
      · simp
      · simpa using hb' w
    · rw [Bool.and_eq_true, hiff, hiff', List.map_append, List.map_append]
      constructor
      · rintro ⟨e1, e2⟩; rw [e1, e2]
      · intro e; exact List.append_inj e (by simp)
theorem eq_flat : ∀ (d D : Nat), d ≤ D → EqG P D (flat P d)
  | 0, _, _ => fun t ts zs h _ => by simp [flat] at h
  | d + 1, 0, h => absurd h (by omega)
  | d + 1, D + 1, hD => fun t ts zs h hall => by
    have IH := eq_flat d D (by omega)
    unfold flat at h
    split at h
    · rename_i fs hu
      split at h
      · cases h
      · rename_i hst
        split at h
        · rename_i l hl
          split at h
          · rename_i hlen
            simp only [Option.some.injEq] at h; subst h
            have hz := hall.length
            obtain ⟨b, hb, hiff⟩ := fields_eq IH zs fs.toList 0 l hl (by omega) (by rw [List.drop_zero, hz, List.take_length]; exact hall)
            rw [List.drop_zero, hz, List.take_length] at hiff
            have hfs : P.fieldsOf t = fs := by simp [Program.fieldsOf, hu]
            refine ⟨b, fun w => ?_, hiff⟩
            have hr : rowT P t = true := by unfold rowT; rw [hu]
            unfold vOf
            rw [if_pos hr, if_pos hr, run_equalIn_struct w D t _ _ (by rw [hfs]; exact hu) (by simpa using hst), hfs]
            exact hb w
          · cases h
        · cases h
    · rename_i n e hu
      split at h
      · rename_i r hr
        split at h
        · rename_i hlen
          simp only [Option.some.injEq] at h; subst h
          have hz := hall.length
          have hz2 : n * P.cellsOf e = zs.length := by rw [← hz]; simp [hlen.1]
          obtain ⟨b, hb, hiff⟩ := items_eq IH hr hlen.1 zs n 0 (by rw [Nat.zero_add]; omega) (by rw [Nat.zero_mul, List.drop_zero, hz2, List.take_length]; exact hall)
          rw [Nat.zero_mul, List.drop_zero, hz2, List.take_length] at hiff
          obtain ⟨⟨dd, hue⟩, _⟩ := cells_one hr
          obtain ⟨i, hi⟩ := info_of_underlying hue
          refine ⟨b, fun w => ?_, hiff⟩
          have hrow : rowT P t = true := by unfold rowT; rw [hu]
          unfold vOf
          rw [if_pos hrow, if_pos hrow, run_equalIn_array w D _ _ hu hi, List.range_eq_range']
          exact hb w
        · cases h
      · cases h
    · rename_i dd hns hna hu
      split at h
      · simp only [Option.some.injEq] at h; subst h
        have hr : rowT P t = false := by unfold rowT; rw [hu]; cases dd <;> simp_all
        match zs, hall with
        | [p], ⟨⟨b, hb, hiff⟩, _⟩ =>
          refine ⟨b, fun w => ?_, by simpa using hiff⟩
          unfold vOf
          rw [hr]
          simpa using hb D w
      · cases h
    · cases h
/-- What a walk asks. -/
theorem eql_flat {d : Nat} {t : TypeId} {ts : List TypeId} (h : flat P d t = some ts) (hd : d ≤ 10000) (hr : rowT P t = true) (zs : List (Value × Value)) (hall : All2 (LeafEq P) ts zs) :
    ∃ b : Bool, (∀ w, (Op.equalIn 10000 t (.agg (zs.map (·.1)).toArray) (.agg (zs.map (·.2)).toArray)).run P w = .ok b w) ∧ (b = true ↔ zs.map (·.1) = zs.map (·.2)) := by
  obtain ⟨b, hb, hiff⟩ := eq_flat d 10000 hd t ts zs h hall
  refine ⟨b, fun w => ?_, hiff⟩
  have := hb w
  unfold vOf at this
  rwa [if_pos hr, if_pos hr] at this
end
end Flat
namespace Same
open Go.ChangeShapes Go.WideShapes
open Tab Flat
def Eqs (t : TypeId) (xs ys : List Value) (b : Bool) : Prop := ∀ w : World, (Op.equalIn 10000 t (.agg xs.toArray) (.agg ys.toArray)).run Tryz.prog w = .ok b w
theorem eqs_of {d : Nat} {t : TypeId} {ts : List TypeId} (h : flat Tryz.prog d t = some ts) (hd : d ≤ 10000) (hr : rowT Tryz.prog t = true) (zs : List (Value × Value)) (hall : All2 (LeafEq Tryz.prog) ts zs) {xs ys : List Value} (hx : zs.map (·.1) = xs) (hy : zs.map (·.2) = ys) {p : Prop} [Decidable p]
    (hp : xs = ys ↔ p) : Eqs t xs ys (decide p) := by
  subst hx hy
  obtain ⟨b, hb, hiff⟩ := eql_flat h hd hr zs hall
  rw [hp] at hiff
  have e : b = decide p := by
    by_cases hq : p
    · rw [decide_eq_true hq]; exact hiff.2 hq
    · rw [decide_eq_false hq]; cases b
      · rfl
      · exact absurd (hiff.1 rfl) hq
  intro w
  rw [hb w, e]
theorem lint (a b : Int) : LeafEq Tryz.prog 3 (I a, I b) := leaf_int Tryz.underlying3 a b
end Same
namespace Copy
open Go Go.RowKit
open Tab
section
variable {P : Program}
end
/-! ### a list's elements as one row -/
section
variable {α : Type} {n : Nat} {enc : α → List Value}
theorem lies_flat (he : ∀ v, (enc v).length = n) {w : World} {x : Addr} : ∀ (l : List α) (k : Nat), (∀ i v, l[i]? = some v → Lies w (x.add ((k + i) * n)) (enc v)) → Lies w (x.add (k * n)) (l.flatMap enc)
  | [], _, _ => fun j v hv => by simp at hv
  | u :: l, k, h => by
    have ih := lies_flat he l (k + 1) (fun i v hv => by have := h (i + 1) v (by simpa using hv); rwa [show k + (i + 1) = k + 1 + i by omega] at this)
    intro j v hv
    rw [List.flatMap_cons, List.getElem?_append] at hv
    split at hv
    · exact h 0 u rfl j v hv
    · rename_i hj
      have := ih (j - (enc u).length) v hv
      rw [add_two, he u, Nat.add_mul, Nat.one_mul, show k * n + n + (j - n) = k * n + j by rw [he u] at hj; omega] at this
      rw [add_two]; exact this
theorem RowOf.flat (he : ∀ v, (enc v).length = n) {w : World} {s : Sl} {l : List α} (h : RowOf n enc w s l) (h0 : 0 < l.length) : ∃ x, s.a = some x ∧ Lies w x (l.flatMap enc) := by
  rcases h with ⟨_, _, rfl⟩ | ⟨x, h1, h2, h3, h4⟩
  · simp at h0
  · refine ⟨x, h1, ?_⟩
    have := lies_flat (x := x) he l 0 (fun i v hv => by rw [Nat.zero_add]; exact h4 i v hv)
    rwa [Nat.zero_mul, add_zero] at this
end
end Copy
namespace Clone
open Go.ChangeShapes Go.WideShapes Go.ChangeAt Go.RowKit
open Tab Copy
open May (chain infoP infoG infoD infoR infoB)
end Clone
namespace Owned
open Go Go.RowKit
open Tab Copy
structure Blk where
  at_ : Nat
  cells : List Value
  type : TypeId
def Own (B : Nat) (w : World) (L : List Blk) : Prop := (L.map Blk.at_).Nodup ∧ ∀ x ∈ L, B ≤ x.at_ ∧ w.heap[x.at_]? = some (.cells x.cells.toArray x.type (0, 0))
variable {B : Nat} {w w' : World} {L M : List Blk} {x : Blk}
theorem Own.nil : Own B w [] := ⟨by simp, fun x h => by simp at h⟩
theorem Own.get (h : Own B w L) (hx : x ∈ L) : w.heap[x.at_]? = some (.cells x.cells.toArray x.type (0, 0)) := (h.2 x hx).2
theorem Own.base (h : Own B w L) (hx : x ∈ L) : B ≤ x.at_ := (h.2 x hx).1
theorem Own.lt (h : Own B w L) (hx : x ∈ L) : x.at_ < w.heap.size := (Array.getElem?_eq_some_iff.1 (h.get hx)).1
theorem Own.step (h : Own B w L) (hb : Below w.heap.size w w') : Own B w' L := ⟨h.1, fun x hx => ⟨h.base hx, by rw [hb.block _ (h.lt hx)]; exact h.get hx⟩⟩
theorem Own.tail (h : Own B w (x :: L)) : Own B w L := ⟨(List.nodup_cons.1 h.1).2, fun y hy => h.2 y (List.mem_cons_of_mem _ hy)⟩
/-- A new block. -/
theorem Own.add (h : Own B w L) (hb : Below w.heap.size w w') {g : Nat} {cs : List Value} {t : TypeId} (hg : w'.heap[g]? = some (.cells cs.toArray t (0, 0))) (hn : w.heap.size ≤ g) (hB : B ≤ w.heap.size) : Own B w' (⟨g, cs, t⟩ :: L) := by
  refine ⟨List.nodup_cons.2 ⟨fun hm => ?_, h.1⟩, fun y hy => ?_⟩
  · obtain ⟨y, hy, e⟩ := List.mem_map.1 hm
    have := h.lt hy
    have e' : y.at_ = g := e
    omega
  · rcases List.mem_cons.1 hy with rfl | hy
    · exact ⟨Nat.le_trans hB hn, hg⟩
    · exact (h.step hb).2 y hy
/-- The first block is written. -/
theorem Own.write (h : Own B w (x :: L)) {cs : List Value} (hg : w'.heap[x.at_]? = some (.cells cs.toArray x.type (0, 0))) (ho : ∀ j, j ≠ x.at_ → w'.heap[j]? = w.heap[j]?) : Own B w' (⟨x.at_, cs, x.type⟩ :: L) := by
  have hx := (List.nodup_cons.1 h.1).1
  refine ⟨List.nodup_cons.2 ⟨hx, (List.nodup_cons.1 h.1).2⟩, fun y hy => ?_⟩
  rcases List.mem_cons.1 hy with rfl | hy
  · exact ⟨(h.base (x := x) (List.mem_cons_self ..) : B ≤ x.at_), hg⟩
  · have hne : y.at_ ≠ x.at_ := fun e => hx (List.mem_map.2 ⟨y, hy, e⟩)
    exact ⟨h.base (List.mem_cons_of_mem _ hy), by rw [ho _ hne]; exact h.get (List.mem_cons_of_mem _ hy)⟩
theorem Own.cell (h : Own B w L) (hx : x ∈ L) (i : Nat) : w.cell? ⟨x.at_, i, none⟩ = x.cells[i]? := by
  rw [cell_of_row _ _ _ _ _ _ (h.get hx)]; simp
theorem Own.frozen (h : Own B w L) (hx : x ∈ L) (i : Nat) : w.frozen? ⟨x.at_, i, none⟩ = false := frozen_of_row _ _ _ _ _ (h.get hx)
end Owned
namespace Clone
open Go.ChangeShapes Go.WideShapes Go.ChangeAt Go.RowKit
open Tab Copy Owned
open May (chain infoP infoG infoD infoR infoB infoT)
/-- A group whose rows are blocks of their own. -/
structure NG where
  r0 : List Int
  r1 : List Int
  b0 : Nat
  b1 : Nat
def NG.gr (g : NG) : Gr := ⟨g.r0, g.r1, ⟨some ⟨g.b0, 0, none⟩, g.r0.length⟩, ⟨some ⟨g.b1, 0, none⟩, g.r1.length⟩⟩
def NG.blks (g : NG) : List Blk := [⟨g.b0, g.r0.flatMap (fun n => [I n]), 3⟩, ⟨g.b1, g.r1.flatMap (fun n => [I n]), 3⟩]
/-- Where a clone's parts lie. -/
def own (T : Tab) (ns : List NG) (G D R S : Nat) : List Blk :=
  ⟨G, (ns.map NG.gr).flatMap Gr.cells, 55⟩ :: ⟨D, T.dets.flatMap Det.cells, 80⟩ :: ⟨R, T.rails.flatMap Rl.cells, 84⟩ :: ⟨S, T.buses.flatMap Bs.cells, 86⟩ :: ns.flatMap NG.blks
section
variable {T : Tab} {ns : List NG} {G D R S : Nat}
end
/-! ### a table's cells, with a list moved -/
structure Eights (T : Tab) : Prop where
  p : T.phases.length = 8
  c : T.conflict.length = 8
  f : T.flash.length = 8
theorem Eights.tab {T : Tab} (k : Eights T) (h : Hd) (w : World) : CellsOk T h (T.cells h).toArray := by
  have h0 : IsTab w ⟨⟨none, 0⟩, ⟨none, 0⟩, ⟨none, 0⟩, ⟨none, 0⟩⟩ { T with groups := [], dets := [], rails := [], buses := [] } :=
    ⟨k.p, k.c, k.f, ⟨[], rfl, RowOf.nil w, fun g hg => by simp at hg⟩, RowOf.nil w, RowOf.nil w, RowOf.nil w⟩
  have := cells_ok h0
  obtain ⟨p0, p1, p2, p3, p4, p5, p6, p7, hp⟩ := eight k.p
  obtain ⟨c0, c1, c2, c3, c4, c5, c6, c7, hc⟩ := eight k.c
  obtain ⟨f0, f1, f2, f3, f4, f5, f6, f7, hf⟩ := eight k.f
  clear k
  obtain ⟨phases, groups, conflict, dets, rails, buses, extend, budget, start, revert, least, flash, window, share⟩ := T
  simp only at hp hc hf
  subst hp hc hf
  clear this h0
  constructor
  all_goals try rfl
  case one => simp [Tab.cells, Ph.cells, Value.oneCell']
  intro i p hp
  match i, hp with
  | 0, hp | 1, hp | 2, hp | 3, hp | 4, hp | 5, hp | 6, hp | 7, hp =>
    obtain rfl := Option.some.inj hp
    rfl
  | i + 8, hp => cases hp
/-- The zero table. -/
def zPh : Ph := ⟨false, 0, 0, 0, 0, 0, 0, 0, 0, 0, 0, false, false⟩
def zTab : Tab := ⟨List.replicate 8 zPh, [], List.replicate 8 0, [], [], [], 0, 0, 0, 0, 0, List.replicate 8 0, 0, 0⟩
def zHd : Hd := ⟨⟨none, 0⟩, ⟨none, 0⟩, ⟨none, 0⟩, ⟨none, 0⟩⟩
theorem info31 : (Tryz.prog.info? 31).map (fun i => (i.zero, i.size)) = some (some (.agg (zTab.cells zHd).toArray), 131) := by kernel_rfl
theorem z_is (w : World) : IsTab w zHd zTab := ⟨rfl, rfl, rfl, ⟨[], rfl, RowOf.nil w, fun g hg => by simp at hg⟩, RowOf.nil w, RowOf.nil w, RowOf.nil w⟩
end Clone
namespace QL
open Go Go.RowKit
open Tab
/-- A whole row is loaded in a walk by a class. -/
theorem wpQuiet_load {P : Program} {C : World → Prop} {ops : Array Oper} {Q : Act → Prop} {a : Act} {o : Oper} {rest : List Oper} (hw : Region.wanted o (yielded ops a.tmps) = true) (ty : TypeId) (x : Operand) (ho : o.op = .load ty x) (y : Addr) (hx : a.eval x = .pointer (some y))
    (cs : List Value) (d : TypeDesc) (hc : ∀ w, C w → Lies w y cs) (hu : P.underlying ty = some d) (hd : d.isRow = true) (hi : (P.info? ty).map (·.size) = some cs.length) (h : wpQuiet P ops C Q rest (a.put o.dst (.agg cs.toArray))) : wpQuiet P ops C Q (o :: rest) a :=
  wpQuiet_step fun K hK => by
    rw [if_pos hw]
    refine ⟨_, fun w hw' => ?_, hK _ h⟩
    unfold Oper.quietAt execOp
    simp only [ho, hx, Instr.loadAt, Instr.sureAddr, Sem.run_bind, Sem.run_pure, Result.andThen_ok, Row.run_loadVar_lies w y ty cs d (hc w hw') hu hd hi]
    exact ⟨rfl, rfl⟩
end QL
namespace Rr
open Go Go.RowKit Go.ChangeShapes
open Tab
open Po (fault infoF)
open Rd (Rd But)
open Put (lim)
/-- An operation whose run is known in every world. -/
theorem wpQuiet_run {P : Program} {C : World → Prop} {ops : Array Oper} {Q : Act → Prop} {a : Act} {o : Oper} {rest : List Oper} (hw : Region.wanted o (yielded ops a.tmps) = true) (v : Value)
    (hr : ∀ w, (execOp a.eval o).run P w = .ok (.value v) w) (h : wpQuiet P ops C Q rest (a.put o.dst v)) : wpQuiet P ops C Q (o :: rest) a :=
  wpQuiet_step fun K hK => by
    rw [if_pos hw]
    refine ⟨_, fun w _ => ?_, hK _ h⟩
    unfold Oper.quietAt
    rw [hr w]
    exact ⟨rfl, rfl⟩
theorem flF : Flat.flat Tryz.prog 5 40 = some [35, 3] := by kernel_rfl
theorem fault_eqs (a b c d : Int) : Same.Eqs 40 [I a, I b] [I c, I d] (decide (a = c ∧ b = d)) := by
  refine Same.eqs_of flF (by decide) (by kernel_rfl) [(I a, I c), (I b, I d)] ⟨Same.lint _ _, Same.lint _ _, trivial⟩ rfl rfl ?_
  simp
theorem guardF : Tryz.prog.eqGuardType Tryz.prog.depth 40 = false := by kernel_rfl
theorem infoRd : (Tryz.prog.info? 69).map (·.size) = some 1 := by kernel_rfl
abbrev rdr (g : Nat) : Value := .agg #[.pointer (some ⟨g, 0, none⟩)]
theorem want_bad (g : Nat) (ad : Option Addr) (cap : Nat) (l : List Nat) (k : Nat) (code fat : Int) (w : World) (h : Rd w g ad cap l k code fat) (hne : code ≠ 0) :
    Calls Tryz.prog 132 #[rdr g] w fun e w' => e = .panicked [{ v := fault (code, fat), recovered := false }] ∧ Below w.heap.size w w' := by
  have hpan : ∀ (u : TypeId) (v : Value) (w : World), (Instr.panic (.iface u v)).run Tryz.prog w = .halt (.panic (.iface u v)) w := fun _ _ _ => rfl
  have hb := (Below.refl w.heap.size w).alloc (Nat.le_refl _) (.cells #[.pointer (some ⟨g, 0, none⟩)] 69)
  have hg := heap_alloc_new w (.cells #[.pointer (some ⟨g, 0, none⟩)] 69)
  have HR := Lib.hid (h.below hb)
  have HB := Lib.hid hb
  have HE : Hid (Same.Eqs 40 [I code, I fat] [I 0, I 0] false) := Lib.hid (by have := fault_eqs code fat 0 0; rwa [decide_eq_false (by simp [hne])] at this)
  clear h hb hne
  go_enter Tryz.func132, Tryz.ntmps132
  go_upto_region 1 with fail
  generalize World.alloc w _ = v at HR HB hg ⊢
  have k0 : v.cell? ⟨w.heap.size, 0, none⟩ = some (.pointer (some ⟨g, 0, none⟩)) := by rw [cell_of_row _ _ _ _ _ _ hg]; rfl
  go_wp2_with fail
  refine (Rd.fault_any g ad cap l k code fat v HR.out).mono ?_
  rintro e v1 ⟨rfl, hb1⟩
  go_upto_region 2 with fail
  have hb2 := hb1.alloc hb1.size (.cells #[I code, I fat] 40)
  have hg2 := heap_alloc_new v1 (.cells #[I code, I fat] 40)
  generalize World.alloc v1 _ = v2 at hb2 hg2 ⊢
  generalize v1.heap.size = nb at hg2 ⊢
  have HB2 : Hid (Below w.heap.size w v2) := Lib.hid (HB.out.trans (hb2.mono HB.out.size))
  have HG := Lib.hid hg2
  clear hb1 hb2 hg2 k0 hg
  have LF : Hid (Lies v2 ⟨nb, 0, none⟩ [I code, I fat]) := Lib.hid (by have := Row.lies_of_block HG.out; simpa using this)
  go_wp2_with (first | (refine Row.wpList_load_g 40 _ rfl (by first | rfl | go_simp) ⟨nb, 0, none⟩ rfl [I code, I fat] _ LF.out Tryz.underlying40 rfl infoF ?_) | (refine Row.wpList_neq 40 _ _ _ rfl rfl #[I code, I fat] #[I 0, I 0] rfl rfl guardF false HE.out ?_))
  exact ⟨rfl, rfl, HB2.out⟩
theorem number_nil {B g nb : Nat} (ad : Option Addr) (cap : Nat) (m : Int) (w : World) (h : Rd w g ad cap [] 0 0 0) (hn : w.heap[nb]? = some (.cells #[I 0] 3 (0, 0))) (hne : nb ≠ g) (hB : B ≤ w.heap.size) (hg : B ≤ g) (hnb : B ≤ nb) :
    Calls Tryz.prog 114 #[rdr g, .int .i64 3, .int .i64 m, .pointer (some ⟨nb, 0, none⟩)] w fun e w' => e = .panicked [{ v := fault (2, 0), recovered := false }] ∧ Below B w w' := by
  have hb := (Below.refl w.heap.size w).alloc (Nat.le_refl _) (.cells #[.pointer (some ⟨g, 0, none⟩)] 69)
  have hgg := heap_alloc_new w (.cells #[.pointer (some ⟨g, 0, none⟩)] 69)
  have hR := h.below hb
  have hn1 := (hb.block nb (Array.getElem?_eq_some_iff.1 hn).1).trans hn
  have HR := Lib.hid hR
  have HB := Lib.hid hb
  have HN := Lib.hid hn1
  have hgl := h.lt
  have hnl := (Array.getElem?_eq_some_iff.1 hn).1
  clear h hb hn hR hn1
  go_enter Tryz.func114, Tryz.ntmps114
  go_upto_region 1 with fail
  generalize World.alloc w _ = v at HR HB hgg HN ⊢
  generalize hrb : w.heap.size = rb at hgg ⊢
  have k0 : v.cell? ⟨rb, 0, none⟩ = some (.pointer (some ⟨g, 0, none⟩)) := by rw [cell_of_row _ _ _ _ _ _ hgg]; rfl
  go_wp2_with fail
  refine (Nm.num_end g ad cap [] 0 3 0 m v HR.out (by decide) (by decide) (by decide)).mono ?_
  rintro e v1 ⟨rfl, hr1, hb1⟩
  have hn2 := (hb1.block nb (Array.getElem?_eq_some_iff.1 HN.out).1 hne).trans HN.out
  have hg2 := (hb1.block rb (Array.getElem?_eq_some_iff.1 hgg).1 (by omega)).trans hgg
  have c1 : v1.cell? ⟨nb, 0, none⟩ = some (I 0) := by rw [cell_of_row _ _ _ _ _ _ hn2]; rfl
  have f1 : v1.frozen? ⟨nb, 0, none⟩ = false := frozen_of_row _ _ _ _ _ hn2
  have hst : v1.setCell ⟨nb, 0, none⟩ (I 0) = v1.setRow nb #[I 0] := setCell_eq_setRow v1 nb 0 #[I 0] 3 (0, 0) (I 0) hn2
  have HB1 : Hid (Below B w v1) := Lib.hid ((HB.out.mono hB).trans (hb1.below (Nat.le_trans hB HB.out.size) hg))
  have HR1 := Lib.hid hr1
  have HG2 := Lib.hid hg2
  clear k0 hr1 hb1 hg2 hgg
  go_upto_region 2 with fail
  have hb2 : But nb v1 (v1.setCell ⟨nb, 0, none⟩ (I 0)) := But.set nb 0 v1 _
  have hB2 : Below B w (v1.setCell ⟨nb, 0, none⟩ (I 0)) := HB1.out.setCell hnb _
  have hR2 := HR1.out.but hb2 (Ne.symm hne) (fun h => absurd rfl h)
  have hG2 := (hb2.block rb (Array.getElem?_eq_some_iff.1 HG2.out).1 (by omega)).trans HG2.out
  rw [hst] at hb2 hB2 hR2 hG2
  generalize v1.setRow nb #[I 0] = v2 at hB2 hR2 hG2 ⊢
  have HB3 := Lib.hid hB2
  have LR : Hid (Lies v2 ⟨rb, 0, none⟩ [.pointer (some ⟨g, 0, none⟩)]) := Lib.hid (by have := Row.lies_of_block hG2; simpa using this)
  have hwb := Lib.hid (want_bad g ad cap [] 0 2 (0 : Nat) v2 hR2 (by decide))
  clear hst hb2 hB2 hR2 hG2 c1 f1
  go_wp2_with (refine Row.wpList_load_g 69 _ rfl (by first | rfl | go_simp) ⟨rb, 0, none⟩ rfl [.pointer (some ⟨g, 0, none⟩)] _ LR.out Tryz.underlying69 rfl infoRd ?_)
  refine hwb.out.mono ?_
  rintro e v3 ⟨rfl, hb3⟩
  exact ⟨rfl, rfl, HB3.out.trans (hb3.mono (Nat.le_trans hB HB3.out.size))⟩
theorem raw_nil {g : Nat} (ad : Option Addr) (cap : Nat) (w0 w : World) (h : Rd w g ad cap [] 0 0 0) (hw : Below w0.heap.size w0 w) (hg : w0.heap.size ≤ g) :
    Calls Tryz.prog 83 #[rdr g, .int .i64 3] w fun e w' => e = .panicked [{ v := fault (2, 0), recovered := false }] ∧ Below w0.heap.size w0 w' := by
  have hb := (Below.refl w.heap.size w).alloc (Nat.le_refl _) (.cells #[.pointer (some ⟨g, 0, none⟩)] 69)
  have hb2 := hb.alloc hb.size (.cells #[I 0] 3)
  have hg1 := heap_alloc_new w (.cells #[.pointer (some ⟨g, 0, none⟩)] 69)
  have hg2 := heap_alloc_new (w.alloc (.cells #[.pointer (some ⟨g, 0, none⟩)] 69)) (.cells #[I 0] 3)
  have hs1 : (w.alloc (.cells #[.pointer (some ⟨g, 0, none⟩)] 69)).heap.size = w.heap.size + 1 := by simp
  rw [hs1] at hg2
  have hg3 : ((w.alloc (.cells #[.pointer (some ⟨g, 0, none⟩)] 69)).alloc (.cells #[I 0] 3)).heap[w.heap.size]? = some (.cells #[.pointer (some ⟨g, 0, none⟩)] 69 (0, 0)) := by
    rw [Below.heap_alloc _ _ _ (by rw [hs1]; omega)]; exact hg1
  have HR := Lib.hid (h.below hb2)
  have hgl := h.lt
  have HW : Hid (Below w0.heap.size w0 ((w.alloc (.cells #[.pointer (some ⟨g, 0, none⟩)] 69)).alloc (.cells #[I 0] 3))) := Lib.hid (hw.trans (hb2.mono hw.size))
  have hws := hw.size
  clear h hb hg1 hs1 hw hb2
  go_enter Tryz.func83, Tryz.ntmps83
  go_upto_region 2 with fail
  generalize World.alloc (World.alloc w _) _ = v at HR HW hg2 hg3 ⊢
  generalize hnb : w.heap.size + 1 = nb at hg2 ⊢
  generalize hrb : w.heap.size = rb at hg3 ⊢
  have LR : Hid (∀ W, Below v.heap.size v W → Lies W ⟨rb, 0, none⟩ [.pointer (some ⟨g, 0, none⟩)]) := Lib.hid (fun W hb => by have := Row.lies_of_block ((hb.block rb (Array.getElem?_eq_some_iff.1 hg3).1).trans hg3); simpa using this)
  have HG2 := Lib.hid hg2
  clear hg2 hg3
  refine QT.region v.heap.size 6 (by kernel_rfl) (by kernel_rfl) ?_
  simp only [List.take_succ_cons, List.take_zero]
  repeat first
    | (refine QL.wpQuiet_load rfl 69 _ rfl ⟨rb, 0, none⟩ rfl [.pointer (some ⟨g, 0, none⟩)] _ (fun w' ⟨p, e⟩ => by rw [e]; exact LR.out _ p.below) Tryz.underlying69 rfl infoRd ?_
       dsimp only [Act.put]
       simp only [List.setIfInBounds_toArray, List.set_cons_zero, List.set_cons_succ])
    | (quiet_step (fail))
    | (refine wpQuiet_run rfl (I 16777216) (fun w => rfl) ?_
       dsimp only [Act.put]
       simp only [List.setIfInBounds_toArray, List.set_cons_zero, List.set_cons_succ])
  refine wpQuiet_nil ?_
  intro _ hw'
  obtain ⟨p, rfl⟩ := hw'
  have HR2 := Lib.hid (HR.out.below p.below)
  have HN2 := Lib.hid ((p.below.block nb (Array.getElem?_eq_some_iff.1 HG2.out).1).trans HG2.out)
  have HWD : Hid (Below w0.heap.size w0 p.world) := Lib.hid (HW.out.trans (p.below.mono HW.out.size))
  generalize p.world = vd at HR2 HN2 HWD ⊢
  simp only [List.drop_succ_cons, List.drop_zero]
  go_wp2_with fail
  refine (number_nil (B := w0.heap.size) ad cap _ vd HR2.out HN2.out (by omega) HWD.out.size hg (by omega)).mono ?_
  rintro e v3 ⟨rfl, hb3⟩
  exact ⟨rfl, rfl, HWD.out.trans hb3⟩
theorem head_nil {g : Nat} (ad : Option Addr) (cap : Nat) (w0 w : World) (h : Rd w g ad cap [] 0 0 0) (hw : Below w0.heap.size w0 w) (hg : w0.heap.size ≤ g) :
    Calls Tryz.prog 31 #[rdr g] w fun e w' => e = .panicked [{ v := fault (2, 0), recovered := false }] ∧ Below w0.heap.size w0 w' := by
  have hb := (Below.refl w.heap.size w).alloc (Nat.le_refl _) (.cells #[.pointer (some ⟨g, 0, none⟩)] 69)
  have hg1 := heap_alloc_new w (.cells #[.pointer (some ⟨g, 0, none⟩)] 69)
  have hw2 := hw.trans (hb.mono hw.size)
  have HC := Lib.hid (raw_nil ad cap w0 _ (h.below hb) hw2 hg)
  clear h hb hw hw2
  go_enter Tryz.func31, Tryz.ntmps31
  go_upto_region 1 with fail
  generalize World.alloc w _ = v at HC hg1 ⊢
  have LR : Hid (Lies v ⟨w.heap.size, 0, none⟩ [.pointer (some ⟨g, 0, none⟩)]) := Lib.hid (by have := Row.lies_of_block hg1; simpa using this)
  go_wp2_with (refine Row.wpList_load_g 69 _ rfl (by first | rfl | go_simp) ⟨w.heap.size, 0, none⟩ rfl [.pointer (some ⟨g, 0, none⟩)] _ LR.out Tryz.underlying69 rfl infoRd ?_)
  refine HC.out.mono ?_
  rintro e v3 ⟨rfl, hb3⟩
  exact ⟨rfl, rfl, hb3⟩
end Rr
namespace Rr
open Go Go.RowKit Go.ChangeShapes
open Tab
open Po (fault infoF caught_fault)
open Rd (Rd But)
open Clone (zTab zHd info31 z_is)
theorem results_two {P : Program} {fn : Func} {p q : Tmp} {t1 t2 : TypeId} (h : fn.results = #[.cell p t1, .cell q t2]) (tmps : Array Value) (w : World) (g1 g2 : Nat) (s1 s2 : TypeId) (c1 c2 : Array Value) (d1 d2 : TypeDesc)
    (hp : tmps.getD p undef = .pointer (some ⟨g1, 0, none⟩)) (hq : tmps.getD q undef = .pointer (some ⟨g2, 0, none⟩)) (hg1 : w.heap[g1]? = some (.cells c1 s1 (0, 0))) (hg2 : w.heap[g2]? = some (.cells c2 s2 (0, 0)))
    (hu1 : P.underlying t1 = some d1) (hd1 : (match d1 with | .struct _ | .array _ _ => true | _ => false) = true) (hi1 : (P.info? t1).map (·.size) = some c1.size)
    (hu2 : P.underlying t2 = some d2) (hd2 : (match d2 with | .struct _ | .array _ _ => true | _ => false) = true) (hi2 : (P.info? t2).map (·.size) = some c2.size) :
    (results fn tmps).run P w = .ok (.tuple #[.agg c1, .agg c2]) w := by
  have hp' : tmps[p]?.getD undef = .pointer (some ⟨g1, 0, none⟩) := by simpa using hp
  have hq' : tmps[q]?.getD undef = .pointer (some ⟨g2, 0, none⟩) := by simpa using hq
  simp [results, h, hp', hq', asAddr, Sem.run_bind, Result.andThen, run_loadVar_row w g1 s1 t1 c1 _ d1 hg1 hu1 hd1 hi1, run_loadVar_row w g2 s2 t2 c2 _ d2 hg2 hu2 hd2 hi2]
theorem dclo_panic (b : Nat) (z0 z1 x y : Int) (w : World) (hc : w.heap[b]? = some (.cells #[I z0, I z1] 40 (0, 0))) :
    CallsD Tryz.prog 29 #[.pointer (some ⟨b, 0, none⟩)] (.panicking [{ v := fault (x, y), recovered := false }]) w fun e u' w' => e = .returned (.tuple #[]) ∧ u' = .panicking [{ v := fault (x, y), recovered := true }] ∧ But b w w' ∧ w'.heap[b]? = some (.cells #[I x, I y] 40 (0, 0)) := by
  refine callsD_of_wpS Tryz.func29 rfl fun c₀ cs hu => ?_
  apply wpS_region
  simp [wpOpsS, go_sem, recoverD, hu]
  refine (caught_fault x y _).mono ?_
  rintro e w' ⟨rfl, hb⟩
  have hc1 := (hb.block b (Array.getElem?_eq_some_iff.1 hc).1).trans hc
  have c0 : w'.cell? ⟨b, 0, none⟩ = some (I z0) := by rw [cell_of_row _ _ _ _ _ _ hc1]; rfl
  have c1 : w'.cell? ⟨b, 1, none⟩ = some (I z1) := by rw [cell_of_row _ _ _ _ _ _ hc1]; rfl
  have f0 : w'.frozen? ⟨b, 0, none⟩ = false := frozen_of_row _ _ _ _ _ hc1
  have f1 : w'.frozen? ⟨b, 1, none⟩ = false := frozen_of_row _ _ _ _ _ hc1
  have hs1 : w'.setCell ⟨b, 0, none⟩ (I x) = w'.setRow b #[I x, I z1] := setCell_eq_setRow w' b 0 #[I z0, I z1] 40 (0, 0) (I x) hc1
  have hr1 := setRow_heap w' b _ #[I x, I z1] _ _ hc1
  have hs2 : (w'.setRow b #[I x, I z1]).setCell ⟨b, 1, none⟩ (I y) = (w'.setRow b #[I x, I z1]).setRow b #[I x, I y] := setCell_eq_setRow _ b 1 #[I x, I z1] 40 (0, 0) (I y) hr1
  have hr2 := setRow_heap _ b _ #[I x, I y] _ _ hr1
  rw [← hs2, ← hs1] at hr2
  have hbut : But b w ((w'.setCell ⟨b, 0, none⟩ (I x)).setCell ⟨b, 1, none⟩ (I y)) := ((But.of hb).trans (But.set b 0 w' _)).trans (But.set b 1 _ _)
  clear hs1 hs2 hr1
  simp [wpOpsS, go_sem, c0, f0, c1, f1, World.cell?_setCell_other, bodyPostS, results, Tryz.results29]
  exact ⟨hbut, hr2⟩
theorem dec_nil (w : World) : Calls Tryz.prog 14 #[.slice none 0 0] w fun e w' => e = .returned (.tuple #[.agg (zTab.cells zHd).toArray, .agg #[I 2, I 0]]) ∧ Below w.heap.size w w' := by
  have hmf : ∀ (fn : Fn) (first cap : Array Value) (w : World), (Instr.makeFunc fn first cap).run Tryz.prog w = .ok (.func fn first cap) w := fun _ _ _ _ => rfl
  have hz := (zero_of_info info31).1
  have ZS : (zTab.cells zHd).toArray.size = 131 := (cells_ok (z_is w)).size
  have ZI : (Tryz.prog.info? 31).map (·.size) = some (zTab.cells zHd).toArray.size := by rw [ZS]; kernel_rfl
  obtain ⟨Z, hZ⟩ : ∃ Z, (zTab.cells zHd).toArray = Z := ⟨_, rfl⟩
  rw [hZ] at hz ZI
  have EZ := Lib.hid hZ
  have hb1 := (Below.refl w.heap.size w).alloc (Nat.le_refl _) (.cells Z 31)
  have hb2 := hb1.alloc hb1.size (.cells #[I 0, I 0] 40)
  have hg1 := heap_alloc_new w (.cells Z 31)
  have hg2 := heap_alloc_new (w.alloc (.cells Z 31)) (.cells #[I 0, I 0] 40)
  have hs1 : (w.alloc (.cells Z 31)).heap.size = w.heap.size + 1 := by simp
  rw [hs1] at hg2
  have hg3 : ((w.alloc (.cells Z 31)).alloc (.cells #[I 0, I 0] 40)).heap[w.heap.size]? = some (.cells Z 31 (0, 0)) := by
    rw [Below.heap_alloc _ _ _ (by rw [hs1]; omega)]; exact hg1
  clear hZ ZS hb1 hg1 hs1
  go_enter_defers Tryz.func14, Tryz.ntmps14
  go_upto_region 2 with fail
  generalize World.alloc (World.alloc w _) _ = v at hb2 hg2 hg3 ⊢
  generalize hfb : w.heap.size + 1 = fb at hg2 ⊢
  generalize htb : w.heap.size = tb at hg3 ⊢
  have HB := Lib.hid hb2
  have HF := Lib.hid hg2
  have HT := Lib.hid hg3
  clear hb2 hg2 hg3
  go_wp2_with fail
  refine (Rd.new_any none 0 [] v (Go.Proofs.YtpgoafbkjmmedaaGreat.B.row_nil _ _ _ rfl) (by decide) (fun _ => rfl)).mono ?_
  rintro e v1 ⟨g, ad, cap, rfl, hg, _, hrd, hb⟩
  go_upto_region 5 with fail
  have hb3 := hb.alloc hb.size (.cells #[.pointer (some ⟨g, 0, none⟩)] 69)
  have hr3 := heap_alloc_new v1 (.cells #[.pointer (some ⟨g, 0, none⟩)] 69)
  have hrd3 := hrd.below ((Below.refl v1.heap.size v1).alloc (Nat.le_refl _) (.cells #[.pointer (some ⟨g, 0, none⟩)] 69))
  generalize World.alloc v1 _ = v2 at hb3 hr3 hrd3 ⊢
  generalize v1.heap.size = rb at hr3 ⊢
  have LR : Hid (Lies v2 ⟨rb, 0, none⟩ [.pointer (some ⟨g, 0, none⟩)]) := Lib.hid (by have := Row.lies_of_block hr3; simpa using this)
  have HH := Lib.hid (head_nil ad cap v v2 hrd3 hb3 hg)
  clear hb hb3 hr3 hrd hrd3 hg
  go_wp2_with (refine Row.wpList_load_g 69 _ rfl (by first | rfl | go_simp) ⟨rb, 0, none⟩ rfl [.pointer (some ⟨g, 0, none⟩)] _ LR.out Tryz.underlying69 rfl infoRd ?_)
  refine HH.out.mono ?_
  rintro e v3 ⟨rfl, hb3⟩
  have hF3 := (hb3.block fb (Array.getElem?_eq_some_iff.1 HF.out).1).trans HF.out
  have hT3 := (hb3.block tb (Array.getElem?_eq_some_iff.1 HT.out).1).trans HT.out
  go_wp2
  refine leaves_cons (f := 29) (args := #[.pointer (some ⟨fb, 0, none⟩)]) (by simp) (by simp [go_sem]) ?_
  refine (dclo_panic fb 0 0 2 0 v3 hF3).mono ?_
  rintro e u' w'' ⟨rfl, rfl, hbut, hF4⟩
  have hT4 := (hbut.block tb (Array.getElem?_eq_some_iff.1 hT3).1 (by omega)).trans hT3
  have hBB : Below w.heap.size w w'' := (HB.out.trans (hb3.mono HB.out.size)).trans (hbut.below (Nat.le_trans HB.out.size hb3.size) (by omega))
  exact ⟨_, results_two rfl _ w'' tb fb 31 40 Z #[I 2, I 0] _ _ rfl rfl hT4 hF4 Tryz.underlying31 rfl ZI Tryz.underlying40 rfl infoF, by rw [EZ.out], hBB⟩
end Rr
namespace Rr
open Go Go.RowKit Go.ChangeShapes
open Tab
open Po (infoF)
open Clone (zTab zHd info31 z_is)
theorem wpList_build0 {P : Program} {ops : Array Oper} {Q : Exit → Act → World → Prop} {rest : List Oper} {o : Oper} {a : Act} {w : World} (hgd : o.guard = none) (t : TypeId) (ho : o.op = .build t #[]) (cells : Array Value) (hb : P.built t [] = some cells)
    (h : wpList P ops Q rest (a.put o.dst (.agg cells)) w) : wpList P ops Q (o :: rest) a w :=
  wpList_plain hgd fun _ hK => by
    unfold Oper.wp execOp
    have hb' : P.built t ((#[] : Array (Nat × Operand)).map fun (i, x) => (i, a.eval x)).toList = some cells := by simpa using hb
    simp only [ho, Sem.run_bind, run_build w t _ _ hb', Result.andThen_ok, Sem.run_pure]
    exact hK _ _ h
theorem builtZ : Tryz.prog.built 31 [] = some (zTab.cells zHd).toArray := by kernel_rfl
theorem may_z : May.tabMay zTab = true := by decide +kernel
theorem awake_any (w : World) : Calls Tryz.prog 10 #[] w fun e w' => e = .returned (.bool true) ∧ Below w.heap.size w w' := by
  have hz := (zero_of_info info31).1
  have ZS : (zTab.cells zHd).toArray.size = 131 := (cells_ok (z_is w)).size
  have ZO := (cells_ok (z_is w)).one
  have ZI : (Tryz.prog.info? 31).map (·.size) = some (zTab.cells zHd).toArray.size := by rw [ZS]; kernel_rfl
  have DN : Hid (∀ W, Calls Tryz.prog 14 #[.slice none 0 0] W fun e w' => e = .returned (.tuple #[.agg (zTab.cells zHd).toArray, .agg #[I 2, I 0]]) ∧ Below W.heap.size W w') := Lib.hid (fun W => dec_nil W)
  have EN : Hid (∀ W, Calls Tryz.prog 11 #[.agg (zTab.cells zHd).toArray] W fun e w' => ∃ v, e = .returned (.tuple #[v, I 0]) ∧ B.Own W.heap.size w' v (Cd.sealB (Cd.bodyB zTab)) ∧ Below W.heap.size W w') := Lib.hid (fun W => Po.enc_good (z_is W) may_z)
  have BZ := Lib.hid builtZ
  have L8 : Hid (∀ x ∈ Cd.sealB (Cd.bodyB zTab), x < 256) := Lib.hid ((Cd.B8.body _).app (Cd.B8.low _ _))
  have LL : Hid (3 < (Cd.sealB (Cd.bodyB zTab)).length ∧ (Cd.sealB (Cd.bodyB zTab)).getD 0 0 = 88) := Lib.hid ⟨by unfold Cd.sealB; rw [List.length_append, Put.low_len]; show 3 < (3 + (Cd.itemsB zTab).length) + 2 ; omega, rfl⟩
  generalize (zTab.cells zHd).toArray = Z at hz ZS ZO ZI DN EN BZ
  generalize Cd.sealB (Cd.bodyB zTab) = L at EN L8 LL
  go_enter Tryz.func10, Tryz.ntmps10
  go_wp2_with fail
  refine (DN.out w).mono ?_
  rintro e v1 ⟨rfl, hb1⟩
  have HB1 := Lib.hid hb1
  have hs1 : (v1.alloc (.cells Z 31)).heap.size = v1.heap.size + 1 := by simp
  have kb0 : ((v1.alloc (.cells Z 31)).alloc (.cells #[I 0, I 0] 40)).heap[v1.heap.size]? = some (.cells Z 31 (0, 0)) := by
    rw [Below.heap_alloc _ _ _ (by rw [hs1]; omega)]; exact heap_alloc_new v1 _
  have kf0 : ((v1.alloc (.cells Z 31)).alloc (.cells #[I 0, I 0] 40)).heap[v1.heap.size + 1]? = some (.cells #[I 0, I 0] 40 (0, 0)) := by
    have := heap_alloc_new (v1.alloc (.cells Z 31)) (.cells #[I 0, I 0] 40)
    rwa [hs1] at this
  have kf1 : (((v1.alloc (.cells Z 31)).alloc (.cells #[I 0, I 0] 40)).setRow v1.heap.size Z).heap[v1.heap.size + 1]? = some (.cells #[I 0, I 0] 40 (0, 0)) := (setRow_other _ _ _ _ (by omega)).trans kf0
  have kf2 := setRow_heap _ (v1.heap.size + 1) _ #[I 2, I 0] _ _ kf1
  have hb2 : Below v1.heap.size v1 ((((v1.alloc (.cells Z 31)).alloc (.cells #[I 0, I 0] 40)).setRow v1.heap.size Z).setRow (v1.heap.size + 1) #[I 2, I 0]) :=
    below_setRow (below_setRow (((Below.refl _ _).alloc (Nat.le_refl _) _).alloc (by rw [hs1]; omega) _) (Nat.le_refl _) Z) (by omega) _
  have KB := Lib.hid kb0
  have KF := Lib.hid kf1
  have KF2 := Lib.hid kf2
  have HB2 := Lib.hid (hb1.trans (hb2.mono hb1.size))
  clear kb0 kf0 kf1 kf2 hb2 hs1 hb1
  go_upto_region 2 with (first | (refine wpList_store_row rfl 31 _ _ rfl v1.heap.size Z rfl rfl 31 _ KB.out ZI rfl ZO ?_) | (refine wpList_store_row rfl 40 _ _ rfl (v1.heap.size + 1) #[I 2, I 0] rfl rfl 40 _ KF.out infoF rfl (by simp [Value.oneCell']) ?_))
  generalize ((((v1.alloc (.cells Z 31)).alloc (.cells #[I 0, I 0] 40)).setRow v1.heap.size Z).setRow (v1.heap.size + 1) #[I 2, I 0]) = v2 at KF2 HB2 ⊢
  generalize v1.heap.size + 1 = fb at KF2 ⊢
  clear KB KF
  go_wp2_with (refine wpList_build0 rfl 31 rfl Z BZ.out ?_)
  refine (EN.out v2).mono ?_
  rintro e v3 ⟨bv, rfl, hown, hb3⟩
  obtain ⟨a, cap, rfl, hr⟩ := B.own_row hown L8.out
  obtain ⟨n, hn⟩ : ∃ n, n = L.length := ⟨_, rfl⟩
  have hn3 : 3 < n := by rw [hn]; exact LL.out.1
  obtain ⟨x, rfl, hc⟩ := hr.cells (k := 0) (by omega)
  have hc0 := hc 0 (by omega)
  rw [LL.out.2, Tab.add_zero] at hc0
  have hF3 := (hb3.block fb (Array.getElem?_eq_some_iff.1 KF2.out).1).trans KF2.out
  have k0 : v3.cell? ⟨fb, 0, none⟩ = some (I 2) := by rw [cell_of_row _ _ _ _ _ _ hF3]; rfl
  have k1 : v3.cell? ⟨fb, 1, none⟩ = some (I 0) := by rw [cell_of_row _ _ _ _ _ _ hF3]; rfl
  have HB3 := Lib.hid (HB2.out.trans (hb3.mono HB2.out.size))
  rw [← hn]
  clear hown hr hc hF3 hb3 hn
  go_wp2
  go_ret
  exact ⟨rfl, HB3.out⟩
end Rr
namespace Rb
open Go Go.RowKit Go.ChangeShapes
open Tab
open Put (low lim)
open Go.Proofs.YtpgoafbkjmmedaaGreat.B (Own own_row)
open Cd (puts)
def B8 (l : List Nat) : Prop := ∀ x ∈ l, x < 256
theorem B8.app {a b : List Nat} (h : B8 a) (k : B8 b) : B8 (a ++ b) := fun x hx => (List.mem_append.1 hx).elim (h x) (k x)
/-- A slice of bytes. -/
structure Bv (W : World) (v : Value) (l : List Nat) : Prop where
  b8 : B8 l
  row : ∃ a cap, v = .slice a l.length cap ∧ B.Row W a l ∧ (a = none → cap = 0)
theorem Bv.below {W W' : World} {v : Value} {l : List Nat} (h : Bv W v l) (hb : Below W.heap.size W W') : Bv W' v l :=
  ⟨h.b8, let ⟨a, cap, h1, h2, h3⟩ := h.row; ⟨a, cap, h1, h2.below hb, h3⟩⟩
theorem bv_own {B : Nat} {W : World} {v : Value} {l : List Nat} (h : Own B W v l) (h8 : B8 l) : Bv W v l := by
  obtain ⟨a, cap, rfl, hr⟩ := own_row h h8
  refine ⟨h8, a, cap, rfl, hr, ?_⟩
  rintro rfl
  rcases h.2 with ⟨h0, _⟩ | ⟨g, c, cur, h1, _⟩
  · exact (Value.slice.injEq .. ▸ h0).2.2
  · exact absurd h1 (by simp)
theorem rput {W : World} {v : Value} {l : List Nat} (h : Bv W v l) (hl : l.length ≤ 10000) (size n : Int) :
    Calls Tryz.prog 38 #[v, .int .i64 size, .int .i64 n] W fun e W' => ∃ v', e = .returned v' ∧ Bv W' v' (l ++ low (lim size 8) n) ∧ Below W.heap.size W W' := by
  obtain ⟨a, cap, rfl, hr, hn⟩ := h.row
  exact (Put.ref_put_any a cap l size n W hr hl hn).mono fun e W' ⟨v', h1, h2, h3⟩ => ⟨v', h1, bv_own h2 (h.b8.app (Put.low_lt _ _)), h3⟩
theorem rputf {W : World} {v : Value} {l : List Nat} (h : Bv W v l) (hl : l.length ≤ 10000) (x : Nat) :
    Calls Tryz.prog 51 #[v, .float .f64 x] W fun e W' => ∃ v', e = .returned v' ∧ Bv W' v' (l ++ low 8 x) ∧ Below W.heap.size W W' := by
  obtain ⟨a, cap, rfl, hr, hn⟩ := h.row
  exact (Put.ref_putf_any a cap l x W hr hl hn).mono fun e W' ⟨v', h1, h2, h3⟩ => ⟨v', h1, bv_own h2 (h.b8.app (Put.low_lt _ _)), h3⟩
theorem one_any (b : Bool) (W : World) : Calls Tryz.prog 49 #[.bool b] W fun e W' => e = .returned (.int .i64 (Cd.one b)) ∧ W = W' := by
  cases b
  · go_enter Tryz.func49, Tryz.ntmps49
    go_wp2
    go_ret
    exact ⟨rfl, rfl⟩
  · go_enter Tryz.func49, Tryz.ntmps49
    go_wp2
    go_ret
    exact ⟨rfl, rfl⟩
theorem rputs {W : World} {v : Value} {l : List Nat} (h : Bv W v l) {s : Sl} {xs : List Int} {n : Nat} (hn : xs.length = n) (hx : IntRow W s xs) (hl : l.length + 8 * n ≤ 10000) (size : Int) :
    Calls Tryz.prog 50 #[v, .int .i64 size, .slice s.a n s.cap] W fun e W' => ∃ v', e = .returned v' ∧ Bv W' v' (l ++ puts (lim size 8) xs) ∧ Below W.heap.size W W' := by
  have H := Lib.hid h
  have HX := Lib.hid hx
  have HN := Lib.hid hn
  obtain ⟨h1, h2⟩ := hx.len
  have h3 : n ≤ 2000 := by omega
  obtain ⟨sa, cap⟩ := s
  clear h hx hn h1
  go_enter Tryz.func50, Tryz.ntmps50
  go_wp2_with fail
  go_loopw [0, 7] (fun b i wr => ∃ q : Nat, q ≤ n ∧ i = .int .i64 (q : Int) ∧ Bv wr b (l ++ puts (lim size 8) (xs.take q)) ∧ Below W.heap.size W wr) (fun _ i _ => n - (intOf i).toNat)
  case atStart => exact ⟨0, by omega, rfl, by simpa [puts] using H.out, Below.refl _ _⟩
  case round =>
    obtain ⟨q, hq, rfl, hb, hw⟩ := hrel
    have HB := Lib.hid hb
    have HW := Lib.hid hw
    clear hb hw
    by_cases hlt : q < n
    · have hq2 : q < xs.length := by rw [HN.out]; exact hlt
      obtain ⟨x, hxq⟩ : ∃ x, xs[q]? = some x := ⟨_, List.getElem?_eq_getElem hq2⟩
      obtain ⟨ad, had, hc⟩ := IntRow.at HX.out hxq
      dsimp only at had
      subst had
      have hc2 := (HW.out.cell (World.block_lt_of_cell? W _ hc)).trans hc
      have HS : Hid (puts (lim size 8) (xs.take (q + 1)) = puts (lim size 8) (xs.take q) ++ low (lim size 8) x) := Lib.hid (by rw [List.take_add_one, hxq, Cd.puts_append]; simp [puts])
      have hcall := Lib.hid (rput HB.out (by rw [List.length_append, Cd.puts_len, List.length_take, HN.out]; have := Put.lim_le size 8; have : min q n * lim size 8 ≤ n * 8 := Nat.mul_le_mul (by omega) this; omega) size x)
      clear hc hxq hq2
      go_wp2_with fail
      refine hcall.out.mono ?_
      rintro e w' ⟨v', rfl, hb2, hb3⟩
      have HB2 := Lib.hid hb2
      have HW2 := Lib.hid (HW.out.trans (hb3.mono HW.out.size))
      clear hb2 hb3 hcall
      go_wp2
      go_roundw
      case rel => exact ⟨q + 1, by omega, by go_num, by rw [HS.out, ← List.append_assoc]; exact HB2.out, HW2.out⟩
      case measure => simp [intOf]; omega
    · obtain rfl : n = q := by omega
      go_wp2
      go_ret
      exact ⟨_, rfl, by have := HB.out; rwa [List.take_of_length_le (by rw [HN.out]; omega)] at this, HW.out⟩
end Rb
end Go.Proofs.YtpgoafbkjmmedaaGreat
