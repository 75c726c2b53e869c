/- 7 texts in one file, in build order. -/
import Derived.OpenShut
import Derived.ChangeArms
import Derived.DeepKeys
import Derived.Test.YtambpohphbdhcaaRows
import Derived.Test.YtambpohphbdhcaaPart02
import Derived.Test.YtambpohphbdhcaaPart01
import Derived.LoopTactic
import Derived.Deep.QuietTactic
import Derived.Below
import Derived.StillTail
import Derived.StillTailTactics
import Derived.Deep.Cut
import Derived.Laws.Rows
set_option linter.unusedVariables false
set_option linter.unusedSimpArgs false
set_option linter.unusedSectionVars false
set_option maxHeartbeats 8000000
set_option maxRecDepth 100000
namespace Go.Proofs.Ytambpohphbdhcaa
namespace Flat
open Go Go.ChangeShapes Go.WideShapes
section
variable {α β : Type}
def All2 (R : α → β → Prop) : List α → List β → Prop
  | [], [] => True
  | a :: l, b :: m => R a b ∧ All2 R l m
  | _, _ => False
variable {R : α → β → Prop}
theorem All2.length : ∀ {a : List α} {b : List β}, All2 R a b → a.length = b.length
  | [], [], _ => rfl
  | _ :: _, _ :: _, ⟨_, h⟩ => by simp [All2.length h]
  | [], _ :: _, h => h.elim
  | _ :: _, [], h => h.elim
theorem All2.append : ∀ {a : List α} {b : List β} {c : List α} {d : List β}, All2 R a b → All2 R c d → All2 R (a ++ c) (b ++ d)
  | [], [], _, _, _, h => h
  | _ :: _, _ :: _, _, _, ⟨h, k⟩, h2 => ⟨h, All2.append k h2⟩
  | [], _ :: _, _, _, h, _ => h.elim
  | _ :: _, [], _, _, h, _ => h.elim
theorem All2.split : ∀ {a c : List α} {b : List β}, All2 R (a ++ c) b → All2 R a (b.take a.length) ∧ All2 R c (b.drop a.length)
  | [], _, _, h => ⟨trivial, h⟩
  | _ :: _, _, _ :: _, ⟨h, k⟩ => ⟨⟨h, (All2.split k).1⟩, (All2.split k).2⟩
  | _ :: _, _, [], h => h.elim
theorem All2.at : ∀ {a : List α} {b : List β}, All2 R a b → ∀ {i : Nat} {x : α} {y : β}, a[i]? = some x → b[i]? = some y → R x y
  | _ :: _, _ :: _, ⟨h, _⟩, 0, _, _, h1, h2 => by simp at h1 h2; subst h1 h2; exact h
  | _ :: _, _ :: _, ⟨_, k⟩, i + 1, _, _, h1, h2 => All2.at k (i := i) (by simpa using h1) (by simpa using h2)
  | [], _, _, _, _, _, h1, _ => by simp at h1
  | _ :: _, [], h, _, _, _, _, _ => h.elim
theorem All2.mono {S : α → β → Prop} (hm : ∀ x y, R x y → S x y) : ∀ {a : List α} {b : List β}, All2 R a b → All2 S a b
  | [], [], _ => trivial
  | _ :: _, _ :: _, ⟨h, k⟩ => ⟨hm _ _ h, All2.mono hm k⟩
  | [], _ :: _, h => h.elim
  | _ :: _, [], h => h.elim
end
def rowT (P : Program) (t : TypeId) : Bool := match P.underlying t with | some (.struct _) | some (.array _ _) => true | _ => false
def flatF (P : Program) (g : TypeId → Option (List TypeId)) : Nat → List Field → Option (List TypeId)
  | _, [] => some []
  | o, f :: fs => if f.name ≠ "_" ∧ f.offset = o then
      match g f.type with
      | some r => if r.length = P.cellsOf f.type then (flatF P g (o + r.length) fs).map (r ++ ·) else none
      | none => none
    else none
/-- The one-cell types that lie in a type, in order; none where its parts do not lie side by side. -/
def flat (P : Program) : Nat → TypeId → Option (List TypeId)
  | 0, _ => none
  | d + 1, t => match P.underlying t with
    | some (.struct fs) => if P.stoodInHeld t = true then none else match flatF P (flat P d) 0 fs.toList with
      | some l => if l.length = P.cellsOf t then some l else none
      | none => none
    | some (.array n e) => match flat P d e with
      | some r => if r.length = P.cellsOf e ∧ n * P.cellsOf e = P.cellsOf t then some (List.replicate n r).flatten else none
      | none => none
    | some _ => if P.cellsOf t = 1 then some [t] else none
    | none => none
theorem flatF_cons {P : Program} {g : TypeId → Option (List TypeId)} {o : Nat} {f : Field} {fs : List Field} {l : List TypeId} (h : flatF P g o (f :: fs) = some l) :
    f.name ≠ "_" ∧ f.offset = o ∧ ∃ r l', g f.type = some r ∧ r.length = P.cellsOf f.type ∧ flatF P g (o + r.length) fs = some l' ∧ l = r ++ l' := by
  unfold flatF at h
  split at h
  · rename_i h1
    split at h
    · rename_i r hr
      split at h
      · rename_i hl
        simp only [Option.map_eq_some_iff] at h
        obtain ⟨l', h2, rfl⟩ := h
        exact ⟨h1.1, h1.2, r, l', hr, hl, h2, rfl⟩
      · cases h
    · cases h
  · cases h
theorem take_two {α : Type} (l : List α) (o a b : Nat) : (l.drop o).take (a + b) = (l.drop o).take a ++ (l.drop (o + a)).take b := by
  rw [List.take_add, List.drop_drop]
section
variable {P : Program} {R : TypeId → Value → Prop} {G : TypeId → List Value → Prop} {g : TypeId → Option (List TypeId)}
end
section
variable {H : Type} {enc : TypeId × Value → H} {P : Program} {w : World} {base : Nat} {spare : Nat → Bool} {held : Bool}
end
/-! ### comparing -/
section
variable {P : Program}
def vOf (P : Program) (t : TypeId) (cs : List Value) : Value := if rowT P t then .agg cs.toArray else cs.headD undef
/-- Two cells of a type of one cell: '==' is equality. -/
def LeafEq (P : Program) (t : TypeId) (p : Value × Value) : Prop := ∃ b : Bool, (∀ D w, (Op.equalIn (D + 1) t p.1 p.2).run P w = .ok b w) ∧ (b = true ↔ p.1 = p.2)
theorem leaf_int {t : TypeId} {k : IntKind} (h : P.underlying t = some (.int k)) (a b : Int) : LeafEq P t (.int k a, .int k b) := ⟨a == b, fun D w => run_equalIn_int w D t k k a b h, by simp⟩
theorem leaf_bool {t : TypeId} (h : P.underlying t = some .bool) (a b : Bool) : LeafEq P t (.bool a, .bool b) := ⟨a == b, fun D w => run_equalIn_bool w D t a b h, by simp⟩
theorem run_part (w : World) {t : TypeId} {d : TypeDesc} (hu : P.underlying t = some d) (hc : rowT P t = false → P.cellsOf t = 1) (cs : List Value) (off : Nat) (hl : off + P.cellsOf t ≤ cs.length) :
    (part t cs.toArray off).run P w = .ok (vOf P t ((cs.drop off).take (P.cellsOf t))) w := by
  obtain ⟨i, hi⟩ := info_of_underlying hu
  have hagg : (isAgg t).run P w = .ok (rowT P t) w := by
    unfold isAgg rowT
    rw [Sem.run_bind, run_underlying hu w]
    rw [hu]
    cases d <;> simp
  unfold part vOf
  rw [Sem.run_bind, hagg, Result.andThen_ok]
  cases hr : rowT P t with
  | true =>
    simp only [if_true, Sem.run_bind, run_sizeOf w hi, Result.andThen_ok, Sem.run_pure]
    congr 2
    simp [List.extract]
  | false =>
    have h1 := hc hr
    have h2 : off < cs.length := by omega
    simp only [Bool.false_eq_true, if_false, List.getElem?_toArray, List.getElem?_eq_getElem h2, Sem.run_pure, h1]
    have h3 : (cs.drop off).take 1 = [cs[off]] := by rw [List.drop_eq_getElem_cons h2]; rfl
    rw [h3]
    simp
theorem cells_one {d : Nat} {t : TypeId} {ts : List TypeId} (h : flat P d t = some ts) : (∃ dd, P.underlying t = some dd) ∧ (rowT P t = false → P.cellsOf t = 1) := by
  cases d with
  | zero => simp [flat] at h
  | succ d =>
    unfold flat at h
    unfold rowT
    split at h
    · rename_i hu; exact ⟨⟨_, hu⟩, by rw [hu]; simp⟩
    · rename_i hu; exact ⟨⟨_, hu⟩, by rw [hu]; simp⟩
    · rename_i hu
      split at h
      · rename_i h1; exact ⟨⟨_, hu⟩, fun _ => h1⟩
      · cases h
    · cases h
def EqG (P : Program) (D : Nat) (g : TypeId → Option (List TypeId)) : Prop := ∀ (t : TypeId) (ts : List TypeId) (zs : List (Value × Value)), g t = some ts → All2 (LeafEq P) ts zs →
  ∃ b : Bool, (∀ w, (Op.equalIn D t (vOf P t (zs.map (·.1))) (vOf P t (zs.map (·.2)))).run P w = .ok b w) ∧ (b = true ↔ zs.map (·.1) = zs.map (·.2))
theorem map_part {γ : Type} (f : Value × Value → γ) (zs : List (Value × Value)) (o n : Nat) : ((zs.map f).drop o).take n = ((zs.drop o).take n).map f := by
  rw [← List.map_drop, ← List.map_take]
theorem fields_eq {D d : Nat} (hg : EqG P D (flat P d)) (zs : List (Value × Value)) : ∀ (fs : List Field) (o : Nat) (l : List TypeId), flatF P (flat P d) o fs = some l → o + l.length ≤ zs.length →
    All2 (LeafEq P) l ((zs.drop o).take l.length) →
    ∃ b : Bool, (∀ w, (Op.eqFields D (zs.map (·.1)).toArray (zs.map (·.2)).toArray fs).run P w = .ok b w) ∧ (b = true ↔ ((zs.drop o).take l.length).map (·.1) = ((zs.drop o).take l.length).map (·.2))
  | [], _, l, h, _, _ => by
    simp only [flatF, Option.some.injEq] at h
    subst h
    exact ⟨true, fun w => by simp [Op.eqFields], by simp⟩
  | f :: fs, o, l, h, hlen, hall => by
    obtain ⟨hn, ho, r, l', h1, h2, h3, rfl⟩ := flatF_cons h
    obtain ⟨⟨dd, hu⟩, hone⟩ := cells_one h1
    rw [List.length_append] at hlen hall ⊢
    rw [take_two] at hall ⊢
    have hs := hall.split
    have hlr : ((zs.drop o).take r.length).length = r.length := by simp; omega
    rw [List.take_left' hlr, List.drop_left' hlr] at hs
    obtain ⟨b, hb, hiff⟩ := hg f.type r _ h1 hs.1
    obtain ⟨b', hb', hiff'⟩ := fields_eq hg zs fs (o + r.length) l' h3 (by omega) hs.2
    have p1 := fun w => run_part (P := P) w hu hone (zs.map (·.1)) f.offset (by simp; omega)
    have p2 := fun w => run_part (P := P) w hu hone (zs.map (·.2)) f.offset (by simp; omega)
    rw [ho, ← h2] at p1 p2
    simp only [map_part] at p1 p2
    refine ⟨b && b', fun w => ?_, ?_⟩
    · simp only [Op.eqFields, hn, ne_eq, not_false_eq_true, if_true, Sem.run_bind, ho, p1, p2, hb, Result.andThen_ok]
      cases b
      · simp
      · simpa using hb' w
    · rw [Bool.and_eq_true, hiff, hiff', List.map_append, List.map_append]
      constructor
      · rintro ⟨e1, e2⟩; rw [e1, e2]
      · intro e; exact List.append_inj e (by simp)
theorem items_eq {D d : Nat} (hg : EqG P D (flat P d)) {e : TypeId} {r : List TypeId} (hr : flat P d e = some r) (hc : r.length = P.cellsOf e) (zs : List (Value × Value)) : ∀ (n k : Nat), (k + n) * P.cellsOf e ≤ zs.length →
    All2 (LeafEq P) (List.replicate n r).flatten ((zs.drop (k * P.cellsOf e)).take (n * P.cellsOf e)) →
    ∃ b : Bool, (∀ w, (Op.eqItems D e (P.cellsOf e) (zs.map (·.1)).toArray (zs.map (·.2)).toArray (List.range' k n)).run P w = .ok b w) ∧
      (b = true ↔ ((zs.drop (k * P.cellsOf e)).take (n * P.cellsOf e)).map (·.1) = ((zs.drop (k * P.cellsOf e)).take (n * P.cellsOf e)).map (·.2))
  | 0, k, _, _ => ⟨true, fun w => by simp [Op.eqItems], by simp⟩
  | n + 1, k, hlen, hall => by
    obtain ⟨⟨dd, hu⟩, hone⟩ := cells_one hr
    have hlen' : k * P.cellsOf e + P.cellsOf e + n * P.cellsOf e ≤ zs.length := by
      have : (k + (n + 1)) * P.cellsOf e = k * P.cellsOf e + P.cellsOf e + n * P.cellsOf e := by
        rw [Nat.add_mul, Nat.add_mul, Nat.one_mul]; omega
      omega
    rw [List.replicate_succ, List.flatten_cons] at hall
    rw [Nat.add_mul, Nat.one_mul, Nat.add_comm (n * _), take_two] at hall ⊢
    have hs := hall.split
    have hlr : ((zs.drop (k * P.cellsOf e)).take (P.cellsOf e)).length = r.length := by rw [hc]; simp; omega
    rw [List.take_left' hlr, List.drop_left' hlr] at hs
    obtain ⟨b, hb, hiff⟩ := hg e r _ hr hs.1
    have hk : k * P.cellsOf e + P.cellsOf e = (k + 1) * P.cellsOf e := by rw [Nat.add_mul, Nat.one_mul]
    rw [hk] at hs ⊢
    obtain ⟨b', hb', hiff'⟩ := items_eq hg hr hc zs n (k + 1) (by rw [Nat.add_mul, Nat.add_mul] at *; omega) hs.2
    have p1 := fun w => run_part (P := P) w hu hone (zs.map (·.1)) (k * P.cellsOf e) (by simp; omega)
    have p2 := fun w => run_part (P := P) w hu hone (zs.map (·.2)) (k * P.cellsOf e) (by simp; omega)
    simp only [map_part] at p1 p2
    refine ⟨b && b', fun w => ?_, ?_⟩
    · simp only [List.range'_succ, Op.eqItems, Sem.run_bind, p1, p2, hb, Result.andThen_ok]
      cases b
      · simp
      · simpa using hb' w
    · rw [Bool.and_eq_true, hiff, hiff', List.map_append, List.map_append]
      constructor
      · rintro ⟨e1, e2⟩; rw [e1, e2]
      · intro e; exact List.append_inj e (by simp)
theorem eq_flat : ∀ (d D : Nat), d ≤ D → EqG P D (flat P d)
  | 0, _, _ => fun t ts zs h _ => by simp [flat] at h
  | d + 1, 0, h => absurd h (by omega)
  | d + 1, D + 1, hD => fun t ts zs h hall => by
    have IH := eq_flat d D (by omega)
    unfold flat at h
    split at h
    · rename_i fs hu
      split at h
      · cases h
      · rename_i hst
        split at h
        · rename_i l hl
          split at h
          · rename_i hlen
            simp only [Option.some.injEq] at h; subst h
            have hz := hall.length
            obtain ⟨b, hb, hiff⟩ := fields_eq IH zs fs.toList 0 l hl (by omega) (by rw [List.drop_zero, hz, List.take_length]; exact hall)
            rw [List.drop_zero, hz, List.take_length] at hiff
            have hfs : P.fieldsOf t = fs := by simp [Program.fieldsOf, hu]
            refine ⟨b, fun w => ?_, hiff⟩
            have hr : rowT P t = true := by unfold rowT; rw [hu]
            unfold vOf
            rw [if_pos hr, if_pos hr, run_equalIn_struct w D t _ _ (by rw [hfs]; exact hu) (by simpa using hst), hfs]
            exact hb w
          · cases h
        · cases h
    · rename_i n e hu
      split at h
      · rename_i r hr
        split at h
        · rename_i hlen
          simp only [Option.some.injEq] at h; subst h
          have hz := hall.length
          have hz2 : n * P.cellsOf e = zs.length := by rw [← hz]; simp [hlen.1]
          obtain ⟨b, hb, hiff⟩ := items_eq IH hr hlen.1 zs n 0 (by rw [Nat.zero_add]; omega) (by rw [Nat.zero_mul, List.drop_zero, hz2, List.take_length]; exact hall)
          rw [Nat.zero_mul, List.drop_zero, hz2, List.take_length] at hiff
          obtain ⟨⟨dd, hue⟩, _⟩ := cells_one hr
          obtain ⟨i, hi⟩ := info_of_underlying hue
          refine ⟨b, fun w => ?_, hiff⟩
          have hrow : rowT P t = true := by unfold rowT; rw [hu]
          unfold vOf
          rw [if_pos hrow, if_pos hrow, run_equalIn_array w D _ _ hu hi, List.range_eq_range']
          exact hb w
        · cases h
      · cases h
    · rename_i dd hns hna hu
      split at h
      · simp only [Option.some.injEq] at h; subst h
        have hr : rowT P t = false := by unfold rowT; rw [hu]; cases dd <;> simp_all
        match zs, hall with
        | [p], ⟨⟨b, hb, hiff⟩, _⟩ =>
          refine ⟨b, fun w => ?_, by simpa using hiff⟩
          unfold vOf
          rw [hr]
          simpa using hb D w
      · cases h
    · cases h
/-- What a walk asks. -/
theorem eql_flat {d : Nat} {t : TypeId} {ts : List TypeId} (h : flat P d t = some ts) (hd : d ≤ 10000) (hr : rowT P t = true) (zs : List (Value × Value)) (hall : All2 (LeafEq P) ts zs) :
    ∃ b : Bool, (∀ w, (Op.equalIn 10000 t (.agg (zs.map (·.1)).toArray) (.agg (zs.map (·.2)).toArray)).run P w = .ok b w) ∧ (b = true ↔ zs.map (·.1) = zs.map (·.2)) := by
  obtain ⟨b, hb, hiff⟩ := eq_flat d 10000 hd t ts zs h hall
  refine ⟨b, fun w => ?_, hiff⟩
  have := hb w
  unfold vOf at this
  rwa [if_pos hr, if_pos hr] at this
end
end Flat
namespace Same
open Go.ChangeShapes Go.WideShapes Go.ChangeAt Go.RowKit
open Tab
open May (ret_bool chain take_succ' infoP infoG infoD infoR infoB row_new)
theorem eq_step {α : Type} {l m : List α} {k : Nat} {v u : α} (h : l[k]? = some v) (h' : m[k]? = some u) (e : l.take k = m.take k) (hv : v = u) : l.take (k + 1) = m.take (k + 1) := by
  rw [take_succ' l k v h, take_succ' m k u h', e, hv]
theorem eq_break {α : Type} {l m : List α} {k : Nat} {v u : α} (h : l[k]? = some v) (h' : m[k]? = some u) (hv : ¬ v = u) : ¬ l = m := by
  rintro rfl; rw [h] at h'; exact hv (Option.some.inj h')
theorem eq_end {α : Type} {l m : List α} {k : Nat} (e : l.take k = m.take k) (hl : l.length = m.length) (hk : ¬ k < l.length) : l = m := by
  rwa [List.take_of_length_le (by omega), List.take_of_length_le (by omega)] at e
theorem value_any (a b : Int) (w : World) : Calls Try.prog 46 #[.int .i64 a, .int .i64 b] w fun e w' => e = .returned (.bool (decide (a = b))) ∧ w = w' := by
  go_enter Try.func46, Try.ntmps46
  go_wp2
  go_ret
  exact ⟨ret_bool (by by_cases h : a = b <;> simp [h]), rfl⟩
theorem ints_any (a b : Option Addr) (ca cb : Nat) (l m : List Int) (w : World) (h : IntRow w ⟨a, ca⟩ l) (h' : IntRow w ⟨b, cb⟩ m) :
    Calls Try.prog 45 #[.slice a l.length ca, .slice b m.length cb, .func (.func 46) #[] #[]] w fun e w' => e = .returned (.bool (decide (l = m))) ∧ w = w' := by
  have h1 := h.len
  have h2 := h'.len
  unfold maxLen at h1 h2
  have Hr := Lib.hid h
  have Hr' := Lib.hid h'
  clear h h'
  by_cases hlen : l.length = m.length
  · have HL := Lib.hid hlen
    have hd : ((l.length : Int) != (m.length : Int)) = false := by rw [bne_eq_false_iff_eq]; omega
    go_enter Try.func45, Try.ntmps45
    go_wp2
    go_loop [16] (fun i => ∃ k : Nat, k ≤ l.length ∧ i = .int .i64 k ∧ l.take k = m.take k) (fun i => l.length - (intOf i).toNat)
    case atStart => exact ⟨0, by omega, rfl, rfl⟩
    case round =>
      obtain ⟨k, hk, rfl, hall⟩ := hrel
      have Hall := Lib.hid hall
      clear hall
      by_cases hlt : k < l.length
      · have hv := List.getElem?_eq_getElem hlt
        have hu := List.getElem?_eq_getElem (show k < m.length by omega)
        generalize l[k] = v at hv
        generalize m[k]'(show k < m.length by omega) = u at hu
        obtain ⟨x, hx, hc⟩ := Hr.out.at hv
        obtain rfl : a = some x := hx
        obtain ⟨y, hy, hc'⟩ := Hr'.out.at hu
        obtain rfl : b = some y := hy
        have HV := Lib.hid hv
        have HU := Lib.hid hu
        clear hv hu
        go_wp2_with fail
        refine (value_any v u _).mono ?_
        rintro e w2 ⟨rfl, rfl⟩
        by_cases hvu : v = u
        · have HE := Lib.hid hvu
          rw [decide_eq_true hvu]
          clear hvu
          go_wp2
          go_round
          case rel => exact ⟨k + 1, by omega, by go_num, eq_step HV.out HU.out Hall.out HE.out⟩
          case measure => simp [intOf]; omega
        · have HE := Lib.hid (show ¬ l = m from eq_break HV.out HU.out hvu)
          rw [decide_eq_false hvu]
          clear hvu
          go_wp2
          go_ret
          exact ⟨ret_bool (decide_eq_false HE.out).symm, rfl⟩
      · have HE := Lib.hid (show l = m from eq_end Hall.out HL.out hlt)
        go_wp2
        go_ret
        exact ⟨ret_bool (decide_eq_true HE.out).symm, rfl⟩
  · have HL := Lib.hid (show ¬ l = m from fun e => hlen (by rw [e]))
    have hd : ((l.length : Int) != (m.length : Int)) = true := by rw [bne_iff_ne]; omega
    go_enter Try.func45, Try.ntmps45
    go_wp2
    go_ret
    exact ⟨ret_bool (decide_eq_false HL.out).symm, rfl⟩
end Same
namespace Same
open Go.ChangeShapes Go.WideShapes
open Tab Flat
def Eqs (t : TypeId) (xs ys : List Value) (b : Bool) : Prop := ∀ w : World, (Op.equalIn 10000 t (.agg xs.toArray) (.agg ys.toArray)).run Try.prog w = .ok b w
theorem eqs_of {d : Nat} {t : TypeId} {ts : List TypeId} (h : flat Try.prog d t = some ts) (hd : d ≤ 10000) (hr : rowT Try.prog t = true) (zs : List (Value × Value)) (hall : All2 (LeafEq Try.prog) ts zs) {xs ys : List Value} (hx : zs.map (·.1) = xs) (hy : zs.map (·.2) = ys) {p : Prop} [Decidable p]
    (hp : xs = ys ↔ p) : Eqs t xs ys (decide p) := by
  subst hx hy
  obtain ⟨b, hb, hiff⟩ := eql_flat h hd hr zs hall
  rw [hp] at hiff
  have e : b = decide p := by
    by_cases hq : p
    · rw [decide_eq_true hq]; exact hiff.2 hq
    · rw [decide_eq_false hq]; cases b
      · rfl
      · exact absurd (hiff.1 rfl) hq
  intro w
  rw [hb w, e]
theorem lint (a b : Int) : LeafEq Try.prog 3 (I a, I b) := leaf_int Try.underlying3 a b
theorem lu64 (a b : Int) : LeafEq Try.prog 72 (.int .u64 a, .int .u64 b) := leaf_int Try.underlying72 a b
theorem lbool (a b : Bool) : LeafEq Try.prog 4 (.bool a, .bool b) := leaf_bool Try.underlying4 a b
theorem flatR : flat Try.prog 3 41 = some [3, 3, 3, 3, 3, 3, 3, 3, 3, 3, 3] := by kernel_rfl
theorem flatB : flat Try.prog 3 43 = some [3, 3] := by kernel_rfl
abbrev phTs : List TypeId := [4, 3, 3, 3, 3, 3, 3, 3, 3, 3, 3, 4, 4]
theorem flatP : flat Try.prog 4 25 = some (List.replicate 8 phTs).flatten := by kernel_rfl
theorem flat8 : flat Try.prog 3 27 = some (List.replicate 8 [3]).flatten := by kernel_rfl
theorem flat7 : flat Try.prog 3 69 = some [3, 3, 3, 3, 3, 3, 3] := by kernel_rfl
theorem flat4 : flat Try.prog 3 90 = some [72, 72, 72, 72] := by kernel_rfl
theorem rail_eqs (r s : Rl) : Eqs 41 r.cells s.cells (decide (r = s)) := by
  obtain ⟨a0, a1, a2, a3, a4, a5, a6, a7, a8, a9, a10⟩ := r
  obtain ⟨b0, b1, b2, b3, b4, b5, b6, b7, b8, b9, b10⟩ := s
  refine eqs_of flatR (by decide) (by kernel_rfl) [(I a0, I b0), (I a1, I b1), (I a2, I b2), (I a3, I b3), (I a4, I b4), (I a5, I b5), (I a6, I b6), (I a7, I b7), (I a8, I b8), (I a9, I b9), (I a10, I b10)]
    ⟨lint _ _, lint _ _, lint _ _, lint _ _, lint _ _, lint _ _, lint _ _, lint _ _, lint _ _, lint _ _, lint _ _, trivial⟩ rfl rfl ?_
  simp [Rl.cells]
theorem bus_eqs (r s : Bs) : Eqs 43 r.cells s.cells (decide (r = s)) := by
  obtain ⟨a0, a1⟩ := r
  obtain ⟨b0, b1⟩ := s
  refine eqs_of flatB (by decide) (by kernel_rfl) [(I a0, I b0), (I a1, I b1)] ⟨lint _ _, lint _ _, trivial⟩ rfl rfl ?_
  simp [Bs.cells]
theorem ph_leaves (p q : Ph) : ∃ zs, All2 (LeafEq Try.prog) phTs zs ∧ zs.map (·.1) = p.cells ∧ zs.map (·.2) = q.cells := by
  obtain ⟨a0, a1, a2, a3, a4, a5, a6, a7, a8, a9, a10, a11, a12⟩ := p
  obtain ⟨b0, b1, b2, b3, b4, b5, b6, b7, b8, b9, b10, b11, b12⟩ := q
  exact ⟨[(.bool a0, .bool b0), (I a1, I b1), (I a2, I b2), (I a3, I b3), (I a4, I b4), (I a5, I b5), (I a6, I b6), (I a7, I b7), (I a8, I b8), (I a9, I b9), (I a10, I b10), (.bool a11, .bool b11), (.bool a12, .bool b12)],
    ⟨lbool _ _, lint _ _, lint _ _, lint _ _, lint _ _, lint _ _, lint _ _, lint _ _, lint _ _, lint _ _, lint _ _, lbool _ _, lbool _ _, trivial⟩, rfl, rfl⟩
theorem many {α : Type} {ts : List TypeId} {enc : α → List Value} (h1 : ∀ p q : α, ∃ zs, All2 (LeafEq Try.prog) ts zs ∧ zs.map (·.1) = enc p ∧ zs.map (·.2) = enc q) : ∀ (n : Nat) (l m : List α), l.length = n → m.length = n →
    ∃ zs, All2 (LeafEq Try.prog) (List.replicate n ts).flatten zs ∧ zs.map (·.1) = l.flatMap enc ∧ zs.map (·.2) = m.flatMap enc
  | 0, [], [], _, _ => ⟨[], trivial, rfl, rfl⟩
  | n + 1, p :: l, q :: m, hl, hm => by
    obtain ⟨z1, h2, h3, h4⟩ := h1 p q
    obtain ⟨z2, h5, h6, h7⟩ := many h1 n l m (by simpa using hl) (by simpa using hm)
    refine ⟨z1 ++ z2, ?_, by simp [h3, h6], by simp [h4, h7]⟩
    rw [List.replicate_succ, List.flatten_cons]
    exact h2.append h5
  | 0, _ :: _, _, hl, _ => by simp at hl
  | 0, [], _ :: _, _, hm => by simp at hm
  | n + 1, [], _, hl, _ => by simp at hl
  | n + 1, _ :: _, [], _, hm => by simp at hm
theorem phases_eqs (l m : List Ph) (hl : l.length = 8) (hm : m.length = 8) : Eqs 25 (l.flatMap Ph.cells) (m.flatMap Ph.cells) (decide (l = m)) := by
  obtain ⟨zs, h1, h2, h3⟩ := many ph_leaves 8 l m hl hm
  exact eqs_of flatP (by decide) (by kernel_rfl) zs h1 h2 h3 ⟨phases_inj, fun e => by rw [e]⟩
theorem flat_one (l : List Int) : l.flatMap (fun n => [I n]) = l.map I := by
  induction l with
  | nil => rfl
  | cons a l ih => rw [List.flatMap_cons, ih]; rfl
theorem eight_eqs (l m : List Int) (hl : l.length = 8) (hm : m.length = 8) : Eqs 27 (l.map I) (m.map I) (decide (l = m)) := by
  obtain ⟨zs, h1, h2, h3⟩ := many (ts := [3]) (enc := fun n => [I n]) (fun p q => ⟨[(I p, I q)], ⟨lint _ _, trivial⟩, rfl, rfl⟩) 8 l m hl hm
  rw [flat_one] at h2 h3
  exact eqs_of flat8 (by decide) (by kernel_rfl) zs h1 h2 h3 ⟨ints_inj, fun e => by rw [e]⟩
def single (T : Tab) : List Int := [T.extend, T.budget, T.start, T.revert, T.least, T.window, T.share]
theorem seven_eqs (T U : Tab) : Eqs 69 ((single T).map I) ((single U).map I) (decide (single T = single U)) := by
  refine eqs_of flat7 (by decide) (by kernel_rfl) [(I T.extend, I U.extend), (I T.budget, I U.budget), (I T.start, I U.start), (I T.revert, I U.revert), (I T.least, I U.least), (I T.window, I U.window), (I T.share, I U.share)]
    ⟨lint _ _, lint _ _, lint _ _, lint _ _, lint _ _, lint _ _, lint _ _, trivial⟩ (xs := (single T).map I) (ys := (single U).map I) rfl rfl ⟨ints_inj, fun e => by rw [e]⟩
abbrev U64 (n : Nat) : Value := .int .u64 n
def bitsOf (d : Det) : List Value := [U64 d.on, U64 d.off, U64 d.delay, U64 d.extend]
theorem bits_eqs (d e : Det) : Eqs 90 (bitsOf d) (bitsOf e) (decide (d.on = e.on ∧ d.off = e.off ∧ d.delay = e.delay ∧ d.extend = e.extend)) := by
  refine eqs_of flat4 (by decide) (by kernel_rfl) [(U64 d.on, U64 e.on), (U64 d.off, U64 e.off), (U64 d.delay, U64 e.delay), (U64 d.extend, U64 e.extend)] ⟨lu64 _ _, lu64 _ _, lu64 _ _, lu64 _ _, trivial⟩ rfl rfl ?_
  simp [bitsOf]
  omega
theorem guardR : Try.prog.eqGuardType Try.prog.depth 41 = false := by kernel_rfl
theorem guardB : Try.prog.eqGuardType Try.prog.depth 43 = false := by kernel_rfl
theorem guardP : Try.prog.eqGuardType Try.prog.depth 25 = false := by kernel_rfl
theorem guard8 : Try.prog.eqGuardType Try.prog.depth 27 = false := by kernel_rfl
theorem guard7 : Try.prog.eqGuardType Try.prog.depth 69 = false := by kernel_rfl
theorem guard4 : Try.prog.eqGuardType Try.prog.depth 90 = false := by kernel_rfl
end Same
namespace Same
open Go.ChangeShapes Go.WideShapes Go.ChangeAt Go.RowKit
open Tab
open May (ret_bool chain take_succ' infoP infoG infoD infoR infoB row_new)
theorem group_any (g u : Gr) (w : World) (h : g.ok w) (h' : u.ok w) :
    Calls Try.prog 24 #[.agg g.cells.toArray, .agg u.cells.toArray] w fun e w' => e = .returned (.bool (decide (g.data = u.data))) ∧ Below w.heap.size w w' := by
  obtain ⟨l0, l1, ⟨a0, ca0⟩, ⟨a1, ca1⟩⟩ := g
  obtain ⟨m0, m1, ⟨b0, cb0⟩, ⟨b1, cb1⟩⟩ := u
  have H0 := Lib.hid h.1
  have H1 := Lib.hid h.2
  have U0 := Lib.hid h'.1
  have U1 := Lib.hid h'.2
  clear h h'
  show Calls Try.prog 24 #[.agg #[.slice a0 l0.length ca0, .slice a1 l1.length ca1], .agg #[.slice b0 m0.length cb0, .slice b1 m1.length cb1]] w _
  go_enter Try.func24, Try.ntmps24
  go_wp2_with fail
  have hb : Below w.heap.size w ((w.alloc (.cells #[.slice a0 l0.length ca0, .slice a1 l1.length ca1] 36)).alloc (.cells #[.slice b0 m0.length cb0, .slice b1 m1.length cb1] 36)) := ((Below.refl _ _).alloc (Nat.le_refl _) _).alloc (by simp) _
  have HB := Lib.hid hb
  clear hb
  refine (ints_any a0 b0 ca0 cb0 l0 m0 _ (H0.out.below HB.out) (U0.out.below HB.out)).mono ?_
  rintro e w' ⟨rfl, rfl⟩
  by_cases h0 : l0 = m0
  · have E0 := Lib.hid h0
    rw [decide_eq_true h0]
    clear h0
    go_wp2_with fail
    refine (ints_any a1 b1 ca1 cb1 l1 m1 _ (H1.out.below HB.out) (U1.out.below HB.out)).mono ?_
    rintro e w' ⟨rfl, rfl⟩
    generalize hv : decide (l1 = m1) = b
    have HV := Lib.hid hv
    clear hv
    go_wp2
    go_ret
    exact ⟨ret_bool (by rw [← HV.out]; simp [Gr.data, E0.out]), HB.out⟩
  · have E0 := Lib.hid h0
    rw [decide_eq_false h0]
    clear h0
    go_wp2
    go_ret
    exact ⟨ret_bool (by rw [decide_eq_false (fun e => E0.out (congrArg Prod.fst e))]), HB.out⟩
theorem railv_any (r s : Rl) (w : World) :
    Calls Try.prog 28 #[.agg r.cells.toArray, .agg s.cells.toArray] w fun e w' => e = .returned (.bool (decide (r = s))) ∧ Below w.heap.size w w' := by
  have HE := Lib.hid (rail_eqs r s)
  generalize hb : decide (r = s) = b at HE ⊢
  clear hb
  go_enter Try.func28, Try.ntmps28
  go_wp2_with (first | (refine wpList_load_row rfl 41 _ rfl _ rfl _ _ _ _ (heap_alloc2_old _ _ _) Try.underlying41 rfl infoR ?_) | (refine wpList_load_row rfl 41 _ rfl _ rfl _ _ _ _ (heap_alloc2_new _ _ _) Try.underlying41 rfl infoR ?_) | (refine Row.wpList_eql 41 _ _ _ rfl rfl r.cells.toArray s.cells.toArray rfl rfl guardR b HE.out ?_))
  go_ret
  exact ⟨rfl, ((Below.refl _ _).alloc (Nat.le_refl _) _).alloc (by simp) _⟩
theorem busv_any (r s : Bs) (w : World) :
    Calls Try.prog 30 #[.agg r.cells.toArray, .agg s.cells.toArray] w fun e w' => e = .returned (.bool (decide (r = s))) ∧ Below w.heap.size w w' := by
  have HE := Lib.hid (bus_eqs r s)
  generalize hb : decide (r = s) = b at HE ⊢
  clear hb
  go_enter Try.func30, Try.ntmps30
  go_wp2_with (first | (refine wpList_load_row rfl 43 _ rfl _ rfl _ _ _ _ (heap_alloc2_old _ _ _) Try.underlying43 rfl infoB ?_) | (refine wpList_load_row rfl 43 _ rfl _ rfl _ _ _ _ (heap_alloc2_new _ _ _) Try.underlying43 rfl infoB ?_) | (refine Row.wpList_eql 43 _ _ _ rfl rfl r.cells.toArray s.cells.toArray rfl rfl guardB b HE.out ?_))
  go_ret
  exact ⟨rfl, ((Below.refl _ _).alloc (Nat.le_refl _) _).alloc (by simp) _⟩
theorem rails_any (a b : Option Addr) (ca cb : Nat) (l m : List Rl) (w : World) (h : RowOf 11 Rl.cells w ⟨a, ca⟩ l) (h' : RowOf 11 Rl.cells w ⟨b, cb⟩ m) :
    Calls Try.prog 27 #[.slice a l.length ca, .slice b m.length cb, .func (.func 28) #[] #[]] w fun e w' => e = .returned (.bool (decide (l = m))) ∧ Below w.heap.size w w' := by
  have h1 := h.len
  have h2 := h'.len
  unfold maxLen at h1 h2
  have Hr := Lib.hid h
  have Hr' := Lib.hid h'
  clear h h'
  by_cases hlen : l.length = m.length
  · have HL := Lib.hid hlen
    have hd : ((l.length : Int) != (m.length : Int)) = false := by rw [bne_eq_false_iff_eq]; omega
    go_enter Try.func27, Try.ntmps27
    go_wp2
    go_loopw [16] (fun i wr => ∃ k : Nat, k ≤ l.length ∧ i = .int .i64 k ∧ l.take k = m.take k ∧ Below w.heap.size w wr) (fun i _ => l.length - (intOf i).toNat)
    case atStart => exact ⟨0, by omega, rfl, rfl, Below.refl _ _⟩
    case round =>
      obtain ⟨k, hk, rfl, hall, hbel⟩ := hrel
      have Hall := Lib.hid hall
      have Hb := Lib.hid hbel
      clear hall hbel
      by_cases hlt : k < l.length
      · have hv := List.getElem?_eq_getElem hlt
        have hu := List.getElem?_eq_getElem (show k < m.length by omega)
        generalize l[k] = v at hv
        generalize m[k]'(show k < m.length by omega) = u at hu
        obtain ⟨x, hx, hc⟩ := (Hr.out.below Hb.out).at hv
        obtain rfl : a = some x := hx
        obtain ⟨y, hy, hc'⟩ := (Hr'.out.below Hb.out).at hu
        obtain rfl : b = some y := hy
        have HV := Lib.hid hv
        have HU := Lib.hid hu
        have HC := Lib.hid hc
        have HC' := Lib.hid hc'
        clear hv hu hc hc'
        go_wp2_with (first | (refine Row.wpList_load_lies rfl 41 _ rfl (x.add (k * 11)) rfl v.cells _ HC.out Try.underlying41 rfl infoR ?_) | (refine Row.wpList_store_new rfl 41 _ _ rfl _ _ v.cells.toArray rfl rfl rfl infoR rfl v.one ?_))
        have B1 : Hid (Below wr.heap.size wr (wr.alloc (.cells v.cells.toArray 41))) := (Below.refl _ _).alloc (Nat.le_refl _) _
        have L1 : Hid (Lies (wr.alloc (.cells v.cells.toArray 41)) ⟨wr.heap.size, 0, none⟩ v.cells) := Row.lies_new _ _ _
        have L2 : Hid (Lies (wr.alloc (.cells v.cells.toArray 41)) (y.add (k * 11)) u.cells) := HC'.out.below B1.out
        generalize hw1 : wr.alloc (.cells v.cells.toArray 41) = w1 at B1 L1 L2 ⊢
        clear hw1
        have hkm : k < m.length := by omega
        have hne : Nonempty (Ph.S (Row.Old w1)) := ⟨⟨0, w1, Below.refl _ _⟩⟩
        refine Ph.wp_region_ph (Row.Old w1) [] (by kernel_rfl) (by kernel_rfl) (Row.Old.drew _) ?_
        repeat
          first
            | (refine Row.wpPh_load rfl rfl 41 _ rfl ⟨wr.heap.size, 0, none⟩ rfl v.cells _ (fun p => L1.out.below p.is) Try.underlying41 rfl infoR ?_)
            | (refine Row.wpPh_load rfl rfl 41 _ rfl (y.add (k * 11)) rfl u.cells _ (fun p => L2.out.below p.is) Try.underlying41 rfl infoR ?_)
            | (refine Ph.wpPh_calm rfl (fun K hK => ?_)
               go_simp
               first
                 | (refine hK _ ?_; clear hK K)
                 | (refine ⟨_, fun p => Row.Old.call (railv_any v u _), hK _ ?_⟩; clear hK K))
        refine Ph.wpPh_nil ?_
        intro w2 hb2
        clear hne
        have B2 := Lib.hid (Below.trans Hb.out ((Below.trans B1.out (Below.mono hb2 B1.out.size)).mono Hb.out.size))
        clear hb2
        by_cases hvu : v = u
        · have HE := Lib.hid hvu
          rw [decide_eq_true hvu]
          clear hvu
          go_wp2
          go_roundw
          case rel => exact ⟨k + 1, by omega, by go_num, eq_step HV.out HU.out Hall.out HE.out, B2.out⟩
          case measure => simp [intOf]; omega
        · have HE := Lib.hid (show ¬ l = m from eq_break HV.out HU.out hvu)
          rw [decide_eq_false hvu]
          clear hvu
          go_wp2
          go_ret
          exact ⟨ret_bool (decide_eq_false HE.out).symm, B2.out⟩
      · have HE := Lib.hid (show l = m from eq_end Hall.out HL.out hlt)
        go_wp2
        go_ret
        exact ⟨ret_bool (decide_eq_true HE.out).symm, Hb.out⟩
  · have HL := Lib.hid (show ¬ l = m from fun e => hlen (by rw [e]))
    have hd : ((l.length : Int) != (m.length : Int)) = true := by rw [bne_iff_ne]; omega
    go_enter Try.func27, Try.ntmps27
    go_wp2
    go_ret
    exact ⟨ret_bool (decide_eq_false HL.out).symm, Below.refl _ _⟩
theorem buses_any (a b : Option Addr) (ca cb : Nat) (l m : List Bs) (w : World) (h : RowOf 2 Bs.cells w ⟨a, ca⟩ l) (h' : RowOf 2 Bs.cells w ⟨b, cb⟩ m) :
    Calls Try.prog 29 #[.slice a l.length ca, .slice b m.length cb, .func (.func 30) #[] #[]] w fun e w' => e = .returned (.bool (decide (l = m))) ∧ Below w.heap.size w w' := by
  have h1 := h.len
  have h2 := h'.len
  unfold maxLen at h1 h2
  have Hr := Lib.hid h
  have Hr' := Lib.hid h'
  clear h h'
  by_cases hlen : l.length = m.length
  · have HL := Lib.hid hlen
    have hd : ((l.length : Int) != (m.length : Int)) = false := by rw [bne_eq_false_iff_eq]; omega
    go_enter Try.func29, Try.ntmps29
    go_wp2
    go_loopw [16] (fun i wr => ∃ k : Nat, k ≤ l.length ∧ i = .int .i64 k ∧ l.take k = m.take k ∧ Below w.heap.size w wr) (fun i _ => l.length - (intOf i).toNat)
    case atStart => exact ⟨0, by omega, rfl, rfl, Below.refl _ _⟩
    case round =>
      obtain ⟨k, hk, rfl, hall, hbel⟩ := hrel
      have Hall := Lib.hid hall
      have Hb := Lib.hid hbel
      clear hall hbel
      by_cases hlt : k < l.length
      · have hv := List.getElem?_eq_getElem hlt
        have hu := List.getElem?_eq_getElem (show k < m.length by omega)
        generalize l[k] = v at hv
        generalize m[k]'(show k < m.length by omega) = u at hu
        obtain ⟨x, hx, hc⟩ := (Hr.out.below Hb.out).at hv
        obtain rfl : a = some x := hx
        obtain ⟨y, hy, hc'⟩ := (Hr'.out.below Hb.out).at hu
        obtain rfl : b = some y := hy
        have HV := Lib.hid hv
        have HU := Lib.hid hu
        have HC := Lib.hid hc
        have HC' := Lib.hid hc'
        clear hv hu hc hc'
        go_wp2_with (first | (refine Row.wpList_load_lies rfl 43 _ rfl (x.add (k * 2)) rfl v.cells _ HC.out Try.underlying43 rfl infoB ?_) | (refine Row.wpList_store_new rfl 43 _ _ rfl _ _ v.cells.toArray rfl rfl rfl infoB rfl v.one ?_))
        have B1 : Hid (Below wr.heap.size wr (wr.alloc (.cells v.cells.toArray 43))) := (Below.refl _ _).alloc (Nat.le_refl _) _
        have L1 : Hid (Lies (wr.alloc (.cells v.cells.toArray 43)) ⟨wr.heap.size, 0, none⟩ v.cells) := Row.lies_new _ _ _
        have L2 : Hid (Lies (wr.alloc (.cells v.cells.toArray 43)) (y.add (k * 2)) u.cells) := HC'.out.below B1.out
        generalize hw1 : wr.alloc (.cells v.cells.toArray 43) = w1 at B1 L1 L2 ⊢
        clear hw1
        have hkm : k < m.length := by omega
        have hne : Nonempty (Ph.S (Row.Old w1)) := ⟨⟨0, w1, Below.refl _ _⟩⟩
        refine Ph.wp_region_ph (Row.Old w1) [] (by kernel_rfl) (by kernel_rfl) (Row.Old.drew _) ?_
        repeat
          first
            | (refine Row.wpPh_load rfl rfl 43 _ rfl ⟨wr.heap.size, 0, none⟩ rfl v.cells _ (fun p => L1.out.below p.is) Try.underlying43 rfl infoB ?_)
            | (refine Row.wpPh_load rfl rfl 43 _ rfl (y.add (k * 2)) rfl u.cells _ (fun p => L2.out.below p.is) Try.underlying43 rfl infoB ?_)
            | (refine Ph.wpPh_calm rfl (fun K hK => ?_)
               go_simp
               first
                 | (refine hK _ ?_; clear hK K)
                 | (refine ⟨_, fun p => Row.Old.call (busv_any v u _), hK _ ?_⟩; clear hK K))
        refine Ph.wpPh_nil ?_
        intro w2 hb2
        clear hne
        have B2 := Lib.hid (Below.trans Hb.out ((Below.trans B1.out (Below.mono hb2 B1.out.size)).mono Hb.out.size))
        clear hb2
        by_cases hvu : v = u
        · have HE := Lib.hid hvu
          rw [decide_eq_true hvu]
          clear hvu
          go_wp2
          go_roundw
          case rel => exact ⟨k + 1, by omega, by go_num, eq_step HV.out HU.out Hall.out HE.out, B2.out⟩
          case measure => simp [intOf]; omega
        · have HE := Lib.hid (show ¬ l = m from eq_break HV.out HU.out hvu)
          rw [decide_eq_false hvu]
          clear hvu
          go_wp2
          go_ret
          exact ⟨ret_bool (decide_eq_false HE.out).symm, B2.out⟩
      · have HE := Lib.hid (show l = m from eq_end Hall.out HL.out hlt)
        go_wp2
        go_ret
        exact ⟨ret_bool (decide_eq_true HE.out).symm, Hb.out⟩
  · have HL := Lib.hid (show ¬ l = m from fun e => hlen (by rw [e]))
    have hd : ((l.length : Int) != (m.length : Int)) = true := by rw [bne_iff_ne]; omega
    go_enter Try.func29, Try.ntmps29
    go_wp2
    go_ret
    exact ⟨ret_bool (decide_eq_false HL.out).symm, Below.refl _ _⟩
theorem groups_any (a b : Option Addr) (ca cb : Nat) (l m : List Gr) (w : World) (h : RowOf 2 Gr.cells w ⟨a, ca⟩ l) (h' : RowOf 2 Gr.cells w ⟨b, cb⟩ m) (k1 : ∀ v ∈ l, v.ok w) (k2 : ∀ v ∈ m, v.ok w) :
    Calls Try.prog 23 #[.slice a l.length ca, .slice b m.length cb, .func (.func 24) #[] #[]] w fun e w' => e = .returned (.bool (decide (l.map Gr.data = m.map Gr.data))) ∧ Below w.heap.size w w' := by
  have h1 := h.len
  have h2 := h'.len
  unfold maxLen at h1 h2
  have Hr := Lib.hid h
  have Hr' := Lib.hid h'
  clear h h'
  have K1 := Lib.hid k1
  have K2 := Lib.hid k2
  clear k1 k2
  by_cases hlen : l.length = m.length
  · have HL := Lib.hid hlen
    have hd : ((l.length : Int) != (m.length : Int)) = false := by rw [bne_eq_false_iff_eq]; omega
    go_enter Try.func23, Try.ntmps23
    go_wp2
    go_loopw [16] (fun i wr => ∃ k : Nat, k ≤ l.length ∧ i = .int .i64 k ∧ (l.take k).map Gr.data = (m.take k).map Gr.data ∧ Below w.heap.size w wr) (fun i _ => l.length - (intOf i).toNat)
    case atStart => exact ⟨0, by omega, rfl, rfl, Below.refl _ _⟩
    case round =>
      obtain ⟨k, hk, rfl, hall, hbel⟩ := hrel
      have Hall := Lib.hid hall
      have Hb := Lib.hid hbel
      clear hall hbel
      by_cases hlt : k < l.length
      · have hv := List.getElem?_eq_getElem hlt
        have hu := List.getElem?_eq_getElem (show k < m.length by omega)
        generalize l[k] = v at hv
        generalize m[k]'(show k < m.length by omega) = u at hu
        obtain ⟨x, hx, hc⟩ := (Hr.out.below Hb.out).at hv
        obtain rfl : a = some x := hx
        obtain ⟨y, hy, hc'⟩ := (Hr'.out.below Hb.out).at hu
        obtain rfl : b = some y := hy
        have HV := Lib.hid hv
        have HU := Lib.hid hu
        have HC := Lib.hid hc
        have HC' := Lib.hid hc'
        clear hv hu hc hc'
        go_wp2_with (first | (refine Row.wpList_load_lies rfl 36 _ rfl (x.add (k * 2)) rfl v.cells _ HC.out Try.underlying36 rfl infoG ?_) | (refine Row.wpList_store_new rfl 36 _ _ rfl _ _ v.cells.toArray rfl rfl rfl infoG rfl v.one ?_))
        have B1 : Hid (Below wr.heap.size wr (wr.alloc (.cells v.cells.toArray 36))) := (Below.refl _ _).alloc (Nat.le_refl _) _
        have L1 : Hid (Lies (wr.alloc (.cells v.cells.toArray 36)) ⟨wr.heap.size, 0, none⟩ v.cells) := Row.lies_new _ _ _
        have L2 : Hid (Lies (wr.alloc (.cells v.cells.toArray 36)) (y.add (k * 2)) u.cells) := HC'.out.below B1.out
        generalize hw1 : wr.alloc (.cells v.cells.toArray 36) = w1 at B1 L1 L2 ⊢
        clear hw1
        have hkm : k < m.length := by omega
        have hne : Nonempty (Ph.S (Row.Old w1)) := ⟨⟨0, w1, Below.refl _ _⟩⟩
        refine Ph.wp_region_ph (Row.Old w1) [] (by kernel_rfl) (by kernel_rfl) (Row.Old.drew _) ?_
        repeat
          first
            | (refine Row.wpPh_load rfl rfl 36 _ rfl ⟨wr.heap.size, 0, none⟩ rfl v.cells _ (fun p => L1.out.below p.is) Try.underlying36 rfl infoG ?_)
            | (refine Row.wpPh_load rfl rfl 36 _ rfl (y.add (k * 2)) rfl u.cells _ (fun p => L2.out.below p.is) Try.underlying36 rfl infoG ?_)
            | (refine Ph.wpPh_calm rfl (fun K hK => ?_)
               go_simp
               first
                 | (refine hK _ ?_; clear hK K)
                 | (refine ⟨_, fun p => Row.Old.call (group_any v u _ ((K1.out v (List.mem_of_getElem? HV.out)).below ((Hb.out.trans (B1.out.mono Hb.out.size)).trans (p.is.mono (Nat.le_trans Hb.out.size B1.out.size)))) ((K2.out u (List.mem_of_getElem? HU.out)).below ((Hb.out.trans (B1.out.mono Hb.out.size)).trans (p.is.mono (Nat.le_trans Hb.out.size B1.out.size))))), hK _ ?_⟩; clear hK K))
        refine Ph.wpPh_nil ?_
        intro w2 hb2
        clear hne
        have B2 := Lib.hid (Below.trans Hb.out ((Below.trans B1.out (Below.mono hb2 B1.out.size)).mono Hb.out.size))
        clear hb2
        by_cases hvu : v.data = u.data
        · have HE := Lib.hid hvu
          rw [decide_eq_true hvu]
          clear hvu
          go_wp2
          go_roundw
          case rel => exact ⟨k + 1, by omega, by go_num, by rw [take_succ' l k v HV.out, take_succ' m k u HU.out, List.map_append, List.map_append, Hall.out]; simp [HE.out], B2.out⟩
          case measure => simp [intOf]; omega
        · have HE := Lib.hid (show ¬ l.map Gr.data = m.map Gr.data from fun e => hvu (by have h3 := congrArg (·[k]?) e; simp only [List.getElem?_map, HV.out, HU.out, Option.map_some] at h3; exact Option.some.inj h3))
          rw [decide_eq_false hvu]
          clear hvu
          go_wp2
          go_ret
          exact ⟨ret_bool (decide_eq_false HE.out).symm, B2.out⟩
      · have HE := Lib.hid (show l.map Gr.data = m.map Gr.data from by have h3 := Hall.out; rwa [List.take_of_length_le (by omega), List.take_of_length_le (by have := HL.out; omega)] at h3)
        go_wp2
        go_ret
        exact ⟨ret_bool (decide_eq_true HE.out).symm, Hb.out⟩
  · have HL := Lib.hid (show ¬ l.map Gr.data = m.map Gr.data from fun e => hlen (by have := congrArg List.length e; simpa using this))
    have hd : ((l.length : Int) != (m.length : Int)) = true := by rw [bne_iff_ne]; omega
    go_enter Try.func23, Try.ntmps23
    go_wp2
    go_ret
    exact ⟨ret_bool (decide_eq_false HL.out).symm, Below.refl _ _⟩
end Same
namespace QB
open Go.RowKit
structure By (B : Nat) (w : World) where
  world : World
  below : Below B w world
instance {B : Nat} {w : World} : Inhabited (By B w) := ⟨⟨w, Below.refl _ _⟩⟩
/-- A still head, and a chain behind it. -/
theorem region_tail {P : Program} {w : World} {id : Nat} {Q : Exit → Act → World → Prop} {a : Act} {l : List Oper} (n : Nat) (hm : P.follows .mixedOrders = true) (hB : Region.lexTailB .any l.toArray n = true)
    (h : wpStill P l.toArray w.drew (fun a' => wpList P l.toArray Q (l.drop n) a' w.drew) (l.take n) a) : (Code.region id l.toArray true).wp P Q a w :=
  wp_region_still_tail n hm hB h
end QB
namespace Same
open Go.ChangeShapes Go.WideShapes Go.ChangeAt Go.RowKit
open Tab
open May (ret_bool chain take_succ' infoP infoG infoD infoR infoB row_new St)
theorem info4 : (Try.prog.info? 90).map (·.size) = some 4 := by kernel_rfl
theorem info7 : (Try.prog.info? 69).map (·.size) = some 7 := by kernel_rfl
theorem below_setRow {B : Nat} {a w : World} (h : Below B a w) {g : Nat} (hg : B ≤ g) (cs : Array Value) : Below B a (w.setRow g cs) :=
  h.trans ⟨rfl, rfl, rfl, by simp [World.setRow], fun j hj => setRow_other _ _ _ _ (by omega)⟩
theorem bits_any (d : Det) (w : World) :
    Calls Try.prog 47 #[.agg d.cells.toArray] w fun e w' => e = .returned (.agg (bitsOf d).toArray) ∧ Below w.heap.size w w' := by
  obtain ⟨phase, on, off, delay, extend, maxOn, maxOff⟩ := d
  show Calls Try.prog 47 #[.agg #[I phase, F on, F off, F delay, F extend, I maxOn, I maxOff]] w _
  have hb := Secs.bits_call
  go_enter Try.func47, Try.ntmps47
  go_wp2_with fail
  refine QB.region_tail 13 (by kernel_rfl) (by kernel_rfl) ?_
  simp only [List.take_succ_cons, List.take_zero, List.drop_succ_cons, List.drop_zero]
  repeat still_step
  refine wpStill_nil ?_
  refine wpList_store_row rfl 90 _ _ rfl (w.heap.size + 1) (bitsOf ⟨phase, on, off, delay, extend, maxOn, maxOff⟩).toArray rfl rfl 90 #[.int .u64 0, .int .u64 0, .int .u64 0, .int .u64 0] (heap_alloc2_new w _ _) info4 rfl (by simp [bitsOf, Value.oneCell']) ?_
  have hbl : Below w.heap.size w (World.setRow (((w.alloc (.cells #[I phase, F on, F off, F delay, F extend, I maxOn, I maxOff] 39)).alloc (.cells #[.int .u64 0, .int .u64 0, .int .u64 0, .int .u64 0] 90)).drew) (w.heap.size + 1) (bitsOf ⟨phase, on, off, delay, extend, maxOn, maxOff⟩).toArray) :=
    below_setRow (((Below.refl _ _).alloc (Nat.le_refl _) _).alloc (by simp) _).drew (by omega) _
  have hbk : (World.setRow (((w.alloc (.cells #[I phase, F on, F off, F delay, F extend, I maxOn, I maxOff] 39)).alloc (.cells #[.int .u64 0, .int .u64 0, .int .u64 0, .int .u64 0] 90)).drew) (w.heap.size + 1) (bitsOf ⟨phase, on, off, delay, extend, maxOn, maxOff⟩).toArray).heap[w.heap.size + 1]? = some (.cells (bitsOf ⟨phase, on, off, delay, extend, maxOn, maxOff⟩).toArray 90 (0, 0)) :=
    setRow_heap _ _ _ _ _ _ (heap_alloc2_new w _ _)
  generalize World.setRow _ _ _ = w3 at hbl hbk ⊢
  have HB := Lib.hid hbl
  have HK := Lib.hid hbk
  clear hbl hbk hb
  go_wp2_with fail
  (try simp only [Exit.inBlock, Exit.then])
  refine bodyPost_ret (v := .agg (bitsOf ⟨phase, on, off, delay, extend, maxOn, maxOff⟩).toArray) ?_ rfl ⟨rfl, HB.out⟩
  exact results_cell_row rfl _ _ (w.heap.size + 1) 90 _ (0, 0) _ rfl HK.out Try.underlying90 rfl info4
theorem single_any (T : Tab) (h : Hd) (w : World) (k : IsTab w h T) :
    Calls Try.prog 31 #[.agg (T.cells h).toArray] w fun e w' => e = .returned (.agg ((single T).map I).toArray) ∧ Below w.heap.size w w' := by
  have C := Lib.hid (cells_ok k)
  generalize (T.cells h).toArray = cs at C ⊢
  have hsz := C.out.size
  have S0 := Lib.hid (St.box (cs := cs) k)
  clear k
  go_enter Try.func31, Try.ntmps31
  go_upto_region 1 with fail
  have hz : (w.alloc (.cells cs 32)).heap.size = w.heap.size + 1 := by simp
  have HZ := Lib.hid hz
  generalize hw1 : w.alloc (.cells cs 32) = w1 at S0 HZ ⊢
  clear hw1 hsz hz
  have hb1 : Below w1.heap.size w1 (w1.alloc (.cells #[.int .i64 0, .int .i64 0, .int .i64 0, .int .i64 0, .int .i64 0, .int .i64 0, .int .i64 0] 69)) := (Below.refl _ _).alloc (Nat.le_refl _) _
  have S1 := Lib.hid (S0.out.step hb1)
  have hg1 : (w1.alloc (.cells #[.int .i64 0, .int .i64 0, .int .i64 0, .int .i64 0, .int .i64 0, .int .i64 0, .int .i64 0] 69)).heap[w.heap.size + 1]? = some (.cells #[.int .i64 0, .int .i64 0, .int .i64 0, .int .i64 0, .int .i64 0, .int .i64 0, .int .i64 0] 69 (0, 0)) := by rw [← HZ.out]; exact heap_alloc_new w1 _
  have HG := Lib.hid hg1
  generalize w1.alloc (.cells #[.int .i64 0, .int .i64 0, .int .i64 0, .int .i64 0, .int .i64 0, .int .i64 0, .int .i64 0] 69) = w2 at S1 HG ⊢
  clear hb1 hg1 S0 HZ
  have c116 := S1.out.cell C.out.extend
  have c117 := S1.out.cell C.out.budget
  have c118 := S1.out.cell C.out.start
  have c119 := S1.out.cell C.out.revert
  have c120 := S1.out.cell C.out.least
  have c129 := S1.out.cell C.out.window
  have c130 := S1.out.cell C.out.share
  go_wp2_with (refine wpList_store_row rfl 69 _ _ rfl (w.heap.size + 1) ((single T).map I).toArray rfl rfl 69 _ HG.out info7 rfl (by simp [single, Value.oneCell']) ?_)
  have hbl : Below w.heap.size w (w2.setRow (w.heap.size + 1) ((single T).map I).toArray) := below_setRow S1.out.bel (by omega) _
  have hbk := setRow_heap w2 (w.heap.size + 1) _ ((single T).map I).toArray _ _ HG.out
  generalize w2.setRow (w.heap.size + 1) ((single T).map I).toArray = w3 at hbl hbk ⊢
  have HB := Lib.hid hbl
  have HK := Lib.hid hbk
  clear hbl hbk c116 c117 c118 c119 c120 c129 c130
  go_wp2_with fail
  (try simp only [Exit.inBlock, Exit.then])
  refine bodyPost_ret (v := .agg ((single T).map I).toArray) ?_ rfl ⟨rfl, HB.out⟩
  exact results_cell_row rfl _ _ (w.heap.size + 1) 69 _ (0, 0) _ rfl HK.out Try.underlying69 rfl info7
theorem detv_any (d e : Det) (w : World) :
    Calls Try.prog 26 #[.agg d.cells.toArray, .agg e.cells.toArray] w fun r w' => r = .returned (.bool (decide (d = e))) ∧ Below w.heap.size w w' := by
  have L1 : Hid (Lies ((w.alloc (.cells d.cells.toArray 39)).alloc (.cells e.cells.toArray 39)) ⟨w.heap.size, 0, none⟩ d.cells) := (Row.lies_new w d.cells.toArray 39).below ((Below.refl _ _).alloc (Nat.le_refl _) _)
  have L2 : Hid (Lies ((w.alloc (.cells d.cells.toArray 39)).alloc (.cells e.cells.toArray 39)) ⟨w.heap.size + 1, 0, none⟩ e.cells) := by
    have := Row.lies_new (w.alloc (.cells d.cells.toArray 39)) e.cells.toArray 39
    rwa [show (w.alloc (.cells d.cells.toArray 39)).heap.size = w.heap.size + 1 by simp] at this
  have HB : Hid (Below w.heap.size w ((w.alloc (.cells d.cells.toArray 39)).alloc (.cells e.cells.toArray 39))) := ((Below.refl _ _).alloc (Nat.le_refl _) _).alloc (by simp) _
  go_enter Try.func26, Try.ntmps26
  go_wp2_with fail
  generalize (w.alloc (.cells d.cells.toArray 39)).alloc (.cells e.cells.toArray 39) = w1 at L1 L2 HB ⊢
  have hne : Nonempty (Ph.S (Row.Old w1)) := ⟨⟨0, w1, Below.refl _ _⟩⟩
  have q00 : ∀ p : Ph.S (Row.Old w1), p.world.cell? ⟨w.heap.size, 0, none⟩ = some (I d.phase) := fun p => by have := (L1.out.below p.is) 0 _ rfl; rwa [Addr.add_mid, Nat.zero_add] at this
  have q05 : ∀ p : Ph.S (Row.Old w1), p.world.cell? ⟨w.heap.size, 5, none⟩ = some (I d.maxOn) := fun p => by have := (L1.out.below p.is) 5 _ rfl; rwa [Addr.add_mid, Nat.zero_add] at this
  have q06 : ∀ p : Ph.S (Row.Old w1), p.world.cell? ⟨w.heap.size, 6, none⟩ = some (I d.maxOff) := fun p => by have := (L1.out.below p.is) 6 _ rfl; rwa [Addr.add_mid, Nat.zero_add] at this
  have q10 : ∀ p : Ph.S (Row.Old w1), p.world.cell? ⟨w.heap.size + 1, 0, none⟩ = some (I e.phase) := fun p => by have := (L2.out.below p.is) 0 _ rfl; rwa [Addr.add_mid, Nat.zero_add] at this
  have q15 : ∀ p : Ph.S (Row.Old w1), p.world.cell? ⟨w.heap.size + 1, 5, none⟩ = some (I e.maxOn) := fun p => by have := (L2.out.below p.is) 5 _ rfl; rwa [Addr.add_mid, Nat.zero_add] at this
  have q16 : ∀ p : Ph.S (Row.Old w1), p.world.cell? ⟨w.heap.size + 1, 6, none⟩ = some (I e.maxOff) := fun p => by have := (L2.out.below p.is) 6 _ rfl; rwa [Addr.add_mid, Nat.zero_add] at this
  refine Ph.wp_region_ph (Row.Old w1) [] (by kernel_rfl) (by kernel_rfl) (Row.Old.drew _) ?_
  by_cases h0 : d.phase = e.phase
  rotate_left
  · have E0 := Lib.hid h0
    have hb0 : (d.phase == e.phase) = false := by simpa using h0
    clear h0
    repeat
      (refine Ph.wpPh_calm rfl (fun K hK => ?_)
       go_simp
       refine hK _ ?_
       clear hK K)
    refine Ph.wpPh_nil ?_
    intro w2 hb2
    have B2 : Hid (Below w.heap.size w w2) := Below.trans HB.out (Below.mono hb2 HB.out.size)
    clear hb2 hne q00 q05 q06 q10 q15 q16
    go_wp2
    go_ret
    exact ⟨ret_bool (decide_eq_false (fun q => E0.out (by rw [q]))).symm, B2.out⟩
  have E0 := Lib.hid h0
  have hb0 : (d.phase == e.phase) = true := by simpa using h0
  clear h0
  by_cases h1 : d.maxOn = e.maxOn
  rotate_left
  · have E1 := Lib.hid h1
    have hb1 : (d.maxOn == e.maxOn) = false := by simpa using h1
    clear h1
    repeat
      (refine Ph.wpPh_calm rfl (fun K hK => ?_)
       go_simp
       refine hK _ ?_
       clear hK K)
    refine Ph.wpPh_nil ?_
    intro w2 hb2
    have B2 : Hid (Below w.heap.size w w2) := Below.trans HB.out (Below.mono hb2 HB.out.size)
    clear hb2 hne q00 q05 q06 q10 q15 q16
    go_wp2
    go_ret
    exact ⟨ret_bool (decide_eq_false (fun q => E1.out (by rw [q]))).symm, B2.out⟩
  have E1 := Lib.hid h1
  have hb1 : (d.maxOn == e.maxOn) = true := by simpa using h1
  clear h1
  by_cases h2 : d.maxOff = e.maxOff
  rotate_left
  · have E2 := Lib.hid h2
    have hb2 : (d.maxOff == e.maxOff) = false := by simpa using h2
    clear h2
    repeat
      (refine Ph.wpPh_calm rfl (fun K hK => ?_)
       go_simp
       refine hK _ ?_
       clear hK K)
    refine Ph.wpPh_nil ?_
    intro w2 hb2
    have B2 : Hid (Below w.heap.size w w2) := Below.trans HB.out (Below.mono hb2 HB.out.size)
    clear hb2 hne q00 q05 q06 q10 q15 q16
    go_wp2
    go_ret
    exact ⟨ret_bool (decide_eq_false (fun q => E2.out (by rw [q]))).symm, B2.out⟩
  have E2 := Lib.hid h2
  have hb2 : (d.maxOff == e.maxOff) = true := by simpa using h2
  clear h2
  iterate 20
    (refine Ph.wpPh_calm rfl (fun K hK => ?_)
     go_simp
     refine hK _ ?_
     clear hK K)
  refine Row.wpPh_load rfl rfl 39 _ rfl ⟨w.heap.size, 0, none⟩ rfl d.cells _ (fun p => L1.out.below p.is) Try.underlying39 rfl infoD ?_
  (refine Ph.wpPh_calm rfl (fun K hK => ?_)
   go_simp
   refine ⟨_, fun p => Row.Old.call (bits_any d _), hK _ ?_⟩
   clear hK K)
  refine Row.wpPh_load rfl rfl 39 _ rfl ⟨w.heap.size + 1, 0, none⟩ rfl e.cells _ (fun p => L2.out.below p.is) Try.underlying39 rfl infoD ?_
  (refine Ph.wpPh_calm rfl (fun K hK => ?_)
   go_simp
   refine ⟨_, fun p => Row.Old.call (bits_any e _), hK _ ?_⟩
   clear hK K)
  refine Row.wpPh_eql 90 _ _ _ rfl rfl rfl (bitsOf d).toArray (bitsOf e).toArray rfl rfl guard4 _ (bits_eqs d e) ?_
  (refine Ph.wpPh_calm rfl (fun K hK => ?_)
   go_simp
   refine hK _ ?_
   clear hK K)
  (refine Ph.wpPh_calm rfl (fun K hK => ?_)
   go_simp
   refine hK _ ?_
   clear hK K)
  refine Ph.wpPh_nil ?_
  intro w2 hb2
  have B2 : Hid (Below w.heap.size w w2) := Below.trans HB.out (Below.mono hb2 HB.out.size)
  clear hb2 hne q00 q05 q06 q10 q15 q16
  go_wp2
  go_ret
  refine ⟨ret_bool ?_, B2.out⟩
  obtain ⟨a0, a1, a2, a3, a4, a5, a6⟩ := d
  obtain ⟨b0, b1, b2, b3, b4, b5, b6⟩ := e
  have e0 : a0 = b0 := E0.out
  have e1 : a5 = b5 := E1.out
  have e2 : a6 = b6 := E2.out
  subst e0 e1 e2
  simp
theorem dets_any (a b : Option Addr) (ca cb : Nat) (l m : List Det) (w : World) (h : RowOf 7 Det.cells w ⟨a, ca⟩ l) (h' : RowOf 7 Det.cells w ⟨b, cb⟩ m) :
    Calls Try.prog 25 #[.slice a l.length ca, .slice b m.length cb, .func (.func 26) #[] #[]] w fun e w' => e = .returned (.bool (decide (l = m))) ∧ Below w.heap.size w w' := by
  have h1 := h.len
  have h2 := h'.len
  unfold maxLen at h1 h2
  have Hr := Lib.hid h
  have Hr' := Lib.hid h'
  clear h h'
  by_cases hlen : l.length = m.length
  · have HL := Lib.hid hlen
    have hd : ((l.length : Int) != (m.length : Int)) = false := by rw [bne_eq_false_iff_eq]; omega
    go_enter Try.func25, Try.ntmps25
    go_wp2
    go_loopw [16] (fun i wr => ∃ k : Nat, k ≤ l.length ∧ i = .int .i64 k ∧ l.take k = m.take k ∧ Below w.heap.size w wr) (fun i _ => l.length - (intOf i).toNat)
    case atStart => exact ⟨0, by omega, rfl, rfl, Below.refl _ _⟩
    case round =>
      obtain ⟨k, hk, rfl, hall, hbel⟩ := hrel
      have Hall := Lib.hid hall
      have Hb := Lib.hid hbel
      clear hall hbel
      by_cases hlt : k < l.length
      · have hv := List.getElem?_eq_getElem hlt
        have hu := List.getElem?_eq_getElem (show k < m.length by omega)
        generalize l[k] = v at hv
        generalize m[k]'(show k < m.length by omega) = u at hu
        obtain ⟨x, hx, hc⟩ := (Hr.out.below Hb.out).at hv
        obtain rfl : a = some x := hx
        obtain ⟨y, hy, hc'⟩ := (Hr'.out.below Hb.out).at hu
        obtain rfl : b = some y := hy
        have HV := Lib.hid hv
        have HU := Lib.hid hu
        have HC := Lib.hid hc
        have HC' := Lib.hid hc'
        clear hv hu hc hc'
        go_wp2_with (first | (refine Row.wpList_load_lies rfl 39 _ rfl (x.add (k * 7)) rfl v.cells _ HC.out Try.underlying39 rfl infoD ?_) | (refine Row.wpList_store_new rfl 39 _ _ rfl _ _ v.cells.toArray rfl rfl rfl infoD rfl v.one ?_))
        have B1 : Hid (Below wr.heap.size wr (wr.alloc (.cells v.cells.toArray 39))) := (Below.refl _ _).alloc (Nat.le_refl _) _
        have L1 : Hid (Lies (wr.alloc (.cells v.cells.toArray 39)) ⟨wr.heap.size, 0, none⟩ v.cells) := Row.lies_new _ _ _
        have L2 : Hid (Lies (wr.alloc (.cells v.cells.toArray 39)) (y.add (k * 7)) u.cells) := HC'.out.below B1.out
        generalize hw1 : wr.alloc (.cells v.cells.toArray 39) = w1 at B1 L1 L2 ⊢
        clear hw1
        have hkm : k < m.length := by omega
        have hne : Nonempty (Ph.S (Row.Old w1)) := ⟨⟨0, w1, Below.refl _ _⟩⟩
        refine Ph.wp_region_ph (Row.Old w1) [] (by kernel_rfl) (by kernel_rfl) (Row.Old.drew _) ?_
        repeat
          first
            | (refine Row.wpPh_load rfl rfl 39 _ rfl ⟨wr.heap.size, 0, none⟩ rfl v.cells _ (fun p => L1.out.below p.is) Try.underlying39 rfl infoD ?_)
            | (refine Row.wpPh_load rfl rfl 39 _ rfl (y.add (k * 7)) rfl u.cells _ (fun p => L2.out.below p.is) Try.underlying39 rfl infoD ?_)
            | (refine Ph.wpPh_calm rfl (fun K hK => ?_)
               go_simp
               first
                 | (refine hK _ ?_; clear hK K)
                 | (refine ⟨_, fun p => Row.Old.call (detv_any v u _), hK _ ?_⟩; clear hK K))
        refine Ph.wpPh_nil ?_
        intro w2 hb2
        clear hne
        have B2 := Lib.hid (Below.trans Hb.out ((Below.trans B1.out (Below.mono hb2 B1.out.size)).mono Hb.out.size))
        clear hb2
        by_cases hvu : v = u
        · have HE := Lib.hid hvu
          rw [decide_eq_true hvu]
          clear hvu
          go_wp2
          go_roundw
          case rel => exact ⟨k + 1, by omega, by go_num, eq_step HV.out HU.out Hall.out HE.out, B2.out⟩
          case measure => simp [intOf]; omega
        · have HE := Lib.hid (show ¬ l = m from eq_break HV.out HU.out hvu)
          rw [decide_eq_false hvu]
          clear hvu
          go_wp2
          go_ret
          exact ⟨ret_bool (decide_eq_false HE.out).symm, B2.out⟩
      · have HE := Lib.hid (show l = m from eq_end Hall.out HL.out hlt)
        go_wp2
        go_ret
        exact ⟨ret_bool (decide_eq_true HE.out).symm, Hb.out⟩
  · have HL := Lib.hid (show ¬ l = m from fun e => hlen (by rw [e]))
    have hd : ((l.length : Int) != (m.length : Int)) = true := by rw [bne_iff_ne]; omega
    go_enter Try.func25, Try.ntmps25
    go_wp2
    go_ret
    exact ⟨ret_bool (decide_eq_false HL.out).symm, Below.refl _ _⟩
end Same
namespace GenP
open Go.ChangeShapes Go.WideShapes Go.ChangeAt Go.RowKit
open Tab Clone RefS
open May (infoP)
open Same (below_setRow)
theorem infoPz : (Try.prog.info? 24).map (fun i => (i.zero, i.size)) = some (some (.agg zPh.cells.toArray), 13) := by kernel_rfl
def recall (x walk : Int) : Int := if x > 3 ∨ x = 3 ∧ walk = 0 then 0 else x
/-- A phase by twelve numbers. -/
def genPh (L : List Int) (i : Int) : Ph :=
  let min := 1 + num L i 12
  let max := min + num L (i + 5) 25
  let walks := num L (i + 7) 2 = 1
  let walk := if walks then 1 + num L (i + 8) 10 else 0
  ⟨true, min, num L (i + 1) 9, max, max + num L (i + 6) 15, 1 + num L (i + 2) 6, 10 + num L (i + 3) 4, num L (i + 4) 5, walk, if walks then 1 + num L (i + 8) 97 / 10 else 0, recall (num L (i + 9) 7) walk, decide (num L (i + 10) 3 > 0), decide (num L (i + 11) 4 = 1)⟩
theorem phase_any (a : Option Addr) (cap : Nat) (L : List Int) (i : Int) (w : World) (h : IntRow w ⟨a, cap⟩ L) (h0 : 0 ≤ i) (h1 : i ≤ 100000) :
    Calls Try.prog 11 #[.slice a L.length cap, .int .i64 i] w fun e w' => e = .returned (.agg (genPh L i).cells.toArray) ∧ Below w.heap.size w w' := by
  obtain ⟨x0, hx0, ⟨r0, s0⟩, F0⟩ : ∃ x : Int, x = num L i 12 ∧ (0 ≤ x ∧ x < 12) ∧ Hid (∀ W, Below w.heap.size w W → Calls Try.prog 13 #[.slice a L.length cap, .int .i64 i, .int .i64 12] W fun e w' => e = .returned (.int .i64 x) ∧ w' = W) := ⟨_, rfl, num_range _ _ _ (by omega), Lib.hid (fun W hb => (from_any a cap L _ _ W (h.below hb) (by omega) (by omega) (by omega)).mono fun _ _ ⟨e, q⟩ => ⟨e, q.symm⟩)⟩
  obtain ⟨x1, hx1, ⟨r1, s1⟩, F1⟩ : ∃ x : Int, x = num L (i + 1) 9 ∧ (0 ≤ x ∧ x < 9) ∧ Hid (∀ W, Below w.heap.size w W → Calls Try.prog 13 #[.slice a L.length cap, .int .i64 (i + 1), .int .i64 9] W fun e w' => e = .returned (.int .i64 x) ∧ w' = W) := ⟨_, rfl, num_range _ _ _ (by omega), Lib.hid (fun W hb => (from_any a cap L _ _ W (h.below hb) (by omega) (by omega) (by omega)).mono fun _ _ ⟨e, q⟩ => ⟨e, q.symm⟩)⟩
  obtain ⟨x2, hx2, ⟨r2, s2⟩, F2⟩ : ∃ x : Int, x = num L (i + 2) 6 ∧ (0 ≤ x ∧ x < 6) ∧ Hid (∀ W, Below w.heap.size w W → Calls Try.prog 13 #[.slice a L.length cap, .int .i64 (i + 2), .int .i64 6] W fun e w' => e = .returned (.int .i64 x) ∧ w' = W) := ⟨_, rfl, num_range _ _ _ (by omega), Lib.hid (fun W hb => (from_any a cap L _ _ W (h.below hb) (by omega) (by omega) (by omega)).mono fun _ _ ⟨e, q⟩ => ⟨e, q.symm⟩)⟩
  obtain ⟨x3, hx3, ⟨r3, s3⟩, F3⟩ : ∃ x : Int, x = num L (i + 3) 4 ∧ (0 ≤ x ∧ x < 4) ∧ Hid (∀ W, Below w.heap.size w W → Calls Try.prog 13 #[.slice a L.length cap, .int .i64 (i + 3), .int .i64 4] W fun e w' => e = .returned (.int .i64 x) ∧ w' = W) := ⟨_, rfl, num_range _ _ _ (by omega), Lib.hid (fun W hb => (from_any a cap L _ _ W (h.below hb) (by omega) (by omega) (by omega)).mono fun _ _ ⟨e, q⟩ => ⟨e, q.symm⟩)⟩
  obtain ⟨x4, hx4, ⟨r4, s4⟩, F4⟩ : ∃ x : Int, x = num L (i + 4) 5 ∧ (0 ≤ x ∧ x < 5) ∧ Hid (∀ W, Below w.heap.size w W → Calls Try.prog 13 #[.slice a L.length cap, .int .i64 (i + 4), .int .i64 5] W fun e w' => e = .returned (.int .i64 x) ∧ w' = W) := ⟨_, rfl, num_range _ _ _ (by omega), Lib.hid (fun W hb => (from_any a cap L _ _ W (h.below hb) (by omega) (by omega) (by omega)).mono fun _ _ ⟨e, q⟩ => ⟨e, q.symm⟩)⟩
  obtain ⟨x5, hx5, ⟨r5, s5⟩, F5⟩ : ∃ x : Int, x = num L (i + 5) 25 ∧ (0 ≤ x ∧ x < 25) ∧ Hid (∀ W, Below w.heap.size w W → Calls Try.prog 13 #[.slice a L.length cap, .int .i64 (i + 5), .int .i64 25] W fun e w' => e = .returned (.int .i64 x) ∧ w' = W) := ⟨_, rfl, num_range _ _ _ (by omega), Lib.hid (fun W hb => (from_any a cap L _ _ W (h.below hb) (by omega) (by omega) (by omega)).mono fun _ _ ⟨e, q⟩ => ⟨e, q.symm⟩)⟩
  obtain ⟨x6, hx6, ⟨r6, s6⟩, F6⟩ : ∃ x : Int, x = num L (i + 6) 15 ∧ (0 ≤ x ∧ x < 15) ∧ Hid (∀ W, Below w.heap.size w W → Calls Try.prog 13 #[.slice a L.length cap, .int .i64 (i + 6), .int .i64 15] W fun e w' => e = .returned (.int .i64 x) ∧ w' = W) := ⟨_, rfl, num_range _ _ _ (by omega), Lib.hid (fun W hb => (from_any a cap L _ _ W (h.below hb) (by omega) (by omega) (by omega)).mono fun _ _ ⟨e, q⟩ => ⟨e, q.symm⟩)⟩
  obtain ⟨x7, hx7, ⟨r7, s7⟩, F7⟩ : ∃ x : Int, x = num L (i + 7) 2 ∧ (0 ≤ x ∧ x < 2) ∧ Hid (∀ W, Below w.heap.size w W → Calls Try.prog 13 #[.slice a L.length cap, .int .i64 (i + 7), .int .i64 2] W fun e w' => e = .returned (.int .i64 x) ∧ w' = W) := ⟨_, rfl, num_range _ _ _ (by omega), Lib.hid (fun W hb => (from_any a cap L _ _ W (h.below hb) (by omega) (by omega) (by omega)).mono fun _ _ ⟨e, q⟩ => ⟨e, q.symm⟩)⟩
  obtain ⟨x8, hx8, ⟨r8, s8⟩, F8⟩ : ∃ x : Int, x = num L (i + 8) 10 ∧ (0 ≤ x ∧ x < 10) ∧ Hid (∀ W, Below w.heap.size w W → Calls Try.prog 13 #[.slice a L.length cap, .int .i64 (i + 8), .int .i64 10] W fun e w' => e = .returned (.int .i64 x) ∧ w' = W) := ⟨_, rfl, num_range _ _ _ (by omega), Lib.hid (fun W hb => (from_any a cap L _ _ W (h.below hb) (by omega) (by omega) (by omega)).mono fun _ _ ⟨e, q⟩ => ⟨e, q.symm⟩)⟩
  obtain ⟨xb, hxb, ⟨rb, sb⟩, Fb⟩ : ∃ x : Int, x = num L (i + 8) 97 ∧ (0 ≤ x ∧ x < 97) ∧ Hid (∀ W, Below w.heap.size w W → Calls Try.prog 13 #[.slice a L.length cap, .int .i64 (i + 8), .int .i64 97] W fun e w' => e = .returned (.int .i64 x) ∧ w' = W) := ⟨_, rfl, num_range _ _ _ (by omega), Lib.hid (fun W hb => (from_any a cap L _ _ W (h.below hb) (by omega) (by omega) (by omega)).mono fun _ _ ⟨e, q⟩ => ⟨e, q.symm⟩)⟩
  obtain ⟨x9, hx9, ⟨r9, s9⟩, F9⟩ : ∃ x : Int, x = num L (i + 9) 7 ∧ (0 ≤ x ∧ x < 7) ∧ Hid (∀ W, Below w.heap.size w W → Calls Try.prog 13 #[.slice a L.length cap, .int .i64 (i + 9), .int .i64 7] W fun e w' => e = .returned (.int .i64 x) ∧ w' = W) := ⟨_, rfl, num_range _ _ _ (by omega), Lib.hid (fun W hb => (from_any a cap L _ _ W (h.below hb) (by omega) (by omega) (by omega)).mono fun _ _ ⟨e, q⟩ => ⟨e, q.symm⟩)⟩
  obtain ⟨xt, hxt, ⟨rt, st⟩, Ft⟩ : ∃ x : Int, x = num L (i + 10) 3 ∧ (0 ≤ x ∧ x < 3) ∧ Hid (∀ W, Below w.heap.size w W → Calls Try.prog 13 #[.slice a L.length cap, .int .i64 (i + 10), .int .i64 3] W fun e w' => e = .returned (.int .i64 x) ∧ w' = W) := ⟨_, rfl, num_range _ _ _ (by omega), Lib.hid (fun W hb => (from_any a cap L _ _ W (h.below hb) (by omega) (by omega) (by omega)).mono fun _ _ ⟨e, q⟩ => ⟨e, q.symm⟩)⟩
  obtain ⟨xe, hxe, ⟨re, se⟩, Fe⟩ : ∃ x : Int, x = num L (i + 11) 4 ∧ (0 ≤ x ∧ x < 4) ∧ Hid (∀ W, Below w.heap.size w W → Calls Try.prog 13 #[.slice a L.length cap, .int .i64 (i + 11), .int .i64 4] W fun e w' => e = .returned (.int .i64 x) ∧ w' = W) := ⟨_, rfl, num_range _ _ _ (by omega), Lib.hid (fun W hb => (from_any a cap L _ _ W (h.below hb) (by omega) (by omega) (by omega)).mono fun _ _ ⟨e, q⟩ => ⟨e, q.symm⟩)⟩
  have RES : Hid (genPh L i = ⟨true, 1 + x0, x1, 1 + x0 + x5, 1 + x0 + x5 + x6, 1 + x2, 10 + x3, x4, if x7 = 1 then 1 + x8 else 0, if x7 = 1 then 1 + xb / 10 else 0, recall x9 (if x7 = 1 then 1 + x8 else 0), decide (xt > 0), decide (xe = 1)⟩) := Lib.hid (by subst hx0 hx1 hx2 hx3 hx4 hx5 hx6 hx7 hx8 hxb hx9 hxt hxe; rfl)
  generalize genPh L i = R at RES ⊢
  clear hx0 hx1 hx2 hx3 hx4 hx5 hx6 hx7 hx8 hxb hx9 hxt hxe h
  have hz := (zero_of_info infoPz).1
  have HB : Hid (Below w.heap.size w (w.alloc (.cells zPh.cells.toArray 24))) := Lib.hid ((Below.refl _ _).alloc (Nat.le_refl _) _)
  have hg := heap_alloc_new w (.cells zPh.cells.toArray 24)
  have hs : (w.alloc (.cells zPh.cells.toArray 24)).heap.size = w.heap.size + 1 := by simp
  have HG := Lib.hid hg
  have HS := Lib.hid hs
  clear hg hs
  simp only [zPh, Ph.cells] at hz HB HG HS
  go_enter Try.func11, Try.ntmps11
  go_upto_region 1 with fail
  generalize (World.alloc w _) = u at HB HG HS ⊢
  go_wp2_with fail
  refine (F0.out _ HB.out).mono ?_
  rintro e w' ⟨rfl, hq⟩
  subst w'
  go_wp2_with fail
  refine (F1.out _ HB.out).mono ?_
  rintro e w' ⟨rfl, hq⟩
  subst w'
  go_wp2_with fail
  refine (F2.out _ HB.out).mono ?_
  rintro e w' ⟨rfl, hq⟩
  subst w'
  go_wp2_with fail
  refine (F3.out _ HB.out).mono ?_
  rintro e w' ⟨rfl, hq⟩
  subst w'
  go_wp2_with fail
  refine (F4.out _ HB.out).mono ?_
  rintro e w' ⟨rfl, hq⟩
  subst w'
  go_upto_region 2 with (refine Row.wpList_store_new rfl 24 _ _ rfl u _ #[.bool true, I (1 + x0), I x1, I 0, I 0, I (1 + x2), I (10 + x3), I x4, I 0, I 0, I 0, .bool false, .bool false] rfl rfl rfl infoP rfl (by simp [Value.oneCell']) ?_)
  (try dsimp only [Act.put])
  have hb := HB.out.alloc HB.out.size (.cells #[.bool true, I (1 + x0), I x1, I 0, I 0, I (1 + x2), I (10 + x3), I x4, I 0, I 0, I 0, .bool false, .bool false] 24)
  have g5 := heap_alloc_new u (.cells #[.bool true, I (1 + x0), I x1, I 0, I 0, I (1 + x2), I (10 + x3), I x4, I 0, I 0, I 0, .bool false, .bool false] 24)
  have g4 := (Below.heap_alloc u (.cells #[.bool true, I (1 + x0), I x1, I 0, I 0, I (1 + x2), I (10 + x3), I x4, I 0, I 0, I 0, .bool false, .bool false] 24) w.heap.size (by have := HS.out; omega)).trans HG.out
  have b5lt : w.heap.size < u.heap.size := by have := HS.out; omega
  clear HB HG HS
  generalize World.alloc u _ = u0 at g4 g5 hb ⊢
  generalize u.heap.size = b5 at g5 b5lt ⊢
  have G4 := Lib.hid g4
  have G5 := Lib.hid g5
  have HB := Lib.hid hb
  clear g4 g5 hb
  have e0 : IntKind.i64.wrap (i + 5) = i + 5 := by rw [IntKind.wrap_i64]; omega
  have e1 : IntKind.i64.wrap (1 + x0 + x5) = 1 + x0 + x5 := by rw [IntKind.wrap_i64]; omega
  have g4 : u0.drew.heap[w.heap.size]? = some (.cells #[.bool false, .int .i64 0, .int .i64 0, .int .i64 0, .int .i64 0, .int .i64 0, .int .i64 0, .int .i64 0, .int .i64 0, .int .i64 0, .int .i64 0, .bool false, .bool false] 24 (0, 0)) := G4.out
  have g5 : u0.drew.heap[b5]? = some (.cells #[.bool true, I (1 + x0), I x1, I 0, I 0, I (1 + x2), I (10 + x3), I x4, I 0, I 0, I 0, .bool false, .bool false] 24 (0, 0)) := G5.out
  have hb : Below w.heap.size w u0.drew := HB.out.drew
  clear G4 G5 HB
  refine QB.region_tail 8 (by kernel_rfl) (by kernel_rfl) ?_
  generalize World.drew u0 = u1 at g4 g5 hb ⊢
  have G4 := Lib.hid g4
  have G5 := Lib.hid g5
  have HB := Lib.hid hb
  clear g4 g5 hb
  have c1 : u1.cell? ⟨b5, 1, none⟩ = some (I (1 + x0)) := by rw [cell_of_row _ _ _ _ _ _ G5.out]; rfl
  have c3 : u1.cell? ⟨b5, 3, none⟩ = some (I 0) := by rw [cell_of_row _ _ _ _ _ _ G5.out]; rfl
  have f3 : u1.frozen? ⟨b5, 3, none⟩ = false := frozen_of_row _ _ _ _ _ G5.out
  simp only [List.take_succ_cons, List.take_zero, List.drop_succ_cons, List.drop_zero]
  repeat still_step
  still_call (F5.out _ HB.out)
  repeat still_step
  refine wpStill_nil ?_
  go_upto_region 3 with fail
  clear e0 e1
  have g5 := heap_setCell_same u1 b5 3 _ _ (I (1 + x0 + x5)) G5.out
  simp only [List.setIfInBounds_toArray, List.set_cons_succ, List.set_cons_zero] at g5
  have g4 := (Below.heap_setCell u1 ⟨b5, 3, none⟩ (I (1 + x0 + x5)) w.heap.size (by simp; omega)).trans G4.out
  have hb := Owned.below_write HB.out (g := b5) (i := 3) (by omega) (I (1 + x0 + x5))
  clear c1 c3 f3 G4 G5 HB
  generalize World.setCell u1 ⟨b5, 3, none⟩ (I (1 + x0 + x5)) = u2 at g4 g5 hb ⊢
  have G4 := Lib.hid g4
  have G5 := Lib.hid g5
  have HB := Lib.hid hb
  clear g4 g5 hb
  have e0 : IntKind.i64.wrap (i + 6) = i + 6 := by rw [IntKind.wrap_i64]; omega
  have e1 : IntKind.i64.wrap (1 + x0 + x5 + x6) = 1 + x0 + x5 + x6 := by rw [IntKind.wrap_i64]; omega
  have g4 : u2.drew.heap[w.heap.size]? = some (.cells #[.bool false, .int .i64 0, .int .i64 0, .int .i64 0, .int .i64 0, .int .i64 0, .int .i64 0, .int .i64 0, .int .i64 0, .int .i64 0, .int .i64 0, .bool false, .bool false] 24 (0, 0)) := G4.out
  have g5 : u2.drew.heap[b5]? = some (.cells #[.bool true, I (1 + x0), I x1, I (1 + x0 + x5), I 0, I (1 + x2), I (10 + x3), I x4, I 0, I 0, I 0, .bool false, .bool false] 24 (0, 0)) := G5.out
  have hb : Below w.heap.size w u2.drew := HB.out.drew
  clear G4 G5 HB
  refine QB.region_tail 8 (by kernel_rfl) (by kernel_rfl) ?_
  generalize World.drew u2 = u3 at g4 g5 hb ⊢
  have G4 := Lib.hid g4
  have G5 := Lib.hid g5
  have HB := Lib.hid hb
  clear g4 g5 hb
  have c3 : u3.cell? ⟨b5, 3, none⟩ = some (I (1 + x0 + x5)) := by rw [cell_of_row _ _ _ _ _ _ G5.out]; rfl
  have c4 : u3.cell? ⟨b5, 4, none⟩ = some (I 0) := by rw [cell_of_row _ _ _ _ _ _ G5.out]; rfl
  have f4 : u3.frozen? ⟨b5, 4, none⟩ = false := frozen_of_row _ _ _ _ _ G5.out
  simp only [List.take_succ_cons, List.take_zero, List.drop_succ_cons, List.drop_zero]
  repeat still_step
  still_call (F6.out _ HB.out)
  repeat still_step
  refine wpStill_nil ?_
  go_upto_region 4 with fail
  clear e0 e1
  have g5 := heap_setCell_same u3 b5 4 _ _ (I (1 + x0 + x5 + x6)) G5.out
  simp only [List.setIfInBounds_toArray, List.set_cons_succ, List.set_cons_zero] at g5
  have g4 := (Below.heap_setCell u3 ⟨b5, 4, none⟩ (I (1 + x0 + x5 + x6)) w.heap.size (by simp; omega)).trans G4.out
  have hb := Owned.below_write HB.out (g := b5) (i := 4) (by omega) (I (1 + x0 + x5 + x6))
  clear c3 c4 f4 G4 G5 HB
  generalize World.setCell u3 ⟨b5, 4, none⟩ (I (1 + x0 + x5 + x6)) = u4 at g4 g5 hb ⊢
  have G4 := Lib.hid g4
  have G5 := Lib.hid g5
  have HB := Lib.hid hb
  clear g4 g5 hb
  go_wp2_with fail
  refine (F7.out _ HB.out).mono ?_
  rintro e w' ⟨rfl, hq⟩
  subst w'
  by_cases h7 : x7 = 1
  · have H7 := Lib.hid h7
    have e7 : (x7 == 1) = true := by simpa using h7
    clear h7
    go_upto_region 5 with fail
    have c8 : u4.cell? ⟨b5, 8, none⟩ = some (I 0) := by rw [cell_of_row _ _ _ _ _ _ G5.out]; rfl
    have f8 : u4.frozen? ⟨b5, 8, none⟩ = false := frozen_of_row _ _ _ _ _ G5.out
    go_wp2_with fail
    refine (F8.out _ HB.out).mono ?_
    rintro e w' ⟨rfl, hq⟩
    subst w'
    go_upto_region 6 with fail
    have g5 := heap_setCell_same u4 b5 8 _ _ (I (1 + x8)) G5.out
    simp only [List.setIfInBounds_toArray, List.set_cons_succ, List.set_cons_zero] at g5
    have g4 := (Below.heap_setCell u4 ⟨b5, 8, none⟩ (I (1 + x8)) w.heap.size (by simp; omega)).trans G4.out
    have hb := Owned.below_write HB.out (g := b5) (i := 8) (by omega) (I (1 + x8))
    clear c8 f8 G4 G5 HB
    generalize World.setCell u4 ⟨b5, 8, none⟩ (I (1 + x8)) = u5 at g4 g5 hb ⊢
    have G4 := Lib.hid g4
    have G5 := Lib.hid g5
    have HB := Lib.hid hb
    clear g4 g5 hb
    have c9 : u5.cell? ⟨b5, 9, none⟩ = some (I 0) := by rw [cell_of_row _ _ _ _ _ _ G5.out]; rfl
    have f9 : u5.frozen? ⟨b5, 9, none⟩ = false := frozen_of_row _ _ _ _ _ G5.out
    go_wp2_with fail
    refine (Fb.out _ HB.out).mono ?_
    rintro e w' ⟨rfl, hq⟩
    subst w'
    go_upto_region 7 with fail
    have g5 := heap_setCell_same u5 b5 9 _ _ (I (1 + xb / 10)) G5.out
    simp only [List.setIfInBounds_toArray, List.set_cons_succ, List.set_cons_zero] at g5
    have g4 := (Below.heap_setCell u5 ⟨b5, 9, none⟩ (I (1 + xb / 10)) w.heap.size (by simp; omega)).trans G4.out
    have hb := Owned.below_write HB.out (g := b5) (i := 9) (by omega) (I (1 + xb / 10))
    clear c9 f9 G4 G5 HB
    generalize World.setCell u5 ⟨b5, 9, none⟩ (I (1 + xb / 10)) = u6 at g4 g5 hb ⊢
    have G4 := Lib.hid g4
    have G5 := Lib.hid g5
    have HB := Lib.hid hb
    clear g4 g5 hb
    have c10 : u6.cell? ⟨b5, 10, none⟩ = some (I 0) := by rw [cell_of_row _ _ _ _ _ _ G5.out]; rfl
    have f10 : u6.frozen? ⟨b5, 10, none⟩ = false := frozen_of_row _ _ _ _ _ G5.out
    go_wp2_with fail
    refine (F9.out _ HB.out).mono ?_
    rintro e w' ⟨rfl, hq⟩
    subst w'
    go_upto_region 8 with fail
    have g5 := heap_setCell_same u6 b5 10 _ _ (I x9) G5.out
    simp only [List.setIfInBounds_toArray, List.set_cons_succ, List.set_cons_zero] at g5
    have g4 := (Below.heap_setCell u6 ⟨b5, 10, none⟩ (I x9) w.heap.size (by simp; omega)).trans G4.out
    have hb := Owned.below_write HB.out (g := b5) (i := 10) (by omega) (I x9)
    clear c10 f10 G4 G5 HB
    generalize World.setCell u6 ⟨b5, 10, none⟩ (I x9) = u7 at g4 g5 hb ⊢
    have G4 := Lib.hid g4
    have G5 := Lib.hid g5
    have HB := Lib.hid hb
    clear g4 g5 hb
    have c8 : u7.cell? ⟨b5, 8, none⟩ = some (I (1 + x8)) := by rw [cell_of_row _ _ _ _ _ _ G5.out]; rfl
    have c10 : u7.cell? ⟨b5, 10, none⟩ = some (I x9) := by rw [cell_of_row _ _ _ _ _ _ G5.out]; rfl
    have f10 : u7.frozen? ⟨b5, 10, none⟩ = false := frozen_of_row _ _ _ _ _ G5.out
    by_cases h9 : x9 > 3
    · have RC : Hid (recall x9 (1 + x8) = 0) := Lib.hid (by unfold recall; rw [if_pos (by omega)])
      have H9 := Lib.hid h9
      have q9 : ¬ (x9 ≤ 3) := by omega
      go_upto_region 10 with fail
      have g5 := heap_setCell_same u7 b5 10 _ _ (I 0) G5.out
      simp only [List.setIfInBounds_toArray, List.set_cons_succ, List.set_cons_zero] at g5
      have g4 := (Below.heap_setCell u7 ⟨b5, 10, none⟩ (I 0) w.heap.size (by simp; omega)).trans G4.out
      have hb := Owned.below_write HB.out (g := b5) (i := 10) (by omega) (I 0)
      clear c8 c10 f10 G4 G5 HB
      generalize World.setCell u7 ⟨b5, 10, none⟩ (I 0) = u8 at g4 g5 hb ⊢
      have G4 := Lib.hid g4
      have G5 := Lib.hid g5
      have HB := Lib.hid hb
      clear g4 g5 hb
      have c11 : u8.cell? ⟨b5, 11, none⟩ = some (.bool false) := by rw [cell_of_row _ _ _ _ _ _ G5.out]; rfl
      have f11 : u8.frozen? ⟨b5, 11, none⟩ = false := frozen_of_row _ _ _ _ _ G5.out
      go_wp2_with fail
      refine (Ft.out _ HB.out).mono ?_
      rintro e w' ⟨rfl, hq⟩
      subst w'
      go_upto_region 11 with fail
      have g5 := heap_setCell_same u8 b5 11 _ _ (.bool (decide (xt > 0))) G5.out
      simp only [List.setIfInBounds_toArray, List.set_cons_succ, List.set_cons_zero] at g5
      have g4 := (Below.heap_setCell u8 ⟨b5, 11, none⟩ (.bool (decide (xt > 0))) w.heap.size (by simp; omega)).trans G4.out
      have hb := Owned.below_write HB.out (g := b5) (i := 11) (by omega) (.bool (decide (xt > 0)))
      clear c11 f11 G4 G5 HB
      generalize World.setCell u8 ⟨b5, 11, none⟩ (.bool (decide (xt > 0))) = u9 at g4 g5 hb ⊢
      have G4 := Lib.hid g4
      have G5 := Lib.hid g5
      have HB := Lib.hid hb
      clear g4 g5 hb
      have c12 : u9.cell? ⟨b5, 12, none⟩ = some (.bool false) := by rw [cell_of_row _ _ _ _ _ _ G5.out]; rfl
      have f12 : u9.frozen? ⟨b5, 12, none⟩ = false := frozen_of_row _ _ _ _ _ G5.out
      go_wp2_with fail
      refine (Fe.out _ HB.out).mono ?_
      rintro e w' ⟨rfl, hq⟩
      subst w'
      go_upto_region 12 with fail
      have g5 := heap_setCell_same u9 b5 12 _ _ (.bool (decide (xe = 1))) G5.out
      simp only [List.setIfInBounds_toArray, List.set_cons_succ, List.set_cons_zero] at g5
      have g4 := (Below.heap_setCell u9 ⟨b5, 12, none⟩ (.bool (decide (xe = 1))) w.heap.size (by simp; omega)).trans G4.out
      have hb := Owned.below_write HB.out (g := b5) (i := 12) (by omega) (.bool (decide (xe = 1)))
      clear c12 f12 G4 G5 HB
      generalize World.setCell u9 ⟨b5, 12, none⟩ (.bool (decide (xe = 1))) = u10 at g4 g5 hb ⊢
      have G4 := Lib.hid g4
      have G5 := Lib.hid g5
      have HB := Lib.hid hb
      clear g4 g5 hb
      have FIN : Hid (R.cells.toArray = #[.bool true, I (1 + x0), I x1, I (1 + x0 + x5), I (1 + x0 + x5 + x6), I (1 + x2), I (10 + x3), I x4, I (1 + x8), I (1 + xb / 10), I 0, .bool (decide (xt > 0)), .bool (decide (xe = 1))]) := Lib.hid (by rw [RES.out]; simp only [Ph.cells, if_pos H7.out, RC.out])
      have LV : Hid (Lies u10 ⟨b5, 0, none⟩ #[.bool true, I (1 + x0), I x1, I (1 + x0 + x5), I (1 + x0 + x5 + x6), I (1 + x2), I (10 + x3), I x4, I (1 + x8), I (1 + xb / 10), I 0, .bool (decide (xt > 0)), .bool (decide (xe = 1))].toList) := Lib.hid (Row.lies_of_block G5.out)
      have HG := Lib.hid (below_setRow HB.out (g := w.heap.size) (Nat.le_refl _) #[.bool true, I (1 + x0), I x1, I (1 + x0 + x5), I (1 + x0 + x5 + x6), I (1 + x2), I (10 + x3), I x4, I (1 + x8), I (1 + xb / 10), I 0, .bool (decide (xt > 0)), .bool (decide (xe = 1))])
      have HK := Lib.hid (setRow_heap u10 w.heap.size _ #[.bool true, I (1 + x0), I x1, I (1 + x0 + x5), I (1 + x0 + x5 + x6), I (1 + x2), I (10 + x3), I x4, I (1 + x8), I (1 + xb / 10), I 0, .bool (decide (xt > 0)), .bool (decide (xe = 1))] _ _ G4.out)
      go_wp2_with (first | (refine Row.wpList_load_g 24 _ rfl (by first | rfl | go_simp) ⟨b5, 0, none⟩ rfl #[.bool true, I (1 + x0), I x1, I (1 + x0 + x5), I (1 + x0 + x5 + x6), I (1 + x2), I (10 + x3), I x4, I (1 + x8), I (1 + xb / 10), I 0, .bool (decide (xt > 0)), .bool (decide (xe = 1))].toList _ LV.out Try.underlying24 rfl infoP ?_) | (refine wpList_store_row rfl 24 _ _ rfl w.heap.size #[.bool true, I (1 + x0), I x1, I (1 + x0 + x5), I (1 + x0 + x5 + x6), I (1 + x2), I (10 + x3), I x4, I (1 + x8), I (1 + xb / 10), I 0, .bool (decide (xt > 0)), .bool (decide (xe = 1))] rfl rfl 24 _ G4.out infoP rfl (by simp [Value.oneCell']) ?_))
      generalize u10.setRow w.heap.size #[.bool true, I (1 + x0), I x1, I (1 + x0 + x5), I (1 + x0 + x5 + x6), I (1 + x2), I (10 + x3), I x4, I (1 + x8), I (1 + xb / 10), I 0, .bool (decide (xt > 0)), .bool (decide (xe = 1))] = uz at HG HK ⊢
      go_wp2_with fail
      (try simp only [Exit.inBlock, Exit.then])
      refine bodyPost_ret (v := .agg #[.bool true, I (1 + x0), I x1, I (1 + x0 + x5), I (1 + x0 + x5 + x6), I (1 + x2), I (10 + x3), I x4, I (1 + x8), I (1 + xb / 10), I 0, .bool (decide (xt > 0)), .bool (decide (xe = 1))]) ?_ rfl ⟨by rw [FIN.out], HG.out⟩
      exact results_cell_row rfl _ _ w.heap.size 24 _ (0, 0) _ rfl HK.out Try.underlying24 rfl infoP
    · have RC : Hid (recall x9 (1 + x8) = x9) := Lib.hid (by unfold recall; rw [if_neg (by omega)])
      have H9 := Lib.hid h9
      have q9 : x9 ≤ 3 := by omega
      have q8 : (1 + x8 == 0) = false := by rw [beq_eq_false_iff_ne]; omega
      have Q8 := Lib.hid (show ¬ (1 + x8 = 0) from by omega)
      by_cases h3 : x9 = 3
      · have e3 : (x9 == 3) = true := by simpa using h3
        clear h3 h9
        go_upto_region 10 with fail
        clear c8 c10 f10 e3 q8
        have c11 : u7.cell? ⟨b5, 11, none⟩ = some (.bool false) := by rw [cell_of_row _ _ _ _ _ _ G5.out]; rfl
        have f11 : u7.frozen? ⟨b5, 11, none⟩ = false := frozen_of_row _ _ _ _ _ G5.out
        go_wp2_with fail
        refine (Ft.out _ HB.out).mono ?_
        rintro e w' ⟨rfl, hq⟩
        subst w'
        go_upto_region 11 with fail
        have g5 := heap_setCell_same u7 b5 11 _ _ (.bool (decide (xt > 0))) G5.out
        simp only [List.setIfInBounds_toArray, List.set_cons_succ, List.set_cons_zero] at g5
        have g4 := (Below.heap_setCell u7 ⟨b5, 11, none⟩ (.bool (decide (xt > 0))) w.heap.size (by simp; omega)).trans G4.out
        have hb := Owned.below_write HB.out (g := b5) (i := 11) (by omega) (.bool (decide (xt > 0)))
        clear c11 f11 G4 G5 HB
        generalize World.setCell u7 ⟨b5, 11, none⟩ (.bool (decide (xt > 0))) = u8 at g4 g5 hb ⊢
        have G4 := Lib.hid g4
        have G5 := Lib.hid g5
        have HB := Lib.hid hb
        clear g4 g5 hb
        have c12 : u8.cell? ⟨b5, 12, none⟩ = some (.bool false) := by rw [cell_of_row _ _ _ _ _ _ G5.out]; rfl
        have f12 : u8.frozen? ⟨b5, 12, none⟩ = false := frozen_of_row _ _ _ _ _ G5.out
        go_wp2_with fail
        refine (Fe.out _ HB.out).mono ?_
        rintro e w' ⟨rfl, hq⟩
        subst w'
        go_upto_region 12 with fail
        have g5 := heap_setCell_same u8 b5 12 _ _ (.bool (decide (xe = 1))) G5.out
        simp only [List.setIfInBounds_toArray, List.set_cons_succ, List.set_cons_zero] at g5
        have g4 := (Below.heap_setCell u8 ⟨b5, 12, none⟩ (.bool (decide (xe = 1))) w.heap.size (by simp; omega)).trans G4.out
        have hb := Owned.below_write HB.out (g := b5) (i := 12) (by omega) (.bool (decide (xe = 1)))
        clear c12 f12 G4 G5 HB
        generalize World.setCell u8 ⟨b5, 12, none⟩ (.bool (decide (xe = 1))) = u9 at g4 g5 hb ⊢
        have G4 := Lib.hid g4
        have G5 := Lib.hid g5
        have HB := Lib.hid hb
        clear g4 g5 hb
        have FIN : Hid (R.cells.toArray = #[.bool true, I (1 + x0), I x1, I (1 + x0 + x5), I (1 + x0 + x5 + x6), I (1 + x2), I (10 + x3), I x4, I (1 + x8), I (1 + xb / 10), I x9, .bool (decide (xt > 0)), .bool (decide (xe = 1))]) := Lib.hid (by rw [RES.out]; simp only [Ph.cells, if_pos H7.out, RC.out])
        have LV : Hid (Lies u9 ⟨b5, 0, none⟩ #[.bool true, I (1 + x0), I x1, I (1 + x0 + x5), I (1 + x0 + x5 + x6), I (1 + x2), I (10 + x3), I x4, I (1 + x8), I (1 + xb / 10), I x9, .bool (decide (xt > 0)), .bool (decide (xe = 1))].toList) := Lib.hid (Row.lies_of_block G5.out)
        have HG := Lib.hid (below_setRow HB.out (g := w.heap.size) (Nat.le_refl _) #[.bool true, I (1 + x0), I x1, I (1 + x0 + x5), I (1 + x0 + x5 + x6), I (1 + x2), I (10 + x3), I x4, I (1 + x8), I (1 + xb / 10), I x9, .bool (decide (xt > 0)), .bool (decide (xe = 1))])
        have HK := Lib.hid (setRow_heap u9 w.heap.size _ #[.bool true, I (1 + x0), I x1, I (1 + x0 + x5), I (1 + x0 + x5 + x6), I (1 + x2), I (10 + x3), I x4, I (1 + x8), I (1 + xb / 10), I x9, .bool (decide (xt > 0)), .bool (decide (xe = 1))] _ _ G4.out)
        go_wp2_with (first | (refine Row.wpList_load_g 24 _ rfl (by first | rfl | go_simp) ⟨b5, 0, none⟩ rfl #[.bool true, I (1 + x0), I x1, I (1 + x0 + x5), I (1 + x0 + x5 + x6), I (1 + x2), I (10 + x3), I x4, I (1 + x8), I (1 + xb / 10), I x9, .bool (decide (xt > 0)), .bool (decide (xe = 1))].toList _ LV.out Try.underlying24 rfl infoP ?_) | (refine wpList_store_row rfl 24 _ _ rfl w.heap.size #[.bool true, I (1 + x0), I x1, I (1 + x0 + x5), I (1 + x0 + x5 + x6), I (1 + x2), I (10 + x3), I x4, I (1 + x8), I (1 + xb / 10), I x9, .bool (decide (xt > 0)), .bool (decide (xe = 1))] rfl rfl 24 _ G4.out infoP rfl (by simp [Value.oneCell']) ?_))
        generalize u9.setRow w.heap.size #[.bool true, I (1 + x0), I x1, I (1 + x0 + x5), I (1 + x0 + x5 + x6), I (1 + x2), I (10 + x3), I x4, I (1 + x8), I (1 + xb / 10), I x9, .bool (decide (xt > 0)), .bool (decide (xe = 1))] = uz at HG HK ⊢
        go_wp2_with fail
        (try simp only [Exit.inBlock, Exit.then])
        refine bodyPost_ret (v := .agg #[.bool true, I (1 + x0), I x1, I (1 + x0 + x5), I (1 + x0 + x5 + x6), I (1 + x2), I (10 + x3), I x4, I (1 + x8), I (1 + xb / 10), I x9, .bool (decide (xt > 0)), .bool (decide (xe = 1))]) ?_ rfl ⟨by rw [FIN.out], HG.out⟩
        exact results_cell_row rfl _ _ w.heap.size 24 _ (0, 0) _ rfl HK.out Try.underlying24 rfl infoP
      · have e3 : (x9 == 3) = false := by simpa using h3
        clear h3 h9
        go_upto_region 10 with fail
        clear c8 c10 f10 e3 q8
        have c11 : u7.cell? ⟨b5, 11, none⟩ = some (.bool false) := by rw [cell_of_row _ _ _ _ _ _ G5.out]; rfl
        have f11 : u7.frozen? ⟨b5, 11, none⟩ = false := frozen_of_row _ _ _ _ _ G5.out
        go_wp2_with fail
        refine (Ft.out _ HB.out).mono ?_
        rintro e w' ⟨rfl, hq⟩
        subst w'
        go_upto_region 11 with fail
        have g5 := heap_setCell_same u7 b5 11 _ _ (.bool (decide (xt > 0))) G5.out
        simp only [List.setIfInBounds_toArray, List.set_cons_succ, List.set_cons_zero] at g5
        have g4 := (Below.heap_setCell u7 ⟨b5, 11, none⟩ (.bool (decide (xt > 0))) w.heap.size (by simp; omega)).trans G4.out
        have hb := Owned.below_write HB.out (g := b5) (i := 11) (by omega) (.bool (decide (xt > 0)))
        clear c11 f11 G4 G5 HB
        generalize World.setCell u7 ⟨b5, 11, none⟩ (.bool (decide (xt > 0))) = u8 at g4 g5 hb ⊢
        have G4 := Lib.hid g4
        have G5 := Lib.hid g5
        have HB := Lib.hid hb
        clear g4 g5 hb
        have c12 : u8.cell? ⟨b5, 12, none⟩ = some (.bool false) := by rw [cell_of_row _ _ _ _ _ _ G5.out]; rfl
        have f12 : u8.frozen? ⟨b5, 12, none⟩ = false := frozen_of_row _ _ _ _ _ G5.out
        go_wp2_with fail
        refine (Fe.out _ HB.out).mono ?_
        rintro e w' ⟨rfl, hq⟩
        subst w'
        go_upto_region 12 with fail
        have g5 := heap_setCell_same u8 b5 12 _ _ (.bool (decide (xe = 1))) G5.out
        simp only [List.setIfInBounds_toArray, List.set_cons_succ, List.set_cons_zero] at g5
        have g4 := (Below.heap_setCell u8 ⟨b5, 12, none⟩ (.bool (decide (xe = 1))) w.heap.size (by simp; omega)).trans G4.out
        have hb := Owned.below_write HB.out (g := b5) (i := 12) (by omega) (.bool (decide (xe = 1)))
        clear c12 f12 G4 G5 HB
        generalize World.setCell u8 ⟨b5, 12, none⟩ (.bool (decide (xe = 1))) = u9 at g4 g5 hb ⊢
        have G4 := Lib.hid g4
        have G5 := Lib.hid g5
        have HB := Lib.hid hb
        clear g4 g5 hb
        have FIN : Hid (R.cells.toArray = #[.bool true, I (1 + x0), I x1, I (1 + x0 + x5), I (1 + x0 + x5 + x6), I (1 + x2), I (10 + x3), I x4, I (1 + x8), I (1 + xb / 10), I x9, .bool (decide (xt > 0)), .bool (decide (xe = 1))]) := Lib.hid (by rw [RES.out]; simp only [Ph.cells, if_pos H7.out, RC.out])
        have LV : Hid (Lies u9 ⟨b5, 0, none⟩ #[.bool true, I (1 + x0), I x1, I (1 + x0 + x5), I (1 + x0 + x5 + x6), I (1 + x2), I (10 + x3), I x4, I (1 + x8), I (1 + xb / 10), I x9, .bool (decide (xt > 0)), .bool (decide (xe = 1))].toList) := Lib.hid (Row.lies_of_block G5.out)
        have HG := Lib.hid (below_setRow HB.out (g := w.heap.size) (Nat.le_refl _) #[.bool true, I (1 + x0), I x1, I (1 + x0 + x5), I (1 + x0 + x5 + x6), I (1 + x2), I (10 + x3), I x4, I (1 + x8), I (1 + xb / 10), I x9, .bool (decide (xt > 0)), .bool (decide (xe = 1))])
        have HK := Lib.hid (setRow_heap u9 w.heap.size _ #[.bool true, I (1 + x0), I x1, I (1 + x0 + x5), I (1 + x0 + x5 + x6), I (1 + x2), I (10 + x3), I x4, I (1 + x8), I (1 + xb / 10), I x9, .bool (decide (xt > 0)), .bool (decide (xe = 1))] _ _ G4.out)
        go_wp2_with (first | (refine Row.wpList_load_g 24 _ rfl (by first | rfl | go_simp) ⟨b5, 0, none⟩ rfl #[.bool true, I (1 + x0), I x1, I (1 + x0 + x5), I (1 + x0 + x5 + x6), I (1 + x2), I (10 + x3), I x4, I (1 + x8), I (1 + xb / 10), I x9, .bool (decide (xt > 0)), .bool (decide (xe = 1))].toList _ LV.out Try.underlying24 rfl infoP ?_) | (refine wpList_store_row rfl 24 _ _ rfl w.heap.size #[.bool true, I (1 + x0), I x1, I (1 + x0 + x5), I (1 + x0 + x5 + x6), I (1 + x2), I (10 + x3), I x4, I (1 + x8), I (1 + xb / 10), I x9, .bool (decide (xt > 0)), .bool (decide (xe = 1))] rfl rfl 24 _ G4.out infoP rfl (by simp [Value.oneCell']) ?_))
        generalize u9.setRow w.heap.size #[.bool true, I (1 + x0), I x1, I (1 + x0 + x5), I (1 + x0 + x5 + x6), I (1 + x2), I (10 + x3), I x4, I (1 + x8), I (1 + xb / 10), I x9, .bool (decide (xt > 0)), .bool (decide (xe = 1))] = uz at HG HK ⊢
        go_wp2_with fail
        (try simp only [Exit.inBlock, Exit.then])
        refine bodyPost_ret (v := .agg #[.bool true, I (1 + x0), I x1, I (1 + x0 + x5), I (1 + x0 + x5 + x6), I (1 + x2), I (10 + x3), I x4, I (1 + x8), I (1 + xb / 10), I x9, .bool (decide (xt > 0)), .bool (decide (xe = 1))]) ?_ rfl ⟨by rw [FIN.out], HG.out⟩
        exact results_cell_row rfl _ _ w.heap.size 24 _ (0, 0) _ rfl HK.out Try.underlying24 rfl infoP
  · have H7 := Lib.hid h7
    have e7 : (x7 == 1) = false := by simpa using h7
    clear h7
    go_upto_region 7 with fail
    have c10 : u4.cell? ⟨b5, 10, none⟩ = some (I 0) := by rw [cell_of_row _ _ _ _ _ _ G5.out]; rfl
    have f10 : u4.frozen? ⟨b5, 10, none⟩ = false := frozen_of_row _ _ _ _ _ G5.out
    go_wp2_with fail
    refine (F9.out _ HB.out).mono ?_
    rintro e w' ⟨rfl, hq⟩
    subst w'
    go_upto_region 8 with fail
    have g5 := heap_setCell_same u4 b5 10 _ _ (I x9) G5.out
    simp only [List.setIfInBounds_toArray, List.set_cons_succ, List.set_cons_zero] at g5
    have g4 := (Below.heap_setCell u4 ⟨b5, 10, none⟩ (I x9) w.heap.size (by simp; omega)).trans G4.out
    have hb := Owned.below_write HB.out (g := b5) (i := 10) (by omega) (I x9)
    clear c10 f10 G4 G5 HB
    generalize World.setCell u4 ⟨b5, 10, none⟩ (I x9) = u5 at g4 g5 hb ⊢
    have G4 := Lib.hid g4
    have G5 := Lib.hid g5
    have HB := Lib.hid hb
    clear g4 g5 hb
    have c8 : u5.cell? ⟨b5, 8, none⟩ = some (I 0) := by rw [cell_of_row _ _ _ _ _ _ G5.out]; rfl
    have c10 : u5.cell? ⟨b5, 10, none⟩ = some (I x9) := by rw [cell_of_row _ _ _ _ _ _ G5.out]; rfl
    have f10 : u5.frozen? ⟨b5, 10, none⟩ = false := frozen_of_row _ _ _ _ _ G5.out
    by_cases h9 : x9 > 3
    · have RC : Hid (recall x9 (0) = 0) := Lib.hid (by unfold recall; rw [if_pos (by omega)])
      have H9 := Lib.hid h9
      have q9 : ¬ (x9 ≤ 3) := by omega
      go_upto_region 10 with fail
      have g5 := heap_setCell_same u5 b5 10 _ _ (I 0) G5.out
      simp only [List.setIfInBounds_toArray, List.set_cons_succ, List.set_cons_zero] at g5
      have g4 := (Below.heap_setCell u5 ⟨b5, 10, none⟩ (I 0) w.heap.size (by simp; omega)).trans G4.out
      have hb := Owned.below_write HB.out (g := b5) (i := 10) (by omega) (I 0)
      clear c8 c10 f10 G4 G5 HB
      generalize World.setCell u5 ⟨b5, 10, none⟩ (I 0) = u6 at g4 g5 hb ⊢
      have G4 := Lib.hid g4
      have G5 := Lib.hid g5
      have HB := Lib.hid hb
      clear g4 g5 hb
      have c11 : u6.cell? ⟨b5, 11, none⟩ = some (.bool false) := by rw [cell_of_row _ _ _ _ _ _ G5.out]; rfl
      have f11 : u6.frozen? ⟨b5, 11, none⟩ = false := frozen_of_row _ _ _ _ _ G5.out
      go_wp2_with fail
      refine (Ft.out _ HB.out).mono ?_
      rintro e w' ⟨rfl, hq⟩
      subst w'
      go_upto_region 11 with fail
      have g5 := heap_setCell_same u6 b5 11 _ _ (.bool (decide (xt > 0))) G5.out
      simp only [List.setIfInBounds_toArray, List.set_cons_succ, List.set_cons_zero] at g5
      have g4 := (Below.heap_setCell u6 ⟨b5, 11, none⟩ (.bool (decide (xt > 0))) w.heap.size (by simp; omega)).trans G4.out
      have hb := Owned.below_write HB.out (g := b5) (i := 11) (by omega) (.bool (decide (xt > 0)))
      clear c11 f11 G4 G5 HB
      generalize World.setCell u6 ⟨b5, 11, none⟩ (.bool (decide (xt > 0))) = u7 at g4 g5 hb ⊢
      have G4 := Lib.hid g4
      have G5 := Lib.hid g5
      have HB := Lib.hid hb
      clear g4 g5 hb
      have c12 : u7.cell? ⟨b5, 12, none⟩ = some (.bool false) := by rw [cell_of_row _ _ _ _ _ _ G5.out]; rfl
      have f12 : u7.frozen? ⟨b5, 12, none⟩ = false := frozen_of_row _ _ _ _ _ G5.out
      go_wp2_with fail
      refine (Fe.out _ HB.out).mono ?_
      rintro e w' ⟨rfl, hq⟩
      subst w'
      go_upto_region 12 with fail
      have g5 := heap_setCell_same u7 b5 12 _ _ (.bool (decide (xe = 1))) G5.out
      simp only [List.setIfInBounds_toArray, List.set_cons_succ, List.set_cons_zero] at g5
      have g4 := (Below.heap_setCell u7 ⟨b5, 12, none⟩ (.bool (decide (xe = 1))) w.heap.size (by simp; omega)).trans G4.out
      have hb := Owned.below_write HB.out (g := b5) (i := 12) (by omega) (.bool (decide (xe = 1)))
      clear c12 f12 G4 G5 HB
      generalize World.setCell u7 ⟨b5, 12, none⟩ (.bool (decide (xe = 1))) = u8 at g4 g5 hb ⊢
      have G4 := Lib.hid g4
      have G5 := Lib.hid g5
      have HB := Lib.hid hb
      clear g4 g5 hb
      have FIN : Hid (R.cells.toArray = #[.bool true, I (1 + x0), I x1, I (1 + x0 + x5), I (1 + x0 + x5 + x6), I (1 + x2), I (10 + x3), I x4, I 0, I 0, I 0, .bool (decide (xt > 0)), .bool (decide (xe = 1))]) := Lib.hid (by rw [RES.out]; simp only [Ph.cells, if_neg H7.out, RC.out])
      have LV : Hid (Lies u8 ⟨b5, 0, none⟩ #[.bool true, I (1 + x0), I x1, I (1 + x0 + x5), I (1 + x0 + x5 + x6), I (1 + x2), I (10 + x3), I x4, I 0, I 0, I 0, .bool (decide (xt > 0)), .bool (decide (xe = 1))].toList) := Lib.hid (Row.lies_of_block G5.out)
      have HG := Lib.hid (below_setRow HB.out (g := w.heap.size) (Nat.le_refl _) #[.bool true, I (1 + x0), I x1, I (1 + x0 + x5), I (1 + x0 + x5 + x6), I (1 + x2), I (10 + x3), I x4, I 0, I 0, I 0, .bool (decide (xt > 0)), .bool (decide (xe = 1))])
      have HK := Lib.hid (setRow_heap u8 w.heap.size _ #[.bool true, I (1 + x0), I x1, I (1 + x0 + x5), I (1 + x0 + x5 + x6), I (1 + x2), I (10 + x3), I x4, I 0, I 0, I 0, .bool (decide (xt > 0)), .bool (decide (xe = 1))] _ _ G4.out)
      go_wp2_with (first | (refine Row.wpList_load_g 24 _ rfl (by first | rfl | go_simp) ⟨b5, 0, none⟩ rfl #[.bool true, I (1 + x0), I x1, I (1 + x0 + x5), I (1 + x0 + x5 + x6), I (1 + x2), I (10 + x3), I x4, I 0, I 0, I 0, .bool (decide (xt > 0)), .bool (decide (xe = 1))].toList _ LV.out Try.underlying24 rfl infoP ?_) | (refine wpList_store_row rfl 24 _ _ rfl w.heap.size #[.bool true, I (1 + x0), I x1, I (1 + x0 + x5), I (1 + x0 + x5 + x6), I (1 + x2), I (10 + x3), I x4, I 0, I 0, I 0, .bool (decide (xt > 0)), .bool (decide (xe = 1))] rfl rfl 24 _ G4.out infoP rfl (by simp [Value.oneCell']) ?_))
      generalize u8.setRow w.heap.size #[.bool true, I (1 + x0), I x1, I (1 + x0 + x5), I (1 + x0 + x5 + x6), I (1 + x2), I (10 + x3), I x4, I 0, I 0, I 0, .bool (decide (xt > 0)), .bool (decide (xe = 1))] = uz at HG HK ⊢
      go_wp2_with fail
      (try simp only [Exit.inBlock, Exit.then])
      refine bodyPost_ret (v := .agg #[.bool true, I (1 + x0), I x1, I (1 + x0 + x5), I (1 + x0 + x5 + x6), I (1 + x2), I (10 + x3), I x4, I 0, I 0, I 0, .bool (decide (xt > 0)), .bool (decide (xe = 1))]) ?_ rfl ⟨by rw [FIN.out], HG.out⟩
      exact results_cell_row rfl _ _ w.heap.size 24 _ (0, 0) _ rfl HK.out Try.underlying24 rfl infoP
    · have H9 := Lib.hid h9
      have q9 : x9 ≤ 3 := by omega
      by_cases h3 : x9 = 3
      · have RC : Hid (recall x9 (0) = 0) := Lib.hid (by unfold recall; rw [if_pos (by omega)])
        have H3 := Lib.hid h3
        have e3 : (x9 == 3) = true := by simpa using h3
        clear h3 h9
        go_upto_region 10 with fail
        have g5 := heap_setCell_same u5 b5 10 _ _ (I 0) G5.out
        simp only [List.setIfInBounds_toArray, List.set_cons_succ, List.set_cons_zero] at g5
        have g4 := (Below.heap_setCell u5 ⟨b5, 10, none⟩ (I 0) w.heap.size (by simp; omega)).trans G4.out
        have hb := Owned.below_write HB.out (g := b5) (i := 10) (by omega) (I 0)
        clear c8 c10 f10 G4 G5 HB
        generalize World.setCell u5 ⟨b5, 10, none⟩ (I 0) = u6 at g4 g5 hb ⊢
        have G4 := Lib.hid g4
        have G5 := Lib.hid g5
        have HB := Lib.hid hb
        clear g4 g5 hb
        clear e3
        have c11 : u6.cell? ⟨b5, 11, none⟩ = some (.bool false) := by rw [cell_of_row _ _ _ _ _ _ G5.out]; rfl
        have f11 : u6.frozen? ⟨b5, 11, none⟩ = false := frozen_of_row _ _ _ _ _ G5.out
        go_wp2_with fail
        refine (Ft.out _ HB.out).mono ?_
        rintro e w' ⟨rfl, hq⟩
        subst w'
        go_upto_region 11 with fail
        have g5 := heap_setCell_same u6 b5 11 _ _ (.bool (decide (xt > 0))) G5.out
        simp only [List.setIfInBounds_toArray, List.set_cons_succ, List.set_cons_zero] at g5
        have g4 := (Below.heap_setCell u6 ⟨b5, 11, none⟩ (.bool (decide (xt > 0))) w.heap.size (by simp; omega)).trans G4.out
        have hb := Owned.below_write HB.out (g := b5) (i := 11) (by omega) (.bool (decide (xt > 0)))
        clear c11 f11 G4 G5 HB
        generalize World.setCell u6 ⟨b5, 11, none⟩ (.bool (decide (xt > 0))) = u7 at g4 g5 hb ⊢
        have G4 := Lib.hid g4
        have G5 := Lib.hid g5
        have HB := Lib.hid hb
        clear g4 g5 hb
        have c12 : u7.cell? ⟨b5, 12, none⟩ = some (.bool false) := by rw [cell_of_row _ _ _ _ _ _ G5.out]; rfl
        have f12 : u7.frozen? ⟨b5, 12, none⟩ = false := frozen_of_row _ _ _ _ _ G5.out
        go_wp2_with fail
        refine (Fe.out _ HB.out).mono ?_
        rintro e w' ⟨rfl, hq⟩
        subst w'
        go_upto_region 12 with fail
        have g5 := heap_setCell_same u7 b5 12 _ _ (.bool (decide (xe = 1))) G5.out
        simp only [List.setIfInBounds_toArray, List.set_cons_succ, List.set_cons_zero] at g5
        have g4 := (Below.heap_setCell u7 ⟨b5, 12, none⟩ (.bool (decide (xe = 1))) w.heap.size (by simp; omega)).trans G4.out
        have hb := Owned.below_write HB.out (g := b5) (i := 12) (by omega) (.bool (decide (xe = 1)))
        clear c12 f12 G4 G5 HB
        generalize World.setCell u7 ⟨b5, 12, none⟩ (.bool (decide (xe = 1))) = u8 at g4 g5 hb ⊢
        have G4 := Lib.hid g4
        have G5 := Lib.hid g5
        have HB := Lib.hid hb
        clear g4 g5 hb
        have FIN : Hid (R.cells.toArray = #[.bool true, I (1 + x0), I x1, I (1 + x0 + x5), I (1 + x0 + x5 + x6), I (1 + x2), I (10 + x3), I x4, I 0, I 0, I 0, .bool (decide (xt > 0)), .bool (decide (xe = 1))]) := Lib.hid (by rw [RES.out]; simp only [Ph.cells, if_neg H7.out, RC.out])
        have LV : Hid (Lies u8 ⟨b5, 0, none⟩ #[.bool true, I (1 + x0), I x1, I (1 + x0 + x5), I (1 + x0 + x5 + x6), I (1 + x2), I (10 + x3), I x4, I 0, I 0, I 0, .bool (decide (xt > 0)), .bool (decide (xe = 1))].toList) := Lib.hid (Row.lies_of_block G5.out)
        have HG := Lib.hid (below_setRow HB.out (g := w.heap.size) (Nat.le_refl _) #[.bool true, I (1 + x0), I x1, I (1 + x0 + x5), I (1 + x0 + x5 + x6), I (1 + x2), I (10 + x3), I x4, I 0, I 0, I 0, .bool (decide (xt > 0)), .bool (decide (xe = 1))])
        have HK := Lib.hid (setRow_heap u8 w.heap.size _ #[.bool true, I (1 + x0), I x1, I (1 + x0 + x5), I (1 + x0 + x5 + x6), I (1 + x2), I (10 + x3), I x4, I 0, I 0, I 0, .bool (decide (xt > 0)), .bool (decide (xe = 1))] _ _ G4.out)
        go_wp2_with (first | (refine Row.wpList_load_g 24 _ rfl (by first | rfl | go_simp) ⟨b5, 0, none⟩ rfl #[.bool true, I (1 + x0), I x1, I (1 + x0 + x5), I (1 + x0 + x5 + x6), I (1 + x2), I (10 + x3), I x4, I 0, I 0, I 0, .bool (decide (xt > 0)), .bool (decide (xe = 1))].toList _ LV.out Try.underlying24 rfl infoP ?_) | (refine wpList_store_row rfl 24 _ _ rfl w.heap.size #[.bool true, I (1 + x0), I x1, I (1 + x0 + x5), I (1 + x0 + x5 + x6), I (1 + x2), I (10 + x3), I x4, I 0, I 0, I 0, .bool (decide (xt > 0)), .bool (decide (xe = 1))] rfl rfl 24 _ G4.out infoP rfl (by simp [Value.oneCell']) ?_))
        generalize u8.setRow w.heap.size #[.bool true, I (1 + x0), I x1, I (1 + x0 + x5), I (1 + x0 + x5 + x6), I (1 + x2), I (10 + x3), I x4, I 0, I 0, I 0, .bool (decide (xt > 0)), .bool (decide (xe = 1))] = uz at HG HK ⊢
        go_wp2_with fail
        (try simp only [Exit.inBlock, Exit.then])
        refine bodyPost_ret (v := .agg #[.bool true, I (1 + x0), I x1, I (1 + x0 + x5), I (1 + x0 + x5 + x6), I (1 + x2), I (10 + x3), I x4, I 0, I 0, I 0, .bool (decide (xt > 0)), .bool (decide (xe = 1))]) ?_ rfl ⟨by rw [FIN.out], HG.out⟩
        exact results_cell_row rfl _ _ w.heap.size 24 _ (0, 0) _ rfl HK.out Try.underlying24 rfl infoP
      · have RC : Hid (recall x9 (0) = x9) := Lib.hid (by unfold recall; rw [if_neg (by omega)])
        have H3 := Lib.hid h3
        have e3 : (x9 == 3) = false := by simpa using h3
        clear h3 h9
        go_upto_region 10 with fail
        clear c8 c10 f10 e3
        have c11 : u5.cell? ⟨b5, 11, none⟩ = some (.bool false) := by rw [cell_of_row _ _ _ _ _ _ G5.out]; rfl
        have f11 : u5.frozen? ⟨b5, 11, none⟩ = false := frozen_of_row _ _ _ _ _ G5.out
        go_wp2_with fail
        refine (Ft.out _ HB.out).mono ?_
        rintro e w' ⟨rfl, hq⟩
        subst w'
        go_upto_region 11 with fail
        have g5 := heap_setCell_same u5 b5 11 _ _ (.bool (decide (xt > 0))) G5.out
        simp only [List.setIfInBounds_toArray, List.set_cons_succ, List.set_cons_zero] at g5
        have g4 := (Below.heap_setCell u5 ⟨b5, 11, none⟩ (.bool (decide (xt > 0))) w.heap.size (by simp; omega)).trans G4.out
        have hb := Owned.below_write HB.out (g := b5) (i := 11) (by omega) (.bool (decide (xt > 0)))
        clear c11 f11 G4 G5 HB
        generalize World.setCell u5 ⟨b5, 11, none⟩ (.bool (decide (xt > 0))) = u6 at g4 g5 hb ⊢
        have G4 := Lib.hid g4
        have G5 := Lib.hid g5
        have HB := Lib.hid hb
        clear g4 g5 hb
        have c12 : u6.cell? ⟨b5, 12, none⟩ = some (.bool false) := by rw [cell_of_row _ _ _ _ _ _ G5.out]; rfl
        have f12 : u6.frozen? ⟨b5, 12, none⟩ = false := frozen_of_row _ _ _ _ _ G5.out
        go_wp2_with fail
        refine (Fe.out _ HB.out).mono ?_
        rintro e w' ⟨rfl, hq⟩
        subst w'
        go_upto_region 12 with fail
        have g5 := heap_setCell_same u6 b5 12 _ _ (.bool (decide (xe = 1))) G5.out
        simp only [List.setIfInBounds_toArray, List.set_cons_succ, List.set_cons_zero] at g5
        have g4 := (Below.heap_setCell u6 ⟨b5, 12, none⟩ (.bool (decide (xe = 1))) w.heap.size (by simp; omega)).trans G4.out
        have hb := Owned.below_write HB.out (g := b5) (i := 12) (by omega) (.bool (decide (xe = 1)))
        clear c12 f12 G4 G5 HB
        generalize World.setCell u6 ⟨b5, 12, none⟩ (.bool (decide (xe = 1))) = u7 at g4 g5 hb ⊢
        have G4 := Lib.hid g4
        have G5 := Lib.hid g5
        have HB := Lib.hid hb
        clear g4 g5 hb
        have FIN : Hid (R.cells.toArray = #[.bool true, I (1 + x0), I x1, I (1 + x0 + x5), I (1 + x0 + x5 + x6), I (1 + x2), I (10 + x3), I x4, I 0, I 0, I x9, .bool (decide (xt > 0)), .bool (decide (xe = 1))]) := Lib.hid (by rw [RES.out]; simp only [Ph.cells, if_neg H7.out, RC.out])
        have LV : Hid (Lies u7 ⟨b5, 0, none⟩ #[.bool true, I (1 + x0), I x1, I (1 + x0 + x5), I (1 + x0 + x5 + x6), I (1 + x2), I (10 + x3), I x4, I 0, I 0, I x9, .bool (decide (xt > 0)), .bool (decide (xe = 1))].toList) := Lib.hid (Row.lies_of_block G5.out)
        have HG := Lib.hid (below_setRow HB.out (g := w.heap.size) (Nat.le_refl _) #[.bool true, I (1 + x0), I x1, I (1 + x0 + x5), I (1 + x0 + x5 + x6), I (1 + x2), I (10 + x3), I x4, I 0, I 0, I x9, .bool (decide (xt > 0)), .bool (decide (xe = 1))])
        have HK := Lib.hid (setRow_heap u7 w.heap.size _ #[.bool true, I (1 + x0), I x1, I (1 + x0 + x5), I (1 + x0 + x5 + x6), I (1 + x2), I (10 + x3), I x4, I 0, I 0, I x9, .bool (decide (xt > 0)), .bool (decide (xe = 1))] _ _ G4.out)
        go_wp2_with (first | (refine Row.wpList_load_g 24 _ rfl (by first | rfl | go_simp) ⟨b5, 0, none⟩ rfl #[.bool true, I (1 + x0), I x1, I (1 + x0 + x5), I (1 + x0 + x5 + x6), I (1 + x2), I (10 + x3), I x4, I 0, I 0, I x9, .bool (decide (xt > 0)), .bool (decide (xe = 1))].toList _ LV.out Try.underlying24 rfl infoP ?_) | (refine wpList_store_row rfl 24 _ _ rfl w.heap.size #[.bool true, I (1 + x0), I x1, I (1 + x0 + x5), I (1 + x0 + x5 + x6), I (1 + x2), I (10 + x3), I x4, I 0, I 0, I x9, .bool (decide (xt > 0)), .bool (decide (xe = 1))] rfl rfl 24 _ G4.out infoP rfl (by simp [Value.oneCell']) ?_))
        generalize u7.setRow w.heap.size #[.bool true, I (1 + x0), I x1, I (1 + x0 + x5), I (1 + x0 + x5 + x6), I (1 + x2), I (10 + x3), I x4, I 0, I 0, I x9, .bool (decide (xt > 0)), .bool (decide (xe = 1))] = uz at HG HK ⊢
        go_wp2_with fail
        (try simp only [Exit.inBlock, Exit.then])
        refine bodyPost_ret (v := .agg #[.bool true, I (1 + x0), I x1, I (1 + x0 + x5), I (1 + x0 + x5 + x6), I (1 + x2), I (10 + x3), I x4, I 0, I 0, I x9, .bool (decide (xt > 0)), .bool (decide (xe = 1))]) ?_ rfl ⟨by rw [FIN.out], HG.out⟩
        exact results_cell_row rfl _ _ w.heap.size 24 _ (0, 0) _ rfl HK.out Try.underlying24 rfl infoP
end GenP
end Go.Proofs.Ytambpohphbdhcaa
