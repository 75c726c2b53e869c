/- 3 texts in one file, in build order. -/
import Derived.Test.YtfekngnfjemgeaaRows
import Derived.Test.YtfekngnfjemgeaaPart12
import Derived.Test.YtfekngnfjemgeaaPart14
import Derived.Test.YtfekngnfjemgeaaPart05
set_option linter.unusedVariables false
set_option linter.unusedSimpArgs false
set_option linter.unusedSectionVars false
/- Rule 3 of package check and of the document are one; so are their Faults. No program in it. -/
namespace Go.Proofs.Ytfekngnfjemgeaa.ChkZ
open Go Tab PlaceM PlanM OnS May ChkM ChkX
open PlanW (where_some)
set_option linter.unusedVariables false
set_option linter.unusedSimpArgs false
/-- The places of a group, and their phases. -/
def inG (T : Tab) (g : Nat) : List Spt := (spots T).filter fun x => decide ((x.g : Int) = g)
def phG (T : Tab) (g : Nat) : List Int := (inG T g).map Spt.p
theorem memb_eq (T : Tab) (g : Nat) : SetM.of (phG T g) = membS T g := memb_spots T g
theorem mem_inG {T : Tab} {g : Nat} {x : Spt} : x ∈ inG T g ↔ x ∈ spots T ∧ x.g = g := by
  unfold inG
  rw [List.mem_filter, decide_eq_true_eq]
  constructor
  · rintro ⟨h1, h2⟩; exact ⟨h1, by omega⟩
  · rintro ⟨h1, h2⟩; exact ⟨h1, by omega⟩
theorem spot_range {T : Tab} {x : Spt} (h : x ∈ spots T) : 0 ≤ x.p ∧ x.p < 8 := by obtain ⟨_, _, _, h1, h2⟩ := mem_spots.1 h; exact ⟨h1, h2⟩
theorem ph_range {T : Tab} {g : Nat} {p : Int} (h : p ∈ phG T g) : 0 ≤ p ∧ p < 8 := by
  obtain ⟨x, hx, rfl⟩ := List.mem_map.1 h
  exact spot_range (mem_inG.1 hx).1
theorem has_memb {T : Tab} {g : Nat} {q : Int} : SetM.has (membS T g : Nat) q = true ↔ q ∈ phG T g := by
  rw [← memb_eq, has_of]
  constructor
  · rintro ⟨_, _, h⟩; exact h
  · intro h; have := ph_range h; exact ⟨this.1, this.2, h⟩
theorem has_or {m n : Nat} (hm : m < 256) (hn : n < 256) {q : Int} : SetM.has ((m ||| n : Nat) : Int) q = true ↔ SetM.has (m : Int) q = true ∨ SetM.has (n : Int) q = true := by
  have hmn : m ||| n < 256 := Nat.or_lt_two_pow (n := 8) hm hn
  rw [has_bits, has_bits, has_bits, SetM.low_nat _ hmn, SetM.low_nat _ hm, SetM.low_nat _ hn, Nat.testBit_or, Bool.or_eq_true]
  constructor
  · rintro ⟨h1, h2, h3 | h3⟩
    · exact .inl ⟨h1, h2, h3⟩
    · exact .inr ⟨h1, h2, h3⟩
  · rintro (⟨h1, h2, h3⟩ | ⟨h1, h2, h3⟩)
    · exact ⟨h1, h2, .inl h3⟩
    · exact ⟨h1, h2, .inr h3⟩
theorem has_placed {T : Tab} {q : Int} : ∀ g, SetM.has (placed T g : Nat) q = true ↔ ∃ y ∈ spots T, y.g < g ∧ y.p = q
  | 0 => by
    constructor
    · intro h; have := (has_bits.1 h).2.2; rw [show ((placed T 0 : Nat) : Int) = ((0 : Nat) : Int) from rfl, SetM.low_nat 0 (by decide), Nat.zero_testBit] at this; cases this
    · rintro ⟨y, _, h, _⟩; omega
  | g + 1 => by
    rw [show placed T (g + 1) = placed T g ||| membS T g from rfl, has_or (ChkH.placed_lt T g) (memb_lt T g), has_placed g, has_memb]
    constructor
    · rintro (⟨y, h1, h2, h3⟩ | h)
      · exact ⟨y, h1, by omega, h3⟩
      · obtain ⟨y, hy, rfl⟩ := List.mem_map.1 h
        obtain ⟨h1, h2⟩ := mem_inG.1 hy
        exact ⟨y, h1, by omega, rfl⟩
    · rintro ⟨y, h1, h2, h3⟩
      by_cases h4 : y.g < g
      · exact .inl ⟨y, h1, h4, h3⟩
      · exact .inr (List.mem_map.2 ⟨y, mem_inG.2 ⟨h1, by omega⟩, h3⟩)
/-! ### the document's walk through a group -/
def go (on : Int) : List Int → Nat × Nat → Option (Nat × Nat)
  | [], s => some s
  | p :: l, (n, s) => if !SetM.has on p || SetM.has (s : Nat) p then none else go on l (n + 1, SetM.withN (s : Nat) p)
theorem fold_go (on : Int) (g : Nat) : ∀ (l : List Spt) (n s : Nat), foldR on g l (n, s) = go on ((l.filter fun x => decide ((x.g : Int) = g)).map Spt.p) (n, s)
  | [], n, s => rfl
  | x :: l, n, s => by
    by_cases h : x.g = g
    · have hd : decide ((x.g : Int) = g) = true := by rw [decide_eq_true_eq]; omega
      rw [List.filter_cons, hd, if_pos rfl, List.map_cons, go]
      by_cases hb : (!SetM.has on x.p || SetM.has (s : Nat) x.p) = true
      · rw [RkR.fold_bad h hb, if_pos hb]
      · have hb' : (!SetM.has on x.p || SetM.has (s : Nat) x.p) = false := by simpa using hb
        rw [RkR.fold_good h hb', if_neg hb]
        exact fold_go on g l _ _
    · have hd : decide ((x.g : Int) = g) = false := by rw [decide_eq_false_iff_not]; omega
      rw [RkR.fold_other h, List.filter_cons, hd]
      exact fold_go on g l n s
theorem go_bad {on : Int} : ∀ {l : List Int} {n s : Nat}, go on l (n, s) = none → (∃ p ∈ l, SetM.has on p = false) ∨ (∃ p ∈ l, SetM.has (s : Nat) p = true) ∨ ¬ l.Nodup
  | [], n, s, h => by simp [go] at h
  | p :: l, n, s, h => by
    rw [go] at h
    split at h
    · rename_i hb
      rw [Bool.or_eq_true] at hb
      rcases hb with hb | hb
      · exact .inl ⟨p, List.mem_cons_self .., by simpa using hb⟩
      · exact .inr (.inl ⟨p, List.mem_cons_self .., hb⟩)
    · rcases go_bad h with ⟨q, h1, h2⟩ | ⟨q, h1, h2⟩ | h1
      · exact .inl ⟨q, List.mem_cons_of_mem _ h1, h2⟩
      · rw [SetM.has_with, Bool.or_eq_true] at h2
        rcases h2 with h2 | h2
        · exact .inr (.inl ⟨q, List.mem_cons_of_mem _ h1, h2⟩)
        · refine .inr (.inr fun hn => ?_)
          have : q = p := by rw [Bool.and_eq_true, beq_iff_eq] at h2; exact h2.2
          subst this
          exact (List.nodup_cons.1 hn).1 h1
      · exact .inr (.inr fun hn => h1 (List.nodup_cons.1 hn).2)
theorem go_good {on : Int} : ∀ {l : List Int} {n s n' s' : Nat}, s < 256 → (∀ p ∈ l, 0 ≤ p ∧ p < 8) → go on l (n, s) = some (n', s') →
    (∀ p ∈ l, SetM.has on p = true) ∧ (∀ p ∈ l, SetM.has (s : Nat) p = false) ∧ l.Nodup ∧ n' = n + l.length ∧ s' < 256 ∧ ∀ q, SetM.has (s' : Nat) q = true ↔ SetM.has (s : Nat) q = true ∨ q ∈ l
  | [], n, s, n', s', hs, _, h => by
    obtain ⟨rfl, rfl⟩ : n = n' ∧ s = s' := by simpa [go] using h
    exact ⟨by simp, by simp, List.nodup_nil, rfl, hs, by simp⟩
  | p :: l, n, s, n', s', hs, hr, h => by
    rw [go] at h
    split at h
    · cases h
    · rename_i hb
      have hb' : (!SetM.has on p || SetM.has (s : Nat) p) = false := by simpa using hb
      rw [Bool.or_eq_false_iff] at hb'
      have h1 : SetM.has on p = true := by simpa using hb'.1
      obtain ⟨a1, a2, a3, a4, a5, a6⟩ := go_good (SetM.with_lt _ _) (fun q hq => hr q (List.mem_cons_of_mem _ hq)) h
      have hp := hr p (List.mem_cons_self ..)
      have hw : ∀ q, SetM.has (SetM.withN (s : Nat) p : Nat) q = true ↔ SetM.has (s : Nat) q = true ∨ q = p := by
        intro q
        rw [SetM.has_with, Bool.or_eq_true, Bool.and_eq_true, beq_iff_eq]
        constructor
        · rintro (h | ⟨_, h⟩)
          · exact .inl h
          · exact .inr h
        · rintro (h | h)
          · exact .inl h
          · refine .inr ⟨?_, h⟩
            obtain ⟨k, rfl⟩ := Int.eq_ofNat_of_zero_le hp.1
            rw [SetM.bit_in k (by omega), bne_iff_ne]
            exact Nat.ne_of_gt (Nat.pow_pos (by decide))
      refine ⟨?_, ?_, ?_, ?_, a5, ?_⟩
      · intro q hq
        rcases List.mem_cons.1 hq with rfl | hq
        · exact h1
        · exact a1 q hq
      · intro q hq
        rcases List.mem_cons.1 hq with rfl | hq
        · exact hb'.2
        · cases e : SetM.has (s : Nat) q with
          | false => rfl
          | true => have := a2 q hq; rw [(hw q).2 (.inl e)] at this; cases this
      · refine List.nodup_cons.2 ⟨fun hm => ?_, a3⟩
        have := a2 p hm
        rw [(hw p).2 (.inr rfl)] at this
        cases this
      · rw [a4, List.length_cons]; omega
      · intro q
        rw [a6, hw, List.mem_cons]
        constructor
        · rintro ((h | h) | h)
          · exact .inl h
          · exact .inr (.inl h)
          · exact .inr (.inr h)
        · rintro (h | h | h)
          · exact .inl (.inl h)
          · exact .inl (.inr h)
          · exact .inr h
/-! ### first places -/
theorem Lt.asymm {x y : Spt} (h : Lt x y) (k : Lt y x) : False := by unfold Lt at h k; omega
theorem where_first {T : Tab} {x y : Spt} (hw : where_ T x.p = some x) (hy : y ∈ spots T) (hp : y.p = x.p) : ¬ Lt y x := by
  intro hl
  unfold where_ find at hw
  have hs := spots_sorted T
  rw [List.find?_eq_some_iff_append] at hw
  obtain ⟨_, l1, l2, e, h1⟩ := hw
  rw [e] at hy hs
  rcases List.mem_append.1 hy with hy | hy
  · have := h1 y hy
    rw [hp] at this
    simp at this
  · rcases List.mem_cons.1 hy with rfl | hy
    · exact Lt.irrefl hl
    · have := (List.pairwise_append.1 hs).2.1
      exact Lt.asymm hl ((List.pairwise_cons.1 this).1 y hy)
theorem at_some {T : Tab} {x : Spt} (hx : x ∈ spots T) : (at0 (where_ T x.p) = (x.g, x.k, x.i)) ↔ where_ T x.p = some x := by
  constructor
  · intro h
    cases hw : where_ T x.p with
    | none =>
      exfalso
      unfold where_ find at hw
      rw [List.find?_eq_none] at hw
      exact hw x hx (by simp)
    | some y =>
      rw [hw] at h
      unfold where_ find at hw
      have hp : y.p = x.p := by simpa using List.find?_some hw
      obtain ⟨yg, yk, yi, yp⟩ := y
      obtain ⟨xg, xk, xi, xp⟩ := x
      simp only [at0, Prod.mk.injEq] at h
      obtain ⟨h1, h2, h3⟩ := h
      subst h1 h2 h3
      simp only at hp
      rw [hp]
  · intro h; rw [h]; rfl
theorem rows_at {T : Tab} {g : Nat} (hg : g < T.groups.length) : rowsAt T g = T.groups[g] := rows_in (List.getElem?_eq_getElem hg)
/-- Each place of a row within its ranges is a spot. -/
theorem spot_of {T : Tab} (h : InR T) {g k i : Nat} (hg : g < T.groups.length) (hk : k < 2) (hi : i < (ringOf (rowsAt T g) k).length) : (⟨g, k, i, (ringOf (rowsAt T g) k).getD i 0⟩ : Spt) ∈ spots T := by
  have hm := h.gr _ (List.getElem_mem hg)
  unfold groupMay rowMay at hm
  simp only [Bool.and_eq_true, allIn_iff] at hm
  rw [mem_spots]
  refine ⟨T.groups[g], List.getElem?_eq_getElem hg, ?_⟩
  rw [rows_at hg] at hi ⊢
  simp only
  have he : (ringOf T.groups[g] k)[i]? = some ((ringOf T.groups[g] k).getD i 0) := by rw [List.getD_eq_getElem?_getD, List.getElem?_eq_getElem hi]; rfl
  refine ⟨he, ?_⟩
  have hmem : (ringOf T.groups[g] k).getD i 0 ∈ ringOf T.groups[g] k := List.mem_of_getElem? he
  have h01 : k = 0 ∨ k = 1 := by omega
  rcases h01 with rfl | rfl
  · have := hm.1.2 _ hmem; omega
  · have := hm.2.2 _ hmem; omega
theorem rep_iff {T : Tab} (h : InR T) {g : Nat} (hg : g < T.groups.length) : repeats T g = false ↔ ∀ x ∈ inG T g, where_ T x.p = some x := by
  unfold repeats
  rw [Bool.or_eq_false_iff, ChkG.rep_row, ChkG.rep_row]
  constructor
  · rintro ⟨h0, h1⟩ x hx
    obtain ⟨hs, hxg⟩ := mem_inG.1 hx
    rw [← at_some hs]
    obtain ⟨y, hy, hr, _⟩ := mem_spots.1 hs
    have hry : rowsAt T (x.g : Nat) = y := rows_in hy
    rw [hxg] at hry
    have hlt := (List.getElem?_eq_some_iff.1 hr).1
    have hk : x.k = 0 ∨ x.k = 1 := by
      unfold ringOf at hr
      by_cases e0 : x.k = 0
      · exact .inl e0
      · by_cases e1 : x.k = 1
        · exact .inr e1
        · rw [if_neg e0, if_neg e1] at hr; simp at hr
    have hv : (ringOf y x.k).getD x.i 0 = x.p := by rw [List.getD_eq_getElem?_getD, hr]; rfl
    rcases hk with e | e
    · rw [e] at hlt hv
      have := h0 x.i (by rw [hry]; exact hlt)
      unfold ChkG.atOk at this
      rw [beq_iff_eq, hry, show y.1.getD x.i 0 = x.p from hv] at this
      rw [this, hxg, e]
    · rw [e] at hlt hv
      have := h1 x.i (by rw [hry]; exact hlt)
      unfold ChkG.atOk at this
      rw [beq_iff_eq, hry, show y.2.getD x.i 0 = x.p from hv] at this
      rw [this, hxg, e]
  · intro hall
    constructor
    · intro i hi
      have hs := spot_of h hg (k := 0) (by omega) hi
      have := (at_some hs).2 (hall _ (mem_inG.2 ⟨hs, rfl⟩))
      unfold ChkG.atOk
      rw [beq_iff_eq]
      exact this
    · intro i hi
      have hs := spot_of h hg (k := 1) (by omega) hi
      have := (at_some hs).2 (hall _ (mem_inG.2 ⟨hs, rfl⟩))
      unfold ChkG.atOk
      rw [beq_iff_eq]
      exact this
theorem inj_of {A : List Spt} : (A.map Spt.p).Nodup → ∀ {x y : Spt}, x ∈ A → y ∈ A → x.p = y.p → x = y := by
  induction A with
  | nil => intro _ x y hx; cases hx
  | cons a A ih =>
    intro hn x y hx hy hp
    rw [List.map_cons, List.nodup_cons] at hn
    rcases List.mem_cons.1 hx with hx | hx
    · rcases List.mem_cons.1 hy with hy | hy
      · rw [hx, hy]
      · exact absurd (List.mem_map.2 ⟨y, hy, by rw [← hp, hx]⟩) hn.1
    · rcases List.mem_cons.1 hy with hy | hy
      · exact absurd (List.mem_map.2 ⟨x, hx, by rw [hp, hy]⟩) hn.1
      · exact ih hn.2 hx hy hp
theorem first_iff {T : Tab} (g : Nat) : (∀ x ∈ inG T g, where_ T x.p = some x) ↔ (phG T g).Nodup ∧ ∀ p ∈ phG T g, SetM.has (placed T g : Nat) p = false := by
  constructor
  · intro h
    constructor
    · unfold phG List.Nodup
      rw [List.pairwise_map]
      have hs : (inG T g).Pairwise Lt := (spots_sorted T).sublist List.filter_sublist
      refine List.Pairwise.imp_of_mem (fun {y x} hy hx hl e => ?_) hs
      exact where_first (h x hx) (mem_inG.1 hy).1 e hl
    · intro p hp
      obtain ⟨x, hx, rfl⟩ := List.mem_map.1 hp
      cases e : SetM.has (placed T g : Nat) x.p with
      | false => rfl
      | true =>
        exfalso
        obtain ⟨y, h1, h2, h3⟩ := (has_placed g).1 e
        exact where_first (h x hx) h1 h3 (.inl (by rw [(mem_inG.1 hx).2]; exact h2))
  · rintro ⟨hn, hp⟩ x hx
    obtain ⟨hs, hxg⟩ := mem_inG.1 hx
    refine where_some hs rfl (fun y hy hl e => ?_)
    rcases hl with hl | ⟨hl, hl2⟩
    · have := hp x.p (List.mem_map.2 ⟨x, hx, rfl⟩)
      rw [(has_placed g).2 ⟨y, hy, by omega, e⟩] at this
      cases this
    · have hyx := inj_of hn (mem_inG.2 ⟨hy, by omega⟩) hx e
      subst hyx
      omega
theorem of_zero {l : List Int} (hr : ∀ p ∈ l, 0 ≤ p ∧ p < 8) : SetM.of l = 0 ↔ l = [] := by
  constructor
  · intro h
    cases l with
    | nil => rfl
    | cons p l =>
      exfalso
      have hp := hr p (List.mem_cons_self ..)
      exact (low_ne (SetM.of_lt (p :: l))).2 ⟨p, has_of.2 ⟨hp.1, hp.2, List.mem_cons_self ..⟩⟩ h
  · rintro rfl; rfl
theorem group_iff {T : Tab} (h : InR T) {g : Nat} (hg : g < T.groups.length) : groupBad T g = false ↔
    phG T g ≠ [] ∧ (∀ p ∈ phG T g, SetM.has (onS T : Nat) p = true) ∧ (phG T g).Nodup ∧ ∀ p ∈ phG T g, SetM.has (placed T g : Nat) p = false := by
  unfold groupBad
  rw [Bool.or_eq_false_iff, Bool.or_eq_false_iff, rep_iff h hg, first_iff, beq_eq_false_iff_ne, Bool.not_eq_false', allOn_iff (by have := memb_lt T g; omega), ← memb_eq, ne_eq, of_zero (fun p hp => ph_range hp)]
  rw [memb_eq]
  simp only [has_memb]
/-- What the document's walk through a group comes to. -/
theorem group_step {T : Tab} (h : InR T) {g : Nat} (hg : g < T.groups.length) :
    (groupBad T g = true → foldR (onS T : Nat) g (spots T) (0, placed T g) = none ∨ ∃ s, foldR (onS T : Nat) g (spots T) (0, placed T g) = some (0, s)) ∧
    (groupBad T g = false → ∃ n, foldR (onS T : Nat) g (spots T) (0, placed T g) = some (n, placed T (g + 1)) ∧ n ≠ 0) := by
  have hf : foldR (onS T : Nat) g (spots T) (0, placed T g) = ChkZ.go (onS T : Nat) (phG T g) (0, placed T g) := fold_go _ _ _ _ _
  rw [hf]
  have hi := group_iff h hg
  constructor
  · intro hb
    cases hgo : ChkZ.go (onS T : Nat) (phG T g) (0, placed T g) with
    | none => exact .inl rfl
    | some st =>
      obtain ⟨n', s'⟩ := st
      obtain ⟨a1, a2, a3, a4, a5, a6⟩ := go_good (ChkH.placed_lt T g) (fun p hp => ph_range hp) hgo
      have : phG T g = [] := by
        refine Classical.byContradiction fun hne => ?_
        have := hi.2 ⟨hne, a1, a3, a2⟩
        rw [this] at hb; cases hb
      rw [this] at a4
      exact .inr ⟨s', by rw [a4]; rfl⟩
  · intro hb
    obtain ⟨b1, b2, b3, b4⟩ := hi.1 hb
    cases hgo : ChkZ.go (onS T : Nat) (phG T g) (0, placed T g) with
    | none =>
      exfalso
      rcases go_bad hgo with ⟨p, h1, h2⟩ | ⟨p, h1, h2⟩ | h1
      · rw [b2 p h1] at h2; cases h2
      · rw [b4 p h1] at h2; cases h2
      · exact h1 b3
    | some st =>
      obtain ⟨n', s'⟩ := st
      obtain ⟨a1, a2, a3, a4, a5, a6⟩ := go_good (ChkH.placed_lt T g) (fun p hp => ph_range hp) hgo
      have e : s' = placed T (g + 1) := by
        refine SetM.has_ext a5 (ChkH.placed_lt T (g + 1)) fun q => ?_
        rw [Bool.eq_iff_iff, a6, show placed T (g + 1) = placed T g ||| membS T g from rfl, has_or (ChkH.placed_lt T g) (memb_lt T g), has_memb]
      refine ⟨n', by rw [e], ?_⟩
      rw [a4]
      have := List.length_pos_iff.2 b1
      omega
def tailC (T : Tab) : Option Int :=
  match (List.range T.groups.length).find? (groupBad T) with
  | some g => some (g : Int)
  | none => if bits .andNot .i64 (onS T : Nat) (placed T T.groups.length : Nat) = 0 then none else some 0
theorem loop_eq {T : Tab} (h : InR T) : ∀ (m g : Nat), g + m = T.groups.length → (∀ j, j < g → groupBad T j = false) → loopR T m g (placed T g) = tailC T
  | 0, g, hg, hn => by
    obtain rfl : g = T.groups.length := by omega
    unfold tailC
    rw [range_miss hn]
    simp only [loopR]
    have hon : 0 ≤ ((onS T : Nat) : Int) ∧ ((onS T : Nat) : Int) ≤ 255 := by have : onS T < 256 := SetM.of_lt _; omega
    have e : placed T T.groups.length = onS T ↔ bits .andNot .i64 (onS T : Nat) (placed T T.groups.length : Nat) = 0 := by
      rw [andNot_zero hon (ChkH.placed_lt T _)]
      constructor
      · intro e q hq; rw [e]; exact hq
      · intro hsub
        refine SetM.has_ext (ChkH.placed_lt T _) (SetM.of_lt _) fun q => ?_
        rw [Bool.eq_iff_iff]
        refine ⟨fun hq => ?_, hsub q⟩
        obtain ⟨y, h1, h2, rfl⟩ := (has_placed _).1 hq
        exact ((group_iff h h2).1 (hn y.g h2)).2.1 _ (List.mem_map.2 ⟨y, mem_inG.2 ⟨h1, rfl⟩, rfl⟩)
    by_cases he : placed T T.groups.length = onS T
    · rw [if_pos he, if_pos (e.1 he)]
    · rw [if_neg he, if_neg (fun h => he (e.2 h))]
  | m + 1, g, hg, hn => by
    have hlt : g < T.groups.length := by omega
    obtain ⟨s1, s2⟩ := group_step h hlt
    cases hb : groupBad T g with
    | true =>
      have ht : tailC T = some (g : Int) := by unfold tailC; rw [range_hit hlt hb hn]
      rw [ht]
      rcases s1 hb with h1 | ⟨s, h1⟩
      · exact RkR.loop_none h1
      · exact RkR.loop_zero h1
    | false =>
      obtain ⟨n, h1, h2⟩ := s2 hb
      rw [RkR.loop_next h1 h2]
      refine loop_eq h m (g + 1) (by omega) (fun j hj => ?_)
      by_cases e : j = g
      · subst e; exact hb
      · exact hn j (by omega)
theorem rings_eq {T : Tab} (h : InR T) : ringsC T = ringsR T := by
  unfold ringsC ringsR
  by_cases h0 : T.groups.length = 0
  · rw [if_pos h0, if_pos h0]
  · rw [if_neg h0, if_neg h0, show (0 : Nat) = placed T 0 from rfl]
    exact (loop_eq h T.groups.length 0 (by omega) (fun j hj => by omega)).symm
/-! ### all rules -/
theorem find_congr {f g : Int → Bool} : ∀ {l : List Int}, (∀ x ∈ l, f x = g x) → l.find? f = l.find? g
  | [], _ => rfl
  | x :: l, h => by
    rw [List.find?_cons, List.find?_cons, h x (List.mem_cons_self ..), find_congr (fun y hy => h y (List.mem_cons_of_mem _ hy))]
theorem idx_congr {α : Type} {f g : α → Bool} {l : List α} (h : ∀ x ∈ l, f x = g x) : idx f l = idx g l := by
  have : l.findIdx? f = l.findIdx? g := by
    induction l with
    | nil => rfl
    | cons x l ih => rw [List.findIdx?_cons, List.findIdx?_cons, h x (List.mem_cons_self ..), ih (fun y hy => h y (List.mem_cons_of_mem _ hy))]
  unfold idx
  rw [this]
theorem chk_eq {T : Tab} (h8 : T.phases.length = 8) (hc : T.conflict.length = 8) : chkC T = chkR T := by
  cases hm : tabMay T with
  | false => unfold chkC chkR rulesC rulesR mayF; rw [hm]; rfl
  | true =>
    have h := in_ranges hm
    have hb : ∀ p ∈ ons T, 0 ≤ p ∧ p < 8 := fun p hp => SetM.list_bd _ _ hp
    unfold chkC chkR rulesC rulesR
    rw [rings_eq h,
      find_congr (f := fun p => phBad (phAt T p)) (g := fun p => !phOk (phAt T p)) (fun p hp => by rw [ph_eq (ph_at h h8 (hb p hp).1 (hb p hp).2), Bool.not_not]),
      find_congr (f := confBad T) (g := fun p => !confOk T p) (fun p hp => by rw [conf_eq hp, Bool.not_not]),
      idx_congr (f := detBad T) (g := detR T) (fun d hd => by
        have hd' := h.dt d hd
        unfold Det.may at hd'
        rw [Bool.and_eq_true, allIn_iff] at hd'
        have := hd'.1 d.phase (by simp)
        exact det_eq h8 this.1 (by omega)),
      idx_congr (f := railBad T) (g := fun r => !railOk T r) (fun r hr => by rw [rail_eq h hc (h.rl r hr), Bool.not_not]),
      idx_congr (f := busBad T) (g := busR T) (fun b hb' => bus_eq (h.bs b hb')),
      find_congr (f := flashBad T) (g := fun p => !flashOk T p) (fun p hp => by rw [flash_eq, Bool.not_not])]
end Go.Proofs.Ytfekngnfjemgeaa.ChkZ
/- The table by numbers has no Fault (stage 9): its groups. No program in it. -/
namespace Go.Proofs.Ytfekngnfjemgeaa.Val
open Go Tab GenG GenT PlaceM PlanM OnS ChkM Clone May
open RefS (num num_range)
open ChkX (in_ranges InR)
open ChkZ
set_option linter.unusedVariables false
set_option linter.unusedSimpArgs false
theorem gen_in (L : List Int) : InR (genTab L) := in_ranges (gen_may L)
theorem gen_where (L : List Int) {x : Spt} (hx : x ∈ spots (genTab L)) : where_ (genTab L) x.p = some x := by
  have h : (where_ (genTab L) x.p).isSome = true := by
    rw [where_isSome, decide_eq_true_eq]
    exact List.mem_map.2 ⟨x, hx, rfl⟩
  obtain ⟨y, hy⟩ := Option.isSome_iff_exists.1 h
  have h1 : y ∈ spots (genTab L) := List.mem_of_find?_eq_some hy
  have h2 : y.p = x.p := by simpa using List.find?_some hy
  rw [hy, inj_of (gen_nodup L) h1 hx h2]
theorem gen_spot_on (L : List Int) {x : Spt} (hx : x ∈ spots (genTab L)) : SetM.has (onS (genTab L) : Nat) x.p = true := by
  rw [gen_has_on, gen_where L hx]; rfl
theorem gen_glen (L : List Int) : (genTab L).groups.length = genG L := by
  rw [genTab_groups]; unfold genGs; rw [up_len]
/-- Each group has a phase. -/
theorem up_bound (L : List Int) (G : Nat) (hG : G ≤ 3) : ∀ g, g ≤ G → (upTo L G g).2 ≤ 8 + g - G ∨ g = 0
  | 0, _ => .inr rfl
  | g + 1, h => by
    have h0 := up_bound L G hG g (by omega)
    have hz : (upTo L G 0).2 = 0 := rfl
    refine .inl ?_
    show (upTo L G g).2 + n0 L G g (upTo L G g).2 + n1 L G g (upTo L G g).2 ≤ 8 + (g + 1) - G
    unfold n1 n0 lim
    rcases h0 with h0 | rfl
    · omega
    · rw [hz]; omega
theorem grp_some (L : List Int) (g : Nat) (h : g < genG L) : 0 < n0 L (genG L) g (upTo L (genG L) g).2 + n1 L (genG L) g (upTo L (genG L) g).2 := by
  have hG := (genG_range L).2
  have h0 := up_bound L (genG L) hG g (by omega)
  have hz : (upTo L (genG L) 0).2 = 0 := rfl
  have hp : (upTo L (genG L) g).2 < lim (genG L) g := by
    unfold lim
    rcases h0 with h0 | rfl
    · omega
    · rw [hz]; omega
  by_cases c : n0 L (genG L) g (upTo L (genG L) g).2 = 0
  · have : 0 < n1 L (genG L) g (upTo L (genG L) g).2 := by
      unfold n1
      rw [c]
      have hw : 0 < want1 L g 0 := by
        have := num_range L (2 + 2 * g) 3 (by omega)
        unfold want1
        split
        · omega
        · rename_i hh
          have : ¬ num L (2 + 2 * g) 3 = 0 := fun e => hh ⟨e, rfl⟩
          omega
      omega
    omega
  · omega
theorem up_at (L : List Int) (G : Nat) : ∀ m g, g < m → (upTo L G m).1[g]? = some (grpD L G g (upTo L G g).2)
  | 0, g, h => by omega
  | m + 1, g, h => by
    have e1 : (upTo L G (m + 1)).1 = (upTo L G m).1 ++ [grpD L G m (upTo L G m).2] := rfl
    rw [e1]
    by_cases c : g = m
    · subst c
      rw [List.getElem?_append_right (by rw [up_len]; omega), up_len]
      simp
    · rw [List.getElem?_append_left (by rw [up_len]; omega)]
      exact up_at L G m g (by omega)
theorem gen_group (L : List Int) (g : Nat) (h : g < genG L) : (genTab L).groups[g]? = some (grpD L (genG L) g (upTo L (genG L) g).2) := by
  rw [genTab_groups]; exact up_at L _ _ g h
theorem group_has (L : List Int) (g : Nat) (h : g < genG L) : phG (genTab L) g ≠ [] := by
  have hs := grp_some L g h
  have hg := gen_group L g h
  have h8 := up_le L (genG L) (genG_range L).2 (g + 1) (by omega)
  have e2 : (upTo L (genG L) (g + 1)).2 = (upTo L (genG L) g).2 + n0 L (genG L) g (upTo L (genG L) g).2 + n1 L (genG L) g (upTo L (genG L) g).2 := rfl
  rw [e2] at h8
  have key : ∃ x : Spt, x ∈ spots (genTab L) ∧ x.g = g := by
    by_cases c : 0 < n0 L (genG L) g (upTo L (genG L) g).2
    · refine ⟨⟨g, 0, 0, ((upTo L (genG L) g).2 + 0 : Nat)⟩, mem_spots.2 ⟨_, hg, ?_, Int.natCast_nonneg _, ?_⟩, rfl⟩
      · exact seg_at c
      · dsimp only; omega
    · have hn1 : 0 < n1 L (genG L) g (upTo L (genG L) g).2 := by omega
      refine ⟨⟨g, 1, 0, ((upTo L (genG L) g).2 + n0 L (genG L) g (upTo L (genG L) g).2 + 0 : Nat)⟩, mem_spots.2 ⟨_, hg, ?_, Int.natCast_nonneg _, ?_⟩, rfl⟩
      · exact seg_at hn1
      · dsimp only; omega
  obtain ⟨x, hx, hxg⟩ := key
  intro e
  have : x.p ∈ phG (genTab L) g := List.mem_map.2 ⟨x, mem_inG.2 ⟨hx, hxg⟩, rfl⟩
  rw [e] at this
  simp at this
theorem group_ok (L : List Int) (g : Nat) (h : g < genG L) : groupBad (genTab L) g = false := by
  refine (group_iff (gen_in L) (by rw [gen_glen]; exact h)).2 ⟨group_has L g h, fun p hp => ?_, ?_⟩
  · obtain ⟨x, hx, rfl⟩ := List.mem_map.1 hp
    exact gen_spot_on L (mem_inG.1 hx).1
  · exact (first_iff g).1 (fun x hx => gen_where L (mem_inG.1 hx).1)
theorem no_ring (L : List Int) : ringsC (genTab L) = none := by
  have hG := genG_range L
  unfold ringsC
  rw [gen_glen, if_neg (by omega), List.find?_eq_none.2 (fun g hg => by rw [group_ok L g (List.mem_range.1 hg)]; simp)]
  dsimp only
  have hp : placed (genTab L) (genG L) < 256 := ChkH.placed_lt _ _
  rw [if_pos]
  have ho : onS (genTab L) < 256 := SetM.of_lt _
  refine (ChkX.andNot_zero (by omega) hp).2 (fun q hq => ?_)
  rw [has_placed]
  rw [gen_has_on] at hq
  obtain ⟨y, hy⟩ := Option.isSome_iff_exists.1 hq
  have h1 : y ∈ spots (genTab L) := List.mem_of_find?_eq_some hy
  have h2 : y.p = q := by simpa using List.find?_some hy
  refine ⟨y, h1, ?_, h2⟩
  obtain ⟨z, hz, _⟩ := mem_spots.1 h1
  have := (List.getElem?_eq_some_iff.1 hz).1
  rw [gen_glen] at this
  exact this
end Go.Proofs.Ytfekngnfjemgeaa.Val
/- The table by numbers has no Fault (stage 9): its rails, and so all. No program in it. -/
namespace Go.Proofs.Ytfekngnfjemgeaa.Val
open Go Tab GenG GenT PlaceM PlanM OnS ChkM Clone May
open RefS (num num_range)
open ChkX (has_bits and_ne low_in allOn_iff andNot_eq not_bit low_ne)
set_option linter.unusedVariables false
set_option linter.unusedSimpArgs false
theorem has_or4 {a b q : Int} (hb : 0 ≤ b ∧ b ≤ 255) : SetM.has (bits .or .i64 a b) q = true ↔ SetM.has a q = true ∨ SetM.has b q = true := by
  obtain ⟨m, rfl⟩ := Int.eq_ofNat_of_zero_le hb.1
  have hm : m < 256 := by omega
  rw [has_bits, has_bits, has_bits, SetM.or_low a m hm, Nat.testBit_or, SetM.low_nat m hm]
  simp only [Bool.or_eq_true]
  constructor
  · rintro ⟨h1, h2, h3 | h3⟩
    · exact .inl ⟨h1, h2, h3⟩
    · exact .inr ⟨h1, h2, h3⟩
  · rintro (⟨h1, h2, h3⟩ | ⟨h1, h2, h3⟩)
    · exact ⟨h1, h2, .inl h3⟩
    · exact ⟨h1, h2, .inr h3⟩
theorem has_on_gen {L : List Int} {q : Int} : SetM.has (onS (genTab L) : Nat) q = true ↔ 0 ≤ q ∧ q < (genN L : Int) := by
  rw [← ChkX.mem_ons]; exact mem_ons
/-- A set of phases of which each two stand beside each other. -/
structure Two (L : List Int) (s : Int) : Prop where
  rg : 0 ≤ s ∧ s ≤ 255
  on : ∀ x, SetM.has s x = true → 0 ≤ x ∧ x < (genN L : Int)
  bes : ∀ x y, SetM.has s x = true → SetM.has s y = true → x = y ∨ beside (genTab L) x y = true
theorem has_withS {T : Tab} {p q x : Int} (hp : 0 ≤ p ∧ p < 8) (hq : 0 ≤ q ∧ q < 8) : SetM.has (GenW.withS T p q) x = true ↔ x = p ∨ (beside T p q = true ∧ x = q) := by
  have h1 : SetM.has ((SetM.of [p] : Nat) : Int) x = true ↔ x = p := by
    rw [ChkX.has_of]
    simp only [List.mem_singleton]
    constructor
    · rintro ⟨_, _, h⟩; exact h
    · rintro rfl; exact ⟨hp.1, hp.2, rfl⟩
  unfold GenW.withS
  by_cases hb : beside T p q = true
  · rw [if_pos hb, SetM.has_with, Bool.or_eq_true, h1, Bool.and_eq_true]
    obtain ⟨k, rfl⟩ := Int.eq_ofNat_of_zero_le hq.1
    rw [bit_ne k (by omega), beq_iff_eq]
    simp [hb]
  · rw [if_neg hb, h1]
    simp [hb]
theorem two_withS (L : List Int) {p q : Int} (hp : 0 ≤ p ∧ p < (genN L : Int)) (hq : 0 ≤ q ∧ q < (genN L : Int)) : Two L (GenW.withS (tab1 L) p q) := by
  have h8 := genN_range L
  have hh := fun x => has_withS (T := tab1 L) (p := p) (q := q) (x := x) ⟨hp.1, by omega⟩ ⟨hq.1, by omega⟩
  obtain ⟨m, hm, hm2⟩ := withS_nat (tab1 L) p q
  have hs : ∀ a b, beside (genTab L) a b = beside (tab1 L) a b := fun a b => beside_same (U := tab1 L) (genTab_groups L) a b
  refine ⟨by rw [hm]; omega, fun x hx => ?_, fun x y hx hy => ?_⟩
  · rcases (hh x).1 hx with rfl | ⟨_, rfl⟩
    · exact hp
    · exact hq
  · rcases (hh x).1 hx with rfl | ⟨h1, rfl⟩ <;> rcases (hh y).1 hy with h2 | ⟨h3, h2⟩ <;> subst h2
    · exact .inl rfl
    · exact .inr (by rw [hs]; exact h3)
    · exact .inr (by rw [hs, beside_symm]; exact h1)
    · exact .inl rfl
theorem two_zero (L : List Int) : Two L 0 := ⟨by omega, fun x hx => (by rw [has_zero] at hx; cases hx), fun x y hx => (by rw [has_zero] at hx; cases hx)⟩
theorem Two.clash {L : List Int} {s : Int} (h : Two L s) : clashC (genTab L) s = false := by
  have h8 := genN_range L
  unfold clashC
  rw [List.any_eq_false]
  intro p hp hne
  rw [bne_iff_ne, and_ne h.rg] at hne
  obtain ⟨q, h1, h2⟩ := hne
  have hps := (SetM.mem_list _ _).1 hp
  have hr := h.on p hps
  obtain ⟨_, hpq, hb⟩ := cf_at L ⟨hr.1, by omega⟩ h1
  rcases h.bes p q hps h2 with e | e
  · exact hpq e
  · rw [hb] at e; cases e
theorem Two.abreast {L : List Int} {s : Int} (h : Two L s) : abreast (genTab L) s = true := by
  unfold ChkM.abreast
  rw [List.all_eq_true]
  intro p hp
  rw [List.all_eq_true]
  intro q hq
  have hps := (SetM.mem_list _ _).1 hp
  have hqs := (SetM.mem_list _ _).1 hq
  rw [SetM.has_without, Bool.and_eq_true, Bool.not_eq_true', beq_eq_false_iff_ne] at hqs
  rcases h.bes p q hps hqs.1 with e | e
  · exact absurd e.symm hqs.2
  · exact e
theorem withS_ne {T : Tab} {p q : Int} (hp : 0 ≤ p ∧ p < 8) (hq : 0 ≤ q ∧ q < 8) : (GenW.withS T p q == 0) = false := by
  rw [beq_eq_false_iff_ne]
  intro e
  have := (has_withS (T := T) (x := p) hp hq).2 (.inl rfl)
  rw [e, has_zero] at this
  cases this
theorem has_bars {x q : Int} {d : Int} {n : Nat} (h8 : n ≤ 8) (hd : ∃ m : Nat, d = (m : Int) ∧ m < 256) (h : SetM.has (GenR.barsV x d n) q = true) : (0 ≤ q ∧ q < (n : Int)) ∧ SetM.has d q = false := by
  obtain ⟨m, rfl, hm⟩ := hd
  have hme := mask_eq ⟨n, by omega⟩
  dsimp only at hme
  have hb : 2 ^ n - 1 < 256 := by
    have : 2 ^ n ≤ 2 ^ 8 := Nat.pow_le_pow_right (by omega) h8
    omega
  have hlt : SetM.low x &&& (2 ^ n - 1) < 256 := Nat.lt_of_le_of_lt Nat.and_le_right hb
  unfold GenR.barsV at h
  rw [hme, SetM.and_low x _ hb, andNot_eq (by omega) hm] at h
  have hlt2 : SetM.low ((SetM.low x &&& (2 ^ n - 1) : Nat) : Int) &&& (255 - m) < 256 := Nat.lt_of_le_of_lt Nat.and_le_left (SetM.low_lt _)
  obtain ⟨h0, hq8, ht⟩ := has_bits.1 h
  rw [SetM.low_nat _ hlt2, SetM.low_nat _ hlt, Nat.testBit_and, Nat.testBit_and, Nat.testBit_two_pow_sub_one, not_bit hm (by omega)] at ht
  simp only [Bool.and_eq_true, decide_eq_true_eq, Bool.not_eq_true'] at ht
  refine ⟨⟨h0, by omega⟩, ?_⟩
  cases hc : SetM.has (m : Int) q with
  | false => rfl
  | true =>
    have := (has_bits.1 hc).2.2
    rw [SetM.low_nat _ hm, ht.2] at this
    cases this
theorem rail_good (L : List Int) (i : Int) : railBad (genTab L) (GenR.genRl (tab1 L) L i (genN L)) = false := by
  have h8 := genN_range L
  have h0 := genN_pos L
  have r0 := num_range L i (genN L) (by omega)
  have r1 := num_range L (i + 1) (genN L) (by omega)
  have r2 := num_range L (i + 2) (genN L) (by omega)
  have r3 := num_range L (i + 3) (genN L) (by omega)
  have r4 := num_range L (i + 4) ((genN L : Int) + 1) (by omega)
  have r5 := num_range L (i + 5) (genN L) (by omega)
  have r6 := num_range L (i + 6) 10 (by omega)
  have r8 := num_range L (i + 8) 4 (by omega)
  have r9 := num_range L (i + 9) 6 (by omega)
  have rc := num_range L (i + 11) 15 (by omega)
  have rd := num_range L (i + 13) 30 (by omega)
  have rl := GenR.lim_range (num L (i + 14) 3)
  have TD := two_withS L r0 r1
  have TE := two_withS L r2 r3
  have ND := withS_ne (T := tab1 L) (p := num L i (genN L)) (q := num L (i + 1) (genN L)) ⟨r0.1, by omega⟩ ⟨r1.1, by omega⟩
  have NE := withS_ne (T := tab1 L) (p := num L (i + 2) (genN L)) (q := num L (i + 3) (genN L)) ⟨r2.1, by omega⟩ ⟨r3.1, by omega⟩
  have TC : Two L (if num L (i + 4) ((genN L : Int) + 1) < genN L then GenW.withS (tab1 L) (num L (i + 4) ((genN L : Int) + 1)) (num L (i + 5) (genN L)) else 0) := by
    split
    · exact two_withS L ⟨r4.1, by omega⟩ r5
    · exact two_zero L
  have HC : ((if num L (i + 4) ((genN L : Int) + 1) < genN L then 1 + num L (i + 6) 10 else 0) == 0) = ((if num L (i + 4) ((genN L : Int) + 1) < genN L then GenW.withS (tab1 L) (num L (i + 4) ((genN L : Int) + 1)) (num L (i + 5) (genN L)) else 0) == 0) := by
    split
    · rw [withS_ne ⟨r4.1, by omega⟩ ⟨r5.1, by omega⟩, beq_eq_false_iff_ne]
      omega
    · rfl
  have wd := withS_nat (tab1 L) (num L i (genN L)) (num L (i + 1) (genN L))
  have B := bars_range (num L (i + 7) 256) _ h8 wd
  have BH := fun q => has_bars (x := num L (i + 7) 256) (q := q) h8 wd
  unfold GenR.genRl
  dsimp only
  generalize GenR.barsV (num L (i + 7) 256) (GenW.withS (tab1 L) (num L i (genN L)) (num L (i + 1) (genN L))) (genN L) = bars at *
  generalize GenW.withS (tab1 L) (num L i (genN L)) (num L (i + 1) (genN L)) = dwell at *
  generalize GenW.withS (tab1 L) (num L (i + 2) (genN L)) (num L (i + 3) (genN L)) = exit at *
  generalize (if num L (i + 4) ((genN L : Int) + 1) < genN L then GenW.withS (tab1 L) (num L (i + 4) ((genN L : Int) + 1)) (num L (i + 5) (genN L)) else 0) = clear at *
  generalize (if num L (i + 4) ((genN L : Int) + 1) < genN L then 1 + num L (i + 6) 10 else 0) = hold at *
  unfold railBad
  have A : ∀ x : Rl, x.bars = bars → x.clear = clear → x.dwell = dwell → x.exit = exit → allOn (genTab L) (or4 x) = true := by
    rintro x rfl rfl rfl rfl
    have ho : 0 ≤ or4 x ∧ or4 x ≤ 255 := ChkX.or_in (ChkX.or_in (ChkX.or_in B TC.rg) TD.rg) TE.rg
    refine (allOn_iff ho).2 (fun q hq => has_on_gen.2 ?_)
    unfold or4 at hq
    rw [has_or4 TE.rg, has_or4 TD.rg, has_or4 TC.rg] at hq
    rcases hq with ((hq | hq) | hq) | hq
    · exact (BH q hq).1
    · exact TC.on q hq
    · exact TD.on q hq
    · exact TE.on q hq
  rw [A _ rfl rfl rfl rfl]
  dsimp only
  have DB : bits .and .i64 dwell bars = 0 := by
    refine Classical.byContradiction fun hn => ?_
    obtain ⟨q, h1, h2⟩ := (and_ne B).1 hn
    rw [(BH q h2).2] at h1
    cases h1
  rw [ND, NE, DB, TC.clash, TD.clash, TE.clash, TE.abreast]
  unfold timesBad
  dsimp only
  rw [HC]
  simp only [Bool.not_true, Bool.false_or, bne_self_eq_false, Bool.or_eq_false_iff, decide_eq_false_iff_not, Bool.and_eq_false_imp, decide_eq_true_eq]
  refine ⟨by omega, by omega, ?_, by omega⟩
  intro h
  by_cases c : num L (i + 12) 3 = 1
  · rw [if_pos c]; omega
  · rw [if_neg c] at h; omega
theorem no_rail (L : List Int) : idx (railBad (genTab L)) (genTab L).rails = none := by
  refine idx_none fun x hx => ?_
  rw [genTab_rails] at hx
  obtain ⟨i, rfl⟩ := mem_down _ hx
  exact rail_good L _
/-- Chapter 9: a table by numbers has no Fault. -/
theorem gen_chk (L : List Int) : chkC (genTab L) = (0, 0) := by
  unfold chkC rulesC
  have hm : mayF (genTab L) = none := by unfold mayF; rw [gen_may]; rfl
  rw [hm, no_phase, no_ring, no_conf, no_det, no_rail, no_bus, no_flash]
  rfl
end Go.Proofs.Ytfekngnfjemgeaa.Val
