/- 11 texts in one file, in build order. -/
import Derived.Test.YtfekngnfjemgeaaRows
import Derived.Test.YtfekngnfjemgeaaPart12
import Derived.Test.YtfekngnfjemgeaaPart05
set_option linter.unusedVariables false
set_option linter.unusedSimpArgs false
set_option linter.unusedSectionVars false
/- Rule 3 of package check and of the document are one; so are their Faults. No program in it. -/
namespace Go.Proofs.Ytfekngnfjemgeaa.ChkZ
open Go Tab PlaceM PlanM OnS May ChkM ChkX
open PlanW (where_some)
set_option linter.unusedVariables false
set_option linter.unusedSimpArgs false
/-- The places of a group, and their phases. -/
def inG (T : Tab) (g : Nat) : List Spt := (spots T).filter fun x => decide ((x.g : Int) = g)
def phG (T : Tab) (g : Nat) : List Int := (inG T g).map Spt.p
theorem memb_eq (T : Tab) (g : Nat) : SetM.of (phG T g) = membS T g := memb_spots T g
theorem mem_inG {T : Tab} {g : Nat} {x : Spt} : x ∈ inG T g ↔ x ∈ spots T ∧ x.g = g := by
  unfold inG
  rw [List.mem_filter, decide_eq_true_eq]
  constructor
  · rintro ⟨h1, h2⟩; exact ⟨h1, by omega⟩
  · rintro ⟨h1, h2⟩; exact ⟨h1, by omega⟩
theorem spot_range {T : Tab} {x : Spt} (h : x ∈ spots T) : 0 ≤ x.p ∧ x.p < 8 := by obtain ⟨_, _, _, h1, h2⟩ := mem_spots.1 h; exact ⟨h1, h2⟩
theorem ph_range {T : Tab} {g : Nat} {p : Int} (h : p ∈ phG T g) : 0 ≤ p ∧ p < 8 := by
  obtain ⟨x, hx, rfl⟩ := List.mem_map.1 h
  exact spot_range (mem_inG.1 hx).1
theorem has_memb {T : Tab} {g : Nat} {q : Int} : SetM.has (membS T g : Nat) q = true ↔ q ∈ phG T g := by
  rw [← memb_eq, has_of]
  constructor
  · rintro ⟨_, _, h⟩; exact h
  · intro h; have := ph_range h; exact ⟨this.1, this.2, h⟩
theorem has_or {m n : Nat} (hm : m < 256) (hn : n < 256) {q : Int} : SetM.has ((m ||| n : Nat) : Int) q = true ↔ SetM.has (m : Int) q = true ∨ SetM.has (n : Int) q = true := by
  have hmn : m ||| n < 256 := Nat.or_lt_two_pow (n := 8) hm hn
  rw [has_bits, has_bits, has_bits, SetM.low_nat _ hmn, SetM.low_nat _ hm, SetM.low_nat _ hn, Nat.testBit_or, Bool.or_eq_true]
  constructor
  · rintro ⟨h1, h2, h3 | h3⟩
    · exact .inl ⟨h1, h2, h3⟩
    · exact .inr ⟨h1, h2, h3⟩
  · rintro (⟨h1, h2, h3⟩ | ⟨h1, h2, h3⟩)
    · exact ⟨h1, h2, .inl h3⟩
    · exact ⟨h1, h2, .inr h3⟩
theorem has_placed {T : Tab} {q : Int} : ∀ g, SetM.has (placed T g : Nat) q = true ↔ ∃ y ∈ spots T, y.g < g ∧ y.p = q
  | 0 => by
    constructor
    · intro h; have := (has_bits.1 h).2.2; rw [show ((placed T 0 : Nat) : Int) = ((0 : Nat) : Int) from rfl, SetM.low_nat 0 (by decide), Nat.zero_testBit] at this; cases this
    · rintro ⟨y, _, h, _⟩; omega
  | g + 1 => by
    rw [show placed T (g + 1) = placed T g ||| membS T g from rfl, has_or (ChkH.placed_lt T g) (memb_lt T g), has_placed g, has_memb]
    constructor
    · rintro (⟨y, h1, h2, h3⟩ | h)
      · exact ⟨y, h1, by omega, h3⟩
      · obtain ⟨y, hy, rfl⟩ := List.mem_map.1 h
        obtain ⟨h1, h2⟩ := mem_inG.1 hy
        exact ⟨y, h1, by omega, rfl⟩
    · rintro ⟨y, h1, h2, h3⟩
      by_cases h4 : y.g < g
      · exact .inl ⟨y, h1, h4, h3⟩
      · exact .inr (List.mem_map.2 ⟨y, mem_inG.2 ⟨h1, by omega⟩, h3⟩)
/-! ### the document's walk through a group -/
def go (on : Int) : List Int → Nat × Nat → Option (Nat × Nat)
  | [], s => some s
  | p :: l, (n, s) => if !SetM.has on p || SetM.has (s : Nat) p then none else go on l (n + 1, SetM.withN (s : Nat) p)
theorem fold_go (on : Int) (g : Nat) : ∀ (l : List Spt) (n s : Nat), foldR on g l (n, s) = go on ((l.filter fun x => decide ((x.g : Int) = g)).map Spt.p) (n, s)
  | [], n, s => rfl
  | x :: l, n, s => by
    by_cases h : x.g = g
    · have hd : decide ((x.g : Int) = g) = true := by rw [decide_eq_true_eq]; omega
      rw [List.filter_cons, hd, if_pos rfl, List.map_cons, go]
      by_cases hb : (!SetM.has on x.p || SetM.has (s : Nat) x.p) = true
      · rw [RkR.fold_bad h hb, if_pos hb]
      · have hb' : (!SetM.has on x.p || SetM.has (s : Nat) x.p) = false := by simpa using hb
        rw [RkR.fold_good h hb', if_neg hb]
        exact fold_go on g l _ _
    · have hd : decide ((x.g : Int) = g) = false := by rw [decide_eq_false_iff_not]; omega
      rw [RkR.fold_other h, List.filter_cons, hd]
      exact fold_go on g l n s
theorem go_bad {on : Int} : ∀ {l : List Int} {n s : Nat}, go on l (n, s) = none → (∃ p ∈ l, SetM.has on p = false) ∨ (∃ p ∈ l, SetM.has (s : Nat) p = true) ∨ ¬ l.Nodup
  | [], n, s, h => by simp [go] at h
  | p :: l, n, s, h => by
    rw [go] at h
    split at h
    · rename_i hb
      rw [Bool.or_eq_true] at hb
      rcases hb with hb | hb
      · exact .inl ⟨p, List.mem_cons_self .., by simpa using hb⟩
      · exact .inr (.inl ⟨p, List.mem_cons_self .., hb⟩)
    · rcases go_bad h with ⟨q, h1, h2⟩ | ⟨q, h1, h2⟩ | h1
      · exact .inl ⟨q, List.mem_cons_of_mem _ h1, h2⟩
      · rw [SetM.has_with, Bool.or_eq_true] at h2
        rcases h2 with h2 | h2
        · exact .inr (.inl ⟨q, List.mem_cons_of_mem _ h1, h2⟩)
        · refine .inr (.inr fun hn => ?_)
          have : q = p := by rw [Bool.and_eq_true, beq_iff_eq] at h2; exact h2.2
          subst this
          exact (List.nodup_cons.1 hn).1 h1
      · exact .inr (.inr fun hn => h1 (List.nodup_cons.1 hn).2)
theorem go_good {on : Int} : ∀ {l : List Int} {n s n' s' : Nat}, s < 256 → (∀ p ∈ l, 0 ≤ p ∧ p < 8) → go on l (n, s) = some (n', s') →
    (∀ p ∈ l, SetM.has on p = true) ∧ (∀ p ∈ l, SetM.has (s : Nat) p = false) ∧ l.Nodup ∧ n' = n + l.length ∧ s' < 256 ∧ ∀ q, SetM.has (s' : Nat) q = true ↔ SetM.has (s : Nat) q = true ∨ q ∈ l
  | [], n, s, n', s', hs, _, h => by
    obtain ⟨rfl, rfl⟩ : n = n' ∧ s = s' := by simpa [go] using h
    exact ⟨by simp, by simp, List.nodup_nil, rfl, hs, by simp⟩
  | p :: l, n, s, n', s', hs, hr, h => by
    rw [go] at h
    split at h
    · cases h
    · rename_i hb
      have hb' : (!SetM.has on p || SetM.has (s : Nat) p) = false := by simpa using hb
      rw [Bool.or_eq_false_iff] at hb'
      have h1 : SetM.has on p = true := by simpa using hb'.1
      obtain ⟨a1, a2, a3, a4, a5, a6⟩ := go_good (SetM.with_lt _ _) (fun q hq => hr q (List.mem_cons_of_mem _ hq)) h
      have hp := hr p (List.mem_cons_self ..)
      have hw : ∀ q, SetM.has (SetM.withN (s : Nat) p : Nat) q = true ↔ SetM.has (s : Nat) q = true ∨ q = p := by
        intro q
        rw [SetM.has_with, Bool.or_eq_true, Bool.and_eq_true, beq_iff_eq]
        constructor
        · rintro (h | ⟨_, h⟩)
          · exact .inl h
          · exact .inr h
        · rintro (h | h)
          · exact .inl h
          · refine .inr ⟨?_, h⟩
            obtain ⟨k, rfl⟩ := Int.eq_ofNat_of_zero_le hp.1
            rw [SetM.bit_in k (by omega), bne_iff_ne]
            exact Nat.ne_of_gt (Nat.pow_pos (by decide))
      refine ⟨?_, ?_, ?_, ?_, a5, ?_⟩
      · intro q hq
        rcases List.mem_cons.1 hq with rfl | hq
        · exact h1
        · exact a1 q hq
      · intro q hq
        rcases List.mem_cons.1 hq with rfl | hq
        · exact hb'.2
        · cases e : SetM.has (s : Nat) q with
          | false => rfl
          | true => have := a2 q hq; rw [(hw q).2 (.inl e)] at this; cases this
      · refine List.nodup_cons.2 ⟨fun hm => ?_, a3⟩
        have := a2 p hm
        rw [(hw p).2 (.inr rfl)] at this
        cases this
      · rw [a4, List.length_cons]; omega
      · intro q
        rw [a6, hw, List.mem_cons]
        constructor
        · rintro ((h | h) | h)
          · exact .inl h
          · exact .inr (.inl h)
          · exact .inr (.inr h)
        · rintro (h | h | h)
          · exact .inl (.inl h)
          · exact .inl (.inr h)
          · exact .inr h
/-! ### first places -/
theorem Lt.asymm {x y : Spt} (h : Lt x y) (k : Lt y x) : False := by unfold Lt at h k; omega
theorem where_first {T : Tab} {x y : Spt} (hw : where_ T x.p = some x) (hy : y ∈ spots T) (hp : y.p = x.p) : ¬ Lt y x := by
  intro hl
  unfold where_ find at hw
  have hs := spots_sorted T
  rw [List.find?_eq_some_iff_append] at hw
  obtain ⟨_, l1, l2, e, h1⟩ := hw
  rw [e] at hy hs
  rcases List.mem_append.1 hy with hy | hy
  · have := h1 y hy
    rw [hp] at this
    simp at this
  · rcases List.mem_cons.1 hy with rfl | hy
    · exact Lt.irrefl hl
    · have := (List.pairwise_append.1 hs).2.1
      exact Lt.asymm hl ((List.pairwise_cons.1 this).1 y hy)
theorem at_some {T : Tab} {x : Spt} (hx : x ∈ spots T) : (at0 (where_ T x.p) = (x.g, x.k, x.i)) ↔ where_ T x.p = some x := by
  constructor
  · intro h
    cases hw : where_ T x.p with
    | none =>
      exfalso
      unfold where_ find at hw
      rw [List.find?_eq_none] at hw
      exact hw x hx (by simp)
    | some y =>
      rw [hw] at h
      unfold where_ find at hw
      have hp : y.p = x.p := by simpa using List.find?_some hw
      obtain ⟨yg, yk, yi, yp⟩ := y
      obtain ⟨xg, xk, xi, xp⟩ := x
      simp only [at0, Prod.mk.injEq] at h
      obtain ⟨h1, h2, h3⟩ := h
      subst h1 h2 h3
      simp only at hp
      rw [hp]
  · intro h; rw [h]; rfl
theorem rows_at {T : Tab} {g : Nat} (hg : g < T.groups.length) : rowsAt T g = T.groups[g] := rows_in (List.getElem?_eq_getElem hg)
/-- Each place of a row within its ranges is a spot. -/
theorem spot_of {T : Tab} (h : InR T) {g k i : Nat} (hg : g < T.groups.length) (hk : k < 2) (hi : i < (ringOf (rowsAt T g) k).length) : (⟨g, k, i, (ringOf (rowsAt T g) k).getD i 0⟩ : Spt) ∈ spots T := by
  have hm := h.gr _ (List.getElem_mem hg)
  unfold groupMay rowMay at hm
  simp only [Bool.and_eq_true, allIn_iff] at hm
  rw [mem_spots]
  refine ⟨T.groups[g], List.getElem?_eq_getElem hg, ?_⟩
  rw [rows_at hg] at hi ⊢
  simp only
  have he : (ringOf T.groups[g] k)[i]? = some ((ringOf T.groups[g] k).getD i 0) := by rw [List.getD_eq_getElem?_getD, List.getElem?_eq_getElem hi]; rfl
  refine ⟨he, ?_⟩
  have hmem : (ringOf T.groups[g] k).getD i 0 ∈ ringOf T.groups[g] k := List.mem_of_getElem? he
  have h01 : k = 0 ∨ k = 1 := by omega
  rcases h01 with rfl | rfl
  · have := hm.1.2 _ hmem; omega
  · have := hm.2.2 _ hmem; omega
theorem rep_iff {T : Tab} (h : InR T) {g : Nat} (hg : g < T.groups.length) : repeats T g = false ↔ ∀ x ∈ inG T g, where_ T x.p = some x := by
  unfold repeats
  rw [Bool.or_eq_false_iff, ChkG.rep_row, ChkG.rep_row]
  constructor
  · rintro ⟨h0, h1⟩ x hx
    obtain ⟨hs, hxg⟩ := mem_inG.1 hx
    rw [← at_some hs]
    obtain ⟨y, hy, hr, _⟩ := mem_spots.1 hs
    have hry : rowsAt T (x.g : Nat) = y := rows_in hy
    rw [hxg] at hry
    have hlt := (List.getElem?_eq_some_iff.1 hr).1
    have hk : x.k = 0 ∨ x.k = 1 := by
      unfold ringOf at hr
      by_cases e0 : x.k = 0
      · exact .inl e0
      · by_cases e1 : x.k = 1
        · exact .inr e1
        · rw [if_neg e0, if_neg e1] at hr; simp at hr
    have hv : (ringOf y x.k).getD x.i 0 = x.p := by rw [List.getD_eq_getElem?_getD, hr]; rfl
    rcases hk with e | e
    · rw [e] at hlt hv
      have := h0 x.i (by rw [hry]; exact hlt)
      unfold ChkG.atOk at this
      rw [beq_iff_eq, hry, show y.1.getD x.i 0 = x.p from hv] at this
      rw [this, hxg, e]
    · rw [e] at hlt hv
      have := h1 x.i (by rw [hry]; exact hlt)
      unfold ChkG.atOk at this
      rw [beq_iff_eq, hry, show y.2.getD x.i 0 = x.p from hv] at this
      rw [this, hxg, e]
  · intro hall
    constructor
    · intro i hi
      have hs := spot_of h hg (k := 0) (by omega) hi
      have := (at_some hs).2 (hall _ (mem_inG.2 ⟨hs, rfl⟩))
      unfold ChkG.atOk
      rw [beq_iff_eq]
      exact this
    · intro i hi
      have hs := spot_of h hg (k := 1) (by omega) hi
      have := (at_some hs).2 (hall _ (mem_inG.2 ⟨hs, rfl⟩))
      unfold ChkG.atOk
      rw [beq_iff_eq]
      exact this
theorem inj_of {A : List Spt} : (A.map Spt.p).Nodup → ∀ {x y : Spt}, x ∈ A → y ∈ A → x.p = y.p → x = y := by
  induction A with
  | nil => intro _ x y hx; cases hx
  | cons a A ih =>
    intro hn x y hx hy hp
    rw [List.map_cons, List.nodup_cons] at hn
    rcases List.mem_cons.1 hx with hx | hx
    · rcases List.mem_cons.1 hy with hy | hy
      · rw [hx, hy]
      · exact absurd (List.mem_map.2 ⟨y, hy, by rw [← hp, hx]⟩) hn.1
    · rcases List.mem_cons.1 hy with hy | hy
      · exact absurd (List.mem_map.2 ⟨x, hx, by rw [hp, hy]⟩) hn.1
      · exact ih hn.2 hx hy hp
theorem first_iff {T : Tab} (g : Nat) : (∀ x ∈ inG T g, where_ T x.p = some x) ↔ (phG T g).Nodup ∧ ∀ p ∈ phG T g, SetM.has (placed T g : Nat) p = false := by
  constructor
  · intro h
    constructor
    · unfold phG List.Nodup
      rw [List.pairwise_map]
      have hs : (inG T g).Pairwise Lt := (spots_sorted T).sublist List.filter_sublist
      refine List.Pairwise.imp_of_mem (fun {y x} hy hx hl e => ?_) hs
      exact where_first (h x hx) (mem_inG.1 hy).1 e hl
    · intro p hp
      obtain ⟨x, hx, rfl⟩ := List.mem_map.1 hp
      cases e : SetM.has (placed T g : Nat) x.p with
      | false => rfl
      | true =>
        exfalso
        obtain ⟨y, h1, h2, h3⟩ := (has_placed g).1 e
        exact where_first (h x hx) h1 h3 (.inl (by rw [(mem_inG.1 hx).2]; exact h2))
  · rintro ⟨hn, hp⟩ x hx
    obtain ⟨hs, hxg⟩ := mem_inG.1 hx
    refine where_some hs rfl (fun y hy hl e => ?_)
    rcases hl with hl | ⟨hl, hl2⟩
    · have := hp x.p (List.mem_map.2 ⟨x, hx, rfl⟩)
      rw [(has_placed g).2 ⟨y, hy, by omega, e⟩] at this
      cases this
    · have hyx := inj_of hn (mem_inG.2 ⟨hy, by omega⟩) hx e
      subst hyx
      omega
theorem of_zero {l : List Int} (hr : ∀ p ∈ l, 0 ≤ p ∧ p < 8) : SetM.of l = 0 ↔ l = [] := by
  constructor
  · intro h
    cases l with
    | nil => rfl
    | cons p l =>
      exfalso
      have hp := hr p (List.mem_cons_self ..)
      exact (low_ne (SetM.of_lt (p :: l))).2 ⟨p, has_of.2 ⟨hp.1, hp.2, List.mem_cons_self ..⟩⟩ h
  · rintro rfl; rfl
theorem group_iff {T : Tab} (h : InR T) {g : Nat} (hg : g < T.groups.length) : groupBad T g = false ↔
    phG T g ≠ [] ∧ (∀ p ∈ phG T g, SetM.has (onS T : Nat) p = true) ∧ (phG T g).Nodup ∧ ∀ p ∈ phG T g, SetM.has (placed T g : Nat) p = false := by
  unfold groupBad
  rw [Bool.or_eq_false_iff, Bool.or_eq_false_iff, rep_iff h hg, first_iff, beq_eq_false_iff_ne, Bool.not_eq_false', allOn_iff (by have := memb_lt T g; omega), ← memb_eq, ne_eq, of_zero (fun p hp => ph_range hp)]
  rw [memb_eq]
  simp only [has_memb]
/-- What the document's walk through a group comes to. -/
theorem group_step {T : Tab} (h : InR T) {g : Nat} (hg : g < T.groups.length) :
    (groupBad T g = true → foldR (onS T : Nat) g (spots T) (0, placed T g) = none ∨ ∃ s, foldR (onS T : Nat) g (spots T) (0, placed T g) = some (0, s)) ∧
    (groupBad T g = false → ∃ n, foldR (onS T : Nat) g (spots T) (0, placed T g) = some (n, placed T (g + 1)) ∧ n ≠ 0) := by
  have hf : foldR (onS T : Nat) g (spots T) (0, placed T g) = ChkZ.go (onS T : Nat) (phG T g) (0, placed T g) := fold_go _ _ _ _ _
  rw [hf]
  have hi := group_iff h hg
  constructor
  · intro hb
    cases hgo : ChkZ.go (onS T : Nat) (phG T g) (0, placed T g) with
    | none => exact .inl rfl
    | some st =>
      obtain ⟨n', s'⟩ := st
      obtain ⟨a1, a2, a3, a4, a5, a6⟩ := go_good (ChkH.placed_lt T g) (fun p hp => ph_range hp) hgo
      have : phG T g = [] := by
        refine Classical.byContradiction fun hne => ?_
        have := hi.2 ⟨hne, a1, a3, a2⟩
        rw [this] at hb; cases hb
      rw [this] at a4
      exact .inr ⟨s', by rw [a4]; rfl⟩
  · intro hb
    obtain ⟨b1, b2, b3, b4⟩ := hi.1 hb
    cases hgo : ChkZ.go (onS T : Nat) (phG T g) (0, placed T g) with
    | none =>
      exfalso
      rcases go_bad hgo with ⟨p, h1, h2⟩ | ⟨p, h1, h2⟩ | h1
      · rw [b2 p h1] at h2; cases h2
      · rw [b4 p h1] at h2; cases h2
      · exact h1 b3
    | some st =>
      obtain ⟨n', s'⟩ := st
      obtain ⟨a1, a2, a3, a4, a5, a6⟩ := go_good (ChkH.placed_lt T g) (fun p hp => ph_range hp) hgo
      have e : s' = placed T (g + 1) := by
        refine SetM.has_ext a5 (ChkH.placed_lt T (g + 1)) fun q => ?_
        rw [Bool.eq_iff_iff, a6, show placed T (g + 1) = placed T g ||| membS T g from rfl, has_or (ChkH.placed_lt T g) (memb_lt T g), has_memb]
      refine ⟨n', by rw [e], ?_⟩
      rw [a4]
      have := List.length_pos_iff.2 b1
      omega
def tailC (T : Tab) : Option Int :=
  match (List.range T.groups.length).find? (groupBad T) with
  | some g => some (g : Int)
  | none => if bits .andNot .i64 (onS T : Nat) (placed T T.groups.length : Nat) = 0 then none else some 0
theorem loop_eq {T : Tab} (h : InR T) : ∀ (m g : Nat), g + m = T.groups.length → (∀ j, j < g → groupBad T j = false) → loopR T m g (placed T g) = tailC T
  | 0, g, hg, hn => by
    obtain rfl : g = T.groups.length := by omega
    unfold tailC
    rw [range_miss hn]
    simp only [loopR]
    have hon : 0 ≤ ((onS T : Nat) : Int) ∧ ((onS T : Nat) : Int) ≤ 255 := by have : onS T < 256 := SetM.of_lt _; omega
    have e : placed T T.groups.length = onS T ↔ bits .andNot .i64 (onS T : Nat) (placed T T.groups.length : Nat) = 0 := by
      rw [andNot_zero hon (ChkH.placed_lt T _)]
      constructor
      · intro e q hq; rw [e]; exact hq
      · intro hsub
        refine SetM.has_ext (ChkH.placed_lt T _) (SetM.of_lt _) fun q => ?_
        rw [Bool.eq_iff_iff]
        refine ⟨fun hq => ?_, hsub q⟩
        obtain ⟨y, h1, h2, rfl⟩ := (has_placed _).1 hq
        exact ((group_iff h h2).1 (hn y.g h2)).2.1 _ (List.mem_map.2 ⟨y, mem_inG.2 ⟨h1, rfl⟩, rfl⟩)
    by_cases he : placed T T.groups.length = onS T
    · rw [if_pos he, if_pos (e.1 he)]
    · rw [if_neg he, if_neg (fun h => he (e.2 h))]
  | m + 1, g, hg, hn => by
    have hlt : g < T.groups.length := by omega
    obtain ⟨s1, s2⟩ := group_step h hlt
    cases hb : groupBad T g with
    | true =>
      have ht : tailC T = some (g : Int) := by unfold tailC; rw [range_hit hlt hb hn]
      rw [ht]
      rcases s1 hb with h1 | ⟨s, h1⟩
      · exact RkR.loop_none h1
      · exact RkR.loop_zero h1
    | false =>
      obtain ⟨n, h1, h2⟩ := s2 hb
      rw [RkR.loop_next h1 h2]
      refine loop_eq h m (g + 1) (by omega) (fun j hj => ?_)
      by_cases e : j = g
      · subst e; exact hb
      · exact hn j (by omega)
theorem rings_eq {T : Tab} (h : InR T) : ringsC T = ringsR T := by
  unfold ringsC ringsR
  by_cases h0 : T.groups.length = 0
  · rw [if_pos h0, if_pos h0]
  · rw [if_neg h0, if_neg h0, show (0 : Nat) = placed T 0 from rfl]
    exact (loop_eq h T.groups.length 0 (by omega) (fun j hj => by omega)).symm
/-! ### all rules -/
theorem find_congr {f g : Int → Bool} : ∀ {l : List Int}, (∀ x ∈ l, f x = g x) → l.find? f = l.find? g
  | [], _ => rfl
  | x :: l, h => by
    rw [List.find?_cons, List.find?_cons, h x (List.mem_cons_self ..), find_congr (fun y hy => h y (List.mem_cons_of_mem _ hy))]
theorem idx_congr {α : Type} {f g : α → Bool} {l : List α} (h : ∀ x ∈ l, f x = g x) : idx f l = idx g l := by
  have : l.findIdx? f = l.findIdx? g := by
    induction l with
    | nil => rfl
    | cons x l ih => rw [List.findIdx?_cons, List.findIdx?_cons, h x (List.mem_cons_self ..), ih (fun y hy => h y (List.mem_cons_of_mem _ hy))]
  unfold idx
  rw [this]
theorem chk_eq {T : Tab} (h8 : T.phases.length = 8) (hc : T.conflict.length = 8) : chkC T = chkR T := by
  cases hm : tabMay T with
  | false => unfold chkC chkR rulesC rulesR mayF; rw [hm]; rfl
  | true =>
    have h := in_ranges hm
    have hb : ∀ p ∈ ons T, 0 ≤ p ∧ p < 8 := fun p hp => SetM.list_bd _ _ hp
    unfold chkC chkR rulesC rulesR
    rw [rings_eq h,
      find_congr (f := fun p => phBad (phAt T p)) (g := fun p => !phOk (phAt T p)) (fun p hp => by rw [ph_eq (ph_at h h8 (hb p hp).1 (hb p hp).2), Bool.not_not]),
      find_congr (f := confBad T) (g := fun p => !confOk T p) (fun p hp => by rw [conf_eq hp, Bool.not_not]),
      idx_congr (f := detBad T) (g := detR T) (fun d hd => by
        have hd' := h.dt d hd
        unfold Det.may at hd'
        rw [Bool.and_eq_true, allIn_iff] at hd'
        have := hd'.1 d.phase (by simp)
        exact det_eq h8 this.1 (by omega)),
      idx_congr (f := railBad T) (g := fun r => !railOk T r) (fun r hr => by rw [rail_eq h hc (h.rl r hr), Bool.not_not]),
      idx_congr (f := busBad T) (g := busR T) (fun b hb' => bus_eq (h.bs b hb')),
      find_congr (f := flashBad T) (g := fun p => !flashOk T p) (fun p hp => by rw [flash_eq, Bool.not_not])]
end Go.Proofs.Ytfekngnfjemgeaa.ChkZ
/- The contracts of the document's own Clash and exit. -/
namespace Go.Proofs.Ytfekngnfjemgeaa.RkB
open Go.ChangeShapes Go.WideShapes Go.ChangeAt Go.RowKit
open Tab PlaceM PlanM OnS ChkM ChkI
open RefS (rlist_any rhas_any row_of)
open May (ret_bool infoT infoP)
set_option linter.unusedVariables false
set_option linter.unusedSimpArgs false
theorem getD_mem {L : List Int} {q : Nat} (h : q < L.length) : L.getD q 0 ∈ L := by rw [List.getD_eq_getElem?_getD, List.getElem?_eq_getElem h]; exact List.getElem_mem h
theorem any_no {f : Int → Bool} {L : List Int} (h : ∀ j, j < L.length → f (L.getD j 0) = false) : L.any f = false := by
  rw [List.any_eq_false]
  intro z hz
  obtain ⟨i, hi, rfl⟩ := List.getElem_of_mem hz
  have := h i hi
  rw [List.getD_eq_getElem?_getD, List.getElem?_eq_getElem hi] at this
  simpa using this
def pairR (T : Tab) (p q : Int) : Bool := SetM.has (cfAt T p) q || SetM.has (cfAt T q) p
set_option maxRecDepth 100000 in
set_option maxHeartbeats 8000000 in
theorem rclash_any (T : Tab) (h : Hd) (sa sb : Int) (w : World) (ht : IsTab w h T) :
    Calls Try.prog 99 #[.agg (T.cells h).toArray, .int .i64 sa, .int .i64 sb] w fun e w' => e = .returned (.bool (clashR T sa sb)) ∧ Below w.heap.size w w' := by
  have hsz := (cells_ok ht).size
  have BX0 := Lib.hid (bxd_new ht)
  have A0 : Hid (Below w.heap.size w (w.alloc (.cells (T.cells h).toArray 32))) := Lib.hid ((Below.refl _ _).alloc (Nat.le_refl _) _)
  obtain ⟨x, hx⟩ : ∃ x, x = clashR T sa sb := ⟨_, rfl⟩
  rw [← hx]
  have HX : Hid (x = (SetM.list sa).any fun p => (SetM.list sb).any (pairR T p)) := Lib.hid hx
  have FR : Hid (∀ p q, pairR T p q = (SetM.has (cfAt T p) q || SetM.has (cfAt T q) p)) := Lib.hid (fun p q => rfl)
  have RA := Lib.hid (rlist_any sa)
  have RB := Lib.hid (rlist_any sb)
  have BDA := Lib.hid (fun q (hq : q ∈ SetM.list sa) => SetM.list_bd _ q hq)
  have BDB := Lib.hid (fun q (hq : q ∈ SetM.list sb) => SetM.list_bd _ q hq)
  have hla := SetM.list_len sa
  have hlb := SetM.list_len sb
  generalize SetM.list sa = La at *
  generalize SetM.list sb = Lb at *
  clear ht hx
  generalize T.cells h = c at *
  go_enter Try.func99, Try.ntmps99
  go_upto_region 1 with fail
  generalize w.alloc (.cells c.toArray 32) = u at A0 BX0 ⊢
  clear hsz
  go_wp2_with fail
  refine (RA.out _).mono ?_
  rintro e u1 ⟨v, rfl, hown, hb⟩
  obtain ⟨aa, acap, rfl, hrow⟩ := row_of hown
  have HROW := Lib.hid hrow
  have B0 : Hid (Below w.heap.size w u1) := Lib.hid (A0.out.trans (hb.mono A0.out.size))
  have BX1 := Lib.hid (BX0.out.below hb)
  clear hown hrow hb A0 BX0
  go_wp2_with fail
  go_loopw [14] (fun i wr => ∃ q : Nat, q ≤ La.length ∧ i = .int .i64 q ∧ (∀ j, j < q → Lb.any (pairR T (La.getD j 0)) = false) ∧ Below u1.heap.size u1 wr) (fun i _ => La.length - (intOf i).toNat)
  case atStart => exact ⟨0, by omega, rfl, (fun j h => by omega), Below.refl _ _⟩
  case round =>
    obtain ⟨q, hq, rfl, hall, hB⟩ := hrel
    have HA := Lib.hid hall
    have HB := Lib.hid hB
    have BW : Hid (Below w.heap.size w wr) := Lib.hid (B0.out.trans (hB.mono B0.out.size))
    have BX2 := Lib.hid (BX1.out.below hB)
    have HROWA := Lib.hid (HROW.out.below hB)
    clear hall hB
    by_cases hlt : q < La.length
    · obtain ⟨y, rfl, hcells⟩ := HROWA.out.cells hlt
      have cq := hcells q hlt
      have hmem := getD_mem hlt
      have hbd := BDA.out _ hmem
      generalize hz : La.getD q 0 = z at *
      have HZ := Lib.hid hz
      have HM := Lib.hid hmem
      clear hcells hz hmem
      obtain ⟨p, rfl⟩ := Int.eq_ofNat_of_zero_le hbd.1
      have hp8 : ((p : Nat) : Int) < 8 := hbd.2
      go_wp2_with fail
      refine (RB.out _).mono ?_
      rintro e u2 ⟨v, rfl, hown, hb⟩
      obtain ⟨ab, bcap, rfl, hrow⟩ := row_of hown
      have HROWB := Lib.hid hrow
      have HB2 := Lib.hid (HB.out.trans (hb.mono HB.out.size))
      have BW2 : Hid (Below w.heap.size w u2) := Lib.hid (BW.out.trans (hb.mono BW.out.size))
      have BX := Lib.hid (BX2.out.below hb)
      clear hown hrow hb cq BX2 BW HB
      go_wp2_with fail
      go_loopw [21] (fun i wk => ∃ r : Nat, r ≤ Lb.length ∧ i = .int .i64 r ∧ (∀ j, j < r → pairR T p (Lb.getD j 0) = false) ∧ wk = u2) (fun i _ => Lb.length - (intOf i).toNat)
      case atStart => exact ⟨0, by omega, rfl, (fun j h => by omega), rfl⟩
      case round =>
        obtain ⟨r, hr, rfl, hall2, rfl⟩ := hrel
        rename World => wk
        have HA2 := Lib.hid hall2
        clear hall2
        by_cases hlt2 : r < Lb.length
        · obtain ⟨y2, rfl, hcells⟩ := HROWB.out.cells hlt2
          have cr := hcells r hlt2
          have hmem := getD_mem hlt2
          have hbd2 := BDB.out _ hmem
          generalize hz : Lb.getD r 0 = z2 at *
          have HZ2 := Lib.hid hz
          have HM2 := Lib.hid hmem
          clear hcells hz hmem
          obtain ⟨j, rfl⟩ := Int.eq_ofNat_of_zero_le hbd2.1
          have hj8 : ((j : Nat) : Int) < 8 := hbd2.2
          have cp := BX.out.cf p (by omega) (by omega)
          have cj := BX.out.cf j (by omega) (by omega)
          rw [Int.toNat_natCast] at cp cj
          have FQ := Lib.hid (FR.out p j)
          have NEXT : Hid (pairR T p j = false → ∀ i, i < r + 1 → pairR T p (Lb.getD i 0) = false) := Lib.hid (fun e i hi => by
            by_cases h1 : i = r
            · subst h1; rw [HZ2.out]; exact e
            · exact HA2.out i (by omega))
          have STOP : Hid (pairR T p j = true → true = x) := Lib.hid (fun e => by
            rw [HX.out]; symm; rw [List.any_eq_true]; exact ⟨_, HM.out, List.any_eq_true.2 ⟨_, HM2.out, e⟩⟩)
          obtain ⟨ha, hha⟩ : ∃ z, SetM.has (cfAt T p) j = z := ⟨_, rfl⟩
          obtain ⟨hb, hhb⟩ : ∃ z, SetM.has (cfAt T j) p = z := ⟨_, rfl⟩
          rw [hha, hhb] at FQ
          have HHA := Lib.hid hha
          have HHB := Lib.hid hhb
          clear hha hhb
          go_wp2_with fail
          refine (rhas_any _ _ _).mono ?_
          rintro e w' ⟨rfl, rfl⟩
          rw [HHA.out]
          cases ha with
          | true =>
            have SX := Lib.hid (STOP.out (by rw [FQ.out]; rfl))
            go_wp2
            go_ret
            exact ⟨ret_bool SX.out, BW2.out⟩
          | false =>
            go_wp2_with fail
            refine (rhas_any _ _ _).mono ?_
            rintro e w' ⟨rfl, rfl⟩
            rw [HHB.out]
            cases hb with
            | true =>
              have SX := Lib.hid (STOP.out (by rw [FQ.out]; rfl))
              go_wp2
              go_ret
              exact ⟨ret_bool SX.out, BW2.out⟩
            | false =>
              have NX := Lib.hid (NEXT.out (by rw [FQ.out]; rfl))
              go_wp2
              go_roundw
              case rel => exact ⟨r + 1, by omega, by go_num, NX.out, trivial⟩
              case measure => simp [intOf]; omega
        · have NX : Hid (∀ i, i < q + 1 → Lb.any (pairR T (La.getD i 0)) = false) := Lib.hid (fun i hi => by
            by_cases h1 : i = q
            · subst h1; rw [HZ.out]; exact any_no (fun j hj => HA2.out j (by omega))
            · exact HA.out i (by omega))
          go_wp2
          go_roundw
          case rel => exact ⟨q + 1, by omega, by go_num, NX.out, HB2.out⟩
          case measure => simp [intOf]; omega
    · have SX : Hid (false = x) := Lib.hid (by
        rw [HX.out, any_no (f := fun p => Lb.any (pairR T p)) (fun j hj => HA.out j (by omega))])
      go_wp2
      go_ret
      exact ⟨ret_bool SX.out, BW.out⟩
theorem pairs_yes {T : Tab} {L : List Int} (h : ∀ i, i < L.length → ∀ k, k < i → beside T (L.getD i 0) (L.getD k 0) = true) : pairs T L = true := by
  unfold pairs
  rw [List.all_eq_true]
  intro i hi
  rw [List.all_eq_true]
  intro k hk
  exact h i (List.mem_range.1 hi) k (List.mem_range.1 hk)
theorem pairs_no {T : Tab} {L : List Int} {i k : Nat} (hi : i < L.length) (hk : k < i) (h : beside T (L.getD i 0) (L.getD k 0) = false) : pairs T L = false := by
  unfold pairs
  rw [List.all_eq_false]
  refine ⟨i, List.mem_range.2 hi, ?_⟩
  rw [Bool.not_eq_true, List.all_eq_false]
  exact ⟨k, List.mem_range.2 hk, by simp only [h]; simp⟩
set_option maxRecDepth 100000 in
set_option maxHeartbeats 8000000 in
theorem exit_any (T : Tab) (h : Hd) (s : Int) (w : World) (ht : IsTab w h T) (sm : Few T) :
    Calls Try.prog 98 #[.agg (T.cells h).toArray, .int .i64 s] w fun e w' => e = .returned (.bool (exitR T s)) ∧ Below w.heap.size w w' := by
  have hsz := (cells_ok ht).size
  have IA : Hid ((Try.prog.info? 32).map (·.size) = some (T.cells h).length) := Lib.hid (by rw [List.size_toArray] at hsz; rw [hsz]; exact infoT)
  have BS : Hid (∀ (p q : Int) W, Below w.heap.size w W → Calls Try.prog 18 #[.agg (T.cells h).toArray, .int .i64 p, .int .i64 q] W fun e w' => e = .returned (.bool (beside T p q)) ∧ Below W.heap.size W w') := Lib.hid (fun p q W hb => Where.beside_any T h p q W (ht.below hb) sm)
  have LT0 := Lib.hid (Row.lies_new w (T.cells h).toArray 32)
  have A0 : Hid (Below w.heap.size w (w.alloc (.cells (T.cells h).toArray 32))) := Lib.hid ((Below.refl _ _).alloc (Nat.le_refl _) _)
  obtain ⟨x, hx⟩ : ∃ x, x = exitR T s := ⟨_, rfl⟩
  rw [← hx]
  have HX : Hid (x = (pairs T (SetM.list s) && decide (0 < (SetM.list s).length))) := Lib.hid hx
  have PY := Lib.hid (fun (h : ∀ i, i < (SetM.list s).length → ∀ k, k < i → beside T ((SetM.list s).getD i 0) ((SetM.list s).getD k 0) = true) => pairs_yes h)
  have PN := Lib.hid (fun (i k : Nat) (hi : i < (SetM.list s).length) (hk : k < i) (h : beside T ((SetM.list s).getD i 0) ((SetM.list s).getD k 0) = false) => pairs_no hi hk h)
  have RA := Lib.hid (rlist_any s)
  have hla := SetM.list_len s
  generalize SetM.list s = L at *
  clear ht hx
  generalize T.cells h = c at *
  go_enter Try.func98, Try.ntmps98
  go_upto_region 1 with fail
  generalize w.alloc (.cells c.toArray 32) = u at A0 LT0 ⊢
  clear hsz
  go_wp2_with fail
  refine (RA.out _).mono ?_
  rintro e u1 ⟨v, rfl, hown, hb⟩
  obtain ⟨aa, acap, rfl, hrow⟩ := row_of hown
  have HROW := Lib.hid hrow
  have B0 : Hid (Below w.heap.size w u1) := Lib.hid (A0.out.trans (hb.mono A0.out.size))
  have LT1 := Lib.hid (LT0.out.below hb)
  clear hown hrow hb A0 LT0
  go_wp2_with fail
  go_loopw [6] (fun i wr => ∃ q : Nat, q ≤ L.length ∧ i = .int .i64 q ∧ (∀ i, i < q → ∀ k, k < i → beside T (L.getD i 0) (L.getD k 0) = true) ∧ Below u1.heap.size u1 wr) (fun i _ => L.length - (intOf i).toNat)
  case atStart => exact ⟨0, by omega, rfl, (fun j h => by omega), Below.refl _ _⟩
  case round =>
    obtain ⟨q, hq, rfl, hall, hB⟩ := hrel
    have HA := Lib.hid hall
    have HB := Lib.hid hB
    clear hall hB
    by_cases hlt : q < L.length
    · go_wp2_with fail
      go_loopw [7] (fun i wk => ∃ r : Nat, r ≤ q ∧ i = .int .i64 r ∧ (∀ k, k < r → beside T (L.getD q 0) (L.getD k 0) = true) ∧ Below wr.heap.size wr wk) (fun i _ => q - (intOf i).toNat)
      case atStart => exact ⟨0, by omega, rfl, (fun j h => by omega), Below.refl _ _⟩
      case round =>
        obtain ⟨r, hr, rfl, hall2, hB2⟩ := hrel
        rename World => wk
        have HA2 := Lib.hid hall2
        have HB2 := Lib.hid hB2
        have HBK := Lib.hid (HB.out.trans (hB2.mono HB.out.size))
        clear hall2 hB2
        by_cases hlt2 : r < q
        · have BW : Hid (Below w.heap.size w wk) := Lib.hid (B0.out.trans (HBK.out.mono B0.out.size))
          have LT := Lib.hid (LT1.out.below HBK.out)
          obtain ⟨y, rfl, hcells⟩ := (HROW.out.below HBK.out).cells hlt
          have cq := hcells q hlt
          have cr := hcells r (by omega)
          have PNQ := Lib.hid (PN.out q r hlt hlt2)
          obtain ⟨bs, hbs⟩ : ∃ z, beside T (L.getD q 0) (L.getD r 0) = z := ⟨_, rfl⟩
          have HBS := Lib.hid hbs
          have BSQ : Hid (∀ p : Ph.S (Row.Old wk), Calls Try.prog 18 #[.agg c.toArray, .int .i64 (L.getD q 0), .int .i64 (L.getD r 0)] p.world fun e w' => e = .returned (.bool bs) ∧ Below p.world.heap.size p.world w') := Lib.hid (fun p => by have := BS.out (L.getD q 0) (L.getD r 0) p.world (BW.out.trans (p.is.mono BW.out.size)); rwa [hbs] at this)
          clear hbs hcells
          generalize L.getD q 0 = zq at *
          generalize hzr : L.getD r 0 = zr at *
          have HZR := Lib.hid hzr
          clear hzr
          have hne : Nonempty (Ph.S (Row.Old wk)) := ⟨⟨0, wk, Below.refl _ _⟩⟩
          have CQ : ∀ p : Ph.S (Row.Old wk), p.world.cell? (y.add q) = some (.int .i64 zq) := fun p => (p.is.cell (World.block_lt_of_cell? wk _ cq)).trans cq
          have CR : ∀ p : Ph.S (Row.Old wk), p.world.cell? (y.add r) = some (.int .i64 zr) := fun p => (p.is.cell (World.block_lt_of_cell? wk _ cr)).trans cr
          clear cq cr
          have hqi : ((q : Nat) : Int) < (L.length : Nat) := by omega
          have hri : ((r : Nat) : Int) < (L.length : Nat) := by omega
          have hrq : ((r : Nat) : Int) < (q : Nat) := by omega
          go_upto_region 8 with fail
          refine Pw.region (Row.Old wk) [] hmx (by kernel_rfl) (Row.Old.drew _) ?_
          refine Pw.load rfl (by rfl) 32 _ rfl ⟨w.heap.size, 0, none⟩ rfl c _ (fun p => LT.out.below p.is) Try.underlying32 rfl IA.out ?_
          (try dsimp only [Act.put]); (try simp only [List.setIfInBounds_toArray, List.set_cons_zero, List.set_cons_succ])
          iterate 8
            (refine Pw.calm rfl (fun K hK => ?_)
             go_simp
             refine hK _ ?_
             clear hK K)
          (refine Pw.calm rfl (fun K hK => ?_)
           go_simp
           refine ⟨_, fun p => Row.Old.call (BSQ.out p), hK _ ?_⟩
           clear hK K)
          iterate 1
            (refine Pw.calm rfl (fun K hK => ?_)
             go_simp
             refine hK _ ?_
             clear hK K)
          refine Pw.nil ?_
          intro uz hbz
          have EZ : Hid (Below w.heap.size w uz) := Lib.hid (BW.out.trans (hbz.mono BW.out.size))
          have EK := Lib.hid (HB2.out.trans (hbz.mono HB2.out.size))
          clear hbz CQ CR hne
          cases bs with
          | true =>
            have NX : Hid (∀ k, k < r + 1 → beside T zq (L.getD k 0) = true) := Lib.hid (fun k hk => by
              by_cases h1 : k = r
              · subst h1; rw [HZR.out]; exact HBS.out
              · exact HA2.out k (by omega))
            go_wp2
            go_roundw
            case rel => exact ⟨r + 1, by omega, by go_num, NX.out, EK.out⟩
            case measure => simp [intOf]; omega
          | false =>
            have SX : Hid (false = x) := Lib.hid (by rw [HX.out, PNQ.out HBS.out]; rfl)
            go_wp2
            go_ret
            exact ⟨ret_bool SX.out, EZ.out⟩
        · have NX : Hid (∀ i, i < q + 1 → ∀ k, k < i → beside T (L.getD i 0) (L.getD k 0) = true) := Lib.hid (fun i hi k hk => by
            by_cases h1 : i = q
            · subst h1; exact HA2.out k (by omega)
            · exact HA.out i (by omega) k hk)
          go_wp2
          go_roundw
          case rel => exact ⟨q + 1, by omega, by go_num, NX.out, HBK.out⟩
          case measure => simp [intOf]; omega
    · have SX : Hid (x = decide (0 < L.length)) := Lib.hid (by
        rw [HX.out, PY.out (fun i hi k hk => HA.out i (by omega) k hk)]; simp)
      have BW : Hid (Below w.heap.size w wr) := Lib.hid (B0.out.trans (HB.out.mono B0.out.size))
      go_wp2
      go_ret
      exact ⟨ret_bool (by rw [SX.out]), BW.out⟩
end Go.Proofs.Ytfekngnfjemgeaa.RkB
/- The times of a rail, as the document asks. -/
namespace Go.Proofs.Ytfekngnfjemgeaa.RkC
open Go.ChangeShapes Go.WideShapes Go.ChangeAt Go.RowKit
open Tab PlaceM PlanM OnS ChkM ChkA
open ChkB (laid2)
open May (ret_bool infoT infoR)
set_option linter.unusedVariables false
set_option linter.unusedSimpArgs false
def timesOk (r : Rl) : Bool := (decide (0 < r.hold) == (r.clear != 0)) && (decide (1 ≤ r.green) && (decide (1 ≤ r.stay) && ((r.most == 0 || decide (r.stay ≤ r.most)) && decide (r.delay < r.limit))))
end Go.Proofs.Ytfekngnfjemgeaa.RkC
/- Operations that are passed over, and moves and picks of literal booleans: all of a region's rest in one step that the kernel computes. No program in it. -/
namespace Go.Proofs.Ytfekngnfjemgeaa.Early
open Go Go.RowKit
def outB (ops : Array Oper) : List Oper → Act → Option Act
  | [], a => some a
  | o :: l, a =>
    if Region.wanted o (yielded ops a.tmps) then
      (match o.op with
       | .move x => outB ops l (a.put o.dst (a.eval x))
       | .assign x => outB ops l (a.put o.dst (a.eval x))
       | .pick c x y => (match a.eval c with
         | .bool b => outB ops l (a.put o.dst (if b then a.eval x else a.eval y))
         | _ => none)
       | _ => none)
    else outB ops l (a.put o.dst undef)
theorem out {P : Program} {ops : Array Oper} {Q : Exit → Act → World → Prop} {w : World} : ∀ {l : List Oper} {a a' : Act}, outB ops l a = some a' → Q .normal a' w → wpList P ops Q l a w
  | [], a, a', h, hQ => by
    obtain rfl : a = a' := Option.some.inj h
    exact hQ
  | o :: l, a, a', h, hQ => by
    unfold outB at h
    unfold wpList
    split at h
    · rename_i hw
      rw [if_pos hw]
      refine .inl ?_
      obtain ⟨dst, op, type, pos, after, guard⟩ := o
      unfold Oper.wp
      cases op with
      | move x => exact out (l := l) h hQ
      | assign x => exact out (l := l) h hQ
      | pick c x y =>
        dsimp only at h
        have hx : ∀ b, a.eval c = .bool b → (execOp a.eval { dst, op := .pick c x y, type, pos, after, guard }).run P w = .ok (.value (if b then a.eval x else a.eval y)) w := by
          intro b hb
          simp only [execOp, hb]
          cases b <;> rfl
        cases hc : a.eval c with
        | bool b =>
          rw [hc] at h
          rw [hx b hc]
          exact out (l := l) h hQ
        | _ => rw [hc] at h; cases h
      | _ => cases h
    · rename_i hw
      rw [if_neg hw]
      exact out (l := l) h hQ
theorem out_get {P : Program} {ops : Array Oper} {Q : Exit → Act → World → Prop} {w : World} {l : List Oper} {a : Act} (h : (outB ops l a).isSome = true) (hQ : Q .normal ((outB ops l a).getD a) w) : wpList P ops Q l a w := by
  cases e : outB ops l a with
  | none => rw [e] at h; cases h
  | some a' => rw [e] at hQ; exact out e hQ
theorem skip {P : Program} {ops : Array Oper} {Q : Exit → Act → World → Prop} {w : World} {o : Oper} {l : List Oper} {a : Act} (h : Region.wanted o (yielded ops a.tmps) = false) (hr : wpList P ops Q l (a.put o.dst undef) w) : wpList P ops Q (o :: l) a w := by
  unfold wpList
  rw [if_neg (by rw [h]; simp)]
  exact hr
end Go.Proofs.Ytfekngnfjemgeaa.Early
/- The document's own rail: one way through it (0). -/
namespace Go.Proofs.Ytfekngnfjemgeaa.RkC
open Go.ChangeShapes Go.WideShapes Go.ChangeAt Go.RowKit
open Tab PlaceM PlanM OnS ChkM ChkA
open ChkB (laid2)
open May (ret_bool infoT infoR)
set_option linter.unusedVariables false
set_option linter.unusedSimpArgs false
set_option maxRecDepth 100000 in
set_option maxHeartbeats 8000000 in
theorem rail_0 (T : Tab) (h : Hd) (r : Rl) (w : World) (ht : IsTab w h T) (sm : Few T) (z0 : inR (or4 r) (onS T : Nat) = false) :
    Calls Try.prog 50 #[.agg (T.cells h).toArray, .agg r.cells.toArray, .int .i64 (onS T : Nat)] w fun e w' => e = .returned (.bool (railOk T r)) ∧ Below w.heap.size w w' := by
  have hsz := (cells_ok ht).size
  have IA : Hid ((Try.prog.info? 32).map (·.size) = some (T.cells h).length) := Lib.hid (by rw [List.size_toArray] at hsz; rw [hsz]; exact infoT)
  have AO : Hid (∀ W, Calls Try.prog 51 #[.int .i64 (or4 r), .int .i64 (onS T : Nat)] W fun e w' => e = .returned (.bool (inR (or4 r) (onS T : Nat))) ∧ W = w') := Lib.hid (fun W => RkA.in_any _ _ W)
  have CL : Hid (∀ s W, Below w.heap.size w W → Calls Try.prog 99 #[.agg (T.cells h).toArray, .int .i64 s, .int .i64 s] W fun e w' => e = .returned (.bool (clashR T s s)) ∧ Below W.heap.size W w') := Lib.hid (fun s W hb => RkB.rclash_any T h s s W (ht.below hb))
  have AB : Hid (∀ s W, Below w.heap.size w W → Calls Try.prog 98 #[.agg (T.cells h).toArray, .int .i64 s] W fun e w' => e = .returned (.bool (exitR T s)) ∧ Below W.heap.size W w') := Lib.hid (fun s W hb => RkB.exit_any T h s W (ht.below hb) sm)
  obtain ⟨x, hx⟩ : ∃ x, x = railOk T r := ⟨_, rfl⟩
  rw [← hx]
  have HR : Hid (x = ((inR (or4 r) (onS T : Nat) && (r.dwell != 0 && (bits .and .i64 r.dwell r.bars == 0 && exitR T r.exit))) && (!clashR T r.clear r.clear && (!clashR T r.dwell r.dwell && (!clashR T r.exit r.exit && timesOk r))))) := Lib.hid hx
  have LT0 := Lib.hid (Row.lies_new w (T.cells h).toArray 32)
  have hs1 : (w.alloc (.cells (T.cells h).toArray 32)).heap.size = w.heap.size + 1 := by simp
  have hone := Rl.one r
  have hsz2 : r.cells.toArray.size = 11 := rfl
  have RC := Lib.hid (rail_cells r)
  have O4 : Hid (bits .or .i64 (bits .or .i64 (bits .or .i64 r.bars r.clear) r.dwell) r.exit = or4 r) := Lib.hid rfl
  obtain ⟨a1, ha1⟩ : ∃ z, inR (or4 r) (onS T : Nat) = z := ⟨_, rfl⟩
  obtain ⟨c1, hc1⟩ : ∃ z, clashR T r.clear r.clear = z := ⟨_, rfl⟩
  obtain ⟨c2, hc2⟩ : ∃ z, clashR T r.dwell r.dwell = z := ⟨_, rfl⟩
  obtain ⟨c3, hc3⟩ : ∃ z, clashR T r.exit r.exit = z := ⟨_, rfl⟩
  obtain ⟨b1, hb1⟩ : ∃ z, exitR T r.exit = z := ⟨_, rfl⟩
  have CL1 := Lib.hid (CL.out r.clear)
  have CL2 := Lib.hid (CL.out r.dwell)
  have CL3 := Lib.hid (CL.out r.exit)
  have AB1 := Lib.hid (AB.out r.exit)
  rw [ha1] at AO HR
  rw [hc1] at CL1 HR
  rw [hc2] at CL2 HR
  rw [hc3] at CL3 HR
  rw [hb1] at AB1 HR
  have TO : Hid (timesOk r = ((decide (0 < r.hold) == (r.clear != 0)) && (decide (1 ≤ r.green) && (decide (1 ≤ r.stay) && ((r.most == 0 || decide (r.stay ≤ r.most)) && decide (r.delay < r.limit)))))) := Lib.hid rfl
  rw [show a1 = false from ha1.symm.trans z0] at AO HR
  clear hx ht CL AB ha1 hc1 hc2 hc3 hb1
  generalize timesOk r = tk at *
  clear z0
  generalize or4 r = o4 at *
  generalize r.cells = rc at *
  obtain ⟨bars, clear_, dwell, exit, delay, green, foot, hold, stay, most, limit⟩ := r
  dsimp only at *
  generalize T.cells h = c at *
  generalize (((onS T : Nat)) : Int) = on at *
  go_enter Try.func50, Try.ntmps50
  go_upto_region 1 with fail
  obtain ⟨u, hu, E1, E0, EB, b1'⟩ := laid2 w (.cells c.toArray 32) (.cells rc.toArray 41)
  rw [hu]
  have A0 := Lib.hid E0
  have A1 := Lib.hid (LT0.out.below (by rw [hs1]; exact EB))
  have A2 : Hid (u.heap[w.heap.size + 1]? = some (.cells rc.toArray 41 (0, 0))) := Lib.hid b1'
  clear hu EB LT0 b1' hs1 hsz hsz2 hone E0 E1
  obtain ⟨q0, q1, q2, q3, q4, q5, q7, q8, q9, q10⟩ := RC.out _ _ A2.out
  go_wp2_with fail
  rw [O4.out]
  refine (AO.out _).mono ?_
  rintro e w' ⟨rfl, rfl⟩
  rename_i Q1 K1 hK1 K2 hK2
  refine hK2 _ _ ?_
  have HX : Hid (false = x) := Lib.hid (by rw [HR.out]; rfl)
  clear HR RC
  refine Early.out_get (by kernel_rfl) ?_
  refine hK1 _ _ ?_
  refine wp_seq (wp_region_lit ?_)
  refine Early.out_get (by kernel_rfl) ?_
  refine wp_ret ?_
  exact bodyPost_ret (v := .bool false) (by kernel_rfl) (by kernel_rfl) ⟨ret_bool HX.out, A0.out⟩
end Go.Proofs.Ytfekngnfjemgeaa.RkC
/- The document's own rail: one way through it (1). -/
namespace Go.Proofs.Ytfekngnfjemgeaa.RkC
open Go.ChangeShapes Go.WideShapes Go.ChangeAt Go.RowKit
open Tab PlaceM PlanM OnS ChkM ChkA
open ChkB (laid2)
open May (ret_bool infoT infoR)
set_option linter.unusedVariables false
set_option linter.unusedSimpArgs false
set_option maxRecDepth 100000 in
set_option maxHeartbeats 8000000 in
theorem rail_1 (T : Tab) (h : Hd) (r : Rl) (w : World) (ht : IsTab w h T) (sm : Few T) (z0 : inR (or4 r) (onS T : Nat) = true) (z1 : r.dwell = 0) :
    Calls Try.prog 50 #[.agg (T.cells h).toArray, .agg r.cells.toArray, .int .i64 (onS T : Nat)] w fun e w' => e = .returned (.bool (railOk T r)) ∧ Below w.heap.size w w' := by
  have hsz := (cells_ok ht).size
  have IA : Hid ((Try.prog.info? 32).map (·.size) = some (T.cells h).length) := Lib.hid (by rw [List.size_toArray] at hsz; rw [hsz]; exact infoT)
  have AO : Hid (∀ W, Calls Try.prog 51 #[.int .i64 (or4 r), .int .i64 (onS T : Nat)] W fun e w' => e = .returned (.bool (inR (or4 r) (onS T : Nat))) ∧ W = w') := Lib.hid (fun W => RkA.in_any _ _ W)
  have CL : Hid (∀ s W, Below w.heap.size w W → Calls Try.prog 99 #[.agg (T.cells h).toArray, .int .i64 s, .int .i64 s] W fun e w' => e = .returned (.bool (clashR T s s)) ∧ Below W.heap.size W w') := Lib.hid (fun s W hb => RkB.rclash_any T h s s W (ht.below hb))
  have AB : Hid (∀ s W, Below w.heap.size w W → Calls Try.prog 98 #[.agg (T.cells h).toArray, .int .i64 s] W fun e w' => e = .returned (.bool (exitR T s)) ∧ Below W.heap.size W w') := Lib.hid (fun s W hb => RkB.exit_any T h s W (ht.below hb) sm)
  obtain ⟨x, hx⟩ : ∃ x, x = railOk T r := ⟨_, rfl⟩
  rw [← hx]
  have HR : Hid (x = ((inR (or4 r) (onS T : Nat) && (r.dwell != 0 && (bits .and .i64 r.dwell r.bars == 0 && exitR T r.exit))) && (!clashR T r.clear r.clear && (!clashR T r.dwell r.dwell && (!clashR T r.exit r.exit && timesOk r))))) := Lib.hid hx
  have LT0 := Lib.hid (Row.lies_new w (T.cells h).toArray 32)
  have hs1 : (w.alloc (.cells (T.cells h).toArray 32)).heap.size = w.heap.size + 1 := by simp
  have hone := Rl.one r
  have hsz2 : r.cells.toArray.size = 11 := rfl
  have RC := Lib.hid (rail_cells r)
  have O4 : Hid (bits .or .i64 (bits .or .i64 (bits .or .i64 r.bars r.clear) r.dwell) r.exit = or4 r) := Lib.hid rfl
  obtain ⟨a1, ha1⟩ : ∃ z, inR (or4 r) (onS T : Nat) = z := ⟨_, rfl⟩
  obtain ⟨c1, hc1⟩ : ∃ z, clashR T r.clear r.clear = z := ⟨_, rfl⟩
  obtain ⟨c2, hc2⟩ : ∃ z, clashR T r.dwell r.dwell = z := ⟨_, rfl⟩
  obtain ⟨c3, hc3⟩ : ∃ z, clashR T r.exit r.exit = z := ⟨_, rfl⟩
  obtain ⟨b1, hb1⟩ : ∃ z, exitR T r.exit = z := ⟨_, rfl⟩
  have CL1 := Lib.hid (CL.out r.clear)
  have CL2 := Lib.hid (CL.out r.dwell)
  have CL3 := Lib.hid (CL.out r.exit)
  have AB1 := Lib.hid (AB.out r.exit)
  rw [ha1] at AO HR
  rw [hc1] at CL1 HR
  rw [hc2] at CL2 HR
  rw [hc3] at CL3 HR
  rw [hb1] at AB1 HR
  have TO : Hid (timesOk r = ((decide (0 < r.hold) == (r.clear != 0)) && (decide (1 ≤ r.green) && (decide (1 ≤ r.stay) && ((r.most == 0 || decide (r.stay ≤ r.most)) && decide (r.delay < r.limit)))))) := Lib.hid rfl
  rw [show a1 = true from ha1.symm.trans z0] at AO HR
  clear hx ht CL AB ha1 hc1 hc2 hc3 hb1
  generalize timesOk r = tk at *
  clear z0
  generalize or4 r = o4 at *
  generalize r.cells = rc at *
  obtain ⟨bars, clear_, dwell, exit, delay, green, foot, hold, stay, most, limit⟩ := r
  dsimp only at *
  generalize T.cells h = c at *
  generalize (((onS T : Nat)) : Int) = on at *
  go_enter Try.func50, Try.ntmps50
  go_upto_region 1 with fail
  obtain ⟨u, hu, E1, E0, EB, b1'⟩ := laid2 w (.cells c.toArray 32) (.cells rc.toArray 41)
  rw [hu]
  have A0 := Lib.hid E0
  have A1 := Lib.hid (LT0.out.below (by rw [hs1]; exact EB))
  have A2 : Hid (u.heap[w.heap.size + 1]? = some (.cells rc.toArray 41 (0, 0))) := Lib.hid b1'
  clear hu EB LT0 b1' hs1 hsz hsz2 hone E0 E1
  have H1 := Lib.hid z1
  clear z1
  have zb : (dwell != 0) = false := by rw [H1.out]; rfl
  obtain ⟨q0, q1, q2, q3, q4, q5, q7, q8, q9, q10⟩ := RC.out _ _ A2.out
  go_wp2_with fail
  rw [O4.out]
  refine (AO.out _).mono ?_
  rintro e w' ⟨rfl, rfl⟩
  rename_i Q1 K1 hK1 K2 hK2
  refine hK2 _ _ ?_
  refine wpList_plain rfl (fun K hK => ?_)
  go_simp
  refine hK _ _ ?_
  clear hK K
  (try dsimp only [Act.put]); (try simp only [List.setIfInBounds_toArray, List.set_cons_zero, List.set_cons_succ])
  refine BigFrame.wpList_want (by rfl) (fun K hK => ?_)
  go_simp
  refine hK _ _ ?_
  clear hK K
  (try dsimp only [Act.put]); (try simp only [List.setIfInBounds_toArray, List.set_cons_zero, List.set_cons_succ])
  refine BigFrame.wpList_want (by rfl) (fun K hK => ?_)
  go_simp
  refine hK _ _ ?_
  clear hK K
  (try dsimp only [Act.put]); (try simp only [List.setIfInBounds_toArray, List.set_cons_zero, List.set_cons_succ])
  refine BigFrame.wpList_want (by rfl) (fun K hK => ?_)
  go_simp
  refine hK _ _ ?_
  clear hK K
  (try dsimp only [Act.put]); (try simp only [List.setIfInBounds_toArray, List.set_cons_zero, List.set_cons_succ])
  have HX : Hid (false = x) := Lib.hid (by rw [HR.out]; simp [H1.out])
  clear HR RC
  refine Early.out_get (by kernel_rfl) ?_
  refine hK1 _ _ ?_
  refine wp_seq (wp_region_lit ?_)
  refine Early.out_get (by kernel_rfl) ?_
  refine wp_ret ?_
  exact bodyPost_ret (v := .bool false) (by kernel_rfl) (by kernel_rfl) ⟨ret_bool HX.out, A0.out⟩
end Go.Proofs.Ytfekngnfjemgeaa.RkC
/- The document's own rail: one way through it (2). -/
namespace Go.Proofs.Ytfekngnfjemgeaa.RkC
open Go.ChangeShapes Go.WideShapes Go.ChangeAt Go.RowKit
open Tab PlaceM PlanM OnS ChkM ChkA
open ChkB (laid2)
open May (ret_bool infoT infoR)
set_option linter.unusedVariables false
set_option linter.unusedSimpArgs false
set_option maxRecDepth 100000 in
set_option maxHeartbeats 8000000 in
theorem rail_2 (T : Tab) (h : Hd) (r : Rl) (w : World) (ht : IsTab w h T) (sm : Few T) (z0 : inR (or4 r) (onS T : Nat) = true) (z1 : r.dwell ≠ 0) (z2 : bits .and .i64 r.dwell r.bars ≠ 0) :
    Calls Try.prog 50 #[.agg (T.cells h).toArray, .agg r.cells.toArray, .int .i64 (onS T : Nat)] w fun e w' => e = .returned (.bool (railOk T r)) ∧ Below w.heap.size w w' := by
  have hsz := (cells_ok ht).size
  have IA : Hid ((Try.prog.info? 32).map (·.size) = some (T.cells h).length) := Lib.hid (by rw [List.size_toArray] at hsz; rw [hsz]; exact infoT)
  have AO : Hid (∀ W, Calls Try.prog 51 #[.int .i64 (or4 r), .int .i64 (onS T : Nat)] W fun e w' => e = .returned (.bool (inR (or4 r) (onS T : Nat))) ∧ W = w') := Lib.hid (fun W => RkA.in_any _ _ W)
  have CL : Hid (∀ s W, Below w.heap.size w W → Calls Try.prog 99 #[.agg (T.cells h).toArray, .int .i64 s, .int .i64 s] W fun e w' => e = .returned (.bool (clashR T s s)) ∧ Below W.heap.size W w') := Lib.hid (fun s W hb => RkB.rclash_any T h s s W (ht.below hb))
  have AB : Hid (∀ s W, Below w.heap.size w W → Calls Try.prog 98 #[.agg (T.cells h).toArray, .int .i64 s] W fun e w' => e = .returned (.bool (exitR T s)) ∧ Below W.heap.size W w') := Lib.hid (fun s W hb => RkB.exit_any T h s W (ht.below hb) sm)
  obtain ⟨x, hx⟩ : ∃ x, x = railOk T r := ⟨_, rfl⟩
  rw [← hx]
  have HR : Hid (x = ((inR (or4 r) (onS T : Nat) && (r.dwell != 0 && (bits .and .i64 r.dwell r.bars == 0 && exitR T r.exit))) && (!clashR T r.clear r.clear && (!clashR T r.dwell r.dwell && (!clashR T r.exit r.exit && timesOk r))))) := Lib.hid hx
  have LT0 := Lib.hid (Row.lies_new w (T.cells h).toArray 32)
  have hs1 : (w.alloc (.cells (T.cells h).toArray 32)).heap.size = w.heap.size + 1 := by simp
  have hone := Rl.one r
  have hsz2 : r.cells.toArray.size = 11 := rfl
  have RC := Lib.hid (rail_cells r)
  have O4 : Hid (bits .or .i64 (bits .or .i64 (bits .or .i64 r.bars r.clear) r.dwell) r.exit = or4 r) := Lib.hid rfl
  obtain ⟨a1, ha1⟩ : ∃ z, inR (or4 r) (onS T : Nat) = z := ⟨_, rfl⟩
  obtain ⟨c1, hc1⟩ : ∃ z, clashR T r.clear r.clear = z := ⟨_, rfl⟩
  obtain ⟨c2, hc2⟩ : ∃ z, clashR T r.dwell r.dwell = z := ⟨_, rfl⟩
  obtain ⟨c3, hc3⟩ : ∃ z, clashR T r.exit r.exit = z := ⟨_, rfl⟩
  obtain ⟨b1, hb1⟩ : ∃ z, exitR T r.exit = z := ⟨_, rfl⟩
  have CL1 := Lib.hid (CL.out r.clear)
  have CL2 := Lib.hid (CL.out r.dwell)
  have CL3 := Lib.hid (CL.out r.exit)
  have AB1 := Lib.hid (AB.out r.exit)
  rw [ha1] at AO HR
  rw [hc1] at CL1 HR
  rw [hc2] at CL2 HR
  rw [hc3] at CL3 HR
  rw [hb1] at AB1 HR
  have TO : Hid (timesOk r = ((decide (0 < r.hold) == (r.clear != 0)) && (decide (1 ≤ r.green) && (decide (1 ≤ r.stay) && ((r.most == 0 || decide (r.stay ≤ r.most)) && decide (r.delay < r.limit)))))) := Lib.hid rfl
  rw [show a1 = true from ha1.symm.trans z0] at AO HR
  clear hx ht CL AB ha1 hc1 hc2 hc3 hb1
  generalize timesOk r = tk at *
  clear z0
  generalize or4 r = o4 at *
  generalize r.cells = rc at *
  obtain ⟨bars, clear_, dwell, exit, delay, green, foot, hold, stay, most, limit⟩ := r
  dsimp only at *
  generalize T.cells h = c at *
  generalize (((onS T : Nat)) : Int) = on at *
  go_enter Try.func50, Try.ntmps50
  go_upto_region 1 with fail
  obtain ⟨u, hu, E1, E0, EB, b1'⟩ := laid2 w (.cells c.toArray 32) (.cells rc.toArray 41)
  rw [hu]
  have A0 := Lib.hid E0
  have A1 := Lib.hid (LT0.out.below (by rw [hs1]; exact EB))
  have A2 : Hid (u.heap[w.heap.size + 1]? = some (.cells rc.toArray 41 (0, 0))) := Lib.hid b1'
  clear hu EB LT0 b1' hs1 hsz hsz2 hone E0 E1
  have H1 := Lib.hid z1
  clear z1
  have H3 := Lib.hid z2
  clear z2
  have zb : (dwell != 0) = true := bne_iff_ne.2 H1.out
  obtain ⟨q0, q1, q2, q3, q4, q5, q7, q8, q9, q10⟩ := RC.out _ _ A2.out
  go_wp2_with fail
  rw [O4.out]
  refine (AO.out _).mono ?_
  rintro e w' ⟨rfl, rfl⟩
  have zc : (bits .and .i64 dwell bars == 0) = false := beq_eq_false_iff_ne.2 H3.out
  rename_i Q1 K1 hK1 K2 hK2
  refine hK2 _ _ ?_
  refine wpList_plain rfl (fun K hK => ?_)
  go_simp
  refine hK _ _ ?_
  clear hK K
  (try dsimp only [Act.put]); (try simp only [List.setIfInBounds_toArray, List.set_cons_zero, List.set_cons_succ])
  refine BigFrame.wpList_want (by rfl) (fun K hK => ?_)
  go_simp
  refine hK _ _ ?_
  clear hK K
  (try dsimp only [Act.put]); (try simp only [List.setIfInBounds_toArray, List.set_cons_zero, List.set_cons_succ])
  refine BigFrame.wpList_want (by rfl) (fun K hK => ?_)
  go_simp
  refine hK _ _ ?_
  clear hK K
  (try dsimp only [Act.put]); (try simp only [List.setIfInBounds_toArray, List.set_cons_zero, List.set_cons_succ])
  refine BigFrame.wpList_want (by rfl) (fun K hK => ?_)
  go_simp
  refine hK _ _ ?_
  clear hK K
  (try dsimp only [Act.put]); (try simp only [List.setIfInBounds_toArray, List.set_cons_zero, List.set_cons_succ])
  refine wpList_plain rfl (fun K hK => ?_)
  go_simp
  refine hK _ _ ?_
  clear hK K
  (try dsimp only [Act.put]); (try simp only [List.setIfInBounds_toArray, List.set_cons_zero, List.set_cons_succ])
  refine wpList_plain rfl (fun K hK => ?_)
  go_simp
  refine hK _ _ ?_
  clear hK K
  (try dsimp only [Act.put]); (try simp only [List.setIfInBounds_toArray, List.set_cons_zero, List.set_cons_succ])
  refine BigFrame.wpList_want (by rfl) (fun K hK => ?_)
  go_simp
  refine hK _ _ ?_
  clear hK K
  (try dsimp only [Act.put]); (try simp only [List.setIfInBounds_toArray, List.set_cons_zero, List.set_cons_succ])
  refine BigFrame.wpList_want (by rfl) (fun K hK => ?_)
  go_simp
  refine hK _ _ ?_
  clear hK K
  (try dsimp only [Act.put]); (try simp only [List.setIfInBounds_toArray, List.set_cons_zero, List.set_cons_succ])
  refine BigFrame.wpList_want (by rfl) (fun K hK => ?_)
  go_simp
  refine hK _ _ ?_
  clear hK K
  (try dsimp only [Act.put]); (try simp only [List.setIfInBounds_toArray, List.set_cons_zero, List.set_cons_succ])
  refine BigFrame.wpList_want (by rfl) (fun K hK => ?_)
  go_simp
  refine hK _ _ ?_
  clear hK K
  (try dsimp only [Act.put]); (try simp only [List.setIfInBounds_toArray, List.set_cons_zero, List.set_cons_succ])
  refine BigFrame.wpList_want (by rfl) (fun K hK => ?_)
  go_simp
  refine hK _ _ ?_
  clear hK K
  (try dsimp only [Act.put]); (try simp only [List.setIfInBounds_toArray, List.set_cons_zero, List.set_cons_succ])
  refine BigFrame.wpList_want (by rfl) (fun K hK => ?_)
  go_simp
  refine hK _ _ ?_
  clear hK K
  (try dsimp only [Act.put]); (try simp only [List.setIfInBounds_toArray, List.set_cons_zero, List.set_cons_succ])
  have HX : Hid (false = x) := Lib.hid (by rw [HR.out]; simp [H3.out])
  clear HR RC
  refine Early.out_get (by kernel_rfl) ?_
  refine hK1 _ _ ?_
  refine wp_seq (wp_region_lit ?_)
  refine Early.out_get (by kernel_rfl) ?_
  refine wp_ret ?_
  exact bodyPost_ret (v := .bool false) (by kernel_rfl) (by kernel_rfl) ⟨ret_bool HX.out, A0.out⟩
end Go.Proofs.Ytfekngnfjemgeaa.RkC
/- The document's own rail: one way through it (3). -/
namespace Go.Proofs.Ytfekngnfjemgeaa.RkC
open Go.ChangeShapes Go.WideShapes Go.ChangeAt Go.RowKit
open Tab PlaceM PlanM OnS ChkM ChkA
open ChkB (laid2)
open May (ret_bool infoT infoR)
set_option linter.unusedVariables false
set_option linter.unusedSimpArgs false
set_option maxRecDepth 100000 in
set_option maxHeartbeats 8000000 in
theorem rail_3 (T : Tab) (h : Hd) (r : Rl) (w : World) (ht : IsTab w h T) (sm : Few T) (z0 : inR (or4 r) (onS T : Nat) = true) (z1 : r.dwell ≠ 0) (z2 : bits .and .i64 r.dwell r.bars = 0) (z3 : exitR T r.exit = false) :
    Calls Try.prog 50 #[.agg (T.cells h).toArray, .agg r.cells.toArray, .int .i64 (onS T : Nat)] w fun e w' => e = .returned (.bool (railOk T r)) ∧ Below w.heap.size w w' := by
  have hsz := (cells_ok ht).size
  have IA : Hid ((Try.prog.info? 32).map (·.size) = some (T.cells h).length) := Lib.hid (by rw [List.size_toArray] at hsz; rw [hsz]; exact infoT)
  have AO : Hid (∀ W, Calls Try.prog 51 #[.int .i64 (or4 r), .int .i64 (onS T : Nat)] W fun e w' => e = .returned (.bool (inR (or4 r) (onS T : Nat))) ∧ W = w') := Lib.hid (fun W => RkA.in_any _ _ W)
  have CL : Hid (∀ s W, Below w.heap.size w W → Calls Try.prog 99 #[.agg (T.cells h).toArray, .int .i64 s, .int .i64 s] W fun e w' => e = .returned (.bool (clashR T s s)) ∧ Below W.heap.size W w') := Lib.hid (fun s W hb => RkB.rclash_any T h s s W (ht.below hb))
  have AB : Hid (∀ s W, Below w.heap.size w W → Calls Try.prog 98 #[.agg (T.cells h).toArray, .int .i64 s] W fun e w' => e = .returned (.bool (exitR T s)) ∧ Below W.heap.size W w') := Lib.hid (fun s W hb => RkB.exit_any T h s W (ht.below hb) sm)
  obtain ⟨x, hx⟩ : ∃ x, x = railOk T r := ⟨_, rfl⟩
  rw [← hx]
  have HR : Hid (x = ((inR (or4 r) (onS T : Nat) && (r.dwell != 0 && (bits .and .i64 r.dwell r.bars == 0 && exitR T r.exit))) && (!clashR T r.clear r.clear && (!clashR T r.dwell r.dwell && (!clashR T r.exit r.exit && timesOk r))))) := Lib.hid hx
  have LT0 := Lib.hid (Row.lies_new w (T.cells h).toArray 32)
  have hs1 : (w.alloc (.cells (T.cells h).toArray 32)).heap.size = w.heap.size + 1 := by simp
  have hone := Rl.one r
  have hsz2 : r.cells.toArray.size = 11 := rfl
  have RC := Lib.hid (rail_cells r)
  have O4 : Hid (bits .or .i64 (bits .or .i64 (bits .or .i64 r.bars r.clear) r.dwell) r.exit = or4 r) := Lib.hid rfl
  obtain ⟨a1, ha1⟩ : ∃ z, inR (or4 r) (onS T : Nat) = z := ⟨_, rfl⟩
  obtain ⟨c1, hc1⟩ : ∃ z, clashR T r.clear r.clear = z := ⟨_, rfl⟩
  obtain ⟨c2, hc2⟩ : ∃ z, clashR T r.dwell r.dwell = z := ⟨_, rfl⟩
  obtain ⟨c3, hc3⟩ : ∃ z, clashR T r.exit r.exit = z := ⟨_, rfl⟩
  obtain ⟨b1, hb1⟩ : ∃ z, exitR T r.exit = z := ⟨_, rfl⟩
  have CL1 := Lib.hid (CL.out r.clear)
  have CL2 := Lib.hid (CL.out r.dwell)
  have CL3 := Lib.hid (CL.out r.exit)
  have AB1 := Lib.hid (AB.out r.exit)
  rw [ha1] at AO HR
  rw [hc1] at CL1 HR
  rw [hc2] at CL2 HR
  rw [hc3] at CL3 HR
  rw [hb1] at AB1 HR
  have TO : Hid (timesOk r = ((decide (0 < r.hold) == (r.clear != 0)) && (decide (1 ≤ r.green) && (decide (1 ≤ r.stay) && ((r.most == 0 || decide (r.stay ≤ r.most)) && decide (r.delay < r.limit)))))) := Lib.hid rfl
  rw [show a1 = true from ha1.symm.trans z0] at AO HR; rw [show b1 = false from hb1.symm.trans z3] at AB1 HR
  clear hx ht CL AB ha1 hc1 hc2 hc3 hb1
  generalize timesOk r = tk at *
  clear z0 z3
  generalize or4 r = o4 at *
  generalize r.cells = rc at *
  obtain ⟨bars, clear_, dwell, exit, delay, green, foot, hold, stay, most, limit⟩ := r
  dsimp only at *
  generalize T.cells h = c at *
  generalize (((onS T : Nat)) : Int) = on at *
  go_enter Try.func50, Try.ntmps50
  go_upto_region 1 with fail
  obtain ⟨u, hu, E1, E0, EB, b1'⟩ := laid2 w (.cells c.toArray 32) (.cells rc.toArray 41)
  rw [hu]
  have A0 := Lib.hid E0
  have A1 := Lib.hid (LT0.out.below (by rw [hs1]; exact EB))
  have A2 : Hid (u.heap[w.heap.size + 1]? = some (.cells rc.toArray 41 (0, 0))) := Lib.hid b1'
  clear hu EB LT0 b1' hs1 hsz hsz2 hone E0 E1
  have H1 := Lib.hid z1
  clear z1
  have H3 := Lib.hid z2
  clear z2
  have zb : (dwell != 0) = true := bne_iff_ne.2 H1.out
  obtain ⟨q0, q1, q2, q3, q4, q5, q7, q8, q9, q10⟩ := RC.out _ _ A2.out
  go_wp2_with fail
  rw [O4.out]
  refine (AO.out _).mono ?_
  rintro e w' ⟨rfl, rfl⟩
  have zc : (bits .and .i64 dwell bars == 0) = true := beq_iff_eq.2 H3.out
  go_wp2_with (refine Row.wpList_load_g 32 _ rfl (by first | rfl | go_simp) ⟨w.heap.size, 0, none⟩ rfl c _ A1.out Try.underlying32 rfl IA.out ?_)
  (try go_wp2_with fail)
  refine (AB1.out _ A0.out).mono ?_
  rintro e u1 ⟨rfl, hb⟩
  replace A0 : Hid (Below w.heap.size w u1) := Lib.hid (A0.out.trans (hb.mono A0.out.size))
  replace A2 : Hid (u1.heap[w.heap.size + 1]? = some (.cells rc.toArray 41 (0, 0))) := Lib.hid ((hb.block _ (Array.getElem?_eq_some_iff.1 A2.out).1).trans A2.out)
  replace A1 := Lib.hid (A1.out.below hb)
  clear q0 q1 q2 q3 q4 q5 q7 q8 q9 q10
  clear hb
  obtain ⟨q0, q1, q2, q3, q4, q5, q7, q8, q9, q10⟩ := RC.out _ _ A2.out
  rename_i Q1 K1 hK1 K2 hK2
  refine hK2 _ _ ?_
  have HX : Hid (false = x) := Lib.hid (by rw [HR.out]; simp)
  clear HR RC
  refine Early.out_get (by kernel_rfl) ?_
  refine hK1 _ _ ?_
  refine wp_seq (wp_region_lit ?_)
  refine Early.out_get (by kernel_rfl) ?_
  refine wp_ret ?_
  exact bodyPost_ret (v := .bool false) (by kernel_rfl) (by kernel_rfl) ⟨ret_bool HX.out, A0.out⟩
end Go.Proofs.Ytfekngnfjemgeaa.RkC
/- The document's own rail: one way through it (4). -/
namespace Go.Proofs.Ytfekngnfjemgeaa.RkC
open Go.ChangeShapes Go.WideShapes Go.ChangeAt Go.RowKit
open Tab PlaceM PlanM OnS ChkM ChkA
open ChkB (laid2)
open May (ret_bool infoT infoR)
set_option linter.unusedVariables false
set_option linter.unusedSimpArgs false
set_option maxRecDepth 100000 in
set_option maxHeartbeats 8000000 in
theorem rail_4 (T : Tab) (h : Hd) (r : Rl) (w : World) (ht : IsTab w h T) (sm : Few T) (z0 : inR (or4 r) (onS T : Nat) = true) (z1 : r.dwell ≠ 0) (z2 : bits .and .i64 r.dwell r.bars = 0) (z3 : exitR T r.exit = true) (z4 : clashR T r.clear r.clear = true) :
    Calls Try.prog 50 #[.agg (T.cells h).toArray, .agg r.cells.toArray, .int .i64 (onS T : Nat)] w fun e w' => e = .returned (.bool (railOk T r)) ∧ Below w.heap.size w w' := by
  have hsz := (cells_ok ht).size
  have IA : Hid ((Try.prog.info? 32).map (·.size) = some (T.cells h).length) := Lib.hid (by rw [List.size_toArray] at hsz; rw [hsz]; exact infoT)
  have AO : Hid (∀ W, Calls Try.prog 51 #[.int .i64 (or4 r), .int .i64 (onS T : Nat)] W fun e w' => e = .returned (.bool (inR (or4 r) (onS T : Nat))) ∧ W = w') := Lib.hid (fun W => RkA.in_any _ _ W)
  have CL : Hid (∀ s W, Below w.heap.size w W → Calls Try.prog 99 #[.agg (T.cells h).toArray, .int .i64 s, .int .i64 s] W fun e w' => e = .returned (.bool (clashR T s s)) ∧ Below W.heap.size W w') := Lib.hid (fun s W hb => RkB.rclash_any T h s s W (ht.below hb))
  have AB : Hid (∀ s W, Below w.heap.size w W → Calls Try.prog 98 #[.agg (T.cells h).toArray, .int .i64 s] W fun e w' => e = .returned (.bool (exitR T s)) ∧ Below W.heap.size W w') := Lib.hid (fun s W hb => RkB.exit_any T h s W (ht.below hb) sm)
  obtain ⟨x, hx⟩ : ∃ x, x = railOk T r := ⟨_, rfl⟩
  rw [← hx]
  have HR : Hid (x = ((inR (or4 r) (onS T : Nat) && (r.dwell != 0 && (bits .and .i64 r.dwell r.bars == 0 && exitR T r.exit))) && (!clashR T r.clear r.clear && (!clashR T r.dwell r.dwell && (!clashR T r.exit r.exit && timesOk r))))) := Lib.hid hx
  have LT0 := Lib.hid (Row.lies_new w (T.cells h).toArray 32)
  have hs1 : (w.alloc (.cells (T.cells h).toArray 32)).heap.size = w.heap.size + 1 := by simp
  have hone := Rl.one r
  have hsz2 : r.cells.toArray.size = 11 := rfl
  have RC := Lib.hid (rail_cells r)
  have O4 : Hid (bits .or .i64 (bits .or .i64 (bits .or .i64 r.bars r.clear) r.dwell) r.exit = or4 r) := Lib.hid rfl
  obtain ⟨a1, ha1⟩ : ∃ z, inR (or4 r) (onS T : Nat) = z := ⟨_, rfl⟩
  obtain ⟨c1, hc1⟩ : ∃ z, clashR T r.clear r.clear = z := ⟨_, rfl⟩
  obtain ⟨c2, hc2⟩ : ∃ z, clashR T r.dwell r.dwell = z := ⟨_, rfl⟩
  obtain ⟨c3, hc3⟩ : ∃ z, clashR T r.exit r.exit = z := ⟨_, rfl⟩
  obtain ⟨b1, hb1⟩ : ∃ z, exitR T r.exit = z := ⟨_, rfl⟩
  have CL1 := Lib.hid (CL.out r.clear)
  have CL2 := Lib.hid (CL.out r.dwell)
  have CL3 := Lib.hid (CL.out r.exit)
  have AB1 := Lib.hid (AB.out r.exit)
  rw [ha1] at AO HR
  rw [hc1] at CL1 HR
  rw [hc2] at CL2 HR
  rw [hc3] at CL3 HR
  rw [hb1] at AB1 HR
  have TO : Hid (timesOk r = ((decide (0 < r.hold) == (r.clear != 0)) && (decide (1 ≤ r.green) && (decide (1 ≤ r.stay) && ((r.most == 0 || decide (r.stay ≤ r.most)) && decide (r.delay < r.limit)))))) := Lib.hid rfl
  rw [show a1 = true from ha1.symm.trans z0] at AO HR; rw [show b1 = true from hb1.symm.trans z3] at AB1 HR; rw [show c1 = true from hc1.symm.trans z4] at CL1 HR
  clear hx ht CL AB ha1 hc1 hc2 hc3 hb1
  generalize timesOk r = tk at *
  clear z0 z3 z4
  generalize or4 r = o4 at *
  generalize r.cells = rc at *
  obtain ⟨bars, clear_, dwell, exit, delay, green, foot, hold, stay, most, limit⟩ := r
  dsimp only at *
  generalize T.cells h = c at *
  generalize (((onS T : Nat)) : Int) = on at *
  go_enter Try.func50, Try.ntmps50
  go_upto_region 1 with fail
  obtain ⟨u, hu, E1, E0, EB, b1'⟩ := laid2 w (.cells c.toArray 32) (.cells rc.toArray 41)
  rw [hu]
  have A0 := Lib.hid E0
  have A1 := Lib.hid (LT0.out.below (by rw [hs1]; exact EB))
  have A2 : Hid (u.heap[w.heap.size + 1]? = some (.cells rc.toArray 41 (0, 0))) := Lib.hid b1'
  clear hu EB LT0 b1' hs1 hsz hsz2 hone E0 E1
  have H1 := Lib.hid z1
  clear z1
  have H3 := Lib.hid z2
  clear z2
  have zb : (dwell != 0) = true := bne_iff_ne.2 H1.out
  obtain ⟨q0, q1, q2, q3, q4, q5, q7, q8, q9, q10⟩ := RC.out _ _ A2.out
  go_wp2_with fail
  rw [O4.out]
  refine (AO.out _).mono ?_
  rintro e w' ⟨rfl, rfl⟩
  have zc : (bits .and .i64 dwell bars == 0) = true := beq_iff_eq.2 H3.out
  go_wp2_with (refine Row.wpList_load_g 32 _ rfl (by first | rfl | go_simp) ⟨w.heap.size, 0, none⟩ rfl c _ A1.out Try.underlying32 rfl IA.out ?_)
  (try go_wp2_with fail)
  refine (AB1.out _ A0.out).mono ?_
  rintro e u1 ⟨rfl, hb⟩
  replace A0 : Hid (Below w.heap.size w u1) := Lib.hid (A0.out.trans (hb.mono A0.out.size))
  replace A2 : Hid (u1.heap[w.heap.size + 1]? = some (.cells rc.toArray 41 (0, 0))) := Lib.hid ((hb.block _ (Array.getElem?_eq_some_iff.1 A2.out).1).trans A2.out)
  replace A1 := Lib.hid (A1.out.below hb)
  clear q0 q1 q2 q3 q4 q5 q7 q8 q9 q10
  clear hb
  obtain ⟨q0, q1, q2, q3, q4, q5, q7, q8, q9, q10⟩ := RC.out _ _ A2.out
  rename_i Q1 K1 hK1 K2 hK2
  refine hK2 _ _ ?_
  refine wpList_plain rfl (fun K hK => ?_)
  go_simp
  refine hK _ _ ?_
  clear hK K
  (try dsimp only [Act.put]); (try simp only [List.setIfInBounds_toArray, List.set_cons_zero, List.set_cons_succ])
  refine wpList_plain rfl (fun K hK => ?_)
  go_simp
  refine hK _ _ ?_
  clear hK K
  (try dsimp only [Act.put]); (try simp only [List.setIfInBounds_toArray, List.set_cons_zero, List.set_cons_succ])
  refine hK1 _ _ ?_
  clear hK2 K2 hK1 K1
  refine wp_seq_k (fun K1 hK1 => ?_)
  refine wp_region_lit ?_
  refine wpList_plain rfl (fun K hK => ?_)
  go_simp
  refine hK _ _ ?_
  clear hK K
  (try dsimp only [Act.put]); (try simp only [List.setIfInBounds_toArray, List.set_cons_zero, List.set_cons_succ])
  refine wpList_plain rfl (fun K hK => ?_)
  go_simp
  refine hK _ _ ?_
  clear hK K
  (try dsimp only [Act.put]); (try simp only [List.setIfInBounds_toArray, List.set_cons_zero, List.set_cons_succ])
  refine Row.wpList_load_g 32 _ rfl (by rfl) ⟨w.heap.size, 0, none⟩ rfl c _ A1.out Try.underlying32 rfl IA.out ?_
  (try dsimp only [Act.put]); (try simp only [List.setIfInBounds_toArray, List.set_cons_zero, List.set_cons_succ])
  refine BigFrame.wpList_want (by rfl) (fun K hK => ?_)
  go_simp
  refine hK _ _ ?_
  clear hK K
  (try dsimp only [Act.put]); (try simp only [List.setIfInBounds_toArray, List.set_cons_zero, List.set_cons_succ])
  refine BigFrame.wpList_want (by rfl) (fun K hK => ?_)
  go_simp
  refine hK _ _ ?_
  clear hK K
  (try dsimp only [Act.put]); (try simp only [List.setIfInBounds_toArray, List.set_cons_zero, List.set_cons_succ])
  refine BigFrame.wpList_want (by rfl) (fun K hK => ?_)
  go_simp
  refine hK _ _ ?_
  clear hK K
  (try dsimp only [Act.put]); (try simp only [List.setIfInBounds_toArray, List.set_cons_zero, List.set_cons_succ])
  refine BigFrame.wpList_want (by rfl) (fun K hK => ?_)
  go_simp
  refine hK _ _ ?_
  clear hK K
  (try dsimp only [Act.put]); (try simp only [List.setIfInBounds_toArray, List.set_cons_zero, List.set_cons_succ])
  refine BigFrame.wpList_want (by rfl) (fun K2 hK2 => ?_)
  go_simp
  refine (CL1.out _ A0.out).mono ?_
  rintro e u2 ⟨rfl, hb⟩
  replace A0 : Hid (Below w.heap.size w u2) := Lib.hid (A0.out.trans (hb.mono A0.out.size))
  replace A2 : Hid (u2.heap[w.heap.size + 1]? = some (.cells rc.toArray 41 (0, 0))) := Lib.hid ((hb.block _ (Array.getElem?_eq_some_iff.1 A2.out).1).trans A2.out)
  replace A1 := Lib.hid (A1.out.below hb)
  clear q0 q1 q2 q3 q4 q5 q7 q8 q9 q10
  clear hb
  obtain ⟨q0, q1, q2, q3, q4, q5, q7, q8, q9, q10⟩ := RC.out _ _ A2.out
  refine hK2 _ _ ?_
  clear hK2 K2
  refine BigFrame.wpList_want (by rfl) (fun K hK => ?_)
  go_simp
  refine hK _ _ ?_
  clear hK K
  (try dsimp only [Act.put]); (try simp only [List.setIfInBounds_toArray, List.set_cons_zero, List.set_cons_succ])
  have HX : Hid (false = x) := Lib.hid (by rw [HR.out]; simp)
  clear HR RC
  refine Early.out_get (by kernel_rfl) ?_
  refine hK1 _ _ ?_
  refine wp_ret ?_
  exact bodyPost_ret (v := .bool false) (by kernel_rfl) (by kernel_rfl) ⟨ret_bool HX.out, A0.out⟩
end Go.Proofs.Ytfekngnfjemgeaa.RkC
/- The document's own rail: one way through it (5). -/
namespace Go.Proofs.Ytfekngnfjemgeaa.RkC
open Go.ChangeShapes Go.WideShapes Go.ChangeAt Go.RowKit
open Tab PlaceM PlanM OnS ChkM ChkA
open ChkB (laid2)
open May (ret_bool infoT infoR)
set_option linter.unusedVariables false
set_option linter.unusedSimpArgs false
set_option maxRecDepth 100000 in
set_option maxHeartbeats 8000000 in
theorem rail_5 (T : Tab) (h : Hd) (r : Rl) (w : World) (ht : IsTab w h T) (sm : Few T) (z0 : inR (or4 r) (onS T : Nat) = true) (z1 : r.dwell ≠ 0) (z2 : bits .and .i64 r.dwell r.bars = 0) (z3 : exitR T r.exit = true) (z4 : clashR T r.clear r.clear = false) (z5 : clashR T r.dwell r.dwell = true) :
    Calls Try.prog 50 #[.agg (T.cells h).toArray, .agg r.cells.toArray, .int .i64 (onS T : Nat)] w fun e w' => e = .returned (.bool (railOk T r)) ∧ Below w.heap.size w w' := by
  have hsz := (cells_ok ht).size
  have IA : Hid ((Try.prog.info? 32).map (·.size) = some (T.cells h).length) := Lib.hid (by rw [List.size_toArray] at hsz; rw [hsz]; exact infoT)
  have AO : Hid (∀ W, Calls Try.prog 51 #[.int .i64 (or4 r), .int .i64 (onS T : Nat)] W fun e w' => e = .returned (.bool (inR (or4 r) (onS T : Nat))) ∧ W = w') := Lib.hid (fun W => RkA.in_any _ _ W)
  have CL : Hid (∀ s W, Below w.heap.size w W → Calls Try.prog 99 #[.agg (T.cells h).toArray, .int .i64 s, .int .i64 s] W fun e w' => e = .returned (.bool (clashR T s s)) ∧ Below W.heap.size W w') := Lib.hid (fun s W hb => RkB.rclash_any T h s s W (ht.below hb))
  have AB : Hid (∀ s W, Below w.heap.size w W → Calls Try.prog 98 #[.agg (T.cells h).toArray, .int .i64 s] W fun e w' => e = .returned (.bool (exitR T s)) ∧ Below W.heap.size W w') := Lib.hid (fun s W hb => RkB.exit_any T h s W (ht.below hb) sm)
  obtain ⟨x, hx⟩ : ∃ x, x = railOk T r := ⟨_, rfl⟩
  rw [← hx]
  have HR : Hid (x = ((inR (or4 r) (onS T : Nat) && (r.dwell != 0 && (bits .and .i64 r.dwell r.bars == 0 && exitR T r.exit))) && (!clashR T r.clear r.clear && (!clashR T r.dwell r.dwell && (!clashR T r.exit r.exit && timesOk r))))) := Lib.hid hx
  have LT0 := Lib.hid (Row.lies_new w (T.cells h).toArray 32)
  have hs1 : (w.alloc (.cells (T.cells h).toArray 32)).heap.size = w.heap.size + 1 := by simp
  have hone := Rl.one r
  have hsz2 : r.cells.toArray.size = 11 := rfl
  have RC := Lib.hid (rail_cells r)
  have O4 : Hid (bits .or .i64 (bits .or .i64 (bits .or .i64 r.bars r.clear) r.dwell) r.exit = or4 r) := Lib.hid rfl
  obtain ⟨a1, ha1⟩ : ∃ z, inR (or4 r) (onS T : Nat) = z := ⟨_, rfl⟩
  obtain ⟨c1, hc1⟩ : ∃ z, clashR T r.clear r.clear = z := ⟨_, rfl⟩
  obtain ⟨c2, hc2⟩ : ∃ z, clashR T r.dwell r.dwell = z := ⟨_, rfl⟩
  obtain ⟨c3, hc3⟩ : ∃ z, clashR T r.exit r.exit = z := ⟨_, rfl⟩
  obtain ⟨b1, hb1⟩ : ∃ z, exitR T r.exit = z := ⟨_, rfl⟩
  have CL1 := Lib.hid (CL.out r.clear)
  have CL2 := Lib.hid (CL.out r.dwell)
  have CL3 := Lib.hid (CL.out r.exit)
  have AB1 := Lib.hid (AB.out r.exit)
  rw [ha1] at AO HR
  rw [hc1] at CL1 HR
  rw [hc2] at CL2 HR
  rw [hc3] at CL3 HR
  rw [hb1] at AB1 HR
  have TO : Hid (timesOk r = ((decide (0 < r.hold) == (r.clear != 0)) && (decide (1 ≤ r.green) && (decide (1 ≤ r.stay) && ((r.most == 0 || decide (r.stay ≤ r.most)) && decide (r.delay < r.limit)))))) := Lib.hid rfl
  rw [show a1 = true from ha1.symm.trans z0] at AO HR; rw [show b1 = true from hb1.symm.trans z3] at AB1 HR; rw [show c1 = false from hc1.symm.trans z4] at CL1 HR; rw [show c2 = true from hc2.symm.trans z5] at CL2 HR
  clear hx ht CL AB ha1 hc1 hc2 hc3 hb1
  generalize timesOk r = tk at *
  clear z0 z3 z4 z5
  generalize or4 r = o4 at *
  generalize r.cells = rc at *
  obtain ⟨bars, clear_, dwell, exit, delay, green, foot, hold, stay, most, limit⟩ := r
  dsimp only at *
  generalize T.cells h = c at *
  generalize (((onS T : Nat)) : Int) = on at *
  go_enter Try.func50, Try.ntmps50
  go_upto_region 1 with fail
  obtain ⟨u, hu, E1, E0, EB, b1'⟩ := laid2 w (.cells c.toArray 32) (.cells rc.toArray 41)
  rw [hu]
  have A0 := Lib.hid E0
  have A1 := Lib.hid (LT0.out.below (by rw [hs1]; exact EB))
  have A2 : Hid (u.heap[w.heap.size + 1]? = some (.cells rc.toArray 41 (0, 0))) := Lib.hid b1'
  clear hu EB LT0 b1' hs1 hsz hsz2 hone E0 E1
  have H1 := Lib.hid z1
  clear z1
  have H3 := Lib.hid z2
  clear z2
  have zb : (dwell != 0) = true := bne_iff_ne.2 H1.out
  obtain ⟨q0, q1, q2, q3, q4, q5, q7, q8, q9, q10⟩ := RC.out _ _ A2.out
  go_wp2_with fail
  rw [O4.out]
  refine (AO.out _).mono ?_
  rintro e w' ⟨rfl, rfl⟩
  have zc : (bits .and .i64 dwell bars == 0) = true := beq_iff_eq.2 H3.out
  go_wp2_with (refine Row.wpList_load_g 32 _ rfl (by first | rfl | go_simp) ⟨w.heap.size, 0, none⟩ rfl c _ A1.out Try.underlying32 rfl IA.out ?_)
  (try go_wp2_with fail)
  refine (AB1.out _ A0.out).mono ?_
  rintro e u1 ⟨rfl, hb⟩
  replace A0 : Hid (Below w.heap.size w u1) := Lib.hid (A0.out.trans (hb.mono A0.out.size))
  replace A2 : Hid (u1.heap[w.heap.size + 1]? = some (.cells rc.toArray 41 (0, 0))) := Lib.hid ((hb.block _ (Array.getElem?_eq_some_iff.1 A2.out).1).trans A2.out)
  replace A1 := Lib.hid (A1.out.below hb)
  clear q0 q1 q2 q3 q4 q5 q7 q8 q9 q10
  clear hb
  obtain ⟨q0, q1, q2, q3, q4, q5, q7, q8, q9, q10⟩ := RC.out _ _ A2.out
  rename_i Q1 K1 hK1 K2 hK2
  refine hK2 _ _ ?_
  refine wpList_plain rfl (fun K hK => ?_)
  go_simp
  refine hK _ _ ?_
  clear hK K
  (try dsimp only [Act.put]); (try simp only [List.setIfInBounds_toArray, List.set_cons_zero, List.set_cons_succ])
  refine wpList_plain rfl (fun K hK => ?_)
  go_simp
  refine hK _ _ ?_
  clear hK K
  (try dsimp only [Act.put]); (try simp only [List.setIfInBounds_toArray, List.set_cons_zero, List.set_cons_succ])
  refine hK1 _ _ ?_
  clear hK2 K2 hK1 K1
  refine wp_seq_k (fun K1 hK1 => ?_)
  refine wp_region_lit ?_
  refine wpList_plain rfl (fun K hK => ?_)
  go_simp
  refine hK _ _ ?_
  clear hK K
  (try dsimp only [Act.put]); (try simp only [List.setIfInBounds_toArray, List.set_cons_zero, List.set_cons_succ])
  refine wpList_plain rfl (fun K hK => ?_)
  go_simp
  refine hK _ _ ?_
  clear hK K
  (try dsimp only [Act.put]); (try simp only [List.setIfInBounds_toArray, List.set_cons_zero, List.set_cons_succ])
  refine Row.wpList_load_g 32 _ rfl (by rfl) ⟨w.heap.size, 0, none⟩ rfl c _ A1.out Try.underlying32 rfl IA.out ?_
  (try dsimp only [Act.put]); (try simp only [List.setIfInBounds_toArray, List.set_cons_zero, List.set_cons_succ])
  refine BigFrame.wpList_want (by rfl) (fun K hK => ?_)
  go_simp
  refine hK _ _ ?_
  clear hK K
  (try dsimp only [Act.put]); (try simp only [List.setIfInBounds_toArray, List.set_cons_zero, List.set_cons_succ])
  refine BigFrame.wpList_want (by rfl) (fun K hK => ?_)
  go_simp
  refine hK _ _ ?_
  clear hK K
  (try dsimp only [Act.put]); (try simp only [List.setIfInBounds_toArray, List.set_cons_zero, List.set_cons_succ])
  refine BigFrame.wpList_want (by rfl) (fun K hK => ?_)
  go_simp
  refine hK _ _ ?_
  clear hK K
  (try dsimp only [Act.put]); (try simp only [List.setIfInBounds_toArray, List.set_cons_zero, List.set_cons_succ])
  refine BigFrame.wpList_want (by rfl) (fun K hK => ?_)
  go_simp
  refine hK _ _ ?_
  clear hK K
  (try dsimp only [Act.put]); (try simp only [List.setIfInBounds_toArray, List.set_cons_zero, List.set_cons_succ])
  refine BigFrame.wpList_want (by rfl) (fun K2 hK2 => ?_)
  go_simp
  refine (CL1.out _ A0.out).mono ?_
  rintro e u2 ⟨rfl, hb⟩
  replace A0 : Hid (Below w.heap.size w u2) := Lib.hid (A0.out.trans (hb.mono A0.out.size))
  replace A2 : Hid (u2.heap[w.heap.size + 1]? = some (.cells rc.toArray 41 (0, 0))) := Lib.hid ((hb.block _ (Array.getElem?_eq_some_iff.1 A2.out).1).trans A2.out)
  replace A1 := Lib.hid (A1.out.below hb)
  clear q0 q1 q2 q3 q4 q5 q7 q8 q9 q10
  clear hb
  obtain ⟨q0, q1, q2, q3, q4, q5, q7, q8, q9, q10⟩ := RC.out _ _ A2.out
  refine hK2 _ _ ?_
  clear hK2 K2
  refine BigFrame.wpList_want (by rfl) (fun K hK => ?_)
  go_simp
  refine hK _ _ ?_
  clear hK K
  (try dsimp only [Act.put]); (try simp only [List.setIfInBounds_toArray, List.set_cons_zero, List.set_cons_succ])
  refine wpList_plain rfl (fun K hK => ?_)
  go_simp
  refine hK _ _ ?_
  clear hK K
  (try dsimp only [Act.put]); (try simp only [List.setIfInBounds_toArray, List.set_cons_zero, List.set_cons_succ])
  refine wpList_plain rfl (fun K hK => ?_)
  go_simp
  refine hK _ _ ?_
  clear hK K
  (try dsimp only [Act.put]); (try simp only [List.setIfInBounds_toArray, List.set_cons_zero, List.set_cons_succ])
  refine Row.wpList_load_g 32 _ rfl (by rfl) ⟨w.heap.size, 0, none⟩ rfl c _ A1.out Try.underlying32 rfl IA.out ?_
  (try dsimp only [Act.put]); (try simp only [List.setIfInBounds_toArray, List.set_cons_zero, List.set_cons_succ])
  refine BigFrame.wpList_want (by rfl) (fun K hK => ?_)
  go_simp
  refine hK _ _ ?_
  clear hK K
  (try dsimp only [Act.put]); (try simp only [List.setIfInBounds_toArray, List.set_cons_zero, List.set_cons_succ])
  refine BigFrame.wpList_want (by rfl) (fun K hK => ?_)
  go_simp
  refine hK _ _ ?_
  clear hK K
  (try dsimp only [Act.put]); (try simp only [List.setIfInBounds_toArray, List.set_cons_zero, List.set_cons_succ])
  refine BigFrame.wpList_want (by rfl) (fun K hK => ?_)
  go_simp
  refine hK _ _ ?_
  clear hK K
  (try dsimp only [Act.put]); (try simp only [List.setIfInBounds_toArray, List.set_cons_zero, List.set_cons_succ])
  refine BigFrame.wpList_want (by rfl) (fun K hK => ?_)
  go_simp
  refine hK _ _ ?_
  clear hK K
  (try dsimp only [Act.put]); (try simp only [List.setIfInBounds_toArray, List.set_cons_zero, List.set_cons_succ])
  refine BigFrame.wpList_want (by rfl) (fun K2 hK2 => ?_)
  go_simp
  refine (CL2.out _ A0.out).mono ?_
  rintro e u3 ⟨rfl, hb⟩
  replace A0 : Hid (Below w.heap.size w u3) := Lib.hid (A0.out.trans (hb.mono A0.out.size))
  replace A2 : Hid (u3.heap[w.heap.size + 1]? = some (.cells rc.toArray 41 (0, 0))) := Lib.hid ((hb.block _ (Array.getElem?_eq_some_iff.1 A2.out).1).trans A2.out)
  replace A1 := Lib.hid (A1.out.below hb)
  clear q0 q1 q2 q3 q4 q5 q7 q8 q9 q10
  clear hb
  obtain ⟨q0, q1, q2, q3, q4, q5, q7, q8, q9, q10⟩ := RC.out _ _ A2.out
  refine hK2 _ _ ?_
  clear hK2 K2
  refine BigFrame.wpList_want (by rfl) (fun K hK => ?_)
  go_simp
  refine hK _ _ ?_
  clear hK K
  (try dsimp only [Act.put]); (try simp only [List.setIfInBounds_toArray, List.set_cons_zero, List.set_cons_succ])
  have HX : Hid (false = x) := Lib.hid (by rw [HR.out]; simp)
  clear HR RC
  refine Early.out_get (by kernel_rfl) ?_
  refine hK1 _ _ ?_
  refine wp_ret ?_
  exact bodyPost_ret (v := .bool false) (by kernel_rfl) (by kernel_rfl) ⟨ret_bool HX.out, A0.out⟩
end Go.Proofs.Ytfekngnfjemgeaa.RkC
/- The document's own rail: one way through it (6). -/
namespace Go.Proofs.Ytfekngnfjemgeaa.RkC
open Go.ChangeShapes Go.WideShapes Go.ChangeAt Go.RowKit
open Tab PlaceM PlanM OnS ChkM ChkA
open ChkB (laid2)
open May (ret_bool infoT infoR)
set_option linter.unusedVariables false
set_option linter.unusedSimpArgs false
set_option maxRecDepth 100000 in
set_option maxHeartbeats 8000000 in
theorem rail_6 (T : Tab) (h : Hd) (r : Rl) (w : World) (ht : IsTab w h T) (sm : Few T) (z0 : inR (or4 r) (onS T : Nat) = true) (z1 : r.dwell ≠ 0) (z2 : bits .and .i64 r.dwell r.bars = 0) (z3 : exitR T r.exit = true) (z4 : clashR T r.clear r.clear = false) (z5 : clashR T r.dwell r.dwell = false) (z6 : clashR T r.exit r.exit = true) :
    Calls Try.prog 50 #[.agg (T.cells h).toArray, .agg r.cells.toArray, .int .i64 (onS T : Nat)] w fun e w' => e = .returned (.bool (railOk T r)) ∧ Below w.heap.size w w' := by
  have hsz := (cells_ok ht).size
  have IA : Hid ((Try.prog.info? 32).map (·.size) = some (T.cells h).length) := Lib.hid (by rw [List.size_toArray] at hsz; rw [hsz]; exact infoT)
  have AO : Hid (∀ W, Calls Try.prog 51 #[.int .i64 (or4 r), .int .i64 (onS T : Nat)] W fun e w' => e = .returned (.bool (inR (or4 r) (onS T : Nat))) ∧ W = w') := Lib.hid (fun W => RkA.in_any _ _ W)
  have CL : Hid (∀ s W, Below w.heap.size w W → Calls Try.prog 99 #[.agg (T.cells h).toArray, .int .i64 s, .int .i64 s] W fun e w' => e = .returned (.bool (clashR T s s)) ∧ Below W.heap.size W w') := Lib.hid (fun s W hb => RkB.rclash_any T h s s W (ht.below hb))
  have AB : Hid (∀ s W, Below w.heap.size w W → Calls Try.prog 98 #[.agg (T.cells h).toArray, .int .i64 s] W fun e w' => e = .returned (.bool (exitR T s)) ∧ Below W.heap.size W w') := Lib.hid (fun s W hb => RkB.exit_any T h s W (ht.below hb) sm)
  obtain ⟨x, hx⟩ : ∃ x, x = railOk T r := ⟨_, rfl⟩
  rw [← hx]
  have HR : Hid (x = ((inR (or4 r) (onS T : Nat) && (r.dwell != 0 && (bits .and .i64 r.dwell r.bars == 0 && exitR T r.exit))) && (!clashR T r.clear r.clear && (!clashR T r.dwell r.dwell && (!clashR T r.exit r.exit && timesOk r))))) := Lib.hid hx
  have LT0 := Lib.hid (Row.lies_new w (T.cells h).toArray 32)
  have hs1 : (w.alloc (.cells (T.cells h).toArray 32)).heap.size = w.heap.size + 1 := by simp
  have hone := Rl.one r
  have hsz2 : r.cells.toArray.size = 11 := rfl
  have RC := Lib.hid (rail_cells r)
  have O4 : Hid (bits .or .i64 (bits .or .i64 (bits .or .i64 r.bars r.clear) r.dwell) r.exit = or4 r) := Lib.hid rfl
  obtain ⟨a1, ha1⟩ : ∃ z, inR (or4 r) (onS T : Nat) = z := ⟨_, rfl⟩
  obtain ⟨c1, hc1⟩ : ∃ z, clashR T r.clear r.clear = z := ⟨_, rfl⟩
  obtain ⟨c2, hc2⟩ : ∃ z, clashR T r.dwell r.dwell = z := ⟨_, rfl⟩
  obtain ⟨c3, hc3⟩ : ∃ z, clashR T r.exit r.exit = z := ⟨_, rfl⟩
  obtain ⟨b1, hb1⟩ : ∃ z, exitR T r.exit = z := ⟨_, rfl⟩
  have CL1 := Lib.hid (CL.out r.clear)
  have CL2 := Lib.hid (CL.out r.dwell)
  have CL3 := Lib.hid (CL.out r.exit)
  have AB1 := Lib.hid (AB.out r.exit)
  rw [ha1] at AO HR
  rw [hc1] at CL1 HR
  rw [hc2] at CL2 HR
  rw [hc3] at CL3 HR
  rw [hb1] at AB1 HR
  have TO : Hid (timesOk r = ((decide (0 < r.hold) == (r.clear != 0)) && (decide (1 ≤ r.green) && (decide (1 ≤ r.stay) && ((r.most == 0 || decide (r.stay ≤ r.most)) && decide (r.delay < r.limit)))))) := Lib.hid rfl
  rw [show a1 = true from ha1.symm.trans z0] at AO HR; rw [show b1 = true from hb1.symm.trans z3] at AB1 HR; rw [show c1 = false from hc1.symm.trans z4] at CL1 HR; rw [show c2 = false from hc2.symm.trans z5] at CL2 HR; rw [show c3 = true from hc3.symm.trans z6] at CL3 HR
  clear hx ht CL AB ha1 hc1 hc2 hc3 hb1
  generalize timesOk r = tk at *
  clear z0 z3 z4 z5 z6
  generalize or4 r = o4 at *
  generalize r.cells = rc at *
  obtain ⟨bars, clear_, dwell, exit, delay, green, foot, hold, stay, most, limit⟩ := r
  dsimp only at *
  generalize T.cells h = c at *
  generalize (((onS T : Nat)) : Int) = on at *
  go_enter Try.func50, Try.ntmps50
  go_upto_region 1 with fail
  obtain ⟨u, hu, E1, E0, EB, b1'⟩ := laid2 w (.cells c.toArray 32) (.cells rc.toArray 41)
  rw [hu]
  have A0 := Lib.hid E0
  have A1 := Lib.hid (LT0.out.below (by rw [hs1]; exact EB))
  have A2 : Hid (u.heap[w.heap.size + 1]? = some (.cells rc.toArray 41 (0, 0))) := Lib.hid b1'
  clear hu EB LT0 b1' hs1 hsz hsz2 hone E0 E1
  have H1 := Lib.hid z1
  clear z1
  have H3 := Lib.hid z2
  clear z2
  have zb : (dwell != 0) = true := bne_iff_ne.2 H1.out
  obtain ⟨q0, q1, q2, q3, q4, q5, q7, q8, q9, q10⟩ := RC.out _ _ A2.out
  go_wp2_with fail
  rw [O4.out]
  refine (AO.out _).mono ?_
  rintro e w' ⟨rfl, rfl⟩
  have zc : (bits .and .i64 dwell bars == 0) = true := beq_iff_eq.2 H3.out
  go_wp2_with (refine Row.wpList_load_g 32 _ rfl (by first | rfl | go_simp) ⟨w.heap.size, 0, none⟩ rfl c _ A1.out Try.underlying32 rfl IA.out ?_)
  (try go_wp2_with fail)
  refine (AB1.out _ A0.out).mono ?_
  rintro e u1 ⟨rfl, hb⟩
  replace A0 : Hid (Below w.heap.size w u1) := Lib.hid (A0.out.trans (hb.mono A0.out.size))
  replace A2 : Hid (u1.heap[w.heap.size + 1]? = some (.cells rc.toArray 41 (0, 0))) := Lib.hid ((hb.block _ (Array.getElem?_eq_some_iff.1 A2.out).1).trans A2.out)
  replace A1 := Lib.hid (A1.out.below hb)
  clear q0 q1 q2 q3 q4 q5 q7 q8 q9 q10
  clear hb
  obtain ⟨q0, q1, q2, q3, q4, q5, q7, q8, q9, q10⟩ := RC.out _ _ A2.out
  rename_i Q1 K1 hK1 K2 hK2
  refine hK2 _ _ ?_
  refine wpList_plain rfl (fun K hK => ?_)
  go_simp
  refine hK _ _ ?_
  clear hK K
  (try dsimp only [Act.put]); (try simp only [List.setIfInBounds_toArray, List.set_cons_zero, List.set_cons_succ])
  refine wpList_plain rfl (fun K hK => ?_)
  go_simp
  refine hK _ _ ?_
  clear hK K
  (try dsimp only [Act.put]); (try simp only [List.setIfInBounds_toArray, List.set_cons_zero, List.set_cons_succ])
  refine hK1 _ _ ?_
  clear hK2 K2 hK1 K1
  refine wp_seq_k (fun K1 hK1 => ?_)
  refine wp_region_lit ?_
  refine wpList_plain rfl (fun K hK => ?_)
  go_simp
  refine hK _ _ ?_
  clear hK K
  (try dsimp only [Act.put]); (try simp only [List.setIfInBounds_toArray, List.set_cons_zero, List.set_cons_succ])
  refine wpList_plain rfl (fun K hK => ?_)
  go_simp
  refine hK _ _ ?_
  clear hK K
  (try dsimp only [Act.put]); (try simp only [List.setIfInBounds_toArray, List.set_cons_zero, List.set_cons_succ])
  refine Row.wpList_load_g 32 _ rfl (by rfl) ⟨w.heap.size, 0, none⟩ rfl c _ A1.out Try.underlying32 rfl IA.out ?_
  (try dsimp only [Act.put]); (try simp only [List.setIfInBounds_toArray, List.set_cons_zero, List.set_cons_succ])
  refine BigFrame.wpList_want (by rfl) (fun K hK => ?_)
  go_simp
  refine hK _ _ ?_
  clear hK K
  (try dsimp only [Act.put]); (try simp only [List.setIfInBounds_toArray, List.set_cons_zero, List.set_cons_succ])
  refine BigFrame.wpList_want (by rfl) (fun K hK => ?_)
  go_simp
  refine hK _ _ ?_
  clear hK K
  (try dsimp only [Act.put]); (try simp only [List.setIfInBounds_toArray, List.set_cons_zero, List.set_cons_succ])
  refine BigFrame.wpList_want (by rfl) (fun K hK => ?_)
  go_simp
  refine hK _ _ ?_
  clear hK K
  (try dsimp only [Act.put]); (try simp only [List.setIfInBounds_toArray, List.set_cons_zero, List.set_cons_succ])
  refine BigFrame.wpList_want (by rfl) (fun K hK => ?_)
  go_simp
  refine hK _ _ ?_
  clear hK K
  (try dsimp only [Act.put]); (try simp only [List.setIfInBounds_toArray, List.set_cons_zero, List.set_cons_succ])
  refine BigFrame.wpList_want (by rfl) (fun K2 hK2 => ?_)
  go_simp
  refine (CL1.out _ A0.out).mono ?_
  rintro e u2 ⟨rfl, hb⟩
  replace A0 : Hid (Below w.heap.size w u2) := Lib.hid (A0.out.trans (hb.mono A0.out.size))
  replace A2 : Hid (u2.heap[w.heap.size + 1]? = some (.cells rc.toArray 41 (0, 0))) := Lib.hid ((hb.block _ (Array.getElem?_eq_some_iff.1 A2.out).1).trans A2.out)
  replace A1 := Lib.hid (A1.out.below hb)
  clear q0 q1 q2 q3 q4 q5 q7 q8 q9 q10
  clear hb
  obtain ⟨q0, q1, q2, q3, q4, q5, q7, q8, q9, q10⟩ := RC.out _ _ A2.out
  refine hK2 _ _ ?_
  clear hK2 K2
  refine BigFrame.wpList_want (by rfl) (fun K hK => ?_)
  go_simp
  refine hK _ _ ?_
  clear hK K
  (try dsimp only [Act.put]); (try simp only [List.setIfInBounds_toArray, List.set_cons_zero, List.set_cons_succ])
  refine wpList_plain rfl (fun K hK => ?_)
  go_simp
  refine hK _ _ ?_
  clear hK K
  (try dsimp only [Act.put]); (try simp only [List.setIfInBounds_toArray, List.set_cons_zero, List.set_cons_succ])
  refine wpList_plain rfl (fun K hK => ?_)
  go_simp
  refine hK _ _ ?_
  clear hK K
  (try dsimp only [Act.put]); (try simp only [List.setIfInBounds_toArray, List.set_cons_zero, List.set_cons_succ])
  refine Row.wpList_load_g 32 _ rfl (by rfl) ⟨w.heap.size, 0, none⟩ rfl c _ A1.out Try.underlying32 rfl IA.out ?_
  (try dsimp only [Act.put]); (try simp only [List.setIfInBounds_toArray, List.set_cons_zero, List.set_cons_succ])
  refine BigFrame.wpList_want (by rfl) (fun K hK => ?_)
  go_simp
  refine hK _ _ ?_
  clear hK K
  (try dsimp only [Act.put]); (try simp only [List.setIfInBounds_toArray, List.set_cons_zero, List.set_cons_succ])
  refine BigFrame.wpList_want (by rfl) (fun K hK => ?_)
  go_simp
  refine hK _ _ ?_
  clear hK K
  (try dsimp only [Act.put]); (try simp only [List.setIfInBounds_toArray, List.set_cons_zero, List.set_cons_succ])
  refine BigFrame.wpList_want (by rfl) (fun K hK => ?_)
  go_simp
  refine hK _ _ ?_
  clear hK K
  (try dsimp only [Act.put]); (try simp only [List.setIfInBounds_toArray, List.set_cons_zero, List.set_cons_succ])
  refine BigFrame.wpList_want (by rfl) (fun K hK => ?_)
  go_simp
  refine hK _ _ ?_
  clear hK K
  (try dsimp only [Act.put]); (try simp only [List.setIfInBounds_toArray, List.set_cons_zero, List.set_cons_succ])
  refine BigFrame.wpList_want (by rfl) (fun K2 hK2 => ?_)
  go_simp
  refine (CL2.out _ A0.out).mono ?_
  rintro e u3 ⟨rfl, hb⟩
  replace A0 : Hid (Below w.heap.size w u3) := Lib.hid (A0.out.trans (hb.mono A0.out.size))
  replace A2 : Hid (u3.heap[w.heap.size + 1]? = some (.cells rc.toArray 41 (0, 0))) := Lib.hid ((hb.block _ (Array.getElem?_eq_some_iff.1 A2.out).1).trans A2.out)
  replace A1 := Lib.hid (A1.out.below hb)
  clear q0 q1 q2 q3 q4 q5 q7 q8 q9 q10
  clear hb
  obtain ⟨q0, q1, q2, q3, q4, q5, q7, q8, q9, q10⟩ := RC.out _ _ A2.out
  refine hK2 _ _ ?_
  clear hK2 K2
  refine BigFrame.wpList_want (by rfl) (fun K hK => ?_)
  go_simp
  refine hK _ _ ?_
  clear hK K
  (try dsimp only [Act.put]); (try simp only [List.setIfInBounds_toArray, List.set_cons_zero, List.set_cons_succ])
  refine wpList_plain rfl (fun K hK => ?_)
  go_simp
  refine hK _ _ ?_
  clear hK K
  (try dsimp only [Act.put]); (try simp only [List.setIfInBounds_toArray, List.set_cons_zero, List.set_cons_succ])
  refine wpList_plain rfl (fun K hK => ?_)
  go_simp
  refine hK _ _ ?_
  clear hK K
  (try dsimp only [Act.put]); (try simp only [List.setIfInBounds_toArray, List.set_cons_zero, List.set_cons_succ])
  refine Row.wpList_load_g 32 _ rfl (by rfl) ⟨w.heap.size, 0, none⟩ rfl c _ A1.out Try.underlying32 rfl IA.out ?_
  (try dsimp only [Act.put]); (try simp only [List.setIfInBounds_toArray, List.set_cons_zero, List.set_cons_succ])
  refine BigFrame.wpList_want (by rfl) (fun K hK => ?_)
  go_simp
  refine hK _ _ ?_
  clear hK K
  (try dsimp only [Act.put]); (try simp only [List.setIfInBounds_toArray, List.set_cons_zero, List.set_cons_succ])
  refine BigFrame.wpList_want (by rfl) (fun K hK => ?_)
  go_simp
  refine hK _ _ ?_
  clear hK K
  (try dsimp only [Act.put]); (try simp only [List.setIfInBounds_toArray, List.set_cons_zero, List.set_cons_succ])
  refine BigFrame.wpList_want (by rfl) (fun K hK => ?_)
  go_simp
  refine hK _ _ ?_
  clear hK K
  (try dsimp only [Act.put]); (try simp only [List.setIfInBounds_toArray, List.set_cons_zero, List.set_cons_succ])
  refine BigFrame.wpList_want (by rfl) (fun K hK => ?_)
  go_simp
  refine hK _ _ ?_
  clear hK K
  (try dsimp only [Act.put]); (try simp only [List.setIfInBounds_toArray, List.set_cons_zero, List.set_cons_succ])
  refine BigFrame.wpList_want (by rfl) (fun K2 hK2 => ?_)
  go_simp
  refine (CL3.out _ A0.out).mono ?_
  rintro e u4 ⟨rfl, hb⟩
  replace A0 : Hid (Below w.heap.size w u4) := Lib.hid (A0.out.trans (hb.mono A0.out.size))
  replace A2 : Hid (u4.heap[w.heap.size + 1]? = some (.cells rc.toArray 41 (0, 0))) := Lib.hid ((hb.block _ (Array.getElem?_eq_some_iff.1 A2.out).1).trans A2.out)
  replace A1 := Lib.hid (A1.out.below hb)
  clear q0 q1 q2 q3 q4 q5 q7 q8 q9 q10
  clear hb
  obtain ⟨q0, q1, q2, q3, q4, q5, q7, q8, q9, q10⟩ := RC.out _ _ A2.out
  refine hK2 _ _ ?_
  clear hK2 K2
  refine BigFrame.wpList_want (by rfl) (fun K hK => ?_)
  go_simp
  refine hK _ _ ?_
  clear hK K
  (try dsimp only [Act.put]); (try simp only [List.setIfInBounds_toArray, List.set_cons_zero, List.set_cons_succ])
  have HX : Hid (false = x) := Lib.hid (by rw [HR.out]; simp)
  clear HR RC
  refine Early.out_get (by kernel_rfl) ?_
  refine hK1 _ _ ?_
  refine wp_ret ?_
  exact bodyPost_ret (v := .bool false) (by kernel_rfl) (by kernel_rfl) ⟨ret_bool HX.out, A0.out⟩
end Go.Proofs.Ytfekngnfjemgeaa.RkC
