/- A table as an argument: every cell of it, and what lies under its lists. -/
import Derived.Test.YtbpfknkbiaplpaaRows
import Derived.Test.YtbpfknkbiaplpaaFlat
import Derived.Test.YtbpfknkbiaplpaaTab
import Derived.Deep.Slices
import Derived.ChangeSame
import Derived.Laws.Cover2
namespace Go.Proofs.Ytbpfknkbiaplpaa.TabArg
open Go Go.ChangeShapes Go.WideShapes Go.Deep Flat Tab

theorem All2.rep {α β : Type} {R : α → β → Prop} {r : List α} : ∀ (n : Nat) {cs : List β}, All2 R (List.replicate n r).flatten cs → ∃ l : List (List β), l.length = n ∧ cs = l.flatten ∧ ∀ c ∈ l, All2 R r c
  | 0, cs, h => ⟨[], rfl, by cases cs with | nil => rfl | cons _ _ => exact h.elim, by simp⟩
  | n + 1, cs, h => by
    rw [List.replicate_succ, List.flatten_cons] at h
    obtain ⟨h1, h2⟩ := h.split
    obtain ⟨l, hl, he, hr⟩ := All2.rep n h2
    refine ⟨cs.take r.length :: l, by simp [hl], ?_, ?_⟩
    · rw [List.flatten_cons, ← he, List.take_append_drop]
    · intro c hc
      rcases List.mem_cons.1 hc with rfl | hc
      · exact h1
      · exact hr c hc
theorem map_choose {α β : Type} {f : α → List β} {p : α → Prop} : ∀ {l : List (List β)}, (∀ c ∈ l, ∃ v, c = f v ∧ p v) → ∃ m : List α, m.length = l.length ∧ l.flatten = m.flatMap f ∧ ∀ v ∈ m, p v
  | [], _ => ⟨[], rfl, rfl, by simp⟩
  | c :: l, h => by
    obtain ⟨v, hv, hp⟩ := h c (by simp)
    obtain ⟨m, h1, h2, h3⟩ := map_choose (l := l) (fun c hc => h c (by simp [hc]))
    exact ⟨v :: m, by simp [h1], by rw [List.flatten_cons, h2, hv, List.flatMap_cons], by
      intro u hu
      rcases List.mem_cons.1 hu with rfl | hu
      · exact hp
      · exact h3 u hu⟩
section
variable {H : Type} {enc : TypeId × Value → H} {P : Program} {w : World} {base : Nat} {spare : Nat → Bool} {held : Bool}
abbrev Tr (enc : TypeId × Value → H) (P : Program) (w : World) (base : Nat) (spare : Nat → Bool) (held : Bool) (t : TypeId) (v : Value) : Prop := ∃ n y, DataW.trod enc P w base spare held n t [v] = some y
theorem tr_int {t : TypeId} {v : Value} (hu : P.underlying t = some (.int .i64)) (h : Tr enc P w base spare held t v) : ∃ z, v = I z := by
  obtain ⟨n, y, h⟩ := h
  obtain ⟨z, hz, _⟩ := DataW.trod_int hu h
  exact ⟨z, by simpa using hz⟩
theorem tr_bool {t : TypeId} {v : Value} (hu : P.underlying t = some .bool) (h : Tr enc P w base spare held t v) : ∃ b, v = .bool b := by
  obtain ⟨n, y, h⟩ := h
  obtain ⟨z, hz, _⟩ := DataW.trod_bool hu h
  exact ⟨z, by simpa using hz⟩
theorem tr_flt {t : TypeId} {v : Value} (hu : P.underlying t = some (.float .f64)) (h : Tr enc P w base spare held t v) : ∃ b, v = F b := by
  obtain ⟨n, y, h⟩ := h
  cases n with
  | zero => simp [DataW.trod] at h
  | succ n =>
    unfold DataW.trod at h
    rw [hu] at h
    split at h <;> simp_all
theorem tr_ints {t : TypeId} (hu : P.underlying t = some (.int .i64)) : ∀ (n : Nat) {cs : List Value}, All2 (Tr enc P w base spare held) (List.replicate n t) cs → ∃ l : List Int, l.length = n ∧ cs = l.map I
  | 0, cs, h => ⟨[], rfl, by cases cs with | nil => rfl | cons _ _ => exact h.elim⟩
  | n + 1, [], h => h.elim
  | n + 1, c :: cs, h => by
    obtain ⟨z, rfl⟩ := tr_int hu h.1
    obtain ⟨l, hl, rfl⟩ := tr_ints hu n h.2
    exact ⟨z :: l, by simp [hl], rfl⟩
/-- A slice whose elements each read as one of ours. -/
theorem tr_row {α : Type} [Inhabited α] {t e : TypeId} {k : Nat} {f : α → List Value} {p : α → Prop} {v : Value} (ht : P.underlying t = some (.slice e)) (hC : P.cellsOf e = k)
    (hel : ∀ n cs x, DataW.trod enc P w base spare held n e cs = some x → ∃ v, cs = f v ∧ p v) (h : Tr enc P w base spare held t v) :
    ∃ (s : Sl) (l : List α), v = s.val l.length ∧ RowOf k f w s l ∧ ∀ u ∈ l, p u := by
  obtain ⟨n, y, h⟩ := h
  rcases Deep.open_slice ht h with ⟨h0, _⟩ | ⟨a, len, cap, m, n', D, Pl, hcs, _, hl, hm, hmm, _, hx⟩
  · simp only [List.cons.injEq, and_true] at h0
    exact ⟨⟨none, 0⟩, [], h0, RowOf.nil w, by simp⟩
  · simp only [List.cons.injEq, and_true] at hcs
    have hlm : len ≤ m := by rw [hmm]; split <;> omega
    have each : ∀ i, ∃ u : α, i < len → Lies w (a.add (i * k)) (f u) ∧ p u := by
      intro i
      by_cases hi : i < len
      · obtain ⟨cs', h1, h2⟩ := hx i (by omega)
        rw [hC] at h1
        obtain ⟨_, hlen, hcell⟩ := World.cells?_some h1
        obtain ⟨u, rfl, hp⟩ := hel _ _ _ h2
        refine ⟨u, fun _ => ⟨fun j v hv => ?_, hp⟩⟩
        have hj : j < k := by rw [← hlen]; exact (List.getElem?_eq_some_iff.1 hv).1
        rw [hcell j hj, hv]
      · exact ⟨default, fun h => absurd h hi⟩
    refine ⟨⟨some a, cap⟩, (List.range len).map fun i => Classical.choose (each i), ?_, .inr ⟨a, rfl, by simpa using hl, hm, ?_⟩, ?_⟩
    · rw [hcs]; simp
    · intro i u hu
      rw [List.getElem?_map] at hu
      by_cases hi : i < len
      · rw [List.getElem?_range hi] at hu
        obtain rfl := Option.some.inj hu
        exact (Classical.choose_spec (each i) hi).1
      · simp [List.getElem?_eq_none (l := List.range len) (i := i) (by simpa using hi)] at hu
    · intro u hu
      obtain ⟨i, hi, rfl⟩ := List.mem_map.1 hu
      exact (Classical.choose_spec (each i) (List.mem_range.1 hi)).2
instance : Inhabited Gr := ⟨⟨[], [], ⟨none, 0⟩, ⟨none, 0⟩⟩⟩
abbrev B : TypeId := 4
abbrev N : TypeId := 3
abbrev X : TypeId := 70
abbrev phT : List TypeId := [B, N, N, N, N, N, N, N, N, N, N, B, B]
theorem flP : flat Try.prog 4 23 = some phT := by kernel_rfl
theorem flD : flat Try.prog 4 72 = some [N, X, X, X, X, N, N] := by kernel_rfl
theorem flR : flat Try.prog 4 75 = some (List.replicate 11 N) := by kernel_rfl
theorem flB : flat Try.prog 4 79 = some (List.replicate 2 N) := by kernel_rfl
theorem flG : flat Try.prog 4 85 = some (List.replicate 2 37) := by kernel_rfl
abbrev tabT : List TypeId := (List.replicate 8 phT).flatten ++ (39 :: (List.replicate 8 N ++ (41 :: 42 :: 43 :: (List.replicate 5 N ++ (List.replicate 8 N ++ List.replicate 2 N)))))
theorem flT : flat Try.prog 5 45 = some tabT := by kernel_rfl
theorem ph_el : ∀ {cs : List Value}, All2 (Tr enc Try.prog w base spare held) phT cs → ∃ p : Ph, cs = p.cells
  | [_, _, _, _, _, _, _, _, _, _, _, _, _], ⟨h0, h1, h2, h3, h4, h5, h6, h7, h8, h9, h10, h11, h12, _⟩ => by
    obtain ⟨v0, rfl⟩ := tr_bool Try.underlying4 h0
    obtain ⟨v1, rfl⟩ := tr_int Try.underlying3 h1
    obtain ⟨v2, rfl⟩ := tr_int Try.underlying3 h2
    obtain ⟨v3, rfl⟩ := tr_int Try.underlying3 h3
    obtain ⟨v4, rfl⟩ := tr_int Try.underlying3 h4
    obtain ⟨v5, rfl⟩ := tr_int Try.underlying3 h5
    obtain ⟨v6, rfl⟩ := tr_int Try.underlying3 h6
    obtain ⟨v7, rfl⟩ := tr_int Try.underlying3 h7
    obtain ⟨v8, rfl⟩ := tr_int Try.underlying3 h8
    obtain ⟨v9, rfl⟩ := tr_int Try.underlying3 h9
    obtain ⟨v10, rfl⟩ := tr_int Try.underlying3 h10
    obtain ⟨v11, rfl⟩ := tr_bool Try.underlying4 h11
    obtain ⟨v12, rfl⟩ := tr_bool Try.underlying4 h12
    exact ⟨⟨v0, v1, v2, v3, v4, v5, v6, v7, v8, v9, v10, v11, v12⟩, rfl⟩
theorem det_el : ∀ {cs : List Value}, All2 (Tr enc Try.prog w base spare held) [N, X, X, X, X, N, N] cs → ∃ d : Det, cs = d.cells
  | [_, _, _, _, _, _, _], ⟨h0, h1, h2, h3, h4, h5, h6, _⟩ => by
    obtain ⟨v0, rfl⟩ := tr_int Try.underlying3 h0
    obtain ⟨v1, rfl⟩ := tr_flt Try.underlying70 h1
    obtain ⟨v2, rfl⟩ := tr_flt Try.underlying70 h2
    obtain ⟨v3, rfl⟩ := tr_flt Try.underlying70 h3
    obtain ⟨v4, rfl⟩ := tr_flt Try.underlying70 h4
    obtain ⟨v5, rfl⟩ := tr_int Try.underlying3 h5
    obtain ⟨v6, rfl⟩ := tr_int Try.underlying3 h6
    exact ⟨⟨v0, v1, v2, v3, v4, v5, v6⟩, rfl⟩
theorem rl_el {cs : List Value} (h : All2 (Tr enc Try.prog w base spare held) (List.replicate 11 N) cs) : ∃ r : Rl, cs = r.cells := by
  obtain ⟨l, hl, rfl⟩ := tr_ints Try.underlying3 11 h
  match l, hl with
  | [a, b, c, d, e, f, g, h, i, j, k], _ => exact ⟨⟨a, b, c, d, e, f, g, h, i, j, k⟩, rfl⟩
theorem bs_el {cs : List Value} (h : All2 (Tr enc Try.prog w base spare held) (List.replicate 2 N) cs) : ∃ b : Bs, cs = b.cells := by
  obtain ⟨l, hl, rfl⟩ := tr_ints Try.underlying3 2 h
  match l, hl with
  | [a, b], _ => exact ⟨⟨a, b⟩, rfl⟩
theorem int_row {v : Value} (h : Tr enc Try.prog w base spare held 37 v) : ∃ (s : Sl) (l : List Int), v = s.val l.length ∧ IntRow w s l := by
  obtain ⟨s, l, h1, h2, _⟩ := tr_row (α := Int) (k := 1) (f := fun n => [I n]) (p := fun _ => True) Try.underlying37 (by kernel_rfl) (fun n cs x hx => by
    obtain ⟨z, hz, _⟩ := DataW.trod_int Try.underlying3 hx
    exact ⟨z, hz, trivial⟩) h
  exact ⟨s, l, h1, h2⟩
theorem gr_el : ∀ {cs : List Value}, All2 (Tr enc Try.prog w base spare held) (List.replicate 2 37) cs → ∃ g : Gr, cs = g.cells ∧ g.ok w
  | [_, _], ⟨h0, h1, _⟩ => by
    obtain ⟨s0, r0, rfl, k0⟩ := int_row h0
    obtain ⟨s1, r1, rfl, k1⟩ := int_row h1
    exact ⟨⟨r0, r1, s0, s1⟩, rfl, k0, k1⟩
theorem open_tab {n : Nat} {cs : List Value} {x : DataW H × List MemPlace} (h : DataW.trod enc Try.prog w base spare held n 45 cs = some x) : ∃ (hd : Hd) (T : Tab), cs = T.cells hd ∧ IsTab w hd T := by
  have hf := trod_flat 5 _ _ flT n cs x h
  clear h
  obtain ⟨h1, h2⟩ := All2.split hf
  have e0 := List.take_append_drop (List.replicate 8 phT).flatten.length cs
  rw [← e0]
  generalize cs.take (List.replicate 8 phT).flatten.length = ca at h1
  generalize cs.drop (List.replicate 8 phT).flatten.length = cb at h2
  obtain ⟨L, hL, rfl, hall⟩ := All2.rep 8 h1
  obtain ⟨ps, hp1, hp2, _⟩ := map_choose (f := Ph.cells) (p := fun _ => True) (l := L) (fun c hc => (ph_el (hall c hc)).imp fun v hv => ⟨hv, trivial⟩)
  cases cb with
  | nil => exact h2.elim
  | cons vg cb =>
  obtain ⟨hg, h3⟩ := h2
  obtain ⟨h4, h5⟩ := All2.split h3
  have e1 := List.take_append_drop (List.replicate 8 N).length cb
  rw [← e1]
  generalize cb.take (List.replicate 8 N).length = cc at h4
  generalize cb.drop (List.replicate 8 N).length = cd at h5
  obtain ⟨cf, hcf, rfl⟩ := tr_ints Try.underlying3 8 h4
  match cd, h5 with
  | vd :: vr :: vb :: ce, ⟨hd, hr, hb, h6⟩ =>
  obtain ⟨h7, h8⟩ := All2.split h6
  have e2 := List.take_append_drop (List.replicate 5 N).length ce
  rw [← e2]
  generalize ce.take (List.replicate 5 N).length = cg at h7
  generalize ce.drop (List.replicate 5 N).length = ch at h8
  obtain ⟨five, h5l, rfl⟩ := tr_ints Try.underlying3 5 h7
  obtain ⟨h9, h10⟩ := All2.split h8
  have e3 := List.take_append_drop (List.replicate 8 N).length ch
  rw [← e3]
  generalize ch.take (List.replicate 8 N).length = ci at h9
  generalize ch.drop (List.replicate 8 N).length = cj at h10
  obtain ⟨fl, hfl, rfl⟩ := tr_ints Try.underlying3 8 h9
  obtain ⟨two, h2l, rfl⟩ := tr_ints Try.underlying3 2 h10
  obtain ⟨sg, gs, rfl, kg, kgo⟩ := tr_row (α := Gr) (k := 2) (f := Gr.cells) (p := fun g => g.ok w) Try.underlying39 (by kernel_rfl) (fun n cs x hx => gr_el (trod_flat 4 _ _ flG n cs x hx)) hg
  obtain ⟨sd, ds, rfl, kd, _⟩ := tr_row (α := Det) (k := 7) (f := Det.cells) (p := fun _ => True) Try.underlying41 (by kernel_rfl) (fun n cs x hx => (det_el (trod_flat 4 _ _ flD n cs x hx)).imp fun v hv => ⟨hv, trivial⟩) hd
  obtain ⟨sr, rs, rfl, kr, _⟩ := tr_row (α := Rl) (k := 11) (f := Rl.cells) (p := fun _ => True) Try.underlying42 (by kernel_rfl) (fun n cs x hx => (rl_el (trod_flat 4 _ _ flR n cs x hx)).imp fun v hv => ⟨hv, trivial⟩) hr
  obtain ⟨sb, bs, rfl, kb, _⟩ := tr_row (α := Bs) (k := 2) (f := Bs.cells) (p := fun _ => True) Try.underlying43 (by kernel_rfl) (fun n cs x hx => (bs_el (trod_flat 4 _ _ flB n cs x hx)).imp fun v hv => ⟨hv, trivial⟩) hb
  match five, h5l, two, h2l with
  | [a, b, c, d, e], _, [f, g], _ =>
  refine ⟨⟨sg, sd, sr, sb⟩, ⟨ps, gs.map Gr.data, cf, ds, rs, bs, a, b, c, d, e, fl, f, g⟩, ?_, ⟨by rw [hp1, hL], hcf, hfl, ⟨gs, rfl, kg, kgo⟩, kd, kr, kb⟩⟩
  rw [hp2]
  simp only [Tab.cells, List.length_map, List.cons_append, List.nil_append, List.map_cons, List.map_nil]
end
end Go.Proofs.Ytbpfknkbiaplpaa.TabArg
