/- A region that draws its order of evaluation and holds calls that WRITE, one behind the other: walked once, in the order of the text. The calls are a chain: each waits for the one before it; all else reads, and reads the same before and behind each of them. No program in it. -/
import Derived.Still
import Derived.StillTail
import Derived.Deep.QuietTactic
import Derived.Below
namespace Go.Proofs.Ytbpfknkbiaplpaa.Ph
open Go Go.RowKit

section
variable {P : Program} {ops : Array Oper} {md : Region.Mode} {D : Nat → World → Prop} {cs : List Nat}

/-- The first p of the chain have come up, and no other of it. -/
def Upto (cs : List Nat) (p : Nat) (L : Array Bool) : Prop := ∀ q c, cs[q]? = some c → L.getD c false = decide (q < p)
def Cl (D : Nat → World → Prop) (cs : List Nat) (L : Array Bool) (w : World) : Prop := ∃ p, p ≤ cs.length ∧ Upto cs p L ∧ D p w

def upon (P : Program) (C : World → Prop) (w : World) (v : Value) : Result Next → Prop
  | .ok (.value u) w' => w' = w ∧ u = v ∧ C w
  | .ok .skip w' => v = undef ∧ C w'
  | .ok (.enter f args) w' => w' = w ∧ Calls P f args w (fun e w'' => e = .returned v ∧ C w'')
  | _ => False
def Steps (P : Program) (md : Region.Mode) (ops : Array Oper) (D : Nat → World → Prop) (cs : List Nat) (i : Nat) (o : Oper) (a : Act) (v : Value) : Prop :=
  ∀ L w, L.size = ops.size → i ∈ Region.ready md ops L → Cl D cs L w → upon P (Cl D cs (L.setIfInBounds i true)) w v ((execOp a.eval o).run P w)
def Passes (md : Region.Mode) (ops : Array Oper) (D : Nat → World → Prop) (cs : List Nat) (i : Nat) : Prop :=
  ∀ L w, L.size = ops.size → i ∈ Region.ready md ops L → Cl D cs L w → Cl D cs (L.setIfInBounds i true) w

def pOp (P : Program) (md : Region.Mode) (ops : Array Oper) (D : Nat → World → Prop) (cs : List Nat) (i : Nat) (K : Act → Prop) (a : Act) : Prop :=
  match ops[i]? with
  | none => False
  | some o => if Region.wanted o (yielded ops a.tmps) then ∃ v, Steps P md ops D cs i o a v ∧ K (a.put o.dst v) else Passes md ops D cs i ∧ K (a.put o.dst undef)
theorem pOp_mono {i : Nat} {a : Act} {K K' : Act → Prop} (h : ∀ a, K a → K' a) (hh : pOp P md ops D cs i K a) : pOp P md ops D cs i K' a := by
  unfold pOp at *
  split
  · rename_i ho; simp only [ho] at hh
  · rename_i o ho
    simp only [ho] at hh
    split
    · rename_i hw; simp only [hw, if_true] at hh; exact ⟨hh.choose, hh.choose_spec.1, h _ hh.choose_spec.2⟩
    · rename_i hw; simp only [hw] at hh; exact ⟨hh.1, h _ hh.2⟩

def wpAnyP (P : Program) (md : Region.Mode) (ops : Array Oper) (D : Nat → World → Prop) (cs : List Nat) (Q : Array Bool → Act → Prop) : Nat → Array Bool → Act → Prop
  | 0, listed, a => Region.ready md ops listed = [] ∧ Q listed a
  | fuel + 1, listed, a =>
    Region.ready md ops listed ≠ [] ∧
    ∀ i ∈ Region.ready md ops listed, pOp P md ops D cs i (wpAnyP P md ops D cs Q fuel (listed.setIfInBounds i true)) a

theorem wpAny_of_ph {Q : Array Bool → Act → Prop} {Q' : Exit → Act → World → Prop} (hQ : ∀ L a w, Cl D cs L w → Q L a → Q' .normal a w) : ∀ (fuel : Nat) (listed : Array Bool) (a : Act) (w : World), listed.size = ops.size → Cl D cs listed w →
    wpAnyP P md ops D cs Q fuel listed a → wpAny P md ops Q' fuel listed a w
  | 0, _, _, _, _, hw, h => ⟨h.1, hQ _ _ _ hw h.2⟩
  | fuel + 1, listed, a, w, hsz, hw, h => ⟨fun h0 => absurd h0 h.1, fun i hi => by
      have h1 := h.2 i hi
      unfold pOp at h1
      unfold wpOp
      split
      · rename_i ho; simp only [ho] at h1
      · rename_i o ho
        simp only [ho] at h1
        split
        · rename_i hwt
          simp only [hwt, if_true] at h1
          obtain ⟨v, hst, hK⟩ := h1
          refine .inl ?_
          have h2 := hst listed w hsz hi hw
          unfold Oper.wp
          generalize (execOp a.eval o).run P w = r at *
          have hsz' : (listed.setIfInBounds i true).size = ops.size := by simpa using hsz
          cases r with
          | ok n w' =>
            cases n <;> simp only [upon] at h2 <;> simp only [Oper.upon]
            case value u =>
              obtain ⟨rfl, rfl, hC⟩ := h2
              exact wpAny_of_ph hQ fuel _ _ _ hsz' hC hK
            case skip =>
              obtain ⟨rfl, hC⟩ := h2
              exact wpAny_of_ph hQ fuel _ _ _ hsz' hC hK
            case enter f args =>
              obtain ⟨rfl, hc⟩ := h2
              exact hc.mono fun e w'' ⟨he, hC⟩ => by subst he; exact wpAny_of_ph hQ fuel _ _ _ hsz' hC hK
          | halt x w' => simp only [upon] at h2
        · rename_i hwt
          simp only [hwt] at h1
          exact wpAny_of_ph hQ fuel _ _ _ (by simpa using hsz) (h1.1 listed w hsz hi hw) h1.2⟩

def YieldsP (P : Program) (md : Region.Mode) (ops : Array Oper) (D : Nat → World → Prop) (cs : List Nat) (i : Nat) (o : Oper) (v : Value) (a : Act) : Prop :=
  (Region.wanted o (yielded ops a.tmps) = true ∧ Steps P md ops D cs i o a v) ∨ (Region.wanted o (yielded ops a.tmps) = false ∧ v = undef ∧ Passes md ops D cs i)
theorem YieldsP.pOp {i : Nat} {o : Oper} {v : Value} {a : Act} (hi : ops[i]? = some o) (hy : YieldsP P md ops D cs i o v a) {K : Act → Prop} (h : K (a.put o.dst v)) : pOp P md ops D cs i K a := by
  unfold Ph.pOp
  simp only [hi]
  rcases hy with ⟨hw, hv⟩ | ⟨hw, rfl, hp⟩
  · simp only [hw, if_true]; exact ⟨v, hv, h⟩
  · simp only [hw, Bool.false_eq_true, if_false]; exact ⟨hp, h⟩
theorem YieldsP.of_same {i : Nat} {o : Oper} {v : Value} {a a' : Act} (hy : YieldsP P md ops D cs i o v a) (he : execOp a'.eval o = execOp a.eval o)
    (hw : Region.wanted o (yielded ops a'.tmps) = Region.wanted o (yielded ops a.tmps)) : YieldsP P md ops D cs i o v a' := by
  unfold YieldsP Steps at *
  rw [he, hw]
  exact hy
theorem yieldsP_of_pOp {i : Nat} {o : Oper} {a : Act} {K : Act → Prop} (hi : ops[i]? = some o) (h : pOp P md ops D cs i K a) : ∃ v, YieldsP P md ops D cs i o v a ∧ K (a.put o.dst v) := by
  unfold pOp at h
  simp only [hi] at h
  by_cases hw : Region.wanted o (yielded ops a.tmps) = true
  · simp only [hw, if_true] at h
    obtain ⟨v, h1, h2⟩ := h
    exact ⟨v, .inl ⟨hw, h1⟩, h2⟩
  · simp only [hw] at h
    exact ⟨undef, .inr ⟨by simpa using hw, rfl, h.1⟩, h.2⟩
theorem pOp_put {i j : Nat} {oi oj : Oper} {v : Value} (hj : ops[j]? = some oj) (hap : oi.apart ops oj = true)
    (hsi : ∀ cs b, oi.op ≠ .select cs b) (hsj : ∀ cs b, oj.op ≠ .select cs b) {K : Act → Prop} {a : Act}
    (hy : YieldsP P md ops D cs i oi v a) (h : pOp P md ops D cs j K (a.put oi.dst v)) :
    pOp P md ops D cs j (fun a' => YieldsP P md ops D cs i oi v a' ∧ K (a'.put oi.dst v)) a := by
  obtain ⟨h1, h2, h3⟩ := Oper.apart_spec hap
  have keep : ∀ (a : Act), YieldsP P md ops D cs i oi v a → ∀ u, YieldsP P md ops D cs i oi v (a.put oj.dst u) := fun a hy u =>
    hy.of_same (execOp_put oi hsi a oj.dst u h3) (wanted_put oi a oj.dst u h3)
  unfold pOp at *
  simp only [hj] at *
  rw [wanted_put oj a oi.dst v h1] at h
  split
  · rename_i hw
    simp only [hw, if_true] at h
    obtain ⟨u, hu, hn⟩ := h
    refine ⟨u, ?_, keep a hy u, by rw [← Act.put_comm a v u h2]; exact hn⟩
    unfold Steps at *
    rwa [execOp_put oj hsj a oi.dst v h1] at hu
  · rename_i hw
    simp only [hw] at h
    exact ⟨h.1, keep a hy _, by rw [← Act.put_comm a v undef h2]; exact h.2⟩

theorem wpAnyP_first {Q : Array Bool → Act → Prop} {i : Nat} {oi : Oper} {v : Value} (hi : ops[i]? = some oi) (hsel : ∀ (j : Nat) (o : Oper) cs b, ops[j]? = some o → o.op ≠ .select cs b) :
    ∀ (fuel : Nat) (listed : Array Bool) (a : Act),
      (∀ j oj, ops[j]? = some oj → j ≠ i → listed.getD j true = false → (∀ e ∈ oj.after, Region.binds md e = true → e.on ≠ i) → oi.apart ops oj = true) →
      i ∈ Region.ready md ops listed → YieldsP P md ops D cs i oi v a →
      wpAnyP P md ops D cs Q fuel (listed.setIfInBounds i true) (a.put oi.dst v) → wpAnyP P md ops D cs Q (fuel + 1) listed a := by
  intro fuel
  induction fuel with
  | zero =>
    intro listed a _ hr hy H
    refine ⟨fun h => (by rw [h] at hr; cases hr), fun j hj => ?_⟩
    by_cases hji : j = i
    · subst hji; exact hy.pOp hi H
    · have := ready_mono hj hji
      rw [H.1] at this
      cases this
  | succ fuel ih =>
    intro listed a hfree hr hy H
    refine ⟨fun h => (by rw [h] at hr; cases hr), fun j hj => ?_⟩
    by_cases hji : j = i
    · subst hji; exact hy.pOp hi H
    · have h1 := H.2 j (ready_mono hj hji)
      obtain ⟨hjun, oj, hoj, hall⟩ := mem_ready.1 hj
      have hnot : ∀ e ∈ oj.after, Region.binds md e = true → e.on ≠ i := fun e he hb heq => by
        have h1 := hall e he hb
        have h0 := (mem_ready.1 hr).1
        rw [heq] at h1
        rcases Nat.lt_or_ge i listed.size with h' | h'
        · simp [h'] at h0 h1; rw [h0] at h1; cases h1
        · simp [Array.getElem?_eq_none h'] at h1
      have h2 := pOp_put hoj (hfree j oj hoj hji hjun hnot) (fun cs b => hsel i oi cs b hi) (fun cs b => hsel j oj cs b hoj) hy h1
      have hfree' : ∀ k ok, ops[k]? = some ok → k ≠ i → (listed.setIfInBounds j true).getD k true = false →
          (∀ e ∈ ok.after, Region.binds md e = true → e.on ≠ i) → oi.apart ops ok = true := fun k ok hk hki hun hno => by
        refine hfree k ok hk hki ?_ hno
        by_cases hjk : j = k
        · subst hjk; exact hjun
        · rw [getD_set_ne true hjk] at hun; exact hun
      refine pOp_mono (fun a' h3 => ih (listed.setIfInBounds j true) a' hfree' (ready_mono hr (Ne.symm hji)) h3.1 ?_) h2
      rw [Array.setIfInBounds_comm _ _ hji]
      exact h3.2

/-- A world, and how far the chain has come. -/
structure S (D : Nat → World → Prop) where
  ph : Nat
  world : World
  is : D ph world
/-- An operation that reads, the same value in every phase; a call may leave another world of the phase. -/
def Oper.calmUpon (P : Program) (C : World → Prop) (w : World) (v : Value) : Result Next → Prop
  | .ok (.value u) w' => w' = w ∧ u = v
  | .ok .skip w' => w' = w ∧ v = undef
  | .ok (.enter f args) w' => w' = w ∧ Calls P f args w (fun e w'' => e = .returned v ∧ C w'')
  | _ => False
def Oper.calm (P : Program) (o : Oper) (a : Act) (D : Nat → World → Prop) (next : Act → Prop) : Prop := ∃ v, (∀ p : S D, Oper.calmUpon P (D p.ph) p.world v ((execOp a.eval o).run P p.world)) ∧ next (a.put o.dst v)
/-- The chain's operation number p. -/
def Oper.linkUpon (P : Program) (C : World → Prop) (w : World) (v : Value) : Result Next → Prop
  | .ok .skip w' => v = undef ∧ C w'
  | .ok (.enter f args) w' => w' = w ∧ Calls P f args w (fun e w'' => e = .returned v ∧ C w'')
  | _ => False
def Oper.link (P : Program) (o : Oper) (a : Act) (C C' : World → Prop) (next : Act → Prop) : Prop := ∃ v, (∀ w, C w → Oper.linkUpon P C' w v ((execOp a.eval o).run P w)) ∧ next (a.put o.dst v)
/-- The lexical walk. -/
def wpPh (P : Program) (ops : Array Oper) (D : Nat → World → Prop) (cs : List Nat) (Q : Act → Prop) : Nat → List Oper → Act → Prop
  | _, [], a => Q a
  | k, o :: rest, a =>
    match cs.idxOf? k with
    | some p => Region.wanted o (yielded ops a.tmps) = true ∧ Oper.link P o a (D p) (D (p + 1)) (wpPh P ops D cs Q (k + 1) rest)
    | none => if Region.wanted o (yielded ops a.tmps) then Oper.calm P o a D (wpPh P ops D cs Q (k + 1) rest) else wpPh P ops D cs Q (k + 1) rest (a.put o.dst undef)

theorem upto_other {p k : Nat} {L : Array Bool} (hk : k ∉ cs) (h : Upto cs p L) : Upto cs p (L.setIfInBounds k true) := by
  intro q c hq
  have hne : k ≠ c := fun e => hk (by rw [e]; exact List.mem_of_getElem? hq)
  rw [getD_set_ne false hne]; exact h q c hq
theorem steps_of_calm {k : Nat} {o : Oper} {a : Act} {v : Value} (hk : k ∉ cs) (h : ∀ p : S D, Oper.calmUpon P (D p.ph) p.world v ((execOp a.eval o).run P p.world)) : Steps P md ops D cs k o a v := by
  intro L w _ _ ⟨p, hp, hat, hd⟩
  have h1 := h ⟨p, w, hd⟩
  simp only at h1
  generalize (execOp a.eval o).run P w = r at *
  cases r with
  | ok n w' =>
    cases n <;> simp only [Oper.calmUpon] at h1 <;> simp only [upon]
    case value u => exact ⟨h1.1, h1.2, p, hp, upto_other hk hat, hd⟩
    case skip => exact ⟨h1.2, p, hp, upto_other hk hat, by rw [h1.1]; exact hd⟩
    case enter f args => exact ⟨h1.1, h1.2.mono fun e w'' ⟨he, hd'⟩ => ⟨he, p, hp, upto_other hk hat, hd'⟩⟩
  | halt x w' => simp only [Oper.calmUpon] at h1
theorem passes_of {k : Nat} (hk : k ∉ cs) : Passes md ops D cs k := fun L w _ _ ⟨p, hp, hat, hd⟩ => ⟨p, hp, upto_other hk hat, hd⟩

def chainOk (md : Region.Mode) (ops : Array Oper) (cs : List Nat) : Bool :=
  decide cs.Nodup && (List.range cs.length).all fun p => decide (p = 0) || Region.waitsFor md ops (cs.getD p 0) (cs.getD (p - 1) 0)
theorem steps_of_link {k p : Nat} {o : Oper} {a : Act} {v : Value} (hc : chainOk md ops cs = true) (hk : cs[p]? = some k)
    (h : ∀ w, D p w → Oper.linkUpon P (D (p + 1)) w v ((execOp a.eval o).run P w)) : Steps P md ops D cs k o a v := by
  intro L w hsz hr ⟨p', hp, hat, hd⟩
  simp only [chainOk, Bool.and_eq_true, decide_eq_true_eq] at hc
  obtain ⟨hnd, hall⟩ := hc
  have hpl : p < cs.length := (List.getElem?_eq_some_iff.1 hk).1
  obtain ⟨hun, ok, hok, hedges⟩ := mem_ready.1 hr
  have hkl : k < L.size := by rw [hsz]; exact (Array.getElem?_eq_some_iff.1 hok).1
  have h1 := hat p k hk
  rw [getD_both hun] at h1
  have h2 : ¬ p < p' := fun hlt => by rw [decide_eq_true hlt] at h1; cases h1
  have h3 : p ≤ p' := by
    by_cases h0 : p = 0
    · omega
    · have h4 := List.all_eq_true.1 hall p (List.mem_range.2 hpl)
      simp only [Bool.or_eq_true, decide_eq_true_eq] at h4
      rcases h4 with h4 | h4
      · omega
      · rw [List.getD_eq_getElem?_getD, hk, Option.getD_some] at h4
        obtain ⟨oj, hoj, e, he, hb, hon⟩ := Region.waitsFor_spec h4
        have : oj = ok := Option.some.inj (hoj.symm.trans hok)
        subst this
        have h5 := hedges e he hb
        have h6 : cs[p - 1]? = some (cs.getD (p - 1) 0) := by
          rw [List.getD_eq_getElem?_getD, List.getElem?_eq_getElem (show p - 1 < cs.length by omega)]; rfl
        have h7 := hat (p - 1) _ h6
        rw [← hon, h5] at h7
        have := of_decide_eq_true h7.symm
        omega
  obtain rfl : p' = p := by omega
  have hnew : Upto cs (p' + 1) (L.setIfInBounds k true) := by
    intro q c hq
    by_cases hck : k = c
    · subst hck
      have hqp : q = p' := by
        have hql : q < cs.length := (List.getElem?_eq_some_iff.1 hq).1
        have e1 : cs[q] = cs[p'] := by
          have a1 := List.getElem?_eq_some_iff.1 hq
          have a2 := List.getElem?_eq_some_iff.1 hk
          rw [a1.2, a2.2]
        have h10 := List.pairwise_iff_getElem.1 hnd
        rcases Nat.lt_trichotomy q p' with h11 | h11 | h11
        · exact absurd e1 (h10 q p' hql hpl h11)
        · exact h11
        · exact absurd e1.symm (h10 p' q hpl hql h11)
      subst hqp
      rw [decide_eq_true (by omega)]
      simp [hkl]
    · rw [getD_set_ne false hck, hat q c hq]
      have hqp : q ≠ p' := fun e => by subst e; rw [hk] at hq; exact hck (Option.some.inj hq)
      by_cases h8 : q < p'
      · rw [decide_eq_true h8, decide_eq_true (by omega)]
      · rw [decide_eq_false h8, decide_eq_false (by omega)]
  have h9 := h w hd
  generalize (execOp a.eval o).run P w = r at *
  cases r with
  | ok n w' =>
    cases n <;> simp only [Oper.linkUpon] at h9 <;> simp only [upon]
    case skip => exact ⟨h9.1, p' + 1, by omega, hnew, h9.2⟩
    case enter f args => exact ⟨h9.1, h9.2.mono fun e w'' ⟨he, hd'⟩ => ⟨he, p' + 1, by omega, hnew, hd'⟩⟩
  | halt x w' => simp only [Oper.linkUpon] at h9

def lexFromP (md : Region.Mode) (ops : Array Oper) (cs : List Nat) : Nat → Nat → Array Bool → Bool
  | 0, _, listed => (Region.ready md ops listed).isEmpty && cs.all fun c => listed.getD c false
  | fuel + 1, k, listed => (Region.ready md ops listed).contains k && Region.free md ops listed k && lexFromP md ops cs fuel (k + 1) (listed.setIfInBounds k true)
theorem idxOf_some {k p : Nat} (h : cs.idxOf? k = some p) : cs[p]? = some k := by
  have h1 := List.findIdx?_eq_some_iff_getElem.1 (by simpa [List.idxOf?] using h)
  obtain ⟨hp, h2, _⟩ := h1
  rw [List.getElem?_eq_getElem hp]
  simpa using h2
theorem idxOf_none {k : Nat} (h : cs.idxOf? k = none) : k ∉ cs := by
  intro hm
  have h1 : ∀ x ∈ cs, ¬ x = k := by simpa [List.idxOf?] using h
  exact h1 k hm rfl
theorem wpAnyP_lex {Q : Act → Prop} (hs : Region.noSelect ops = true) (hc : chainOk md ops cs = true) : ∀ (l : List Oper) (k : Nat) (listed : Array Bool) (a : Act), (∀ j, l[j]? = ops[k + j]?) →
    lexFromP md ops cs l.length k listed = true → wpPh P ops D cs Q k l a → wpAnyP P md ops D cs (fun L a => (cs.all fun c => L.getD c false) = true ∧ Q a) l.length listed a
  | [], _, _, _, _, hB, h => by
    simp only [List.length_nil, lexFromP, Bool.and_eq_true] at hB
    exact ⟨by simpa using hB.1, hB.2, h⟩
  | o :: l, k, listed, a, hl, hB, h => by
    have h0 : ops[k]? = some o := by simpa using (hl 0).symm
    simp only [List.length_cons, lexFromP, Bool.and_eq_true] at hB
    obtain ⟨⟨hr, hf⟩, hB'⟩ := hB
    have hst : pOp P md ops D cs k (wpPh P ops D cs Q (k + 1) l) a := by
      unfold pOp
      simp only [h0]
      unfold wpPh at h
      split at h
      · rename_i p hp
        obtain ⟨hw, v, h1, h2⟩ := h
        rw [if_pos hw]
        exact ⟨v, steps_of_link hc (idxOf_some hp) h1, h2⟩
      · rename_i hp
        have hk := idxOf_none hp
        split
        · rename_i hw
          rw [if_pos hw] at h
          obtain ⟨v, h1, h2⟩ := h
          exact ⟨v, steps_of_calm hk h1, h2⟩
        · rename_i hw
          rw [if_neg hw] at h
          exact ⟨passes_of hk, h⟩
    obtain ⟨v, hy, hK⟩ := yieldsP_of_pOp h0 hst
    exact wpAnyP_first h0 (Region.noSelect_spec hs) l.length listed a (Region.free_spec h0 hf) (by simpa using hr) hy
      (wpAnyP_lex hs hc l (k + 1) _ _ (fun j => by have := hl (j + 1); simpa [Nat.add_assoc, Nat.add_comm 1 j] using this) hB' hK)

def okB (md : Region.Mode) (ops : Array Oper) (cs : List Nat) : Bool := Region.noSelect ops && chainOk md ops cs && lexFromP md ops cs ops.size 0 (Array.replicate ops.size false)
/-- **The law.** What stands behind the region is asked in every world in which the chain has come to its end. -/
theorem wp_region_ph {id : Nat} {Q : Exit → Act → World → Prop} {a : Act} {w : World} {l : List Oper} (D : Nat → World → Prop) (cs : List Nat) (hm : P.follows .mixedOrders = true) (hB : okB .any l.toArray cs = true) (hD : D 0 w.drew)
    (h : wpPh P l.toArray D cs (fun a' => ∀ w', D cs.length w' → Q .normal a' w') 0 l a) : (Code.region id l.toArray true).wp P Q a w := by
  simp only [okB, Bool.and_eq_true] at hB
  obtain ⟨⟨hs, hc⟩, hlex⟩ := hB
  have h1 := wpAnyP_lex (md := .any) hs hc l 0 (Array.replicate l.toArray.size false) a (by simp) (by simpa using hlex) h
  refine wp_region_any hm ?_
  refine wpAny_of_ph (D := D) (cs := cs) (Q := fun L a => (cs.all fun c => L.getD c false) = true ∧ ∀ w', D cs.length w' → Q .normal a w') (fun L a w ⟨p, hp, hat, hd⟩ ⟨hall, hq⟩ => ?_) _ _ _ _ (by simp) ⟨0, Nat.zero_le _, fun q c _ => by rw [getD_replicate_false]; simp, hD⟩ (by simpa using h1)
  have hpe : p = cs.length := by
    rcases Nat.lt_or_ge p cs.length with h2 | h2
    · have h3 := hat p _ (List.getElem?_eq_getElem h2)
      have h4 := List.all_eq_true.1 hall _ (List.getElem_mem h2)
      rw [h4] at h3
      have := of_decide_eq_true h3.symm
      omega
    · omega
  subst hpe
  exact hq w hd
/-! the walk, a step at a time -/
theorem wpPh_nil {Q : Act → Prop} {k : Nat} {a : Act} (h : Q a) : wpPh P ops D cs Q k [] a := h
theorem wpPh_calm {Q : Act → Prop} {k : Nat} {a : Act} {o : Oper} {rest : List Oper} (hk : cs.idxOf? k = none)
    (h : ∀ K : Act → Prop, (∀ a, wpPh P ops D cs Q (k + 1) rest a → K a) → if Region.wanted o (yielded ops a.tmps) then Oper.calm P o a D K else K (a.put o.dst undef)) : wpPh P ops D cs Q k (o :: rest) a := by
  unfold wpPh
  simp only [hk]
  exact h _ fun _ h => h
theorem wpPh_link {Q : Act → Prop} {k p : Nat} {a : Act} {o : Oper} {rest : List Oper} (hk : cs.idxOf? k = some p)
    (h : ∀ K : Act → Prop, (∀ a, wpPh P ops D cs Q (k + 1) rest a → K a) → Region.wanted o (yielded ops a.tmps) = true ∧ Oper.link P o a (D p) (D (p + 1)) K) : wpPh P ops D cs Q k (o :: rest) a := by
  unfold wpPh
  simp only [hk]
  exact h _ fun _ h => h
end
attribute [go_sem] Oper.calm Oper.calmUpon Oper.link Oper.linkUpon
end Go.Proofs.Ytbpfknkbiaplpaa.Ph
