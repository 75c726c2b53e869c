/- 9 texts in one file, in build order. -/
import Derived.Still
import Derived.StillTail
import Derived.Deep.QuietTactic
import Derived.Below
import Derived.Test.YtjdeemmaaiecnaaGreatPart01
import Derived.Deep.WholeRow
import Derived.BigFrame
import Derived.Laws.StructEq
import Derived.Laws.CopyRow
import Derived.Deep.RegionHeld
import Derived.Test.YtjdeemmaaiecnaaGreatRows
import Derived.Laws.OwnMore
import Derived.Laws.AppendOwn
import Derived.Laws.BitsLemmas
import Derived.BigQuiet
set_option linter.unusedVariables false
set_option linter.unusedSimpArgs false
set_option linter.unusedSectionVars false
set_option maxHeartbeats 8000000
set_option maxRecDepth 100000
namespace Go.Proofs.YtjdeemmaaiecnaaGreat
namespace Ph
open Go Go.RowKit
section
variable {P:Program} {ops:Array Oper} {md:Region.Mode} {D:Nat→World→Prop} {cs:List Nat}
def Upto (cs:List Nat) (p:Nat) (L:Array Bool):Prop:=∀ q c,cs[q]?=some c→L.getD c false=decide (q < p)
def Cl (D:Nat→World→Prop) (cs:List Nat) (L:Array Bool) (w:World):Prop:=∃ p,p≤cs.length∧Upto cs p L∧D p w
def upon (P:Program) (C:World→Prop) (w:World) (v:Value):Result Next→Prop
 | .ok (.value u) w'=>w'=w∧u=v∧C w
 | .ok .skip w'=>v=undef∧C w'
 | .ok (.enter f args) w'=>w'=w∧Calls P f args w (fun e w''=>e=.returned v∧C w'')
 | _=>False
def Steps (P:Program) (md:Region.Mode) (ops:Array Oper) (D:Nat→World→Prop) (cs:List Nat) (i:Nat) (o:Oper) (a:Act) (v:Value):Prop :=
 ∀ L w,L.size=ops.size→i ∈ Region.ready md ops L→Cl D cs L w→upon P (Cl D cs (L.setIfInBounds i true)) w v ((execOp a.eval o).run P w)
def Passes (md:Region.Mode) (ops:Array Oper) (D:Nat→World→Prop) (cs:List Nat) (i:Nat):Prop :=
 ∀ L w,L.size=ops.size→i ∈ Region.ready md ops L→Cl D cs L w→Cl D cs (L.setIfInBounds i true) w
def pOp (P:Program) (md:Region.Mode) (ops:Array Oper) (D:Nat→World→Prop) (cs:List Nat) (i:Nat) (K:Act→Prop) (a:Act):Prop :=
 match ops[i]? with
 | none=>False
 | some o=>if Region.wanted o (yielded ops a.tmps) then ∃ v,Steps P md ops D cs i o a v∧K (a.put o.dst v) else Passes md ops D cs i∧K (a.put o.dst undef)
theorem pOp_mono {i:Nat} {a:Act} {K K':Act→Prop} (h:∀ a,K a→K' a) (hh:pOp P md ops D cs i K a):pOp P md ops D cs i K' a:=by
 unfold pOp at *
 split
 ·rename_i ho;simp only [ho] at hh
 ·rename_i o ho
  simp only [ho] at hh
  split
  ·rename_i hw;simp only [hw,if_true] at hh;exact ⟨hh.choose,hh.choose_spec.1,h _ hh.choose_spec.2⟩
  ·rename_i hw;simp only [hw] at hh;exact ⟨hh.1,h _ hh.2⟩
def wpAnyP (P:Program) (md:Region.Mode) (ops:Array Oper) (D:Nat→World→Prop) (cs:List Nat) (Q:Array Bool→Act→Prop):Nat→Array Bool→Act→Prop
 | 0,listed,a=>Region.ready md ops listed=[]∧Q listed a
 | fuel+1,listed,a =>
  Region.ready md ops listed ≠ [] ∧
  ∀ i ∈ Region.ready md ops listed,pOp P md ops D cs i (wpAnyP P md ops D cs Q fuel (listed.setIfInBounds i true)) a
theorem wpAny_of_ph {Q:Array Bool→Act→Prop} {Q':Exit→Act→World→Prop} (hQ:∀ L a w,Cl D cs L w→Q L a→Q' .normal a w):∀ (fuel:Nat) (listed:Array Bool) (a:Act) (w:World),listed.size=ops.size→Cl D cs listed w →
  wpAnyP P md ops D cs Q fuel listed a→wpAny P md ops Q' fuel listed a w
 | 0,_,_,_,_,hw,h=>⟨h.1,hQ _ _ _ hw h.2⟩
 | fuel+1,listed,a,w,hsz,hw,h=>⟨fun h0=>absurd h0 h.1,fun i hi=>by
   have h1:=h.2 i hi
   unfold pOp at h1
   unfold wpOp
   split
   ·rename_i ho;simp only [ho] at h1
   ·rename_i o ho
    simp only [ho] at h1
    split
    ·rename_i hwt
     simp only [hwt,if_true] at h1
     obtain ⟨v,hst,hK⟩:=h1
     refine .inl ?_
     have h2:=hst listed w hsz hi hw
     unfold Oper.wp
     generalize (execOp a.eval o).run P w=r at *
     have hsz':(listed.setIfInBounds i true).size=ops.size:=by simpa using hsz
     cases r with
     | ok n w' =>
      cases n <;> simp only [upon] at h2 <;> simp only [Oper.upon]
      case value u =>
       obtain ⟨rfl,rfl,hC⟩:=h2
       exact wpAny_of_ph hQ fuel _ _ _ hsz' hC hK
      case skip =>
       obtain ⟨rfl,hC⟩:=h2
       exact wpAny_of_ph hQ fuel _ _ _ hsz' hC hK
      case enter f args =>
       obtain ⟨rfl,hc⟩:=h2
       exact hc.mono fun e w'' ⟨he,hC⟩=>by subst he;exact wpAny_of_ph hQ fuel _ _ _ hsz' hC hK
     | halt x w'=>simp only [upon] at h2
    ·rename_i hwt
     simp only [hwt] at h1
     exact wpAny_of_ph hQ fuel _ _ _ (by simpa using hsz) (h1.1 listed w hsz hi hw) h1.2⟩
def YieldsP (P:Program) (md:Region.Mode) (ops:Array Oper) (D:Nat→World→Prop) (cs:List Nat) (i:Nat) (o:Oper) (v:Value) (a:Act):Prop :=
 (Region.wanted o (yielded ops a.tmps)=true∧Steps P md ops D cs i o a v)∨(Region.wanted o (yielded ops a.tmps)=false∧v=undef∧Passes md ops D cs i)
theorem YieldsP.pOp {i:Nat} {o:Oper} {v:Value} {a:Act} (hi:ops[i]?=some o) (hy:YieldsP P md ops D cs i o v a) {K:Act→Prop} (h:K (a.put o.dst v)):pOp P md ops D cs i K a:=by
 unfold Ph.pOp
 simp only [hi]
 rcases hy with ⟨hw,hv⟩ | ⟨hw,rfl,hp⟩
 ·simp only [hw,if_true];exact ⟨v,hv,h⟩
 ·simp only [hw,Bool.false_eq_true,if_false];exact ⟨hp,h⟩
theorem YieldsP.of_same {i:Nat} {o:Oper} {v:Value} {a a':Act} (hy:YieldsP P md ops D cs i o v a) (he:execOp a'.eval o=execOp a.eval o)
  (hw:Region.wanted o (yielded ops a'.tmps)=Region.wanted o (yielded ops a.tmps)):YieldsP P md ops D cs i o v a':=by
 unfold YieldsP Steps at *
 rw [he,hw]
 exact hy
theorem yieldsP_of_pOp {i:Nat} {o:Oper} {a:Act} {K:Act→Prop} (hi:ops[i]?=some o) (h:pOp P md ops D cs i K a):∃ v,YieldsP P md ops D cs i o v a∧K (a.put o.dst v):=by
 unfold pOp at h
 simp only [hi] at h
 by_cases hw:Region.wanted o (yielded ops a.tmps)=true
 ·simp only [hw,if_true] at h
  obtain ⟨v,h1,h2⟩:=h
  exact ⟨v,.inl ⟨hw,h1⟩,h2⟩
 ·simp only [hw] at h
  exact ⟨undef,.inr ⟨by simpa using hw,rfl,h.1⟩,h.2⟩
theorem pOp_put {i j:Nat} {oi oj:Oper} {v:Value} (hj:ops[j]?=some oj) (hap:oi.apart ops oj=true)
  (hsi:∀ cs b,oi.op ≠ .select cs b) (hsj:∀ cs b,oj.op ≠ .select cs b) {K:Act→Prop} {a:Act}
  (hy:YieldsP P md ops D cs i oi v a) (h:pOp P md ops D cs j K (a.put oi.dst v)) :
  pOp P md ops D cs j (fun a'=>YieldsP P md ops D cs i oi v a'∧K (a'.put oi.dst v)) a:=by
 obtain ⟨h1,h2,h3⟩:=Oper.apart_spec hap
 have keep:∀ (a:Act),YieldsP P md ops D cs i oi v a→∀ u,YieldsP P md ops D cs i oi v (a.put oj.dst u):=fun a hy u =>
  hy.of_same (execOp_put oi hsi a oj.dst u h3) (wanted_put oi a oj.dst u h3)
 unfold pOp at *
 simp only [hj] at *
 rw [wanted_put oj a oi.dst v h1] at h
 split
 ·rename_i hw
  simp only [hw,if_true] at h
  obtain ⟨u,hu,hn⟩:=h
  refine ⟨u,?_,keep a hy u,by rw [← Act.put_comm a v u h2];exact hn⟩
  unfold Steps at *
  rwa [execOp_put oj hsj a oi.dst v h1] at hu
 ·rename_i hw
  simp only [hw] at h
  exact ⟨h.1,keep a hy _,by rw [← Act.put_comm a v undef h2];exact h.2⟩
theorem wpAnyP_first {Q:Array Bool→Act→Prop} {i:Nat} {oi:Oper} {v:Value} (hi:ops[i]?=some oi) (hsel:∀ (j:Nat) (o:Oper) cs b,ops[j]?=some o→o.op ≠ .select cs b) :
  ∀ (fuel:Nat) (listed:Array Bool) (a:Act),
   (∀ j oj,ops[j]?=some oj→j ≠ i→listed.getD j true=false→(∀ e ∈ oj.after,Region.binds md e=true→e.on ≠ i)→oi.apart ops oj=true) →
   i ∈ Region.ready md ops listed→YieldsP P md ops D cs i oi v a →
   wpAnyP P md ops D cs Q fuel (listed.setIfInBounds i true) (a.put oi.dst v)→wpAnyP P md ops D cs Q (fuel+1) listed a:=by
 intro fuel
 induction fuel with
 | zero =>
  intro listed a _ hr hy H
  refine ⟨fun h=>(by rw [h] at hr;cases hr),fun j hj=>?_⟩
  by_cases hji:j=i
  ·subst hji;exact hy.pOp hi H
  ·have:=ready_mono hj hji
   rw [H.1] at this
   cases this
 | succ fuel ih =>
  intro listed a hfree hr hy H
  refine ⟨fun h=>(by rw [h] at hr;cases hr),fun j hj=>?_⟩
  by_cases hji:j=i
  ·subst hji;exact hy.pOp hi H
  ·have h1:=H.2 j (ready_mono hj hji)
   obtain ⟨hjun,oj,hoj,hall⟩:=mem_ready.1 hj
   have hnot:∀ e ∈ oj.after,Region.binds md e=true→e.on ≠ i:=fun e he hb heq=>by
    have h1:=hall e he hb
    have h0:=(mem_ready.1 hr).1
    rw [heq] at h1
    rcases Nat.lt_or_ge i listed.size with h' | h'
    ·simp [h'] at h0 h1;rw [h0] at h1;cases h1
    ·simp [Array.getElem?_eq_none h'] at h1
   have h2:=pOp_put hoj (hfree j oj hoj hji hjun hnot) (fun cs b=>hsel i oi cs b hi) (fun cs b=>hsel j oj cs b hoj) hy h1
   have hfree':∀ k ok,ops[k]?=some ok→k ≠ i→(listed.setIfInBounds j true).getD k true=false →
     (∀ e ∈ ok.after,Region.binds md e=true→e.on ≠ i)→oi.apart ops ok=true:=fun k ok hk hki hun hno=>by
    refine hfree k ok hk hki ?_ hno
    by_cases hjk:j=k
    ·subst hjk;exact hjun
    ·rw [getD_set_ne true hjk] at hun;exact hun
   refine pOp_mono (fun a' h3=>ih (listed.setIfInBounds j true) a' hfree' (ready_mono hr (Ne.symm hji)) h3.1 ?_) h2
   rw [Array.setIfInBounds_comm _ _ hji]
   exact h3.2
structure S (D:Nat→World→Prop) where
 ph:Nat
 world:World
 is:D ph world
def Oper.calmUpon (P:Program) (C:World→Prop) (w:World) (v:Value):Result Next→Prop
 | .ok (.value u) w'=>w'=w∧u=v
 | .ok .skip w'=>w'=w∧v=undef
 | .ok (.enter f args) w'=>w'=w∧Calls P f args w (fun e w''=>e=.returned v∧C w'')
 | _=>False
def Oper.calm (P:Program) (o:Oper) (a:Act) (D:Nat→World→Prop) (next:Act→Prop):Prop:=∃ v,(∀ p:S D,Oper.calmUpon P (D p.ph) p.world v ((execOp a.eval o).run P p.world))∧next (a.put o.dst v)
def Oper.linkUpon (P:Program) (C:World→Prop) (w:World) (v:Value):Result Next→Prop
 | .ok .skip w'=>v=undef∧C w'
 | .ok (.enter f args) w'=>w'=w∧Calls P f args w (fun e w''=>e=.returned v∧C w'')
 | _=>False
def Oper.link (P:Program) (o:Oper) (a:Act) (C C':World→Prop) (next:Act→Prop):Prop:=∃ v,(∀ w,C w→Oper.linkUpon P C' w v ((execOp a.eval o).run P w))∧next (a.put o.dst v)
def wpPh (P:Program) (ops:Array Oper) (D:Nat→World→Prop) (cs:List Nat) (Q:Act→Prop):Nat→List Oper→Act→Prop
 | _,[],a=>Q a
 | k,o :: rest,a =>
  match cs.idxOf? k with
  | some p=>Region.wanted o (yielded ops a.tmps)=true∧Oper.link P o a (D p) (D (p+1)) (wpPh P ops D cs Q (k+1) rest)
  | none=>if Region.wanted o (yielded ops a.tmps) then Oper.calm P o a D (wpPh P ops D cs Q (k+1) rest) else wpPh P ops D cs Q (k+1) rest (a.put o.dst undef)
theorem upto_other {p k:Nat} {L:Array Bool} (hk:k ∉ cs) (h:Upto cs p L):Upto cs p (L.setIfInBounds k true):=by
 intro q c hq
 have hne:k ≠ c:=fun e=>hk (by rw [e];exact List.mem_of_getElem? hq)
 rw [getD_set_ne false hne];exact h q c hq
theorem steps_of_calm {k:Nat} {o:Oper} {a:Act} {v:Value} (hk:k ∉ cs) (h:∀ p:S D,Oper.calmUpon P (D p.ph) p.world v ((execOp a.eval o).run P p.world)):Steps P md ops D cs k o a v:=by
 intro L w _ _ ⟨p,hp,hat,hd⟩
 have h1:=h ⟨p,w,hd⟩
 simp only at h1
 generalize (execOp a.eval o).run P w=r at *
 cases r with
 | ok n w' =>
  cases n <;> simp only [Oper.calmUpon] at h1 <;> simp only [upon]
  case value u=>exact ⟨h1.1,h1.2,p,hp,upto_other hk hat,hd⟩
  case skip=>exact ⟨h1.2,p,hp,upto_other hk hat,by rw [h1.1];exact hd⟩
  case enter f args=>exact ⟨h1.1,h1.2.mono fun e w'' ⟨he,hd'⟩=>⟨he,p,hp,upto_other hk hat,hd'⟩⟩
 | halt x w'=>simp only [Oper.calmUpon] at h1
theorem passes_of {k:Nat} (hk:k ∉ cs):Passes md ops D cs k:=fun L w _ _ ⟨p,hp,hat,hd⟩=>⟨p,hp,upto_other hk hat,hd⟩
def chainOk (md:Region.Mode) (ops:Array Oper) (cs:List Nat):Bool :=
 decide cs.Nodup && (List.range cs.length).all fun p=>decide (p=0) || Region.waitsFor md ops (cs.getD p 0) (cs.getD (p - 1) 0)
theorem steps_of_link {k p:Nat} {o:Oper} {a:Act} {v:Value} (hc:chainOk md ops cs=true) (hk:cs[p]?=some k)
  (h:∀ w,D p w→Oper.linkUpon P (D (p+1)) w v ((execOp a.eval o).run P w)):Steps P md ops D cs k o a v:=by
 intro L w hsz hr ⟨p',hp,hat,hd⟩
 simp only [chainOk,Bool.and_eq_true,decide_eq_true_eq] at hc
 obtain ⟨hnd,hall⟩:=hc
 have hpl:p < cs.length:=(List.getElem?_eq_some_iff.1 hk).1
 obtain ⟨hun,ok,hok,hedges⟩:=mem_ready.1 hr
 have hkl:k < L.size:=by rw [hsz];exact (Array.getElem?_eq_some_iff.1 hok).1
 have h1:=hat p k hk
 rw [getD_both hun] at h1
 have h2:¬ p < p':=fun hlt=>by rw [decide_eq_true hlt] at h1;cases h1
 have h3:p≤p':=by
  by_cases h0:p=0
  ·omega
  ·have h4:=List.all_eq_true.1 hall p (List.mem_range.2 hpl)
   simp only [Bool.or_eq_true,decide_eq_true_eq] at h4
   rcases h4 with h4 | h4
   ·omega
   ·rw [List.getD_eq_getElem?_getD,hk,Option.getD_some] at h4
    obtain ⟨oj,hoj,e,he,hb,hon⟩:=Region.waitsFor_spec h4
    have:oj=ok:=Option.some.inj (hoj.symm.trans hok)
    subst this
    have h5:=hedges e he hb
    have h6:cs[p - 1]?=some (cs.getD (p - 1) 0):=by
     rw [List.getD_eq_getElem?_getD,List.getElem?_eq_getElem (show p - 1 < cs.length by omega)];rfl
    have h7:=hat (p - 1) _ h6
    rw [← hon,h5] at h7
    have:=of_decide_eq_true h7.symm
    omega
 obtain rfl:p'=p:=by omega
 have hnew:Upto cs (p'+1) (L.setIfInBounds k true):=by
  intro q c hq
  by_cases hck:k=c
  ·subst hck
   have hqp:q=p':=by
    have hql:q < cs.length:=(List.getElem?_eq_some_iff.1 hq).1
    have e1:cs[q]=cs[p']:=by
     have a1:=List.getElem?_eq_some_iff.1 hq
     have a2:=List.getElem?_eq_some_iff.1 hk
     rw [a1.2,a2.2]
    have h10:=List.pairwise_iff_getElem.1 hnd
    rcases Nat.lt_trichotomy q p' with h11 | h11 | h11
    ·exact absurd e1 (h10 q p' hql hpl h11)
    ·exact h11
    ·exact absurd e1.symm (h10 p' q hpl hql h11)
   subst hqp
   rw [decide_eq_true (by omega)]
   simp [hkl]
  ·rw [getD_set_ne false hck,hat q c hq]
   have hqp:q ≠ p':=fun e=>by subst e;rw [hk] at hq;exact hck (Option.some.inj hq)
   by_cases h8:q < p'
   ·rw [decide_eq_true h8,decide_eq_true (by omega)]
   ·rw [decide_eq_false h8,decide_eq_false (by omega)]
 have h9:=h w hd
 generalize (execOp a.eval o).run P w=r at *
 cases r with
 | ok n w' =>
  cases n <;> simp only [Oper.linkUpon] at h9 <;> simp only [upon]
  case skip=>exact ⟨h9.1,p'+1,by omega,hnew,h9.2⟩
  case enter f args=>exact ⟨h9.1,h9.2.mono fun e w'' ⟨he,hd'⟩=>⟨he,p'+1,by omega,hnew,hd'⟩⟩
 | halt x w'=>simp only [Oper.linkUpon] at h9
def lexFromP (md:Region.Mode) (ops:Array Oper) (cs:List Nat):Nat→Nat→Array Bool→Bool
 | 0,_,listed=>(Region.ready md ops listed).isEmpty && cs.all fun c=>listed.getD c false
 | fuel+1,k,listed=>(Region.ready md ops listed).contains k && Region.free md ops listed k && lexFromP md ops cs fuel (k+1) (listed.setIfInBounds k true)
theorem idxOf_some {k p:Nat} (h:cs.idxOf? k=some p):cs[p]?=some k:=by
 have h1:=List.findIdx?_eq_some_iff_getElem.1 (by simpa [List.idxOf?] using h)
 obtain ⟨hp,h2,_⟩:=h1
 rw [List.getElem?_eq_getElem hp]
 simpa using h2
theorem idxOf_none {k:Nat} (h:cs.idxOf? k=none):k ∉ cs:=by
 intro hm
 have h1:∀ x ∈ cs,¬ x=k:=by simpa [List.idxOf?] using h
 exact h1 k hm rfl
theorem wpAnyP_lex {Q:Act→Prop} (hs:Region.noSelect ops=true) (hc:chainOk md ops cs=true):∀ (l:List Oper) (k:Nat) (listed:Array Bool) (a:Act),(∀ j,l[j]?=ops[k+j]?) →
  lexFromP md ops cs l.length k listed=true→wpPh P ops D cs Q k l a→wpAnyP P md ops D cs (fun L a=>(cs.all fun c=>L.getD c false)=true∧Q a) l.length listed a
 | [],_,_,_,_,hB,h=>by
  simp only [List.length_nil,lexFromP,Bool.and_eq_true] at hB
  exact ⟨by simpa using hB.1,hB.2,h⟩
 | o :: l,k,listed,a,hl,hB,h=>by
  have h0:ops[k]?=some o:=by simpa using (hl 0).symm
  simp only [List.length_cons,lexFromP,Bool.and_eq_true] at hB
  obtain ⟨⟨hr,hf⟩,hB'⟩:=hB
  have hst:pOp P md ops D cs k (wpPh P ops D cs Q (k+1) l) a:=by
   unfold pOp
   simp only [h0]
   unfold wpPh at h
   split at h
   ·rename_i p hp
    obtain ⟨hw,v,h1,h2⟩:=h
    rw [if_pos hw]
    exact ⟨v,steps_of_link hc (idxOf_some hp) h1,h2⟩
   ·rename_i hp
    have hk:=idxOf_none hp
    split
    ·rename_i hw
     rw [if_pos hw] at h
     obtain ⟨v,h1,h2⟩:=h
     exact ⟨v,steps_of_calm hk h1,h2⟩
    ·rename_i hw
     rw [if_neg hw] at h
     exact ⟨passes_of hk,h⟩
  obtain ⟨v,hy,hK⟩:=yieldsP_of_pOp h0 hst
  exact wpAnyP_first h0 (Region.noSelect_spec hs) l.length listed a (Region.free_spec h0 hf) (by simpa using hr) hy
   (wpAnyP_lex hs hc l (k+1) _ _ (fun j=>by have:=hl (j+1);simpa [Nat.add_assoc,Nat.add_comm 1 j] using this) hB' hK)
def okB (md:Region.Mode) (ops:Array Oper) (cs:List Nat):Bool:=Region.noSelect ops && chainOk md ops cs && lexFromP md ops cs ops.size 0 (Array.replicate ops.size false)
theorem wp_region_ph {id:Nat} {Q:Exit→Act→World→Prop} {a:Act} {w:World} {l:List Oper} (D:Nat→World→Prop) (cs:List Nat) (hm:P.follows .mixedOrders=true) (hB:okB .any l.toArray cs=true) (hD:D 0 w.drew)
  (h:wpPh P l.toArray D cs (fun a'=>∀ w',D cs.length w'→Q .normal a' w') 0 l a):(Code.region id l.toArray true).wp P Q a w:=by
 simp only [okB,Bool.and_eq_true] at hB
 obtain ⟨⟨hs,hc⟩,hlex⟩:=hB
 have h1:=wpAnyP_lex (md:=.any) hs hc l 0 (Array.replicate l.toArray.size false) a (by simp) (by simpa using hlex) h
 refine wp_region_any hm ?_
 refine wpAny_of_ph (D:=D) (cs:=cs) (Q:=fun L a=>(cs.all fun c=>L.getD c false)=true∧∀ w',D cs.length w'→Q .normal a w') (fun L a w ⟨p,hp,hat,hd⟩ ⟨hall,hq⟩=>?_) _ _ _ _ (by simp) ⟨0,Nat.zero_le _,fun q c _=>by rw [getD_replicate_false];simp,hD⟩ (by simpa using h1)
 have hpe:p=cs.length:=by
  rcases Nat.lt_or_ge p cs.length with h2 | h2
  ·have h3:=hat p _ (List.getElem?_eq_getElem h2)
   have h4:=List.all_eq_true.1 hall _ (List.getElem_mem h2)
   rw [h4] at h3
   have:=of_decide_eq_true h3.symm
   omega
  ·omega
 subst hpe
 exact hq w hd
theorem wpPh_nil {Q:Act→Prop} {k:Nat} {a:Act} (h:Q a):wpPh P ops D cs Q k [] a:=h
theorem wpPh_calm {Q:Act→Prop} {k:Nat} {a:Act} {o:Oper} {rest:List Oper} (hk:cs.idxOf? k=none)
  (h:∀ K:Act→Prop,(∀ a,wpPh P ops D cs Q (k+1) rest a→K a)→if Region.wanted o (yielded ops a.tmps) then Oper.calm P o a D K else K (a.put o.dst undef)):wpPh P ops D cs Q k (o :: rest) a:=by
 unfold wpPh
 simp only [hk]
 exact h _ fun _ h=>h
end
attribute [go_sem] Oper.calm Oper.calmUpon Oper.link Oper.linkUpon
end Ph
namespace Row
open Go Go.RowKit
open Tab
section
variable {P:Program}
theorem run_loadVar_lies (w:World) (y:Addr) (ty:TypeId) (cs:List Value) (d:TypeDesc) (hc:Lies w y cs) (hu:P.underlying ty=some d) (hd:d.isRow=true) (hi:(P.info? ty).map (·.size)=some cs.length) :
  (loadVar ty y).run P w=.ok (.agg cs.toArray) w:=by
 have hl:(loadCells y cs.length).run P w=.ok cs.toArray w:=run_loadCells_list (P:=P) w y cs (fun j v hv=>hc j v hv)
 cases hq:P.info? ty with
 | none=>simp [hq] at hi
 | some i =>
  have hs:i.size=cs.length:=by simpa [hq] using hi
  have hagg:(isAgg ty).run P w=.ok true w:=by
   unfold isAgg
   rw [Sem.run_bind,run_underlying hu w]
   cases d <;> simp_all
  simp [loadVar,Sem.run_bind,hagg,sizeOf,typeInfo,hq,hs,hl]
theorem wp_load_lies {op:Oper} {a:Act} {w:World} {K:Act→World→Prop} {Q:Exit→Act→World→Prop} (ty:TypeId) (x:Operand) (ho:op.op=.load ty x)
  (y:Addr) (hx:a.eval x=.pointer (some y)) (cs:List Value) (d:TypeDesc) (hc:Lies w y cs) (hu:P.underlying ty=some d) (hd:d.isRow=true) (hi:(P.info? ty).map (·.size)=some cs.length)
  (h:K (a.put op.dst (.agg cs.toArray)) w):op.wp P a w K Q:=by
 unfold Oper.wp execOp
 simp only [ho,hx,Instr.loadAt,Instr.sureAddr,Sem.run_bind,Sem.run_pure,Result.andThen_ok,run_loadVar_lies w y ty cs d hc hu hd hi]
 exact h
theorem wpList_load_lies {ops:Array Oper} {rest:List Oper} {op:Oper} {a:Act} {w:World} {Q:Exit→Act→World→Prop} (hgd:op.guard=none) (ty:TypeId) (x:Operand) (ho:op.op=.load ty x)
  (y:Addr) (hx:a.eval x=.pointer (some y)) (cs:List Value) (d:TypeDesc) (hc:Lies w y cs) (hu:P.underlying ty=some d) (hd:d.isRow=true) (hi:(P.info? ty).map (·.size)=some cs.length)
  (h:wpList P ops Q rest (a.put op.dst (.agg cs.toArray)) w):wpList P ops Q (op :: rest) a w :=
 wpList_plain hgd fun _ hK=>wp_load_lies ty x ho y hx cs d hc hu hd hi (hK _ _ h)
theorem wpList_load_g {ops:Array Oper} {rest:List Oper} {op:Oper} {a:Act} {w:World} {Q:Exit→Act→World→Prop} (ty:TypeId) (x:Operand) (ho:op.op=.load ty x) (hw:Region.wanted op (yielded ops a.tmps)=true)
  (y:Addr) (hx:a.eval x=.pointer (some y)) (cs:List Value) (d:TypeDesc) (hc:Lies w y cs) (hu:P.underlying ty=some d) (hd:d.isRow=true) (hi:(P.info? ty).map (·.size)=some cs.length)
  (h:wpList P ops Q rest (a.put op.dst (.agg cs.toArray)) w):wpList P ops Q (op :: rest) a w :=
 BigFrame.wpList_want hw fun _ hK=>wp_load_lies ty x ho y hx cs d hc hu hd hi (hK _ _ h)
theorem wpList_store_new {ops:Array Oper} {rest:List Oper} {op:Oper} {a:Act} {w:World} {Q:Exit→Act→World→Prop} (hgd:op.guard=none) (ty:TypeId) (x y:Operand) (ho:op.op=.store ty x y)
  (w0:World) (old cells:Array Value) (hw:w=w0.alloc (.cells old ty)) (hx:a.eval x=.pointer (some ⟨w0.heap.size,0,none⟩)) (hy:a.eval y=.agg cells) (hi:(P.info? ty).map (·.size)=some cells.size) (hold:old.size=cells.size) (h1:cells.all (·.oneCell')=true)
  (h:wpList P ops Q rest (a.put op.dst undef) (w0.alloc (.cells cells ty))):wpList P ops Q (op :: rest) a w:=by
 subst hw
 refine wpList_store_row hgd ty x y ho w0.heap.size cells hx hy ty old (heap_alloc_new w0 _) hi hold h1 ?_
 rw [World.setRow_alloc_new]
 exact h
theorem lies_new (w:World) (cs:Array Value) (t:TypeId):Lies (w.alloc (.cells cs t)) ⟨w.heap.size,0,none⟩ cs.toList:=fun j v hv=>by
 rw [Addr.add_mid,cell_of_row _ _ _ _ _ _ (heap_alloc_new w _),Nat.zero_add]
 simpa using hv
theorem lies_of_block {w:World} {g:Nat} {cs:Array Value} {t:TypeId} {fr:Nat × Nat} (hg:w.heap[g]?=some (.cells cs t fr)):Lies w ⟨g,0,none⟩ cs.toList:=fun j v hv=>by
 rw [Addr.add_mid,cell_of_row _ _ _ _ _ _ hg,Nat.zero_add]
 simpa using hv
theorem wpPh_load {D:Nat→World→Prop} {ns:List Nat} {ops:Array Oper} {Q:Act→Prop} {k:Nat} {a:Act} {o:Oper} {rest:List Oper} (hk:ns.idxOf? k=none) (hw:Region.wanted o (yielded ops a.tmps)=true)
  (ty:TypeId) (x:Operand) (ho:o.op=.load ty x) (y:Addr) (hx:a.eval x=.pointer (some y)) (cs:List Value) (d:TypeDesc) (hc:∀ p:Ph.S D,Lies p.world y cs)
  (hu:P.underlying ty=some d) (hd:d.isRow=true) (hi:(P.info? ty).map (·.size)=some cs.length) (h:Ph.wpPh P ops D ns Q (k+1) rest (a.put o.dst (.agg cs.toArray))):Ph.wpPh P ops D ns Q k (o :: rest) a:=by
 refine Ph.wpPh_calm hk fun K hK=>?_
 rw [if_pos hw]
 refine ⟨_,fun p=>?_,hK _ h⟩
 unfold execOp
 simp only [ho,hx,Instr.loadAt,Instr.sureAddr,Sem.run_bind,Sem.run_pure,Result.andThen_ok,run_loadVar_lies p.world y ty cs d (hc p) hu hd hi]
 exact ⟨rfl,rfl⟩
theorem run_eql_op (w:World) {a:Act} {o:Oper} (t:TypeId) (x y:Operand) (t2:TypeId) (ho:o.op=.binOp .eql t x y t2) (xs ys:Array Value) (hx:a.eval x=.agg xs) (hy:a.eval y=.agg ys) (hg:P.eqGuardType P.depth t=false) (b:Bool)
  (he:∀ w,(Op.equalIn 10000 t (.agg xs) (.agg ys)).run P w=.ok b w):(execOp a.eval o).run P w=.ok (.value (.bool b)) w:=by
 unfold execOp
 simp only [ho,hx,hy,Sem.run_bind,run_eqGuard_agg w .eql t x y xs ys hg,Result.andThen_ok,run_eql_struct,he w,Sem.run_pure]
theorem run_neq_op (w:World) {a:Act} {o:Oper} (t:TypeId) (x y:Operand) (t2:TypeId) (ho:o.op=.binOp .neq t x y t2) (xs ys:Array Value) (hx:a.eval x=.agg xs) (hy:a.eval y=.agg ys) (hg:P.eqGuardType P.depth t=false) (b:Bool)
  (he:∀ w,(Op.equalIn 10000 t (.agg xs) (.agg ys)).run P w=.ok b w):(execOp a.eval o).run P w=.ok (.value (.bool (!b))) w:=by
 unfold execOp
 simp only [ho,hx,hy,Sem.run_bind,run_eqGuard_agg w .neq t x y xs ys hg,Result.andThen_ok,run_neq_struct,he w,Sem.run_pure]
theorem wpList_eql {ops:Array Oper} {rest:List Oper} {o:Oper} {a:Act} {w:World} {Q:Exit→Act→World→Prop} (t:TypeId) (x y:Operand) (t2:TypeId) (ho:o.op=.binOp .eql t x y t2) (hw:Region.wanted o (yielded ops a.tmps)=true)
  (xs ys:Array Value) (hx:a.eval x=.agg xs) (hy:a.eval y=.agg ys) (hg:P.eqGuardType P.depth t=false) (b:Bool) (he:∀ w,(Op.equalIn 10000 t (.agg xs) (.agg ys)).run P w=.ok b w)
  (h:wpList P ops Q rest (a.put o.dst (.bool b)) w):wpList P ops Q (o :: rest) a w :=
 BigFrame.wpList_want hw fun _ hK=>by
  unfold Oper.wp
  rw [run_eql_op w t x y t2 ho xs ys hx hy hg b he]
  exact hK _ _ h
theorem wpList_neq {ops:Array Oper} {rest:List Oper} {o:Oper} {a:Act} {w:World} {Q:Exit→Act→World→Prop} (t:TypeId) (x y:Operand) (t2:TypeId) (ho:o.op=.binOp .neq t x y t2) (hw:Region.wanted o (yielded ops a.tmps)=true)
  (xs ys:Array Value) (hx:a.eval x=.agg xs) (hy:a.eval y=.agg ys) (hg:P.eqGuardType P.depth t=false) (b:Bool) (he:∀ w,(Op.equalIn 10000 t (.agg xs) (.agg ys)).run P w=.ok b w)
  (h:wpList P ops Q rest (a.put o.dst (.bool (!b))) w):wpList P ops Q (o :: rest) a w :=
 BigFrame.wpList_want hw fun _ hK=>by
  unfold Oper.wp
  rw [run_neq_op w t x y t2 ho xs ys hx hy hg b he]
  exact hK _ _ h
theorem wpPh_neq {D:Nat→World→Prop} {ns:List Nat} {ops:Array Oper} {Q:Act→Prop} {k:Nat} {a:Act} {o:Oper} {rest:List Oper} (t:TypeId) (x y:Operand) (t2:TypeId) (ho:o.op=.binOp .neq t x y t2) (hk:ns.idxOf? k=none) (hw:Region.wanted o (yielded ops a.tmps)=true)
  (xs ys:Array Value) (hx:a.eval x=.agg xs) (hy:a.eval y=.agg ys) (hg:P.eqGuardType P.depth t=false) (b:Bool) (he:∀ w,(Op.equalIn 10000 t (.agg xs) (.agg ys)).run P w=.ok b w)
  (h:Ph.wpPh P ops D ns Q (k+1) rest (a.put o.dst (.bool (!b)))):Ph.wpPh P ops D ns Q k (o :: rest) a:=by
 refine Ph.wpPh_calm hk fun K hK=>?_
 rw [if_pos hw]
 refine ⟨_,fun p=>?_,hK _ h⟩
 rw [run_neq_op p.world t x y t2 ho xs ys hx hy hg b he]
 exact ⟨rfl,rfl⟩
theorem run_storeAt_at (w:World) (g o:Nat) (t ty:TypeId) (cur cells:Array Value) (hg:w.heap[g]?=some (.cells cur t (0,0))) (hi:(P.info? ty).map (·.size)=some cells.size) (hl:o+cells.size≤cur.size) (h1:cells.all (·.oneCell')=true) :
  (Instr.storeAt ty (.pointer (some ⟨g,o,none⟩)) (.agg cells)).run P w=.ok () (w.setRow g (cur.toList.take o++cells.toList++cur.toList.drop (o+cells.size)).toArray):=by
 have:=run_storeCells_at P g o t cells.toList 0 cur w hg (by simpa using hl) (fun v hv=>(Array.all_eq_true_iff_forall_mem.1 h1) v (by simpa using hv))
 cases hq:P.info? ty with
 | none=>simp [hq] at hi
 | some i =>
  have hs:cells.size=i.size:=by simp [hq] at hi;omega
  simp only [Nat.add_zero,Array.length_toList] at this
  simp [Instr.storeAt,Instr.sureAddr,storeVar,sizeOf,typeInfo,hq,Value.cells,hs]
  rw [← hs]
  simpa using this
abbrev Old (w:World):Nat→World→Prop:=fun _ w'=>Below w.heap.size w w'
theorem Old.call {w:World} {f:FuncId} {args:Array Value} {v:Value} {p:Ph.S (Old w)} (h:Calls P f args p.world fun e w''=>e=.returned v∧Below p.world.heap.size p.world w'') :
  Calls P f args p.world fun e w''=>e=.returned v∧Old w p.ph w'' :=
 h.mono fun _ _ ⟨he,hb⟩=>⟨he,Below.trans p.is (hb.mono p.is.size)⟩
theorem Old.pure {w:World} {f:FuncId} {args:Array Value} {v:Value} {p:Ph.S (Old w)} (h:Calls P f args p.world fun e w''=>e=.returned v∧p.world=w'') :
  Calls P f args p.world fun e w''=>e=.returned v∧Old w p.ph w'' :=
 h.mono fun _ _ ⟨he,hb⟩=>⟨he,hb ▸ p.is⟩
theorem Old.drew (w:World):Old w 0 w.drew:=(Below.refl _ _).drew
end
end Row
namespace Held
open Go Go.RowKit
open Tab
section
variable {P:Program} {ops:Array Oper} {Q:Exit→Act→World→Prop} {md:Region.Mode} {S:World→Prop}
theorem take {i:Nat} {oi:Oper} (d0:Option Tmp) (hd0:oi.dst=d0) {fuel:Nat} {listed:Array Bool} {a:Act} {w:World} {v:Value} (hi:ops[i]?=some oi) (hs:Region.noSelect ops=true) (hf:Region.free md ops listed i=true) (hr:(Region.ready md ops listed).contains i=true)
  (hQ:∀ c a w,Q (.panic c) (a.put d0 v) w→Q (.panic c) a w) (hy:YieldsIf P ops S oi v a) (hS:S w)
  (h:wpAnyH P md ops Q S fuel (listed.setIfInBounds i true) (a.put d0 v) w):wpAnyH P md ops Q S (fuel+1) listed a w :=
 by
 subst hd0
 exact wpAnyH_take hi hs hf hr hQ hy hS h
theorem take_load {i:Nat} {oi:Oper} (d0:Option Tmp) (hd0:oi.dst=d0) {fuel:Nat} {listed:Array Bool} {a:Act} {w:World} (ty:TypeId) (x:Operand) (y:Addr) (cs:List Value) (d:TypeDesc) (hi:ops[i]?=some oi) (ho:oi.op=.load ty x) (hs:Region.noSelect ops=true) (hf:Region.free md ops listed i=true) (hr:(Region.ready md ops listed).contains i=true)
  (hQ:∀ c a w,Q (.panic c) (a.put d0 (.agg cs.toArray)) w→Q (.panic c) a w) (hw:Region.wanted oi (yielded ops a.tmps)=true) (hS:S w) (hx:a.eval x=.pointer (some y)) (hc:∀ w,S w→Lies w y cs) (hu:P.underlying ty=some d) (hd:d.isRow=true) (hz:(P.info? ty).map (·.size)=some cs.length)
  (h:wpAnyH P md ops Q S fuel (listed.setIfInBounds i true) (a.put d0 (.agg cs.toArray)) w):wpAnyH P md ops Q S (fuel+1) listed a w :=
 by
 subst hd0
 exact wpAnyH_take hi hs hf hr hQ (.inl ⟨hw,fun w' hw'=>by
  unfold execOp
  simp only [ho,hx,Instr.loadAt,Instr.sureAddr,Sem.run_bind,Sem.run_pure,Result.andThen_ok,Row.run_loadVar_lies w' y ty cs d (hc w' hw') hu hd hz]⟩) hS h
theorem take_build {i:Nat} {oi:Oper} (d0:Option Tmp) (hd0:oi.dst=d0) {fuel:Nat} {listed:Array Bool} {a:Act} {w:World} (t:TypeId) (parts:Array (Nat × Operand)) (cells:Array Value) (hi:ops[i]?=some oi) (ho:oi.op=.build t parts) (hs:Region.noSelect ops=true) (hf:Region.free md ops listed i=true) (hr:(Region.ready md ops listed).contains i=true)
  (hQ:∀ c a w,Q (.panic c) (a.put d0 (.agg cells)) w→Q (.panic c) a w) (hw:Region.wanted oi (yielded ops a.tmps)=true) (hS:S w) (hb:P.built t (parts.map fun (i,x)=>(i,a.eval x)).toList=some cells)
  (h:wpAnyH P md ops Q S fuel (listed.setIfInBounds i true) (a.put d0 (.agg cells)) w):wpAnyH P md ops Q S (fuel+1) listed a w :=
 by
 subst hd0
 exact wpAnyH_take hi hs hf hr hQ (.inl ⟨hw,fun w' _=>by
  unfold execOp
  simp only [ho,Sem.run_bind,run_build w' t _ _ hb,Result.andThen_ok,Sem.run_pure]⟩) hS h
theorem wpList_build1 {rest:List Oper} {o:Oper} {a:Act} {w:World} (hgd:o.guard=none) (t:TypeId) (k:Nat) (x:Operand) (ho:o.op=.build t #[(k,x)]) (v:Value) (hv:a.eval x=v) (cells:Array Value) (hb:P.built t [(k,v)]=some cells)
  (h:wpList P ops Q rest (a.put o.dst (.agg cells)) w):wpList P ops Q (o :: rest) a w :=
 wpList_plain hgd fun _ hK=>by
  subst hv
  unfold Oper.wp execOp
  have hb':P.built t ((#[(k,x)]:Array (Nat × Operand)).map fun (i,x)=>(i,a.eval x)).toList=some cells:=by simpa using hb
  simp only [ho,Sem.run_bind,run_build w t _ _ hb',Result.andThen_ok,Sem.run_pure]
  exact hK _ _ h
end
end Held
namespace Po
open Go Go.RowKit
open Tab
open Go.Proofs.YtjdeemmaaiecnaaGreat.B (Own vals vals_len vals_at own_row own_nil info5)
theorem wp_more {o:Oper} {a:Act} {w:World} {K:Act→World→Prop} {Q:Exit→Act→World→Prop} (s x:Operand) (ho:o.op=.call { callee:=.builtin .append,args:=#[s,x],argTypes:=#[22,22] })
  (B B2:Nat) (v v2:Value) (l m:List Nat) (hs:a.eval s=v) (hown:Own B w v l) (hx:a.eval x=v2) (hm:Own B2 w v2 m) (hm8:∀ y ∈ m,y < 256)
  (hB:B≤w.heap.size) (hlen:l.length+m.length≤100000) (h:∀ v' w',Own B w' v' (l++m)→w.grownBy w' v.ownBlock→K (a.put o.dst v') w'):o.wp Tryz.prog a w K Q:=by
 obtain ⟨i0,hi,hz0,hz1,hz2⟩:=info_parts info5
 rcases hm.2 with ⟨rfl,h0⟩ | ⟨g,cap,cur,rfl,h1,h2,h3,h4,h5,h6⟩
 ·have hm0:m=[]:=List.eq_nil_of_length_eq_zero h0
  subst hm0
  have hrun:=run_append_owned_none (P:=Tryz.prog) (w:=w) B 22 o.type 5 i0 1 Tryz.underlying22 hi v l.length (vals l) hown
  unfold Oper.wp
  simp [execOp,ho,resolve,invoke,builtin,hs,hx,hrun,Result.andThen]
  refine h v w ?_ ⟨rfl,rfl,rfl,Nat.le_refl _,fun _ _ _=>rfl⟩
  rw [List.append_nil];exact hown
 ·refine wp_append_own w s x 22 ho B 5 i0 (.int .u8 0) 1 1 Tryz.underlying22 hi hz0 hz1 hz2 rfl (by decide) v l.length (vals l) hs hown ⟨g,0,none⟩ m.length cap (vals m) hx (by rw [vals_len,Nat.mul_one]) ?_ ?_ (by unfold maxLen;omega) (by omega) hB ?_
  ·intro j u hj
   exact hm.cells (g:=g) rfl j u hj
  ·intro u hu
   obtain ⟨n,_,rfl⟩:=List.mem_map.1 hu
   rfl
  ·intro v' w' hown' hg _
   refine h v' w' ?_ hg
   unfold Own
   rw [List.length_append,show vals (l++m)=vals l++vals m from List.map_append ..]
   exact hown'
theorem wfin {B wb b k:Nat} {l m:List Nat} {val v':Value} {W v w':World} (h1:Below W.heap.size W v) (hB:B≤W.heap.size) (hwb:B≤wb) (hv:v.heap[wb]?=some (.cells #[val] 92 (0,0))) (ho:Own B v val l)
  (hg:v.grownBy w' val.ownBlock) (ho':Own B w' v' (l++m)) (hlen:(l++m).length+8*k≤50000) :
  w'.heap[wb]?=some (.cells #[val] 92 (0,0))∧WR B wb (l++m,k) (w'.setRow wb #[v'])∧Mv B b W (w'.setRow wb #[v']) ∧
   ∀ (j:Nat) (cs:Array Value) (t:TypeId) (fr:Nat × Nat),W.heap[j]?=some (.cells cs t fr)→j < B∨¬ Pt t→(w'.setRow wb #[v']).heap[j]?=some (.cells cs t fr):=by
 have hne:some wb ≠ val.ownBlock:=by
  intro e
  rcases ho.2 with ⟨rfl,_⟩ | ⟨g,cap,cur,rfl,_,h3,_⟩
  ·cases e
  ·cases e
   rw [hv] at h3
   cases h3
 have hw:=(hg.block wb (Array.getElem?_eq_some_iff.1 hv).1 hne).trans hv
 have keep:∀ (j:Nat) (cs:Array Value) (t:TypeId) (fr:Nat × Nat),W.heap[j]?=some (.cells cs t fr)→j < B∨¬ Pt t→(w'.setRow wb #[v']).heap[j]?=some (.cells cs t fr):=by
  intro j cs t fr hj ht
  have hj1:=(h1.block j (Array.getElem?_eq_some_iff.1 hj).1).trans hj
  have hjb:some j ≠ val.ownBlock:=by
   intro e
   rcases ho.2 with ⟨rfl,_⟩ | ⟨g,cap,cur,rfl,h2,h3,_⟩
   ·cases e
   ·obtain rfl:j=g:=by simpa [Value.ownBlock] using e
    rw [hj1] at h3
    cases h3
    rcases ht with ht | ht
    ·omega
    ·exact ht (.inl rfl)
  have hjw:j ≠ wb:=by
   intro e
   subst e
   rw [hj1] at hv
   cases hv
   rcases ht with ht | ht
   ·omega
   ·exact ht (by decide)
  rw [setRow_other _ _ _ _ hjw]
  exact (hg.block j (Array.getElem?_eq_some_iff.1 hj1).1 hjb).trans hj1
 have hbl:Below B W w':=(h1.mono hB).grown hg (Nat.le_trans hB h1.size) (fun q hq=>(ho.lt q hq).1)
 refine ⟨hw,⟨hlen,hwb,v',setRow_heap _ _ _ _ _ _ hw,?_⟩,⟨below_setRow hbl hwb _,fun j cs t fr hj ht _=>(keep j cs t fr hj (.inr ht)).trans hj.symm⟩,keep⟩
 refine ⟨ho'.1,?_⟩
 rcases ho'.2 with h5 | ⟨g,cap,cur,h5,h6,h7,h8⟩
 ·exact .inl h5
 ·refine .inr ⟨g,cap,cur,h5,h6,?_,h8⟩
  rw [setRow_other _ _ _ _ (fun e=>by subst e;rw [hw] at h7;cases h7)]
  exact h7
theorem set_same {l:List Value} {j:Nat} {v:Value} (h:l[j]?=some v):l.set j v=l:=by
 obtain ⟨h1,h2⟩:=List.getElem?_eq_some_iff.1 h
 rw [show v=l[j] from h2.symm,List.set_getElem_self]
theorem wnumber {B wb:Nat} (s:List Nat × Nat) (W:World) (b o:Nat) (cs:Array Value) (t:TypeId) (fr:Nat × Nat) (l:List Value) (size most:Int) (j:Nat) (x:Int) (hR:WR B wb s W) (hB:B≤W.heap.size) (ht:b < B∨¬ Pt t) (hl:o+l.length≤cs.size) (hb:W.heap[b]?=some (.cells (wrt cs o l) t fr)) (hx:l[j]?=some (I x)) (hfit:Fit (Sp.run WP l s (.num size most j))) :
  Calls Tryz.prog 158 #[.pointer (some ⟨wb,0,none⟩),.int .i64 size,.int .i64 most,.pointer (some ⟨b,o+j,none⟩)] W (Ends WP (WR B wb) B b o cs t fr (Sp.run WP l s (.num size most j)) W):=by
 obtain ⟨bs,k0⟩:=s
 obtain ⟨h1,h2,val,h3,h4⟩:=hR
 cases k0 with
 | zero=>exact absurd (show Sp.run WP l (bs,0) (.num size most j)=.error mark by simp only [Sp.run,hx];rfl) hfit
 | succ k =>
 have hrun:Sp.run WP l (bs,k+1) (.num size most j)=.ok (l,(bs++Put.low (Put.lim size 8) x,k)):=by
  simp only [Sp.run,hx]
  exact congrArg (fun z=>Except.ok (z,(bs++Put.low (Put.lim size 8) x,k))) (set_same hx)
 have HRUN:=Lib.hid hrun
 have hj:j < l.length:=(List.getElem?_eq_some_iff.1 hx).1
 have cn:W.cell? ⟨b,o+j,none⟩=some (I x):=by rw [cell_of_row _ _ _ _ _ _ hb,wrt_at hl hj];exact hx
 have cw:W.cell? ⟨wb,0,none⟩=some val:=by rw [cell_of_row _ _ _ _ _ _ h3];rfl
 have HW:=Lib.hid h3
 have HO:=Lib.hid h4
 have HB:=Lib.hid hb
 have HT:=Lib.hid ht
 have ML:Hid ((Put.low (Put.lim size 8) x).length≤8∧∀ y ∈ Put.low (Put.lim size 8) x,y < 256):=Lib.hid ⟨by rw [Put.low_len];exact Put.lim_le _ _,fun y hy=>Put.low_lt _ _ y hy⟩
 have HL:Hid (bs.length+8*(k+1)≤50000):=Lib.hid h1
 have CL:Hid (∀ V,Calls Tryz.prog 43 #[.slice none 0 0,.int .i64 size,.int .i64 x] V fun e w'=>∃ v2,e=.returned v2∧Own V.heap.size w' v2 (Put.low (Put.lim size 8) x)∧Below V.heap.size V w'):=Lib.hid (fun V=>by have:=Put.put_any none 0 [] size x V (Go.Proofs.YtjdeemmaaiecnaaGreat.B.row_nil _ _ _ rfl) (by simp);exact this)
 have CN:Hid (∀ V,Below W.heap.size W V→V.cell? ⟨b,o+j,none⟩=some (I x)):=Lib.hid (fun V hv=>(hv.cell (World.block_lt_of_cell? W _ cn)).trans cn)
 have CW:Hid (∀ V,Below W.heap.size W V→V.cell? ⟨wb,0,none⟩=some val):=Lib.hid (fun V hv=>(hv.cell (World.block_lt_of_cell? W _ cw)).trans cw)
 generalize Put.low (Put.lim size 8) x=m at ML CL HRUN
 generalize hres:Sp.run WP l (bs,k+1) (.num size most j)=res at HRUN ⊢
 clear hres hrun h1 h3 h4 hb ht hx hfit hl hj cn cw
 go_enter Tryz.func158,Tryz.ntmps158
 refine wp_region_held (S:=fun _=>True) (by kernel_rfl) ?_
 have hS:True:=trivial
 have hv:Below W.heap.size W { W with drawn:=W.drawn+1 }:=(Below.refl _ _).drew
 generalize ({ W with drawn:=W.drawn+1 }:World)=v at hv ⊢
 refine Held.take (i:=0) (some 8) rfl (v:=?_) rfl (by kernel_rfl) (by kernel_rfl) (by kernel_rfl) (fun _ _ _ h=>h) (Or.inl ⟨by rfl,?_⟩) hS ?_
 rotate_left
 ·intro w' hw'
  go_simp
  try with_reducible rfl
 (try dsimp only [Act.put]);(try simp only [List.setIfInBounds_toArray,List.set_cons_zero,List.set_cons_succ])
 refine Held.take (i:=1) (some 9) rfl (v:=?_) rfl (by kernel_rfl) (by kernel_rfl) (by kernel_rfl) (fun _ _ _ h=>h) (Or.inl ⟨by rfl,?_⟩) hS ?_
 rotate_left
 ·intro w' hw'
  go_simp
  try with_reducible rfl
 (try dsimp only [Act.put]);(try simp only [List.setIfInBounds_toArray,List.set_cons_zero,List.set_cons_succ])
 refine Held.take (i:=2) (some 10) rfl (v:=?_) rfl (by kernel_rfl) (by kernel_rfl) (by kernel_rfl) (fun _ _ _ h=>h) (Or.inl ⟨by rfl,?_⟩) hS ?_
 rotate_left
 ·intro w' hw'
  go_simp
  try with_reducible rfl
 (try dsimp only [Act.put]);(try simp only [List.setIfInBounds_toArray,List.set_cons_zero,List.set_cons_succ])
 refine Held.take (i:=3) (some 11) rfl (v:=?_) rfl (by kernel_rfl) (by kernel_rfl) (by kernel_rfl) (fun _ _ _ h=>h) (Or.inl ⟨by rfl,?_⟩) hS ?_
 rotate_left
 ·intro w' hw'
  go_simp
  try with_reducible rfl
 (try dsimp only [Act.put]);(try simp only [List.setIfInBounds_toArray,List.set_cons_zero,List.set_cons_succ])
 refine Held.take (i:=5) (some 13) rfl (v:=?_) rfl (by kernel_rfl) (by kernel_rfl) (by kernel_rfl) (fun _ _ _ h=>h) (Or.inl ⟨by rfl,?_⟩) hS ?_
 rotate_left
 ·intro w' hw'
  go_simp
  try with_reducible rfl
 (try dsimp only [Act.put]);(try simp only [List.setIfInBounds_toArray,List.set_cons_zero,List.set_cons_succ])
 refine Held.take (i:=6) (some 14) rfl (v:=?_) rfl (by kernel_rfl) (by kernel_rfl) (by kernel_rfl) (fun _ _ _ h=>h) (Or.inl ⟨by rfl,?_⟩) hS ?_
 rotate_left
 ·intro w' hw'
  go_simp
  try with_reducible rfl
 (try dsimp only [Act.put]);(try simp only [List.setIfInBounds_toArray,List.set_cons_zero,List.set_cons_succ])
 refine Held.take (i:=7) (some 15) rfl (v:=?_) rfl (by kernel_rfl) (by kernel_rfl) (by kernel_rfl) (fun _ _ _ h=>h) (Or.inl ⟨by rfl,?_⟩) hS ?_
 rotate_left
 ·intro w' hw'
  go_simp
  try with_reducible rfl
 (try dsimp only [Act.put]);(try simp only [List.setIfInBounds_toArray,List.set_cons_zero,List.set_cons_succ])
 refine wpAnyH_ready (rs:=[4,8]) (by kernel_rfl) (by simp) (AllReadyH.cons rfl (fun K hK=>?_) (AllReadyH.cons rfl (fun K hK=>?_) AllReadyH.nil))
 ·have c4:=CW.out v hv
  go_simp
  refine hK.out _ _ trivial (fun _=>?_)
  clear hK K
  (try dsimp only [Act.put]);(try simp only [List.setIfInBounds_toArray,List.set_cons_zero,List.set_cons_succ])
  clear c4
  refine wpAnyH_ready (rs:=[8]) (by kernel_rfl) (by simp) (AllReadyH.cons rfl (fun K hK=>?_) AllReadyH.nil)
  have c8:=CN.out v hv
  go_simp
  refine hK.out _ _ trivial (fun _=>?_)
  clear hK K
  (try dsimp only [Act.put]);(try simp only [List.setIfInBounds_toArray,List.set_cons_zero,List.set_cons_succ])
  clear c8
  refine wpAnyH_ready (rs:=[9]) (by kernel_rfl) (by simp) (AllReadyH.cons rfl (fun K hK=>?_) AllReadyH.nil)
  go_simp
  refine (CL.out v).mono ?_
  rintro e v1 ⟨v2,rfl,hm,hb⟩
  have hv1:=hv.trans (hb.mono hv.size)
  have hm2:Hid (∀ V,Below v1.heap.size v1 V→Own v.heap.size V v2 m):=Lib.hid (fun V hV=>Go.Proofs.YtjdeemmaaiecnaaGreat.B.own_below hm hV)
  have HM:=Lib.hid hm
  clear hv hb hm hm2
  rename World=>v
  have hv:=hv1
  clear hv1
  go_simp
  refine hK.out _ _ trivial (fun _=>?_)
  clear hK K
  (try dsimp only [Act.put]);(try simp only [List.setIfInBounds_toArray,List.set_cons_zero,List.set_cons_succ])
  refine wpAnyH_ready (rs:=[10]) (by kernel_rfl) (by simp) (AllReadyH.cons rfl (fun K hK=>?_) AllReadyH.nil)
  rw [if_pos (by rfl)]
  have how:Own B v val bs:=Go.Proofs.YtjdeemmaaiecnaaGreat.B.own_below HO.out hv
  refine wp_more _ _ rfl B _ val _ bs m rfl how rfl HM.out ML.out.2 (Nat.le_trans hB hv.size) (by have:=HL.out;have:=ML.out.1;omega) ?_
  intro v' w' ho' hg
  obtain ⟨sa,sn,sc,rfl⟩:∃ a n c,v'=.slice a n c:=by rcases ho'.2 with ⟨rfl,_⟩ | ⟨g,cap,cur,rfl,_⟩ <;> exact ⟨_,_,_,rfl⟩
  obtain ⟨f1,f2,f3,f4⟩:=wfin (b:=b) (k:=k) hv hB h2 ((hv.block wb (Array.getElem?_eq_some_iff.1 HW.out).1).trans HW.out) how hg ho' (by rw [List.length_append];have:=HL.out;have:=ML.out.1;omega)
  have F1:=Lib.hid f1
  have F2:=Lib.hid f2
  have F3:=Lib.hid f3
  have F4:=Lib.hid (f4 b _ _ _ HB.out HT.out)
  clear f1 f2 f3 f4 how ho' hg
  refine hK.out _ _ trivial (fun _=>?_)
  clear hK K
  (try dsimp only [Act.put]);(try simp only [List.setIfInBounds_toArray,List.set_cons_zero,List.set_cons_succ])
  have hS:True:=trivial
  refine Held.take (i:=11) (some 19) rfl (v:=?_) rfl (by kernel_rfl) (by kernel_rfl) (by kernel_rfl) (fun _ _ _ h=>h) (Or.inl ⟨by rfl,?_⟩) hS ?_
  rotate_left
  ·intro w' hw'
   go_simp
   try with_reducible rfl
  (try dsimp only [Act.put]);(try simp only [List.setIfInBounds_toArray,List.set_cons_zero,List.set_cons_succ])
  refine Held.take (i:=12) (some 20) rfl (v:=?_) rfl (by kernel_rfl) (by kernel_rfl) (by kernel_rfl) (fun _ _ _ h=>h) (Or.inl ⟨by rfl,?_⟩) hS ?_
  rotate_left
  ·intro w' hw'
   go_simp
   try with_reducible rfl
  (try dsimp only [Act.put]);(try simp only [List.setIfInBounds_toArray,List.set_cons_zero,List.set_cons_succ])
  refine wpAnyH_ready (rs:=[13]) (by kernel_rfl) (by simp) (AllReadyH.cons rfl (fun K hK=>?_) AllReadyH.nil)
  have c5:w'.cell? ⟨wb,0,none⟩=some val:=by rw [cell_of_row _ _ _ _ _ _ F1.out];rfl
  have f5:w'.frozen? ⟨wb,0,none⟩=false:=frozen_of_row _ _ _ _ _ F1.out
  go_simp
  refine hK.out _ _ trivial (fun _=>?_)
  clear hK K
  (try dsimp only [Act.put]);(try simp only [List.setIfInBounds_toArray,List.set_cons_zero,List.set_cons_succ])
  rw [setCell_eq_setRow w' wb 0 #[val] 92 (0,0) _ F1.out]
  refine wpAnyH_done (by kernel_rfl) ?_ _
  (try simp only [List.getElem_toArray,List.getElem_cons_succ,List.getElem_cons_zero])
  go_wp2
  go_end0
  rw [HRUN.out]
  exact ⟨rfl,F2.out,F3.out,F4.out⟩
 ·have c8:=CN.out v hv
  go_simp
  refine hK.out _ _ trivial (fun _=>?_)
  clear hK K
  (try dsimp only [Act.put]);(try simp only [List.setIfInBounds_toArray,List.set_cons_zero,List.set_cons_succ])
  clear c8
  refine wpAnyH_ready (rs:=[4,9]) (by kernel_rfl) (by simp) (AllReadyH.cons rfl (fun K hK=>?_) (AllReadyH.cons rfl (fun K hK=>?_) AllReadyH.nil))
  ·have c4:=CW.out v hv
   go_simp
   refine hK.out _ _ trivial (fun _=>?_)
   clear hK K
   (try dsimp only [Act.put]);(try simp only [List.setIfInBounds_toArray,List.set_cons_zero,List.set_cons_succ])
   clear c4
   refine wpAnyH_ready (rs:=[9]) (by kernel_rfl) (by simp) (AllReadyH.cons rfl (fun K hK=>?_) AllReadyH.nil)
   go_simp
   refine (CL.out v).mono ?_
   rintro e v1 ⟨v2,rfl,hm,hb⟩
   have hv1:=hv.trans (hb.mono hv.size)
   have hm2:Hid (∀ V,Below v1.heap.size v1 V→Own v.heap.size V v2 m):=Lib.hid (fun V hV=>Go.Proofs.YtjdeemmaaiecnaaGreat.B.own_below hm hV)
   have HM:=Lib.hid hm
   clear hv hb hm hm2
   rename World=>v
   have hv:=hv1
   clear hv1
   go_simp
   refine hK.out _ _ trivial (fun _=>?_)
   clear hK K
   (try dsimp only [Act.put]);(try simp only [List.setIfInBounds_toArray,List.set_cons_zero,List.set_cons_succ])
   refine wpAnyH_ready (rs:=[10]) (by kernel_rfl) (by simp) (AllReadyH.cons rfl (fun K hK=>?_) AllReadyH.nil)
   rw [if_pos (by rfl)]
   have how:Own B v val bs:=Go.Proofs.YtjdeemmaaiecnaaGreat.B.own_below HO.out hv
   refine wp_more _ _ rfl B _ val _ bs m rfl how rfl HM.out ML.out.2 (Nat.le_trans hB hv.size) (by have:=HL.out;have:=ML.out.1;omega) ?_
   intro v' w' ho' hg
   obtain ⟨sa,sn,sc,rfl⟩:∃ a n c,v'=.slice a n c:=by rcases ho'.2 with ⟨rfl,_⟩ | ⟨g,cap,cur,rfl,_⟩ <;> exact ⟨_,_,_,rfl⟩
   obtain ⟨f1,f2,f3,f4⟩:=wfin (b:=b) (k:=k) hv hB h2 ((hv.block wb (Array.getElem?_eq_some_iff.1 HW.out).1).trans HW.out) how hg ho' (by rw [List.length_append];have:=HL.out;have:=ML.out.1;omega)
   have F1:=Lib.hid f1
   have F2:=Lib.hid f2
   have F3:=Lib.hid f3
   have F4:=Lib.hid (f4 b _ _ _ HB.out HT.out)
   clear f1 f2 f3 f4 how ho' hg
   refine hK.out _ _ trivial (fun _=>?_)
   clear hK K
   (try dsimp only [Act.put]);(try simp only [List.setIfInBounds_toArray,List.set_cons_zero,List.set_cons_succ])
   have hS:True:=trivial
   refine Held.take (i:=11) (some 19) rfl (v:=?_) rfl (by kernel_rfl) (by kernel_rfl) (by kernel_rfl) (fun _ _ _ h=>h) (Or.inl ⟨by rfl,?_⟩) hS ?_
   rotate_left
   ·intro w' hw'
    go_simp
    try with_reducible rfl
   (try dsimp only [Act.put]);(try simp only [List.setIfInBounds_toArray,List.set_cons_zero,List.set_cons_succ])
   refine Held.take (i:=12) (some 20) rfl (v:=?_) rfl (by kernel_rfl) (by kernel_rfl) (by kernel_rfl) (fun _ _ _ h=>h) (Or.inl ⟨by rfl,?_⟩) hS ?_
   rotate_left
   ·intro w' hw'
    go_simp
    try with_reducible rfl
   (try dsimp only [Act.put]);(try simp only [List.setIfInBounds_toArray,List.set_cons_zero,List.set_cons_succ])
   refine wpAnyH_ready (rs:=[13]) (by kernel_rfl) (by simp) (AllReadyH.cons rfl (fun K hK=>?_) AllReadyH.nil)
   have c5:w'.cell? ⟨wb,0,none⟩=some val:=by rw [cell_of_row _ _ _ _ _ _ F1.out];rfl
   have f5:w'.frozen? ⟨wb,0,none⟩=false:=frozen_of_row _ _ _ _ _ F1.out
   go_simp
   refine hK.out _ _ trivial (fun _=>?_)
   clear hK K
   (try dsimp only [Act.put]);(try simp only [List.setIfInBounds_toArray,List.set_cons_zero,List.set_cons_succ])
   rw [setCell_eq_setRow w' wb 0 #[val] 92 (0,0) _ F1.out]
   refine wpAnyH_done (by kernel_rfl) ?_ _
   (try simp only [List.getElem_toArray,List.getElem_cons_succ,List.getElem_cons_zero])
   go_wp2
   go_end0
   rw [HRUN.out]
   exact ⟨rfl,F2.out,F3.out,F4.out⟩
  ·go_simp
   refine (CL.out v).mono ?_
   rintro e v1 ⟨v2,rfl,hm,hb⟩
   have hv1:=hv.trans (hb.mono hv.size)
   have hm2:Hid (∀ V,Below v1.heap.size v1 V→Own v.heap.size V v2 m):=Lib.hid (fun V hV=>Go.Proofs.YtjdeemmaaiecnaaGreat.B.own_below hm hV)
   have HM:=Lib.hid hm
   clear hv hb hm hm2
   rename World=>v
   have hv:=hv1
   clear hv1
   go_simp
   refine hK.out _ _ trivial (fun _=>?_)
   clear hK K
   (try dsimp only [Act.put]);(try simp only [List.setIfInBounds_toArray,List.set_cons_zero,List.set_cons_succ])
   refine wpAnyH_ready (rs:=[4]) (by kernel_rfl) (by simp) (AllReadyH.cons rfl (fun K hK=>?_) AllReadyH.nil)
   have c4:=CW.out v hv
   go_simp
   refine hK.out _ _ trivial (fun _=>?_)
   clear hK K
   (try dsimp only [Act.put]);(try simp only [List.setIfInBounds_toArray,List.set_cons_zero,List.set_cons_succ])
   clear c4
   refine wpAnyH_ready (rs:=[10]) (by kernel_rfl) (by simp) (AllReadyH.cons rfl (fun K hK=>?_) AllReadyH.nil)
   rw [if_pos (by rfl)]
   have how:Own B v val bs:=Go.Proofs.YtjdeemmaaiecnaaGreat.B.own_below HO.out hv
   refine wp_more _ _ rfl B _ val _ bs m rfl how rfl HM.out ML.out.2 (Nat.le_trans hB hv.size) (by have:=HL.out;have:=ML.out.1;omega) ?_
   intro v' w' ho' hg
   obtain ⟨sa,sn,sc,rfl⟩:∃ a n c,v'=.slice a n c:=by rcases ho'.2 with ⟨rfl,_⟩ | ⟨g,cap,cur,rfl,_⟩ <;> exact ⟨_,_,_,rfl⟩
   obtain ⟨f1,f2,f3,f4⟩:=wfin (b:=b) (k:=k) hv hB h2 ((hv.block wb (Array.getElem?_eq_some_iff.1 HW.out).1).trans HW.out) how hg ho' (by rw [List.length_append];have:=HL.out;have:=ML.out.1;omega)
   have F1:=Lib.hid f1
   have F2:=Lib.hid f2
   have F3:=Lib.hid f3
   have F4:=Lib.hid (f4 b _ _ _ HB.out HT.out)
   clear f1 f2 f3 f4 how ho' hg
   refine hK.out _ _ trivial (fun _=>?_)
   clear hK K
   (try dsimp only [Act.put]);(try simp only [List.setIfInBounds_toArray,List.set_cons_zero,List.set_cons_succ])
   have hS:True:=trivial
   refine Held.take (i:=11) (some 19) rfl (v:=?_) rfl (by kernel_rfl) (by kernel_rfl) (by kernel_rfl) (fun _ _ _ h=>h) (Or.inl ⟨by rfl,?_⟩) hS ?_
   rotate_left
   ·intro w' hw'
    go_simp
    try with_reducible rfl
   (try dsimp only [Act.put]);(try simp only [List.setIfInBounds_toArray,List.set_cons_zero,List.set_cons_succ])
   refine Held.take (i:=12) (some 20) rfl (v:=?_) rfl (by kernel_rfl) (by kernel_rfl) (by kernel_rfl) (fun _ _ _ h=>h) (Or.inl ⟨by rfl,?_⟩) hS ?_
   rotate_left
   ·intro w' hw'
    go_simp
    try with_reducible rfl
   (try dsimp only [Act.put]);(try simp only [List.setIfInBounds_toArray,List.set_cons_zero,List.set_cons_succ])
   refine wpAnyH_ready (rs:=[13]) (by kernel_rfl) (by simp) (AllReadyH.cons rfl (fun K hK=>?_) AllReadyH.nil)
   have c5:w'.cell? ⟨wb,0,none⟩=some val:=by rw [cell_of_row _ _ _ _ _ _ F1.out];rfl
   have f5:w'.frozen? ⟨wb,0,none⟩=false:=frozen_of_row _ _ _ _ _ F1.out
   go_simp
   refine hK.out _ _ trivial (fun _=>?_)
   clear hK K
   (try dsimp only [Act.put]);(try simp only [List.setIfInBounds_toArray,List.set_cons_zero,List.set_cons_succ])
   rw [setCell_eq_setRow w' wb 0 #[val] 92 (0,0) _ F1.out]
   refine wpAnyH_done (by kernel_rfl) ?_ _
   (try simp only [List.getElem_toArray,List.getElem_cons_succ,List.getElem_cons_zero])
   go_wp2
   go_end0
   rw [HRUN.out]
   exact ⟨rfl,F2.out,F3.out,F4.out⟩
theorem wfloat {B wb:Nat} (s:List Nat × Nat) (W:World) (b o:Nat) (cs:Array Value) (t:TypeId) (fr:Nat × Nat) (l:List Value) (lv:Bool) (j x:Nat) (fv:Value) (hR:WR B wb s W) (hB:B≤W.heap.size) (ht:b < B∨¬ Pt t) (hl:o+l.length≤cs.size) (hb:W.heap[b]?=some (.cells (wrt cs o l) t fr)) (hx:l[j]?=some (.float .f64 x)) (hfit:Fit (Sp.run WP l s (.flt lv j))) :
  Calls Tryz.prog 157 #[.pointer (some ⟨wb,0,none⟩),.pointer (some ⟨b,o+j,none⟩),fv] W (Ends WP (WR B wb) B b o cs t fr (Sp.run WP l s (.flt lv j)) W):=by
 obtain ⟨bs,k0⟩:=s
 obtain ⟨h1,h2,val,h3,h4⟩:=hR
 cases k0 with
 | zero=>exact absurd (show Sp.run WP l (bs,0) (.flt lv j)=.error mark by simp only [Sp.run,hx];rfl) hfit
 | succ k =>
 have hrun:Sp.run WP l (bs,k+1) (.flt lv j)=.ok (l,(bs++Put.low 8 x,k)):=by
  simp only [Sp.run,hx]
  exact congrArg (fun z=>Except.ok (z,(bs++Put.low 8 x,k))) (set_same hx)
 have HRUN:=Lib.hid hrun
 have hj:j < l.length:=(List.getElem?_eq_some_iff.1 hx).1
 have cn:W.cell? ⟨b,o+j,none⟩=some (.float .f64 x):=by rw [cell_of_row _ _ _ _ _ _ hb,wrt_at hl hj];exact hx
 have cw:W.cell? ⟨wb,0,none⟩=some val:=by rw [cell_of_row _ _ _ _ _ _ h3];rfl
 have HW:=Lib.hid h3
 have HO:=Lib.hid h4
 have HB:=Lib.hid hb
 have HT:=Lib.hid ht
 have ML:Hid ((Put.low 8 x).length≤8∧∀ y ∈ Put.low 8 x,y < 256):=Lib.hid ⟨by rw [Put.low_len];exact Nat.le_refl _,fun y hy=>Put.low_lt _ _ y hy⟩
 have HL:Hid (bs.length+8*(k+1)≤50000):=Lib.hid h1
 have CL:Hid (∀ V,Calls Tryz.prog 159 #[.slice none 0 0,.float .f64 x] V fun e w'=>∃ v2,e=.returned v2∧Own V.heap.size w' v2 (Put.low 8 x)∧Below V.heap.size V w'):=Lib.hid (fun V=>by have:=Put.putf_any none 0 [] x V (Go.Proofs.YtjdeemmaaiecnaaGreat.B.row_nil _ _ _ rfl) (by simp);exact this)
 have CN:Hid (∀ V,Below W.heap.size W V→V.cell? ⟨b,o+j,none⟩=some (.float .f64 x)):=Lib.hid (fun V hv=>(hv.cell (World.block_lt_of_cell? W _ cn)).trans cn)
 have CW:Hid (∀ V,Below W.heap.size W V→V.cell? ⟨wb,0,none⟩=some val):=Lib.hid (fun V hv=>(hv.cell (World.block_lt_of_cell? W _ cw)).trans cw)
 generalize Put.low 8 x=m at ML CL HRUN
 generalize hres:Sp.run WP l (bs,k+1) (.flt lv j)=res at HRUN ⊢
 clear hres hrun h1 h3 h4 hb ht hx hfit hl hj cn cw
 go_enter Tryz.func157,Tryz.ntmps157
 refine wp_region_held (S:=fun _=>True) (by kernel_rfl) ?_
 have hS:True:=trivial
 have hv:Below W.heap.size W { W with drawn:=W.drawn+1 }:=(Below.refl _ _).drew
 generalize ({ W with drawn:=W.drawn+1 }:World)=v at hv ⊢
 refine Held.take (i:=0) (some 6) rfl (v:=?_) rfl (by kernel_rfl) (by kernel_rfl) (by kernel_rfl) (fun _ _ _ h=>h) (Or.inl ⟨by rfl,?_⟩) hS ?_
 rotate_left
 ·intro w' hw'
  go_simp
  try with_reducible rfl
 (try dsimp only [Act.put]);(try simp only [List.setIfInBounds_toArray,List.set_cons_zero,List.set_cons_succ])
 refine Held.take (i:=1) (some 7) rfl (v:=?_) rfl (by kernel_rfl) (by kernel_rfl) (by kernel_rfl) (fun _ _ _ h=>h) (Or.inl ⟨by rfl,?_⟩) hS ?_
 rotate_left
 ·intro w' hw'
  go_simp
  try with_reducible rfl
 (try dsimp only [Act.put]);(try simp only [List.setIfInBounds_toArray,List.set_cons_zero,List.set_cons_succ])
 refine Held.take (i:=2) (some 8) rfl (v:=?_) rfl (by kernel_rfl) (by kernel_rfl) (by kernel_rfl) (fun _ _ _ h=>h) (Or.inl ⟨by rfl,?_⟩) hS ?_
 rotate_left
 ·intro w' hw'
  go_simp
  try with_reducible rfl
 (try dsimp only [Act.put]);(try simp only [List.setIfInBounds_toArray,List.set_cons_zero,List.set_cons_succ])
 refine Held.take (i:=3) (some 9) rfl (v:=?_) rfl (by kernel_rfl) (by kernel_rfl) (by kernel_rfl) (fun _ _ _ h=>h) (Or.inl ⟨by rfl,?_⟩) hS ?_
 rotate_left
 ·intro w' hw'
  go_simp
  try with_reducible rfl
 (try dsimp only [Act.put]);(try simp only [List.setIfInBounds_toArray,List.set_cons_zero,List.set_cons_succ])
 refine Held.take (i:=5) (some 11) rfl (v:=?_) rfl (by kernel_rfl) (by kernel_rfl) (by kernel_rfl) (fun _ _ _ h=>h) (Or.inl ⟨by rfl,?_⟩) hS ?_
 rotate_left
 ·intro w' hw'
  go_simp
  try with_reducible rfl
 (try dsimp only [Act.put]);(try simp only [List.setIfInBounds_toArray,List.set_cons_zero,List.set_cons_succ])
 refine Held.take (i:=6) (some 12) rfl (v:=?_) rfl (by kernel_rfl) (by kernel_rfl) (by kernel_rfl) (fun _ _ _ h=>h) (Or.inl ⟨by rfl,?_⟩) hS ?_
 rotate_left
 ·intro w' hw'
  go_simp
  try with_reducible rfl
 (try dsimp only [Act.put]);(try simp only [List.setIfInBounds_toArray,List.set_cons_zero,List.set_cons_succ])
 refine wpAnyH_ready (rs:=[4,7]) (by kernel_rfl) (by simp) (AllReadyH.cons rfl (fun K hK=>?_) (AllReadyH.cons rfl (fun K hK=>?_) AllReadyH.nil))
 ·have c4:=CW.out v hv
  go_simp
  refine hK.out _ _ trivial (fun _=>?_)
  clear hK K
  (try dsimp only [Act.put]);(try simp only [List.setIfInBounds_toArray,List.set_cons_zero,List.set_cons_succ])
  clear c4
  refine wpAnyH_ready (rs:=[7]) (by kernel_rfl) (by simp) (AllReadyH.cons rfl (fun K hK=>?_) AllReadyH.nil)
  have c8:=CN.out v hv
  go_simp
  refine hK.out _ _ trivial (fun _=>?_)
  clear hK K
  (try dsimp only [Act.put]);(try simp only [List.setIfInBounds_toArray,List.set_cons_zero,List.set_cons_succ])
  clear c8
  refine wpAnyH_ready (rs:=[8]) (by kernel_rfl) (by simp) (AllReadyH.cons rfl (fun K hK=>?_) AllReadyH.nil)
  go_simp
  refine (CL.out v).mono ?_
  rintro e v1 ⟨v2,rfl,hm,hb⟩
  have hv1:=hv.trans (hb.mono hv.size)
  have hm2:Hid (∀ V,Below v1.heap.size v1 V→Own v.heap.size V v2 m):=Lib.hid (fun V hV=>Go.Proofs.YtjdeemmaaiecnaaGreat.B.own_below hm hV)
  have HM:=Lib.hid hm
  clear hv hb hm hm2
  rename World=>v
  have hv:=hv1
  clear hv1
  go_simp
  refine hK.out _ _ trivial (fun _=>?_)
  clear hK K
  (try dsimp only [Act.put]);(try simp only [List.setIfInBounds_toArray,List.set_cons_zero,List.set_cons_succ])
  refine wpAnyH_ready (rs:=[9]) (by kernel_rfl) (by simp) (AllReadyH.cons rfl (fun K hK=>?_) AllReadyH.nil)
  rw [if_pos (by rfl)]
  have how:Own B v val bs:=Go.Proofs.YtjdeemmaaiecnaaGreat.B.own_below HO.out hv
  refine wp_more _ _ rfl B _ val _ bs m rfl how rfl HM.out ML.out.2 (Nat.le_trans hB hv.size) (by have:=HL.out;have:=ML.out.1;omega) ?_
  intro v' w' ho' hg
  obtain ⟨sa,sn,sc,rfl⟩:∃ a n c,v'=.slice a n c:=by rcases ho'.2 with ⟨rfl,_⟩ | ⟨g,cap,cur,rfl,_⟩ <;> exact ⟨_,_,_,rfl⟩
  obtain ⟨f1,f2,f3,f4⟩:=wfin (b:=b) (k:=k) hv hB h2 ((hv.block wb (Array.getElem?_eq_some_iff.1 HW.out).1).trans HW.out) how hg ho' (by rw [List.length_append];have:=HL.out;have:=ML.out.1;omega)
  have F1:=Lib.hid f1
  have F2:=Lib.hid f2
  have F3:=Lib.hid f3
  have F4:=Lib.hid (f4 b _ _ _ HB.out HT.out)
  clear f1 f2 f3 f4 how ho' hg
  refine hK.out _ _ trivial (fun _=>?_)
  clear hK K
  (try dsimp only [Act.put]);(try simp only [List.setIfInBounds_toArray,List.set_cons_zero,List.set_cons_succ])
  have hS:True:=trivial
  refine Held.take (i:=10) (some 16) rfl (v:=?_) rfl (by kernel_rfl) (by kernel_rfl) (by kernel_rfl) (fun _ _ _ h=>h) (Or.inl ⟨by rfl,?_⟩) hS ?_
  rotate_left
  ·intro w' hw'
   go_simp
   try with_reducible rfl
  (try dsimp only [Act.put]);(try simp only [List.setIfInBounds_toArray,List.set_cons_zero,List.set_cons_succ])
  refine Held.take (i:=11) (some 17) rfl (v:=?_) rfl (by kernel_rfl) (by kernel_rfl) (by kernel_rfl) (fun _ _ _ h=>h) (Or.inl ⟨by rfl,?_⟩) hS ?_
  rotate_left
  ·intro w' hw'
   go_simp
   try with_reducible rfl
  (try dsimp only [Act.put]);(try simp only [List.setIfInBounds_toArray,List.set_cons_zero,List.set_cons_succ])
  refine wpAnyH_ready (rs:=[12]) (by kernel_rfl) (by simp) (AllReadyH.cons rfl (fun K hK=>?_) AllReadyH.nil)
  have c5:w'.cell? ⟨wb,0,none⟩=some val:=by rw [cell_of_row _ _ _ _ _ _ F1.out];rfl
  have f5:w'.frozen? ⟨wb,0,none⟩=false:=frozen_of_row _ _ _ _ _ F1.out
  go_simp
  refine hK.out _ _ trivial (fun _=>?_)
  clear hK K
  (try dsimp only [Act.put]);(try simp only [List.setIfInBounds_toArray,List.set_cons_zero,List.set_cons_succ])
  rw [setCell_eq_setRow w' wb 0 #[val] 92 (0,0) _ F1.out]
  refine wpAnyH_done (by kernel_rfl) ?_ _
  (try simp only [List.getElem_toArray,List.getElem_cons_succ,List.getElem_cons_zero])
  go_wp2
  go_end0
  rw [HRUN.out]
  exact ⟨rfl,F2.out,F3.out,F4.out⟩
 ·have c8:=CN.out v hv
  go_simp
  refine hK.out _ _ trivial (fun _=>?_)
  clear hK K
  (try dsimp only [Act.put]);(try simp only [List.setIfInBounds_toArray,List.set_cons_zero,List.set_cons_succ])
  clear c8
  refine wpAnyH_ready (rs:=[4,8]) (by kernel_rfl) (by simp) (AllReadyH.cons rfl (fun K hK=>?_) (AllReadyH.cons rfl (fun K hK=>?_) AllReadyH.nil))
  ·have c4:=CW.out v hv
   go_simp
   refine hK.out _ _ trivial (fun _=>?_)
   clear hK K
   (try dsimp only [Act.put]);(try simp only [List.setIfInBounds_toArray,List.set_cons_zero,List.set_cons_succ])
   clear c4
   refine wpAnyH_ready (rs:=[8]) (by kernel_rfl) (by simp) (AllReadyH.cons rfl (fun K hK=>?_) AllReadyH.nil)
   go_simp
   refine (CL.out v).mono ?_
   rintro e v1 ⟨v2,rfl,hm,hb⟩
   have hv1:=hv.trans (hb.mono hv.size)
   have hm2:Hid (∀ V,Below v1.heap.size v1 V→Own v.heap.size V v2 m):=Lib.hid (fun V hV=>Go.Proofs.YtjdeemmaaiecnaaGreat.B.own_below hm hV)
   have HM:=Lib.hid hm
   clear hv hb hm hm2
   rename World=>v
   have hv:=hv1
   clear hv1
   go_simp
   refine hK.out _ _ trivial (fun _=>?_)
   clear hK K
   (try dsimp only [Act.put]);(try simp only [List.setIfInBounds_toArray,List.set_cons_zero,List.set_cons_succ])
   refine wpAnyH_ready (rs:=[9]) (by kernel_rfl) (by simp) (AllReadyH.cons rfl (fun K hK=>?_) AllReadyH.nil)
   rw [if_pos (by rfl)]
   have how:Own B v val bs:=Go.Proofs.YtjdeemmaaiecnaaGreat.B.own_below HO.out hv
   refine wp_more _ _ rfl B _ val _ bs m rfl how rfl HM.out ML.out.2 (Nat.le_trans hB hv.size) (by have:=HL.out;have:=ML.out.1;omega) ?_
   intro v' w' ho' hg
   obtain ⟨sa,sn,sc,rfl⟩:∃ a n c,v'=.slice a n c:=by rcases ho'.2 with ⟨rfl,_⟩ | ⟨g,cap,cur,rfl,_⟩ <;> exact ⟨_,_,_,rfl⟩
   obtain ⟨f1,f2,f3,f4⟩:=wfin (b:=b) (k:=k) hv hB h2 ((hv.block wb (Array.getElem?_eq_some_iff.1 HW.out).1).trans HW.out) how hg ho' (by rw [List.length_append];have:=HL.out;have:=ML.out.1;omega)
   have F1:=Lib.hid f1
   have F2:=Lib.hid f2
   have F3:=Lib.hid f3
   have F4:=Lib.hid (f4 b _ _ _ HB.out HT.out)
   clear f1 f2 f3 f4 how ho' hg
   refine hK.out _ _ trivial (fun _=>?_)
   clear hK K
   (try dsimp only [Act.put]);(try simp only [List.setIfInBounds_toArray,List.set_cons_zero,List.set_cons_succ])
   have hS:True:=trivial
   refine Held.take (i:=10) (some 16) rfl (v:=?_) rfl (by kernel_rfl) (by kernel_rfl) (by kernel_rfl) (fun _ _ _ h=>h) (Or.inl ⟨by rfl,?_⟩) hS ?_
   rotate_left
   ·intro w' hw'
    go_simp
    try with_reducible rfl
   (try dsimp only [Act.put]);(try simp only [List.setIfInBounds_toArray,List.set_cons_zero,List.set_cons_succ])
   refine Held.take (i:=11) (some 17) rfl (v:=?_) rfl (by kernel_rfl) (by kernel_rfl) (by kernel_rfl) (fun _ _ _ h=>h) (Or.inl ⟨by rfl,?_⟩) hS ?_
   rotate_left
   ·intro w' hw'
    go_simp
    try with_reducible rfl
   (try dsimp only [Act.put]);(try simp only [List.setIfInBounds_toArray,List.set_cons_zero,List.set_cons_succ])
   refine wpAnyH_ready (rs:=[12]) (by kernel_rfl) (by simp) (AllReadyH.cons rfl (fun K hK=>?_) AllReadyH.nil)
   have c5:w'.cell? ⟨wb,0,none⟩=some val:=by rw [cell_of_row _ _ _ _ _ _ F1.out];rfl
   have f5:w'.frozen? ⟨wb,0,none⟩=false:=frozen_of_row _ _ _ _ _ F1.out
   go_simp
   refine hK.out _ _ trivial (fun _=>?_)
   clear hK K
   (try dsimp only [Act.put]);(try simp only [List.setIfInBounds_toArray,List.set_cons_zero,List.set_cons_succ])
   rw [setCell_eq_setRow w' wb 0 #[val] 92 (0,0) _ F1.out]
   refine wpAnyH_done (by kernel_rfl) ?_ _
   (try simp only [List.getElem_toArray,List.getElem_cons_succ,List.getElem_cons_zero])
   go_wp2
   go_end0
   rw [HRUN.out]
   exact ⟨rfl,F2.out,F3.out,F4.out⟩
  ·go_simp
   refine (CL.out v).mono ?_
   rintro e v1 ⟨v2,rfl,hm,hb⟩
   have hv1:=hv.trans (hb.mono hv.size)
   have hm2:Hid (∀ V,Below v1.heap.size v1 V→Own v.heap.size V v2 m):=Lib.hid (fun V hV=>Go.Proofs.YtjdeemmaaiecnaaGreat.B.own_below hm hV)
   have HM:=Lib.hid hm
   clear hv hb hm hm2
   rename World=>v
   have hv:=hv1
   clear hv1
   go_simp
   refine hK.out _ _ trivial (fun _=>?_)
   clear hK K
   (try dsimp only [Act.put]);(try simp only [List.setIfInBounds_toArray,List.set_cons_zero,List.set_cons_succ])
   refine wpAnyH_ready (rs:=[4]) (by kernel_rfl) (by simp) (AllReadyH.cons rfl (fun K hK=>?_) AllReadyH.nil)
   have c4:=CW.out v hv
   go_simp
   refine hK.out _ _ trivial (fun _=>?_)
   clear hK K
   (try dsimp only [Act.put]);(try simp only [List.setIfInBounds_toArray,List.set_cons_zero,List.set_cons_succ])
   clear c4
   refine wpAnyH_ready (rs:=[9]) (by kernel_rfl) (by simp) (AllReadyH.cons rfl (fun K hK=>?_) AllReadyH.nil)
   rw [if_pos (by rfl)]
   have how:Own B v val bs:=Go.Proofs.YtjdeemmaaiecnaaGreat.B.own_below HO.out hv
   refine wp_more _ _ rfl B _ val _ bs m rfl how rfl HM.out ML.out.2 (Nat.le_trans hB hv.size) (by have:=HL.out;have:=ML.out.1;omega) ?_
   intro v' w' ho' hg
   obtain ⟨sa,sn,sc,rfl⟩:∃ a n c,v'=.slice a n c:=by rcases ho'.2 with ⟨rfl,_⟩ | ⟨g,cap,cur,rfl,_⟩ <;> exact ⟨_,_,_,rfl⟩
   obtain ⟨f1,f2,f3,f4⟩:=wfin (b:=b) (k:=k) hv hB h2 ((hv.block wb (Array.getElem?_eq_some_iff.1 HW.out).1).trans HW.out) how hg ho' (by rw [List.length_append];have:=HL.out;have:=ML.out.1;omega)
   have F1:=Lib.hid f1
   have F2:=Lib.hid f2
   have F3:=Lib.hid f3
   have F4:=Lib.hid (f4 b _ _ _ HB.out HT.out)
   clear f1 f2 f3 f4 how ho' hg
   refine hK.out _ _ trivial (fun _=>?_)
   clear hK K
   (try dsimp only [Act.put]);(try simp only [List.setIfInBounds_toArray,List.set_cons_zero,List.set_cons_succ])
   have hS:True:=trivial
   refine Held.take (i:=10) (some 16) rfl (v:=?_) rfl (by kernel_rfl) (by kernel_rfl) (by kernel_rfl) (fun _ _ _ h=>h) (Or.inl ⟨by rfl,?_⟩) hS ?_
   rotate_left
   ·intro w' hw'
    go_simp
    try with_reducible rfl
   (try dsimp only [Act.put]);(try simp only [List.setIfInBounds_toArray,List.set_cons_zero,List.set_cons_succ])
   refine Held.take (i:=11) (some 17) rfl (v:=?_) rfl (by kernel_rfl) (by kernel_rfl) (by kernel_rfl) (fun _ _ _ h=>h) (Or.inl ⟨by rfl,?_⟩) hS ?_
   rotate_left
   ·intro w' hw'
    go_simp
    try with_reducible rfl
   (try dsimp only [Act.put]);(try simp only [List.setIfInBounds_toArray,List.set_cons_zero,List.set_cons_succ])
   refine wpAnyH_ready (rs:=[12]) (by kernel_rfl) (by simp) (AllReadyH.cons rfl (fun K hK=>?_) AllReadyH.nil)
   have c5:w'.cell? ⟨wb,0,none⟩=some val:=by rw [cell_of_row _ _ _ _ _ _ F1.out];rfl
   have f5:w'.frozen? ⟨wb,0,none⟩=false:=frozen_of_row _ _ _ _ _ F1.out
   go_simp
   refine hK.out _ _ trivial (fun _=>?_)
   clear hK K
   (try dsimp only [Act.put]);(try simp only [List.setIfInBounds_toArray,List.set_cons_zero,List.set_cons_succ])
   rw [setCell_eq_setRow w' wb 0 #[val] 92 (0,0) _ F1.out]
   refine wpAnyH_done (by kernel_rfl) ?_ _
   (try simp only [List.getElem_toArray,List.getElem_cons_succ,List.getElem_cons_zero])
   go_wp2
   go_end0
   rw [HRUN.out]
   exact ⟨rfl,F2.out,F3.out,F4.out⟩
end Po
namespace Po
open Go Go.RowKit
open Tab
theorem low_flag (x:Bool):Put.low (Put.lim 1 8) (if x=true then 1 else 0)=[if x=true then 1 else 0]:=by cases x <;> decide +kernel
theorem wflag {B wb:Nat} (s:List Nat × Nat) (W:World) (b o:Nat) (cs:Array Value) (t:TypeId) (fr:Nat × Nat) (l:List Value) (j:Nat) (x:Bool) (hR:WR B wb s W) (hB:B≤W.heap.size) (ht:b < B∨¬ Pt t) (hl:o+l.length≤cs.size) (hb:W.heap[b]?=some (.cells (wrt cs o l) t fr)) (hx:l[j]?=some (.bool x)) (hfit:Fit (Sp.run WP l s (.flg j))) :
  Calls Tryz.prog 156 #[.pointer (some ⟨wb,0,none⟩),.pointer (some ⟨b,o+j,none⟩)] W (Ends WP (WR B wb) B b o cs t fr (Sp.run WP l s (.flg j)) W):=by
 obtain ⟨bs,k0⟩:=s
 cases k0 with
 | zero=>exact absurd (show Sp.run WP l (bs,0) (.flg j)=.error mark by simp only [Sp.run,hx];rfl) hfit
 | succ k =>
 have hrun:Sp.run WP l (bs,k+1) (.flg j)=.ok (l,(bs++[if x=true then 1 else 0],k)):=by
  simp only [Sp.run,hx]
  exact congrArg (fun z=>Except.ok (z,(bs++[if x=true then 1 else 0],k))) (set_same hx)
 have HRUN:=Lib.hid hrun
 have hj:j < l.length:=(List.getElem?_eq_some_iff.1 hx).1
 have cn:W.cell? ⟨b,o+j,none⟩=some (.bool x):=by rw [cell_of_row _ _ _ _ _ _ hb,wrt_at hl hj];exact hx
 have hbl:=(Array.getElem?_eq_some_iff.1 hb).1
 have NB:Hid (∀ (z:Int) (W1:World),(z=if x=true then 1 else 0)→Below W.heap.size W W1→W1.heap[W.heap.size]?=some (.cells #[I z] 3 (0,0))→Calls Tryz.prog 158 #[.pointer (some ⟨wb,0,none⟩),.int .i64 1,.int .i64 1,.pointer (some ⟨W.heap.size,0,none⟩)] W1 fun e W'=>e=.returned (.tuple #[])∧WR B wb (bs++[if x=true then 1 else 0],k) W'∧Mv B b W W'∧W'.heap[b]?=some (.cells (wrt cs o l) t fr)):=Lib.hid (fun z W1 hz h1 hn=>by
  have hst:WR B wb (bs,k+1) W1:=hR.stay (fun j cs t fr hj _=>h1.block j (Array.getElem?_eq_some_iff.1 hj).1)
  have hr1:Sp.run WP [I z] (bs,k+1) (.num 1 1 0)=.ok ([I z],(bs++[if x=true then 1 else 0],k)):=by
   show Except.ok _=_
   rw [hz,low_flag]
   rfl
  have hw:wrt #[I z] 0 [I z]=#[I z]:=wrt_same (by simp) (by intro j hj;match j,hj with | 0,_=>rfl)
  have hc:=wnumber (B:=B) (wb:=wb) (bs,k+1) W1 W.heap.size 0 #[I z] 3 (0,0) [I z] 1 1 0 z hst (Nat.le_trans hB h1.size) (.inr (by decide)) (by simp) (by rw [hw];exact hn) rfl (by rw [hr1];intro h;cases h)
  rw [hr1] at hc
  refine hc.mono ?_
  intro e W' he
  obtain ⟨he1,he2,he3,he4⟩:=he
  refine ⟨he1,he2,⟨(h1.mono hB).trans he3.low,fun j cs2 t2 fr2 hj2 ht2 hb2=>?_⟩,?_⟩
  ·have hjl:=(Array.getElem?_eq_some_iff.1 hj2).1
   have h2:=(h1.block j hjl).trans hj2
   exact (he3.other j cs2 t2 fr2 h2 ht2 (by omega)).trans (h1.block j hjl)
  ·exact he3.keep ((h1.block b hbl).trans hb) ht (by omega))
 have hb1:∀ z:Int,Below W.heap.size W (W.alloc (.cells #[I z] 3)):=fun z=>(Below.refl _ _).alloc (Nat.le_refl _) _
 have hn1:∀ z:Int,(W.alloc (.cells #[I z] 3)).heap[W.heap.size]?=some (.cells #[I z] 3 (0,0)):=fun z=>heap_alloc_new W _
 have B0:=Lib.hid (hb1 0)
 have N0:=Lib.hid (hn1 0)
 clear hb1 hn1 hR hB ht hl hb hx hfit hrun hj
 go_enter Tryz.func156,Tryz.ntmps156
 go_upto_region 1 with fail
 generalize World.alloc W _=W1 at B0 N0 ⊢
 have cx:W1.cell? ⟨b,o+j,none⟩=some (.bool x):=(B0.out.cell (World.block_lt_of_cell? W _ cn)).trans cn
 have c0:W1.cell? ⟨W.heap.size,0,none⟩=some (I 0):=by rw [cell_of_row _ _ _ _ _ _ N0.out];rfl
 have f0:W1.frozen? ⟨W.heap.size,0,none⟩=false:=frozen_of_row _ _ _ _ _ N0.out
 cases x with
 | false =>
  have hc:=Lib.hid (NB.out 0 W1 rfl B0.out N0.out)
  clear NB cn c0 f0
  generalize W.heap.size=nb at hc ⊢
  go_wp2_with fail
  refine hc.out.mono ?_
  rintro e W' ⟨rfl,h2⟩
  have H2:=Lib.hid h2
  clear h2
  go_wp2
  go_end0
  rw [HRUN.out]
  exact ⟨rfl,H2.out⟩
 | true =>
  have hb2:Below W.heap.size W (W1.setCell ⟨W.heap.size,0,none⟩ (I 1)):=B0.out.setCell (Nat.le_refl _) _
  have hn2:(W1.setCell ⟨W.heap.size,0,none⟩ (I 1)).heap[W.heap.size]?=some (.cells #[I 1] 3 (0,0)):=by
   rw [setCell_eq_setRow W1 W.heap.size 0 #[I 0] 3 (0,0) (I 1) N0.out]
   exact setRow_heap _ _ _ _ _ _ N0.out
  have hc:=Lib.hid (NB.out 1 _ rfl hb2 hn2)
  clear NB cn hb2 hn2
  generalize W.heap.size=nb at hc c0 f0 ⊢
  go_upto_region 3 with fail
  generalize World.setCell W1 _ _=W2 at hc ⊢
  go_wp2_with fail
  refine hc.out.mono ?_
  rintro e W' ⟨rfl,h2⟩
  have H2:=Lib.hid h2
  clear h2
  go_wp2
  go_end0
  rw [HRUN.out]
  exact ⟨rfl,H2.out⟩
theorem wport {B wb:Nat}:Port WP (WR B wb) B (fun _ _=>True) 90 (.pointer (some ⟨wb,0,none⟩)) (.pointer (some ⟨wb,0,none⟩)) 158 157 156 where
 mn:=fun n w=>by rfl
 mf:=fun n w=>by rfl
 mg:=fun n w=>by rfl
 nn:=fun n w=>by rfl
 nf:=fun n w=>by rfl
 ng:=fun n w=>by rfl
 en:=fun args w=>by rfl
 ef:=fun args w=>by rfl
 eg:=fun args w=>by rfl
 stay:=fun s W W' h hs hk=>h.stay hk
 new:=fun b hb=>trivial
 num:=fun s W b o cs t fr l size most j x hR hB _ ht hl hb hx hfit=>wnumber s W b o cs t fr l size most j x hR hB ht hl hb hx hfit
 flt:=fun s W b o cs t fr l lv j x hR hB _ ht hl hb hx hfit=>wfloat s W b o cs t fr l lv j x _ hR hB ht hl hb hx hfit
 flg:=fun s W b o cs t fr l j x hR hB _ ht hl hb hx hfit=>wflag s W b o cs t fr l j x hR hB ht hl hb hx hfit
end Po
namespace CrcM
def dbl (c:Nat):Nat:=(2*c % 65536) ^^^ (if c / 32768 % 2=1 then 4129 else 0)
def dbl8 (c:Nat):Nat:=dbl (dbl (dbl (dbl (dbl (dbl (dbl (dbl c)))))))
def tab (i:Nat):Nat:=dbl8 (256*i)
def step (c x:Nat):Nat:=(256*c % 65536) ^^^ tab (c / 256 ^^^ x)
def crc (c:Nat) (l:List Nat):Nat:=l.foldl step c
def bitStep (c b:Nat):Nat:=if c / 32768 ≠ b then (2*c % 65536) ^^^ 4129 else 2*c % 65536
theorem dbl_lt (c:Nat):dbl c < 65536:=by
 unfold dbl
 refine Nat.xor_lt_two_pow (n:=16) (Nat.mod_lt _ (by decide)) ?_
 split <;> decide
theorem tab_lt (i:Nat):tab i < 65536:=dbl_lt _
theorem step_lt (c x:Nat):step c x < 65536:=Nat.xor_lt_two_pow (n:=16) (Nat.mod_lt _ (by decide)) (tab_lt _)
theorem crc_lt (c:Nat) (l:List Nat) (h:c < 65536):crc c l < 65536:=by
 induction l generalizing c with
 | nil=>exact h
 | cons x l ih=>exact ih _ (step_lt c x)
theorem mul_xor (a b n:Nat):2 ^ n*(a ^^^ b)=2 ^ n*a ^^^ 2 ^ n*b:=by
 rw [Nat.mul_comm,Nat.mul_comm _ a,Nat.mul_comm _ b,← Nat.shiftLeft_eq,← Nat.shiftLeft_eq,← Nat.shiftLeft_eq,Nat.shiftLeft_xor_distrib]
theorem x4 (a b c d:Nat):(a ^^^ b) ^^^ (c ^^^ d)=(a ^^^ c) ^^^ (b ^^^ d):=by
 rw [Nat.xor_assoc,Nat.xor_assoc,← Nat.xor_assoc b,Nat.xor_comm b c,Nat.xor_assoc c]
theorem dbl_xor (a b:Nat):dbl (a ^^^ b)=dbl a ^^^ dbl b:=by
 have h1:2*(a ^^^ b) % 65536=(2*a % 65536) ^^^ (2*b % 65536):=by
  have e:=mul_xor a b 1
  rw [Nat.pow_one] at e
  rw [e]
  exact Nat.xor_mod_two_pow (n:=16)
 have h2:(a ^^^ b) / 32768=a / 32768 ^^^ b / 32768:=Nat.xor_div_two_pow (n:=15)
 unfold dbl
 rw [h1,h2,x4]
 congr 1
 have h3:=@Nat.xor_mod_two_eq_one (a / 32768) (b / 32768)
 by_cases p:a / 32768 % 2=1 <;> by_cases q:b / 32768 % 2=1 <;> simp [h3,p,q]
theorem dbl8_xor (a b:Nat):dbl8 (a ^^^ b)=dbl8 a ^^^ dbl8 b:=by
 unfold dbl8;simp only [dbl_xor]
theorem tab_xor (i j:Nat):tab (i ^^^ j)=tab i ^^^ tab j:=by
 unfold tab
 rw [show 256=2 ^ 8 from rfl,mul_xor,dbl8_xor]
theorem tab_zero:tab 0=0:=by decide +kernel
theorem tab_rule:∀ i,i < 256→tab i=if i % 2=1 then dbl (tab (i / 2)) ^^^ 4129 else dbl (tab (i / 2)):=by decide +kernel
theorem tab_odd (i:Nat) (h:i < 256) (ho:i % 2=1):tab i=dbl (tab (i / 2)) ^^^ 4129:=by rw [tab_rule i h,if_pos ho]
theorem tab_even (i:Nat) (h:i < 256) (ho:¬ i % 2=1):tab i=dbl (tab (i / 2)):=by rw [tab_rule i h,if_neg ho]
theorem split_c (c:Nat):c=256*(c / 256) ^^^ c % 256:=by
 have h1:=Nat.two_pow_add_eq_or_of_lt (i:=8) (b:=c % 256) (Nat.mod_lt _ (by decide)) (c / 256)
 have h2:256*(c / 256) &&& c % 256=0:=by
  apply Nat.eq_of_testBit_eq
  intro i
  rw [Nat.testBit_and,show 256*(c / 256)=2 ^ 8*(c / 256) from rfl,Nat.testBit_two_pow_mul,show c % 256=c % 2 ^ 8 from rfl,Nat.testBit_mod_two_pow]
  rw [Nat.zero_testBit]
  by_cases h:8≤i
  ·rw [decide_eq_false (show ¬ i < 8 by omega),Bool.false_and,Bool.and_false]
  ·rw [decide_eq_false h,Bool.false_and,Bool.false_and]
 have h3:=Nat.div_add_mod c 256
 apply Nat.eq_of_testBit_eq
 intro i
 rw [Nat.testBit_xor]
 have h4:c.testBit i=(256*(c / 256) ||| c % 256).testBit i:=by
  rw [← show 2 ^ 8*(c / 256)+c % 256=256*(c / 256) ||| c % 256 from h1,show 2 ^ 8*(c / 256)+c % 256=c from h3]
 have h5:(256*(c / 256) &&& c % 256).testBit i=false:=by rw [h2];exact Nat.zero_testBit i
 rw [h4,Nat.testBit_or]
 rw [Nat.testBit_and] at h5
 clear h4 h1 h2 h3
 generalize (256*(c / 256)).testBit i=p at h5 ⊢
 generalize (c % 256).testBit i=q at h5 ⊢
 cases p <;> cases q <;> simp at h5 ⊢
theorem low8:∀ i,i < 256→dbl8 i=256*i:=by decide +kernel
theorem dbl8_eq (c:Nat) (h:c < 65536):dbl8 c=tab (c / 256) ^^^ 256*(c % 256):=by
 have h1:=split_c c
 rw [show dbl8 c=dbl8 (256*(c / 256) ^^^ c % 256) by rw [← h1],dbl8_xor,low8 _ (Nat.mod_lt _ (by decide))]
 rfl
theorem step_eq (c x:Nat) (h:c < 65536):step c x=dbl8 c ^^^ tab x:=by
 rw [dbl8_eq c h]
 unfold step
 rw [tab_xor,Nat.xor_comm (tab _) (256*_),Nat.xor_assoc,show 256*c % 65536=256*(c % 256) by omega]
theorem bit_eq (c b:Nat) (h:c < 65536) (hb:b < 2):bitStep c b=dbl c ^^^ (if b=1 then 4129 else 0):=by
 unfold bitStep dbl
 have h1:c / 32768=0∨c / 32768=1:=by omega
 have h2:b=0∨b=1:=by omega
 rcases h1 with h1 | h1 <;> rcases h2 with rfl | rfl <;> simp [h1,Nat.xor_assoc]
def bits8 (c x:Nat):Nat→Nat
 | 0=>c
 | n+1=>bitStep (bits8 c x n) (x / 2 ^ (7 - n) % 2)
theorem bit_lt (c b:Nat):bitStep c b < 65536:=by
 unfold bitStep
 have:2*c % 65536 < 65536:=Nat.mod_lt _ (by decide)
 split
 ·exact Nat.xor_lt_two_pow (n:=16) this (by decide)
 ·exact this
theorem bits8_lt (c x n:Nat) (h:c < 65536):bits8 c x n < 65536:=by
 cases n with
 | zero=>exact h
 | succ n=>exact bit_lt _ _
def dbls (c:Nat):Nat→Nat
 | 0=>c
 | n+1=>dbl (dbls c n)
theorem bits8_xor (c x n:Nat) (h:c < 65536):bits8 c x n=dbls c n ^^^ bits8 0 x n:=by
 induction n with
 | zero=>simp [bits8,dbls]
 | succ n ih =>
  show bitStep _ _=dbl _ ^^^ bitStep _ _
  rw [bit_eq _ _ (bits8_lt c x n h) (Nat.mod_lt _ (by decide)),bit_eq _ _ (bits8_lt 0 x n (by decide)) (Nat.mod_lt _ (by decide)),ih,dbl_xor,Nat.xor_assoc]
theorem bits8_tab:∀ x,x < 256→bits8 0 x 8=tab x:=by decide +kernel
theorem bits8_step (c x:Nat) (h:c < 65536) (hx:x < 256):bits8 c x 8=step c x:=by
 rw [bits8_xor c x 8 h,bits8_tab x hx,step_eq c x h];rfl
theorem crc_append (c:Nat) (l m:List Nat):crc c (l++m)=crc (crc c l) m:=List.foldl_append
theorem crc_snoc (c:Nat) (l:List Nat) (x:Nat):crc c (l++[x])=step (crc c l) x:=by rw [crc_append];rfl
def over (a b c:List Nat):Nat→List Nat
 | 0=>[]
 | n+1=>over a b c n++[a.getD n 0 ^^^ b.getD n 0 ^^^ c.getD n 0]
theorem take_snoc (l:List Nat) (k:Nat) (h:k < l.length):l.take (k+1)=l.take k++[l.getD k 0]:=by
 rw [List.take_succ_eq_append_getElem h,List.getD_eq_getElem?_getD,List.getElem?_eq_getElem h];rfl
def par (n:Nat):Bool:=((((n.testBit 0 ^^ n.testBit 1) ^^ (n.testBit 2 ^^ n.testBit 3)) ^^ ((n.testBit 4 ^^ n.testBit 5) ^^ (n.testBit 6 ^^ n.testBit 7))) ^^ (((n.testBit 8 ^^ n.testBit 9) ^^ (n.testBit 10 ^^ n.testBit 11)) ^^ ((n.testBit 12 ^^ n.testBit 13) ^^ (n.testBit 14 ^^ n.testBit 15))))
def parL (l:List Nat):Bool:=l.foldl (fun s x=>s ^^ par x) false
end CrcM
namespace Cd
open Go Tab
open Put (low low_len low_lt)
open CrcM (crc)
def one (b:Bool):Int:=if b then 1 else 0
def puts (k:Nat) (l:List Int):List Nat:=l.flatMap (low k)
def phB (p:Ph):List Nat:=puts 1 [one p.on]++(puts 2 [p.min,p.gap,p.max,p.top,p.step,p.yellow,p.red,p.walk,p.blinks]++puts 1 [p.recall,one p.lock,one p.rest])
def rowB (l:List Int):List Nat:=low 1 l.length++puts 1 l
def grB (y:List Int × List Int):List Nat:=rowB y.1++rowB y.2
def detB (d:Det):List Nat:=low 1 d.phase++(low 8 (d.on:Int)++(low 8 (d.off:Int)++(low 8 (d.delay:Int)++(low 8 (d.extend:Int)++puts 2 [d.maxOn,d.maxOff]))))
def rlB (r:Rl):List Nat:=puts 1 [r.bars,r.clear,r.dwell,r.exit]++(puts 2 [r.delay,r.green,r.foot,r.hold,r.stay,r.most]++puts 4 [r.limit])
def bsB (b:Bs):List Nat:=puts 1 [b.set]++puts 2 [b.lock]
def listB {α:Type} (f:α→List Nat) (l:List α):List Nat:=low 1 l.length++l.flatMap f
def itemsB (T:Tab):List Nat:=T.phases.flatMap phB++(listB grB T.groups++(puts 1 T.conflict++(listB detB T.dets++(listB rlB T.rails++(listB bsB T.buses++(puts 2 [T.extend,T.budget,T.start,T.revert,T.least]++(puts 1 T.flash++puts 4 [T.window,T.share])))))))
def bodyB (T:Tab):List Nat:=[88,66,1]++itemsB T
def sealB (b:List Nat):List Nat:=b++low 2 (crc 65535 b:Nat)
theorem puts_len (k:Nat):∀ l:List Int,(puts k l).length=l.length*k
 | []=>by simp [puts]
 | x :: l=>by
  show (low k x++puts k l).length=_
  rw [List.length_append,low_len,puts_len k l,List.length_cons,Nat.add_mul];omega
theorem puts_append (k:Nat) (l m:List Int):puts k (l++m)=puts k l++puts k m:=by unfold puts;rw [List.flatMap_append]
theorem puts_lt (k:Nat) (l:List Int):∀ x ∈ puts k l,x < 256:=fun x hx=>by
 obtain ⟨n,_,h⟩:=List.mem_flatMap.1 hx
 exact low_lt k n x h
theorem phB_len (p:Ph):(phB p).length=22:=by simp [phB,puts_len]
theorem detB_len (d:Det):(detB d).length=37:=by simp [detB,puts_len,low_len]
theorem rlB_len (r:Rl):(rlB r).length=20:=by simp [rlB,puts_len]
theorem bsB_len (b:Bs):(bsB b).length=3:=by simp [bsB,puts_len]
theorem rowB_len (l:List Int):(rowB l).length=1+l.length:=by simp [rowB,puts_len,low_len]
theorem flat_len {α:Type} {f:α→List Nat} {n:Nat}:∀ l:List α,(∀ x ∈ l,(f x).length≤n)→(l.flatMap f).length≤l.length*n
 | [],_=>by simp
 | x :: l,h=>by
  rw [List.flatMap_cons,List.length_append,List.length_cons,Nat.add_mul]
  have:=h x (by simp)
  have:=flat_len l (fun y hy=>h y (by simp [hy]))
  omega
theorem listB_len {α:Type} {f:α→List Nat} {n:Nat} (l:List α) (h:∀ x ∈ l,(f x).length≤n):(listB f l).length≤1+l.length*n:=by
 unfold listB
 rw [List.length_append,low_len]
 have:=flat_len l h
 omega
end Cd
namespace Po
open Go Go.RowKit
open Tab
open Cd (puts phB detB rlB bsB rowB grB listB)
open Put (low lim)
abbrev wrv (wb:Nat):Value:=.pointer (some ⟨wb,0,none⟩)
abbrev wif (wb:Nat):Value:=.iface 90 (wrv wb)
structure Wp (w0 V0:World) (wb tb:Nat) (c:Array Value) (l:List Nat) (k:Nat) (W:World):Prop where
 st:WR w0.heap.size wb (l,k) W
 low:Below w0.heap.size w0 W
 box:W.heap[tb]?=some (.cells c 33 (0,0))
 keep:∀ (j:Nat) (cs:Array Value) (t:TypeId) (fr:Nat × Nat),V0.heap[j]?=some (.cells cs t fr)→¬ Pt t→W.heap[j]?=some (.cells cs t fr)
section
variable {w0 V0:World} {wb tb:Nat} {c:Array Value} {l:List Nat} {k:Nat} {W W':World}
theorem Wp.mem (h:Wp w0 V0 wb tb c l k W) (hb:Below W.heap.size W W'):Wp w0 V0 wb tb c l k W' :=
 ⟨h.st.stay (fun j cs t fr hj _=>hb.block j (Array.getElem?_eq_some_iff.1 hj).1),h.low.trans (hb.mono h.low.size),(hb.block tb (Array.getElem?_eq_some_iff.1 h.box).1).trans h.box,fun j cs t fr hj ht=>(hb.block j (Array.getElem?_eq_some_iff.1 (h.keep j cs t fr hj ht)).1).trans (h.keep j cs t fr hj ht)⟩
theorem Wp.less (h:Wp w0 V0 wb tb c l k W) {k':Nat} (hk:k'≤k):Wp w0 V0 wb tb c l k' W :=
 ⟨⟨by have:=h.st.1;simp only at this ⊢;omega,h.st.2⟩,h.low,h.box,h.keep⟩
theorem Wp.of_ends {b o:Nat} {cs:Array Value} {t:TypeId} {fr:Nat × Nat} {l':List Value} {l2:List Nat} {k2:Nat} {e:Ending} (h:Wp w0 V0 wb tb c l k W)
  (he:Ends WP (WR w0.heap.size wb) w0.heap.size b o cs t fr (.ok (l',(l2,k2))) W e W') (hs:W.heap[b]?=some (.cells (wrt cs o l') t fr)):e=.returned (.tuple #[])∧Wp w0 V0 wb tb c l2 k2 W':=by
 obtain ⟨h1,h2,h3,h4⟩:=he
 have hk:∀ (j:Nat) (cs:Array Value) (t:TypeId) (fr:Nat × Nat),W.heap[j]?=some (.cells cs t fr)→¬ Pt t→W'.heap[j]?=some (.cells cs t fr):=fun j cs2 t2 fr2 hj ht=>by
  by_cases hb:j=b
  ·subst hb;rw [h4,← hs];exact hj
  ·exact h3.keep hj (.inr ht) hb
 exact ⟨h1,h2,h.low.trans h3.low,hk tb _ _ _ h.box (by decide),fun j cs t fr hj ht=>hk j cs t fr (h.keep j cs t fr hj ht) ht⟩
theorem Wp.size (h:Wp w0 V0 wb tb c l k W):w0.heap.size≤W.heap.size:=h.low.size
theorem fit_ok {α:Type} {r:Except Flt α} {y:α} (h:r=.ok y):Fit r:=by rw [h];intro e;cases e
theorem runs_num {L:List Value} {size most x:Int} {j:Nat} (h:L[j]?=some (I x)) (l:List Nat) (k:Nat):Sp.run WP L (l,k+1) (.num size most j)=.ok (L,(l++low (lim size 8) x,k)):=by
 simp only [Sp.run,h]
 exact congrArg (fun z=>Except.ok (z,(l++low (lim size 8) x,k))) (set_same h)
theorem runs_nums {L:List Value} {size most:Int}:∀ (ps:List (Nat × Int)) (l:List Nat) (k:Nat),(∀ p ∈ ps,L[p.1]?=some (I p.2))→runs WP (ps.map fun p=>.num size most p.1) L (l,k+ps.length)=.ok (L,(l++puts (lim size 8) (ps.map (·.2)),k))
 | [],l,k,_=>by simp [runs,puts]
 | p :: ps,l,k,h=>by
  have h1:=runs_num (size:=size) (most:=most) (h p (by simp)) l (k+ps.length)
  have h2:=runs_nums (L:=L) (size:=size) (most:=most) ps (l++low (lim size 8) p.2) k (fun q hq=>h q (by simp [hq]))
  rw [List.map_cons]
  have h3:=runs_ok h1 h2
  rw [show k+(p :: ps).length=k+ps.length+1 by simp;omega]
  rw [h3]
  simp [puts]
theorem one_low (b:Bool):low 1 (Cd.one b)=[if b=true then 1 else 0]:=by cases b <;> decide +kernel
abbrev phS:List Sp:=(([]:List Sp)++([.flg 0])++(([1,2,3,4,5,6,7,8,9]:List Nat).map (.num 2 9999))++([.num 1 3 10])++([.flg 11])++([.flg 12]))
theorem ph_runs (p:Ph) (l:List Nat) (k:Nat):runs WP phS p.cells (l,k+13)=.ok (p.cells,(l++phB p,k)):=by
 have h:runs WP phS p.cells (l,k+13)=.ok (p.cells,(l++[if p.on=true then 1 else 0]++low 2 p.min++low 2 p.gap++low 2 p.max++low 2 p.top++low 2 p.step++low 2 p.yellow++low 2 p.red++low 2 p.walk++low 2 p.blinks++low 1 p.recall++[if p.lock=true then 1 else 0]++[if p.rest=true then 1 else 0],k)):=rfl
 rw [h]
 refine congrArg (fun z=>Except.ok (p.cells,(z,k))) ?_
 simp [phB,puts,one_low]
abbrev rlS:List Sp:=(([]:List Sp)++(([0,1,2,3]:List Nat).map (.num 1 255))++(([4,5,6,7,8,9]:List Nat).map (.num 2 9999))++(([10]:List Nat).map (.num 4 2147483647)))
theorem rl_runs (p:Rl) (l:List Nat) (k:Nat):runs WP rlS p.cells (l,k+11)=.ok (p.cells,(l++rlB p,k)):=by
 have h:runs WP rlS p.cells (l,k+11)=.ok (p.cells,(l++low 1 p.bars++low 1 p.clear++low 1 p.dwell++low 1 p.exit++low 2 p.delay++low 2 p.green++low 2 p.foot++low 2 p.hold++low 2 p.stay++low 2 p.most++low 4 p.limit,k)):=rfl
 rw [h]
 refine congrArg (fun z=>Except.ok (p.cells,(z,k))) ?_
 simp [rlB,puts,one_low]
abbrev bsS:List Sp:=(([]:List Sp)++(([0]:List Nat).map (.num 1 255))++(([1]:List Nat).map (.num 2 9999)))
theorem bs_runs (p:Bs) (l:List Nat) (k:Nat):runs WP bsS p.cells (l,k+2)=.ok (p.cells,(l++bsB p,k)):=by
 have h:runs WP bsS p.cells (l,k+2)=.ok (p.cells,(l++low 1 p.set++low 2 p.lock,k)):=rfl
 rw [h]
 refine congrArg (fun z=>Except.ok (p.cells,(z,k))) ?_
 simp [bsB,puts,one_low]
abbrev detS:List Sp:=(([]:List Sp)++([.num 1 7 0])++([.flt true 1])++([.flt true 2])++([.flt false 3])++([.flt false 4])++(([5,6]:List Nat).map (.num 2 9999)))
theorem det_runs (p:Det) (l:List Nat) (k:Nat):runs WP detS p.cells (l,k+7)=.ok (p.cells,(l++detB p,k)):=by
 have h:runs WP detS p.cells (l,k+7)=.ok (p.cells,(l++low 1 p.phase++low 8 (p.on:Int)++low 8 (p.off:Int)++low 8 (p.delay:Int)++low 8 (p.extend:Int)++low 2 p.maxOn++low 2 p.maxOff,k)):=rfl
 rw [h]
 refine congrArg (fun z=>Except.ok (p.cells,(z,k))) ?_
 simp [detB,puts,one_low]
theorem wphase (h:Wp w0 V0 wb tb c l (k+13) W) (p:Ph) {o:Nat} (hs:wrt c o p.cells=c) (ho:o+p.cells.length≤c.size) :
  Calls Tryz.prog 47 #[wif wb,.pointer (some ⟨tb,o,none⟩)] W fun e W'=>e=.returned (.tuple #[])∧Wp w0 V0 wb tb c (l++phB p) k W' :=
 (phase_any wport (l:=p.cells) (cs:=c) (o:=o) (b:=tb) (t:=33) (fr:=(0,0)) (s:=(l,k+13)) rfl h.st h.size trivial (.inr (by decide)) ho (by rw [hs];exact h.box) (fit_ok (ph_runs p l k))).mono fun e W' he=>by
  rw [show runs WP phS p.cells (l,k+13)=_ from ph_runs p l k] at he
  exact h.of_ends he (by rw [hs];exact h.box)
theorem wrt_all (c:Array Value):wrt c 0 c.toList=c:=wrt_same (by simp) (by intro j hj;simp)
theorem wnum (h:Wp w0 V0 wb tb c l (k+1) W) (size most:Int) {j:Nat} {x:Int} (hx:c[j]?=some (I x)) :
  Calls Tryz.prog 158 #[wrv wb,.int .i64 size,.int .i64 most,.pointer (some ⟨tb,j,none⟩)] W fun e W'=>e=.returned (.tuple #[])∧Wp w0 V0 wb tb c (l++low (lim size 8) x) k W':=by
 have hx':c.toList[j]?=some (I x):=by rw [Array.getElem?_toList];exact hx
 have hr:=runs_num (size:=size) (most:=most) hx' l k
 have hc:=wport.num (l,k+1) W tb 0 c 33 (0,0) c.toList size most j x h.st h.size trivial (.inr (by decide)) (by simp) (by rw [wrt_all];exact h.box) hx' (fit_ok hr)
 rw [Nat.zero_add] at hc
 refine hc.mono fun e W' he=>?_
 rw [hr] at he
 exact h.of_ends he (by rw [wrt_all];exact h.box)
theorem wsets {n:Nat} (h:Wp w0 V0 wb tb c l (k+n) W) {lb cap:Nat} {fr2:Nat × Nat} (ps:List (Nat × Int)) (hn:ps.length=n) (hn2:n≤1000) (hx:∀ p ∈ ps,c[p.1]?=some (I p.2))
  (hlb:W.heap[lb]?=some (.cells (ps.map fun p=>Value.pointer (some ⟨tb,p.1,none⟩)).toArray 105 fr2)) (hcap:n≤cap) :
  Calls Tryz.prog 50 #[wif wb,.slice (some ⟨lb,0,none⟩) n cap] W fun e W'=>e=.returned (.tuple #[])∧Wp w0 V0 wb tb c (l++puts 1 (ps.map (·.2))) k W':=by
 subst hn
 have hx':∀ p ∈ ps,c.toList[p.1]?=some (I p.2):=fun p hp=>by rw [Array.getElem?_toList];exact hx p hp
 have hr:runs WP ((ps.map (·.1)).map (.num 1 255)) c.toList (l,k+ps.length)=.ok (c.toList,(l++puts 1 (ps.map (·.2)),k)):=by rw [List.map_map];exact runs_nums ps l k hx'
 have hne:lb ≠ tb:=fun e=>by subst e;rw [h.box] at hlb;cases hlb
 refine (sets_any wport (b:=tb) (o:=0) (cs:=c) (t:=33) (fr:=(0,0)) (fr2:=fr2) (lb:=lb) (cap:=cap) (l:=c.toList) (s:=(l,k+ps.length)) (ps.map (·.1)) (List.length_map _) hn2 h.st h.size trivial (.inr (by decide)) (by simp) (by rw [wrt_all];exact h.box) (fun j hj=>by
  obtain ⟨p,hp,rfl⟩:=List.mem_map.1 hj
  exact ⟨p.2,hx' p hp⟩) (by rw [hlb];unfold ptrs;rw [List.map_map];simp only [Function.comp_def,Nat.zero_add]) hne hcap (fit_ok hr)).mono fun e W' he=>?_
 rw [hr] at he
 exact h.of_ends he (by rw [wrt_all];exact h.box)
theorem wtimes {n:Nat} (h:Wp w0 V0 wb tb c l (k+n) W) {lb cap:Nat} {fr2:Nat × Nat} (ps:List (Nat × Int)) (hn:ps.length=n) (hn2:n≤1000) (hx:∀ p ∈ ps,c[p.1]?=some (I p.2))
  (hlb:W.heap[lb]?=some (.cells (ps.map fun p=>Value.pointer (some ⟨tb,p.1,none⟩)).toArray 105 fr2)) (hcap:n≤cap) :
  Calls Tryz.prog 57 #[wif wb,.slice (some ⟨lb,0,none⟩) n cap] W fun e W'=>e=.returned (.tuple #[])∧Wp w0 V0 wb tb c (l++puts 2 (ps.map (·.2))) k W':=by
 subst hn
 have hx':∀ p ∈ ps,c.toList[p.1]?=some (I p.2):=fun p hp=>by rw [Array.getElem?_toList];exact hx p hp
 have hr:runs WP ((ps.map (·.1)).map (.num 2 9999)) c.toList (l,k+ps.length)=.ok (c.toList,(l++puts 2 (ps.map (·.2)),k)):=by rw [List.map_map];exact runs_nums ps l k hx'
 have hne:lb ≠ tb:=fun e=>by subst e;rw [h.box] at hlb;cases hlb
 refine (times_any wport (b:=tb) (o:=0) (cs:=c) (t:=33) (fr:=(0,0)) (fr2:=fr2) (lb:=lb) (cap:=cap) (l:=c.toList) (s:=(l,k+ps.length)) (ps.map (·.1)) (List.length_map _) hn2 h.st h.size trivial (.inr (by decide)) (by simp) (by rw [wrt_all];exact h.box) (fun j hj=>by
  obtain ⟨p,hp,rfl⟩:=List.mem_map.1 hj
  exact ⟨p.2,hx' p hp⟩) (by rw [hlb];unfold ptrs;rw [List.map_map];simp only [Function.comp_def,Nat.zero_add]) hne hcap (fit_ok hr)).mono fun e W' he=>?_
 rw [hr] at he
 exact h.of_ends he (by rw [wrt_all];exact h.box)
theorem wticks {n:Nat} (h:Wp w0 V0 wb tb c l (k+n) W) {lb cap:Nat} {fr2:Nat × Nat} (ps:List (Nat × Int)) (hn:ps.length=n) (hn2:n≤1000) (hx:∀ p ∈ ps,c[p.1]?=some (I p.2))
  (hlb:W.heap[lb]?=some (.cells (ps.map fun p=>Value.pointer (some ⟨tb,p.1,none⟩)).toArray 105 fr2)) (hcap:n≤cap) :
  Calls Tryz.prog 58 #[wif wb,.slice (some ⟨lb,0,none⟩) n cap] W fun e W'=>e=.returned (.tuple #[])∧Wp w0 V0 wb tb c (l++puts 4 (ps.map (·.2))) k W':=by
 subst hn
 have hx':∀ p ∈ ps,c.toList[p.1]?=some (I p.2):=fun p hp=>by rw [Array.getElem?_toList];exact hx p hp
 have hr:runs WP ((ps.map (·.1)).map (.num 4 2147483647)) c.toList (l,k+ps.length)=.ok (c.toList,(l++puts 4 (ps.map (·.2)),k)):=by rw [List.map_map];exact runs_nums ps l k hx'
 have hne:lb ≠ tb:=fun e=>by subst e;rw [h.box] at hlb;cases hlb
 refine (ticks_any wport (b:=tb) (o:=0) (cs:=c) (t:=33) (fr:=(0,0)) (fr2:=fr2) (lb:=lb) (cap:=cap) (l:=c.toList) (s:=(l,k+ps.length)) (ps.map (·.1)) (List.length_map _) hn2 h.st h.size trivial (.inr (by decide)) (by simp) (by rw [wrt_all];exact h.box) (fun j hj=>by
  obtain ⟨p,hp,rfl⟩:=List.mem_map.1 hj
  exact ⟨p.2,hx' p hp⟩) (by rw [hlb];unfold ptrs;rw [List.map_map];simp only [Function.comp_def,Nat.zero_add]) hne hcap (fit_ok hr)).mono fun e W' he=>?_
 rw [hr] at he
 exact h.of_ends he (by rw [wrt_all];exact h.box)
end
end Po
namespace Po
open Go Go.RowKit
open Tab
open Cd (puts phB detB rlB bsB rowB grB listB)
open Put (low lim)
section
variable {w0 V0:World} {wb tb:Nat} {c:Array Value} {l:List Nat} {k:Nat} {W W':World}
theorem wnum_own (h:Wp w0 V0 wb tb c l (k+1) W) (size most:Int) {nb:Nat} {x:Int} (hn:W.heap[nb]?=some (.cells #[I x] 3 (0,0))) :
  Calls Tryz.prog 158 #[wrv wb,.int .i64 size,.int .i64 most,.pointer (some ⟨nb,0,none⟩)] W fun e W'=>e=.returned (.tuple #[])∧Wp w0 V0 wb tb c (l++low (lim size 8) x) k W'∧W'.heap[nb]?=some (.cells #[I x] 3 (0,0)):=by
 have hr:=runs_num (L:=[I x]) (size:=size) (most:=most) (j:=0) rfl l k
 have hw:wrt #[I x] 0 [I x]=#[I x]:=wrt_same (by simp) (by intro j hj;match j,hj with | 0,_=>rfl)
 have hc:=wport.num (l,k+1) W nb 0 #[I x] 3 (0,0) [I x] size most 0 x h.st h.size trivial (.inr (by decide)) (by simp) (by rw [hw];exact hn) rfl (fit_ok hr)
 refine hc.mono fun e W' he=>?_
 rw [hr] at he
 have hne:nb ≠ tb:=fun e=>by subst e;rw [h.box] at hn;cases hn
 obtain ⟨h1,h2⟩:=h.of_ends he (by rw [hw];exact hn)
 exact ⟨h1,h2,by have:=he.2.2.2;rwa [hw] at this⟩
theorem wlI {F:FuncId} (en':∀ (args:Array Value) (w:World),(callFunc F args).run Tryz.prog w=.ok (.enter F args) w) {E:Nat} {gy:Nat→List Nat} {n cap cb oc:Nat} {a:Option Addr} {b o:Nat} (most:Int)
  (h:Wp w0 V0 wb tb c l (k+(1+n*E)) W) (hn:n≤1000) (HC:Hid (∀ l k V,Wp w0 V0 wb tb c l k V→V.cell? ⟨cb,oc,none⟩=some (.slice a n cap))) (HA:Hid (0 < n→a=some ⟨b,o,none⟩))
  (EF:Hid (∀ q,q < n→∀ l k V,Wp w0 V0 wb tb c l (k+E) V→Calls Tryz.prog F #[wif wb,.pointer (some ⟨b,o+q,none⟩)] V fun e V'=>e=.returned (.tuple #[])∧Wp w0 V0 wb tb c (l++gy q) k V')) :
  Calls Tryz.prog 92 #[wif wb,.int .i64 most,.pointer (some ⟨cb,oc,none⟩),.func (.func F) #[] #[]] W fun e W'=>e=.returned (.tuple #[])∧Wp w0 V0 wb tb c (l++(low 1 n++(List.range n).flatMap gy)) k W':=by
 have hm:=(wport (B:=0) (wb:=wb)).mn
 have en:=(wport (B:=0) (wb:=wb)).en
 have k1:=HC.out _ _ _ h
 have hb1:Below W.heap.size W (W.alloc (.cells #[I (n:Int)] 3)):=(Below.refl _ _).alloc (Nat.le_refl _) _
 have hc:=Lib.hid (wnum_own (k:=k+n*E) ((show Wp w0 V0 wb tb c l (k+n*E+1) W from by rw [Nat.add_assoc,Nat.add_comm (n*E)];exact h).mem hb1) 1 most (heap_alloc_new W _))
 clear hb1 h
 go_enter Tryz.func92,Tryz.ntmps92
 go_upto_region 1 with fail
 generalize World.alloc W _=W1 at hc ⊢
 generalize W.heap.size=nb at hc ⊢
 go_wp2_with fail
 refine hc.out.mono ?_
 rintro e W2 ⟨rfl,h2,hn2⟩
 clear k1 hc
 have kn:W2.cell? ⟨nb,0,none⟩=some (I (n:Int)):=by rw [cell_of_row _ _ _ _ _ _ hn2];rfl
 have k1:=HC.out _ _ _ h2
 have H2:=Lib.hid h2
 clear h2 hn2
 go_upto_region 2 with fail
 have q1:∀ p:QB.By W2.heap.size W2,p.world.cell? ⟨nb,0,none⟩=some (I (n:Int)):=fun p=>(p.below.cell (World.block_lt_of_cell? W2 _ kn)).trans kn
 have q2:∀ p:QB.By W2.heap.size W2,p.world.cell? ⟨cb,oc,none⟩=some (.slice a n cap):=fun p=>(p.below.cell (World.block_lt_of_cell? W2 _ k1)).trans k1
 have hne:((n:Int) != (n:Int))=false:=by simp
 refine QB.region_below W2.heap.size (by kernel_rfl) (by kernel_rfl) ?_
 repeat (quiet_step (fail))
 refine wpQuiet_nil ?_
 intro _ hw'
 obtain ⟨p,rfl⟩:=hw'
 have k2:=q2 p
 have HV:=Lib.hid (H2.out.mem p.below)
 clear q1 q2 kn k1 H2 hne
 generalize p.world=V at k2 HV ⊢
 go_wp2_with fail
 go_loopw [31] (fun i wr=>∃ q:Nat,q≤n∧i=.int .i64 (q:Int)∧Wp w0 V0 wb tb c (l++(low 1 n++(List.range q).flatMap gy)) (k+(n - q)*E) wr) (fun i _=>n - (intOf i).toNat)
 case atStart=>exact ⟨0,by omega,rfl,by have:Wp w0 V0 wb tb c (l++low 1 (n:Int)) (k+n*E) V:=HV.out;rw [Nat.sub_zero];simpa using this⟩
 case round =>
  obtain ⟨q,hq,rfl,hw⟩:=hrel
  have HW:=Lib.hid hw
  clear hw k2
  by_cases hlt:q < n
  ·obtain rfl:=HA.out (by omega)
   have kc:=HC.out _ _ _ HW.out
   have hcall:=Lib.hid (EF.out q hlt _ (k+(n - (q+1))*E) wr (by
    have:=HW.out
    rw [show n - q=n - (q+1)+1 by omega,Nat.add_mul,Nat.one_mul,← Nat.add_assoc] at this
    exact this))
   clear HV
   go_wp2_with fail
   refine hcall.out.mono ?_
   rintro e W' ⟨rfl,h3⟩
   have H3:=Lib.hid h3
   clear h3 kc
   go_wp2
   go_roundw
   case rel=>exact ⟨q+1,by omega,by go_num,by have:=H3.out;rw [List.range_succ,List.flatMap_append,List.flatMap_singleton];simpa only [List.append_assoc] using this⟩
   case measure=>simp [intOf];omega
  ·obtain rfl:n=q:=by omega
   go_wp2
   go_end0
   exact ⟨rfl,HW.out.less (by omega)⟩
theorem wlG {F:FuncId} (en':∀ (args:Array Value) (w:World),(callFunc F args).run Tryz.prog w=.ok (.enter F args) w) {E:Nat} {gy:Nat→List Nat} {n cap cb oc:Nat} {a:Option Addr} {b o:Nat} (most:Int)
  (h:Wp w0 V0 wb tb c l (k+(1+n*E)) W) (hn:n≤1000) (HC:Hid (∀ l k V,Wp w0 V0 wb tb c l k V→V.cell? ⟨cb,oc,none⟩=some (.slice a n cap))) (HA:Hid (0 < n→a=some ⟨b,o,none⟩))
  (EF:Hid (∀ q,q < n→∀ l k V,Wp w0 V0 wb tb c l (k+E) V→Calls Tryz.prog F #[wif wb,.pointer (some ⟨b,o+q*2,none⟩)] V fun e V'=>e=.returned (.tuple #[])∧Wp w0 V0 wb tb c (l++gy q) k V')) :
  Calls Tryz.prog 48 #[wif wb,.int .i64 most,.pointer (some ⟨cb,oc,none⟩),.func (.func F) #[] #[]] W fun e W'=>e=.returned (.tuple #[])∧Wp w0 V0 wb tb c (l++(low 1 n++(List.range n).flatMap gy)) k W':=by
 have hm:=(wport (B:=0) (wb:=wb)).mn
 have en:=(wport (B:=0) (wb:=wb)).en
 have k1:=HC.out _ _ _ h
 have hb1:Below W.heap.size W (W.alloc (.cells #[I (n:Int)] 3)):=(Below.refl _ _).alloc (Nat.le_refl _) _
 have hc:=Lib.hid (wnum_own (k:=k+n*E) ((show Wp w0 V0 wb tb c l (k+n*E+1) W from by rw [Nat.add_assoc,Nat.add_comm (n*E)];exact h).mem hb1) 1 most (heap_alloc_new W _))
 clear hb1 h
 go_enter Tryz.func48,Tryz.ntmps48
 go_upto_region 1 with fail
 generalize World.alloc W _=W1 at hc ⊢
 generalize W.heap.size=nb at hc ⊢
 go_wp2_with fail
 refine hc.out.mono ?_
 rintro e W2 ⟨rfl,h2,hn2⟩
 clear k1 hc
 have kn:W2.cell? ⟨nb,0,none⟩=some (I (n:Int)):=by rw [cell_of_row _ _ _ _ _ _ hn2];rfl
 have k1:=HC.out _ _ _ h2
 have H2:=Lib.hid h2
 clear h2 hn2
 go_upto_region 2 with fail
 have q1:∀ p:QB.By W2.heap.size W2,p.world.cell? ⟨nb,0,none⟩=some (I (n:Int)):=fun p=>(p.below.cell (World.block_lt_of_cell? W2 _ kn)).trans kn
 have q2:∀ p:QB.By W2.heap.size W2,p.world.cell? ⟨cb,oc,none⟩=some (.slice a n cap):=fun p=>(p.below.cell (World.block_lt_of_cell? W2 _ k1)).trans k1
 have hne:((n:Int) != (n:Int))=false:=by simp
 refine QB.region_below W2.heap.size (by kernel_rfl) (by kernel_rfl) ?_
 repeat (quiet_step (fail))
 refine wpQuiet_nil ?_
 intro _ hw'
 obtain ⟨p,rfl⟩:=hw'
 have k2:=q2 p
 have HV:=Lib.hid (H2.out.mem p.below)
 clear q1 q2 kn k1 H2 hne
 generalize p.world=V at k2 HV ⊢
 go_wp2_with fail
 go_loopw [31] (fun i wr=>∃ q:Nat,q≤n∧i=.int .i64 (q:Int)∧Wp w0 V0 wb tb c (l++(low 1 n++(List.range q).flatMap gy)) (k+(n - q)*E) wr) (fun i _=>n - (intOf i).toNat)
 case atStart=>exact ⟨0,by omega,rfl,by have:Wp w0 V0 wb tb c (l++low 1 (n:Int)) (k+n*E) V:=HV.out;rw [Nat.sub_zero];simpa using this⟩
 case round =>
  obtain ⟨q,hq,rfl,hw⟩:=hrel
  have HW:=Lib.hid hw
  clear hw k2
  by_cases hlt:q < n
  ·obtain rfl:=HA.out (by omega)
   have kc:=HC.out _ _ _ HW.out
   have hcall:=Lib.hid (EF.out q hlt _ (k+(n - (q+1))*E) wr (by
    have:=HW.out
    rw [show n - q=n - (q+1)+1 by omega,Nat.add_mul,Nat.one_mul,← Nat.add_assoc] at this
    exact this))
   clear HV
   go_wp2_with fail
   refine hcall.out.mono ?_
   rintro e W' ⟨rfl,h3⟩
   have H3:=Lib.hid h3
   clear h3 kc
   go_wp2
   go_roundw
   case rel=>exact ⟨q+1,by omega,by go_num,by have:=H3.out;rw [List.range_succ,List.flatMap_append,List.flatMap_singleton];simpa only [List.append_assoc] using this⟩
   case measure=>simp [intOf];omega
  ·obtain rfl:n=q:=by omega
   go_wp2
   go_end0
   exact ⟨rfl,HW.out.less (by omega)⟩
theorem wlD {F:FuncId} (en':∀ (args:Array Value) (w:World),(callFunc F args).run Tryz.prog w=.ok (.enter F args) w) {E:Nat} {gy:Nat→List Nat} {n cap cb oc:Nat} {a:Option Addr} {b o:Nat} (most:Int)
  (h:Wp w0 V0 wb tb c l (k+(1+n*E)) W) (hn:n≤1000) (HC:Hid (∀ l k V,Wp w0 V0 wb tb c l k V→V.cell? ⟨cb,oc,none⟩=some (.slice a n cap))) (HA:Hid (0 < n→a=some ⟨b,o,none⟩))
  (EF:Hid (∀ q,q < n→∀ l k V,Wp w0 V0 wb tb c l (k+E) V→Calls Tryz.prog F #[wif wb,.pointer (some ⟨b,o+q*7,none⟩)] V fun e V'=>e=.returned (.tuple #[])∧Wp w0 V0 wb tb c (l++gy q) k V')) :
  Calls Tryz.prog 51 #[wif wb,.int .i64 most,.pointer (some ⟨cb,oc,none⟩),.func (.func F) #[] #[]] W fun e W'=>e=.returned (.tuple #[])∧Wp w0 V0 wb tb c (l++(low 1 n++(List.range n).flatMap gy)) k W':=by
 have hm:=(wport (B:=0) (wb:=wb)).mn
 have en:=(wport (B:=0) (wb:=wb)).en
 have k1:=HC.out _ _ _ h
 have hb1:Below W.heap.size W (W.alloc (.cells #[I (n:Int)] 3)):=(Below.refl _ _).alloc (Nat.le_refl _) _
 have hc:=Lib.hid (wnum_own (k:=k+n*E) ((show Wp w0 V0 wb tb c l (k+n*E+1) W from by rw [Nat.add_assoc,Nat.add_comm (n*E)];exact h).mem hb1) 1 most (heap_alloc_new W _))
 clear hb1 h
 go_enter Tryz.func51,Tryz.ntmps51
 go_upto_region 1 with fail
 generalize World.alloc W _=W1 at hc ⊢
 generalize W.heap.size=nb at hc ⊢
 go_wp2_with fail
 refine hc.out.mono ?_
 rintro e W2 ⟨rfl,h2,hn2⟩
 clear k1 hc
 have kn:W2.cell? ⟨nb,0,none⟩=some (I (n:Int)):=by rw [cell_of_row _ _ _ _ _ _ hn2];rfl
 have k1:=HC.out _ _ _ h2
 have H2:=Lib.hid h2
 clear h2 hn2
 go_upto_region 2 with fail
 have q1:∀ p:QB.By W2.heap.size W2,p.world.cell? ⟨nb,0,none⟩=some (I (n:Int)):=fun p=>(p.below.cell (World.block_lt_of_cell? W2 _ kn)).trans kn
 have q2:∀ p:QB.By W2.heap.size W2,p.world.cell? ⟨cb,oc,none⟩=some (.slice a n cap):=fun p=>(p.below.cell (World.block_lt_of_cell? W2 _ k1)).trans k1
 have hne:((n:Int) != (n:Int))=false:=by simp
 refine QB.region_below W2.heap.size (by kernel_rfl) (by kernel_rfl) ?_
 repeat (quiet_step (fail))
 refine wpQuiet_nil ?_
 intro _ hw'
 obtain ⟨p,rfl⟩:=hw'
 have k2:=q2 p
 have HV:=Lib.hid (H2.out.mem p.below)
 clear q1 q2 kn k1 H2 hne
 generalize p.world=V at k2 HV ⊢
 go_wp2_with fail
 go_loopw [31] (fun i wr=>∃ q:Nat,q≤n∧i=.int .i64 (q:Int)∧Wp w0 V0 wb tb c (l++(low 1 n++(List.range q).flatMap gy)) (k+(n - q)*E) wr) (fun i _=>n - (intOf i).toNat)
 case atStart=>exact ⟨0,by omega,rfl,by have:Wp w0 V0 wb tb c (l++low 1 (n:Int)) (k+n*E) V:=HV.out;rw [Nat.sub_zero];simpa using this⟩
 case round =>
  obtain ⟨q,hq,rfl,hw⟩:=hrel
  have HW:=Lib.hid hw
  clear hw k2
  by_cases hlt:q < n
  ·obtain rfl:=HA.out (by omega)
   have kc:=HC.out _ _ _ HW.out
   have hcall:=Lib.hid (EF.out q hlt _ (k+(n - (q+1))*E) wr (by
    have:=HW.out
    rw [show n - q=n - (q+1)+1 by omega,Nat.add_mul,Nat.one_mul,← Nat.add_assoc] at this
    exact this))
   clear HV
   go_wp2_with fail
   refine hcall.out.mono ?_
   rintro e W' ⟨rfl,h3⟩
   have H3:=Lib.hid h3
   clear h3 kc
   go_wp2
   go_roundw
   case rel=>exact ⟨q+1,by omega,by go_num,by have:=H3.out;rw [List.range_succ,List.flatMap_append,List.flatMap_singleton];simpa only [List.append_assoc] using this⟩
   case measure=>simp [intOf];omega
  ·obtain rfl:n=q:=by omega
   go_wp2
   go_end0
   exact ⟨rfl,HW.out.less (by omega)⟩
theorem wlR {F:FuncId} (en':∀ (args:Array Value) (w:World),(callFunc F args).run Tryz.prog w=.ok (.enter F args) w) {E:Nat} {gy:Nat→List Nat} {n cap cb oc:Nat} {a:Option Addr} {b o:Nat} (most:Int)
  (h:Wp w0 V0 wb tb c l (k+(1+n*E)) W) (hn:n≤1000) (HC:Hid (∀ l k V,Wp w0 V0 wb tb c l k V→V.cell? ⟨cb,oc,none⟩=some (.slice a n cap))) (HA:Hid (0 < n→a=some ⟨b,o,none⟩))
  (EF:Hid (∀ q,q < n→∀ l k V,Wp w0 V0 wb tb c l (k+E) V→Calls Tryz.prog F #[wif wb,.pointer (some ⟨b,o+q*11,none⟩)] V fun e V'=>e=.returned (.tuple #[])∧Wp w0 V0 wb tb c (l++gy q) k V')) :
  Calls Tryz.prog 53 #[wif wb,.int .i64 most,.pointer (some ⟨cb,oc,none⟩),.func (.func F) #[] #[]] W fun e W'=>e=.returned (.tuple #[])∧Wp w0 V0 wb tb c (l++(low 1 n++(List.range n).flatMap gy)) k W':=by
 have hm:=(wport (B:=0) (wb:=wb)).mn
 have en:=(wport (B:=0) (wb:=wb)).en
 have k1:=HC.out _ _ _ h
 have hb1:Below W.heap.size W (W.alloc (.cells #[I (n:Int)] 3)):=(Below.refl _ _).alloc (Nat.le_refl _) _
 have hc:=Lib.hid (wnum_own (k:=k+n*E) ((show Wp w0 V0 wb tb c l (k+n*E+1) W from by rw [Nat.add_assoc,Nat.add_comm (n*E)];exact h).mem hb1) 1 most (heap_alloc_new W _))
 clear hb1 h
 go_enter Tryz.func53,Tryz.ntmps53
 go_upto_region 1 with fail
 generalize World.alloc W _=W1 at hc ⊢
 generalize W.heap.size=nb at hc ⊢
 go_wp2_with fail
 refine hc.out.mono ?_
 rintro e W2 ⟨rfl,h2,hn2⟩
 clear k1 hc
 have kn:W2.cell? ⟨nb,0,none⟩=some (I (n:Int)):=by rw [cell_of_row _ _ _ _ _ _ hn2];rfl
 have k1:=HC.out _ _ _ h2
 have H2:=Lib.hid h2
 clear h2 hn2
 go_upto_region 2 with fail
 have q1:∀ p:QB.By W2.heap.size W2,p.world.cell? ⟨nb,0,none⟩=some (I (n:Int)):=fun p=>(p.below.cell (World.block_lt_of_cell? W2 _ kn)).trans kn
 have q2:∀ p:QB.By W2.heap.size W2,p.world.cell? ⟨cb,oc,none⟩=some (.slice a n cap):=fun p=>(p.below.cell (World.block_lt_of_cell? W2 _ k1)).trans k1
 have hne:((n:Int) != (n:Int))=false:=by simp
 refine QB.region_below W2.heap.size (by kernel_rfl) (by kernel_rfl) ?_
 repeat (quiet_step (fail))
 refine wpQuiet_nil ?_
 intro _ hw'
 obtain ⟨p,rfl⟩:=hw'
 have k2:=q2 p
 have HV:=Lib.hid (H2.out.mem p.below)
 clear q1 q2 kn k1 H2 hne
 generalize p.world=V at k2 HV ⊢
 go_wp2_with fail
 go_loopw [31] (fun i wr=>∃ q:Nat,q≤n∧i=.int .i64 (q:Int)∧Wp w0 V0 wb tb c (l++(low 1 n++(List.range q).flatMap gy)) (k+(n - q)*E) wr) (fun i _=>n - (intOf i).toNat)
 case atStart=>exact ⟨0,by omega,rfl,by have:Wp w0 V0 wb tb c (l++low 1 (n:Int)) (k+n*E) V:=HV.out;rw [Nat.sub_zero];simpa using this⟩
 case round =>
  obtain ⟨q,hq,rfl,hw⟩:=hrel
  have HW:=Lib.hid hw
  clear hw k2
  by_cases hlt:q < n
  ·obtain rfl:=HA.out (by omega)
   have kc:=HC.out _ _ _ HW.out
   have hcall:=Lib.hid (EF.out q hlt _ (k+(n - (q+1))*E) wr (by
    have:=HW.out
    rw [show n - q=n - (q+1)+1 by omega,Nat.add_mul,Nat.one_mul,← Nat.add_assoc] at this
    exact this))
   clear HV
   go_wp2_with fail
   refine hcall.out.mono ?_
   rintro e W' ⟨rfl,h3⟩
   have H3:=Lib.hid h3
   clear h3 kc
   go_wp2
   go_roundw
   case rel=>exact ⟨q+1,by omega,by go_num,by have:=H3.out;rw [List.range_succ,List.flatMap_append,List.flatMap_singleton];simpa only [List.append_assoc] using this⟩
   case measure=>simp [intOf];omega
  ·obtain rfl:n=q:=by omega
   go_wp2
   go_end0
   exact ⟨rfl,HW.out.less (by omega)⟩
theorem wlS {F:FuncId} (en':∀ (args:Array Value) (w:World),(callFunc F args).run Tryz.prog w=.ok (.enter F args) w) {E:Nat} {gy:Nat→List Nat} {n cap cb oc:Nat} {a:Option Addr} {b o:Nat} (most:Int)
  (h:Wp w0 V0 wb tb c l (k+(1+n*E)) W) (hn:n≤1000) (HC:Hid (∀ l k V,Wp w0 V0 wb tb c l k V→V.cell? ⟨cb,oc,none⟩=some (.slice a n cap))) (HA:Hid (0 < n→a=some ⟨b,o,none⟩))
  (EF:Hid (∀ q,q < n→∀ l k V,Wp w0 V0 wb tb c l (k+E) V→Calls Tryz.prog F #[wif wb,.pointer (some ⟨b,o+q*2,none⟩)] V fun e V'=>e=.returned (.tuple #[])∧Wp w0 V0 wb tb c (l++gy q) k V')) :
  Calls Tryz.prog 55 #[wif wb,.int .i64 most,.pointer (some ⟨cb,oc,none⟩),.func (.func F) #[] #[]] W fun e W'=>e=.returned (.tuple #[])∧Wp w0 V0 wb tb c (l++(low 1 n++(List.range n).flatMap gy)) k W':=by
 have hm:=(wport (B:=0) (wb:=wb)).mn
 have en:=(wport (B:=0) (wb:=wb)).en
 have k1:=HC.out _ _ _ h
 have hb1:Below W.heap.size W (W.alloc (.cells #[I (n:Int)] 3)):=(Below.refl _ _).alloc (Nat.le_refl _) _
 have hc:=Lib.hid (wnum_own (k:=k+n*E) ((show Wp w0 V0 wb tb c l (k+n*E+1) W from by rw [Nat.add_assoc,Nat.add_comm (n*E)];exact h).mem hb1) 1 most (heap_alloc_new W _))
 clear hb1 h
 go_enter Tryz.func55,Tryz.ntmps55
 go_upto_region 1 with fail
 generalize World.alloc W _=W1 at hc ⊢
 generalize W.heap.size=nb at hc ⊢
 go_wp2_with fail
 refine hc.out.mono ?_
 rintro e W2 ⟨rfl,h2,hn2⟩
 clear k1 hc
 have kn:W2.cell? ⟨nb,0,none⟩=some (I (n:Int)):=by rw [cell_of_row _ _ _ _ _ _ hn2];rfl
 have k1:=HC.out _ _ _ h2
 have H2:=Lib.hid h2
 clear h2 hn2
 go_upto_region 2 with fail
 have q1:∀ p:QB.By W2.heap.size W2,p.world.cell? ⟨nb,0,none⟩=some (I (n:Int)):=fun p=>(p.below.cell (World.block_lt_of_cell? W2 _ kn)).trans kn
 have q2:∀ p:QB.By W2.heap.size W2,p.world.cell? ⟨cb,oc,none⟩=some (.slice a n cap):=fun p=>(p.below.cell (World.block_lt_of_cell? W2 _ k1)).trans k1
 have hne:((n:Int) != (n:Int))=false:=by simp
 refine QB.region_below W2.heap.size (by kernel_rfl) (by kernel_rfl) ?_
 repeat (quiet_step (fail))
 refine wpQuiet_nil ?_
 intro _ hw'
 obtain ⟨p,rfl⟩:=hw'
 have k2:=q2 p
 have HV:=Lib.hid (H2.out.mem p.below)
 clear q1 q2 kn k1 H2 hne
 generalize p.world=V at k2 HV ⊢
 go_wp2_with fail
 go_loopw [31] (fun i wr=>∃ q:Nat,q≤n∧i=.int .i64 (q:Int)∧Wp w0 V0 wb tb c (l++(low 1 n++(List.range q).flatMap gy)) (k+(n - q)*E) wr) (fun i _=>n - (intOf i).toNat)
 case atStart=>exact ⟨0,by omega,rfl,by have:Wp w0 V0 wb tb c (l++low 1 (n:Int)) (k+n*E) V:=HV.out;rw [Nat.sub_zero];simpa using this⟩
 case round =>
  obtain ⟨q,hq,rfl,hw⟩:=hrel
  have HW:=Lib.hid hw
  clear hw k2
  by_cases hlt:q < n
  ·obtain rfl:=HA.out (by omega)
   have kc:=HC.out _ _ _ HW.out
   have hcall:=Lib.hid (EF.out q hlt _ (k+(n - (q+1))*E) wr (by
    have:=HW.out
    rw [show n - q=n - (q+1)+1 by omega,Nat.add_mul,Nat.one_mul,← Nat.add_assoc] at this
    exact this))
   clear HV
   go_wp2_with fail
   refine hcall.out.mono ?_
   rintro e W' ⟨rfl,h3⟩
   have H3:=Lib.hid h3
   clear h3 kc
   go_wp2
   go_roundw
   case rel=>exact ⟨q+1,by omega,by go_num,by have:=H3.out;rw [List.range_succ,List.flatMap_append,List.flatMap_singleton];simpa only [List.append_assoc] using this⟩
   case measure=>simp [intOf];omega
  ·obtain rfl:n=q:=by omega
   go_wp2
   go_end0
   exact ⟨rfl,HW.out.less (by omega)⟩
end
end Po
end Go.Proofs.YtjdeemmaaiecnaaGreat
