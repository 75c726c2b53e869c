/- 7 texts in one file, in build order. -/
import Derived.Test.YtjdeemmaaiecnaaGreatRows
import Derived.Test.YtjdeemmaaiecnaaGreatPart06
import Derived.Test.YtjdeemmaaiecnaaGreatPart04
import Derived.Laws.AppendOwnNone
import Derived.OwnWalk
import Derived.Test.YtjdeemmaaiecnaaGreatPart05
import Derived.Test.YtjdeemmaaiecnaaGreatPart02
import Derived.Test.YtjdeemmaaiecnaaGreatPart01
import Derived.StillTailTactics
import Derived.Below
import Derived.Laws.Rows
import Derived.Laws.Tables
import Derived.Laws.CopyOwn
set_option linter.unusedVariables false
set_option linter.unusedSimpArgs false
set_option linter.unusedSectionVars false
set_option maxHeartbeats 8000000
set_option maxRecDepth 100000
namespace Go.Proofs.YtjdeemmaaiecnaaGreat
namespace By
open Go Go.RowKit
open Tab Po
open Rr (RP may)
open Put (low low_len low_lt low_mod lim)
open Nx (val be be_cons)
abbrev d0:Value:=.bool false
def encs (st:List Sp) (L:List Value):List Nat:=st.flatMap fun c=>encS c (L.getD (jS c) d0)
def sets (L:List Value):List Sp→List Value→List Value
 | [],l=>l
 | c :: st,l=>sets L st (l.set (jS c) (L.getD (jS c) d0))
def goods (st:List Sp) (L:List Value):Bool:=st.all fun c=>match L[jS c]? with
 | some v=>goodS c v
 | none=>false
def fits (st:List Sp):Bool:=st.all fitS
theorem fits_cons {c:Sp} {st:List Sp} (h:fits (c :: st)=true):fitS c=true∧fits st=true:=by
 unfold fits at h ⊢
 rwa [List.all_cons,Bool.and_eq_true] at h
section
variable {P:PP}
theorem runs_nil_inv {l L:List Value} {s s':P.σ} (h:runs P [] l s=.ok (L,s')):L=l∧s'=s:=by cases h;exact ⟨rfl,rfl⟩
theorem runs_cons_inv {c:Sp} {st:List Sp} {l:List Value} {s:P.σ} {r:List Value × P.σ} (h:runs P (c :: st) l s=.ok r):∃ l1 s1,Sp.run P l s c=.ok (l1,s1)∧runs P st l1 s1=.ok r:=by
 rw [runs] at h
 cases h1:Sp.run P l s c with
 | error f=>rw [h1] at h;cases h
 | ok q=>rw [h1] at h;exact ⟨q.1,q.2,rfl,h⟩
theorem eachs_cons_inv {st:List Sp} {x:List Value} {xs ys:List (List Value)} {s s2:P.σ} (h:eachs P st (x :: xs) s=.ok (ys,s2)):∃ x' s1 ys1,runs P st x s=.ok (x',s1)∧eachs P st xs s1=.ok (ys1,s2)∧ys=x' :: ys1:=by
 rw [eachs] at h
 cases h1:runs P st x s with
 | error f=>rw [h1] at h;cases h
 | ok q =>
  rw [h1] at h
  simp only at h
  cases h2:eachs P st xs q.2 with
  | error f=>rw [h2] at h;cases h
  | ok r=>rw [h2] at h;cases h;exact ⟨q.1,q.2,r.1,rfl,h2,rfl⟩
theorem listN_ok {most:Int} {st:List Sp} {z:List Value} {s s1:P.σ} {n:Nat} {r:List (List Value) × P.σ} (h1:P.num s 1 most 0=.ok ((n:Int),s1)) (h2:eachs P st (List.replicate n z) s1=.ok r):listN P most st z s=.ok r:=by
 unfold listN
 rw [h1]
 exact h2
theorem listN_inv {most:Int} {st:List Sp} {z:List Value} {s:P.σ} {r:List (List Value) × P.σ} (h:listN P most st z s=.ok r):∃ y s1,P.num s 1 most 0=.ok (y,s1)∧eachs P st (List.replicate y.toNat z) s1=.ok r:=by
 unfold listN at h
 cases h1:P.num s 1 most 0 with
 | error f=>rw [h1] at h;cases h
 | ok q=>rw [h1] at h;exact ⟨q.1,q.2,rfl,h⟩
theorem grpN_ok {s s1 s2:P.σ} {r0 r1:List (List Value)} (h1:rowN P s=.ok (r0,s1)) (h2:rowN P s1=.ok (r1,s2)):grpN P s=.ok ((r0,r1),s2):=by
 unfold grpN
 rw [h1]
 simp only [h2]
theorem grpN_inv {s s2:P.σ} {g:List (List Value) × List (List Value)} (h:grpN P s=.ok (g,s2)):∃ s1,rowN P s=.ok (g.1,s1)∧rowN P s1=.ok (g.2,s2):=by
 unfold grpN at h
 cases h1:rowN P s with
 | error f=>rw [h1] at h;cases h
 | ok a =>
  rw [h1] at h
  simp only at h
  cases h2:rowN P a.2 with
  | error f=>rw [h2] at h;cases h
  | ok b=>rw [h2] at h;cases h;exact ⟨a.2,rfl,h2⟩
theorem grps_succ_ok {n:Nat} {s s1 s2:P.σ} {gs:List (List (List Value) × List (List Value))} {g:List (List Value) × List (List Value)} (h1:grpsN P n s=.ok (gs,s1)) (h2:grpN P s1=.ok (g,s2)):grpsN P (n+1) s=.ok (gs++[g],s2):=by
 rw [grpsN,h1]
 simp only [h2]
theorem grps_succ_inv {n:Nat} {s s2:P.σ} {gs:List (List (List Value) × List (List Value))} (h:grpsN P (n+1) s=.ok (gs,s2)):∃ g1 s1 g,grpsN P n s=.ok (g1,s1)∧grpN P s1=.ok (g,s2)∧gs=g1++[g]:=by
 rw [grpsN] at h
 cases h1:grpsN P n s with
 | error f=>rw [h1] at h;cases h
 | ok a =>
  rw [h1] at h
  simp only at h
  cases h2:grpN P a.2 with
  | error f=>rw [h2] at h;cases h
  | ok b=>rw [h2] at h;cases h;exact ⟨a.1,a.2,b.1,rfl,h2,rfl⟩
theorem listG_ok {most:Int} {s s1:P.σ} {n:Nat} {r:List (List (List Value) × List (List Value)) × P.σ} (h1:P.num s 1 most 0=.ok ((n:Int),s1)) (h2:grpsN P n s1=.ok r):listG P most s=.ok r:=by
 unfold listG
 rw [h1]
 exact h2
theorem listG_inv {most:Int} {s:P.σ} {r:List (List (List Value) × List (List Value)) × P.σ} (h:listG P most s=.ok r):∃ y s1,P.num s 1 most 0=.ok (y,s1)∧grpsN P y.toNat s1=.ok r:=by
 unfold listG at h
 cases h1:P.num s 1 most 0 with
 | error f=>rw [h1] at h;cases h
 | ok q=>rw [h1] at h;exact ⟨q.1,q.2,rfl,h⟩
end
section
variable {bs:List Nat}
theorem runs_bwd (hb:∀ x ∈ bs,x < 256):∀ (st:List Sp) {l L:List Value} {s s':Nat},(∀ c ∈ st,∃ u,l[jS c]?=some u∧kind u=kS c)→(st.map jS).Nodup→fits st=true→s≤bs.length→runs (RP bs) st l s=.ok (L,s') →
  goods st L=true∧s'=s+(encs st L).length∧s'≤bs.length∧bs.drop s=encs st L++bs.drop s'∧∀ i,i ∉ st.map jS→L[i]?=l[i]?
 | [],l,L,s,s',hk,hn,hf,hs,h=>by
  obtain ⟨rfl,h2⟩:=runs_nil_inv h
  have h2:s'=s:=h2
  subst h2
  exact ⟨rfl,rfl,hs,rfl,fun _ _=>rfl⟩
 | c :: st,l,L,s,s',hk,hn,hf,hs,h=>by
  obtain ⟨hf1,hf2⟩:=fits_cons hf
  rw [List.map_cons,List.nodup_cons] at hn
  obtain ⟨u,hu,hku⟩:=hk c (by simp)
  obtain ⟨l1,s1,h1,h2⟩:=runs_cons_inv h
  obtain ⟨v,rfl,hgv,hs0,hs1,hd1⟩:=step_bwd hb hu hku hf1 h1
  have hk2:∀ c' ∈ st,∃ u,(l.set (jS c) v)[jS c']?=some u∧kind u=kS c':=fun c' hc'=>by
   obtain ⟨u',h2,h3⟩:=hk c' (by simp [hc'])
   refine ⟨u',?_,h3⟩
   rw [List.getElem?_set,if_neg (fun e=>hn.1 (by rw [e];exact List.mem_map_of_mem hc'))]
   exact h2
  obtain ⟨i1,i2,i3,i4,i5⟩:=runs_bwd hb st hk2 hn.2 hf2 hs1 h2
  have hLv:L[jS c]?=some v:=by
   rw [i5 _ hn.1,List.getElem?_set,if_pos rfl,if_pos (List.getElem?_eq_some_iff.1 hu).1]
  have hvd:L.getD (jS c) d0=v:=by rw [List.getD_eq_getElem?_getD,hLv];rfl
  have he:encs (c :: st) L=encS c v++encs st L:=by unfold encs;rw [List.flatMap_cons,hvd]
  refine ⟨?_,?_,i3,?_,fun i hi=>?_⟩
  ·unfold goods at i1 ⊢
   rw [List.all_cons,i1,hLv,Bool.and_true]
   exact hgv
  ·rw [he,List.length_append,i2,hs0];omega
  ·rw [he,List.append_assoc,← i4];exact hd1
  ·rw [List.map_cons,List.mem_cons,not_or] at hi
   rw [i5 i hi.2,List.getElem?_set,if_neg (fun e=>hi.1 e.symm)]
structure St (st:List Sp) (z:List Value):Prop where
 fit:fits st=true
 nd:(st.map jS).Nodup
 kd:∀ c ∈ st,∃ u,z[jS c]?=some u∧kind u=kS c
 all:∀ L,L.map kind=z.map kind→sets L st z=L
theorem eachs_bwd (hb:∀ x ∈ bs,x < 256) {st:List Sp} {z:List Value} (H:St st z):∀ (n:Nat) {ys:List (List Value)} {s s':Nat},s≤bs.length→eachs (RP bs) st (List.replicate n z) s=.ok (ys,s') →
  (∀ y ∈ ys,goods st y=true)∧s'=s+(ys.flatMap (encs st)).length∧s'≤bs.length∧bs.drop s=ys.flatMap (encs st)++bs.drop s'
 | 0,ys,s,s',hs,h=>by
  have h2:(Except.ok ([],s):Except Flt (List (List Value) × Nat))=.ok (ys,s'):=h
  cases h2
  exact ⟨fun y hy=>by simp at hy,rfl,hs,rfl⟩
 | n+1,ys,s,s',hs,h=>by
  obtain ⟨L,s1,ys1,h1,h2,rfl⟩:=eachs_cons_inv (x:=z) (xs:=List.replicate n z) h
  obtain ⟨a1,a2,a3,a4,_⟩:=runs_bwd hb st H.kd H.nd H.fit hs h1
  obtain ⟨b1,b2,b3,b4⟩:=eachs_bwd hb H n a3 h2
  refine ⟨fun y hy=>?_,?_,b3,?_⟩
  ·rcases List.mem_cons.1 hy with rfl | hy
   ·exact a1
   ·exact b1 y hy
  ·rw [List.flatMap_cons,List.length_append,b2,a2];omega
  ·rw [List.flatMap_cons,List.append_assoc,← b4];exact a4
def listE (f:List Value→List Nat) (xs:List (List Value)):List Nat:=low 1 (xs.length:Int)++xs.flatMap f
theorem lim1:lim 1 7=1:=by decide
theorem cnt_bwd (hb:∀ x ∈ bs,x < 256) {s s1:Nat} {most y:Int} (hm:0≤most) (h:(RP bs).num s 1 most 0=.ok (y,s1)):∃ n:Nat,y=n∧(n:Int)≤most∧s1=s+1∧s1≤bs.length∧bs.drop s=low 1 (n:Int)++bs.drop s1:=by
 rw [rp_num s 1 most 0 hm,lim1] at h
 by_cases h1:bs.length < s+1
 ·rw [if_pos h1] at h;cases h
 ·rw [if_neg h1] at h
  by_cases h2:most < (val bs s 1:Int)
  ·rw [if_pos h2] at h;cases h
  ·rw [if_neg h2] at h
   cases h
   exact ⟨_,rfl,by omega,rfl,by omega,val_low hb (by omega)⟩
theorem list_bwd (hb:∀ x ∈ bs,x < 256) {st:List Sp} {z:List Value} (H:St st z) {ys:List (List Value)} {most:Int} (hm:0≤most) {s s':Nat} (hs:s≤bs.length) (h:listN (RP bs) most st z s=.ok (ys,s')) :
  (ys.length:Int)≤most∧(∀ y ∈ ys,goods st y=true)∧s'=s+(listE (encs st) ys).length∧s'≤bs.length∧bs.drop s=listE (encs st) ys++bs.drop s':=by
 obtain ⟨y,s1,h1,h2⟩:=listN_inv h
 obtain ⟨n,rfl,hn,hs0,hs1,hd⟩:=cnt_bwd hb hm h1
 rw [Int.toNat_natCast] at h2
 have hl:=(reps_kind h2).1
 obtain ⟨b1,b2,b3,b4⟩:=eachs_bwd hb H n hs1 h2
 refine ⟨by rw [hl];exact hn,b1,?_,b3,?_⟩
 ·unfold listE;rw [List.length_append,low_len,b2,hs0];omega
 ·unfold listE;rw [List.append_assoc,← b4,hl];exact hd
abbrev stI:List Sp:=[.num 1 7 0]
theorem stI_ok:St stI [I 0] where
 fit:=by decide
 nd:=by decide
 kd:=fun c hc=>by simp at hc;subst hc;exact ⟨I 0,rfl,rfl⟩
 all:=fun L h=>by
  obtain ⟨v,l,rfl,h0,g0⟩:=kcons (k:=0) (ks:=[]) h
  obtain rfl:=knil g0
  rfl
abbrev rowE (r:List (List Value)):List Nat:=listE (encs stI) r
def grpE (g:List (List Value) × List (List Value)):List Nat:=rowE g.1++rowE g.2
def rowG (r:List (List Value)):Bool:=decide ((r.length:Int)≤8) && r.all (goods stI)
theorem row_bwd (hb:∀ x ∈ bs,x < 256) {r:List (List Value)} {s s':Nat} (hs:s≤bs.length) (h:rowN (RP bs) s=.ok (r,s')):rowG r=true∧s'=s+(rowE r).length∧s'≤bs.length∧bs.drop s=rowE r++bs.drop s':=by
 obtain ⟨a1,a2,a3,a4,a5⟩:=list_bwd hb stI_ok (by decide) hs h
 refine ⟨?_,a3,a4,a5⟩
 unfold rowG
 rw [Bool.and_eq_true,decide_eq_true_eq,List.all_eq_true]
 exact ⟨a1,a2⟩
theorem grp_bwd (hb:∀ x ∈ bs,x < 256) {g:List (List Value) × List (List Value)} {s s':Nat} (hs:s≤bs.length) (h:grpN (RP bs) s=.ok (g,s')):(rowG g.1=true∧rowG g.2=true)∧s'=s+(grpE g).length∧s'≤bs.length∧bs.drop s=grpE g++bs.drop s':=by
 obtain ⟨s1,h1,h2⟩:=grpN_inv h
 obtain ⟨a1,a2,a3,a4⟩:=row_bwd hb hs h1
 obtain ⟨b1,b2,b3,b4⟩:=row_bwd hb a3 h2
 refine ⟨⟨a1,b1⟩,?_,b3,?_⟩
 ·unfold grpE;rw [List.length_append,b2,a2];omega
 ·unfold grpE;rw [List.append_assoc,← b4];exact a4
def gG (g:List (List Value) × List (List Value)):Bool:=rowG g.1 && rowG g.2
theorem grps_bwd (hb:∀ x ∈ bs,x < 256):∀ (n:Nat) {gs:List (List (List Value) × List (List Value))} {s s':Nat},s≤bs.length→grpsN (RP bs) n s=.ok (gs,s')→gs.length=n∧(∀ g ∈ gs,gG g=true)∧s'=s+(gs.flatMap grpE).length∧s'≤bs.length∧bs.drop s=gs.flatMap grpE++bs.drop s'
 | 0,gs,s,s',hs,h=>by
  have h2:(Except.ok ([],s):Except Flt (List (List (List Value) × List (List Value)) × Nat))=.ok (gs,s'):=h
  cases h2
  exact ⟨rfl,fun g hg=>by simp at hg,rfl,hs,rfl⟩
 | n+1,gs,s,s',hs,h=>by
  obtain ⟨g1,s1,g,h1,h2,rfl⟩:=grps_succ_inv h
  obtain ⟨a1,a2,a3,a4,a5⟩:=grps_bwd hb n hs h1
  obtain ⟨b1,b2,b3,b4⟩:=grp_bwd hb a4 h2
  refine ⟨by rw [List.length_append,a1];rfl,fun g' hg'=>?_,?_,b3,?_⟩
  ·rcases List.mem_append.1 hg' with hg' | hg'
   ·exact a2 g' hg'
   ·rw [List.mem_singleton] at hg'
    subst hg'
    unfold gG
    rw [b1.1,b1.2]
    rfl
  ·rw [List.flatMap_append,List.length_append,b2,a3]
   simp only [List.flatMap_cons,List.flatMap_nil,List.append_nil]
   omega
  ·rw [List.flatMap_append,List.append_assoc]
   simp only [List.flatMap_cons,List.flatMap_nil,List.append_nil]
   rw [← b4];exact a5
def grpsE (gs:List (List (List Value) × List (List Value))):List Nat:=low 1 (gs.length:Int)++gs.flatMap grpE
theorem listG_bwd (hb:∀ x ∈ bs,x < 256) {gs:List (List (List Value) × List (List Value))} {s s':Nat} (hs:s≤bs.length) (h:listG (RP bs) 4 s=.ok (gs,s')):(gs.length:Int)≤4∧(∀ g ∈ gs,gG g=true)∧s'=s+(grpsE gs).length∧s'≤bs.length∧bs.drop s=grpsE gs++bs.drop s':=by
 obtain ⟨y,s1,h1,h2⟩:=listG_inv h
 obtain ⟨n,rfl,hn,hs0,hs1,hd⟩:=cnt_bwd hb (by decide) h1
 rw [Int.toNat_natCast] at h2
 obtain ⟨b0,b1,b2,b3,b4⟩:=grps_bwd hb n hs1 h2
 refine ⟨by rw [b0];exact hn,b1,?_,b3,?_⟩
 ·unfold grpsE;rw [List.length_append,low_len,b2,hs0];omega
 ·unfold grpsE;rw [List.append_assoc,← b4,b0];exact hd
end
end By
namespace CrcB
open Go.ChangeShapes Go.WideShapes Go.ChangeAt Go.RowKit
open CrcM Crc
def vals (l:List Nat):List Value:=l.map fun n:Nat=>.int .u8 (n:Int)
theorem vals_len (l:List Nat):(vals l).length=l.length:=List.length_map ..
theorem vals_at (l:List Nat) (i:Nat) (h:i < l.length):(vals l)[i]?=some (.int .u8 (l.getD i 0:Nat)):=by
 unfold vals
 rw [List.getElem?_map,List.getD_eq_getElem?_getD,List.getElem?_eq_getElem h];rfl
def Own (B:Nat) (w:World) (v:Value) (l:List Nat):Prop:=w.ownsRow B 5 1 v l.length (vals l)
theorem own_below {B:Nat} {w w':World} {v:Value} {l:List Nat} (h:Own B w v l) (hb:Below w.heap.size w w'):Own B w' v l :=
 h.kept (row:=none) ⟨hb.os,hb.tape,hb.output,hb.size,fun j hj _=>hb.block j hj⟩ (by cases hv:v.ownBlock <;> simp)
section
variable {ops:Array Oper} {rest:List Oper} {o:Oper} {a:Act} {w:World} {Q:Exit→Act→World→Prop}
end
theorem own_at {B:Nat} {w:World} {v:Value} {l:List Nat} (h:Own B w v l) (hl:0 < l.length) :
  ∃ g cap,v=.slice (some ⟨g,0,none⟩) l.length cap∧B≤g∧(∀ i,w.frozen? ⟨g,i,none⟩=false)∧∀ i,i < l.length→w.cell? ⟨g,i,none⟩=some (.int .u8 (l.getD i 0:Nat)):=by
 rcases h.2 with ⟨rfl,h0⟩ | ⟨g,cap,cur,rfl,h1,h2,h3,h4,h5,h6⟩
 ·omega
 ·refine ⟨g,cap,rfl,h1,fun i=>by simp [World.frozen?,h2],fun i hi=>?_⟩
  have h7:=vals_at l i hi
  rw [← h6,Nat.mul_one,List.getElem?_take_of_lt hi] at h7
  rw [cell_of_row w g i cur _ (0,0) h2,← Array.getElem?_toList]
  exact h7
theorem own_set {B:Nat} {w:World} {g cap:Nat} {l:List Nat} (h:Own B w (.slice (some ⟨g,0,none⟩) l.length cap) l) (i y:Nat) (hi:i < l.length) :
  Own B (w.setCell ⟨g,i,none⟩ (.int .u8 (y:Int))) (.slice (some ⟨g,0,none⟩) l.length cap) (l.set i y):=by
 rcases h.2 with ⟨h0,_⟩ | ⟨g',cap',cur,e,h1,h2,h3,h4,h5,h6⟩
 ·cases h0
 ·cases e
  rw [setCell_eq_setRow w g i cur _ (0,0) _ h2]
  refine ⟨by rw [vals_len,Nat.mul_one],.inr ⟨g,cap,_,by rw [List.length_set],h1,setRow_heap w g cur _ _ _ h2,by rw [List.length_set];exact h3,h4,by rw [Array.size_setIfInBounds];exact h5,?_⟩⟩
  rw [Array.toList_setIfInBounds,List.length_set,List.take_set,h6]
  exact (List.map_set ..).symm
theorem own_set_len {B:Nat} {w:World} {g n cap:Nat} {l:List Nat} (h:Own B w (.slice (some ⟨g,0,none⟩) n cap) l) (hn:l.length=n) (i y:Nat) (hi:i < n) :
  Own B (w.setCell ⟨g,i,none⟩ (.int .u8 (y:Int))) (.slice (some ⟨g,0,none⟩) n cap) (l.set i y):=by
 subst hn
 exact own_set h _ _ hi
theorem of_len (a:Option Addr) (n cap:Nat) (l:List Nat) (w:World) (hn:l.length=n) (h:Row w a l) :
  Calls Tryz.prog 44 #[.slice a n cap] w fun e w'=>e=.returned (.int .u16 (crc 65535 l:Nat))∧Below w.heap.size w w':=by
 subst hn;exact CrcA.of_any a cap l w h
theorem made (n:Nat):(madeCells (Value.int .u8 0).cells (n*1)).toList=vals (List.replicate n 0):=by
 rw [Nat.mul_one,show (Value.int .u8 0).cells=#[.int .u8 0] from rfl,toList_madeCells_one,vals,List.map_replicate];rfl
end CrcB
namespace Rr
open Go Go.RowKit Go.ChangeShapes
open Tab
open Po
open Rd (Rd But)
open Put (lim)
open CrcM (crc)
def EndsN (bs:List Nat) (B g:Nat) (ad:Option Addr) (cap:Nat) (r:Except Flt (Int × Nat)) (W:World) (e:Ending) (W':World):Prop:=match r with
 | .ok (y,s')=>e=.returned (I y)∧RS B g ad cap bs s' W'∧∀ b,Mv B b W W'
 | .error f=>e=.panicked [{ v:=fault f,recovered:=false }]∧Below B W W'
def EndsS (bs:List Nat) (B g:Nat) (ad:Option Addr) (cap:Nat) (r:Except Flt Nat) (W:World) (e:Ending) (W':World):Prop:=match r with
 | .ok s'=>e=.returned (.tuple #[])∧RS B g ad cap bs s' W'∧∀ b,Mv B b W W'
 | .error f=>e=.panicked [{ v:=fault f,recovered:=false }]∧Below B W W'
theorem Mv.start {B:Nat} {W V U:World} (h:Below W.heap.size W V) (hB:B≤W.heap.size) {nb:Nat} (hn:W.heap.size≤nb) (k:Mv B nb V U) (b:Nat):Mv B b W U :=
 ⟨(h.mono hB).trans k.low,fun j cs t fr hj ht _=>by
  have hl:=(Array.getElem?_eq_some_iff.1 hj).1
  have h1:=h.block j hl
  exact (k.other j cs t fr (h1.trans hj) ht (by omega)).trans h1⟩
section
variable {B g:Nat} {ad:Option Addr} {cap:Nat} {bs:List Nat}
theorem raw3 (s:Nat) (w:World) (h:RS B g ad cap bs s w) (hB:B≤w.heap.size) :
  Calls Tryz.prog 46 #[rdr g,.int .i64 3] w (EndsN bs B g ad cap ((RP bs).num s 3 16777215 0) w):=by
 have hb:=(Below.refl w.heap.size w).alloc (Nat.le_refl _) (.cells #[.pointer (some ⟨g,0,none⟩)] 55)
 have hb2:=hb.alloc hb.size (.cells #[I 0] 3)
 have hg1:=heap_alloc_new w (.cells #[.pointer (some ⟨g,0,none⟩)] 55)
 have hg2:=heap_alloc_new (w.alloc (.cells #[.pointer (some ⟨g,0,none⟩)] 55)) (.cells #[I 0] 3)
 have hs1:(w.alloc (.cells #[.pointer (some ⟨g,0,none⟩)] 55)).heap.size=w.heap.size+1:=by simp
 rw [hs1] at hg2
 have hg3:((w.alloc (.cells #[.pointer (some ⟨g,0,none⟩)] 55)).alloc (.cells #[I 0] 3)).heap[w.heap.size]?=some (.cells #[.pointer (some ⟨g,0,none⟩)] 55 (0,0)):=by
  rw [Below.heap_alloc _ _ _ (by rw [hs1];omega)];exact hg1
 have HR:=Lib.hid (h.mem hb2)
 have HW:=Lib.hid hb2
 obtain ⟨res,hres⟩:∃ r,(RP bs).num s 3 16777215 0=r:=⟨_,rfl⟩
 have HRES:=Lib.hid hres
 rw [hres]
 clear h hb hg1 hs1 hb2 hres
 go_enter Tryz.func46,Tryz.ntmps46
 go_upto_region 2 with fail
 generalize World.alloc (World.alloc w _) _=v at HR HW hg2 hg3 ⊢
 generalize hnb:w.heap.size+1=nb at hg2 ⊢
 generalize hrb:w.heap.size=rb at hg3 HW ⊢
 have LR:Hid (∀ W,Below v.heap.size v W→Lies W ⟨rb,0,none⟩ [.pointer (some ⟨g,0,none⟩)]):=Lib.hid (fun W hb=>by have:=Row.lies_of_block ((hb.block rb (Array.getElem?_eq_some_iff.1 hg3).1).trans hg3);simpa using this)
 have HG2:=Lib.hid hg2
 clear hg2 hg3
 refine QT.region v.heap.size 6 (by kernel_rfl) (by kernel_rfl) ?_
 simp only [List.take_succ_cons,List.take_zero]
 repeat first
  | (refine QL.wpQuiet_load rfl 55 _ rfl ⟨rb,0,none⟩ rfl [.pointer (some ⟨g,0,none⟩)] _ (fun w' ⟨p,e⟩=>by rw [e];exact LR.out _ p.below) Tryz.underlying55 rfl infoRd ?_
     dsimp only [Act.put]
     simp only [List.setIfInBounds_toArray,List.set_cons_zero,List.set_cons_succ])
  | (quiet_step (fail))
  | (refine wpQuiet_run rfl (I 16777216) (fun w=>rfl) ?_
     dsimp only [Act.put]
     simp only [List.setIfInBounds_toArray,List.set_cons_zero,List.set_cons_succ])
 refine wpQuiet_nil ?_
 intro _ hw'
 obtain ⟨p,rfl⟩:=hw'
 have HR2:=Lib.hid (HR.out.mem p.below)
 have hn2:=(p.below.block nb (Array.getElem?_eq_some_iff.1 HG2.out).1).trans HG2.out
 have HWD:Hid (Below w.heap.size w p.world):=Lib.hid (by rw [hrb];exact HW.out.trans (p.below.mono (by have:=HW.out.size;omega)))
 generalize p.world=vd at HR2 hn2 HWD ⊢
 simp only [List.drop_succ_cons,List.drop_zero]
 have hB2:B≤vd.heap.size:=Nat.le_trans hB HWD.out.size
 have HN:=Lib.hid (rnumber s vd nb 0 #[I 0] 3 (0,0) [I 0] 3 16777215 0 0 HR2.out hB2 ⟨rfl,by omega⟩ (Or.inr (by decide)) (Nat.le_refl _) hn2 rfl)
 clear hn2
 go_wp2_with fail
 refine HN.out.mono ?_
 intro e v3 hE
 unfold Po.Ends at hE
 simp only [Sp.run,List.getElem?_cons_zero] at hE
 have hrr:=HRES.out
 cases res with
 | error fl =>
  rw [hrr] at hE
  obtain ⟨rfl,hb3⟩:=hE
  exact ⟨rfl,rfl,(HWD.out.mono hB).trans hb3⟩
 | ok r =>
  obtain ⟨y,s'⟩:=r
  rw [hrr] at hE
  obtain ⟨rfl,hst,hmv,hcl⟩:=hE
  have c1:v3.cell? ⟨nb,0,none⟩=some (I y):=by rw [cell_of_row _ _ _ _ _ _ hcl];rfl
  have HST:=Lib.hid hst
  have HMV:=Lib.hid hmv
  clear hst hmv hcl
  go_wp2
  go_ret
  exact ⟨rfl,HST.out,Mv.start HWD.out hB (by omega) HMV.out⟩
theorem raw2 (s:Nat) (w:World) (h:RS B g ad cap bs s w) (hB:B≤w.heap.size) :
  Calls Tryz.prog 46 #[rdr g,.int .i64 2] w (EndsN bs B g ad cap ((RP bs).num s 2 65535 0) w):=by
 have hb:=(Below.refl w.heap.size w).alloc (Nat.le_refl _) (.cells #[.pointer (some ⟨g,0,none⟩)] 55)
 have hb2:=hb.alloc hb.size (.cells #[I 0] 3)
 have hg1:=heap_alloc_new w (.cells #[.pointer (some ⟨g,0,none⟩)] 55)
 have hg2:=heap_alloc_new (w.alloc (.cells #[.pointer (some ⟨g,0,none⟩)] 55)) (.cells #[I 0] 3)
 have hs1:(w.alloc (.cells #[.pointer (some ⟨g,0,none⟩)] 55)).heap.size=w.heap.size+1:=by simp
 rw [hs1] at hg2
 have hg3:((w.alloc (.cells #[.pointer (some ⟨g,0,none⟩)] 55)).alloc (.cells #[I 0] 3)).heap[w.heap.size]?=some (.cells #[.pointer (some ⟨g,0,none⟩)] 55 (0,0)):=by
  rw [Below.heap_alloc _ _ _ (by rw [hs1];omega)];exact hg1
 have HR:=Lib.hid (h.mem hb2)
 have HW:=Lib.hid hb2
 obtain ⟨res,hres⟩:∃ r,(RP bs).num s 2 65535 0=r:=⟨_,rfl⟩
 have HRES:=Lib.hid hres
 rw [hres]
 clear h hb hg1 hs1 hb2 hres
 go_enter Tryz.func46,Tryz.ntmps46
 go_upto_region 2 with fail
 generalize World.alloc (World.alloc w _) _=v at HR HW hg2 hg3 ⊢
 generalize hnb:w.heap.size+1=nb at hg2 ⊢
 generalize hrb:w.heap.size=rb at hg3 HW ⊢
 have LR:Hid (∀ W,Below v.heap.size v W→Lies W ⟨rb,0,none⟩ [.pointer (some ⟨g,0,none⟩)]):=Lib.hid (fun W hb=>by have:=Row.lies_of_block ((hb.block rb (Array.getElem?_eq_some_iff.1 hg3).1).trans hg3);simpa using this)
 have HG2:=Lib.hid hg2
 clear hg2 hg3
 refine QT.region v.heap.size 6 (by kernel_rfl) (by kernel_rfl) ?_
 simp only [List.take_succ_cons,List.take_zero]
 repeat first
  | (refine QL.wpQuiet_load rfl 55 _ rfl ⟨rb,0,none⟩ rfl [.pointer (some ⟨g,0,none⟩)] _ (fun w' ⟨p,e⟩=>by rw [e];exact LR.out _ p.below) Tryz.underlying55 rfl infoRd ?_
     dsimp only [Act.put]
     simp only [List.setIfInBounds_toArray,List.set_cons_zero,List.set_cons_succ])
  | (quiet_step (fail))
  | (refine wpQuiet_run rfl (I 65536) (fun w=>rfl) ?_
     dsimp only [Act.put]
     simp only [List.setIfInBounds_toArray,List.set_cons_zero,List.set_cons_succ])
 refine wpQuiet_nil ?_
 intro _ hw'
 obtain ⟨p,rfl⟩:=hw'
 have HR2:=Lib.hid (HR.out.mem p.below)
 have hn2:=(p.below.block nb (Array.getElem?_eq_some_iff.1 HG2.out).1).trans HG2.out
 have HWD:Hid (Below w.heap.size w p.world):=Lib.hid (by rw [hrb];exact HW.out.trans (p.below.mono (by have:=HW.out.size;omega)))
 generalize p.world=vd at HR2 hn2 HWD ⊢
 simp only [List.drop_succ_cons,List.drop_zero]
 have hB2:B≤vd.heap.size:=Nat.le_trans hB HWD.out.size
 have HN:=Lib.hid (rnumber s vd nb 0 #[I 0] 3 (0,0) [I 0] 2 65535 0 0 HR2.out hB2 ⟨rfl,by omega⟩ (Or.inr (by decide)) (Nat.le_refl _) hn2 rfl)
 clear hn2
 go_wp2_with fail
 refine HN.out.mono ?_
 intro e v3 hE
 unfold Po.Ends at hE
 simp only [Sp.run,List.getElem?_cons_zero] at hE
 have hrr:=HRES.out
 cases res with
 | error fl =>
  rw [hrr] at hE
  obtain ⟨rfl,hb3⟩:=hE
  exact ⟨rfl,rfl,(HWD.out.mono hB).trans hb3⟩
 | ok r =>
  obtain ⟨y,s'⟩:=r
  rw [hrr] at hE
  obtain ⟨rfl,hst,hmv,hcl⟩:=hE
  have c1:v3.cell? ⟨nb,0,none⟩=some (I y):=by rw [cell_of_row _ _ _ _ _ _ hcl];rfl
  have HST:=Lib.hid hst
  have HMV:=Lib.hid hmv
  clear hst hmv hcl
  go_wp2
  go_ret
  exact ⟨rfl,HST.out,Mv.start HWD.out hB (by omega) HMV.out⟩
def headR (bs:List Nat):Except Flt Nat:=match (RP bs).num (0:Nat) 3 16777215 0 with
 | .error f=>.error f
 | .ok (y,s')=>if y=5784065 then .ok s' else .error (3,0)
theorem head_any (w:World) (h:RS B g ad cap bs 0 w) (hB:B≤w.heap.size) :
  Calls Tryz.prog 19 #[rdr g] w (EndsS bs B g ad cap (headR bs) w):=by
 have hb:=(Below.refl w.heap.size w).alloc (Nat.le_refl _) (.cells #[.pointer (some ⟨g,0,none⟩)] 55)
 have hg1:=heap_alloc_new w (.cells #[.pointer (some ⟨g,0,none⟩)] 55)
 have HR:=Lib.hid (h.mem hb)
 have HW:=Lib.hid hb
 clear h hb
 obtain ⟨r2,hr2⟩:∃ r,headR bs=r:=⟨_,rfl⟩
 rw [hr2]
 unfold headR at hr2
 obtain ⟨res,hres⟩:∃ r,(RP bs).num (0:Nat) 3 16777215 0=r:=⟨_,rfl⟩
 rw [hres] at hr2
 have HRES:=Lib.hid hres
 have HR2:=Lib.hid hr2
 clear hres hr2
 go_enter Tryz.func19,Tryz.ntmps19
 go_upto_region 1 with fail
 generalize World.alloc w _=v at HR HW hg1 ⊢
 generalize hrb:w.heap.size=rb at hg1 HW ⊢
 have LR:Hid (Lies v ⟨rb,0,none⟩ [.pointer (some ⟨g,0,none⟩)]):=Lib.hid (by have:=Row.lies_of_block hg1;simpa using this)
 have HB2:Hid (B≤v.heap.size):=Lib.hid (Nat.le_trans hB (by have:=HW.out.size;omega))
 go_wp2_with (refine Row.wpList_load_g 55 _ rfl (by first | rfl | (go_simp;done) | fail) ⟨rb,0,none⟩ rfl [.pointer (some ⟨g,0,none⟩)] _ LR.out Tryz.underlying55 rfl infoRd ?_)
 refine (raw3 0 v HR.out HB2.out).mono ?_
 intro e v3 hE
 rw [HRES.out] at hE
 unfold EndsN at hE
 cases res with
 | error fl =>
  obtain ⟨rfl,hb3⟩:=hE
  refine ⟨rfl,?_⟩
  rw [← HR2.out]
  exact ⟨rfl,(HW.out.mono (by omega)).trans hb3⟩
 | ok r =>
  obtain ⟨y,s'⟩:=r
  obtain ⟨rfl,hst,hmv⟩:=hE
  have HST:=Lib.hid hst
  have HMV:=Lib.hid hmv
  clear hst hmv
  have HM2:Hid (∀ b,Mv B b w v3):=Lib.hid (Mv.start (by rw [hrb];exact HW.out) hB (Nat.le_refl _) (HMV.out w.heap.size))
  clear HMV
  by_cases hy:y=5784065
  ·subst hy
   have e2:r2=.ok s':=by rw [← HR2.out];exact if_pos rfl
   clear HR2
   subst e2
   go_wp2
   go_end0
   exact ⟨rfl,HST.out,HM2.out⟩
  ·have e2:r2=.error (3,0):=by rw [← HR2.out];exact if_neg hy
   clear HR2
   subst e2
   go_wp2_with fail
   refine (fail_any 3 0 _).mono ?_
   rintro e v4 ⟨rfl,rfl⟩
   exact ⟨rfl,rfl,(HM2.out 0).low⟩
def endR (bs:List Nat) (s:Nat):Except Flt Nat:=if s < bs.length then .error (6,s) else .ok s
theorem end_any (s:Nat) (w:World) (h:RS B g ad cap bs s w) (hB:B≤w.heap.size) :
  Calls Tryz.prog 22 #[rdr g] w (EndsS bs B g ad cap (endR bs s) w):=by
 obtain ⟨r2,hr2⟩:∃ r,endR bs s=r:=⟨_,rfl⟩
 rw [hr2]
 unfold endR at hr2
 have HR2:=Lib.hid hr2
 clear hr2
 have hb:=(Below.refl w.heap.size w).alloc (Nat.le_refl _) (.cells #[.pointer (some ⟨g,0,none⟩)] 55)
 have hg1:=heap_alloc_new w (.cells #[.pointer (some ⟨g,0,none⟩)] 55)
 have HR:=Lib.hid (h.mem hb)
 have HW:=Lib.hid hb
 clear h hb
 go_enter Tryz.func22,Tryz.ntmps22
 go_upto_region 1 with fail
 generalize World.alloc w _=v at HR HW hg1 ⊢
 generalize hrb:w.heap.size=rb at hg1 HW ⊢
 have LR:Hid (Lies v ⟨rb,0,none⟩ [.pointer (some ⟨g,0,none⟩)]):=Lib.hid (by have:=Row.lies_of_block hg1;simpa using this)
 have HB2:Hid (B≤v.heap.size):=Lib.hid (Nat.le_trans hB (by have:=HW.out.size;omega))
 have k0:v.cell? ⟨rb,0,none⟩=some (.pointer (some ⟨g,0,none⟩)):=by rw [cell_of_row _ _ _ _ _ _ hg1];rfl
 have HM:Hid (∀ b,Mv B b w v):=Lib.hid (fun b=>Mv.of (by rw [hrb];exact HW.out) hB)
 go_wp2_with fail
 refine (Rd.left_any g ad cap bs s 0 0 v HR.out.rd HR.out.len HR.out.le).mono ?_
 rintro e v3 ⟨rfl,n,rfl⟩
 have hbd:Below v.heap.size v (v.drewN n):=⟨rfl,rfl,rfl,Nat.le_refl _,fun _ _=>rfl⟩
 have hst:=HR.out.mem hbd
 have kd:(v.drewN n).cell? ⟨rb,0,none⟩=some (.pointer (some ⟨g,0,none⟩)):=k0
 have HM2:Hid (∀ b,Mv B b w (v.drewN n)):=Lib.hid (fun b=>(HM.out b).trans (Mv.of hbd HB2.out))
 clear k0 hbd
 generalize v.drewN n=v3 at hst kd HM2 ⊢
 have HST:=Lib.hid hst
 clear hst
 by_cases hy:s < bs.length
 ·have e2:r2=.error (6,s):=by rw [← HR2.out];exact if_pos hy
  clear HR2
  subst e2
  have hp:(0:Int) < (bs.length:Int) - s:=by omega
  go_wp2_with fail
  refine (Rd.at_any g ad cap bs s 0 0 _ HST.out.rd).mono ?_
  rintro e v4 ⟨rfl,rfl⟩
  go_wp2_with fail
  refine (fail_any 6 s _).mono ?_
  rintro e v4 ⟨rfl,rfl⟩
  exact ⟨rfl,rfl,(HM2.out 0).low⟩
 ·have e2:r2=.ok s:=by rw [← HR2.out];exact if_neg hy
  clear HR2
  subst e2
  have hp:¬ (0:Int) < (bs.length:Int) - s:=by omega
  go_wp2
  go_end0
  exact ⟨rfl,HST.out,HM2.out⟩
def sumR (bs:List Nat) (s:Nat):Except Flt Nat:=match (RP bs).num s 2 65535 0 with
 | .error f=>.error f
 | .ok (y,s')=>if y=((crc 65535 (bs.take s):Nat):Int) then .ok s' else .error (5,s)
theorem sum_any (s:Nat) (w:World) (h:RS B g ad cap bs s w) (hB:B≤w.heap.size) (bd:Option Addr) (bcap:Nat) (hrow:∀ W,Below B w W→Go.Proofs.YtjdeemmaaiecnaaGreat.B.Row W bd bs) (hcap:bs.length≤bcap) :
  Calls Tryz.prog 21 #[rdr g,.slice bd bs.length bcap] w (EndsS bs B g ad cap (sumR bs s) w):=by
 obtain ⟨r2,hr2⟩:∃ r,sumR bs s=r:=⟨_,rfl⟩
 rw [hr2]
 unfold sumR at hr2
 obtain ⟨res,hres⟩:∃ r,(RP bs).num s 2 65535 0=r:=⟨_,rfl⟩
 rw [hres] at hr2
 have HRES:=Lib.hid hres
 have hle:=h.le
 have hln:=h.len
 obtain ⟨cr,hcr⟩:∃ n:Nat,crc 65535 (bs.take s)=n:=⟨_,rfl⟩
 have hcr2:cr < 65536:=by rw [← hcr];exact CrcM.crc_lt _ _ (by decide)
 rw [hcr] at hr2
 have HR2:=Lib.hid hr2
 have CR:Hid (∀ W,Below B w W→Calls Tryz.prog 44 #[.slice bd s bcap] W fun e w'=>e=.returned (.int .u16 (cr:Int))∧Below W.heap.size W w'):=Lib.hid (fun W hb=>by rw [← hcr];exact CrcB.of_len bd s bcap (bs.take s) W (by rw [List.length_take];omega) (Go.Proofs.YtjdeemmaaiecnaaGreat.B.row_take (hrow W hb) s))
 clear hres hr2 hcr hrow
 obtain ⟨len,hlen⟩:∃ n,bs.length=n:=⟨_,rfl⟩
 rw [hlen] at hle hln hcap ⊢
 clear hlen
 have hk1:s≤bcap:=by omega
 have ew:wrap64 (cr:Int)=cr:=IntWalk.wrap64_in _ (by omega)
 have ew2:IntKind.i64.wrap (cr:Int)=cr:=by rw [IntKind.wrap_i64];omega
 have hb:=(Below.refl w.heap.size w).alloc (Nat.le_refl _) (.cells #[.pointer (some ⟨g,0,none⟩)] 55)
 have hg1:=heap_alloc_new w (.cells #[.pointer (some ⟨g,0,none⟩)] 55)
 have HR:=Lib.hid (h.mem hb)
 have HW:=Lib.hid hb
 clear h hb
 go_enter Tryz.func21,Tryz.ntmps21
 go_upto_region 1 with fail
 generalize World.alloc w _=v at HR HW hg1 ⊢
 have HMW:Hid (∀ b,Mv B b w v):=Lib.hid (fun b=>Mv.of HW.out hB)
 have HB2:Hid (B≤v.heap.size):=Lib.hid (Nat.le_trans hB HW.out.size)
 generalize hrb:w.heap.size=rb at hg1 HW ⊢
 have k0:v.cell? ⟨rb,0,none⟩=some (.pointer (some ⟨g,0,none⟩)):=by rw [cell_of_row _ _ _ _ _ _ hg1];rfl
 have LK:Hid (∀ W,(∀ b,Mv B b v W)→Lies W ⟨rb,0,none⟩ [.pointer (some ⟨g,0,none⟩)]):=Lib.hid (fun W hm=>by have:=Row.lies_of_block (((hm (rb+1)).other rb _ _ _ hg1 (by decide) (by omega)).trans hg1);simpa using this)
 go_wp2_with fail
 refine (Rd.at_any g ad cap bs s 0 0 v HR.out.rd).mono ?_
 rintro e v4 ⟨rfl,rfl⟩
 go_upto_region 2 with fail
 clear k0 hg1
 refine wp_region_held (S:=fun w'=>Lies w' ⟨rb,0,none⟩ [.pointer (some ⟨g,0,none⟩)]) (by kernel_rfl) ?_
 have hd:Below v.heap.size v { v with drawn:=v.drawn+1 }:=(Below.refl _ _).drew
 have hm:∀ b,Mv B b v { v with drawn:=v.drawn+1 }:=fun b=>Mv.of hd HB2.out
 have hS:=LK.out _ hm
 have HSV:=Lib.hid (HR.out.mem hd)
 have HMW1:Hid (∀ b,Mv B b w { v with drawn:=v.drawn+1 }):=Lib.hid (fun b=>(HMW.out b).trans (hm b))
 have LK1:Hid (∀ W,(∀ b,Mv B b { v with drawn:=v.drawn+1 } W)→Lies W ⟨rb,0,none⟩ [.pointer (some ⟨g,0,none⟩)]):=Lib.hid (fun W h2=>LK.out W (fun b=>(hm b).trans (h2 b)))
 have HBV:Hid (B≤({ v with drawn:=v.drawn+1 }:World).heap.size):=Lib.hid HB2.out
 clear hd hm HR HMW LK HB2 HW
 generalize ({ v with drawn:=v.drawn+1 }:World)=V at hS HSV HMW1 LK1 HBV ⊢
 have HMW:=HMW1
 have LK:=LK1
 clear HMW1 LK1
 refine Held.take_load (i:=0) (some 8) rfl 55 (.tmp 2) ⟨rb,0,none⟩ [.pointer (some ⟨g,0,none⟩)] _ rfl rfl (by kernel_rfl) (by kernel_rfl) (by kernel_rfl) (fun _ _ _ h=>h) (by rfl) hS rfl (fun w' hw'=>hw') Tryz.underlying55 rfl infoRd ?_
 (try dsimp only [Act.put]);(try simp only [List.setIfInBounds_toArray,List.set_cons_zero,List.set_cons_succ])
 refine Held.take (i:=2) (some 10) rfl (v:=?_) rfl (by kernel_rfl) (by kernel_rfl) (by kernel_rfl) (fun _ _ _ h=>h) (Or.inl ⟨by rfl,?_⟩) hS ?_
 rotate_left
 ·intro w' hw'
  go_simp
  try with_reducible rfl
 (try dsimp only [Act.put]);(try simp only [List.setIfInBounds_toArray,List.set_cons_zero,List.set_cons_succ])
 refine Held.take (i:=3) (some 11) rfl (v:=?_) rfl (by kernel_rfl) (by kernel_rfl) (by kernel_rfl) (fun _ _ _ h=>h) (Or.inl ⟨by rfl,?_⟩) hS ?_
 rotate_left
 ·intro w' hw'
  go_simp
  try with_reducible rfl
 (try dsimp only [Act.put]);(try simp only [List.setIfInBounds_toArray,List.set_cons_zero,List.set_cons_succ])
 refine Held.take (i:=4) (some 12) rfl (v:=?_) rfl (by kernel_rfl) (by kernel_rfl) (by kernel_rfl) (fun _ _ _ h=>h) (Or.inl ⟨by rfl,?_⟩) hS ?_
 rotate_left
 ·intro w' hw'
  go_simp
  try with_reducible rfl
 (try dsimp only [Act.put]);(try simp only [List.setIfInBounds_toArray,List.set_cons_zero,List.set_cons_succ])
 refine wpAnyH_ready (rs:=[1]) (by kernel_rfl) (by simp) (AllReadyH.cons rfl (fun K hK=>?_) AllReadyH.nil)
 go_simp
 refine (raw2 s V HSV.out HBV.out).mono ?_
 intro e V2 hE
 rw [HRES.out] at hE
 unfold EndsN at hE
 cases res with
 | error fl =>
  obtain ⟨rfl,hb3⟩:=hE
  have e2:r2=.error fl:=HR2.out.symm
  subst e2
  go_simp
  exact ⟨rfl,rfl,(HMW.out 0).low.trans hb3⟩
 | ok r =>
  obtain ⟨y,s'⟩:=r
  obtain ⟨rfl,hst,hmv⟩:=hE
  have hq:Lies V2 ⟨rb,0,none⟩ [.pointer (some ⟨g,0,none⟩)]:=LK.out V2 hmv
  have HSV3:Hid (RS B g ad cap bs s' V2):=Lib.hid hst
  have HMW3:Hid (∀ b,Mv B b w V2):=Lib.hid (fun b=>(HMW.out b).trans (hmv b))
  clear hS hst hmv HSV HMW HBV LK
  go_simp
  refine hK.out _ _ hq (fun hS=>?_)
  clear hK K hq
  rename World=>V
  (try dsimp only [Act.put]);(try simp only [List.setIfInBounds_toArray,List.set_cons_zero,List.set_cons_succ])
  refine wpAnyH_ready (rs:=[5]) (by kernel_rfl) (by simp) (AllReadyH.cons rfl (fun K hK=>?_) AllReadyH.nil)
  go_simp
  refine (CR.out V (HMW3.out 0).low).mono ?_
  rintro e V2 ⟨rfl,hb⟩
  have hq:Lies V2 ⟨rb,0,none⟩ [.pointer (some ⟨g,0,none⟩)]:=Lies.below hS hb
  have HSV4:=Lib.hid (HSV3.out.mem hb)
  have HMW4:Hid (∀ b,Mv B b w V2):=Lib.hid (fun b=>(HMW3.out b).trans (Mv.of hb (Nat.le_trans hB (HMW3.out 0).low.size)))
  clear HMW3 HSV3 hb
  have HSV3:=HSV4
  have HMW3:=HMW4
  clear HSV4 HMW4
  go_simp
  refine hK.out _ _ hq (fun hS=>?_)
  clear hK K hq
  (try dsimp only [Act.put]);(try simp only [List.setIfInBounds_toArray,List.set_cons_zero,List.set_cons_succ])
  refine Held.take (i:=6) (some 14) rfl (v:=?_) rfl (by kernel_rfl) (by kernel_rfl) (by kernel_rfl) (fun _ _ _ h=>h) (Or.inl ⟨by rfl,?_⟩) hS ?_
  rotate_left
  ·intro w' hw'
   go_simp
   try with_reducible rfl
  (try dsimp only [Act.put]);(try simp only [List.setIfInBounds_toArray,List.set_cons_zero,List.set_cons_succ])
  by_cases hy:y=(cr:Int)
  ·have e2:r2=.ok s':=by rw [← HR2.out];exact if_pos hy
   clear HR2
   subst e2 hy
   refine Held.take (i:=7) (some 15) rfl (v:=?_) rfl (by kernel_rfl) (by kernel_rfl) (by kernel_rfl) (fun _ _ _ h=>h) (Or.inl ⟨by rfl,?_⟩) hS ?_
   rotate_left
   ·intro w' hw'
    go_simp
    try with_reducible rfl
   (try dsimp only [Act.put]);(try simp only [List.setIfInBounds_toArray,List.set_cons_zero,List.set_cons_succ])
   refine wpAnyH_done (by kernel_rfl) ?_ _
   go_wp2
   go_end0
   exact ⟨rfl,HSV3.out,HMW3.out⟩
  ·have e2:r2=.error (5,s):=by rw [← HR2.out];exact if_neg hy
   clear HR2
   subst e2
   refine Held.take (i:=7) (some 15) rfl (v:=?_) rfl (by kernel_rfl) (by kernel_rfl) (by kernel_rfl) (fun _ _ _ h=>h) (Or.inl ⟨by rfl,?_⟩) hS ?_
   rotate_left
   ·intro w' hw'
    go_simp
    try with_reducible rfl
   (try dsimp only [Act.put]);(try simp only [List.setIfInBounds_toArray,List.set_cons_zero,List.set_cons_succ])
   refine wpAnyH_done (by kernel_rfl) ?_ _
   go_wp2_with fail
   refine (fail_any 5 s _).mono ?_
   rintro e v9 ⟨rfl,rfl⟩
   exact ⟨rfl,rfl,(HMW3.out 0).low⟩
end
end Rr
namespace Rr
open Go Go.RowKit Go.ChangeShapes
open Tab
open Po
open Rd (Rd But)
open Clone (zTab zHd info31 z_is)
def Kp (n0:Nat) (W V:World):Prop:=∀ (j:Nat) (cs:Array Value) (t:TypeId) (fr:Nat × Nat),W.heap[j]?=some (.cells cs t fr)→¬ Pt t→n0≤j→V.heap[j]?=W.heap[j]?
section
variable {n0:Nat} {W V U:World}
theorem Kp.trans (h:Kp n0 W V) (k:Kp n0 V U):Kp n0 W U:=fun j cs t fr hj ht hn=>(k j cs t fr ((h j cs t fr hj ht hn).trans hj) ht hn).trans (h j cs t fr hj ht hn)
theorem Kp.mv {B b:Nat} (h:Mv B b W V) (hb:b < n0):Kp n0 W V:=fun j cs t fr hj ht hn=>h.other j cs t fr hj ht (by omega)
theorem Kp.mem (h:Below W.heap.size W V):Kp n0 W V:=fun j cs t fr hj ht hn=>h.block j (Array.getElem?_eq_some_iff.1 hj).1
theorem Kp.but {g:Nat} (h:But g W V) (hg:g < n0):Kp n0 W V:=fun j cs t fr hj ht hn=>h.block j (Array.getElem?_eq_some_iff.1 hj).1 (by omega)
theorem Kp.row {g:Nat} (cs2:Array Value) (hg:g < n0):Kp n0 W (W.setRow g cs2):=fun j cs t fr hj ht hn=>setRow_other _ _ _ _ (by omega)
theorem newKp {a:Option Addr} {xs:List (List Value)} {T:TypeId} (h:NewRow n0 W a xs T) (k:Kp n0 W V) (hT:¬ Pt T):NewRow n0 V a xs T:=fun hx=>by
 obtain ⟨b,h1,h2,h3⟩:=h hx
 exact ⟨b,h1,h2,(k b _ _ _ h3 hT h1).trans h3⟩
structure Got (x:Raw) (n0:Nat) (ga da ra ba:Option Addr) (zs:List Zr) (W:World):Prop where
 z:zs.map (·.2)=x.gs
 g:x.gs ≠ []→∃ b,n0≤b∧ga=some ⟨b,0,none⟩∧W.heap[b]?=some (.cells (zs.flatMap zc).toArray 68 (0,0))
 r:Po.Rows n0 W zs
 d:NewRow n0 W da x.ds 71
 l:NewRow n0 W ra x.rs 75
 b:NewRow n0 W ba x.bs 77
theorem Got.kp {x:Raw} {ga da ra ba:Option Addr} {zs:List Zr} (h:Got x n0 ga da ra ba zs W) (k:Kp n0 W V):Got x n0 ga da ra ba zs V :=
 ⟨h.z,fun hx=>by
  obtain ⟨b,h1,h2,h3⟩:=h.g hx
  exact ⟨b,h1,h2,(k b _ _ _ h3 (by decide) h1).trans h3⟩,fun z hz=>⟨newKp (h.r z hz).1 k (by decide),newKp (h.r z hz).2 k (by decide)⟩,newKp h.d k (by decide),newKp h.l k (by decide),newKp h.b k (by decide)⟩
end
def decR (bs:List Nat):Except Flt Raw:=if 2048 < bs.length then .error (1,0) else andThen (headR bs) fun s1=>andThen (parts (RP bs) s1) fun x=>andThen (sumR bs x.2) fun s3=>andThen (endR bs s3) fun _=>.ok x.1
def EndsDec (r:Except Flt Raw) (w:World) (e:Ending) (w':World):Prop:=Below w.heap.size w w'∧match r with
 | .error f=>e=.returned (.tuple #[.agg (zTab.cells zHd).toArray,.agg #[I f.1,I f.2]])
 | .ok x=>∃ hd,e=.returned (.tuple #[.agg ((tabOf x).cells hd).toArray,.agg #[I 0,I 0]])∧IsTab w' hd (tabOf x)
theorem dclo_idle (b:Nat) (z0 z1:Int) (w:World) (hc:w.heap[b]?=some (.cells #[I z0,I z1] 36 (0,0))) :
  CallsD Tryz.prog 15 #[.pointer (some ⟨b,0,none⟩)] .returning w fun e u' w'=>e=.returned (.tuple #[])∧u'=.returning∧But b w w'∧w'.heap[b]?=some (.cells #[I 0,I 0] 36 (0,0)):=by
 refine callsD_of_wpS Tryz.func15 rfl fun c₀ cs hu=>?_
 apply wpS_region
 simp [wpOpsS,go_sem,recoverD,hu]
 refine (caught_nil _).mono ?_
 rintro e w' ⟨rfl,hb⟩
 have hc1:=(hb.block b (Array.getElem?_eq_some_iff.1 hc).1).trans hc
 have c0:w'.cell? ⟨b,0,none⟩=some (I z0):=by rw [cell_of_row _ _ _ _ _ _ hc1];rfl
 have c1:w'.cell? ⟨b,1,none⟩=some (I z1):=by rw [cell_of_row _ _ _ _ _ _ hc1];rfl
 have f0:w'.frozen? ⟨b,0,none⟩=false:=frozen_of_row _ _ _ _ _ hc1
 have f1:w'.frozen? ⟨b,1,none⟩=false:=frozen_of_row _ _ _ _ _ hc1
 have hs1:w'.setCell ⟨b,0,none⟩ (I 0)=w'.setRow b #[I 0,I z1]:=setCell_eq_setRow w' b 0 #[I z0,I z1] 36 (0,0) (I 0) hc1
 have hr1:=setRow_heap w' b _ #[I 0,I z1] _ _ hc1
 have hs2:(w'.setRow b #[I 0,I z1]).setCell ⟨b,1,none⟩ (I 0)=(w'.setRow b #[I 0,I z1]).setRow b #[I 0,I 0]:=setCell_eq_setRow _ b 1 #[I 0,I z1] 36 (0,0) (I 0) hr1
 have hr2:=setRow_heap _ b _ #[I 0,I 0] _ _ hr1
 rw [← hs2,← hs1] at hr2
 have hbut:But b w ((w'.setCell ⟨b,0,none⟩ (I 0)).setCell ⟨b,1,none⟩ (I 0)):=((But.of hb).trans (But.set b 0 w' _)).trans (But.set b 1 _ _)
 clear hs1 hs2 hr1
 simp [wpOpsS,go_sem,c0,f0,c1,f1,World.cell?_setCell_other,bodyPostS,results,Tryz.results15]
 cases c₀
 simp_all
theorem dec_is (bs:List Nat) (ad:Option Addr) (cap:Nat) (w:World) (hrow:Go.Proofs.YtjdeemmaaiecnaaGreat.B.Row w ad bs) (hlen:bs.length≤10000) (hnil:ad=none→cap=0) (hcap:bs.length≤cap) :
  Calls Tryz.prog 6 #[.slice ad bs.length cap] w (EndsDec (decR bs) w):=by
 have hmf:∀ (fn:Fn) (first cap:Array Value) (w:World),(Instr.makeFunc fn first cap).run Tryz.prog w=.ok (.func fn first cap) w:=fun _ _ _ _=>rfl
 have hmi:∀ (v:Value) (w:World),(Instr.makeInterface 55 v).run Tryz.prog w=.ok (.iface 55 v) w:=fun _ _=>rfl
 obtain ⟨res,hres⟩:∃ r,decR bs=r:=⟨_,rfl⟩
 rw [hres]
 have HRES:=Lib.hid hres
 clear hres
 have hz:=(zero_of_info info31).1
 have ZS:(zTab.cells zHd).toArray.size=131:=(cells_ok (z_is w)).size
 have ZI0:(Tryz.prog.info? 33).map (·.size)=some (zTab.cells zHd).toArray.size:=by rw [ZS];kernel_rfl
 have ZB:(bx (List.replicate 8 zPh).flatten nl (List.replicate 8 (I 0)) nl nl nl (List.replicate 5 (I 0)) (List.replicate 8 (I 0)) (List.replicate 2 (I 0))).toArray=(zTab.cells zHd).toArray:=rfl
 obtain ⟨Z,hZ⟩:∃ Z,(zTab.cells zHd).toArray=Z:=⟨_,rfl⟩
 rw [hZ] at hz ZI0 ZB ZS
 have EZ:=Lib.hid hZ
 have ZI:=Lib.hid ZI0
 have EB:=Lib.hid ZB
 have EZS:=Lib.hid ZS
 clear ZI0 ZB ZS
 have hb1:=(Below.refl w.heap.size w).alloc (Nat.le_refl _) (.cells Z 33)
 have hb2:=hb1.alloc hb1.size (.cells #[I 0,I 0] 36)
 have hg1:=heap_alloc_new w (.cells Z 33)
 have hg2:=heap_alloc_new (w.alloc (.cells Z 33)) (.cells #[I 0,I 0] 36)
 have hs1:(w.alloc (.cells Z 33)).heap.size=w.heap.size+1:=by simp
 rw [hs1] at hg2
 have hg3:((w.alloc (.cells Z 33)).alloc (.cells #[I 0,I 0] 36)).heap[w.heap.size]?=some (.cells Z 33 (0,0)):=by
  rw [Below.heap_alloc _ _ _ (by rw [hs1];omega)];exact hg1
 clear hZ hb1 hg1 hs1
 have HROW:=Lib.hid hrow
 have HLEN:=Lib.hid hlen
 have HNIL:=Lib.hid hnil
 have HCAP:=Lib.hid hcap
 clear hrow hlen hnil hcap
 obtain ⟨len,hln⟩:∃ n,bs.length=n:=⟨_,rfl⟩
 rw [hln]
 have HLN:=Lib.hid hln
 clear hln
 go_enter_defers Tryz.func6,Tryz.ntmps6
 go_upto_region 2 with fail
 generalize World.alloc (World.alloc w _) _=v at hb2 hg2 hg3 ⊢
 have HB:=Lib.hid hb2
 have hvs:=HB.out.size
 generalize hfb:w.heap.size+1=fb at hg2 ⊢
 generalize htb:w.heap.size=tb at hg3 ⊢
 have HF:=Lib.hid hg2
 have HT:=Lib.hid hg3
 clear hb2 hg2 hg3
 by_cases hbig:2048 < len
 ·go_wp2_with fail
  refine (fail_any 1 0 _).mono ?_
  rintro e v3 ⟨rfl,rfl⟩
  have e2:res=.error (1,0):=by
   rw [← HRES.out]
   unfold decR
   rw [if_pos (by rw [HLN.out];exact hbig)]
  have hlow:Below v.heap.size v v:=Below.refl _ _
  have hF3:=(hlow.block fb (Array.getElem?_eq_some_iff.1 HF.out).1).trans HF.out
  have hT3:=(hlow.block tb (Array.getElem?_eq_some_iff.1 HT.out).1).trans HT.out
  (try go_wp2)
  refine leaves_cons (f:=15) (args:=#[.pointer (some ⟨fb,0,none⟩)]) (by simp) (by simp [go_sem]) ?_
  refine (dclo_panic fb 0 0 (1) (0) v hF3).mono ?_
  rintro e u' w'' ⟨rfl,rfl,hbut,hF4⟩
  have hT4:=(hbut.block tb (Array.getElem?_eq_some_iff.1 hT3).1 (by omega)).trans hT3
  have hBB:Below w.heap.size w w'':=(HB.out.trans (hlow.mono HB.out.size)).trans (hbut.below (Nat.le_trans HB.out.size hlow.size) (by omega))
  refine ⟨_,results_two rfl _ w'' tb fb 33 36 Z #[I (1),I (0)] _ _ rfl rfl hT4 hF4 Tryz.underlying33 rfl ZI.out Tryz.underlying36 rfl infoF,hBB,?_⟩
  (try rw [e2])
  rw [← EZ.out]
 have HBIG:Hid (¬ 2048 < bs.length):=Lib.hid (by rw [HLN.out];exact hbig)
 go_wp2_with fail
 rw [← HLN.out]
 refine (Rd.new_own ad cap bs v (HROW.out.below (HB.out)) (by have:=HLEN.out;omega) HNIL.out).mono ?_
 rintro e v1 ⟨g,ad',cap',rfl,hg,_,hrd,hown,hshp,hb⟩
 have hst:RS v.heap.size g ad' cap' bs 0 v1:=⟨hrd,Nat.zero_le _,by have:=HLEN.out;omega,hg,hshp,hown,HROW.out.2.1⟩
 go_upto_region 5 with fail
 have hb3:=hb.alloc hb.size (.cells #[.pointer (some ⟨g,0,none⟩)] 55)
 have hr3:=heap_alloc_new v1 (.cells #[.pointer (some ⟨g,0,none⟩)] 55)
 have hst3:=hst.mem ((Below.refl v1.heap.size v1).alloc (Nat.le_refl _) (.cells #[.pointer (some ⟨g,0,none⟩)] 55))
 have hrb0:v.heap.size≤v1.heap.size:=hb.size
 generalize World.alloc v1 _=v2 at hb3 hr3 hst3 ⊢
 generalize v1.heap.size=rb at hr3 hrb0 ⊢
 have LR:Hid (∀ W,(∀ b,Mv v.heap.size b v2 W)→Lies W ⟨rb,0,none⟩ [.pointer (some ⟨g,0,none⟩)]):=Lib.hid (fun W hm=>by have:=Row.lies_of_block (((hm (rb+1)).other rb _ _ _ hr3 (by decide) (by omega)).trans hr3);simpa using this)
 have HRB:=Lib.hid hr3
 have HST:=Lib.hid hst3
 have HB2:=Lib.hid hb3
 clear hb hb3 hr3 hst hst3 hrd hown hshp hg
 go_wp2_with (refine Row.wpList_load_g 55 _ rfl (by first | rfl | (go_simp;done) | fail) ⟨rb,0,none⟩ rfl [.pointer (some ⟨g,0,none⟩)] _ (LR.out _ (fun b=>Mv.refl _ _ _)) Tryz.underlying55 rfl infoRd ?_)
 refine (head_any v2 HST.out HB2.out.size).mono ?_
 intro e v3 hE
 obtain ⟨r1,hr1⟩:∃ r,headR bs=r:=⟨_,rfl⟩
 rw [hr1] at hE
 cases r1 with
 | error fl =>
  obtain ⟨fc,fa⟩:=fl
  obtain ⟨rfl,hb4⟩:=hE
  have e2:res=.error (fc,fa):=by
   rw [← HRES.out]
   unfold decR
   rw [if_neg HBIG.out,hr1]
   rfl
  have hlow:Below v.heap.size v v3:=HB2.out.trans hb4
  have hF3:=(hlow.block fb (Array.getElem?_eq_some_iff.1 HF.out).1).trans HF.out
  have hT3:=(hlow.block tb (Array.getElem?_eq_some_iff.1 HT.out).1).trans HT.out
  (try go_wp2)
  refine leaves_cons (f:=15) (args:=#[.pointer (some ⟨fb,0,none⟩)]) (by simp) (by simp [go_sem]) ?_
  refine (dclo_panic fb 0 0 (fc) (fa) v3 hF3).mono ?_
  rintro e u' w'' ⟨rfl,rfl,hbut,hF4⟩
  have hT4:=(hbut.block tb (Array.getElem?_eq_some_iff.1 hT3).1 (by omega)).trans hT3
  have hBB:Below w.heap.size w w'':=(HB.out.trans (hlow.mono HB.out.size)).trans (hbut.below (Nat.le_trans HB.out.size hlow.size) (by omega))
  refine ⟨_,results_two rfl _ w'' tb fb 33 36 Z #[I (fc),I (fa)] _ _ rfl rfl hT4 hF4 Tryz.underlying33 rfl ZI.out Tryz.underlying36 rfl infoF,hBB,?_⟩
  (try rw [e2])
  rw [← EZ.out]
 | ok s1 =>
  obtain ⟨rfl,hst4,hmv4⟩:=hE
  have HR1:=Lib.hid hr1
  have HST4:=Lib.hid hst4
  have HM4:Hid (∀ b,Mv v.heap.size b v2 v3):=Lib.hid hmv4
  clear hr1 hst4 hmv4 HST
  go_upto_region 7 with fail
  have ha:=heap_alloc_new v3 (.cells Z 33)
  have hba:=(Below.refl v3.heap.size v3).alloc (Nat.le_refl _) (.cells Z 33)
  have hst5:=HST4.out.mem hba
  have hB3:v.heap.size≤v3.heap.size:=Nat.le_trans HB2.out.size (HM4.out 0).low.size
  have hm5:∀ b,Mv v.heap.size b v2 (v3.alloc (.cells Z 33)):=fun b=>(HM4.out b).trans (Mv.of hba hB3)
  have hB5:v.heap.size≤(v3.alloc (.cells Z 33)).heap.size:=Nat.le_trans hB3 hba.size
  have hrr:rb < v3.heap.size:=Nat.lt_of_lt_of_le (Array.getElem?_eq_some_iff.1 HRB.out).1 (HM4.out 0).low.size
  generalize World.alloc v3 _=v4 at ha hst5 hm5 hB5 ⊢
  generalize v3.heap.size=rt at ha hB3 hrr ⊢
  have HM5:=Lib.hid hm5
  have HST5:=Lib.hid hst5
  have HA:=Lib.hid ha
  clear ha hst5 hm5 HST4 HM4 hba
  have CP:=Lib.hid (newT_any (PT:=rport (B:=v.heap.size) (g:=g) (ad:=ad') (cap:=cap') (bs:=bs)) (Lib.hid (rfew HROW.out.2.1)) (s:=s1) HST5.out hB5 (tb:=rt) (by rw [EB.out];exact HA.out) hB3 ((rroomy bs).parts s1))
  go_wp2_with (refine Row.wpList_load_g 55 _ rfl (by first | rfl | (go_simp;done) | fail) ⟨rb,0,none⟩ rfl [.pointer (some ⟨g,0,none⟩)] _ (LR.out _ (fun b=>HM5.out b)) Tryz.underlying55 rfl infoRd ?_)
  refine CP.out.mono ?_
  clear CP
  intro e v5 hE
  obtain ⟨r2,hr2⟩:∃ r,parts (RP bs) s1=r:=⟨_,rfl⟩
  rw [hr2] at hE
  have hlow5:Below v.heap.size v v4:=HB2.out.trans (HM5.out 0).low
  cases r2 with
  | error fl =>
   obtain ⟨fc,fa⟩:=fl
   obtain ⟨rfl,hb4⟩:=hE
   have e2:res=.error (fc,fa):=by
    rw [← HRES.out]
    unfold decR
    rw [if_neg HBIG.out,HR1.out,andThen_ok,hr2]
    rfl
   have hlow:Below v.heap.size v v5:=hlow5.trans hb4
   have hF3:=(hlow.block fb (Array.getElem?_eq_some_iff.1 HF.out).1).trans HF.out
   have hT3:=(hlow.block tb (Array.getElem?_eq_some_iff.1 HT.out).1).trans HT.out
   (try go_wp2)
   refine leaves_cons (f:=15) (args:=#[.pointer (some ⟨fb,0,none⟩)]) (by simp) (by simp [go_sem]) ?_
   refine (dclo_panic fb 0 0 (fc) (fa) v5 hF3).mono ?_
   rintro e u' w'' ⟨rfl,rfl,hbut,hF4⟩
   have hT4:=(hbut.block tb (Array.getElem?_eq_some_iff.1 hT3).1 (by omega)).trans hT3
   have hBB:Below w.heap.size w w'':=(HB.out.trans (hlow.mono HB.out.size)).trans (hbut.below (Nat.le_trans HB.out.size hlow.size) (by omega))
   refine ⟨_,results_two rfl _ w'' tb fb 33 36 Z #[I (fc),I (fa)] _ _ rfl rfl hT4 hF4 Tryz.underlying33 rfl ZI.out Tryz.underlying36 rfl infoF,hBB,?_⟩
   (try rw [e2])
   rw [← EZ.out]
  | ok xs =>
   obtain ⟨x,s2⟩:=xs
   obtain ⟨rfl,hst6,hmv6,ga,da,ra,ba,zs,hbx,hz1,hz2,hz3,hz4,hz5,hz6⟩:=hE
   have hok:=parts_ok (rfew HROW.out.2.1) hr2
   have HR2:=Lib.hid hr2
   have HST6:Hid (RS v.heap.size g ad' cap' bs s2 v5):=Lib.hid hst6
   have HGOT:Hid (Got x (rt+1) ga da ra ba zs v5):=Lib.hid ⟨hz1,hz2,hz3,hz4,hz5,hz6⟩
   have HOK:=Lib.hid hok
   have HBX:=Lib.hid hbx
   have HM6:=Lib.hid hmv6
   have hB6:v.heap.size≤v5.heap.size:=Nat.le_trans hB5 hmv6.low.size
   have hlow6:Below v.heap.size v v5:=hlow5.trans hmv6.low
   have LR6:Hid (∀ W,(∀ b,Mv v.heap.size b v5 W)→Lies W ⟨rb,0,none⟩ [.pointer (some ⟨g,0,none⟩)]):=Lib.hid (fun W hm=>by
    have h1:=((HM5.out rt).other rb _ _ _ HRB.out (by decide) (by omega)).trans HRB.out
    have h2:=(HM6.out.other rb _ _ _ h1 (by decide) (by omega)).trans h1
    have:=Row.lies_of_block (((hm (rb+1)).other rb _ _ _ h2 (by decide) (by omega)).trans h2)
    simpa using this)
   clear hst6 hmv6 hbx hz1 hz2 hz3 hz4 hz5 hz6 hr2 hok HST5
   have CS:=Lib.hid (sum_any (bs:=bs) (ad:=ad') (cap:=cap') s2 v5 HST6.out hB6 ad cap (fun W hb=>HROW.out.below (HB.out.trans ((hlow6.trans hb).mono HB.out.size))) HCAP.out)
   go_wp2_with (refine Row.wpList_load_g 55 _ rfl (by first | rfl | (go_simp;done) | fail) ⟨rb,0,none⟩ rfl [.pointer (some ⟨g,0,none⟩)] _ (LR6.out _ (fun b=>Mv.refl _ _ _)) Tryz.underlying55 rfl infoRd ?_)
   refine CS.out.mono ?_
   clear CS
   intro e v6 hE
   obtain ⟨r3,hr3⟩:∃ r,sumR bs s2=r:=⟨_,rfl⟩
   rw [hr3] at hE
   cases r3 with
   | error fl =>
    obtain ⟨fc,fa⟩:=fl
    obtain ⟨rfl,hb4⟩:=hE
    have e2:res=.error (fc,fa):=by
     rw [← HRES.out]
     unfold decR
     rw [if_neg HBIG.out,HR1.out,andThen_ok,HR2.out,andThen_ok,hr3]
     rfl
    have hlow:Below v.heap.size v v6:=hlow6.trans hb4
    have hF3:=(hlow.block fb (Array.getElem?_eq_some_iff.1 HF.out).1).trans HF.out
    have hT3:=(hlow.block tb (Array.getElem?_eq_some_iff.1 HT.out).1).trans HT.out
    (try go_wp2)
    refine leaves_cons (f:=15) (args:=#[.pointer (some ⟨fb,0,none⟩)]) (by simp) (by simp [go_sem]) ?_
    refine (dclo_panic fb 0 0 (fc) (fa) v6 hF3).mono ?_
    rintro e u' w'' ⟨rfl,rfl,hbut,hF4⟩
    have hT4:=(hbut.block tb (Array.getElem?_eq_some_iff.1 hT3).1 (by omega)).trans hT3
    have hBB:Below w.heap.size w w'':=(HB.out.trans (hlow.mono HB.out.size)).trans (hbut.below (Nat.le_trans HB.out.size hlow.size) (by omega))
    refine ⟨_,results_two rfl _ w'' tb fb 33 36 Z #[I (fc),I (fa)] _ _ rfl rfl hT4 hF4 Tryz.underlying33 rfl ZI.out Tryz.underlying36 rfl infoF,hBB,?_⟩
    (try rw [e2])
    rw [← EZ.out]
   | ok s3 =>
    obtain ⟨rfl,hst7,hmv7⟩:=hE
    have HR3:=Lib.hid hr3
    have HST7:Hid (RS v.heap.size g ad' cap' bs s3 v6):=Lib.hid hst7
    have HM7:Hid (∀ b,Mv v.heap.size b v5 v6):=Lib.hid hmv7
    have hB7:v.heap.size≤v6.heap.size:=Nat.le_trans hB6 (hmv7 0).low.size
    have hlow7:Below v.heap.size v v6:=hlow6.trans (hmv7 0).low
    clear hr3 hst7 hmv7 HST6
    go_wp2_with (refine Row.wpList_load_g 55 _ rfl (by first | rfl | (go_simp;done) | fail) ⟨rb,0,none⟩ rfl [.pointer (some ⟨g,0,none⟩)] _ (LR6.out _ (fun b=>HM7.out b)) Tryz.underlying55 rfl infoRd ?_)
    refine (end_any s3 v6 HST7.out hB7).mono ?_
    intro e v7 hE
    obtain ⟨r4,hr4⟩:∃ r,endR bs s3=r:=⟨_,rfl⟩
    rw [hr4] at hE
    cases r4 with
    | error fl =>
     obtain ⟨fc,fa⟩:=fl
     obtain ⟨rfl,hb4⟩:=hE
     have e2:res=.error (fc,fa):=by
      rw [← HRES.out]
      unfold decR
      rw [if_neg HBIG.out,HR1.out,andThen_ok,HR2.out,andThen_ok,HR3.out,andThen_ok,hr4]
      rfl
     have hlow:Below v.heap.size v v7:=hlow7.trans hb4
     have hF3:=(hlow.block fb (Array.getElem?_eq_some_iff.1 HF.out).1).trans HF.out
     have hT3:=(hlow.block tb (Array.getElem?_eq_some_iff.1 HT.out).1).trans HT.out
     (try go_wp2)
     refine leaves_cons (f:=15) (args:=#[.pointer (some ⟨fb,0,none⟩)]) (by simp) (by simp [go_sem]) ?_
     refine (dclo_panic fb 0 0 (fc) (fa) v7 hF3).mono ?_
     rintro e u' w'' ⟨rfl,rfl,hbut,hF4⟩
     have hT4:=(hbut.block tb (Array.getElem?_eq_some_iff.1 hT3).1 (by omega)).trans hT3
     have hBB:Below w.heap.size w w'':=(HB.out.trans (hlow.mono HB.out.size)).trans (hbut.below (Nat.le_trans HB.out.size hlow.size) (by omega))
     refine ⟨_,results_two rfl _ w'' tb fb 33 36 Z #[I (fc),I (fa)] _ _ rfl rfl hT4 hF4 Tryz.underlying33 rfl ZI.out Tryz.underlying36 rfl infoF,hBB,?_⟩
     (try rw [e2])
     rw [← EZ.out]
    | ok s4 =>
     obtain ⟨rfl,hst8,hmv8⟩:=hE
     have e2:res=.ok x:=by
      rw [← HRES.out]
      unfold decR
      rw [if_neg HBIG.out,HR1.out,andThen_ok,HR2.out,andThen_ok,HR3.out,andThen_ok,hr4]
      rfl
     have hm8:∀ b,Mv v.heap.size b v5 v7:=fun b=>(HM7.out b).trans (hmv8 b)
     have hbx8:=((hm8 (rt+1)).other rt _ _ _ HBX.out (by decide) (by omega)).trans HBX.out
     have hgot8:=HGOT.out.kp (Kp.mv (hm8 0) (by omega))
     have hlow8:Below v.heap.size v v7:=hlow6.trans (hm8 0).low
     obtain ⟨hd0,hcs,htab⟩:=got_tab HOK.out hgot8.z hgot8.g hgot8.r hgot8.d hgot8.l hgot8.b
     have CO:=cells_ok htab
     have hcs2:∃ c:List Value,c=(tabOf x).cells hd0:=⟨_,rfl⟩
     obtain ⟨c,hc⟩:=hcs2
     rw [hcs,← hc] at hbx8
     rw [← hc] at CO
     have csl:c.length=131:=by have:=CO.size;rwa [List.size_toArray] at this
     have ONE:=CO.one
     have HC:=Lib.hid hc
     have HCS:=Lib.hid hcs
     have HG8:=Lib.hid hgot8
     have HBX8:=Lib.hid hbx8
     have IC:Hid ((Tryz.prog.info? 33).map (·.size)=some c.length):=Lib.hid (by rw [csl];kernel_rfl)
     clear hcs hc hgot8 hbx8 htab CO hst8 hmv8 hr4 HM7 HST7
     have hT8:=(hlow8.block tb (Array.getElem?_eq_some_iff.1 HT.out).1).trans HT.out
     have hF8:=(hlow8.block fb (Array.getElem?_eq_some_iff.1 HF.out).1).trans HF.out
     have HT8:=Lib.hid hT8
     have hF9:(v7.setRow tb c.toArray).heap[fb]?=some (.cells #[I 0,I 0] 36 (0,0)):=by rw [setRow_other _ _ _ _ (by omega)];exact hF8
     have HF9:=Lib.hid hF9
     have IC2:Hid ((Tryz.prog.info? 33).map (·.size)=some c.toArray.size):=Lib.hid (by rw [List.size_toArray];exact IC.out)
     have ISZ:Hid (Z.size=c.toArray.size):=Lib.hid (by rw [EZS.out,List.size_toArray,csl])
     have HONE:=Lib.hid ONE
     have HL8:=Lib.hid hlow8
     clear hT8 hF9 hF8 ONE csl hlow8
     go_wp2_with (first | (refine Row.wpList_load_g 33 _ rfl (by first | rfl | (go_simp;done) | fail) ⟨rt,0,none⟩ rfl c _ (by have:=Row.lies_of_block HBX8.out;simpa using this) Tryz.underlying33 rfl IC.out ?_) | (refine wpList_store_row rfl 33 _ _ rfl tb c.toArray rfl rfl 33 _ HT8.out IC2.out ISZ.out HONE.out ?_) | (refine wpList_store_row rfl 36 _ _ rfl fb #[I 0,I 0] rfl rfl 36 _ HF9.out infoF rfl (by simp [Value.oneCell']) ?_))
     have hT9:((v7.setRow tb c.toArray).setRow fb #[I 0,I 0]).heap[tb]?=some (.cells c.toArray 33 (0,0)):=by
      rw [setRow_other _ _ _ _ (by omega)]
      exact setRow_heap _ _ _ _ _ _ HT8.out
     have hF9:=setRow_heap _ fb _ #[I 0,I 0] _ _ HF9.out
     have hlow9:Below w.heap.size w ((v7.setRow tb c.toArray).setRow fb #[I 0,I 0]):=below_setRow (below_setRow (HB.out.trans (HL8.out.mono HB.out.size)) (by omega) _) (by omega) _
     have hgot9:=(HG8.out.kp (Kp.row c.toArray (show tb < rt+1 by omega))).kp (Kp.row #[I 0,I 0] (show fb < rt+1 by omega))
     generalize (v7.setRow tb c.toArray).setRow fb #[I 0,I 0]=v9 at hT9 hF9 hlow9 hgot9 ⊢
     (try go_wp2)
     refine leaves_cons (f:=15) (args:=#[.pointer (some ⟨fb,0,none⟩)]) (by simp) (by simp [go_sem]) ?_
     refine (dclo_idle fb 0 0 v9 hF9).mono ?_
     rintro e u' w'' ⟨rfl,rfl,hbut,hF4⟩
     have hT4:=(hbut.block tb (Array.getElem?_eq_some_iff.1 hT9).1 (by omega)).trans hT9
     have hgot4:=hgot9.kp (Kp.but hbut (show fb < rt+1 by omega))
     have hBB:Below w.heap.size w w'':=hlow9.trans (hbut.below hlow9.size (by omega))
     obtain ⟨hd9,hcs9,htab9⟩:=got_tab HOK.out hgot4.z hgot4.g hgot4.r hgot4.d hgot4.l hgot4.b
     have hc9:c=(tabOf x).cells hd9:=by rw [HC.out,← HCS.out];exact hcs9
     refine ⟨_,results_two rfl _ w'' tb fb 33 36 c.toArray #[I 0,I 0] _ _ rfl rfl hT4 hF4 Tryz.underlying33 rfl IC2.out Tryz.underlying36 rfl infoF,hBB,?_⟩
     (try rw [e2])
     exact ⟨hd9,by rw [hc9],htab9⟩
end Rr
namespace By
open Go Go.RowKit
open Tab Po
open Rr (RP may decR headR sumR endR)
open Put (low low_len low_lt low_mod lim)
open Nx (val be be_cons)
open Cd (puts phB detB rlB bsB rowB grB listB itemsB bodyB sealB B8)
open CrcM (crc)
open May (allIn inB tabMay listMay groupMay rowMay)
def kdB (st:List Sp) (z:List Value):Bool:=st.all fun c=>match z[jS c]? with
 | some u=>kind u == kS c
 | none=>false
theorem kd_of {st:List Sp} {z:List Value} (h:kdB st z=true):∀ c ∈ st,∃ u,z[jS c]?=some u∧kind u=kS c:=fun c hc=>by
 have h1:=List.all_eq_true.1 h c hc
 cases hu:z[jS c]? with
 | none=>rw [hu] at h1;cases h1
 | some u=>rw [hu] at h1;exact ⟨u,rfl,by simpa using h1⟩
theorem st_ph:St stPh zPh where
 fit:=by decide +kernel
 nd:=by decide
 kd:=kd_of (by decide)
 all:=fun L h=>by rw [← ofPh_cells h];rfl
theorem st_dt:St stD zDt where
 fit:=by decide +kernel
 nd:=by decide
 kd:=kd_of (by decide)
 all:=fun L h=>by rw [← ofDet_cells h];rfl
theorem st_rl:St stR zRl where
 fit:=by decide +kernel
 nd:=by decide
 kd:=kd_of (by decide)
 all:=fun L h=>by rw [← ofRl_cells h];rfl
theorem st_bs:St stB zBs where
 fit:=by decide +kernel
 nd:=by decide
 kd:=kd_of (by decide)
 all:=fun L h=>by rw [← ofBs_cells h];rfl
abbrev stT:List Sp:=[0,1,2,3,4].map (Sp.num 2 9999)
abbrev stK:List Sp:=[0,1].map (Sp.num 4 2147483647)
theorem all8 {m:Int} {L:List Value} (h:L.map kind=(List.replicate 8 (I 0)).map kind):sets L (st8 m 8) (List.replicate 8 (I 0))=L:=by
 rw [List.map_replicate] at h
 have h1:=ints_iv (n:=8) h
 have hl:=congrArg List.length h
 rw [List.length_map,List.length_replicate] at hl
 obtain ⟨a0,a1,a2,a3,a4,a5,a6,a7,rfl⟩:=eight hl
 rw [← h1]
 rfl
theorem st_c8:St (st8 255 8) (List.replicate 8 (I 0)) where
 fit:=by decide +kernel
 nd:=by decide
 kd:=kd_of (by decide)
 all:=fun L h=>all8 h
theorem st_f8:St (st8 2 8) (List.replicate 8 (I 0)) where
 fit:=by decide +kernel
 nd:=by decide
 kd:=kd_of (by decide)
 all:=fun L h=>all8 h
theorem st_t:St stT (List.replicate 5 (I 0)) where
 fit:=by decide +kernel
 nd:=by decide
 kd:=kd_of (by decide)
 all:=fun L h=>by
  rw [List.map_replicate] at h
  rw [five h]
  rfl
theorem st_k:St stK (List.replicate 2 (I 0)) where
 fit:=by decide +kernel
 nd:=by decide
 kd:=kd_of (by decide)
 all:=fun L h=>by
  rw [List.map_replicate] at h
  rw [two h]
  rfl
def encR (x:Raw):List Nat:=x.ph.flatMap (encs stPh)++(grpsE x.gs++(encs (st8 255 8) x.cf++(listE (encs stD) x.ds++(listE (encs stR) x.rs++(listE (encs stB) x.bs++(encs stT x.tm++(encs (st8 2 8) x.fl++encs stK x.tk)))))))
structure GoodR (x:Raw):Prop where
 ph:∀ r ∈ x.ph,goods stPh r=true
 gn:(x.gs.length:Int)≤4
 gs:∀ g ∈ x.gs,gG g=true
 cf:goods (st8 255 8) x.cf=true
 dn:(x.ds.length:Int)≤16
 ds:∀ r ∈ x.ds,goods stD r=true
 rn:(x.rs.length:Int)≤4
 rs:∀ r ∈ x.rs,goods stR r=true
 bn:(x.bs.length:Int)≤4
 bs:∀ r ∈ x.bs,goods stB r=true
 tm:goods stT x.tm=true
 fl:goods (st8 2 8) x.fl=true
 tk:goods stK x.tk=true
section
variable {P:PP}
theorem parts_intro {x:Raw} {s s1 s2 s3 s4 s5 s6 s7 s8 s9:P.σ} (h1:eachs P stPh (List.replicate 8 zPh) s=.ok (x.ph,s1)) (h2:listG P 4 s1=.ok (x.gs,s2)) (h3:runs P (st8 255 8) (List.replicate 8 (I 0)) s2=.ok (x.cf,s3)) (h4:listN P 16 stD zDt s3=.ok (x.ds,s4)) (h5:listN P 4 stR zRl s4=.ok (x.rs,s5)) (h6:listN P 4 stB zBs s5=.ok (x.bs,s6)) (h7:runs P stT (List.replicate 5 (I 0)) s6=.ok (x.tm,s7)) (h8:runs P (st8 2 8) (List.replicate 8 (I 0)) s7=.ok (x.fl,s8)) (h9:runs P stK (List.replicate 2 (I 0)) s8=.ok (x.tk,s9)):parts P s=.ok (x,s9):=by
 unfold parts
 rw [h1,andThen_ok]
 simp only
 rw [h2,andThen_ok]
 simp only
 rw [h3,andThen_ok]
 simp only
 rw [show listN P 16 stD [I 0,.float .f64 0,.float .f64 0,.float .f64 0,.float .f64 0,I 0,I 0] s3=_ from h4,andThen_ok]
 simp only
 rw [show listN P 4 stR [I 0,I 0,I 0,I 0,I 0,I 0,I 0,I 0,I 0,I 0,I 0] s4=_ from h5,andThen_ok]
 simp only
 rw [show listN P 4 stB [I 0,I 0] s5=_ from h6,andThen_ok]
 simp only
 rw [h7,andThen_ok]
 simp only
 rw [h8,andThen_ok]
 simp only
 rw [h9,andThen_ok]
theorem parts_inv {x:Raw} {s s9:P.σ} (h:parts P s=.ok (x,s9)):∃ s1 s2 s3 s4 s5 s6 s7 s8,eachs P stPh (List.replicate 8 zPh) s=.ok (x.ph,s1)∧listG P 4 s1=.ok (x.gs,s2)∧runs P (st8 255 8) (List.replicate 8 (I 0)) s2=.ok (x.cf,s3)∧listN P 16 stD zDt s3=.ok (x.ds,s4)∧listN P 4 stR zRl s4=.ok (x.rs,s5)∧listN P 4 stB zBs s5=.ok (x.bs,s6)∧runs P stT (List.replicate 5 (I 0)) s6=.ok (x.tm,s7)∧runs P (st8 2 8) (List.replicate 8 (I 0)) s7=.ok (x.fl,s8)∧runs P stK (List.replicate 2 (I 0)) s8=.ok (x.tk,s9):=by
 unfold parts at h
 obtain ⟨x1,h1,h⟩:=Po.then_ok h
 obtain ⟨x2,h2,h⟩:=Po.then_ok h
 obtain ⟨x3,h3,h⟩:=Po.then_ok h
 obtain ⟨x4,h4,h⟩:=Po.then_ok h
 obtain ⟨x5,h5,h⟩:=Po.then_ok h
 obtain ⟨x6,h6,h⟩:=Po.then_ok h
 obtain ⟨x7,h7,h⟩:=Po.then_ok h
 obtain ⟨x8,h8,h⟩:=Po.then_ok h
 obtain ⟨x9,h9,h⟩:=Po.then_ok h
 cases h
 exact ⟨x1.2,x2.2,x3.2,x4.2,x5.2,x6.2,x7.2,x8.2,h1,h2,h3,h4,h5,h6,h7,h8,h9⟩
end
section
variable {bs:List Nat}
theorem parts_bwd (hb:∀ x ∈ bs,x < 256) {x:Raw} {s s':Nat} (hs:s≤bs.length) (h:parts (RP bs) s=.ok (x,s')):GoodR x∧s'=s+(encR x).length∧s'≤bs.length∧bs.drop s=encR x++bs.drop s':=by
 obtain ⟨s1,s2,s3,s4,s5,s6,s7,s8,h1,h2,h3,h4,h5,h6,h7,h8,h9⟩:=parts_inv h
 obtain ⟨a1,b1,c1,e1⟩:=eachs_bwd hb st_ph 8 hs h1
 obtain ⟨n2,a2,b2,c2,e2⟩:=listG_bwd hb c1 h2
 obtain ⟨a3,b3,c3,e3,_⟩:=runs_bwd hb _ st_c8.kd st_c8.nd st_c8.fit c2 h3
 obtain ⟨n4,a4,b4,c4,e4⟩:=list_bwd hb st_dt (by decide) c3 h4
 obtain ⟨n5,a5,b5,c5,e5⟩:=list_bwd hb st_rl (by decide) c4 h5
 obtain ⟨n6,a6,b6,c6,e6⟩:=list_bwd hb st_bs (by decide) c5 h6
 obtain ⟨a7,b7,c7,e7,_⟩:=runs_bwd hb _ st_t.kd st_t.nd st_t.fit c6 h7
 obtain ⟨a8,b8,c8,e8,_⟩:=runs_bwd hb _ st_f8.kd st_f8.nd st_f8.fit c7 h8
 obtain ⟨a9,b9,c9,e9,_⟩:=runs_bwd hb _ st_k.kd st_k.nd st_k.fit c8 h9
 refine ⟨⟨a1,n2,a2,a3,n4,a4,n5,a5,n6,a6,a7,a8,a9⟩,?_,c9,?_⟩
 ·unfold encR
  simp only [List.length_append]
  omega
 ·unfold encR
  rw [e1,e2,e3,e4,e5,e6,e7,e8,e9]
  simp only [List.append_assoc]
end
theorem one_low (b:Bool):low 1 (Cd.one b)=[if b=true then 1 else 0]:=by cases b <;> decide +kernel
theorem enc_ph (p:Ph):encs stPh p.cells=phB p:=by
 have h:encs stPh p.cells=[if p.on=true then 1 else 0]++(low 2 p.min++(low 2 p.gap++(low 2 p.max++(low 2 p.top++(low 2 p.step++(low 2 p.yellow++(low 2 p.red++(low 2 p.walk++(low 2 p.blinks++(low 1 p.recall++([if p.lock=true then 1 else 0]++([if p.rest=true then 1 else 0]++[])))))))))))):=rfl
 rw [h]
 simp [phB,puts,one_low]
theorem enc_dt (p:Det):encs stD p.cells=detB p:=by
 have h:encs stD p.cells=low 1 p.phase++(low 8 (p.on:Int)++(low 8 (p.off:Int)++(low 8 (p.delay:Int)++(low 8 (p.extend:Int)++(low 2 p.maxOn++(low 2 p.maxOff++[])))))):=rfl
 rw [h]
 simp [detB,puts,one_low]
theorem enc_rl (p:Rl):encs stR p.cells=rlB p:=by
 have h:encs stR p.cells=low 1 p.bars++(low 1 p.clear++(low 1 p.dwell++(low 1 p.exit++(low 2 p.delay++(low 2 p.green++(low 2 p.foot++(low 2 p.hold++(low 2 p.stay++(low 2 p.most++(low 4 p.limit++[])))))))))):=rfl
 rw [h]
 simp [rlB,puts,one_low]
theorem enc_bs (p:Bs):encs stB p.cells=bsB p:=by
 have h:encs stB p.cells=low 1 p.set++(low 2 p.lock++[]):=rfl
 rw [h]
 simp [bsB,puts]
theorem enc_int (n:Int):encs stI [I n]=low 1 n:=by
 have h:encs stI [I n]=low 1 n++[]:=rfl
 rw [h,List.append_nil]
theorem may_ph (p:Ph):goods stPh p.cells=May.Ph.may p:=by
 rw [Bool.eq_iff_iff]
 simp [goods,May.Ph.may,allIn,inB,goodS,jS,Ph.cells,and_assoc]
theorem may_rl (p:Rl):goods stR p.cells=May.Rl.may p:=by
 rw [Bool.eq_iff_iff]
 simp [goods,May.Rl.may,allIn,inB,goodS,jS,Rl.cells,and_assoc]
theorem may_bs (p:Bs):goods stB p.cells=May.Bs.may p:=by
 rw [Bool.eq_iff_iff]
 simp [goods,May.Bs.may,allIn,inB,goodS,jS,Bs.cells,and_assoc]
theorem may_int (n:Int):goods stI [I n]=inB 7 n:=by
 rw [Bool.eq_iff_iff]
 simp [goods,inB,goodS,jS]
def fitD (d:Det):Prop:=d.on < 18446744073709551616∧d.off < 18446744073709551616∧d.delay < 18446744073709551616∧d.extend < 18446744073709551616
theorem may_dt (p:Det):goods stD p.cells=true ↔ May.Det.may p=true∧fitD p:=by
 simp [goods,May.Det.may,allIn,inB,goodS,jS,Det.cells,may,fitD]
 constructor
 ·rintro ⟨a,⟨b,b2⟩,⟨c,c2⟩,⟨d,d2⟩,⟨e,e2⟩,f⟩
  simp_all
 ·rintro ⟨⟨a,b,c,d,e,f⟩,b2,c2,d2,e2⟩
  simp_all
end By
namespace Blk
open Go Go.RowKit Go.ChangeShapes Tab
abbrev Bl:Type:=Nat × Array Value × TypeId
structure Bks (w:World) (L:List Bl) (u:World):Prop where
 bel:Below w.heap.size w u
 low:∀ x ∈ L,w.heap.size≤x.1
 blk:∀ x ∈ L,u.heap[x.1]?=some (.cells x.2.1 x.2.2 (0,0))
 apart:(L.map (·.1)).Nodup
section
variable {w u v:World} {L:List Bl}
theorem lt_of {g:Nat} {o:Obj} (hg:u.heap[g]?=some o):g < u.heap.size:=(Array.getElem?_eq_some_iff.1 hg).1
theorem Bks.nil (w:World):Bks w [] w:=⟨Below.refl _ _,by simp,by simp,by simp⟩
theorem Bks.step (h:Bks w L u) (hb:Below u.heap.size u v):Bks w L v :=
 ⟨h.bel.trans (hb.mono h.bel.size),h.low,fun x hx=>(hb.block _ (lt_of (h.blk x hx))).trans (h.blk x hx),h.apart⟩
theorem Bks.drew (h:Bks w L u):Bks w L u.drew:=⟨h.bel.drew,h.low,h.blk,h.apart⟩
theorem Bks.lt (h:Bks w L u) {x:Bl} (hx:x ∈ L):x.1 < u.heap.size:=lt_of (h.blk x hx)
theorem Bks.alloc (h:Bks w L u) (cs:Array Value) (t:TypeId):Bks w ((u.heap.size,cs,t) :: L) (u.alloc (.cells cs t)):=by
 refine ⟨h.bel.alloc h.bel.size _,?_,?_,?_⟩
 ·intro x hx
  rcases List.mem_cons.1 hx with rfl | hx
  ·exact h.bel.size
  ·exact h.low x hx
 ·intro x hx
  rcases List.mem_cons.1 hx with rfl | hx
  ·exact heap_alloc_new u _
  ·rw [Below.heap_alloc _ _ _ (h.lt hx)];exact h.blk x hx
 ·rw [List.map_cons,List.nodup_cons]
  refine ⟨fun hm=>?_,h.apart⟩
  obtain ⟨x,hx,e⟩:=List.mem_map.1 hm
  have:=h.lt hx
  simp only at e
  omega
theorem Bks.at (h:Bks w L u) (i:Nat) {g:Nat} {cs:Array Value} {t:TypeId} (hi:L[i]?=some (g,cs,t)):u.heap[g]?=some (.cells cs t (0,0)):=h.blk (g,cs,t) (List.mem_of_getElem? hi)
theorem Bks.cell (h:Bks w L u) (i j:Nat) {g:Nat} {cs:Array Value} {t:TypeId} {v:Value} (hi:L[i]?=some (g,cs,t)) (hv:cs[j]?=some v):u.cell? ⟨g,j,none⟩=some v:=by rw [cell_of_row _ _ _ _ _ _ (h.at i hi),hv]
theorem Bks.frozen (h:Bks w L u) (i j:Nat) {g:Nat} {cs:Array Value} {t:TypeId} (hi:L[i]?=some (g,cs,t)):u.frozen? ⟨g,j,none⟩=false:=frozen_of_row _ _ _ _ _ (h.at i hi)
theorem Bks.ge (h:Bks w L u) (i:Nat) {g:Nat} {cs:Array Value} {t:TypeId} (hi:L[i]?=some (g,cs,t)):w.heap.size≤g:=h.low (g,cs,t) (List.mem_of_getElem? hi)
theorem nd_ne:∀ {L:List Nat} {i j:Nat} {a b:Nat},L.Nodup→L[i]?=some a→L[j]?=some b→i ≠ j→a ≠ b
 | [],_,_,_,_,_,h,_,_=>by simp at h
 | c :: L,0,0,_,_,_,_,_,h=>absurd rfl h
 | c :: L,0,j+1,a,b,hn,hi,hj,_=>by
  simp at hi hj
  subst hi
  intro e
  subst e
  exact (List.nodup_cons.1 hn).1 (List.mem_of_getElem? hj)
 | c :: L,i+1,0,a,b,hn,hi,hj,_=>by
  simp at hi hj
  subst hj
  intro e
  subst e
  exact (List.nodup_cons.1 hn).1 (List.mem_of_getElem? hi)
 | c :: L,i+1,j+1,a,b,hn,hi,hj,h=>nd_ne (List.nodup_cons.1 hn).2 (by simpa using hi) (by simpa using hj) (fun e=>h (by rw [e]))
theorem Bks.put (h:Bks w L u) (i:Nat) {g:Nat} {cs:Array Value} {t:TypeId} (hi:L[i]?=some (g,cs,t)) (cs':Array Value):Bks w (L.set i (g,cs',t)) (u.setRow g cs'):=by
 have hlt:i < L.length:=(List.getElem?_eq_some_iff.1 hi).1
 have hmap:(L.set i (g,cs',t)).map (·.1)=L.map (·.1):=by
  rw [List.map_set]
  apply List.ext_getElem?
  intro k
  rw [List.getElem?_set]
  split
  ·rename_i e;subst e;rw [List.length_map,if_pos hlt,List.getElem?_map,hi];rfl
  ·rfl
 refine ⟨below_setRow h.bel (h.ge i hi) cs',?_,?_,by rw [hmap];exact h.apart⟩
 ·intro x hx
  rcases List.mem_or_eq_of_mem_set hx with hx | rfl
  ·exact h.low x hx
  ·exact h.ge i hi
 ·intro x hx
  obtain ⟨k,hk⟩:=List.mem_iff_getElem?.1 hx
  rw [List.getElem?_set] at hk
  split at hk
  ·rename_i e;subst e
   (try rw [if_pos hlt] at hk)
   obtain rfl:=Option.some.inj hk
   exact setRow_heap _ _ _ _ _ _ (h.at i hi)
  ·rename_i e
   have hne:x.1 ≠ g:=nd_ne h.apart (i:=k) (j:=i) (by rw [List.getElem?_map,hk];rfl) (by rw [List.getElem?_map,hi];rfl) (fun e'=>e e'.symm)
   rw [setRow_other _ _ _ _ hne]
   exact h.blk x (List.mem_of_getElem? hk)
theorem Bks.set (h:Bks w L u) (i j:Nat) {g:Nat} {cs:Array Value} {t:TypeId} (hi:L[i]?=some (g,cs,t)) (v:Value):Bks w (L.set i (g,cs.setIfInBounds j v,t)) (u.setCell ⟨g,j,none⟩ v):=by
 rw [setCell_eq_setRow u g j cs t (0,0) v (h.at i hi)]
 exact h.put i hi _
theorem Bks.drop {a:Bl} (h:Bks w (a :: L) u):Bks w L u:=⟨h.bel,fun x hx=>h.low x (List.mem_cons_of_mem _ hx),fun x hx=>h.blk x (List.mem_cons_of_mem _ hx),(List.nodup_cons.1 h.apart).2⟩
end
end Blk
namespace Dp
open Go Go.RowKit Go.ChangeShapes
open Tab Po
open Rd (Rd But)
open Nm (St)
open Put (lim)
open Rr (may)
def some_ (bs:List Nat) (s:St) (lv:Bool):Nat × St :=
 if (Nm.flt bs s).2.code=0 then (if may lv (Nm.flt bs s).1=true then Nm.flt bs s else (0,⟨s.k,4,s.k⟩)) else (0,(Nm.flt bs s).2)
def DP (bs:List Nat):PP where
 σ:=St
 num s size most _:=.ok (Nm.num bs s (lim size 7) 0 most)
 flt s lv _:=.ok (some_ bs s lv)
 flg s _:=.ok (decide ((Nm.num bs s 1 0 1).1=1),(Nm.num bs s 1 0 1).2)
structure Ds (B g:Nat) (ad:Option Addr) (cap:Nat) (bs:List Nat) (s:St) (W:World):Prop where
 rd:Rd W g ad cap bs s.k s.code s.fat
 good:Nm.Good bs s
 len:bs.length≤10000
 lo:bs ≠ []→∀ x,ad=some x→x.block < B
 gl:g < B
 bl:B≤W.heap.size
section
variable {B g:Nat} {ad:Option Addr} {cap:Nat} {bs:List Nat} {s s':St} {W V:World}
theorem Ds.mem (h:Ds B g ad cap bs s W) (hb:Below W.heap.size W V):Ds B g ad cap bs s V:=⟨h.rd.below hb,h.good,h.len,h.lo,h.gl,Nat.le_trans h.bl hb.size⟩
theorem Ds.but (h:Ds B g ad cap bs s W) {b:Nat} (hb:But b W V) (hB:B≤b):Ds B g ad cap bs s V :=
 ⟨h.rd.but hb (by have:=h.gl;omega) (fun hn x hx e=>by have:=h.lo hn x hx;omega),h.good,h.len,h.lo,h.gl,Nat.le_trans h.bl hb.size⟩
theorem But.row {b:Nat} {W:World} (cs:Array Value) {old:Array Value} {t:TypeId} (h:W.heap[b]?=some (.cells old t (0,0))) (hs:old.size=cs.size):But b W (W.setRow b cs):=by
 refine ⟨rfl,rfl,rfl,by simp [World.setRow],fun k _ hk=>setRow_other _ _ _ _ hk,fun k hk=>?_⟩
 by_cases e:k=b
 ·subst e
  unfold World.shape?
  rw [setRow_heap _ _ _ cs _ _ h,h]
  simp [hs]
 ·unfold World.shape?
  rw [setRow_other _ _ _ _ e]
structure Bkg (g:Nat) (w:World) (L:List Blk.Bl) (u:World):Prop where
 bel:But g w u
 gl:g < w.heap.size
 low:∀ x ∈ L,w.heap.size≤x.1
 blk:∀ x ∈ L,u.heap[x.1]?=some (.cells x.2.1 x.2.2 (0,0))
 apart:(L.map (·.1)).Nodup
end
section
variable {g:Nat} {w u v:World} {L:List Blk.Bl}
theorem Bkg.nil (hg:g < w.heap.size):Bkg g w [] w:=⟨But.refl _ _,hg,by simp,by simp,by simp⟩
theorem Bkg.step (h:Bkg g w L u) (hb:But g u v):Bkg g w L v :=
 ⟨h.bel.trans hb,h.gl,h.low,fun x hx=>(hb.block _ (Blk.lt_of (h.blk x hx)) (by have:=h.low x hx;have:=h.gl;omega)).trans (h.blk x hx),h.apart⟩
theorem Bkg.mem (h:Bkg g w L u) (hb:Below u.heap.size u v):Bkg g w L v:=h.step (But.of hb)
theorem Bkg.lt (h:Bkg g w L u) {x:Blk.Bl} (hx:x ∈ L):x.1 < u.heap.size:=Blk.lt_of (h.blk x hx)
theorem Bkg.alloc (h:Bkg g w L u) (cs:Array Value) (t:TypeId):Bkg g w ((u.heap.size,cs,t) :: L) (u.alloc (.cells cs t)):=by
 refine ⟨h.bel.trans (But.of ((Below.refl _ _).alloc (Nat.le_refl _) _)),h.gl,?_,?_,?_⟩
 ·intro x hx
  rcases List.mem_cons.1 hx with rfl | hx
  ·exact h.bel.size
  ·exact h.low x hx
 ·intro x hx
  rcases List.mem_cons.1 hx with rfl | hx
  ·exact heap_alloc_new u _
  ·rw [Below.heap_alloc _ _ _ (h.lt hx)];exact h.blk x hx
 ·rw [List.map_cons,List.nodup_cons]
  refine ⟨fun hm=>?_,h.apart⟩
  obtain ⟨x,hx,e⟩:=List.mem_map.1 hm
  have:=h.lt hx
  simp only at e
  omega
theorem Bkg.at (h:Bkg g w L u) (i:Nat) {b:Nat} {cs:Array Value} {t:TypeId} (hi:L[i]?=some (b,cs,t)):u.heap[b]?=some (.cells cs t (0,0)):=h.blk (b,cs,t) (List.mem_of_getElem? hi)
theorem Bkg.cell (h:Bkg g w L u) (i j:Nat) {b:Nat} {cs:Array Value} {t:TypeId} {v:Value} (hi:L[i]?=some (b,cs,t)) (hv:cs[j]?=some v):u.cell? ⟨b,j,none⟩=some v:=by rw [cell_of_row _ _ _ _ _ _ (h.at i hi),hv]
theorem Bkg.frozen (h:Bkg g w L u) (i j:Nat) {b:Nat} {cs:Array Value} {t:TypeId} (hi:L[i]?=some (b,cs,t)):u.frozen? ⟨b,j,none⟩=false:=frozen_of_row _ _ _ _ _ (h.at i hi)
theorem Bkg.ge (h:Bkg g w L u) (i:Nat) {b:Nat} {cs:Array Value} {t:TypeId} (hi:L[i]?=some (b,cs,t)):w.heap.size≤b:=h.low (b,cs,t) (List.mem_of_getElem? hi)
theorem Bkg.put (h:Bkg g w L u) (i:Nat) {b:Nat} {cs:Array Value} {t:TypeId} (hi:L[i]?=some (b,cs,t)) (cs':Array Value):Bkg g w (L.set i (b,cs',t)) (u.setRow b cs'):=by
 have hlt:i < L.length:=(List.getElem?_eq_some_iff.1 hi).1
 have hge:=h.ge i hi
 have hmap:(L.set i (b,cs',t)).map (·.1)=L.map (·.1):=by
  rw [List.map_set]
  apply List.ext_getElem?
  intro k
  rw [List.getElem?_set]
  split
  ·rename_i e;subst e;rw [List.length_map,if_pos hlt,List.getElem?_map,hi];rfl
  ·rfl
 refine ⟨⟨h.bel.os,h.bel.tape,h.bel.output,by simp [World.setRow];exact h.bel.size,fun k hk hne=>?_,fun k hk=>?_⟩,h.gl,?_,?_,by rw [hmap];exact h.apart⟩
 ·rw [setRow_other _ _ _ _ (by omega)];exact h.bel.block k hk hne
 ·have h1:=h.bel.shape k hk
  unfold World.shape? at h1 ⊢
  rw [setRow_other _ _ _ _ (by omega)];exact h1
 ·intro x hx
  rcases List.mem_or_eq_of_mem_set hx with hx | rfl
  ·exact h.low x hx
  ·exact hge
 ·intro x hx
  obtain ⟨k,hk⟩:=List.mem_iff_getElem?.1 hx
  rw [List.getElem?_set] at hk
  split at hk
  ·rename_i e;subst e
   (try rw [if_pos hlt] at hk)
   obtain rfl:=Option.some.inj hk
   exact setRow_heap _ _ _ _ _ _ (h.at i hi)
  ·rename_i e
   have hne:x.1 ≠ b:=Blk.nd_ne h.apart (i:=k) (j:=i) (by rw [List.getElem?_map,hk];rfl) (by rw [List.getElem?_map,hi];rfl) (fun e'=>e e'.symm)
   rw [setRow_other _ _ _ _ hne]
   exact h.blk x (List.mem_of_getElem? hk)
theorem Bkg.set (h:Bkg g w L u) (i j:Nat) {b:Nat} {cs:Array Value} {t:TypeId} (hi:L[i]?=some (b,cs,t)) (v:Value):Bkg g w (L.set i (b,cs.setIfInBounds j v,t)) (u.setCell ⟨b,j,none⟩ v):=by
 rw [setCell_eq_setRow u b j cs t (0,0) v (h.at i hi)]
 exact h.put i hi _
end
section
variable {B g:Nat} {ad:Option Addr} {cap:Nat} {bs:List Nat}
abbrev ptr (g:Nat):Value:=.pointer (some ⟨g,0,none⟩)
theorem num_d (s:St) (size most:Int) (W:World) (h:Ds B g ad cap bs s W):Calls Tryz.prog 24 #[ptr g,.int .i64 size,.int .i64 0,.int .i64 most] W fun e W'=>e=.returned (I (Nm.num bs s (lim size 7) 0 most).1)∧Ds B g ad cap bs (Nm.num bs s (lim size 7) 0 most).2 W'∧But g W W' :=
 (Rf.num_any g ad cap bs s size 0 most W h.rd h.len h.good).mono fun e W' ⟨h1,h2,h3⟩=>⟨h1,⟨h2,Nm.num_good bs s _ 0 most h.good,h.len,h.lo,h.gl,Nat.le_trans h.bl h3.size⟩,h3⟩
theorem bool_d (s:St) (W:World) (h:Ds B g ad cap bs s W):Calls Tryz.prog 97 #[ptr g] W fun e W'=>e=.returned (.bool (decide ((Nm.num bs s 1 0 1).1=1)))∧Ds B g ad cap bs (Nm.num bs s 1 0 1).2 W'∧But g W W' :=
 (Rf.bool_any g ad cap bs s W h.rd h.len h.good).mono fun e W' ⟨h1,h2,h3⟩=>⟨h1,⟨h2,Nm.num_good bs s _ 0 1 h.good,h.len,h.lo,h.gl,Nat.le_trans h.bl h3.size⟩,h3⟩
theorem time_d (s:St) (W:World) (h:Ds B g ad cap bs s W):Calls Tryz.prog 65 #[ptr g] W fun e W'=>e=.returned (I (Nm.num bs s (lim 2 7) 0 9999).1)∧Ds B g ad cap bs (Nm.num bs s (lim 2 7) 0 9999).2 W'∧But g W W':=by
 have h1:=Lib.hid (num_d s 2 9999 W h)
 generalize Nm.num bs s (lim 2 7) 0 9999=r at h1
 clear h
 go_enter Tryz.func65,Tryz.ntmps65
 go_wp2_with fail
 refine h1.out.mono ?_
 rintro e w' ⟨rfl,hr,hb⟩
 have HR:=Lib.hid hr
 have HB:=Lib.hid hb
 clear hr h1 hb
 go_wp2
 go_ret
 exact ⟨rfl,HR.out,HB.out⟩
theorem some_d (s:St) (lv:Bool) (W:World) (h:Ds B g ad cap bs s W):Calls Tryz.prog 98 #[ptr g,.bool lv] W fun e W'=>e=.returned (.float .f64 (some_ bs s lv).1)∧Ds B g ad cap bs (some_ bs s lv).2 W'∧But g W W':=by
 have hfl:=Rf.float_any g ad cap bs s W h.rd h.len h.good
 have hgd:=Nm.flt_good bs s h.good
 have hlen:=h.len
 have hlo:=h.lo
 have hgl:=h.gl
 have hbl:=h.bl
 have hle:=h.good.1
 have hsk:(Nm.flt bs s).2.code=0→s.code=0:=fun hc=>by
  unfold Nm.flt at hc
  by_cases h0:s.code ≠ 0
  ·rw [if_pos h0] at hc;exact absurd hc h0
  ·omega
 unfold some_
 have k1:W.cell? ⟨g,1,none⟩=some (I s.k):=h.rd.c1
 generalize hr:Nm.flt bs s=r at hfl hgd hsk ⊢
 obtain ⟨v,k',code,fat⟩:=r
 simp only at hfl hgd hsk ⊢
 have HFL:=Lib.hid hfl
 have HGD:=Lib.hid hgd
 clear hfl hgd hr h
 obtain ⟨k,c0,f0⟩:=s
 simp only at k1 hle hsk ⊢
 by_cases hc:code=0
 ·subst hc
  obtain rfl:fat=0:=HGD.out.2 rfl
  cases hm:may lv v
  ·have HE:Hid ((if (0:Int)=0 then (if false=true then (v,(⟨k',0,0⟩:St)) else (0,⟨k,4,k⟩)) else (0,⟨k',0,0⟩))=(0,⟨k,4,k⟩)):=Lib.hid (by simp)
   rw [HE.out]
   simp only
   have HL:=Lib.hid hm
   go_enter Tryz.func98,Tryz.ntmps98
   go_wp2_with fail
   refine HFL.out.mono ?_
   rintro e W1 ⟨rfl,hrd,hb⟩
   have HR:=Lib.hid hrd
   have HB:=Lib.hid hb
   clear hrd hb k1
   have hrr:Rd W1 g ad cap bs k' 0 0:=HR.out
   have HR1:=Lib.hid hrr
   clear hrr
   go_wp2_with fail
   refine (Rf.ok_any g ad cap bs k' 0 0 _ HR1.out).mono ?_
   rintro e w' ⟨rfl,rfl⟩
   rw [show decide ((0:Int)=0)=true from rfl]
   have h1:=HR1.out.c1
   have h2:=HR1.out.c2
   have h3:=HR1.out.c3
   have h4:=HR1.out.fz 2
   have h5:=HR1.out.fz 3
   have h6:=HR1.out.fz 1
   have hset:But g W1 (((W1.setCell ⟨g,2,none⟩ (I 4)).setCell ⟨g,3,none⟩ (I k)).setCell ⟨g,1,none⟩ (I k)):=((But.set g 2 _ _).trans (But.set g 3 _ _)).trans (But.set g 1 _ _)
   have Hk:=Num.Rd.keeps HR1.out 4 k
   have Hk2:=Lib.hid (Num.Rd.moves Hk k)
   have Hgo:=Lib.hid (HB.out.trans hset)
   clear hset Hk
   cases lv
   ·go_wp2_with fail
    refine (MayF.rspan_any v _).mono ?_
    rintro e w' ⟨rfl,rfl⟩
    rw [show MayF.span v=false from HL.out]
    go_wp2_with fail
    refine (Rf.ok_any g ad cap bs k 4 k _ Hk2.out).mono ?_
    rintro e w' ⟨rfl,rfl⟩
    rw [show decide ((4:Int)=0)=false from decide_eq_false (by decide)]
    go_wp2
    go_ret
    exact ⟨rfl,⟨Hk2.out,⟨hle,fun h=>by cases h⟩,hlen,hlo,hgl,Nat.le_trans hbl Hgo.out.size⟩,Hgo.out⟩
   ·go_wp2_with fail
    refine (MayF.rlevel_any v _).mono ?_
    rintro e w' ⟨rfl,rfl⟩
    rw [show MayF.level v=false from HL.out]
    go_wp2_with fail
    refine (Rf.ok_any g ad cap bs k 4 k _ Hk2.out).mono ?_
    rintro e w' ⟨rfl,rfl⟩
    rw [show decide ((4:Int)=0)=false from decide_eq_false (by decide)]
    go_wp2
    go_ret
    exact ⟨rfl,⟨Hk2.out,⟨hle,fun h=>by cases h⟩,hlen,hlo,hgl,Nat.le_trans hbl Hgo.out.size⟩,Hgo.out⟩
  ·have HE:Hid ((if (0:Int)=0 then (if true=true then (v,(⟨k',0,0⟩:St)) else (0,⟨k,4,k⟩)) else (0,⟨k',0,0⟩))=(v,⟨k',0,0⟩)):=Lib.hid (by simp)
   rw [HE.out]
   simp only
   have HL:=Lib.hid hm
   go_enter Tryz.func98,Tryz.ntmps98
   go_wp2_with fail
   refine HFL.out.mono ?_
   rintro e W1 ⟨rfl,hrd,hb⟩
   have HR:=Lib.hid hrd
   have HB:=Lib.hid hb
   clear hrd hb k1
   have hrr:Rd W1 g ad cap bs k' 0 0:=HR.out
   have HR1:=Lib.hid hrr
   clear hrr
   go_wp2_with fail
   refine (Rf.ok_any g ad cap bs k' 0 0 _ HR1.out).mono ?_
   rintro e w' ⟨rfl,rfl⟩
   rw [show decide ((0:Int)=0)=true from rfl]
   cases lv
   ·go_wp2_with fail
    refine (MayF.rspan_any v _).mono ?_
    rintro e w' ⟨rfl,rfl⟩
    rw [show MayF.span v=true from HL.out]
    go_wp2_with fail
    refine (Rf.ok_any g ad cap bs k' 0 0 _ HR1.out).mono ?_
    rintro e w' ⟨rfl,rfl⟩
    rw [show decide ((0:Int)=0)=true from rfl]
    go_wp2
    go_ret
    exact ⟨rfl,⟨HR1.out,HGD.out,hlen,hlo,hgl,Nat.le_trans hbl HB.out.size⟩,HB.out⟩
   ·go_wp2_with fail
    refine (MayF.rlevel_any v _).mono ?_
    rintro e w' ⟨rfl,rfl⟩
    rw [show MayF.level v=true from HL.out]
    go_wp2_with fail
    refine (Rf.ok_any g ad cap bs k' 0 0 _ HR1.out).mono ?_
    rintro e w' ⟨rfl,rfl⟩
    rw [show decide ((0:Int)=0)=true from rfl]
    go_wp2
    go_ret
    exact ⟨rfl,⟨HR1.out,HGD.out,hlen,hlo,hgl,Nat.le_trans hbl HB.out.size⟩,HB.out⟩
 ·have HE:Hid ((if code=0 then (if may lv v=true then (v,(⟨k',code,fat⟩:St)) else (0,⟨k,4,k⟩)) else (0,⟨k',code,fat⟩))=(0,⟨k',code,fat⟩)):=Lib.hid (if_neg hc)
  rw [HE.out]
  simp only
  have hcd:decide (code=0)=false:=decide_eq_false hc
  go_enter Tryz.func98,Tryz.ntmps98
  go_wp2_with fail
  refine HFL.out.mono ?_
  rintro e W1 ⟨rfl,hrd,hb⟩
  have hrr:Rd W1 g ad cap bs k' code fat:=hrd
  have HR1:=Lib.hid hrr
  have HB:=Lib.hid hb
  clear hrr hrd hb k1
  go_wp2_with fail
  refine (Rf.ok_any g ad cap bs k' code fat _ HR1.out).mono ?_
  rintro e w' ⟨rfl,rfl⟩
  rw [hcd]
  go_wp2_with fail
  refine (Rf.ok_any g ad cap bs k' code fat _ HR1.out).mono ?_
  rintro e w' ⟨rfl,rfl⟩
  rw [hcd]
  go_wp2
  go_ret
  exact ⟨rfl,⟨HR1.out,HGD.out,hlen,hlo,hgl,Nat.le_trans hbl HB.out.size⟩,HB.out⟩
end
end Dp
end Go.Proofs.YtjdeemmaaiecnaaGreat
