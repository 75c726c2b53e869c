/- Bytes that are cut off: the reader reads what is whole, and ends where they end. No program in it (but the types of package code). -/
import Derived.Test.YtggjconbgpfomaaGreatRows
import Derived.Test.YtggjconbgpfomaaGreatPart07
set_option linter.unusedVariables false
set_option linter.unusedSimpArgs false
set_option linter.unusedSectionVars false
set_option maxHeartbeats 8000000
set_option maxRecDepth 100000
namespace Go.Proofs.YtggjconbgpfomaaGreat
namespace By
open Go Go.RowKit
open Tab Po
open Rr (RP may decR headR sumR endR)
open Put (low low_len low_lt low_mod lim)
open Nx (val be be_cons)
open Cd (bodyB sealB)
open CrcM (crc)
section
variable {P:PP}
theorem run_num_eq {l:List Value} {s:P.σ} {j:Nat} {size most x:Int} (h:l[j]?=some (I x)):Sp.run P l s (.num size most j)=andThen (P.num s size most x) fun q=>.ok (l.set j (I q.1),q.2):=by
 simp only [Sp.run,h]
 cases P.num s size most x <;> rfl
theorem run_num_ne {l:List Value} {s:P.σ} {j:Nat} {size most:Int} (h:∀ x,l[j]? ≠ some (I x)):Sp.run P l s (.num size most j)=.ok (l,s):=by
 simp only [Sp.run]
 first
 | done
 | (split
    ·rename_i x hx;exact absurd hx (h x)
    ·rfl)
theorem run_flt_eq {l:List Value} {s:P.σ} {j:Nat} {lv:Bool} {x:Nat} (h:l[j]?=some (.float .f64 x)):Sp.run P l s (.flt lv j)=andThen (P.flt s lv x) fun q=>.ok (l.set j (.float .f64 q.1),q.2):=by
 simp only [Sp.run,h]
 cases P.flt s lv x <;> rfl
theorem run_flt_ne {l:List Value} {s:P.σ} {j:Nat} {lv:Bool} (h:∀ x,l[j]? ≠ some (.float .f64 x)):Sp.run P l s (.flt lv j)=.ok (l,s):=by
 simp only [Sp.run]
 first
 | done
 | (split
    ·rename_i x hx;exact absurd hx (h x)
    ·rfl)
theorem run_flg_eq {l:List Value} {s:P.σ} {j:Nat} {x:Bool} (h:l[j]?=some (.bool x)):Sp.run P l s (.flg j)=andThen (P.flg s x) fun q=>.ok (l.set j (.bool q.1),q.2):=by
 simp only [Sp.run,h]
 cases P.flg s x <;> rfl
theorem run_flg_ne {l:List Value} {s:P.σ} {j:Nat}  (h:∀ x,l[j]? ≠ some (.bool x)):Sp.run P l s (.flg j)=.ok (l,s):=by
 simp only [Sp.run]
 first
 | done
 | (split
    ·rename_i x hx;exact absurd hx (h x)
    ·rfl)
theorem runs_eq (c:Sp) (st:List Sp) (l:List Value) (s:P.σ):runs P (c :: st) l s=andThen (Sp.run P l s c) fun q=>runs P st q.1 q.2:=by
 rw [runs]
 cases Sp.run P l s c <;> rfl
theorem eachs_eq (st:List Sp) (x:List Value) (xs:List (List Value)) (s:P.σ):eachs P st (x :: xs) s=andThen (runs P st x s) fun q=>andThen (eachs P st xs q.2) fun r=>.ok (q.1 :: r.1,r.2):=by
 rw [eachs]
 cases runs P st x s with
 | error f=>rfl
 | ok q =>
  rw [andThen_ok]
  simp only
  cases eachs P st xs q.2 <;> rfl
theorem listN_eq (most:Int) (st:List Sp) (z:List Value) (s:P.σ):listN P most st z s=andThen (P.num s 1 most 0) fun q=>eachs P st (List.replicate q.1.toNat z) q.2:=by
 unfold listN
 cases P.num s 1 most 0 <;> rfl
theorem grpN_eq (s:P.σ):grpN P s=andThen (rowN P s) fun q=>andThen (rowN P q.2) fun r=>.ok ((q.1,r.1),r.2):=by
 unfold grpN
 cases rowN P s with
 | error f=>rfl
 | ok q =>
  rw [andThen_ok]
  simp only
  cases rowN P q.2 <;> rfl
theorem grpsN_eq (n:Nat) (s:P.σ):grpsN P (n+1) s=andThen (grpsN P n s) fun q=>andThen (grpN P q.2) fun r=>.ok (q.1++[r.1],r.2):=by
 rw [grpsN]
 cases grpsN P n s with
 | error f=>rfl
 | ok q =>
  rw [andThen_ok]
  simp only
  cases grpN P q.2 <;> rfl
theorem listG_eq (most:Int) (s:P.σ):listG P most s=andThen (P.num s 1 most 0) fun q=>grpsN P q.1.toNat q.2:=by
 unfold listG
 cases P.num s 1 most 0 <;> rfl
end
section
variable {P Q:PP} {J:P.σ→Q.σ→Prop} {Bd:P.σ→Prop} {f:Flt}
def Sim (J:P.σ→Q.σ→Prop) (Bd:P.σ→Prop) (f:Flt) {α:Type} (s:P.σ) (t:Q.σ) (r:Except Flt (α × P.σ)) (r':Except Flt (α × Q.σ)):Prop :=
 (J s t→∀ y s',r=.ok (y,s')→(∃ t',r'=.ok (y,t')∧J s' t')∨(r'=.error f∧Bd s'))∧(Bd s→∀ y s',r=.ok (y,s')→Bd s')
theorem Sim.pure {α:Type} (s:P.σ) (t:Q.σ) (y:α):Sim J Bd f s t (.ok (y,s)) (.ok (y,t)) :=
 ⟨fun hj z s' h=>by cases h;exact .inl ⟨t,rfl,hj⟩,fun hb z s' h=>by cases h;exact hb⟩
theorem Sim.bind {α β:Type} {s:P.σ} {t:Q.σ} {r:Except Flt (α × P.σ)} {r':Except Flt (α × Q.σ)} {K:α × P.σ→Except Flt (β × P.σ)} {K':α × Q.σ→Except Flt (β × Q.σ)} (h:Sim J Bd f s t r r') (hK:∀ y s1 t1,Sim J Bd f s1 t1 (K (y,s1)) (K' (y,t1))):Sim J Bd f s t (andThen r K) (andThen r' K'):=by
 refine ⟨fun hj z s' e=>?_,fun hb z s' e=>?_⟩
 ·obtain ⟨⟨y,s1⟩,e1,e2⟩:=Po.then_ok e
  rcases h.1 hj y s1 e1 with ⟨t1,h1,h2⟩ | ⟨h1,h2⟩
  ·rw [h1,andThen_ok]
   exact (hK y s1 t1).1 h2 z s' e2
  ·rw [h1,andThen_error]
   exact .inr ⟨rfl,(hK y s1 t).2 h2 z s' e2⟩
 ·obtain ⟨⟨y,s1⟩,e1,e2⟩:=Po.then_ok e
  exact (hK y s1 t).2 (h.2 hb y s1 e1) z s' e2
def pos:Sp→Bool
 | .num _ most _=>decide (0≤most)
 | _=>true
structure Base (P Q:PP) (J:P.σ→Q.σ→Prop) (Bd:P.σ→Prop) (f:Flt):Prop where
 num:∀ s t size most x,0≤most→Sim J Bd f s t (P.num s size most x) (Q.num t size most x)
 flt:∀ s t lv x,Sim J Bd f s t (P.flt s lv x) (Q.flt t lv x)
 flg:∀ s t x,Sim J Bd f s t (P.flg s x) (Q.flg t x)
theorem sim_run (H:Base P Q J Bd f) (l:List Value) (s:P.σ) (t:Q.σ) (c:Sp) (hp:pos c=true):Sim J Bd f s t (Sp.run P l s c) (Sp.run Q l t c):=by
 cases c with
 | num size most j =>
  have hm:0≤most:=by simpa [pos] using hp
  by_cases hx:∃ x,l[j]?=some (I x)
  ·obtain ⟨x,hx⟩:=hx
   rw [run_num_eq hx,run_num_eq hx]
   exact Sim.bind (H.num s t size most x hm) (fun y s1 t1=>Sim.pure s1 t1 _)
  ·rw [run_num_ne (fun x h=>hx ⟨x,h⟩),run_num_ne (fun x h=>hx ⟨x,h⟩)]
   exact Sim.pure s t l
 | flt lv j =>
  by_cases hx:∃ x,l[j]?=some (.float .f64 x)
  ·obtain ⟨x,hx⟩:=hx
   rw [run_flt_eq hx,run_flt_eq hx]
   exact Sim.bind (H.flt s t lv x) (fun y s1 t1=>Sim.pure s1 t1 _)
  ·rw [run_flt_ne (fun x h=>hx ⟨x,h⟩),run_flt_ne (fun x h=>hx ⟨x,h⟩)]
   exact Sim.pure s t l
 | flg j =>
  by_cases hx:∃ x,l[j]?=some (.bool x)
  ·obtain ⟨x,hx⟩:=hx
   rw [run_flg_eq hx,run_flg_eq hx]
   exact Sim.bind (H.flg s t x) (fun y s1 t1=>Sim.pure s1 t1 _)
  ·rw [run_flg_ne (fun x h=>hx ⟨x,h⟩),run_flg_ne (fun x h=>hx ⟨x,h⟩)]
   exact Sim.pure s t l
theorem sim_runs (H:Base P Q J Bd f):∀ (st:List Sp) (l:List Value) (s:P.σ) (t:Q.σ),st.all pos=true→Sim J Bd f s t (runs P st l s) (runs Q st l t)
 | [],l,s,t,_=>Sim.pure s t l
 | c :: st,l,s,t,hp=>by
  rw [List.all_cons,Bool.and_eq_true] at hp
  rw [runs_eq,runs_eq]
  exact Sim.bind (K:=fun q=>runs P st q.1 q.2) (K':=fun q=>runs Q st q.1 q.2) (sim_run H l s t c hp.1) (fun y s1 t1=>sim_runs H st y s1 t1 hp.2)
theorem sim_eachs (H:Base P Q J Bd f) (st:List Sp) (hp:st.all pos=true):∀ (xs:List (List Value)) (s:P.σ) (t:Q.σ),Sim J Bd f s t (eachs P st xs s) (eachs Q st xs t)
 | [],s,t=>Sim.pure s t []
 | x :: xs,s,t=>by
  rw [eachs_eq,eachs_eq]
  exact Sim.bind (K:=fun q=>andThen (eachs P st xs q.2) fun r=>.ok (q.1 :: r.1,r.2)) (K':=fun q=>andThen (eachs Q st xs q.2) fun r=>.ok (q.1 :: r.1,r.2)) (sim_runs H st x s t hp) (fun y s1 t1=>Sim.bind (K:=fun r=>.ok (y :: r.1,r.2)) (K':=fun r=>.ok (y :: r.1,r.2)) (sim_eachs H st hp xs s1 t1) (fun y2 s2 t2=>Sim.pure s2 t2 (y :: y2)))
theorem sim_list (H:Base P Q J Bd f) (most:Int) (hm:0≤most) (st:List Sp) (hp:st.all pos=true) (z:List Value) (s:P.σ) (t:Q.σ):Sim J Bd f s t (listN P most st z s) (listN Q most st z t):=by
 rw [listN_eq,listN_eq]
 exact Sim.bind (K:=fun q=>eachs P st (List.replicate q.1.toNat z) q.2) (K':=fun q=>eachs Q st (List.replicate q.1.toNat z) q.2) (H.num s t 1 most 0 hm) (fun y s1 t1=>sim_eachs H st hp _ s1 t1)
theorem sim_grp (H:Base P Q J Bd f) (s:P.σ) (t:Q.σ):Sim J Bd f s t (grpN P s) (grpN Q t):=by
 have hr:∀ s t,Sim J Bd f s t (rowN P s) (rowN Q t):=fun s t=>sim_list H 8 (by decide) _ (by decide) _ s t
 rw [grpN_eq,grpN_eq]
 exact Sim.bind (K:=fun q=>andThen (rowN P q.2) fun r=>.ok ((q.1,r.1),r.2)) (K':=fun q=>andThen (rowN Q q.2) fun r=>.ok ((q.1,r.1),r.2)) (hr s t) (fun y s1 t1=>Sim.bind (K:=fun r=>.ok ((y,r.1),r.2)) (K':=fun r=>.ok ((y,r.1),r.2)) (hr s1 t1) (fun y2 s2 t2=>Sim.pure s2 t2 (y,y2)))
theorem sim_grps (H:Base P Q J Bd f):∀ (n:Nat) (s:P.σ) (t:Q.σ),Sim J Bd f s t (grpsN P n s) (grpsN Q n t)
 | 0,s,t=>Sim.pure s t []
 | n+1,s,t=>by
  rw [grpsN_eq,grpsN_eq]
  exact Sim.bind (K:=fun q=>andThen (grpN P q.2) fun r=>.ok (q.1++[r.1],r.2)) (K':=fun q=>andThen (grpN Q q.2) fun r=>.ok (q.1++[r.1],r.2)) (sim_grps H n s t) (fun y s1 t1=>Sim.bind (K:=fun r=>.ok (y++[r.1],r.2)) (K':=fun r=>.ok (y++[r.1],r.2)) (sim_grp H s1 t1) (fun y2 s2 t2=>Sim.pure s2 t2 (y++[y2])))
theorem sim_listG (H:Base P Q J Bd f) (s:P.σ) (t:Q.σ):Sim J Bd f s t (listG P 4 s) (listG Q 4 t):=by
 rw [listG_eq,listG_eq]
 exact Sim.bind (K:=fun q=>grpsN P q.1.toNat q.2) (K':=fun q=>grpsN Q q.1.toNat q.2) (H.num s t 1 4 0 (by decide)) (fun y s1 t1=>sim_grps H _ s1 t1)
theorem sim_parts (H:Base P Q J Bd f) (s:P.σ) (t:Q.σ):Sim J Bd f s t (parts P s) (parts Q t) :=
 Sim.bind (sim_eachs H stPh (by decide) _ s t) fun x1 s1 t1=>Sim.bind (sim_listG H s1 t1) fun x2 s2 t2=>Sim.bind (sim_runs H (st8 255 8) _ s2 t2 (by decide)) fun x3 s3 t3=>Sim.bind (sim_list H 16 (by decide) stD (by decide) _ s3 t3) fun x4 s4 t4 =>
 Sim.bind (sim_list H 4 (by decide) stR (by decide) _ s4 t4) fun x5 s5 t5=>Sim.bind (sim_list H 4 (by decide) stB (by decide) _ s5 t5) fun x6 s6 t6=>Sim.bind (sim_runs H stT _ s6 t6 (by decide)) fun x7 s7 t7=>Sim.bind (sim_runs H (st8 2 8) _ s7 t7 (by decide)) fun x8 s8 t8 =>
 Sim.bind (sim_runs H stK _ s8 t8 (by decide)) fun x9 s9 t9=>Sim.pure s9 t9 _
end
def Ct (k:Nat) {α:Type} (s:Nat) (r r':Except Flt (α × Nat)):Prop:=∀ y s',r=.ok (y,s')→s≤s'∧(s≤k→r'=if s'≤k then .ok (y,s') else .error (2,(k:Int)))
section
variable {bs:List Nat} {k:Nat}
theorem val_take {s n:Nat} (h:s+n≤k):val (bs.take k) s n=val bs s n:=by
 unfold val
 rw [List.drop_take,List.take_take,Nat.min_eq_left (by omega)]
theorem ct_num (hk:k≤bs.length) (s:Nat) (size most x:Int) (hm:0≤most):Ct k s ((RP bs).num s size most x) ((RP (bs.take k)).num s size most x):=fun y s' e=>by
 have hl:(bs.take k).length=k:=by rw [List.length_take];omega
 rw [rp_num s size most x hm] at e
 rw [rp_num (bs:=bs.take k) s size most x hm,hl]
 by_cases h1:bs.length < s+lim size 7
 ·rw [if_pos h1] at e;cases e
 ·rw [if_neg h1] at e
  by_cases h2:most < (val bs s (lim size 7):Int)
  ·rw [if_pos h2] at e;cases e
  ·rw [if_neg h2] at e
   have e1:(val bs s (lim size 7):Int)=y:=congrArg Prod.fst (Except.ok.inj e)
   have e2:s+lim size 7=s':=congrArg Prod.snd (Except.ok.inj e)
   subst e1 e2
   refine ⟨by omega,fun hs=>?_⟩
   by_cases h3:s+lim size 7≤k
   ·rw [if_pos h3,if_neg (by omega),val_take (by omega),if_neg h2] <;> rfl
   ·rw [if_neg h3,if_pos (by omega)] <;> rfl
theorem ct_flt (hk:k≤bs.length) (s:Nat) (lv:Bool) (x:Nat):Ct k s ((RP bs).flt s lv x) ((RP (bs.take k)).flt s lv x):=fun y s' e=>by
 have hl:(bs.take k).length=k:=by rw [List.length_take];omega
 rw [rp_flt s lv x] at e
 rw [rp_flt (bs:=bs.take k) s lv x,hl]
 by_cases h1:bs.length < s+8
 ·rw [if_pos h1] at e;cases e
 ·rw [if_neg h1] at e
  by_cases h2:may lv (val bs s 8)=true
  ·rw [if_pos h2] at e
   have e1:val bs s 8=y:=congrArg Prod.fst (Except.ok.inj e)
   have e2:s+8=s':=congrArg Prod.snd (Except.ok.inj e)
   subst e1 e2
   refine ⟨by omega,fun hs=>?_⟩
   by_cases h3:s+8≤k
   ·rw [if_pos h3,if_neg (by omega),val_take (by omega),if_pos h2] <;> rfl
   ·rw [if_neg h3,if_pos (by omega)] <;> rfl
  ·rw [if_neg h2] at e;cases e
theorem ct_flg (hk:k≤bs.length) (s:Nat) (x:Bool):Ct k s ((RP bs).flg s x) ((RP (bs.take k)).flg s x):=fun y s' e=>by
 have hl:(bs.take k).length=k:=by rw [List.length_take];omega
 rw [rp_flg s x] at e
 rw [rp_flg (bs:=bs.take k) s x,hl]
 by_cases h1:bs.length < s+1
 ·rw [if_pos h1] at e;cases e
 ·rw [if_neg h1] at e
  by_cases h2:1 < val bs s 1
  ·rw [if_pos h2] at e;cases e
  ·rw [if_neg h2] at e
   have e1:decide (val bs s 1=1)=y:=congrArg Prod.fst (Except.ok.inj e)
   have e2:s+1=s':=congrArg Prod.snd (Except.ok.inj e)
   subst e1 e2
   refine ⟨by omega,fun hs=>?_⟩
   by_cases h3:s+1≤k
   ·rw [if_pos h3,if_neg (by omega),val_take (by omega),if_neg h2] <;> rfl
   ·rw [if_neg h3,if_pos (by omega)] <;> rfl
def ctJ (k:Nat) (s t:Nat):Prop:=s=t∧s≤k
def ctB (k:Nat) (s:Nat):Prop:=k < s
theorem ct_sim {α:Type} {r r':Nat→Except Flt (α × Nat)} (h:∀ s,Ct k s (r s) (r' s)) (s t:Nat):Sim (P:=RP bs) (Q:=RP (bs.take k)) (ctJ k) (ctB k) (2,(k:Int)) s t (r s) (r' t):=by
 refine ⟨fun hj y s' e=>?_,fun hb y s' e=>?_⟩
 ·obtain ⟨e1,e2⟩:s=t∧s≤k:=hj
  subst e1
  obtain ⟨a,b⟩:=h s y s' e
  have b2:=b e2
  have hd:@LE.le Nat _ s' k∨¬ @LE.le Nat _ s' k:=Classical.em _
  rcases hd with hk | hk
  ·rw [if_pos hk] at b2
   exact .inl ⟨s',b2,rfl,hk⟩
  ·rw [if_neg hk] at b2
   exact .inr ⟨b2,Nat.lt_of_not_le hk⟩
 ·have hb2:k < s:=hb
  obtain ⟨a,_⟩:=h s y s' e
  exact Nat.lt_of_lt_of_le hb2 a
theorem ct_base (hk:k≤bs.length):Base (RP bs) (RP (bs.take k)) (ctJ k) (ctB k) (2,(k:Int)) where
 num:=fun s t size most x hm=>ct_sim (r:=fun s=>(RP bs).num s size most x) (r':=fun t=>(RP (bs.take k)).num t size most x) (fun s=>ct_num hk s size most x hm) s t
 flt:=fun s t lv x=>ct_sim (r:=fun s=>(RP bs).flt s lv x) (r':=fun t=>(RP (bs.take k)).flt t lv x) (fun s=>ct_flt hk s lv x) s t
 flg:=fun s t x=>ct_sim (r:=fun s=>(RP bs).flg s x) (r':=fun t=>(RP (bs.take k)).flg t x) (fun s=>ct_flg hk s x) s t
theorem ct_parts (hk:k≤bs.length) (s:Nat) (hs:s≤k) {x:Raw} {s':Nat} (h:parts (RP bs) s=.ok (x,s')):parts (RP (bs.take k)) s=if s'≤k then .ok (x,s') else .error (2,(k:Int)):=by
 rcases (sim_parts (ct_base hk) s s).1 ⟨rfl,hs⟩ x s' h with ⟨t',h1,h2⟩ | ⟨h1,h2⟩
 ·have e:s'=t'∧s'≤k:=h2
  obtain ⟨e1,e2⟩:=e
  subst e1
  rw [if_pos e2]
  exact h1
 ·have e:k < s':=h2
  rw [if_neg (by omega)]
  exact h1
theorem dec_cut {x:Raw} (hb:∀ x ∈ bs,x < 256) (h:decR bs=.ok x) (hk:k < bs.length):decR (bs.take k)=.error (2,(k:Int)):=by
 obtain ⟨hbig,s1,s2,s3,s4,h1,h2,h3,h4⟩:=dec_inv h
 have hl:(bs.take k).length=k:=by rw [List.length_take];omega
 obtain ⟨rfl,hl3,hb3⟩:=head_bwd hb h1
 have q2:=fun hk3:3≤k=>ct_parts (k:=k) (by omega) 3 hk3 h2
 obtain ⟨e3,l4,_⟩:=sum_bwd hb h3
 have he:¬ s3 < bs.length:=by
  unfold endR at h4
  intro hc
  rw [if_pos hc] at h4
  cases h4
 unfold decR
 rw [if_neg (by rw [hl];omega)]
 by_cases hk3:3≤k
 ·have hh:headR (bs.take k)=.ok 3:=by
   refine head_fwd (m:=(bs.drop 3).take (k - 3)) ?_
   conv=>lhs;rw [hb3]
   rw [List.take_append,List.take_of_length_le (by simp;omega)]
   rfl
  rw [hh,andThen_ok,q2 hk3]
  by_cases hk4:s2≤k
  ·rw [if_pos hk4,andThen_ok]
   simp only
   unfold sumR
   rw [rp_num (bs:=bs.take k) s2 2 65535 0 (by decide),show lim 2 7=2 by decide,hl,if_pos (by omega)]
   rfl
  ·rw [if_neg hk4]
   rfl
 ·have hh:headR (bs.take k)=.error (2,(k:Int)):=by
   unfold headR
   rw [rp_num (bs:=bs.take k) (0:Nat) 3 16777215 0 (by decide),show lim 3 7=3 by decide,hl,if_pos (by omega)]
  rw [hh]
  rfl
end
end By
end Go.Proofs.YtggjconbgpfomaaGreat
