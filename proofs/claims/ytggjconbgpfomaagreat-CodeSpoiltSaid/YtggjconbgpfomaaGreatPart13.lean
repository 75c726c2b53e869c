/- 2 texts in one file, in build order. -/
import Derived.Test.YtggjconbgpfomaaGreatRows
import Derived.Test.YtggjconbgpfomaaGreatPart07
import Derived.Test.YtggjconbgpfomaaGreatPart02
set_option linter.unusedVariables false
set_option linter.unusedSimpArgs false
set_option linter.unusedSectionVars false
set_option maxHeartbeats 8000000
set_option maxRecDepth 100000
namespace Go.Proofs.YtggjconbgpfomaaGreat
namespace By
open Go Go.RowKit
open Tab Po
open Rr (RP may decR headR sumR endR)
open Put (low low_len low_lt low_mod lim)
open Nx (val be be_cons)
open Cd (bodyB sealB)
open CrcM (crc)
section
variable {P:PP}
theorem run_num_eq {l:List Value} {s:P.σ} {j:Nat} {size most x:Int} (h:l[j]?=some (I x)):Sp.run P l s (.num size most j)=andThen (P.num s size most x) fun q=>.ok (l.set j (I q.1),q.2):=by
 simp only [Sp.run,h]
 cases P.num s size most x <;> rfl
theorem run_num_ne {l:List Value} {s:P.σ} {j:Nat} {size most:Int} (h:∀ x,l[j]? ≠ some (I x)):Sp.run P l s (.num size most j)=.ok (l,s):=by
 simp only [Sp.run]
 first
 | done
 | (split
    ·rename_i x hx;exact absurd hx (h x)
    ·rfl)
theorem run_flt_eq {l:List Value} {s:P.σ} {j:Nat} {lv:Bool} {x:Nat} (h:l[j]?=some (.float .f64 x)):Sp.run P l s (.flt lv j)=andThen (P.flt s lv x) fun q=>.ok (l.set j (.float .f64 q.1),q.2):=by
 simp only [Sp.run,h]
 cases P.flt s lv x <;> rfl
theorem run_flt_ne {l:List Value} {s:P.σ} {j:Nat} {lv:Bool} (h:∀ x,l[j]? ≠ some (.float .f64 x)):Sp.run P l s (.flt lv j)=.ok (l,s):=by
 simp only [Sp.run]
 first
 | done
 | (split
    ·rename_i x hx;exact absurd hx (h x)
    ·rfl)
theorem run_flg_eq {l:List Value} {s:P.σ} {j:Nat} {x:Bool} (h:l[j]?=some (.bool x)):Sp.run P l s (.flg j)=andThen (P.flg s x) fun q=>.ok (l.set j (.bool q.1),q.2):=by
 simp only [Sp.run,h]
 cases P.flg s x <;> rfl
theorem run_flg_ne {l:List Value} {s:P.σ} {j:Nat}  (h:∀ x,l[j]? ≠ some (.bool x)):Sp.run P l s (.flg j)=.ok (l,s):=by
 simp only [Sp.run]
 first
 | done
 | (split
    ·rename_i x hx;exact absurd hx (h x)
    ·rfl)
theorem runs_eq (c:Sp) (st:List Sp) (l:List Value) (s:P.σ):runs P (c :: st) l s=andThen (Sp.run P l s c) fun q=>runs P st q.1 q.2:=by
 rw [runs]
 cases Sp.run P l s c <;> rfl
theorem eachs_eq (st:List Sp) (x:List Value) (xs:List (List Value)) (s:P.σ):eachs P st (x :: xs) s=andThen (runs P st x s) fun q=>andThen (eachs P st xs q.2) fun r=>.ok (q.1 :: r.1,r.2):=by
 rw [eachs]
 cases runs P st x s with
 | error f=>rfl
 | ok q =>
  rw [andThen_ok]
  simp only
  cases eachs P st xs q.2 <;> rfl
theorem listN_eq (most:Int) (st:List Sp) (z:List Value) (s:P.σ):listN P most st z s=andThen (P.num s 1 most 0) fun q=>eachs P st (List.replicate q.1.toNat z) q.2:=by
 unfold listN
 cases P.num s 1 most 0 <;> rfl
theorem grpN_eq (s:P.σ):grpN P s=andThen (rowN P s) fun q=>andThen (rowN P q.2) fun r=>.ok ((q.1,r.1),r.2):=by
 unfold grpN
 cases rowN P s with
 | error f=>rfl
 | ok q =>
  rw [andThen_ok]
  simp only
  cases rowN P q.2 <;> rfl
theorem grpsN_eq (n:Nat) (s:P.σ):grpsN P (n+1) s=andThen (grpsN P n s) fun q=>andThen (grpN P q.2) fun r=>.ok (q.1++[r.1],r.2):=by
 rw [grpsN]
 cases grpsN P n s with
 | error f=>rfl
 | ok q =>
  rw [andThen_ok]
  simp only
  cases grpN P q.2 <;> rfl
theorem listG_eq (most:Int) (s:P.σ):listG P most s=andThen (P.num s 1 most 0) fun q=>grpsN P q.1.toNat q.2:=by
 unfold listG
 cases P.num s 1 most 0 <;> rfl
end
section
variable {P Q:PP} {J:P.σ→Q.σ→Prop} {Bd:P.σ→Prop} {f:Flt}
def Sim (J:P.σ→Q.σ→Prop) (Bd:P.σ→Prop) (f:Flt) {α:Type} (s:P.σ) (t:Q.σ) (r:Except Flt (α × P.σ)) (r':Except Flt (α × Q.σ)):Prop :=
 (J s t→∀ y s',r=.ok (y,s')→(∃ t',r'=.ok (y,t')∧J s' t')∨(r'=.error f∧Bd s'))∧(Bd s→∀ y s',r=.ok (y,s')→Bd s')
theorem Sim.bind {α β:Type} {s:P.σ} {t:Q.σ} {r:Except Flt (α × P.σ)} {r':Except Flt (α × Q.σ)} {K:α × P.σ→Except Flt (β × P.σ)} {K':α × Q.σ→Except Flt (β × Q.σ)} (h:Sim J Bd f s t r r') (hK:∀ y s1 t1,Sim J Bd f s1 t1 (K (y,s1)) (K' (y,t1))):Sim J Bd f s t (andThen r K) (andThen r' K'):=by
 refine ⟨fun hj z s' e=>?_,fun hb z s' e=>?_⟩
 ·obtain ⟨⟨y,s1⟩,e1,e2⟩:=Po.then_ok e
  rcases h.1 hj y s1 e1 with ⟨t1,h1,h2⟩ | ⟨h1,h2⟩
  ·rw [h1,andThen_ok]
   exact (hK y s1 t1).1 h2 z s' e2
  ·rw [h1,andThen_error]
   exact .inr ⟨rfl,(hK y s1 t).2 h2 z s' e2⟩
 ·obtain ⟨⟨y,s1⟩,e1,e2⟩:=Po.then_ok e
  exact (hK y s1 t).2 (h.2 hb y s1 e1) z s' e2
end
section
variable {bs:List Nat} {k:Nat}
end
end By
namespace By
open Go Go.RowKit
open Tab Po
open Rr (RP may decR headR sumR endR)
open Put (low low_len low_lt low_mod lim)
open Cd (bodyB sealB)
open CrcM (crc par parL)
def Ne0 {α:Type} (r:Except Flt α):Prop:=∀ f,r=.error f→f.1 ≠ 0
theorem Ne0.ok {α:Type} (x:α):Ne0 (.ok x:Except Flt α):=fun f h=>by cases h
theorem Ne0.bind {α β:Type} {r:Except Flt α} {k:α→Except Flt β} (h:Ne0 r) (hk:∀ x,Ne0 (k x)):Ne0 (andThen r k):=fun f e=>by
 cases r with
 | error g=>rw [andThen_error] at e;cases e;exact h f rfl
 | ok x=>exact hk x f e
structure Nz (P:PP):Prop where
 num:∀ s size most x,Ne0 (P.num s size most x)
 flt:∀ s lv x,Ne0 (P.flt s lv x)
 flg:∀ s x,Ne0 (P.flg s x)
section
variable {P:PP}
theorem nz_run (H:Nz P) (l:List Value) (s:P.σ) (c:Sp):Ne0 (Sp.run P l s c):=by
 cases c with
 | num size most j =>
  by_cases hx:∃ x,l[j]?=some (I x)
  ·obtain ⟨x,hx⟩:=hx
   rw [run_num_eq hx]
   exact (H.num s size most x).bind fun _=>Ne0.ok _
  ·rw [run_num_ne (fun x h=>hx ⟨x,h⟩)]
   exact Ne0.ok _
 | flt lv j =>
  by_cases hx:∃ x,l[j]?=some (.float .f64 x)
  ·obtain ⟨x,hx⟩:=hx
   rw [run_flt_eq hx]
   exact (H.flt s lv x).bind fun _=>Ne0.ok _
  ·rw [run_flt_ne (fun x h=>hx ⟨x,h⟩)]
   exact Ne0.ok _
 | flg j =>
  by_cases hx:∃ x,l[j]?=some (.bool x)
  ·obtain ⟨x,hx⟩:=hx
   rw [run_flg_eq hx]
   exact (H.flg s x).bind fun _=>Ne0.ok _
  ·rw [run_flg_ne (fun x h=>hx ⟨x,h⟩)]
   exact Ne0.ok _
theorem nz_runs (H:Nz P):∀ (st:List Sp) (l:List Value) (s:P.σ),Ne0 (runs P st l s)
 | [],l,s=>Ne0.ok _
 | c :: st,l,s=>by
  rw [runs_eq]
  exact (nz_run H l s c).bind fun q=>nz_runs H st q.1 q.2
theorem nz_eachs (H:Nz P) (st:List Sp):∀ (xs:List (List Value)) (s:P.σ),Ne0 (eachs P st xs s)
 | [],s=>Ne0.ok _
 | x :: xs,s=>by
  rw [eachs_eq]
  exact (nz_runs H st x s).bind fun q=>(nz_eachs H st xs q.2).bind fun r=>Ne0.ok _
theorem nz_list (H:Nz P) (most:Int) (st:List Sp) (z:List Value) (s:P.σ):Ne0 (listN P most st z s):=by
 rw [listN_eq]
 exact (H.num s 1 most 0).bind fun q=>nz_eachs H st _ q.2
theorem nz_grp (H:Nz P) (s:P.σ):Ne0 (grpN P s):=by
 rw [grpN_eq]
 exact (nz_list H _ _ _ s).bind fun q=>(nz_list H _ _ _ q.2).bind fun r=>Ne0.ok _
theorem nz_grps (H:Nz P):∀ (n:Nat) (s:P.σ),Ne0 (grpsN P n s)
 | 0,s=>Ne0.ok _
 | n+1,s=>by
  rw [grpsN_eq]
  exact (nz_grps H n s).bind fun q=>(nz_grp H q.2).bind fun r=>Ne0.ok _
theorem nz_listG (H:Nz P) (s:P.σ):Ne0 (listG P 4 s):=by
 rw [listG_eq]
 exact (H.num s 1 4 0).bind fun q=>nz_grps H _ q.2
theorem nz_parts (H:Nz P) (s:P.σ):Ne0 (parts P s) :=
 (nz_eachs H _ _ _).bind fun _=>(nz_listG H _).bind fun _=>(nz_runs H _ _ _).bind fun _=>(nz_list H _ _ _ _).bind fun _=>(nz_list H _ _ _ _).bind fun _=>(nz_list H _ _ _ _).bind fun _=>(nz_runs H _ _ _).bind fun _=>(nz_runs H _ _ _).bind fun _=>(nz_runs H _ _ _).bind fun _=>Ne0.ok _
end
theorem nz_rp (bs:List Nat):Nz (RP bs) where
 num:=fun s size most x f e=>by
  simp only [RP] at e
  split at e
  ·cases e
  ·rename_i h;cases e;exact h
 flt:=fun s lv x f e=>by
  simp only [RP] at e
  split at e
  ·split at e <;> cases e
   simp
  ·rename_i h;cases e;exact h
 flg:=fun s x f e=>by
  simp only [RP] at e
  split at e
  ·cases e
  ·rename_i h;cases e;exact h
theorem dec_code {bs:List Nat} {f:Flt} (h:decR bs=.error f):f.1 ≠ 0:=by
 unfold decR at h
 by_cases hbig:2048 < bs.length
 ·rw [if_pos hbig] at h;cases h;decide
 ·rw [if_neg hbig] at h
  refine Ne0.bind (r:=headR bs) (fun f e=>?_) (fun s1=>Ne0.bind (nz_parts (nz_rp bs) s1) fun x=>Ne0.bind (r:=sumR bs x.2) (fun f e=>?_) fun s3=>Ne0.bind (r:=endR bs s3) (fun f e=>?_) fun _=>Ne0.ok _) f h
  ·unfold headR at e
   split at e
   ·rename_i hn;cases e;exact (nz_rp bs).num _ _ _ _ _ hn
   ·split at e <;> cases e
    simp
  ·unfold sumR at e
   split at e
   ·rename_i hn;cases e;exact (nz_rp bs).num _ _ _ _ _ hn
   ·split at e <;> cases e
    simp
  ·unfold endR at e
   split at e <;> cases e
   simp
theorem parL_app (a b:List Nat):parL (a++b)=(parL a ^^ parL b):=by
 unfold parL
 rw [List.foldl_append,CrcM.fold_par]
 rfl
theorem par_low:∀ c:Nat,c < 65536→parL (low 2 (c:Int))=par c:=by
 intro c hc
 have e:low 2 (c:Int)=[c / 256,c % 256]:=by
  have h1:(((c:Int) / 2 ^ (8*1)) % 256).toNat=c / 256:=by omega
  have h2:(((c:Int) / 2 ^ (8*0)) % 256).toNat=c % 256:=by simp;omega
  show [(((c:Int) / 2 ^ (8*1)) % 256).toNat,(((c:Int) / 2 ^ (8*0)) % 256).toNat]=_
  rw [h1,h2]
 rw [e]
 have h3:par c=(par (256*(c / 256)) ^^ par (c % 256)):=by
  conv=>lhs;rw [CrcM.split_c c]
  exact CrcM.par_xor _ _
 rw [h3,CrcM.par_high _ (by omega)]
 unfold parL
 simp
theorem par_seal {b:List Nat} (hb:∀ x ∈ b,x < 256):parL (sealB b)=false:=by
 unfold sealB
 rw [parL_app,par_low _ (CrcM.crc_lt _ _ (by decide)),CrcM.par_crc 65535 b (by decide) hb,show par 65535=false by decide +kernel]
 cases parL b <;> rfl
theorem dec_odd {T:Tab} {m:List Nat} (hm:∀ x ∈ m,x < 256) (h:parL m=!parL (sealB (bodyB T))):m ≠ sealB (bodyB T)∧∃ f,decR m=.error f∧f.1 ≠ 0:=by
 have h1:parL (sealB (bodyB T))=false:=par_seal (Cd.B8.body T)
 refine ⟨fun e=>(by rw [e,h1] at h;cases h),?_⟩
 cases hd:decR m with
 | error f=>exact ⟨f,rfl,dec_code hd⟩
 | ok x =>
  obtain ⟨_,e,_⟩:=dec_bwd hm hd
  rw [e,h1,par_seal (Cd.B8.body _)] at h
  cases h
end By
end Go.Proofs.YtggjconbgpfomaaGreat
