/- 8 texts in one file, in build order. -/
import Derived.Test.YtjolhoilcibdfaaGreatRows
import Derived.Test.YtjolhoilcibdfaaGreatPart07
import Derived.Test.YtjolhoilcibdfaaGreatPart08
import Derived.Test.YtjolhoilcibdfaaGreatPart01
set_option linter.unusedVariables false
set_option linter.unusedSimpArgs false
set_option linter.unusedSectionVars false
set_option maxHeartbeats 8000000
set_option maxRecDepth 100000
namespace Go.Proofs.YtjolhoilcibdfaaGreat
namespace ChkZ
open Go Tab PlaceM PlanM OnS May ChkM ChkX
open PlanW (where_some)
def inG (T:Tab) (g:Nat):List Spt:=(spots T).filter fun x=>decide ((x.g:Int)=g)
def phG (T:Tab) (g:Nat):List Int:=(inG T g).map Spt.p
theorem memb_eq (T:Tab) (g:Nat):SetM.of (phG T g)=membS T g:=memb_spots T g
theorem mem_inG {T:Tab} {g:Nat} {x:Spt}:x ∈ inG T g ↔ x ∈ spots T∧x.g=g:=by
 unfold inG
 rw [List.mem_filter,decide_eq_true_eq]
 constructor
 ·rintro ⟨h1,h2⟩;exact ⟨h1,by omega⟩
 ·rintro ⟨h1,h2⟩;exact ⟨h1,by omega⟩
theorem spot_range {T:Tab} {x:Spt} (h:x ∈ spots T):0≤x.p∧x.p < 8:=by obtain ⟨_,_,_,h1,h2⟩:=mem_spots.1 h;exact ⟨h1,h2⟩
theorem ph_range {T:Tab} {g:Nat} {p:Int} (h:p ∈ phG T g):0≤p∧p < 8:=by
 obtain ⟨x,hx,rfl⟩:=List.mem_map.1 h
 exact spot_range (mem_inG.1 hx).1
theorem has_memb {T:Tab} {g:Nat} {q:Int}:SetM.has (membS T g:Nat) q=true ↔ q ∈ phG T g:=by
 rw [← memb_eq,has_of]
 constructor
 ·rintro ⟨_,_,h⟩;exact h
 ·intro h;have:=ph_range h;exact ⟨this.1,this.2,h⟩
theorem has_or {m n:Nat} (hm:m < 256) (hn:n < 256) {q:Int}:SetM.has ((m ||| n:Nat):Int) q=true ↔ SetM.has (m:Int) q=true∨SetM.has (n:Int) q=true:=by
 have hmn:m ||| n < 256:=Nat.or_lt_two_pow (n:=8) hm hn
 rw [has_bits,has_bits,has_bits,SetM.low_nat _ hmn,SetM.low_nat _ hm,SetM.low_nat _ hn,Nat.testBit_or,Bool.or_eq_true]
 constructor
 ·rintro ⟨h1,h2,h3 | h3⟩
  ·exact .inl ⟨h1,h2,h3⟩
  ·exact .inr ⟨h1,h2,h3⟩
 ·rintro (⟨h1,h2,h3⟩ | ⟨h1,h2,h3⟩)
  ·exact ⟨h1,h2,.inl h3⟩
  ·exact ⟨h1,h2,.inr h3⟩
theorem has_placed {T:Tab} {q:Int}:∀ g,SetM.has (placed T g:Nat) q=true ↔ ∃ y ∈ spots T,y.g < g∧y.p=q
 | 0=>by
  constructor
  ·intro h;have:=(has_bits.1 h).2.2;rw [show ((placed T 0:Nat):Int)=((0:Nat):Int) from rfl,SetM.low_nat 0 (by decide),Nat.zero_testBit] at this;cases this
  ·rintro ⟨y,_,h,_⟩;omega
 | g+1=>by
  rw [show placed T (g+1)=placed T g ||| membS T g from rfl,has_or (ChkH.placed_lt T g) (memb_lt T g),has_placed g,has_memb]
  constructor
  ·rintro (⟨y,h1,h2,h3⟩ | h)
   ·exact ⟨y,h1,by omega,h3⟩
   ·obtain ⟨y,hy,rfl⟩:=List.mem_map.1 h
    obtain ⟨h1,h2⟩:=mem_inG.1 hy
    exact ⟨y,h1,by omega,rfl⟩
  ·rintro ⟨y,h1,h2,h3⟩
   by_cases h4:y.g < g
   ·exact .inl ⟨y,h1,h4,h3⟩
   ·exact .inr (List.mem_map.2 ⟨y,mem_inG.2 ⟨h1,by omega⟩,h3⟩)
def go (on:Int):List Int→Nat × Nat→Option (Nat × Nat)
 | [],s=>some s
 | p :: l,(n,s)=>if !SetM.has on p || SetM.has (s:Nat) p then none else go on l (n+1,SetM.withN (s:Nat) p)
theorem fold_go (on:Int) (g:Nat):∀ (l:List Spt) (n s:Nat),foldR on g l (n,s)=go on ((l.filter fun x=>decide ((x.g:Int)=g)).map Spt.p) (n,s)
 | [],n,s=>rfl
 | x :: l,n,s=>by
  by_cases h:x.g=g
  ·have hd:decide ((x.g:Int)=g)=true:=by rw [decide_eq_true_eq];omega
   rw [List.filter_cons,hd,if_pos rfl,List.map_cons,go]
   by_cases hb:(!SetM.has on x.p || SetM.has (s:Nat) x.p)=true
   ·rw [RkR.fold_bad h hb,if_pos hb]
   ·have hb':(!SetM.has on x.p || SetM.has (s:Nat) x.p)=false:=by simpa using hb
    rw [RkR.fold_good h hb',if_neg hb]
    exact fold_go on g l _ _
  ·have hd:decide ((x.g:Int)=g)=false:=by rw [decide_eq_false_iff_not];omega
   rw [RkR.fold_other h,List.filter_cons,hd]
   exact fold_go on g l n s
theorem go_bad {on:Int}:∀ {l:List Int} {n s:Nat},go on l (n,s)=none→(∃ p ∈ l,SetM.has on p=false)∨(∃ p ∈ l,SetM.has (s:Nat) p=true)∨¬ l.Nodup
 | [],n,s,h=>by simp [go] at h
 | p :: l,n,s,h=>by
  rw [go] at h
  split at h
  ·rename_i hb
   rw [Bool.or_eq_true] at hb
   rcases hb with hb | hb
   ·exact .inl ⟨p,List.mem_cons_self ..,by simpa using hb⟩
   ·exact .inr (.inl ⟨p,List.mem_cons_self ..,hb⟩)
  ·rcases go_bad h with ⟨q,h1,h2⟩ | ⟨q,h1,h2⟩ | h1
   ·exact .inl ⟨q,List.mem_cons_of_mem _ h1,h2⟩
   ·rw [SetM.has_with,Bool.or_eq_true] at h2
    rcases h2 with h2 | h2
    ·exact .inr (.inl ⟨q,List.mem_cons_of_mem _ h1,h2⟩)
    ·refine .inr (.inr fun hn=>?_)
     have:q=p:=by rw [Bool.and_eq_true,beq_iff_eq] at h2;exact h2.2
     subst this
     exact (List.nodup_cons.1 hn).1 h1
   ·exact .inr (.inr fun hn=>h1 (List.nodup_cons.1 hn).2)
theorem go_good {on:Int}:∀ {l:List Int} {n s n' s':Nat},s < 256→(∀ p ∈ l,0≤p∧p < 8)→go on l (n,s)=some (n',s') →
  (∀ p ∈ l,SetM.has on p=true)∧(∀ p ∈ l,SetM.has (s:Nat) p=false)∧l.Nodup∧n'=n+l.length∧s' < 256∧∀ q,SetM.has (s':Nat) q=true ↔ SetM.has (s:Nat) q=true∨q ∈ l
 | [],n,s,n',s',hs,_,h=>by
  obtain ⟨rfl,rfl⟩:n=n'∧s=s':=by simpa [go] using h
  exact ⟨by simp,by simp,List.nodup_nil,rfl,hs,by simp⟩
 | p :: l,n,s,n',s',hs,hr,h=>by
  rw [go] at h
  split at h
  ·cases h
  ·rename_i hb
   have hb':(!SetM.has on p || SetM.has (s:Nat) p)=false:=by simpa using hb
   rw [Bool.or_eq_false_iff] at hb'
   have h1:SetM.has on p=true:=by simpa using hb'.1
   obtain ⟨a1,a2,a3,a4,a5,a6⟩:=go_good (SetM.with_lt _ _) (fun q hq=>hr q (List.mem_cons_of_mem _ hq)) h
   have hp:=hr p (List.mem_cons_self ..)
   have hw:∀ q,SetM.has (SetM.withN (s:Nat) p:Nat) q=true ↔ SetM.has (s:Nat) q=true∨q=p:=by
    intro q
    rw [SetM.has_with,Bool.or_eq_true,Bool.and_eq_true,beq_iff_eq]
    constructor
    ·rintro (h | ⟨_,h⟩)
     ·exact .inl h
     ·exact .inr h
    ·rintro (h | h)
     ·exact .inl h
     ·refine .inr ⟨?_,h⟩
      obtain ⟨k,rfl⟩:=Int.eq_ofNat_of_zero_le hp.1
      rw [SetM.bit_in k (by omega),bne_iff_ne]
      exact Nat.ne_of_gt (Nat.pow_pos (by decide))
   refine ⟨?_,?_,?_,?_,a5,?_⟩
   ·intro q hq
    rcases List.mem_cons.1 hq with rfl | hq
    ·exact h1
    ·exact a1 q hq
   ·intro q hq
    rcases List.mem_cons.1 hq with rfl | hq
    ·exact hb'.2
    ·cases e:SetM.has (s:Nat) q with
     | false=>rfl
     | true=>have:=a2 q hq;rw [(hw q).2 (.inl e)] at this;cases this
   ·refine List.nodup_cons.2 ⟨fun hm=>?_,a3⟩
    have:=a2 p hm
    rw [(hw p).2 (.inr rfl)] at this
    cases this
   ·rw [a4,List.length_cons];omega
   ·intro q
    rw [a6,hw,List.mem_cons]
    constructor
    ·rintro ((h | h) | h)
     ·exact .inl h
     ·exact .inr (.inl h)
     ·exact .inr (.inr h)
    ·rintro (h | h | h)
     ·exact .inl (.inl h)
     ·exact .inl (.inr h)
     ·exact .inr h
theorem Lt.asymm {x y:Spt} (h:Lt x y) (k:Lt y x):False:=by unfold Lt at h k;omega
theorem where_first {T:Tab} {x y:Spt} (hw:where_ T x.p=some x) (hy:y ∈ spots T) (hp:y.p=x.p):¬ Lt y x:=by
 intro hl
 unfold where_ find at hw
 have hs:=spots_sorted T
 rw [List.find?_eq_some_iff_append] at hw
 obtain ⟨_,l1,l2,e,h1⟩:=hw
 rw [e] at hy hs
 rcases List.mem_append.1 hy with hy | hy
 ·have:=h1 y hy
  rw [hp] at this
  simp at this
 ·rcases List.mem_cons.1 hy with rfl | hy
  ·exact Lt.irrefl hl
  ·have:=(List.pairwise_append.1 hs).2.1
   exact Lt.asymm hl ((List.pairwise_cons.1 this).1 y hy)
theorem at_some {T:Tab} {x:Spt} (hx:x ∈ spots T):(at0 (where_ T x.p)=(x.g,x.k,x.i)) ↔ where_ T x.p=some x:=by
 constructor
 ·intro h
  cases hw:where_ T x.p with
  | none =>
   exfalso
   unfold where_ find at hw
   rw [List.find?_eq_none] at hw
   exact hw x hx (by simp)
  | some y =>
   rw [hw] at h
   unfold where_ find at hw
   have hp:y.p=x.p:=by simpa using List.find?_some hw
   obtain ⟨yg,yk,yi,yp⟩:=y
   obtain ⟨xg,xk,xi,xp⟩:=x
   simp only [at0,Prod.mk.injEq] at h
   obtain ⟨h1,h2,h3⟩:=h
   subst h1 h2 h3
   simp only at hp
   rw [hp]
 ·intro h;rw [h];rfl
theorem rows_at {T:Tab} {g:Nat} (hg:g < T.groups.length):rowsAt T g=T.groups[g]:=rows_in (List.getElem?_eq_getElem hg)
theorem spot_of {T:Tab} (h:InR T) {g k i:Nat} (hg:g < T.groups.length) (hk:k < 2) (hi:i < (ringOf (rowsAt T g) k).length):(⟨g,k,i,(ringOf (rowsAt T g) k).getD i 0⟩:Spt) ∈ spots T:=by
 have hm:=h.gr _ (List.getElem_mem hg)
 unfold groupMay rowMay at hm
 simp only [Bool.and_eq_true,allIn_iff] at hm
 rw [mem_spots]
 refine ⟨T.groups[g],List.getElem?_eq_getElem hg,?_⟩
 rw [rows_at hg] at hi ⊢
 simp only
 have he:(ringOf T.groups[g] k)[i]?=some ((ringOf T.groups[g] k).getD i 0):=by rw [List.getD_eq_getElem?_getD,List.getElem?_eq_getElem hi];rfl
 refine ⟨he,?_⟩
 have hmem:(ringOf T.groups[g] k).getD i 0 ∈ ringOf T.groups[g] k:=List.mem_of_getElem? he
 have h01:k=0∨k=1:=by omega
 rcases h01 with rfl | rfl
 ·have:=hm.1.2 _ hmem;omega
 ·have:=hm.2.2 _ hmem;omega
theorem rep_iff {T:Tab} (h:InR T) {g:Nat} (hg:g < T.groups.length):repeats T g=false ↔ ∀ x ∈ inG T g,where_ T x.p=some x:=by
 unfold repeats
 rw [Bool.or_eq_false_iff,ChkG.rep_row,ChkG.rep_row]
 constructor
 ·rintro ⟨h0,h1⟩ x hx
  obtain ⟨hs,hxg⟩:=mem_inG.1 hx
  rw [← at_some hs]
  obtain ⟨y,hy,hr,_⟩:=mem_spots.1 hs
  have hry:rowsAt T (x.g:Nat)=y:=rows_in hy
  rw [hxg] at hry
  have hlt:=(List.getElem?_eq_some_iff.1 hr).1
  have hk:x.k=0∨x.k=1:=by
   unfold ringOf at hr
   by_cases e0:x.k=0
   ·exact .inl e0
   ·by_cases e1:x.k=1
    ·exact .inr e1
    ·rw [if_neg e0,if_neg e1] at hr;simp at hr
  have hv:(ringOf y x.k).getD x.i 0=x.p:=by rw [List.getD_eq_getElem?_getD,hr];rfl
  rcases hk with e | e
  ·rw [e] at hlt hv
   have:=h0 x.i (by rw [hry];exact hlt)
   unfold ChkG.atOk at this
   rw [beq_iff_eq,hry,show y.1.getD x.i 0=x.p from hv] at this
   rw [this,hxg,e]
  ·rw [e] at hlt hv
   have:=h1 x.i (by rw [hry];exact hlt)
   unfold ChkG.atOk at this
   rw [beq_iff_eq,hry,show y.2.getD x.i 0=x.p from hv] at this
   rw [this,hxg,e]
 ·intro hall
  constructor
  ·intro i hi
   have hs:=spot_of h hg (k:=0) (by omega) hi
   have:=(at_some hs).2 (hall _ (mem_inG.2 ⟨hs,rfl⟩))
   unfold ChkG.atOk
   rw [beq_iff_eq]
   exact this
  ·intro i hi
   have hs:=spot_of h hg (k:=1) (by omega) hi
   have:=(at_some hs).2 (hall _ (mem_inG.2 ⟨hs,rfl⟩))
   unfold ChkG.atOk
   rw [beq_iff_eq]
   exact this
theorem inj_of {A:List Spt}:(A.map Spt.p).Nodup→∀ {x y:Spt},x ∈ A→y ∈ A→x.p=y.p→x=y:=by
 induction A with
 | nil=>intro _ x y hx;cases hx
 | cons a A ih =>
  intro hn x y hx hy hp
  rw [List.map_cons,List.nodup_cons] at hn
  rcases List.mem_cons.1 hx with hx | hx
  ·rcases List.mem_cons.1 hy with hy | hy
   ·rw [hx,hy]
   ·exact absurd (List.mem_map.2 ⟨y,hy,by rw [← hp,hx]⟩) hn.1
  ·rcases List.mem_cons.1 hy with hy | hy
   ·exact absurd (List.mem_map.2 ⟨x,hx,by rw [hp,hy]⟩) hn.1
   ·exact ih hn.2 hx hy hp
theorem first_iff {T:Tab} (g:Nat):(∀ x ∈ inG T g,where_ T x.p=some x) ↔ (phG T g).Nodup∧∀ p ∈ phG T g,SetM.has (placed T g:Nat) p=false:=by
 constructor
 ·intro h
  constructor
  ·unfold phG List.Nodup
   rw [List.pairwise_map]
   have hs:(inG T g).Pairwise Lt:=(spots_sorted T).sublist List.filter_sublist
   refine List.Pairwise.imp_of_mem (fun {y x} hy hx hl e=>?_) hs
   exact where_first (h x hx) (mem_inG.1 hy).1 e hl
  ·intro p hp
   obtain ⟨x,hx,rfl⟩:=List.mem_map.1 hp
   cases e:SetM.has (placed T g:Nat) x.p with
   | false=>rfl
   | true =>
    exfalso
    obtain ⟨y,h1,h2,h3⟩:=(has_placed g).1 e
    exact where_first (h x hx) h1 h3 (.inl (by rw [(mem_inG.1 hx).2];exact h2))
 ·rintro ⟨hn,hp⟩ x hx
  obtain ⟨hs,hxg⟩:=mem_inG.1 hx
  refine where_some hs rfl (fun y hy hl e=>?_)
  rcases hl with hl | ⟨hl,hl2⟩
  ·have:=hp x.p (List.mem_map.2 ⟨x,hx,rfl⟩)
   rw [(has_placed g).2 ⟨y,hy,by omega,e⟩] at this
   cases this
  ·have hyx:=inj_of hn (mem_inG.2 ⟨hy,by omega⟩) hx e
   subst hyx
   omega
theorem of_zero {l:List Int} (hr:∀ p ∈ l,0≤p∧p < 8):SetM.of l=0 ↔ l=[]:=by
 constructor
 ·intro h
  cases l with
  | nil=>rfl
  | cons p l =>
   exfalso
   have hp:=hr p (List.mem_cons_self ..)
   exact (low_ne (SetM.of_lt (p :: l))).2 ⟨p,has_of.2 ⟨hp.1,hp.2,List.mem_cons_self ..⟩⟩ h
 ·rintro rfl;rfl
theorem group_iff {T:Tab} (h:InR T) {g:Nat} (hg:g < T.groups.length):groupBad T g=false ↔
  phG T g ≠ []∧(∀ p ∈ phG T g,SetM.has (onS T:Nat) p=true)∧(phG T g).Nodup∧∀ p ∈ phG T g,SetM.has (placed T g:Nat) p=false:=by
 unfold groupBad
 rw [Bool.or_eq_false_iff,Bool.or_eq_false_iff,rep_iff h hg,first_iff,beq_eq_false_iff_ne,Bool.not_eq_false',allOn_iff (by have:=memb_lt T g;omega),← memb_eq,ne_eq,of_zero (fun p hp=>ph_range hp)]
 rw [memb_eq]
 simp only [has_memb]
theorem group_step {T:Tab} (h:InR T) {g:Nat} (hg:g < T.groups.length) :
  (groupBad T g=true→foldR (onS T:Nat) g (spots T) (0,placed T g)=none∨∃ s,foldR (onS T:Nat) g (spots T) (0,placed T g)=some (0,s)) ∧
  (groupBad T g=false→∃ n,foldR (onS T:Nat) g (spots T) (0,placed T g)=some (n,placed T (g+1))∧n ≠ 0):=by
 have hf:foldR (onS T:Nat) g (spots T) (0,placed T g)=ChkZ.go (onS T:Nat) (phG T g) (0,placed T g):=fold_go _ _ _ _ _
 rw [hf]
 have hi:=group_iff h hg
 constructor
 ·intro hb
  cases hgo:ChkZ.go (onS T:Nat) (phG T g) (0,placed T g) with
  | none=>exact .inl rfl
  | some st =>
   obtain ⟨n',s'⟩:=st
   obtain ⟨a1,a2,a3,a4,a5,a6⟩:=go_good (ChkH.placed_lt T g) (fun p hp=>ph_range hp) hgo
   have:phG T g=[]:=by
    refine Classical.byContradiction fun hne=>?_
    have:=hi.2 ⟨hne,a1,a3,a2⟩
    rw [this] at hb;cases hb
   rw [this] at a4
   exact .inr ⟨s',by rw [a4];rfl⟩
 ·intro hb
  obtain ⟨b1,b2,b3,b4⟩:=hi.1 hb
  cases hgo:ChkZ.go (onS T:Nat) (phG T g) (0,placed T g) with
  | none =>
   exfalso
   rcases go_bad hgo with ⟨p,h1,h2⟩ | ⟨p,h1,h2⟩ | h1
   ·rw [b2 p h1] at h2;cases h2
   ·rw [b4 p h1] at h2;cases h2
   ·exact h1 b3
  | some st =>
   obtain ⟨n',s'⟩:=st
   obtain ⟨a1,a2,a3,a4,a5,a6⟩:=go_good (ChkH.placed_lt T g) (fun p hp=>ph_range hp) hgo
   have e:s'=placed T (g+1):=by
    refine SetM.has_ext a5 (ChkH.placed_lt T (g+1)) fun q=>?_
    rw [Bool.eq_iff_iff,a6,show placed T (g+1)=placed T g ||| membS T g from rfl,has_or (ChkH.placed_lt T g) (memb_lt T g),has_memb]
   refine ⟨n',by rw [e],?_⟩
   rw [a4]
   have:=List.length_pos_iff.2 b1
   omega
def tailC (T:Tab):Option Int :=
 match (List.range T.groups.length).find? (groupBad T) with
 | some g=>some (g:Int)
 | none=>if bits .andNot .i64 (onS T:Nat) (placed T T.groups.length:Nat)=0 then none else some 0
theorem loop_eq {T:Tab} (h:InR T):∀ (m g:Nat),g+m=T.groups.length→(∀ j,j < g→groupBad T j=false)→loopR T m g (placed T g)=tailC T
 | 0,g,hg,hn=>by
  obtain rfl:g=T.groups.length:=by omega
  unfold tailC
  rw [range_miss hn]
  simp only [loopR]
  have hon:0≤((onS T:Nat):Int)∧((onS T:Nat):Int)≤255:=by have:onS T < 256:=SetM.of_lt _;omega
  have e:placed T T.groups.length=onS T ↔ bits .andNot .i64 (onS T:Nat) (placed T T.groups.length:Nat)=0:=by
   rw [andNot_zero hon (ChkH.placed_lt T _)]
   constructor
   ·intro e q hq;rw [e];exact hq
   ·intro hsub
    refine SetM.has_ext (ChkH.placed_lt T _) (SetM.of_lt _) fun q=>?_
    rw [Bool.eq_iff_iff]
    refine ⟨fun hq=>?_,hsub q⟩
    obtain ⟨y,h1,h2,rfl⟩:=(has_placed _).1 hq
    exact ((group_iff h h2).1 (hn y.g h2)).2.1 _ (List.mem_map.2 ⟨y,mem_inG.2 ⟨h1,rfl⟩,rfl⟩)
  by_cases he:placed T T.groups.length=onS T
  ·rw [if_pos he,if_pos (e.1 he)]
  ·rw [if_neg he,if_neg (fun h=>he (e.2 h))]
 | m+1,g,hg,hn=>by
  have hlt:g < T.groups.length:=by omega
  obtain ⟨s1,s2⟩:=group_step h hlt
  cases hb:groupBad T g with
  | true =>
   have ht:tailC T=some (g:Int):=by unfold tailC;rw [range_hit hlt hb hn]
   rw [ht]
   rcases s1 hb with h1 | ⟨s,h1⟩
   ·exact RkR.loop_none h1
   ·exact RkR.loop_zero h1
  | false =>
   obtain ⟨n,h1,h2⟩:=s2 hb
   rw [RkR.loop_next h1 h2]
   refine loop_eq h m (g+1) (by omega) (fun j hj=>?_)
   by_cases e:j=g
   ·subst e;exact hb
   ·exact hn j (by omega)
theorem rings_eq {T:Tab} (h:InR T):ringsC T=ringsR T:=by
 unfold ringsC ringsR
 by_cases h0:T.groups.length=0
 ·rw [if_pos h0,if_pos h0]
 ·rw [if_neg h0,if_neg h0,show (0:Nat)=placed T 0 from rfl]
  exact (loop_eq h T.groups.length 0 (by omega) (fun j hj=>by omega)).symm
theorem find_congr {f g:Int→Bool}:∀ {l:List Int},(∀ x ∈ l,f x=g x)→l.find? f=l.find? g
 | [],_=>rfl
 | x :: l,h=>by
  rw [List.find?_cons,List.find?_cons,h x (List.mem_cons_self ..),find_congr (fun y hy=>h y (List.mem_cons_of_mem _ hy))]
theorem idx_congr {α:Type} {f g:α→Bool} {l:List α} (h:∀ x ∈ l,f x=g x):idx f l=idx g l:=by
 have:l.findIdx? f=l.findIdx? g:=by
  induction l with
  | nil=>rfl
  | cons x l ih=>rw [List.findIdx?_cons,List.findIdx?_cons,h x (List.mem_cons_self ..),ih (fun y hy=>h y (List.mem_cons_of_mem _ hy))]
 unfold idx
 rw [this]
theorem chk_eq {T:Tab} (h8:T.phases.length=8) (hc:T.conflict.length=8):chkC T=chkR T:=by
 cases hm:tabMay T with
 | false=>unfold chkC chkR rulesC rulesR mayF;rw [hm];rfl
 | true =>
  have h:=in_ranges hm
  have hb:∀ p ∈ ons T,0≤p∧p < 8:=fun p hp=>SetM.list_bd _ _ hp
  unfold chkC chkR rulesC rulesR
  rw [rings_eq h,
   find_congr (f:=fun p=>phBad (phAt T p)) (g:=fun p=>!phOk (phAt T p)) (fun p hp=>by rw [ph_eq (ph_at h h8 (hb p hp).1 (hb p hp).2),Bool.not_not]),
   find_congr (f:=confBad T) (g:=fun p=>!confOk T p) (fun p hp=>by rw [conf_eq hp,Bool.not_not]),
   idx_congr (f:=detBad T) (g:=detR T) (fun d hd=>by
    have hd':=h.dt d hd
    unfold Det.may at hd'
    rw [Bool.and_eq_true,allIn_iff] at hd'
    have:=hd'.1 d.phase (by simp)
    exact det_eq h8 this.1 (by omega)),
   idx_congr (f:=railBad T) (g:=fun r=>!railOk T r) (fun r hr=>by rw [rail_eq h hc (h.rl r hr),Bool.not_not]),
   idx_congr (f:=busBad T) (g:=busR T) (fun b hb'=>bus_eq (h.bs b hb')),
   find_congr (f:=flashBad T) (g:=fun p=>!flashOk T p) (fun p hp=>by rw [flash_eq,Bool.not_not])]
end ChkZ
namespace Bes
open Go Tab PlaceM PlanM OnS May ChkM ChkX
open ChkZ (inG phG mem_inG group_iff first_iff inj_of has_placed)
theorem first_none:∀ {l:List (Int × Option Int)},(∀ x ∈ l,x.1 ≠ 0)→firstF l=(0,0)→∀ x ∈ l,x.2=none
 | [],_,_,x,hx=>by simp at hx
 | (c,some p) :: l,hc,h,x,hx=>by
  exfalso
  have:c=0:=congrArg Prod.fst h
  exact hc (c,some p) (by simp) this
 | (c,none) :: l,hc,h,x,hx=>by
  rcases List.mem_cons.1 hx with rfl | hx
  ·rfl
  ·exact first_none (fun y hy=>hc y (List.mem_cons_of_mem _ hy)) h x hx
structure Fine (T:Tab):Prop where
 rg:InR T
 wh:∀ x ∈ spots T,where_ T x.p=some x
 on:∀ x ∈ spots T,SetM.has (onS T:Nat) x.p=true
 all:∀ q,SetM.has (onS T:Nat) q=true→∃ y ∈ spots T,y.p=q
 cf:∀ p ∈ ons T,confBad T p=false
theorem fine {T:Tab} (h:chkC T=(0,0)):Fine T:=by
 have H:=first_none (l:=rulesC T) (by unfold rulesC;simp) h
 have h4:mayF T=none:=H (4,mayF T) (by unfold rulesC;simp)
 have h8:ringsC T=none:=H (8,ringsC T) (by unfold rulesC;simp)
 have h9:(ons T).find? (confBad T)=none:=H (9,_) (by unfold rulesC;simp)
 have hm:tabMay T=true:=by
  unfold mayF at h4
  cases e:tabMay T with
  | true=>rfl
  | false=>rw [e] at h4;cases h4
 have R:=in_ranges hm
 unfold ringsC at h8
 by_cases h0:T.groups.length=0
 ·rw [if_pos h0] at h8;cases h8
 rw [if_neg h0] at h8
 cases hf:(List.range T.groups.length).find? (groupBad T) with
 | some g=>rw [hf] at h8;cases h8
 | none =>
  rw [hf] at h8
  have hg:∀ g,g < T.groups.length→groupBad T g=false:=fun g hg=>by
   have:=List.find?_eq_none.1 hf g (List.mem_range.2 hg)
   simpa using this
  have hin:∀ x ∈ spots T,x.g < T.groups.length:=fun x hx=>by
   obtain ⟨y,hy,_⟩:=mem_spots.1 hx
   exact (List.getElem?_eq_some_iff.1 hy).1
  have ho:bits .andNot .i64 (onS T:Nat) (placed T T.groups.length:Nat)=0:=by
   by_cases e:bits .andNot .i64 (onS T:Nat) (placed T T.groups.length:Nat)=0
   ·exact e
   ·dsimp only at h8;rw [if_neg e] at h8;cases h8
  refine ⟨R,fun x hx=>?_,fun x hx=>?_,fun q hq=>?_,fun p hp=>?_⟩
  ·have G:=(group_iff R (hin x hx)).1 (hg _ (hin x hx))
   exact (first_iff x.g).2 G.2.2 x (mem_inG.2 ⟨hx,rfl⟩)
  ·have G:=(group_iff R (hin x hx)).1 (hg _ (hin x hx))
   exact G.2.1 x.p (List.mem_map.2 ⟨x,mem_inG.2 ⟨hx,rfl⟩,rfl⟩)
  ·have hlt:onS T < 256:=SetM.of_lt _
   have:=(andNot_zero (by omega) (ChkH.placed_lt T _)).1 ho q hq
   obtain ⟨y,hy,_,e⟩:=(has_placed _).1 this
   exact ⟨y,hy,e⟩
  ·have:=List.find?_eq_none.1 h9 p hp
   simpa using this
theorem Fine.inj {T:Tab} (h:Fine T) {x y:Spt} (hx:x ∈ spots T) (hy:y ∈ spots T) (e:x.p=y.p):x=y:=by
 have h1:=h.wh x hx
 rw [e,h.wh y hy] at h1
 exact (Option.some.inj h1).symm
theorem Fine.two {T:Tab} (h:Fine T) {i k:Nat} {x y:Spt} (hi:(spots T)[i]?=some x) (hk:(spots T)[k]?=some y) (hne:i ≠ k):x.p ≠ y.p:=by
 intro e
 have hx:=List.mem_of_getElem? hi
 have hy:=List.mem_of_getElem? hk
 have exy:=h.inj hx hy e
 subst exy
 have hs:=spots_sorted T
 obtain ⟨hi1,hi2⟩:=List.getElem?_eq_some_iff.1 hi
 obtain ⟨hk1,hk2⟩:=List.getElem?_eq_some_iff.1 hk
 rcases Nat.lt_or_gt_of_ne hne with hlt | hlt
 ·have:=List.pairwise_iff_getElem.1 hs i k hi1 hk1 hlt
  rw [hi2,hk2] at this
  exact Lt.irrefl this
 ·have:=List.pairwise_iff_getElem.1 hs k i hk1 hi1 hlt
  rw [hi2,hk2] at this
  exact Lt.irrefl this
theorem Fine.mem {T:Tab} (h:Fine T) {x:Spt} (hx:x ∈ spots T):x.p ∈ ons T:=ChkX.mem_ons.2 (h.on x hx)
theorem Fine.symm {T:Tab} (h:Fine T) {x y:Spt} (hx:x ∈ spots T) (hy:y ∈ spots T):SetM.has (cfAt T x.p) y.p=SetM.has (cfAt T y.p) x.p:=by
 have:=h.cf x.p (h.mem hx)
 unfold confBad at this
 rw [Bool.or_eq_false_iff,List.any_eq_false] at this
 have h2:=this.2 y.p (h.mem hy)
 simp only [Bool.or_eq_true,not_or,bne_iff_ne,ne_eq,Classical.not_not] at h2
 exact h2.1
theorem Fine.clash {T:Tab} (h:Fine T) {x y:Spt} (hx:x ∈ spots T) (hy:y ∈ spots T) (hg:x.g=y.g) (hk:x.k ≠ y.k):SetM.has (cfAt T x.p) y.p=false∧SetM.has (cfAt T y.p) x.p=false:=by
 have hb:beside T x.p y.p=true:=by
  unfold beside
  rw [h.wh x hx,h.wh y hy]
  simp [hg,hk]
 have:=h.cf x.p (h.mem hx)
 unfold confBad at this
 rw [Bool.or_eq_false_iff,List.any_eq_false] at this
 have h2:=this.2 y.p (h.mem hy)
 rw [hb] at h2
 have h3:=h.symm hx hy
 cases e:SetM.has (cfAt T x.p) y.p with
 | false=>exact ⟨rfl,by rw [← h3,e]⟩
 | true=>rw [e] at h2;simp at h2
theorem Fine.count {T:Tab} (h:Fine T):(spots T).length=(ons T).length:=by
 have hnd:((spots T).map Spt.p).Nodup:=by
  unfold List.Nodup
  rw [List.pairwise_map]
  refine (spots_sorted T).imp_of_mem fun {x y} hx hy hlt e=>?_
  have:=h.inj hx hy e
  subst this
  exact Lt.irrefl hlt
 have hno:(ons T).Nodup:=by
  unfold ons SetM.list SetM.upto List.Nodup
  rw [List.pairwise_map]
  exact (List.nodup_range.filter _).imp (fun hne e=>hne (Int.ofNat.inj e))
 have hp:((spots T).map Spt.p).Perm (ons T):=(List.perm_ext_iff_of_nodup hnd hno).2 fun q=>by
  constructor
  ·intro hq
   obtain ⟨x,hx,rfl⟩:=List.mem_map.1 hq
   exact h.mem hx
  ·intro hq
   obtain ⟨y,hy,e⟩:=h.all q (ChkX.mem_ons.1 hq)
   exact List.mem_map.2 ⟨y,hy,e⟩
 rw [← hp.length_eq,List.length_map]
end Bes
namespace RkB
open Zip
open Go.ChangeShapes Go.WideShapes Go.ChangeAt Go.RowKit
open Tab PlaceM PlanM OnS ChkM ChkI
open RefS (rlist_any rhas_any row_of)
open May (ret_bool infoT infoP)
theorem getD_mem {L:List Int} {q:Nat} (h:q < L.length):L.getD q 0 ∈ L:=by rw [List.getD_eq_getElem?_getD,List.getElem?_eq_getElem h];exact List.getElem_mem h
theorem any_no {f:Int→Bool} {L:List Int} (h:∀ j,j < L.length→f (L.getD j 0)=false):L.any f=false:=by
 rw [List.any_eq_false]
 intro z hz
 obtain ⟨i,hi,rfl⟩:=List.getElem_of_mem hz
 have:=h i hi
 rw [List.getD_eq_getElem?_getD,List.getElem?_eq_getElem hi] at this
 simpa using this
def pairR (T:Tab) (p q:Int):Bool:=SetM.has (cfAt T p) q || SetM.has (cfAt T q) p
theorem rclash_any (T:Tab) (h:Hd) (sa sb:Int) (w:World) (ht:IsTab w h T) :
  Calls Tryz.prog 94 #[.agg (T.cells h).toArray,.int .i64 sa,.int .i64 sb] w fun e w'=>e=.returned (.bool (clashR T sa sb))∧Below w.heap.size w w':=by
 have hsz:=(cells_ok ht).size
 have BX0:=hJJ (bxd_new ht)
 have A0:Hid (Below w.heap.size w (w.alloc (.cells (T.cells h).toArray 32))):=hJJ ((Below.refl _ _).alloc (Nat.le_refl _) _)
 obtain ⟨x,hx⟩:∃ x,x=clashR T sa sb:=⟨_,rfl⟩
 rw [← hx]
 have HX:Hid (x=(SetM.list sa).any fun p=>(SetM.list sb).any (pairR T p)):=hJJ hx
 have FR:Hid (∀ p q,pairR T p q=(SetM.has (cfAt T p) q || SetM.has (cfAt T q) p)):=hJJ (fun p q=>rfl)
 have RA:=hJJ (rlist_any sa)
 have RB:=hJJ (rlist_any sb)
 have BDA:=hJJ (fun q (hq:q ∈ SetM.list sa)=>SetM.list_bd _ q hq)
 have BDB:=hJJ (fun q (hq:q ∈ SetM.list sb)=>SetM.list_bd _ q hq)
 have hla:=SetM.list_len sa
 have hlb:=SetM.list_len sb
 generalize SetM.list sa=La at *
 generalize SetM.list sb=Lb at *
 clear ht hx
 generalize T.cells h=c at *
 go_enter Tryz.func94,Tryz.ntmps94
 go_upto_region 1 with fail
 generalize w.alloc (.cells c.toArray 32)=u at A0 BX0 ⊢
 clear hsz
 go_wp2_with fail
 refine (RA.out _).mono ?_
 rintro e u1 ⟨v,rfl,hown,hb⟩
 obtain ⟨aa,acap,rfl,hrow⟩:=row_of hown
 have HROW:=hJJ hrow
 have B0:Hid (Below w.heap.size w u1):=hJJ (A0.out.trans (hb.mono A0.out.size))
 have BX1:=hJJ (BX0.out.below hb)
 clear hown hrow hb A0 BX0
 go_wp2_with fail
 go_loopw [14] (fun i wr=>∃ q:Nat,q≤La.length∧i=.int .i64 q∧(∀ j,j < q→Lb.any (pairR T (La.getD j 0))=false)∧Below u1.heap.size u1 wr) (fun i _=>La.length - (intOf i).toNat)
 case atStart=>exact ⟨0,by omega,rfl,(fun j h=>by omega),Below.refl _ _⟩
 case round =>
  obtain ⟨q,hq,rfl,hall,hB⟩:=hrel
  have HA:=hJJ hall
  have HB:=hJJ hB
  have BW:Hid (Below w.heap.size w wr):=hJJ (B0.out.trans (hB.mono B0.out.size))
  have BX2:=hJJ (BX1.out.below hB)
  have HROWA:=hJJ (HROW.out.below hB)
  clear hall hB
  by_cases hlt:q < La.length
  ·obtain ⟨y,rfl,hcells⟩:=HROWA.out.cells hlt
   have cq:=hcells q hlt
   have hmem:=getD_mem hlt
   have hbd:=BDA.out _ hmem
   generalize hz:La.getD q 0=z at *
   have HZ:=hJJ hz
   have HM:=hJJ hmem
   clear hcells hz hmem
   obtain ⟨p,rfl⟩:=Int.eq_ofNat_of_zero_le hbd.1
   have hp8:((p:Nat):Int) < 8:=hbd.2
   go_wp2_with fail
   refine (RB.out _).mono ?_
   rintro e u2 ⟨v,rfl,hown,hb⟩
   obtain ⟨ab,bcap,rfl,hrow⟩:=row_of hown
   have HROWB:=hJJ hrow
   have HB2:=hJJ (HB.out.trans (hb.mono HB.out.size))
   have BW2:Hid (Below w.heap.size w u2):=hJJ (BW.out.trans (hb.mono BW.out.size))
   have BX:=hJJ (BX2.out.below hb)
   clear hown hrow hb cq BX2 BW HB
   go_wp2_with fail
   go_loopw [21] (fun i wk=>∃ r:Nat,r≤Lb.length∧i=.int .i64 r∧(∀ j,j < r→pairR T p (Lb.getD j 0)=false)∧wk=u2) (fun i _=>Lb.length - (intOf i).toNat)
   case atStart=>exact ⟨0,by omega,rfl,(fun j h=>by omega),rfl⟩
   case round =>
    obtain ⟨r,hr,rfl,hall2,rfl⟩:=hrel
    rename World=>wk
    have HA2:=hJJ hall2
    clear hall2
    by_cases hlt2:r < Lb.length
    ·obtain ⟨y2,rfl,hcells⟩:=HROWB.out.cells hlt2
     have cr:=hcells r hlt2
     have hmem:=getD_mem hlt2
     have hbd2:=BDB.out _ hmem
     generalize hz:Lb.getD r 0=z2 at *
     have HZ2:=hJJ hz
     have HM2:=hJJ hmem
     clear hcells hz hmem
     obtain ⟨j,rfl⟩:=Int.eq_ofNat_of_zero_le hbd2.1
     have hj8:((j:Nat):Int) < 8:=hbd2.2
     have cp:=BX.out.cf p (by omega) (by omega)
     have cj:=BX.out.cf j (by omega) (by omega)
     rw [Int.toNat_natCast] at cp cj
     have FQ:=hJJ (FR.out p j)
     have NEXT:Hid (pairR T p j=false→∀ i,i < r+1→pairR T p (Lb.getD i 0)=false):=hJJ (fun e i hi=>by
      by_cases h1:i=r
      ·subst h1;rw [HZ2.out];exact e
      ·exact HA2.out i (by omega))
     have STOP:Hid (pairR T p j=true→true=x):=hJJ (fun e=>by
      rw [HX.out];symm;rw [List.any_eq_true];exact ⟨_,HM.out,List.any_eq_true.2 ⟨_,HM2.out,e⟩⟩)
     obtain ⟨ha,hha⟩:∃ z,SetM.has (cfAt T p) j=z:=⟨_,rfl⟩
     obtain ⟨hb,hhb⟩:∃ z,SetM.has (cfAt T j) p=z:=⟨_,rfl⟩
     rw [hha,hhb] at FQ
     have HHA:=hJJ hha
     have HHB:=hJJ hhb
     clear hha hhb
     go_wp2_with fail
     refine (rhas_any _ _ _).mono ?_
     rintro e w' ⟨rfl,rfl⟩
     rw [HHA.out]
     cases ha with
     | true =>
      have SX:=hJJ (STOP.out (by rw [FQ.out];rfl))
      go_wp2
      go_ret
      exact ⟨ret_bool SX.out,BW2.out⟩
     | false =>
      go_wp2_with fail
      refine (rhas_any _ _ _).mono ?_
      rintro e w' ⟨rfl,rfl⟩
      rw [HHB.out]
      cases hb with
      | true =>
       have SX:=hJJ (STOP.out (by rw [FQ.out];rfl))
       go_wp2
       go_ret
       exact ⟨ret_bool SX.out,BW2.out⟩
      | false =>
       have NX:=hJJ (NEXT.out (by rw [FQ.out];rfl))
       go_wp2
       go_roundw
       case rel=>exact ⟨r+1,by omega,by go_num,NX.out,trivial⟩
       case measure=>simp [intOf];omega
    ·have NX:Hid (∀ i,i < q+1→Lb.any (pairR T (La.getD i 0))=false):=hJJ (fun i hi=>by
      by_cases h1:i=q
      ·subst h1;rw [HZ.out];exact any_no (fun j hj=>HA2.out j (by omega))
      ·exact HA.out i (by omega))
     go_wp2
     go_roundw
     case rel=>exact ⟨q+1,by omega,by go_num,NX.out,HB2.out⟩
     case measure=>simp [intOf];omega
  ·have SX:Hid (false=x):=hJJ (by
    rw [HX.out,any_no (f:=fun p=>Lb.any (pairR T p)) (fun j hj=>HA.out j (by omega))])
   go_wp2
   go_ret
   exact ⟨ret_bool SX.out,BW.out⟩
theorem pairs_yes {T:Tab} {L:List Int} (h:∀ i,i < L.length→∀ k,k < i→beside T (L.getD i 0) (L.getD k 0)=true):pairs T L=true:=by
 unfold pairs
 rw [List.all_eq_true]
 intro i hi
 rw [List.all_eq_true]
 intro k hk
 exact h i (List.mem_range.1 hi) k (List.mem_range.1 hk)
theorem pairs_no {T:Tab} {L:List Int} {i k:Nat} (hi:i < L.length) (hk:k < i) (h:beside T (L.getD i 0) (L.getD k 0)=false):pairs T L=false:=by
 unfold pairs
 rw [List.all_eq_false]
 refine ⟨i,List.mem_range.2 hi,?_⟩
 rw [Bool.not_eq_true,List.all_eq_false]
 exact ⟨k,List.mem_range.2 hk,by simp only [h];simp⟩
theorem exit_any (T:Tab) (h:Hd) (s:Int) (w:World) (ht:IsTab w h T) (sm:Few T) :
  Calls Tryz.prog 93 #[.agg (T.cells h).toArray,.int .i64 s] w fun e w'=>e=.returned (.bool (exitR T s))∧Below w.heap.size w w':=by
 have hsz:=(cells_ok ht).size
 have IA:Hid ((Tryz.prog.info? 32).map (·.size)=some (T.cells h).length):=hJJ (by rw [List.size_toArray] at hsz;rw [hsz];exact infoT)
 have BS:Hid (∀ (p q:Int) W,Below w.heap.size w W→Calls Tryz.prog 42 #[.agg (T.cells h).toArray,.int .i64 p,.int .i64 q] W fun e w'=>e=.returned (.bool (beside T p q))∧Below W.heap.size W w'):=hJJ (fun p q W hb=>Where.beside_any T h p q W (ht.below hb) sm)
 have LT0:=hJJ (Row.lies_new w (T.cells h).toArray 32)
 have A0:Hid (Below w.heap.size w (w.alloc (.cells (T.cells h).toArray 32))):=hJJ ((Below.refl _ _).alloc (Nat.le_refl _) _)
 obtain ⟨x,hx⟩:∃ x,x=exitR T s:=⟨_,rfl⟩
 rw [← hx]
 have HX:Hid (x=(pairs T (SetM.list s) && decide (0 < (SetM.list s).length))):=hJJ hx
 have PY:=hJJ (fun (h:∀ i,i < (SetM.list s).length→∀ k,k < i→beside T ((SetM.list s).getD i 0) ((SetM.list s).getD k 0)=true)=>pairs_yes h)
 have PN:=hJJ (fun (i k:Nat) (hi:i < (SetM.list s).length) (hk:k < i) (h:beside T ((SetM.list s).getD i 0) ((SetM.list s).getD k 0)=false)=>pairs_no hi hk h)
 have RA:=hJJ (rlist_any s)
 have hla:=SetM.list_len s
 generalize SetM.list s=L at *
 clear ht hx
 generalize T.cells h=c at *
 go_enter Tryz.func93,Tryz.ntmps93
 go_upto_region 1 with fail
 generalize w.alloc (.cells c.toArray 32)=u at A0 LT0 ⊢
 clear hsz
 go_wp2_with fail
 refine (RA.out _).mono ?_
 rintro e u1 ⟨v,rfl,hown,hb⟩
 obtain ⟨aa,acap,rfl,hrow⟩:=row_of hown
 have HROW:=hJJ hrow
 have B0:Hid (Below w.heap.size w u1):=hJJ (A0.out.trans (hb.mono A0.out.size))
 have LT1:=hJJ (LT0.out.below hb)
 clear hown hrow hb A0 LT0
 go_wp2_with fail
 go_loopw [6] (fun i wr=>∃ q:Nat,q≤L.length∧i=.int .i64 q∧(∀ i,i < q→∀ k,k < i→beside T (L.getD i 0) (L.getD k 0)=true)∧Below u1.heap.size u1 wr) (fun i _=>L.length - (intOf i).toNat)
 case atStart=>exact ⟨0,by omega,rfl,(fun j h=>by omega),Below.refl _ _⟩
 case round =>
  obtain ⟨q,hq,rfl,hall,hB⟩:=hrel
  have HA:=hJJ hall
  have HB:=hJJ hB
  clear hall hB
  by_cases hlt:q < L.length
  ·go_wp2_with fail
   go_loopw [7] (fun i wk=>∃ r:Nat,r≤q∧i=.int .i64 r∧(∀ k,k < r→beside T (L.getD q 0) (L.getD k 0)=true)∧Below wr.heap.size wr wk) (fun i _=>q - (intOf i).toNat)
   case atStart=>exact ⟨0,by omega,rfl,(fun j h=>by omega),Below.refl _ _⟩
   case round =>
    obtain ⟨r,hr,rfl,hall2,hB2⟩:=hrel
    rename World=>wk
    have HA2:=hJJ hall2
    have HB2:=hJJ hB2
    have HBK:=hJJ (HB.out.trans (hB2.mono HB.out.size))
    clear hall2 hB2
    by_cases hlt2:r < q
    ·have BW:Hid (Below w.heap.size w wk):=hJJ (B0.out.trans (HBK.out.mono B0.out.size))
     have LT:=hJJ (LT1.out.below HBK.out)
     obtain ⟨y,rfl,hcells⟩:=(HROW.out.below HBK.out).cells hlt
     have cq:=hcells q hlt
     have cr:=hcells r (by omega)
     have PNQ:=hJJ (PN.out q r hlt hlt2)
     obtain ⟨bs,hbs⟩:∃ z,beside T (L.getD q 0) (L.getD r 0)=z:=⟨_,rfl⟩
     have HBS:=hJJ hbs
     have BSQ:Hid (∀ p:Ph.S (Row.Old wk),Calls Tryz.prog 42 #[.agg c.toArray,.int .i64 (L.getD q 0),.int .i64 (L.getD r 0)] p.world fun e w'=>e=.returned (.bool bs)∧Below p.world.heap.size p.world w'):=hJJ (fun p=>by have:=BS.out (L.getD q 0) (L.getD r 0) p.world (BW.out.trans (p.is.mono BW.out.size));rwa [hbs] at this)
     clear hbs hcells
     generalize L.getD q 0=zq at *
     generalize hzr:L.getD r 0=zr at *
     have HZR:=hJJ hzr
     clear hzr
     have hne:Nonempty (Ph.S (Row.Old wk)):=⟨⟨0,wk,Below.refl _ _⟩⟩
     have CQ:∀ p:Ph.S (Row.Old wk),p.world.cell? (y.add q)=some (.int .i64 zq):=fun p=>(p.is.cell (World.block_lt_of_cell? wk _ cq)).trans cq
     have CR:∀ p:Ph.S (Row.Old wk),p.world.cell? (y.add r)=some (.int .i64 zr):=fun p=>(p.is.cell (World.block_lt_of_cell? wk _ cr)).trans cr
     clear cq cr
     have hqi:((q:Nat):Int) < (L.length:Nat):=by omega
     have hri:((r:Nat):Int) < (L.length:Nat):=by omega
     have hrq:((r:Nat):Int) < (q:Nat):=by omega
     go_upto_region 8 with fail
     refine Pw.region (Row.Old wk) [] hmx (by kernel_rfl) (Row.Old.drew _) ?_
     refine Pw.load rfl (by rfl) 32 _ rfl ⟨w.heap.size,0,none⟩ rfl c _ (fun p=>LT.out.below p.is) Tryz.underlying32 rfl IA.out ?_
     (try dsimp only [Act.put]);(try simp only [zA,zB,zC])
     iterate 8
      (refine Pw.calm rfl (fun K hK=>?_)
       go_simp
       refine hK _ ?_
       clear hK K)
     (refine Pw.calm rfl (fun K hK=>?_)
      go_simp
      refine ⟨_,fun p=>Row.Old.call (BSQ.out p),hK _ ?_⟩
      clear hK K)
     iterate 1
      (refine Pw.calm rfl (fun K hK=>?_)
       go_simp
       refine hK _ ?_
       clear hK K)
     refine Pw.nil ?_
     intro uz hbz
     have EZ:Hid (Below w.heap.size w uz):=hJJ (BW.out.trans (hbz.mono BW.out.size))
     have EK:=hJJ (HB2.out.trans (hbz.mono HB2.out.size))
     clear hbz CQ CR hne
     cases bs with
     | true =>
      have NX:Hid (∀ k,k < r+1→beside T zq (L.getD k 0)=true):=hJJ (fun k hk=>by
       by_cases h1:k=r
       ·subst h1;rw [HZR.out];exact HBS.out
       ·exact HA2.out k (by omega))
      go_wp2
      go_roundw
      case rel=>exact ⟨r+1,by omega,by go_num,NX.out,EK.out⟩
      case measure=>simp [intOf];omega
     | false =>
      have SX:Hid (false=x):=hJJ (by rw [HX.out,PNQ.out HBS.out];rfl)
      go_wp2
      go_ret
      exact ⟨ret_bool SX.out,EZ.out⟩
    ·have NX:Hid (∀ i,i < q+1→∀ k,k < i→beside T (L.getD i 0) (L.getD k 0)=true):=hJJ (fun i hi k hk=>by
      by_cases h1:i=q
      ·subst h1;exact HA2.out k (by omega)
      ·exact HA.out i (by omega) k hk)
     go_wp2
     go_roundw
     case rel=>exact ⟨q+1,by omega,by go_num,NX.out,HBK.out⟩
     case measure=>simp [intOf];omega
  ·have SX:Hid (x=decide (0 < L.length)):=hJJ (by
    rw [HX.out,PY.out (fun i hi k hk=>HA.out i (by omega) k hk)];simp)
   have BW:Hid (Below w.heap.size w wr):=hJJ (B0.out.trans (HB.out.mono B0.out.size))
   go_wp2
   go_ret
   exact ⟨ret_bool (by rw [SX.out]),BW.out⟩
end RkB
namespace Lcl
open Zip
open Go.ChangeShapes Go.WideShapes Go.ChangeAt Go.RowKit
open Tab PlaceM PlanM OnS ChkM ChkI
open May (infoT)
theorem lclash_any (T:Tab) (h:Hd) (p q:Int) (w:World) (ht:IsTab w h T) (hp:0≤p∧p < 8) (hq:0≤q∧q < 8) :
  Calls Tryz.prog 19 #[.agg (T.cells h).toArray,.int .i64 p,.int .i64 q] w fun e w'=>e=.returned (.bool (SetM.has (cfAt T p) q || SetM.has (cfAt T q) p))∧Below w.heap.size w w':=by
 have A0:Hid (Below w.heap.size w (w.alloc (.cells (T.cells h).toArray 32))):=hJJ ((Below.refl _ _).alloc (Nat.le_refl _) _)
 have BX:=bxd_new ht
 obtain ⟨p,rfl⟩:=Int.eq_ofNat_of_zero_le hp.1
 obtain ⟨q,rfl⟩:=Int.eq_ofNat_of_zero_le hq.1
 have p8:p < 8:=by omega
 have q8:q < 8:=by omega
 have cp:=BX.cf p (by omega) (by omega)
 have cq:=BX.cf q (by omega) (by omega)
 rw [Int.toNat_natCast] at cp cq
 have RH1:=hJJ (RefS.rhas_any (cfAt T p) q)
 have RH2:=hJJ (RefS.rhas_any (cfAt T q) p)
 generalize cfAt T p=sp at *
 generalize cfAt T q=sq at *
 generalize T.cells h=c at *
 clear ht BX hp hq
 go_enter Tryz.func19,Tryz.ntmps19
 go_upto_region 1 with fail
 generalize w.alloc (.cells c.toArray 32)=u at cp cq A0 ⊢
 go_wp2_with fail
 refine (RH1.out _).mono ?_
 rintro e u1 ⟨rfl,rfl⟩
 cases h1:SetM.has sp q with
 | true =>
  go_wp2
  go_ret
  exact ⟨by simp [h1],A0.out⟩
 | false =>
  go_wp2_with fail
  refine (RH2.out _).mono ?_
  rintro e u2 ⟨rfl,rfl⟩
  go_wp2
  go_ret
  exact ⟨by simp [h1],A0.out⟩
end Lcl
namespace ChkE
open Zip
open Go.ChangeShapes Go.WideShapes Go.ChangeAt Go.RowKit
open Tab PlaceM PlanM OnS ChkM ChkA ChkH
open ChkB (laid2)
open Same (below_setRow)
open May (ret_bool infoT infoD infoR infoB)
theorem idx_hit {α:Type} {f:α→Bool} {l:List α} {q:Nat} {v:α} (hv:l[q]?=some v) (hb:f v=true) (hn:∀ (j:Nat) u,j < q→l[j]?=some u→f u=false):idx f l=some (q:Int):=by
 have h:l.findIdx? f=some q:=by
  rw [List.findIdx?_eq_some_iff_getElem]
  obtain ⟨h1,h2⟩:=List.getElem?_eq_some_iff.1 hv
  refine ⟨h1,by rw [h2];exact hb,fun j hj=>?_⟩
  have:=hn j _ hj (List.getElem?_eq_getElem (by omega))
  simp [this]
 unfold idx;rw [h];rfl
theorem idx_miss {α:Type} {f:α→Bool} {l:List α} (hn:∀ (j:Nat) u,l[j]?=some u→f u=false):idx f l=none:=by
 have h:l.findIdx? f=none:=by
  rw [List.findIdx?_eq_none_iff]
  intro x hx
  obtain ⟨j,hj,rfl⟩:=List.getElem_of_mem hx
  exact hn j _ (List.getElem?_eq_getElem hj)
 unfold idx;rw [h];rfl
theorem elem_D (T:Tab) (h:Hd) (code:Int) (bl bb bc:Nat) (bad:Det→Bool) (w:World) (ht:IsTab w h T) (hbl:w.cell? ⟨bl,0,none⟩=some (.func (.func 79) #[] #[])) (hbb:w.cell? ⟨bb,0,none⟩=some (.func (.func 80) #[] #[])) (hbc:w.cell? ⟨bc,0,none⟩=some (.int .i64 code))
  (hbad:∀ (v:Det) W,v ∈ T.dets→Below w.heap.size w W→Calls Tryz.prog 80 #[.agg (T.cells h).toArray,.agg v.cells.toArray] W fun e w'=>e=.returned (.bool (bad v))∧Below W.heap.size W w') :
  Calls Tryz.prog 113 #[.agg (T.cells h).toArray,.pointer (some ⟨bl,0,none⟩),.pointer (some ⟨bb,0,none⟩),.pointer (some ⟨bc,0,none⟩)] w fun e w'=>e=.returned (.agg (fltC code (idx bad T.dets)))∧Below w.heap.size w w':=by
 have hsz:=(cells_ok ht).size
 have IA:Hid ((Tryz.prog.info? 32).map (·.size)=some (T.cells h).length):=hJJ (by rw [List.size_toArray] at hsz;rw [hsz];exact infoT)
 have LS:Hid (∀ W,Below w.heap.size w W→Calls Tryz.prog 79 #[.agg (T.cells h).toArray] W fun e w'=>e=.returned (h.d.val T.dets.length)∧Below W.heap.size W w'):=hJJ (fun W hb=>listD_any T h W (ht.below hb))
 have LT0:=hJJ (Row.lies_new w (T.cells h).toArray 32)
 have HBAD:=hJJ hbad
 have HBL:=hJJ (show ∀ W,Below w.heap.size w W→W.cell? ⟨bl,0,none⟩=some (.func (.func 79) #[] #[]) from fun W hb=>(hb.cell (World.block_lt_of_cell? w _ hbl)).trans hbl)
 have HBB:=hJJ (show ∀ W,Below w.heap.size w W→W.cell? ⟨bb,0,none⟩=some (.func (.func 80) #[] #[]) from fun W hb=>(hb.cell (World.block_lt_of_cell? w _ hbb)).trans hbb)
 have HBC:=hJJ (show ∀ W,Below w.heap.size w W→W.cell? ⟨bc,0,none⟩=some (.int .i64 code) from fun W hb=>(hb.cell (World.block_lt_of_cell? w _ hbc)).trans hbc)
 have hs1:(w.alloc (.cells (T.cells h).toArray 32)).heap.size=w.heap.size+1:=by simp
 have en:=enters_of Tryz.func80 (by kernel_rfl) rfl
 have en2:=enters_of Tryz.func79 (by kernel_rfl) rfl
 have RW:=hJJ ht.dets
 have Kl:=ht.dets.len
 unfold maxLen at Kl
 obtain ⟨o,ho⟩:∃ o,o=idx bad T.dets:=⟨_,rfl⟩
 rw [← ho]
 have HO:=hJJ ho
 clear ht hbad hbl hbb hbc ho
 generalize hSl:h.d=sl at *
 obtain ⟨sa,scap⟩:=sl
 clear hSl
 generalize T.cells h=c at *
 generalize T.dets=l at *
 go_enter Tryz.func113,Tryz.ntmps113
 go_upto_region 1 with fail
 obtain ⟨W1,hW1,E1,E0,EB,bR⟩:=laid2 w (.cells c.toArray 32) (.cells #[.int .i64 0,.int .i64 0] 37)
 rw [hW1]
 have LT:=hJJ (LT0.out.below (by rw [hs1];exact EB))
 have B0:=hJJ E0
 have B2:Hid (W1.heap[w.heap.size+1]?=some (.cells #[.int .i64 0,.int .i64 0] 37 (0,0))):=hJJ bR
 clear hW1 EB hs1 hsz LT0 E0 bR E1
 have hbl:=HBL.out _ B0.out
 go_wp2_with (refine lgZ 32 ⟨w.heap.size,0,none⟩ c rfl LT.out Tryz.underlying32 IA.out ?_)
 (try go_wp2_with fail)
 refine (LS.out _ B0.out).mono ?_
 rintro e W3 ⟨rfl,hb⟩
 have HB3:=hJJ hb
 clear hb hbl
 rw [show (Sl.val ⟨sa,scap⟩ l.length)=.slice sa l.length scap from rfl]
 go_wp2_with fail
 go_loopw [12] (fun a wr=>∃ q:Nat,q≤l.length∧a=.int .i64 q∧(∀ j u,j < q→l[j]?=some u→bad u=false)∧Below W1.heap.size W1 wr) (fun a _=>l.length - (intOf a).toNat)
 case atStart=>exact ⟨0,by omega,rfl,(fun j u h=>by omega),HB3.out⟩
 case round =>
  obtain ⟨q,hq,rfl,hall,hB⟩:=hrel
  have HA:=hJJ hall
  have HB:=hJJ hB
  have BW:Hid (Below w.heap.size w wr):=hJJ (B0.out.trans (hB.mono B0.out.size))
  clear hall hB
  by_cases hlt:q < l.length
  ·have hv:=List.getElem?_eq_getElem hlt
   generalize hz:l[q]=v at hv
   have hmem:v ∈ l:=List.mem_of_getElem? hv
   obtain ⟨x,hx,hc⟩:=(RW.out.below BW.out).at hv
   obtain rfl:sa=some x:=hx
   have HC:=hJJ hc
   have HV:=hJJ hv
   have BD:=hJJ (fun W hb=>HBAD.out v W hmem hb)
   have hwr:=HB.out.size
   clear hv hz hmem hc
   have VO:=hJJ (Det.one v)
   obtain ⟨bv,hbv⟩:∃ z,bad v=z:=⟨_,rfl⟩
   have BDV:=BD
   have IV:Hid ((Tryz.prog.info? 45).map (·.size)=some v.cells.length):=hJJ infoD
   go_upto_region 4 with (first | (refine Row.wpList_load_g 45 _ rfl (by first | rfl | go_simp) (x.add (q*7)) rfl v.cells _ HC.out Tryz.underlying45 rfl IV.out ?_) | (refine Row.wpList_store_new rfl 45 _ _ rfl wr _ v.cells.toArray rfl rfl rfl infoD rfl VO.out ?_))
   have hbn:Below W1.heap.size W1 (wr.alloc (.cells v.cells.toArray 45)):=HB.out.alloc hwr _
   have hbo:Below wr.heap.size wr (wr.alloc (.cells v.cells.toArray 45)):=(Below.refl _ _).alloc (Nat.le_refl _) _
   have hg:=Row.lies_new wr v.cells.toArray 45
   have HL:Hid (Lies (wr.alloc (.cells v.cells.toArray 45)) ⟨wr.heap.size,0,none⟩ v.cells):=hJJ (by simpa using hg)
   have HN:=hJJ hbn
   have LTW:=hJJ ((LT.out.below HB.out).below hbo)
   clear hg hbn hbo HC VO
   generalize v.cells=vc at *
   generalize wr.alloc (.cells vc.toArray 45)=w4 at HL HN LTW ⊢
   generalize wr.heap.size=b4 at HL ⊢
   have BW4:Hid (Below w.heap.size w w4):=hJJ (B0.out.trans (HN.out.mono B0.out.size))
   have hbb:=HBB.out _ BW4.out
   go_wp2_with (first | (refine lgZ 32 ⟨w.heap.size,0,none⟩ c rfl LTW.out Tryz.underlying32 IA.out ?_) | (refine lgZ 45 ⟨b4,0,none⟩ vc rfl HL.out Tryz.underlying45 IV.out ?_))
   (try go_wp2_with fail)
   refine (BD.out _ BW4.out).mono ?_
   rintro e w5 ⟨rfl,hb⟩
   have HN5:=hJJ (HN.out.trans (hb.mono HN.out.size))
   have BW5:Hid (Below w.heap.size w w5):=hJJ (BW4.out.trans (hb.mono BW4.out.size))
   clear hb hbb HN LTW BW4
   rw [hbv]
   cases bv with
   | true =>
    have RO:Hid (o=some (q:Int)):=hJJ (by rw [HO.out];exact idx_hit HV.out hbv HA.out)
    have hbc:=HBC.out _ BW5.out
    have C2:Hid (w5.heap[w.heap.size+1]?=some (.cells #[.int .i64 0,.int .i64 0] 37 (0,0))):=hJJ ((HN5.out.block _ (Array.getElem?_eq_some_iff.1 B2.out).1).trans B2.out)
    clear hbv
    have HW:=hJJ (below_setRow BW5.out (g:=w.heap.size+1) (by omega) #[.int .i64 code,.int .i64 q])
    have HK:=hJJ (setRow_heap w5 (w.heap.size+1) _ #[.int .i64 code,.int .i64 q] _ _ C2.out)
    go_wp2_with (first | (refine wpList_store_row rfl 37 _ _ rfl (w.heap.size+1) #[.int .i64 code,.int .i64 q] rfl rfl 37 _ C2.out infoF rfl (by simp [Value.oneCell']) ?_))
    generalize w5.setRow (w.heap.size+1) #[.int .i64 code,.int .i64 q]=uz at HW HK ⊢
    (try go_wp2_with fail)
    (try simp only [Exit.inBlock,Exit.then])
    refine bodyPost_ret (v:=.agg #[.int .i64 code,.int .i64 q]) ?_ rfl ⟨by rw [RO.out];rfl,HW.out⟩
    exact results_cell_row rfl _ _ (w.heap.size+1) 37 _ (0,0) _ rfl HK.out Tryz.underlying37 rfl infoF
   | false =>
    have HF:=hJJ hbv
    clear hbv
    go_wp2
    go_roundw
    case rel=>exact ⟨q+1,by omega,by go_num,(fun j u hj hu=>by
     by_cases e:j=q
     ·subst e;obtain rfl:=Option.some.inj (hu.symm.trans HV.out);exact HF.out
     ·exact HA.out j u (by omega) hu),HN5.out⟩
    case measure=>simp [intOf];omega
  ·have RO:Hid (o=none):=hJJ (by rw [HO.out];exact idx_miss (fun j u hu=>HA.out j u (by have:=(List.getElem?_eq_some_iff.1 hu).1;omega) hu))
   have C2:Hid (wr.heap[w.heap.size+1]?=some (.cells #[.int .i64 0,.int .i64 0] 37 (0,0))):=hJJ ((HB.out.block _ (Array.getElem?_eq_some_iff.1 B2.out).1).trans B2.out)
   have HW:=hJJ (below_setRow BW.out (g:=w.heap.size+1) (by omega) #[.int .i64 0,.int .i64 0])
   have HK:=hJJ (setRow_heap wr (w.heap.size+1) _ #[.int .i64 0,.int .i64 0] _ _ C2.out)
   go_wp2_with (first | (refine wpList_store_row rfl 37 _ _ rfl (w.heap.size+1) #[.int .i64 0,.int .i64 0] rfl rfl 37 _ C2.out infoF rfl (by simp [Value.oneCell']) ?_))
   generalize wr.setRow (w.heap.size+1) #[.int .i64 0,.int .i64 0]=uz at HW HK ⊢
   (try go_wp2_with fail)
   (try simp only [Exit.inBlock,Exit.then])
   refine bodyPost_ret (v:=.agg #[.int .i64 0,.int .i64 0]) ?_ rfl ⟨by rw [RO.out];rfl,HW.out⟩
   exact results_cell_row rfl _ _ (w.heap.size+1) 37 _ (0,0) _ rfl HK.out Tryz.underlying37 rfl infoF
theorem elem_R (T:Tab) (h:Hd) (code:Int) (bl bb bc:Nat) (bad:Rl→Bool) (w:World) (ht:IsTab w h T) (hbl:w.cell? ⟨bl,0,none⟩=some (.func (.func 82) #[] #[])) (hbb:w.cell? ⟨bb,0,none⟩=some (.func (.func 83) #[] #[])) (hbc:w.cell? ⟨bc,0,none⟩=some (.int .i64 code))
  (hbad:∀ (v:Rl) W,v ∈ T.rails→Below w.heap.size w W→Calls Tryz.prog 83 #[.agg (T.cells h).toArray,.agg v.cells.toArray] W fun e w'=>e=.returned (.bool (bad v))∧Below W.heap.size W w') :
  Calls Tryz.prog 114 #[.agg (T.cells h).toArray,.pointer (some ⟨bl,0,none⟩),.pointer (some ⟨bb,0,none⟩),.pointer (some ⟨bc,0,none⟩)] w fun e w'=>e=.returned (.agg (fltC code (idx bad T.rails)))∧Below w.heap.size w w':=by
 have hsz:=(cells_ok ht).size
 have IA:Hid ((Tryz.prog.info? 32).map (·.size)=some (T.cells h).length):=hJJ (by rw [List.size_toArray] at hsz;rw [hsz];exact infoT)
 have LS:Hid (∀ W,Below w.heap.size w W→Calls Tryz.prog 82 #[.agg (T.cells h).toArray] W fun e w'=>e=.returned (h.r.val T.rails.length)∧Below W.heap.size W w'):=hJJ (fun W hb=>listR_any T h W (ht.below hb))
 have LT0:=hJJ (Row.lies_new w (T.cells h).toArray 32)
 have HBAD:=hJJ hbad
 have HBL:=hJJ (show ∀ W,Below w.heap.size w W→W.cell? ⟨bl,0,none⟩=some (.func (.func 82) #[] #[]) from fun W hb=>(hb.cell (World.block_lt_of_cell? w _ hbl)).trans hbl)
 have HBB:=hJJ (show ∀ W,Below w.heap.size w W→W.cell? ⟨bb,0,none⟩=some (.func (.func 83) #[] #[]) from fun W hb=>(hb.cell (World.block_lt_of_cell? w _ hbb)).trans hbb)
 have HBC:=hJJ (show ∀ W,Below w.heap.size w W→W.cell? ⟨bc,0,none⟩=some (.int .i64 code) from fun W hb=>(hb.cell (World.block_lt_of_cell? w _ hbc)).trans hbc)
 have hs1:(w.alloc (.cells (T.cells h).toArray 32)).heap.size=w.heap.size+1:=by simp
 have en:=enters_of Tryz.func83 (by kernel_rfl) rfl
 have en2:=enters_of Tryz.func82 (by kernel_rfl) rfl
 have RW:=hJJ ht.rails
 have Kl:=ht.rails.len
 unfold maxLen at Kl
 obtain ⟨o,ho⟩:∃ o,o=idx bad T.rails:=⟨_,rfl⟩
 rw [← ho]
 have HO:=hJJ ho
 clear ht hbad hbl hbb hbc ho
 generalize hSl:h.r=sl at *
 obtain ⟨sa,scap⟩:=sl
 clear hSl
 generalize T.cells h=c at *
 generalize T.rails=l at *
 go_enter Tryz.func114,Tryz.ntmps114
 go_upto_region 1 with fail
 obtain ⟨W1,hW1,E1,E0,EB,bR⟩:=laid2 w (.cells c.toArray 32) (.cells #[.int .i64 0,.int .i64 0] 37)
 rw [hW1]
 have LT:=hJJ (LT0.out.below (by rw [hs1];exact EB))
 have B0:=hJJ E0
 have B2:Hid (W1.heap[w.heap.size+1]?=some (.cells #[.int .i64 0,.int .i64 0] 37 (0,0))):=hJJ bR
 clear hW1 EB hs1 hsz LT0 E0 bR E1
 have hbl:=HBL.out _ B0.out
 go_wp2_with (refine lgZ 32 ⟨w.heap.size,0,none⟩ c rfl LT.out Tryz.underlying32 IA.out ?_)
 (try go_wp2_with fail)
 refine (LS.out _ B0.out).mono ?_
 rintro e W3 ⟨rfl,hb⟩
 have HB3:=hJJ hb
 clear hb hbl
 rw [show (Sl.val ⟨sa,scap⟩ l.length)=.slice sa l.length scap from rfl]
 go_wp2_with fail
 go_loopw [12] (fun a wr=>∃ q:Nat,q≤l.length∧a=.int .i64 q∧(∀ j u,j < q→l[j]?=some u→bad u=false)∧Below W1.heap.size W1 wr) (fun a _=>l.length - (intOf a).toNat)
 case atStart=>exact ⟨0,by omega,rfl,(fun j u h=>by omega),HB3.out⟩
 case round =>
  obtain ⟨q,hq,rfl,hall,hB⟩:=hrel
  have HA:=hJJ hall
  have HB:=hJJ hB
  have BW:Hid (Below w.heap.size w wr):=hJJ (B0.out.trans (hB.mono B0.out.size))
  clear hall hB
  by_cases hlt:q < l.length
  ·have hv:=List.getElem?_eq_getElem hlt
   generalize hz:l[q]=v at hv
   have hmem:v ∈ l:=List.mem_of_getElem? hv
   obtain ⟨x,hx,hc⟩:=(RW.out.below BW.out).at hv
   obtain rfl:sa=some x:=hx
   have HC:=hJJ hc
   have HV:=hJJ hv
   have BD:=hJJ (fun W hb=>HBAD.out v W hmem hb)
   have hwr:=HB.out.size
   clear hv hz hmem hc
   have VO:=hJJ (Rl.one v)
   obtain ⟨bv,hbv⟩:∃ z,bad v=z:=⟨_,rfl⟩
   have BDV:=BD
   have IV:Hid ((Tryz.prog.info? 47).map (·.size)=some v.cells.length):=hJJ infoR
   go_upto_region 4 with (first | (refine Row.wpList_load_g 47 _ rfl (by first | rfl | go_simp) (x.add (q*11)) rfl v.cells _ HC.out Tryz.underlying47 rfl IV.out ?_) | (refine Row.wpList_store_new rfl 47 _ _ rfl wr _ v.cells.toArray rfl rfl rfl infoR rfl VO.out ?_))
   have hbn:Below W1.heap.size W1 (wr.alloc (.cells v.cells.toArray 47)):=HB.out.alloc hwr _
   have hbo:Below wr.heap.size wr (wr.alloc (.cells v.cells.toArray 47)):=(Below.refl _ _).alloc (Nat.le_refl _) _
   have hg:=Row.lies_new wr v.cells.toArray 47
   have HL:Hid (Lies (wr.alloc (.cells v.cells.toArray 47)) ⟨wr.heap.size,0,none⟩ v.cells):=hJJ (by simpa using hg)
   have HN:=hJJ hbn
   have LTW:=hJJ ((LT.out.below HB.out).below hbo)
   clear hg hbn hbo HC VO
   generalize v.cells=vc at *
   generalize wr.alloc (.cells vc.toArray 47)=w4 at HL HN LTW ⊢
   generalize wr.heap.size=b4 at HL ⊢
   have BW4:Hid (Below w.heap.size w w4):=hJJ (B0.out.trans (HN.out.mono B0.out.size))
   have hbb:=HBB.out _ BW4.out
   go_wp2_with (first | (refine lgZ 32 ⟨w.heap.size,0,none⟩ c rfl LTW.out Tryz.underlying32 IA.out ?_) | (refine lgZ 47 ⟨b4,0,none⟩ vc rfl HL.out Tryz.underlying47 IV.out ?_))
   (try go_wp2_with fail)
   refine (BD.out _ BW4.out).mono ?_
   rintro e w5 ⟨rfl,hb⟩
   have HN5:=hJJ (HN.out.trans (hb.mono HN.out.size))
   have BW5:Hid (Below w.heap.size w w5):=hJJ (BW4.out.trans (hb.mono BW4.out.size))
   clear hb hbb HN LTW BW4
   rw [hbv]
   cases bv with
   | true =>
    have RO:Hid (o=some (q:Int)):=hJJ (by rw [HO.out];exact idx_hit HV.out hbv HA.out)
    have hbc:=HBC.out _ BW5.out
    have C2:Hid (w5.heap[w.heap.size+1]?=some (.cells #[.int .i64 0,.int .i64 0] 37 (0,0))):=hJJ ((HN5.out.block _ (Array.getElem?_eq_some_iff.1 B2.out).1).trans B2.out)
    clear hbv
    have HW:=hJJ (below_setRow BW5.out (g:=w.heap.size+1) (by omega) #[.int .i64 code,.int .i64 q])
    have HK:=hJJ (setRow_heap w5 (w.heap.size+1) _ #[.int .i64 code,.int .i64 q] _ _ C2.out)
    go_wp2_with (first | (refine wpList_store_row rfl 37 _ _ rfl (w.heap.size+1) #[.int .i64 code,.int .i64 q] rfl rfl 37 _ C2.out infoF rfl (by simp [Value.oneCell']) ?_))
    generalize w5.setRow (w.heap.size+1) #[.int .i64 code,.int .i64 q]=uz at HW HK ⊢
    (try go_wp2_with fail)
    (try simp only [Exit.inBlock,Exit.then])
    refine bodyPost_ret (v:=.agg #[.int .i64 code,.int .i64 q]) ?_ rfl ⟨by rw [RO.out];rfl,HW.out⟩
    exact results_cell_row rfl _ _ (w.heap.size+1) 37 _ (0,0) _ rfl HK.out Tryz.underlying37 rfl infoF
   | false =>
    have HF:=hJJ hbv
    clear hbv
    go_wp2
    go_roundw
    case rel=>exact ⟨q+1,by omega,by go_num,(fun j u hj hu=>by
     by_cases e:j=q
     ·subst e;obtain rfl:=Option.some.inj (hu.symm.trans HV.out);exact HF.out
     ·exact HA.out j u (by omega) hu),HN5.out⟩
    case measure=>simp [intOf];omega
  ·have RO:Hid (o=none):=hJJ (by rw [HO.out];exact idx_miss (fun j u hu=>HA.out j u (by have:=(List.getElem?_eq_some_iff.1 hu).1;omega) hu))
   have C2:Hid (wr.heap[w.heap.size+1]?=some (.cells #[.int .i64 0,.int .i64 0] 37 (0,0))):=hJJ ((HB.out.block _ (Array.getElem?_eq_some_iff.1 B2.out).1).trans B2.out)
   have HW:=hJJ (below_setRow BW.out (g:=w.heap.size+1) (by omega) #[.int .i64 0,.int .i64 0])
   have HK:=hJJ (setRow_heap wr (w.heap.size+1) _ #[.int .i64 0,.int .i64 0] _ _ C2.out)
   go_wp2_with (first | (refine wpList_store_row rfl 37 _ _ rfl (w.heap.size+1) #[.int .i64 0,.int .i64 0] rfl rfl 37 _ C2.out infoF rfl (by simp [Value.oneCell']) ?_))
   generalize wr.setRow (w.heap.size+1) #[.int .i64 0,.int .i64 0]=uz at HW HK ⊢
   (try go_wp2_with fail)
   (try simp only [Exit.inBlock,Exit.then])
   refine bodyPost_ret (v:=.agg #[.int .i64 0,.int .i64 0]) ?_ rfl ⟨by rw [RO.out];rfl,HW.out⟩
   exact results_cell_row rfl _ _ (w.heap.size+1) 37 _ (0,0) _ rfl HK.out Tryz.underlying37 rfl infoF
theorem elem_B (T:Tab) (h:Hd) (code:Int) (bl bb bc:Nat) (bad:Bs→Bool) (w:World) (ht:IsTab w h T) (hbl:w.cell? ⟨bl,0,none⟩=some (.func (.func 85) #[] #[])) (hbb:w.cell? ⟨bb,0,none⟩=some (.func (.func 86) #[] #[])) (hbc:w.cell? ⟨bc,0,none⟩=some (.int .i64 code))
  (hbad:∀ (v:Bs) W,v ∈ T.buses→Below w.heap.size w W→Calls Tryz.prog 86 #[.agg (T.cells h).toArray,.agg v.cells.toArray] W fun e w'=>e=.returned (.bool (bad v))∧Below W.heap.size W w') :
  Calls Tryz.prog 119 #[.agg (T.cells h).toArray,.pointer (some ⟨bl,0,none⟩),.pointer (some ⟨bb,0,none⟩),.pointer (some ⟨bc,0,none⟩)] w fun e w'=>e=.returned (.agg (fltC code (idx bad T.buses)))∧Below w.heap.size w w':=by
 have hsz:=(cells_ok ht).size
 have IA:Hid ((Tryz.prog.info? 32).map (·.size)=some (T.cells h).length):=hJJ (by rw [List.size_toArray] at hsz;rw [hsz];exact infoT)
 have LS:Hid (∀ W,Below w.heap.size w W→Calls Tryz.prog 85 #[.agg (T.cells h).toArray] W fun e w'=>e=.returned (h.b.val T.buses.length)∧Below W.heap.size W w'):=hJJ (fun W hb=>listB_any T h W (ht.below hb))
 have LT0:=hJJ (Row.lies_new w (T.cells h).toArray 32)
 have HBAD:=hJJ hbad
 have HBL:=hJJ (show ∀ W,Below w.heap.size w W→W.cell? ⟨bl,0,none⟩=some (.func (.func 85) #[] #[]) from fun W hb=>(hb.cell (World.block_lt_of_cell? w _ hbl)).trans hbl)
 have HBB:=hJJ (show ∀ W,Below w.heap.size w W→W.cell? ⟨bb,0,none⟩=some (.func (.func 86) #[] #[]) from fun W hb=>(hb.cell (World.block_lt_of_cell? w _ hbb)).trans hbb)
 have HBC:=hJJ (show ∀ W,Below w.heap.size w W→W.cell? ⟨bc,0,none⟩=some (.int .i64 code) from fun W hb=>(hb.cell (World.block_lt_of_cell? w _ hbc)).trans hbc)
 have hs1:(w.alloc (.cells (T.cells h).toArray 32)).heap.size=w.heap.size+1:=by simp
 have en:=enters_of Tryz.func86 (by kernel_rfl) rfl
 have en2:=enters_of Tryz.func85 (by kernel_rfl) rfl
 have RW:=hJJ ht.buses
 have Kl:=ht.buses.len
 unfold maxLen at Kl
 obtain ⟨o,ho⟩:∃ o,o=idx bad T.buses:=⟨_,rfl⟩
 rw [← ho]
 have HO:=hJJ ho
 clear ht hbad hbl hbb hbc ho
 generalize hSl:h.b=sl at *
 obtain ⟨sa,scap⟩:=sl
 clear hSl
 generalize T.cells h=c at *
 generalize T.buses=l at *
 go_enter Tryz.func119,Tryz.ntmps119
 go_upto_region 1 with fail
 obtain ⟨W1,hW1,E1,E0,EB,bR⟩:=laid2 w (.cells c.toArray 32) (.cells #[.int .i64 0,.int .i64 0] 37)
 rw [hW1]
 have LT:=hJJ (LT0.out.below (by rw [hs1];exact EB))
 have B0:=hJJ E0
 have B2:Hid (W1.heap[w.heap.size+1]?=some (.cells #[.int .i64 0,.int .i64 0] 37 (0,0))):=hJJ bR
 clear hW1 EB hs1 hsz LT0 E0 bR E1
 have hbl:=HBL.out _ B0.out
 go_wp2_with (refine lgZ 32 ⟨w.heap.size,0,none⟩ c rfl LT.out Tryz.underlying32 IA.out ?_)
 (try go_wp2_with fail)
 refine (LS.out _ B0.out).mono ?_
 rintro e W3 ⟨rfl,hb⟩
 have HB3:=hJJ hb
 clear hb hbl
 rw [show (Sl.val ⟨sa,scap⟩ l.length)=.slice sa l.length scap from rfl]
 go_wp2_with fail
 go_loopw [12] (fun a wr=>∃ q:Nat,q≤l.length∧a=.int .i64 q∧(∀ j u,j < q→l[j]?=some u→bad u=false)∧Below W1.heap.size W1 wr) (fun a _=>l.length - (intOf a).toNat)
 case atStart=>exact ⟨0,by omega,rfl,(fun j u h=>by omega),HB3.out⟩
 case round =>
  obtain ⟨q,hq,rfl,hall,hB⟩:=hrel
  have HA:=hJJ hall
  have HB:=hJJ hB
  have BW:Hid (Below w.heap.size w wr):=hJJ (B0.out.trans (hB.mono B0.out.size))
  clear hall hB
  by_cases hlt:q < l.length
  ·have hv:=List.getElem?_eq_getElem hlt
   generalize hz:l[q]=v at hv
   have hmem:v ∈ l:=List.mem_of_getElem? hv
   obtain ⟨x,hx,hc⟩:=(RW.out.below BW.out).at hv
   obtain rfl:sa=some x:=hx
   have HC:=hJJ hc
   have HV:=hJJ hv
   have BD:=hJJ (fun W hb=>HBAD.out v W hmem hb)
   have hwr:=HB.out.size
   clear hv hz hmem hc
   have VO:=hJJ (Bs.one v)
   obtain ⟨bv,hbv⟩:∃ z,bad v=z:=⟨_,rfl⟩
   have BDV:=BD
   have IV:Hid ((Tryz.prog.info? 49).map (·.size)=some v.cells.length):=hJJ infoB
   go_upto_region 4 with (first | (refine Row.wpList_load_g 49 _ rfl (by first | rfl | go_simp) (x.add (q*2)) rfl v.cells _ HC.out Tryz.underlying49 rfl IV.out ?_) | (refine Row.wpList_store_new rfl 49 _ _ rfl wr _ v.cells.toArray rfl rfl rfl infoB rfl VO.out ?_))
   have hbn:Below W1.heap.size W1 (wr.alloc (.cells v.cells.toArray 49)):=HB.out.alloc hwr _
   have hbo:Below wr.heap.size wr (wr.alloc (.cells v.cells.toArray 49)):=(Below.refl _ _).alloc (Nat.le_refl _) _
   have hg:=Row.lies_new wr v.cells.toArray 49
   have HL:Hid (Lies (wr.alloc (.cells v.cells.toArray 49)) ⟨wr.heap.size,0,none⟩ v.cells):=hJJ (by simpa using hg)
   have HN:=hJJ hbn
   have LTW:=hJJ ((LT.out.below HB.out).below hbo)
   clear hg hbn hbo HC VO
   generalize v.cells=vc at *
   generalize wr.alloc (.cells vc.toArray 49)=w4 at HL HN LTW ⊢
   generalize wr.heap.size=b4 at HL ⊢
   have BW4:Hid (Below w.heap.size w w4):=hJJ (B0.out.trans (HN.out.mono B0.out.size))
   have hbb:=HBB.out _ BW4.out
   go_wp2_with (first | (refine lgZ 32 ⟨w.heap.size,0,none⟩ c rfl LTW.out Tryz.underlying32 IA.out ?_) | (refine lgZ 49 ⟨b4,0,none⟩ vc rfl HL.out Tryz.underlying49 IV.out ?_))
   (try go_wp2_with fail)
   refine (BD.out _ BW4.out).mono ?_
   rintro e w5 ⟨rfl,hb⟩
   have HN5:=hJJ (HN.out.trans (hb.mono HN.out.size))
   have BW5:Hid (Below w.heap.size w w5):=hJJ (BW4.out.trans (hb.mono BW4.out.size))
   clear hb hbb HN LTW BW4
   rw [hbv]
   cases bv with
   | true =>
    have RO:Hid (o=some (q:Int)):=hJJ (by rw [HO.out];exact idx_hit HV.out hbv HA.out)
    have hbc:=HBC.out _ BW5.out
    have C2:Hid (w5.heap[w.heap.size+1]?=some (.cells #[.int .i64 0,.int .i64 0] 37 (0,0))):=hJJ ((HN5.out.block _ (Array.getElem?_eq_some_iff.1 B2.out).1).trans B2.out)
    clear hbv
    have HW:=hJJ (below_setRow BW5.out (g:=w.heap.size+1) (by omega) #[.int .i64 code,.int .i64 q])
    have HK:=hJJ (setRow_heap w5 (w.heap.size+1) _ #[.int .i64 code,.int .i64 q] _ _ C2.out)
    go_wp2_with (first | (refine wpList_store_row rfl 37 _ _ rfl (w.heap.size+1) #[.int .i64 code,.int .i64 q] rfl rfl 37 _ C2.out infoF rfl (by simp [Value.oneCell']) ?_))
    generalize w5.setRow (w.heap.size+1) #[.int .i64 code,.int .i64 q]=uz at HW HK ⊢
    (try go_wp2_with fail)
    (try simp only [Exit.inBlock,Exit.then])
    refine bodyPost_ret (v:=.agg #[.int .i64 code,.int .i64 q]) ?_ rfl ⟨by rw [RO.out];rfl,HW.out⟩
    exact results_cell_row rfl _ _ (w.heap.size+1) 37 _ (0,0) _ rfl HK.out Tryz.underlying37 rfl infoF
   | false =>
    have HF:=hJJ hbv
    clear hbv
    go_wp2
    go_roundw
    case rel=>exact ⟨q+1,by omega,by go_num,(fun j u hj hu=>by
     by_cases e:j=q
     ·subst e;obtain rfl:=Option.some.inj (hu.symm.trans HV.out);exact HF.out
     ·exact HA.out j u (by omega) hu),HN5.out⟩
    case measure=>simp [intOf];omega
  ·have RO:Hid (o=none):=hJJ (by rw [HO.out];exact idx_miss (fun j u hu=>HA.out j u (by have:=(List.getElem?_eq_some_iff.1 hu).1;omega) hu))
   have C2:Hid (wr.heap[w.heap.size+1]?=some (.cells #[.int .i64 0,.int .i64 0] 37 (0,0))):=hJJ ((HB.out.block _ (Array.getElem?_eq_some_iff.1 B2.out).1).trans B2.out)
   have HW:=hJJ (below_setRow BW.out (g:=w.heap.size+1) (by omega) #[.int .i64 0,.int .i64 0])
   have HK:=hJJ (setRow_heap wr (w.heap.size+1) _ #[.int .i64 0,.int .i64 0] _ _ C2.out)
   go_wp2_with (first | (refine wpList_store_row rfl 37 _ _ rfl (w.heap.size+1) #[.int .i64 0,.int .i64 0] rfl rfl 37 _ C2.out infoF rfl (by simp [Value.oneCell']) ?_))
   generalize wr.setRow (w.heap.size+1) #[.int .i64 0,.int .i64 0]=uz at HW HK ⊢
   (try go_wp2_with fail)
   (try simp only [Exit.inBlock,Exit.then])
   refine bodyPost_ret (v:=.agg #[.int .i64 0,.int .i64 0]) ?_ rfl ⟨by rw [RO.out];rfl,HW.out⟩
   exact results_cell_row rfl _ _ (w.heap.size+1) 37 _ (0,0) _ rfl HK.out Tryz.underlying37 rfl infoF
end ChkE
namespace ChkP
open Zip
open Go.RowKit Go.Shelf
open Tab PlaceM PlanM OnS ChkM Each Search ChkI ChkH
open ChkB (laid2)
open May (infoT)
attribute [local go_sem] Oper.semAt_some
theorem phases_P (T:Tab) (h:Hd) (code:Int) (bb bc:Nat) (bad:Int→Bool) (w:World) (ht:IsTab w h T) (hbb:w.cell? ⟨bb,0,none⟩=some (.func (.func 75) #[] #[])) (hbc:w.cell? ⟨bc,0,none⟩=some (.int .i64 code))
  (hbad:∀ (k:Nat) W,k < 8→Below w.heap.size w W→Calls Tryz.prog 75 #[.agg (T.cells h).toArray,.int .i64 k] W fun e w'=>e=.returned (.bool (bad k))∧Below W.heap.size W w') :
  Calls Tryz.prog 109 #[.agg (T.cells h).toArray,.pointer (some ⟨bb,0,none⟩),.pointer (some ⟨bc,0,none⟩)] w fun e w'=>e=.returned (.agg (fltC code ((ons T).find? bad)))∧Below w.heap.size w w':=by
 have hsz:=(cells_ok ht).size
 have IA:Hid ((Tryz.prog.info? 32).map (·.size)=some (T.cells h).length):=hJJ (by rw [List.size_toArray] at hsz;rw [hsz];exact infoT)
 have ON:Hid (∀ W,Below w.heap.size w W→Calls Tryz.prog 96 #[.agg (T.cells h).toArray] W fun e w'=>e=.returned (.int .i64 (onS T:Nat))∧Below W.heap.size W w'):=hJJ (fun W hb=>PlanO.pon_any T h W (ht.below hb))
 have LT0:=hJJ (Row.lies_new w (T.cells h).toArray 32)
 have HBAD:=hJJ hbad
 have HBB:=hJJ (show ∀ W,Below w.heap.size w W→W.cell? ⟨bb,0,none⟩=some (.func (.func 75) #[] #[]) from fun W hb=>(hb.cell (World.block_lt_of_cell? w _ hbb)).trans hbb)
 have HBC:=hJJ (show ∀ W,Below w.heap.size w W→W.cell? ⟨bc,0,none⟩=some (.int .i64 code) from fun W hb=>(hb.cell (World.block_lt_of_cell? w _ hbc)).trans hbc)
 have hs1:(w.alloc (.cells (T.cells h).toArray 32)).heap.size=w.heap.size+1:=by simp
 have en:=enters_of Tryz.func75 (by kernel_rfl) rfl
 clear ht hbad hbb hbc
 generalize T.cells h=c at *
 refine (callsIn_wide (n:=3)).1 ?_
 refine callsIn_of_wp_marks Tryz.func109 rfl trivial ?_ rfl
 simp only [Tryz.ntmps109,List.size_toArray,List.length_cons,List.length_nil,Nat.reduceAdd,Nat.reduceSub,Array.replicate_succ,Array.replicate_zero,List.push_toArray,List.append_toArray,List.nil_append,List.cons_append]
 refine wpIn_wide.2 ?_
 go_upto_region 1 with fail
 obtain ⟨W1,hW1,E1,E0,EB,bR⟩:=laid2 w (.cells c.toArray 32) (.cells #[.int .i64 0,.int .i64 0] 37)
 rw [hW1]
 have LT:=hJJ (LT0.out.below (by rw [hs1];exact EB))
 have B0:=hJJ E0
 clear hW1 EB hs1 hsz LT0 E0
 go_wp2_with (refine lgZ 32 ⟨w.heap.size,0,none⟩ c rfl LT.out Tryz.underlying32 IA.out ?_)
 refine (ON.out _ B0.out).mono ?_
 rintro e W3 ⟨rfl,hb⟩
 go_wp2_with fail
 refine (callsIn_wide.1 (Each.each_in 3 _ _)).mono ?_
 rintro e w' ⟨rfl,rfl⟩
 go_wp2_with fail
 have hb4:Below W1.heap.size W1 (W3.alloc (.cells #[.int .i64 (onS T:Nat)] 3)):=hb.alloc hb.size _
 have bE:Boxed (W3.alloc (.cells #[.int .i64 (onS T:Nat)] 3)) W3.heap.size 3 (.int .i64 (onS T:Nat)):=Boxed.new _ _ _
 have hsz3:(W3.alloc (.cells #[.int .i64 (onS T:Nat)] 3)).heap.size=W3.heap.size+1:=by simp
 have hs3:=hb.size
 generalize W3.alloc (.cells #[.int .i64 (onS T:Nat)] 3)=W4 at hb4 bE hsz3 ⊢
 have bR4:W4.heap[w.heap.size+1]?=some (.cells #[.int .i64 0,.int .i64 0] 37 (0,0)):=(hb4.block _ (by omega)).trans bR
 have LT4:=hJJ (LT.out.below hb4)
 have C0:Hid (Below w.heap.size w W4):=hJJ (B0.out.trans (hb4.mono B0.out.size))
 have E4:w.heap.size+2 < W4.heap.size:=by omega
 clear hb hb4 bR LT B0 hs3
 generalize W3.heap.size=be at *
 refine (wpIn_wide (n:=3)).1 ?_
 refine search bad (fun x=>.cells #[.int .i64 code,.int .i64 x] 37 (0,0)) be (w.heap.size+1) (onS T:Nat) (by omega) rfl rfl (by omega) (by omega) bE.cell
  (fun x=>{ tmps:=#[.agg c.toArray,.pointer (some ⟨bb,0,none⟩),.pointer (some ⟨bc,0,none⟩),.pointer (some ⟨w.heap.size,0,none⟩),.pointer (some ⟨w.heap.size+1,0,none⟩),.int .i64 x,.agg c.toArray,.int .i64 (onS T:Nat),.func (.func 127) #[] #[.pointer (some ⟨be,0,none⟩)],.int .i64 x,undef,undef,undef,undef,undef,undef,undef,undef],defers:=[] }) ?assign ?body ?done ?stop
 case assign =>
  intro l x W K hK
  gi_wp2
  exact hK
 case body =>
  intro l x W hx hB
  have hx8:=SetM.list_bd _ x hx
  have LTW:=hJJ (LT4.out.below hB)
  have BW:Hid (Below w.heap.size w W):=hJJ (C0.out.trans (hB.mono C0.out.size))
  have hbb:=HBB.out _ BW.out
  have HVR:Hid (W.heap[w.heap.size+1]?=some (.cells #[.int .i64 0,.int .i64 0] 37 (0,0))):=hJJ ((hB.block _ (by omega)).trans bR4)
  obtain ⟨k,rfl⟩:=Int.eq_ofNat_of_zero_le hx8.1
  have hk8:k < 8:=by have:=hx8.2;omega
  have BD:=hJJ (HBAD.out k _ hk8 BW.out)
  clear hB hx hx8
  refine wpIn_block (wpIn_seq ?_)
  refine Up.region_list (fun ⟨_,_,h⟩=>h) (by kernel_rfl) ?_
  go_wp2_with (refine lgZ 32 ⟨w.heap.size,0,none⟩ c rfl LTW.out Tryz.underlying32 IA.out ?_)
  refine (BD.out).mono ?_
  rintro e W2 ⟨rfl,hb⟩
  have HW2:=hJJ hb
  have hbc:=HBC.out _ (BW.out.trans (hb.mono BW.out.size))
  have HV2:Hid (W2.heap[w.heap.size+1]?=some (.cells #[.int .i64 0,.int .i64 0] 37 (0,0))):=hJJ ((hb.block _ (Array.getElem?_eq_some_iff.1 HVR.out).1).trans HVR.out)
  clear hb hbb
  cases hbk:bad k with
  | false =>
   have HB:=hJJ hbk
   clear hbk
   go_wp2_with fail
   gi_wp2
   exact ⟨HB.out,HW2.out⟩
  | true =>
   have HB:=hJJ hbk
   clear hbk
   have HK:=hJJ (setRow_heap W2 (w.heap.size+1) _ #[.int .i64 code,.int .i64 k] _ _ HV2.out)
   have HG:Hid (W2.grownBy (W2.setRow (w.heap.size+1) #[.int .i64 code,.int .i64 k]) (some (w.heap.size+1))):=hJJ (setRow_grown W2 (w.heap.size+1) #[.int .i64 code,.int .i64 k] (Array.getElem?_eq_some_iff.1 HV2.out).1)
   go_wp2_with fail
   refine wpIn_cond_true rfl (wpIn_seq ?_)
   refine Up.region_list (fun ⟨_,_,h⟩=>h) (by kernel_rfl) ?_
   go_wp2_with (refine wpList_store_row rfl 37 _ _ rfl (w.heap.size+1) #[.int .i64 code,.int .i64 k] rfl rfl 37 _ HV2.out infoF rfl (by simp [Value.oneCell']) ?_)
   generalize W2.setRow (w.heap.size+1) #[.int .i64 code,.int .i64 k]=W5 at HK HG ⊢
   (try go_wp2_with fail)
   (try gi_wp2)
   exact ⟨HB.out,grown_trans (grown_of_below HW2.out) HG.out,HK.out⟩
 case done =>
  intro D W hD hall hB hK
  have B1:Hid (W.heap[w.heap.size+1]?=some (.cells #[.int .i64 0,.int .i64 0] 37 (0,0))):=hJJ ((hB.block _ (by omega)).trans bR4)
  have HR:Hid ((ons T).find? bad=none):=hJJ (List.find?_eq_none.2 (fun x hx=>by simp [hall x hx]))
  have HB:Hid (Below w.heap.size w W):=hJJ (C0.out.trans (hB.mono C0.out.size))
  have HW:=hJJ (Same.below_setRow HB.out (g:=w.heap.size+1) (by omega) #[.int .i64 0,.int .i64 0])
  have HC:=hJJ (setRow_heap W (w.heap.size+1) _ #[.int .i64 0,.int .i64 0] _ _ B1.out)
  have hg:=setRow_grown W (w.heap.size+1) #[.int .i64 0,.int .i64 0] (Array.getElem?_eq_some_iff.1 B1.out).1
  have HK':Hid ((W.setRow (w.heap.size+1) #[.int .i64 0,.int .i64 0]).heap[D]?=some (.deferred (some []))):=hJJ ((hg.block D (Array.getElem?_eq_some_iff.1 hK).1 (fun e=>by cases e;omega)).trans hK)
  clear hB hall hg hK
  go_wp2_with (refine wpList_store_row rfl 37 _ _ rfl (w.heap.size+1) #[.int .i64 0,.int .i64 0] rfl rfl 37 _ B1.out infoF rfl (by simp [Value.oneCell']) ?_)
  generalize W.setRow (w.heap.size+1) #[.int .i64 0,.int .i64 0]=W5 at HC HW HK' ⊢
  (try go_wp2_with fail)
  refine ⟨by simp,.inl ⟨_,_,rfl,run_takeDeferred HK'.out,?_⟩⟩
  have hp:(W5.putObj D (.deferred none)).heap[w.heap.size+1]?=some (.cells #[.int .i64 0,.int .i64 0] 37 (0,0)):=(World.putObj_heap_other (by omega)).trans HC.out
  refine ⟨.agg #[.int .i64 0,.int .i64 0],?_,by rw [HR.out];rfl,HW.out.trans (belowK_b (w:=w) (Nat.le_refl _) _ D _ _ (by omega) HK'.out rfl rfl)⟩
  exact results_cell_row rfl _ _ (w.heap.size+1) 37 _ (0,0) _ rfl hp Tryz.underlying37 rfl infoF
 case stop =>
  intro D x W hD hf hx hg hR hK
  have HR:Hid ((ons T).find? bad=some x):=hJJ hf
  have HC:=hJJ hR
  have HB:Hid (Below w.heap.size w W):=hJJ (C0.out.grown hg (by omega) (fun k e=>by cases e;omega))
  clear hf hx hg hR
  gi_wp2
  refine ⟨by simp,.inl ⟨_,_,rfl,run_takeDeferred hK,?_⟩⟩
  have hp:(W.putObj D (.deferred none)).heap[w.heap.size+1]?=some (.cells #[.int .i64 code,.int .i64 x] 37 (0,0)):=(World.putObj_heap_other (by omega)).trans HC.out
  refine ⟨.agg #[.int .i64 code,.int .i64 x],?_,by rw [HR.out];rfl,HB.out.trans (belowK_b (w:=w) (Nat.le_refl _) W D _ _ (by omega) hK rfl rfl)⟩
  exact results_cell_row rfl _ _ (w.heap.size+1) 37 _ (0,0) _ rfl hp Tryz.underlying37 rfl infoF
theorem phases_C (T:Tab) (h:Hd) (code:Int) (bb bc:Nat) (bad:Int→Bool) (w:World) (ht:IsTab w h T) (hbb:w.cell? ⟨bb,0,none⟩=some (.func (.func 77) #[] #[])) (hbc:w.cell? ⟨bc,0,none⟩=some (.int .i64 code))
  (hbad:∀ (k:Nat) W,k < 8→Below w.heap.size w W→Calls Tryz.prog 77 #[.agg (T.cells h).toArray,.int .i64 k] W fun e w'=>e=.returned (.bool (bad k))∧Below W.heap.size W w') :
  Calls Tryz.prog 109 #[.agg (T.cells h).toArray,.pointer (some ⟨bb,0,none⟩),.pointer (some ⟨bc,0,none⟩)] w fun e w'=>e=.returned (.agg (fltC code ((ons T).find? bad)))∧Below w.heap.size w w':=by
 have hsz:=(cells_ok ht).size
 have IA:Hid ((Tryz.prog.info? 32).map (·.size)=some (T.cells h).length):=hJJ (by rw [List.size_toArray] at hsz;rw [hsz];exact infoT)
 have ON:Hid (∀ W,Below w.heap.size w W→Calls Tryz.prog 96 #[.agg (T.cells h).toArray] W fun e w'=>e=.returned (.int .i64 (onS T:Nat))∧Below W.heap.size W w'):=hJJ (fun W hb=>PlanO.pon_any T h W (ht.below hb))
 have LT0:=hJJ (Row.lies_new w (T.cells h).toArray 32)
 have HBAD:=hJJ hbad
 have HBB:=hJJ (show ∀ W,Below w.heap.size w W→W.cell? ⟨bb,0,none⟩=some (.func (.func 77) #[] #[]) from fun W hb=>(hb.cell (World.block_lt_of_cell? w _ hbb)).trans hbb)
 have HBC:=hJJ (show ∀ W,Below w.heap.size w W→W.cell? ⟨bc,0,none⟩=some (.int .i64 code) from fun W hb=>(hb.cell (World.block_lt_of_cell? w _ hbc)).trans hbc)
 have hs1:(w.alloc (.cells (T.cells h).toArray 32)).heap.size=w.heap.size+1:=by simp
 have en:=enters_of Tryz.func77 (by kernel_rfl) rfl
 clear ht hbad hbb hbc
 generalize T.cells h=c at *
 refine (callsIn_wide (n:=3)).1 ?_
 refine callsIn_of_wp_marks Tryz.func109 rfl trivial ?_ rfl
 simp only [Tryz.ntmps109,List.size_toArray,List.length_cons,List.length_nil,Nat.reduceAdd,Nat.reduceSub,Array.replicate_succ,Array.replicate_zero,List.push_toArray,List.append_toArray,List.nil_append,List.cons_append]
 refine wpIn_wide.2 ?_
 go_upto_region 1 with fail
 obtain ⟨W1,hW1,E1,E0,EB,bR⟩:=laid2 w (.cells c.toArray 32) (.cells #[.int .i64 0,.int .i64 0] 37)
 rw [hW1]
 have LT:=hJJ (LT0.out.below (by rw [hs1];exact EB))
 have B0:=hJJ E0
 clear hW1 EB hs1 hsz LT0 E0
 go_wp2_with (refine lgZ 32 ⟨w.heap.size,0,none⟩ c rfl LT.out Tryz.underlying32 IA.out ?_)
 refine (ON.out _ B0.out).mono ?_
 rintro e W3 ⟨rfl,hb⟩
 go_wp2_with fail
 refine (callsIn_wide.1 (Each.each_in 3 _ _)).mono ?_
 rintro e w' ⟨rfl,rfl⟩
 go_wp2_with fail
 have hb4:Below W1.heap.size W1 (W3.alloc (.cells #[.int .i64 (onS T:Nat)] 3)):=hb.alloc hb.size _
 have bE:Boxed (W3.alloc (.cells #[.int .i64 (onS T:Nat)] 3)) W3.heap.size 3 (.int .i64 (onS T:Nat)):=Boxed.new _ _ _
 have hsz3:(W3.alloc (.cells #[.int .i64 (onS T:Nat)] 3)).heap.size=W3.heap.size+1:=by simp
 have hs3:=hb.size
 generalize W3.alloc (.cells #[.int .i64 (onS T:Nat)] 3)=W4 at hb4 bE hsz3 ⊢
 have bR4:W4.heap[w.heap.size+1]?=some (.cells #[.int .i64 0,.int .i64 0] 37 (0,0)):=(hb4.block _ (by omega)).trans bR
 have LT4:=hJJ (LT.out.below hb4)
 have C0:Hid (Below w.heap.size w W4):=hJJ (B0.out.trans (hb4.mono B0.out.size))
 have E4:w.heap.size+2 < W4.heap.size:=by omega
 clear hb hb4 bR LT B0 hs3
 generalize W3.heap.size=be at *
 refine (wpIn_wide (n:=3)).1 ?_
 refine search bad (fun x=>.cells #[.int .i64 code,.int .i64 x] 37 (0,0)) be (w.heap.size+1) (onS T:Nat) (by omega) rfl rfl (by omega) (by omega) bE.cell
  (fun x=>{ tmps:=#[.agg c.toArray,.pointer (some ⟨bb,0,none⟩),.pointer (some ⟨bc,0,none⟩),.pointer (some ⟨w.heap.size,0,none⟩),.pointer (some ⟨w.heap.size+1,0,none⟩),.int .i64 x,.agg c.toArray,.int .i64 (onS T:Nat),.func (.func 127) #[] #[.pointer (some ⟨be,0,none⟩)],.int .i64 x,undef,undef,undef,undef,undef,undef,undef,undef],defers:=[] }) ?assign ?body ?done ?stop
 case assign =>
  intro l x W K hK
  gi_wp2
  exact hK
 case body =>
  intro l x W hx hB
  have hx8:=SetM.list_bd _ x hx
  have LTW:=hJJ (LT4.out.below hB)
  have BW:Hid (Below w.heap.size w W):=hJJ (C0.out.trans (hB.mono C0.out.size))
  have hbb:=HBB.out _ BW.out
  have HVR:Hid (W.heap[w.heap.size+1]?=some (.cells #[.int .i64 0,.int .i64 0] 37 (0,0))):=hJJ ((hB.block _ (by omega)).trans bR4)
  obtain ⟨k,rfl⟩:=Int.eq_ofNat_of_zero_le hx8.1
  have hk8:k < 8:=by have:=hx8.2;omega
  have BD:=hJJ (HBAD.out k _ hk8 BW.out)
  clear hB hx hx8
  refine wpIn_block (wpIn_seq ?_)
  refine Up.region_list (fun ⟨_,_,h⟩=>h) (by kernel_rfl) ?_
  go_wp2_with (refine lgZ 32 ⟨w.heap.size,0,none⟩ c rfl LTW.out Tryz.underlying32 IA.out ?_)
  refine (BD.out).mono ?_
  rintro e W2 ⟨rfl,hb⟩
  have HW2:=hJJ hb
  have hbc:=HBC.out _ (BW.out.trans (hb.mono BW.out.size))
  have HV2:Hid (W2.heap[w.heap.size+1]?=some (.cells #[.int .i64 0,.int .i64 0] 37 (0,0))):=hJJ ((hb.block _ (Array.getElem?_eq_some_iff.1 HVR.out).1).trans HVR.out)
  clear hb hbb
  cases hbk:bad k with
  | false =>
   have HB:=hJJ hbk
   clear hbk
   go_wp2_with fail
   gi_wp2
   exact ⟨HB.out,HW2.out⟩
  | true =>
   have HB:=hJJ hbk
   clear hbk
   have HK:=hJJ (setRow_heap W2 (w.heap.size+1) _ #[.int .i64 code,.int .i64 k] _ _ HV2.out)
   have HG:Hid (W2.grownBy (W2.setRow (w.heap.size+1) #[.int .i64 code,.int .i64 k]) (some (w.heap.size+1))):=hJJ (setRow_grown W2 (w.heap.size+1) #[.int .i64 code,.int .i64 k] (Array.getElem?_eq_some_iff.1 HV2.out).1)
   go_wp2_with fail
   refine wpIn_cond_true rfl (wpIn_seq ?_)
   refine Up.region_list (fun ⟨_,_,h⟩=>h) (by kernel_rfl) ?_
   go_wp2_with (refine wpList_store_row rfl 37 _ _ rfl (w.heap.size+1) #[.int .i64 code,.int .i64 k] rfl rfl 37 _ HV2.out infoF rfl (by simp [Value.oneCell']) ?_)
   generalize W2.setRow (w.heap.size+1) #[.int .i64 code,.int .i64 k]=W5 at HK HG ⊢
   (try go_wp2_with fail)
   (try gi_wp2)
   exact ⟨HB.out,grown_trans (grown_of_below HW2.out) HG.out,HK.out⟩
 case done =>
  intro D W hD hall hB hK
  have B1:Hid (W.heap[w.heap.size+1]?=some (.cells #[.int .i64 0,.int .i64 0] 37 (0,0))):=hJJ ((hB.block _ (by omega)).trans bR4)
  have HR:Hid ((ons T).find? bad=none):=hJJ (List.find?_eq_none.2 (fun x hx=>by simp [hall x hx]))
  have HB:Hid (Below w.heap.size w W):=hJJ (C0.out.trans (hB.mono C0.out.size))
  have HW:=hJJ (Same.below_setRow HB.out (g:=w.heap.size+1) (by omega) #[.int .i64 0,.int .i64 0])
  have HC:=hJJ (setRow_heap W (w.heap.size+1) _ #[.int .i64 0,.int .i64 0] _ _ B1.out)
  have hg:=setRow_grown W (w.heap.size+1) #[.int .i64 0,.int .i64 0] (Array.getElem?_eq_some_iff.1 B1.out).1
  have HK':Hid ((W.setRow (w.heap.size+1) #[.int .i64 0,.int .i64 0]).heap[D]?=some (.deferred (some []))):=hJJ ((hg.block D (Array.getElem?_eq_some_iff.1 hK).1 (fun e=>by cases e;omega)).trans hK)
  clear hB hall hg hK
  go_wp2_with (refine wpList_store_row rfl 37 _ _ rfl (w.heap.size+1) #[.int .i64 0,.int .i64 0] rfl rfl 37 _ B1.out infoF rfl (by simp [Value.oneCell']) ?_)
  generalize W.setRow (w.heap.size+1) #[.int .i64 0,.int .i64 0]=W5 at HC HW HK' ⊢
  (try go_wp2_with fail)
  refine ⟨by simp,.inl ⟨_,_,rfl,run_takeDeferred HK'.out,?_⟩⟩
  have hp:(W5.putObj D (.deferred none)).heap[w.heap.size+1]?=some (.cells #[.int .i64 0,.int .i64 0] 37 (0,0)):=(World.putObj_heap_other (by omega)).trans HC.out
  refine ⟨.agg #[.int .i64 0,.int .i64 0],?_,by rw [HR.out];rfl,HW.out.trans (belowK_b (w:=w) (Nat.le_refl _) _ D _ _ (by omega) HK'.out rfl rfl)⟩
  exact results_cell_row rfl _ _ (w.heap.size+1) 37 _ (0,0) _ rfl hp Tryz.underlying37 rfl infoF
 case stop =>
  intro D x W hD hf hx hg hR hK
  have HR:Hid ((ons T).find? bad=some x):=hJJ hf
  have HC:=hJJ hR
  have HB:Hid (Below w.heap.size w W):=hJJ (C0.out.grown hg (by omega) (fun k e=>by cases e;omega))
  clear hf hx hg hR
  gi_wp2
  refine ⟨by simp,.inl ⟨_,_,rfl,run_takeDeferred hK,?_⟩⟩
  have hp:(W.putObj D (.deferred none)).heap[w.heap.size+1]?=some (.cells #[.int .i64 code,.int .i64 x] 37 (0,0)):=(World.putObj_heap_other (by omega)).trans HC.out
  refine ⟨.agg #[.int .i64 code,.int .i64 x],?_,by rw [HR.out];rfl,HB.out.trans (belowK_b (w:=w) (Nat.le_refl _) W D _ _ (by omega) hK rfl rfl)⟩
  exact results_cell_row rfl _ _ (w.heap.size+1) 37 _ (0,0) _ rfl hp Tryz.underlying37 rfl infoF
theorem phases_F (T:Tab) (h:Hd) (code:Int) (bb bc:Nat) (bad:Int→Bool) (w:World) (ht:IsTab w h T) (hbb:w.cell? ⟨bb,0,none⟩=some (.func (.func 87) #[] #[])) (hbc:w.cell? ⟨bc,0,none⟩=some (.int .i64 code))
  (hbad:∀ (k:Nat) W,k < 8→Below w.heap.size w W→Calls Tryz.prog 87 #[.agg (T.cells h).toArray,.int .i64 k] W fun e w'=>e=.returned (.bool (bad k))∧Below W.heap.size W w') :
  Calls Tryz.prog 109 #[.agg (T.cells h).toArray,.pointer (some ⟨bb,0,none⟩),.pointer (some ⟨bc,0,none⟩)] w fun e w'=>e=.returned (.agg (fltC code ((ons T).find? bad)))∧Below w.heap.size w w':=by
 have hsz:=(cells_ok ht).size
 have IA:Hid ((Tryz.prog.info? 32).map (·.size)=some (T.cells h).length):=hJJ (by rw [List.size_toArray] at hsz;rw [hsz];exact infoT)
 have ON:Hid (∀ W,Below w.heap.size w W→Calls Tryz.prog 96 #[.agg (T.cells h).toArray] W fun e w'=>e=.returned (.int .i64 (onS T:Nat))∧Below W.heap.size W w'):=hJJ (fun W hb=>PlanO.pon_any T h W (ht.below hb))
 have LT0:=hJJ (Row.lies_new w (T.cells h).toArray 32)
 have HBAD:=hJJ hbad
 have HBB:=hJJ (show ∀ W,Below w.heap.size w W→W.cell? ⟨bb,0,none⟩=some (.func (.func 87) #[] #[]) from fun W hb=>(hb.cell (World.block_lt_of_cell? w _ hbb)).trans hbb)
 have HBC:=hJJ (show ∀ W,Below w.heap.size w W→W.cell? ⟨bc,0,none⟩=some (.int .i64 code) from fun W hb=>(hb.cell (World.block_lt_of_cell? w _ hbc)).trans hbc)
 have hs1:(w.alloc (.cells (T.cells h).toArray 32)).heap.size=w.heap.size+1:=by simp
 have en:=enters_of Tryz.func87 (by kernel_rfl) rfl
 clear ht hbad hbb hbc
 generalize T.cells h=c at *
 refine (callsIn_wide (n:=3)).1 ?_
 refine callsIn_of_wp_marks Tryz.func109 rfl trivial ?_ rfl
 simp only [Tryz.ntmps109,List.size_toArray,List.length_cons,List.length_nil,Nat.reduceAdd,Nat.reduceSub,Array.replicate_succ,Array.replicate_zero,List.push_toArray,List.append_toArray,List.nil_append,List.cons_append]
 refine wpIn_wide.2 ?_
 go_upto_region 1 with fail
 obtain ⟨W1,hW1,E1,E0,EB,bR⟩:=laid2 w (.cells c.toArray 32) (.cells #[.int .i64 0,.int .i64 0] 37)
 rw [hW1]
 have LT:=hJJ (LT0.out.below (by rw [hs1];exact EB))
 have B0:=hJJ E0
 clear hW1 EB hs1 hsz LT0 E0
 go_wp2_with (refine lgZ 32 ⟨w.heap.size,0,none⟩ c rfl LT.out Tryz.underlying32 IA.out ?_)
 refine (ON.out _ B0.out).mono ?_
 rintro e W3 ⟨rfl,hb⟩
 go_wp2_with fail
 refine (callsIn_wide.1 (Each.each_in 3 _ _)).mono ?_
 rintro e w' ⟨rfl,rfl⟩
 go_wp2_with fail
 have hb4:Below W1.heap.size W1 (W3.alloc (.cells #[.int .i64 (onS T:Nat)] 3)):=hb.alloc hb.size _
 have bE:Boxed (W3.alloc (.cells #[.int .i64 (onS T:Nat)] 3)) W3.heap.size 3 (.int .i64 (onS T:Nat)):=Boxed.new _ _ _
 have hsz3:(W3.alloc (.cells #[.int .i64 (onS T:Nat)] 3)).heap.size=W3.heap.size+1:=by simp
 have hs3:=hb.size
 generalize W3.alloc (.cells #[.int .i64 (onS T:Nat)] 3)=W4 at hb4 bE hsz3 ⊢
 have bR4:W4.heap[w.heap.size+1]?=some (.cells #[.int .i64 0,.int .i64 0] 37 (0,0)):=(hb4.block _ (by omega)).trans bR
 have LT4:=hJJ (LT.out.below hb4)
 have C0:Hid (Below w.heap.size w W4):=hJJ (B0.out.trans (hb4.mono B0.out.size))
 have E4:w.heap.size+2 < W4.heap.size:=by omega
 clear hb hb4 bR LT B0 hs3
 generalize W3.heap.size=be at *
 refine (wpIn_wide (n:=3)).1 ?_
 refine search bad (fun x=>.cells #[.int .i64 code,.int .i64 x] 37 (0,0)) be (w.heap.size+1) (onS T:Nat) (by omega) rfl rfl (by omega) (by omega) bE.cell
  (fun x=>{ tmps:=#[.agg c.toArray,.pointer (some ⟨bb,0,none⟩),.pointer (some ⟨bc,0,none⟩),.pointer (some ⟨w.heap.size,0,none⟩),.pointer (some ⟨w.heap.size+1,0,none⟩),.int .i64 x,.agg c.toArray,.int .i64 (onS T:Nat),.func (.func 127) #[] #[.pointer (some ⟨be,0,none⟩)],.int .i64 x,undef,undef,undef,undef,undef,undef,undef,undef],defers:=[] }) ?assign ?body ?done ?stop
 case assign =>
  intro l x W K hK
  gi_wp2
  exact hK
 case body =>
  intro l x W hx hB
  have hx8:=SetM.list_bd _ x hx
  have LTW:=hJJ (LT4.out.below hB)
  have BW:Hid (Below w.heap.size w W):=hJJ (C0.out.trans (hB.mono C0.out.size))
  have hbb:=HBB.out _ BW.out
  have HVR:Hid (W.heap[w.heap.size+1]?=some (.cells #[.int .i64 0,.int .i64 0] 37 (0,0))):=hJJ ((hB.block _ (by omega)).trans bR4)
  obtain ⟨k,rfl⟩:=Int.eq_ofNat_of_zero_le hx8.1
  have hk8:k < 8:=by have:=hx8.2;omega
  have BD:=hJJ (HBAD.out k _ hk8 BW.out)
  clear hB hx hx8
  refine wpIn_block (wpIn_seq ?_)
  refine Up.region_list (fun ⟨_,_,h⟩=>h) (by kernel_rfl) ?_
  go_wp2_with (refine lgZ 32 ⟨w.heap.size,0,none⟩ c rfl LTW.out Tryz.underlying32 IA.out ?_)
  refine (BD.out).mono ?_
  rintro e W2 ⟨rfl,hb⟩
  have HW2:=hJJ hb
  have hbc:=HBC.out _ (BW.out.trans (hb.mono BW.out.size))
  have HV2:Hid (W2.heap[w.heap.size+1]?=some (.cells #[.int .i64 0,.int .i64 0] 37 (0,0))):=hJJ ((hb.block _ (Array.getElem?_eq_some_iff.1 HVR.out).1).trans HVR.out)
  clear hb hbb
  cases hbk:bad k with
  | false =>
   have HB:=hJJ hbk
   clear hbk
   go_wp2_with fail
   gi_wp2
   exact ⟨HB.out,HW2.out⟩
  | true =>
   have HB:=hJJ hbk
   clear hbk
   have HK:=hJJ (setRow_heap W2 (w.heap.size+1) _ #[.int .i64 code,.int .i64 k] _ _ HV2.out)
   have HG:Hid (W2.grownBy (W2.setRow (w.heap.size+1) #[.int .i64 code,.int .i64 k]) (some (w.heap.size+1))):=hJJ (setRow_grown W2 (w.heap.size+1) #[.int .i64 code,.int .i64 k] (Array.getElem?_eq_some_iff.1 HV2.out).1)
   go_wp2_with fail
   refine wpIn_cond_true rfl (wpIn_seq ?_)
   refine Up.region_list (fun ⟨_,_,h⟩=>h) (by kernel_rfl) ?_
   go_wp2_with (refine wpList_store_row rfl 37 _ _ rfl (w.heap.size+1) #[.int .i64 code,.int .i64 k] rfl rfl 37 _ HV2.out infoF rfl (by simp [Value.oneCell']) ?_)
   generalize W2.setRow (w.heap.size+1) #[.int .i64 code,.int .i64 k]=W5 at HK HG ⊢
   (try go_wp2_with fail)
   (try gi_wp2)
   exact ⟨HB.out,grown_trans (grown_of_below HW2.out) HG.out,HK.out⟩
 case done =>
  intro D W hD hall hB hK
  have B1:Hid (W.heap[w.heap.size+1]?=some (.cells #[.int .i64 0,.int .i64 0] 37 (0,0))):=hJJ ((hB.block _ (by omega)).trans bR4)
  have HR:Hid ((ons T).find? bad=none):=hJJ (List.find?_eq_none.2 (fun x hx=>by simp [hall x hx]))
  have HB:Hid (Below w.heap.size w W):=hJJ (C0.out.trans (hB.mono C0.out.size))
  have HW:=hJJ (Same.below_setRow HB.out (g:=w.heap.size+1) (by omega) #[.int .i64 0,.int .i64 0])
  have HC:=hJJ (setRow_heap W (w.heap.size+1) _ #[.int .i64 0,.int .i64 0] _ _ B1.out)
  have hg:=setRow_grown W (w.heap.size+1) #[.int .i64 0,.int .i64 0] (Array.getElem?_eq_some_iff.1 B1.out).1
  have HK':Hid ((W.setRow (w.heap.size+1) #[.int .i64 0,.int .i64 0]).heap[D]?=some (.deferred (some []))):=hJJ ((hg.block D (Array.getElem?_eq_some_iff.1 hK).1 (fun e=>by cases e;omega)).trans hK)
  clear hB hall hg hK
  go_wp2_with (refine wpList_store_row rfl 37 _ _ rfl (w.heap.size+1) #[.int .i64 0,.int .i64 0] rfl rfl 37 _ B1.out infoF rfl (by simp [Value.oneCell']) ?_)
  generalize W.setRow (w.heap.size+1) #[.int .i64 0,.int .i64 0]=W5 at HC HW HK' ⊢
  (try go_wp2_with fail)
  refine ⟨by simp,.inl ⟨_,_,rfl,run_takeDeferred HK'.out,?_⟩⟩
  have hp:(W5.putObj D (.deferred none)).heap[w.heap.size+1]?=some (.cells #[.int .i64 0,.int .i64 0] 37 (0,0)):=(World.putObj_heap_other (by omega)).trans HC.out
  refine ⟨.agg #[.int .i64 0,.int .i64 0],?_,by rw [HR.out];rfl,HW.out.trans (belowK_b (w:=w) (Nat.le_refl _) _ D _ _ (by omega) HK'.out rfl rfl)⟩
  exact results_cell_row rfl _ _ (w.heap.size+1) 37 _ (0,0) _ rfl hp Tryz.underlying37 rfl infoF
 case stop =>
  intro D x W hD hf hx hg hR hK
  have HR:Hid ((ons T).find? bad=some x):=hJJ hf
  have HC:=hJJ hR
  have HB:Hid (Below w.heap.size w W):=hJJ (C0.out.grown hg (by omega) (fun k e=>by cases e;omega))
  clear hf hx hg hR
  gi_wp2
  refine ⟨by simp,.inl ⟨_,_,rfl,run_takeDeferred hK,?_⟩⟩
  have hp:(W.putObj D (.deferred none)).heap[w.heap.size+1]?=some (.cells #[.int .i64 code,.int .i64 x] 37 (0,0)):=(World.putObj_heap_other (by omega)).trans HC.out
  refine ⟨.agg #[.int .i64 code,.int .i64 x],?_,by rw [HR.out];rfl,HB.out.trans (belowK_b (w:=w) (Nat.le_refl _) W D _ _ (by omega) hK rfl rfl)⟩
  exact results_cell_row rfl _ _ (w.heap.size+1) 37 _ (0,0) _ rfl hp Tryz.underlying37 rfl infoF
end ChkP
namespace ChkQ
open Zip
open Go.ChangeShapes Go.WideShapes Go.ChangeAt Go.RowKit
open Tab ChkM ChkH
open ChkB (laid2)
open Each (Kept)
theorem mkphases_P (code:Int) (w:World):Calls Tryz.prog 74 #[.int .i64 code,.func (.func 75) #[] #[]] w fun e w' =>
  e=.returned (.func (.func 109) #[] #[.pointer (some ⟨w.heap.size+1,0,none⟩),.pointer (some ⟨w.heap.size,0,none⟩)])∧w'=(w.alloc (.cells #[.int .i64 code] 35)).alloc (.cells #[.func (.func 75) #[] #[]] 86):=by
 go_enter Tryz.func74,Tryz.ntmps74
 go_wp2
 go_ret
 exact ⟨rfl,rfl⟩
theorem mkphases_C (code:Int) (w:World):Calls Tryz.prog 74 #[.int .i64 code,.func (.func 77) #[] #[]] w fun e w' =>
  e=.returned (.func (.func 109) #[] #[.pointer (some ⟨w.heap.size+1,0,none⟩),.pointer (some ⟨w.heap.size,0,none⟩)])∧w'=(w.alloc (.cells #[.int .i64 code] 35)).alloc (.cells #[.func (.func 77) #[] #[]] 86):=by
 go_enter Tryz.func74,Tryz.ntmps74
 go_wp2
 go_ret
 exact ⟨rfl,rfl⟩
theorem mkphases_F (code:Int) (w:World):Calls Tryz.prog 74 #[.int .i64 code,.func (.func 87) #[] #[]] w fun e w' =>
  e=.returned (.func (.func 109) #[] #[.pointer (some ⟨w.heap.size+1,0,none⟩),.pointer (some ⟨w.heap.size,0,none⟩)])∧w'=(w.alloc (.cells #[.int .i64 code] 35)).alloc (.cells #[.func (.func 87) #[] #[]] 86):=by
 go_enter Tryz.func74,Tryz.ntmps74
 go_wp2
 go_ret
 exact ⟨rfl,rfl⟩
theorem mkelem_D (code:Int) (w:World):Calls Tryz.prog 78 #[.int .i64 code,.func (.func 79) #[] #[],.func (.func 80) #[] #[]] w fun e w' =>
  e=.returned (.func (.func 113) #[] #[.pointer (some ⟨w.heap.size+1,0,none⟩),.pointer (some ⟨w.heap.size+1+1,0,none⟩),.pointer (some ⟨w.heap.size,0,none⟩)])∧w'=((w.alloc (.cells #[.int .i64 code] 35)).alloc (.cells #[.func (.func 79) #[] #[]] 102)).alloc (.cells #[.func (.func 80) #[] #[]] 103):=by
 go_enter Tryz.func78,Tryz.ntmps78
 go_wp2
 go_ret
 exact ⟨rfl,rfl⟩
theorem mkelem_R (code:Int) (w:World):Calls Tryz.prog 81 #[.int .i64 code,.func (.func 82) #[] #[],.func (.func 83) #[] #[]] w fun e w' =>
  e=.returned (.func (.func 114) #[] #[.pointer (some ⟨w.heap.size+1,0,none⟩),.pointer (some ⟨w.heap.size+1+1,0,none⟩),.pointer (some ⟨w.heap.size,0,none⟩)])∧w'=((w.alloc (.cells #[.int .i64 code] 35)).alloc (.cells #[.func (.func 82) #[] #[]] 105)).alloc (.cells #[.func (.func 83) #[] #[]] 106):=by
 go_enter Tryz.func81,Tryz.ntmps81
 go_wp2
 go_ret
 exact ⟨rfl,rfl⟩
theorem mkelem_B (code:Int) (w:World):Calls Tryz.prog 84 #[.int .i64 code,.func (.func 85) #[] #[],.func (.func 86) #[] #[]] w fun e w' =>
  e=.returned (.func (.func 119) #[] #[.pointer (some ⟨w.heap.size+1,0,none⟩),.pointer (some ⟨w.heap.size+1+1,0,none⟩),.pointer (some ⟨w.heap.size,0,none⟩)])∧w'=((w.alloc (.cells #[.int .i64 code] 35)).alloc (.cells #[.func (.func 85) #[] #[]] 108)).alloc (.cells #[.func (.func 86) #[] #[]] 109):=by
 go_enter Tryz.func84,Tryz.ntmps84
 go_wp2
 go_ret
 exact ⟨rfl,rfl⟩
def fns (n:Nat):Array Value:=#[.func (.func 73) #[] #[],.func (.func 109) #[] #[.pointer (some ⟨n+1+1,0,none⟩),.pointer (some ⟨n+1,0,none⟩)],.func (.func 76) #[] #[],.func (.func 109) #[] #[.pointer (some ⟨n+3+1,0,none⟩),.pointer (some ⟨n+3,0,none⟩)],.func (.func 113) #[] #[.pointer (some ⟨n+5+1,0,none⟩),.pointer (some ⟨n+5+1+1,0,none⟩),.pointer (some ⟨n+5,0,none⟩)],.func (.func 114) #[] #[.pointer (some ⟨n+8+1,0,none⟩),.pointer (some ⟨n+8+1+1,0,none⟩),.pointer (some ⟨n+8,0,none⟩)],.func (.func 119) #[] #[.pointer (some ⟨n+11+1,0,none⟩),.pointer (some ⟨n+11+1+1,0,none⟩),.pointer (some ⟨n+11,0,none⟩)],.func (.func 109) #[] #[.pointer (some ⟨n+14+1,0,none⟩),.pointer (some ⟨n+14,0,none⟩)]]
structure Lie (n:Nat) (W:World):Prop where
 c1:W.cell? ⟨n+1,0,none⟩=some (.int .i64 7)
 c2:W.cell? ⟨n+2,0,none⟩=some (.func (.func 75) #[] #[])
 c3:W.cell? ⟨n+3,0,none⟩=some (.int .i64 9)
 c4:W.cell? ⟨n+4,0,none⟩=some (.func (.func 77) #[] #[])
 c5:W.cell? ⟨n+5,0,none⟩=some (.int .i64 10)
 c6:W.cell? ⟨n+6,0,none⟩=some (.func (.func 79) #[] #[])
 c7:W.cell? ⟨n+7,0,none⟩=some (.func (.func 80) #[] #[])
 c8:W.cell? ⟨n+8,0,none⟩=some (.int .i64 11)
 c9:W.cell? ⟨n+9,0,none⟩=some (.func (.func 82) #[] #[])
 c10:W.cell? ⟨n+10,0,none⟩=some (.func (.func 83) #[] #[])
 c11:W.cell? ⟨n+11,0,none⟩=some (.int .i64 12)
 c12:W.cell? ⟨n+12,0,none⟩=some (.func (.func 85) #[] #[])
 c13:W.cell? ⟨n+13,0,none⟩=some (.func (.func 86) #[] #[])
 c14:W.cell? ⟨n+14,0,none⟩=some (.int .i64 13)
 c15:W.cell? ⟨n+15,0,none⟩=some (.func (.func 87) #[] #[])
theorem Lie.below {n:Nat} {W W':World} (h:Lie n W) (hb:Below W.heap.size W W'):Lie n W' :=
 ⟨(hb.cell (World.block_lt_of_cell? W _ h.c1)).trans h.c1,(hb.cell (World.block_lt_of_cell? W _ h.c2)).trans h.c2,(hb.cell (World.block_lt_of_cell? W _ h.c3)).trans h.c3,(hb.cell (World.block_lt_of_cell? W _ h.c4)).trans h.c4,(hb.cell (World.block_lt_of_cell? W _ h.c5)).trans h.c5,(hb.cell (World.block_lt_of_cell? W _ h.c6)).trans h.c6,(hb.cell (World.block_lt_of_cell? W _ h.c7)).trans h.c7,(hb.cell (World.block_lt_of_cell? W _ h.c8)).trans h.c8,(hb.cell (World.block_lt_of_cell? W _ h.c9)).trans h.c9,(hb.cell (World.block_lt_of_cell? W _ h.c10)).trans h.c10,(hb.cell (World.block_lt_of_cell? W _ h.c11)).trans h.c11,(hb.cell (World.block_lt_of_cell? W _ h.c12)).trans h.c12,(hb.cell (World.block_lt_of_cell? W _ h.c13)).trans h.c13,(hb.cell (World.block_lt_of_cell? W _ h.c14)).trans h.c14,(hb.cell (World.block_lt_of_cell? W _ h.c15)).trans h.c15⟩
theorem new_size {w W:World} {o:Obj} (h:w.alloc o=W):W.heap.size=w.heap.size+1:=by rw [← h];simp
theorem new_cell {w W:World} {v:Value} {t:TypeId} (h:w.alloc (.cells #[v] t)=W) {k:Nat} (hk:w.heap.size=k):W.cell? ⟨k,0,none⟩=some v:=by
 subst hk;rw [← h];exact Boxed.cell (Boxed.new w t v)
theorem new_old {w W:World} {o:Obj} (h:w.alloc o=W) {a:Addr} {v:Value} (hc:w.cell? a=some v):W.cell? a=some v:=by
 rw [← h];exact (((Below.refl w.heap.size w).alloc (Nat.le_refl _) o).cell (World.block_lt_of_cell? w _ hc)).trans hc
theorem new_below {w W:World} {o:Obj} (h:w.alloc o=W) {v:World} {b:Nat} (hb:Below b v w) (hs:b≤w.heap.size):Below b v W:=by rw [← h];exact hb.alloc hs o
theorem new_heap {w W:World} {o:Obj} (h:w.alloc o=W) {k:Nat} {x:Obj} (hx:w.heap[k]?=some x):W.heap[k]?=some x:=by
 rw [← h];exact (Below.heap_alloc w o k (Array.getElem?_eq_some_iff.1 hx).1).trans hx
theorem infoA:(Tryz.prog.info? 80).map (·.size)=some 8:=by kernel_rfl
theorem rules_any (w:World):Calls Tryz.prog 47 #[] w fun e w'=>e=.returned (.agg (fns w.heap.size))∧Lie w.heap.size w'∧Below w.heap.size w w':=by
 go_enter Tryz.func47,Tryz.ntmps47
 go_upto_region 1 with fail
 have h0:=heap_alloc_new w (.cells #[.nilFunc,.nilFunc,.nilFunc,.nilFunc,.nilFunc,.nilFunc,.nilFunc,.nilFunc] 80)
 have s0:(w.alloc (.cells #[.nilFunc,.nilFunc,.nilFunc,.nilFunc,.nilFunc,.nilFunc,.nilFunc,.nilFunc] 80)).heap.size=w.heap.size+1:=by simp
 have b0:Below w.heap.size w (w.alloc (.cells #[.nilFunc,.nilFunc,.nilFunc,.nilFunc,.nilFunc,.nilFunc,.nilFunc,.nilFunc] 80)):=(Below.refl _ _).alloc (Nat.le_refl _) _
 generalize w.alloc (.cells #[.nilFunc,.nilFunc,.nilFunc,.nilFunc,.nilFunc,.nilFunc,.nilFunc,.nilFunc] 80)=u0 at h0 s0 b0 ⊢
 generalize hn:w.heap.size=n at *
 have HN:=hJJ hn
 clear hn
 go_wp2_with fail
 refine (mkphases_P _ _).mono ?_
 rintro e w' ⟨rfl,rfl⟩
 obtain ⟨u1,hu⟩:∃ W,u0.alloc (.cells #[.int .i64 7] 35)=W:=⟨_,rfl⟩
 rw [hu]
 have s1:u1.heap.size=n+2:=by rw [new_size hu,s0]
 have c1:u1.cell? ⟨n+1,0,none⟩=some (.int .i64 7):=new_cell hu s0
 have h0:=new_heap hu h0
 have b0:=new_below hu b0 (by omega)
 clear hu
 obtain ⟨u2,hu⟩:∃ W,u1.alloc (.cells #[.func (.func 75) #[] #[]] 86)=W:=⟨_,rfl⟩
 rw [hu]
 have s2:u2.heap.size=n+3:=by rw [new_size hu,s1]
 have c1:=new_old hu c1
 have c2:u2.cell? ⟨n+2,0,none⟩=some (.func (.func 75) #[] #[]):=new_cell hu s1
 have h0:=new_heap hu h0
 have b0:=new_below hu b0 (by omega)
 clear hu
 rw [s0]
 go_wp2_with fail
 refine (mkphases_C _ _).mono ?_
 rintro e w' ⟨rfl,rfl⟩
 obtain ⟨u3,hu⟩:∃ W,u2.alloc (.cells #[.int .i64 9] 35)=W:=⟨_,rfl⟩
 rw [hu]
 have s3:u3.heap.size=n+4:=by rw [new_size hu,s2]
 have c1:=new_old hu c1
 have c2:=new_old hu c2
 have c3:u3.cell? ⟨n+3,0,none⟩=some (.int .i64 9):=new_cell hu s2
 have h0:=new_heap hu h0
 have b0:=new_below hu b0 (by omega)
 clear hu
 obtain ⟨u4,hu⟩:∃ W,u3.alloc (.cells #[.func (.func 77) #[] #[]] 86)=W:=⟨_,rfl⟩
 rw [hu]
 have s4:u4.heap.size=n+5:=by rw [new_size hu,s3]
 have c1:=new_old hu c1
 have c2:=new_old hu c2
 have c3:=new_old hu c3
 have c4:u4.cell? ⟨n+4,0,none⟩=some (.func (.func 77) #[] #[]):=new_cell hu s3
 have h0:=new_heap hu h0
 have b0:=new_below hu b0 (by omega)
 clear hu
 rw [s2]
 go_wp2_with fail
 refine (mkelem_D _ _).mono ?_
 rintro e w' ⟨rfl,rfl⟩
 obtain ⟨u5,hu⟩:∃ W,u4.alloc (.cells #[.int .i64 10] 35)=W:=⟨_,rfl⟩
 rw [hu]
 have s5:u5.heap.size=n+6:=by rw [new_size hu,s4]
 have c1:=new_old hu c1
 have c2:=new_old hu c2
 have c3:=new_old hu c3
 have c4:=new_old hu c4
 have c5:u5.cell? ⟨n+5,0,none⟩=some (.int .i64 10):=new_cell hu s4
 have h0:=new_heap hu h0
 have b0:=new_below hu b0 (by omega)
 clear hu
 obtain ⟨u6,hu⟩:∃ W,u5.alloc (.cells #[.func (.func 79) #[] #[]] 102)=W:=⟨_,rfl⟩
 rw [hu]
 have s6:u6.heap.size=n+7:=by rw [new_size hu,s5]
 have c1:=new_old hu c1
 have c2:=new_old hu c2
 have c3:=new_old hu c3
 have c4:=new_old hu c4
 have c5:=new_old hu c5
 have c6:u6.cell? ⟨n+6,0,none⟩=some (.func (.func 79) #[] #[]):=new_cell hu s5
 have h0:=new_heap hu h0
 have b0:=new_below hu b0 (by omega)
 clear hu
 obtain ⟨u7,hu⟩:∃ W,u6.alloc (.cells #[.func (.func 80) #[] #[]] 103)=W:=⟨_,rfl⟩
 rw [hu]
 have s7:u7.heap.size=n+8:=by rw [new_size hu,s6]
 have c1:=new_old hu c1
 have c2:=new_old hu c2
 have c3:=new_old hu c3
 have c4:=new_old hu c4
 have c5:=new_old hu c5
 have c6:=new_old hu c6
 have c7:u7.cell? ⟨n+7,0,none⟩=some (.func (.func 80) #[] #[]):=new_cell hu s6
 have h0:=new_heap hu h0
 have b0:=new_below hu b0 (by omega)
 clear hu
 rw [s4]
 go_wp2_with fail
 refine (mkelem_R _ _).mono ?_
 rintro e w' ⟨rfl,rfl⟩
 obtain ⟨u8,hu⟩:∃ W,u7.alloc (.cells #[.int .i64 11] 35)=W:=⟨_,rfl⟩
 rw [hu]
 have s8:u8.heap.size=n+9:=by rw [new_size hu,s7]
 have c1:=new_old hu c1
 have c2:=new_old hu c2
 have c3:=new_old hu c3
 have c4:=new_old hu c4
 have c5:=new_old hu c5
 have c6:=new_old hu c6
 have c7:=new_old hu c7
 have c8:u8.cell? ⟨n+8,0,none⟩=some (.int .i64 11):=new_cell hu s7
 have h0:=new_heap hu h0
 have b0:=new_below hu b0 (by omega)
 clear hu
 obtain ⟨u9,hu⟩:∃ W,u8.alloc (.cells #[.func (.func 82) #[] #[]] 105)=W:=⟨_,rfl⟩
 rw [hu]
 have s9:u9.heap.size=n+10:=by rw [new_size hu,s8]
 have c1:=new_old hu c1
 have c2:=new_old hu c2
 have c3:=new_old hu c3
 have c4:=new_old hu c4
 have c5:=new_old hu c5
 have c6:=new_old hu c6
 have c7:=new_old hu c7
 have c8:=new_old hu c8
 have c9:u9.cell? ⟨n+9,0,none⟩=some (.func (.func 82) #[] #[]):=new_cell hu s8
 have h0:=new_heap hu h0
 have b0:=new_below hu b0 (by omega)
 clear hu
 obtain ⟨u10,hu⟩:∃ W,u9.alloc (.cells #[.func (.func 83) #[] #[]] 106)=W:=⟨_,rfl⟩
 rw [hu]
 have s10:u10.heap.size=n+11:=by rw [new_size hu,s9]
 have c1:=new_old hu c1
 have c2:=new_old hu c2
 have c3:=new_old hu c3
 have c4:=new_old hu c4
 have c5:=new_old hu c5
 have c6:=new_old hu c6
 have c7:=new_old hu c7
 have c8:=new_old hu c8
 have c9:=new_old hu c9
 have c10:u10.cell? ⟨n+10,0,none⟩=some (.func (.func 83) #[] #[]):=new_cell hu s9
 have h0:=new_heap hu h0
 have b0:=new_below hu b0 (by omega)
 clear hu
 rw [s7]
 go_wp2_with fail
 refine (mkelem_B _ _).mono ?_
 rintro e w' ⟨rfl,rfl⟩
 obtain ⟨u11,hu⟩:∃ W,u10.alloc (.cells #[.int .i64 12] 35)=W:=⟨_,rfl⟩
 rw [hu]
 have s11:u11.heap.size=n+12:=by rw [new_size hu,s10]
 have c1:=new_old hu c1
 have c2:=new_old hu c2
 have c3:=new_old hu c3
 have c4:=new_old hu c4
 have c5:=new_old hu c5
 have c6:=new_old hu c6
 have c7:=new_old hu c7
 have c8:=new_old hu c8
 have c9:=new_old hu c9
 have c10:=new_old hu c10
 have c11:u11.cell? ⟨n+11,0,none⟩=some (.int .i64 12):=new_cell hu s10
 have h0:=new_heap hu h0
 have b0:=new_below hu b0 (by omega)
 clear hu
 obtain ⟨u12,hu⟩:∃ W,u11.alloc (.cells #[.func (.func 85) #[] #[]] 108)=W:=⟨_,rfl⟩
 rw [hu]
 have s12:u12.heap.size=n+13:=by rw [new_size hu,s11]
 have c1:=new_old hu c1
 have c2:=new_old hu c2
 have c3:=new_old hu c3
 have c4:=new_old hu c4
 have c5:=new_old hu c5
 have c6:=new_old hu c6
 have c7:=new_old hu c7
 have c8:=new_old hu c8
 have c9:=new_old hu c9
 have c10:=new_old hu c10
 have c11:=new_old hu c11
 have c12:u12.cell? ⟨n+12,0,none⟩=some (.func (.func 85) #[] #[]):=new_cell hu s11
 have h0:=new_heap hu h0
 have b0:=new_below hu b0 (by omega)
 clear hu
 obtain ⟨u13,hu⟩:∃ W,u12.alloc (.cells #[.func (.func 86) #[] #[]] 109)=W:=⟨_,rfl⟩
 rw [hu]
 have s13:u13.heap.size=n+14:=by rw [new_size hu,s12]
 have c1:=new_old hu c1
 have c2:=new_old hu c2
 have c3:=new_old hu c3
 have c4:=new_old hu c4
 have c5:=new_old hu c5
 have c6:=new_old hu c6
 have c7:=new_old hu c7
 have c8:=new_old hu c8
 have c9:=new_old hu c9
 have c10:=new_old hu c10
 have c11:=new_old hu c11
 have c12:=new_old hu c12
 have c13:u13.cell? ⟨n+13,0,none⟩=some (.func (.func 86) #[] #[]):=new_cell hu s12
 have h0:=new_heap hu h0
 have b0:=new_below hu b0 (by omega)
 clear hu
 rw [s10]
 go_wp2_with fail
 refine (mkphases_F _ _).mono ?_
 rintro e w' ⟨rfl,rfl⟩
 obtain ⟨u14,hu⟩:∃ W,u13.alloc (.cells #[.int .i64 13] 35)=W:=⟨_,rfl⟩
 rw [hu]
 have s14:u14.heap.size=n+15:=by rw [new_size hu,s13]
 have c1:=new_old hu c1
 have c2:=new_old hu c2
 have c3:=new_old hu c3
 have c4:=new_old hu c4
 have c5:=new_old hu c5
 have c6:=new_old hu c6
 have c7:=new_old hu c7
 have c8:=new_old hu c8
 have c9:=new_old hu c9
 have c10:=new_old hu c10
 have c11:=new_old hu c11
 have c12:=new_old hu c12
 have c13:=new_old hu c13
 have c14:u14.cell? ⟨n+14,0,none⟩=some (.int .i64 13):=new_cell hu s13
 have h0:=new_heap hu h0
 have b0:=new_below hu b0 (by omega)
 clear hu
 obtain ⟨u15,hu⟩:∃ W,u14.alloc (.cells #[.func (.func 87) #[] #[]] 86)=W:=⟨_,rfl⟩
 rw [hu]
 have s15:u15.heap.size=n+16:=by rw [new_size hu,s14]
 have c1:=new_old hu c1
 have c2:=new_old hu c2
 have c3:=new_old hu c3
 have c4:=new_old hu c4
 have c5:=new_old hu c5
 have c6:=new_old hu c6
 have c7:=new_old hu c7
 have c8:=new_old hu c8
 have c9:=new_old hu c9
 have c10:=new_old hu c10
 have c11:=new_old hu c11
 have c12:=new_old hu c12
 have c13:=new_old hu c13
 have c14:=new_old hu c14
 have c15:u15.cell? ⟨n+15,0,none⟩=some (.func (.func 87) #[] #[]):=new_cell hu s14
 have h0:=new_heap hu h0
 have b0:=new_below hu b0 (by omega)
 clear hu
 rw [s13]
 have LI:Lie n u15:=⟨c1,c2,c3,c4,c5,c6,c7,c8,c9,c10,c11,c12,c13,c14,c15⟩
 have hsz:n≤u15.heap.size:=by omega
 have HW:Below n w (u15.setRow n (fns n)):=b0.trans (Same.below_setRow (Below.refl n u15) (Nat.le_refl _) (fns n))
 have HK:=hJJ (setRow_heap u15 n _ (fns n) _ _ h0)
 have HL:Lie n (u15.setRow n (fns n)):=⟨(Kept.cell (o:=0) (setRow_other u15 n (n+1) (fns n) (by omega))).trans c1,(Kept.cell (o:=0) (setRow_other u15 n (n+2) (fns n) (by omega))).trans c2,(Kept.cell (o:=0) (setRow_other u15 n (n+3) (fns n) (by omega))).trans c3,(Kept.cell (o:=0) (setRow_other u15 n (n+4) (fns n) (by omega))).trans c4,(Kept.cell (o:=0) (setRow_other u15 n (n+5) (fns n) (by omega))).trans c5,(Kept.cell (o:=0) (setRow_other u15 n (n+6) (fns n) (by omega))).trans c6,(Kept.cell (o:=0) (setRow_other u15 n (n+7) (fns n) (by omega))).trans c7,(Kept.cell (o:=0) (setRow_other u15 n (n+8) (fns n) (by omega))).trans c8,(Kept.cell (o:=0) (setRow_other u15 n (n+9) (fns n) (by omega))).trans c9,(Kept.cell (o:=0) (setRow_other u15 n (n+10) (fns n) (by omega))).trans c10,(Kept.cell (o:=0) (setRow_other u15 n (n+11) (fns n) (by omega))).trans c11,(Kept.cell (o:=0) (setRow_other u15 n (n+12) (fns n) (by omega))).trans c12,(Kept.cell (o:=0) (setRow_other u15 n (n+13) (fns n) (by omega))).trans c13,(Kept.cell (o:=0) (setRow_other u15 n (n+14) (fns n) (by omega))).trans c14,(Kept.cell (o:=0) (setRow_other u15 n (n+15) (fns n) (by omega))).trans c15⟩
 have H1:=hJJ HW
 have H2:=hJJ HL
 clear HW HL c1 c2 c3 c4 c5 c6 c7 c8 c9 c10 c11 c12 c13 c14 c15 LI s0 s1 s2 s3 s4 s5 s6 s7 s8 s9 s10 s11 s12 s13 s14 s15 b0
 go_wp2_with (refine wpList_store_row rfl 80 _ _ rfl n (fns n) rfl rfl 80 _ h0 infoA rfl (by simp [fns,Value.oneCell']) ?_)
 (try go_wp2_with fail)
 generalize u15.setRow n (fns n)=uz at HK H1 H2 ⊢
 (try simp only [Exit.inBlock,Exit.then])
 refine bodyPost_ret (v:=.agg (fns n)) ?_ rfl (by rw [HN.out];exact ⟨rfl,H2.out,H1.out⟩)
 exact results_cell_row rfl _ _ n 80 _ (0,0) _ rfl HK.out Tryz.underlying80 rfl infoA
end ChkQ
namespace ChkY
open Zip
open Go.RowKit Go.Shelf
open Tab PlaceM PlanM OnS ChkM Each Search ChkI
open ChkB (laid2)
open May (infoT ret_bool)
attribute [local go_sem] Oper.semAt_some
def yS (T:Tab) (l:List Int):Nat:=SetM.of (l.filter (yel T))
theorem yS_hit {T:Tab} {l:List Int} {x:Int} (h:yel T x=true):SetM.withN (yS T l:Nat) x=yS T (l++[x]):=by
 unfold yS;rw [SetM.with_of,List.filter_append];simp [h]
theorem yS_miss {T:Tab} {l:List Int} {x:Int} (h:yel T x=false):yS T (l++[x])=yS T l:=by
 unfold yS;rw [List.filter_append];simp [h]
theorem yellows_any (T:Tab) (h:Hd) (w:World) (ht:IsTab w h T) :
  Calls Tryz.prog 120 #[.agg (T.cells h).toArray] w fun e w'=>e=.returned (.int .i64 (yellows T:Nat))∧Below w.heap.size w w':=by
 have hsz:=(cells_ok ht).size
 have IA:Hid ((Tryz.prog.info? 32).map (·.size)=some (T.cells h).length):=hJJ (by rw [List.size_toArray] at hsz;rw [hsz];exact infoT)
 have ON:Hid (∀ W,Below w.heap.size w W→Calls Tryz.prog 96 #[.agg (T.cells h).toArray] W fun e w'=>e=.returned (.int .i64 (onS T:Nat))∧Below W.heap.size W w'):=hJJ (fun W hb=>PlanO.pon_any T h W (ht.below hb))
 have LT0:=hJJ (Row.lies_new w (T.cells h).toArray 32)
 have BX0:=hJJ (bxd_new ht)
 have hs1:(w.alloc (.cells (T.cells h).toArray 32)).heap.size=w.heap.size+1:=by simp
 have YR:Hid (yellows T=yS T (SetM.list (onS T:Nat))):=hJJ rfl
 clear ht
 generalize T.cells h=c at *
 refine (callsIn_wide (n:=3)).1 ?_
 refine callsIn_of_wp_marks Tryz.func120 rfl trivial ?_ rfl
 simp only [Tryz.ntmps120,List.size_toArray,List.length_cons,List.length_nil,Nat.reduceAdd,Nat.reduceSub,Array.replicate_succ,Array.replicate_zero,List.push_toArray,List.append_toArray,List.nil_append,List.cons_append]
 refine wpIn_wide.2 ?_
 go_upto_region 2 with fail
 obtain ⟨W1,hW1,E1,E0,EB,bR⟩:=laid2 w (.cells c.toArray 32) (.cells #[.int .i64 0] 3)
 rw [hW1]
 have LT:=hJJ (LT0.out.below (by rw [hs1];exact EB))
 have BX:=hJJ (BX0.out.below (by rw [hs1];exact EB))
 have B0:=hJJ E0
 clear hW1 EB hs1 hsz LT0 E0 BX0
 go_wp2_with (refine lgZ 32 ⟨w.heap.size,0,none⟩ c rfl LT.out Tryz.underlying32 IA.out ?_)
 refine (ON.out _ B0.out).mono ?_
 rintro e W3 ⟨rfl,hb⟩
 go_wp2_with fail
 refine (callsIn_wide.1 (Each.each_in 3 _ _)).mono ?_
 rintro e w' ⟨rfl,rfl⟩
 go_wp2_with fail
 have hb4:Below W1.heap.size W1 (W3.alloc (.cells #[.int .i64 (onS T:Nat)] 3)):=hb.alloc hb.size _
 have bE:Boxed (W3.alloc (.cells #[.int .i64 (onS T:Nat)] 3)) W3.heap.size 3 (.int .i64 (onS T:Nat)):=Boxed.new _ _ _
 have hsz3:(W3.alloc (.cells #[.int .i64 (onS T:Nat)] 3)).heap.size=W3.heap.size+1:=by simp
 have hs3:=hb.size
 generalize W3.alloc (.cells #[.int .i64 (onS T:Nat)] 3)=W4 at hb4 bE hsz3 ⊢
 have bR4:Boxed W4 (w.heap.size+1) 3 (.int .i64 0):=(hb4.block _ (by omega)).trans bR
 have BX4:=hJJ (BX.out.below hb4)
 have C0:Hid (Below w.heap.size w W4):=hJJ (B0.out.trans (hb4.mono B0.out.size))
 have E4:w.heap.size+2 < W4.heap.size:=by omega
 have E5:W3.heap.size < W4.heap.size:=by omega
 have E6:w.heap.size+1 < W3.heap.size:=by omega
 clear hb hb4 bR LT B0 hs3 BX
 generalize W3.heap.size=be at *
 refine (wpIn_wide (n:=3)).1 ?_
 refine wpIn_rangeFunc_ownG rfl (by omega) (gf:=127) (lb:=#[.pointer (some ⟨be,0,none⟩)]) rfl trivial (enters_of Tryz.func127 (by kernel_rfl) rfl)
  (each_mem _ (by omega) be (onS T:Nat) W4 (by omega) bE.cell) Kept.trans (kept_b E5) (Below.refl _ _) (fun _=>rfl)
  (fun pre W=>Boxed W (w.heap.size+1) 3 (.int .i64 (yS T (pre.map Subtype.val):Nat))∧W4.grownBy W (some (w.heap.size+1)))
  (fun _ _ _=>False)
  ?own (fun _ _ _ _ _ hs _ _=>hs) ⟨bR4,grown_of_below (Below.refl _ _)⟩
  (fun x=>{ tmps:=#[.agg c.toArray,.pointer (some ⟨w.heap.size,0,none⟩),.int .i64 0,.pointer (some ⟨w.heap.size+1,0,none⟩),.int .i64 x.1,.agg c.toArray,.int .i64 (onS T:Nat),.func (.func 127) #[] #[.pointer (some ⟨be,0,none⟩)],.int .i64 x.1,undef,undef,undef,undef,undef,undef,undef,undef,undef],defers:=[] }) ?assign ?body ?done ?stop
 case own =>
  rintro pre W W' row ⟨h1,h2⟩ hgr hr
  exact ⟨h1.kept hgr (fun e=>by have:=(hr _ e.symm).1;omega),grown_from h2 hgr (fun r e=>(hr r e).1)⟩
 case assign =>
  intro l x W K hK
  gi_wp2
  exact hK
 case body =>
  rintro l pre ⟨x,hx⟩ W ⟨hv,hg⟩ hlt
  have hx8:=SetM.list_bd _ x hx
  obtain ⟨j,rfl⟩:=Int.eq_ofNat_of_zero_le hx8.1
  have hj8:((j:Nat):Int) < 8:=hx8.2
  have cc0:=BX4.out.fl j (by omega) (by omega)
  rw [Int.toNat_natCast] at cc0
  have cc:W.cell? ⟨w.heap.size,121+j,none⟩=some (I (flAt T j)):=(Kept.cell (o:=121+j) (hg.block w.heap.size (by omega) (fun e=>by have:=Option.some.inj e;omega))).trans cc0
  have hc:=hv.cell
  have hf:=hv.frozen
  dsimp only
  by_cases hy:flAt T j=2
  ·have HY:=hJJ (yS_hit (l:=pre.map Subtype.val) (show yel T j=true by unfold yel;rw [hy];rfl))
   gi_wp2_with (refine ⟨trivial,?_⟩;gi_at_call 124;refine (CallsIn.inRound l (callsIn_wide.2 (SetP.with_any _ _ _))).mono ?_;rintro e w' ⟨rfl,rfl⟩)
   exact ⟨(KeepsOthers.setCell _ _ _).from _,Kept.setCell _ _ (by omega),by rw [List.map_append,List.map_cons,List.map_nil,← HY.out];exact hv.set _,grown_trans hg (grownBy_setCell' _ _ _)⟩
  ·have HY:=hJJ (yS_miss (l:=pre.map Subtype.val) (show yel T j=false by unfold yel;rw [beq_eq_false_iff_ne];exact hy))
   gi_wp2
   exact ⟨KeepsFrom.refl _ _,rfl,by rw [List.map_append,List.map_cons,List.map_nil,HY.out];exact hv,hg⟩
 case done =>
  rintro D ys W hD hS ⟨hv,hg⟩ hK
  have hc:=hv.cell
  have HR:Hid (yS T (ys.map Subtype.val)=yellows T):=hJJ (by rw [hS];exact YR.out.symm)
  have HB:Hid (Below w.heap.size w W):=hJJ (C0.out.grown hg (by omega) (fun k e=>by cases e;omega))
  clear hg
  go_wp2
  refine ⟨by simp,.inl ⟨_,_,rfl,run_takeDeferred hK,?_⟩⟩
  exact ⟨_,results_tmp rfl _ _ _,by rw [show yellows T=yS T (SetM.list (onS T:Nat)) from YR.out];rfl,HB.out.trans (belowK_b (w:=w) (Nat.le_refl _) _ D _ _ (by omega) hK rfl rfl)⟩
 case stop =>
  rintro D c pre W hD _ h _
  exact h.elim
theorem badFlash_any (T:Tab) (h:Hd) (k:Nat) (hk:k < 8) (w:World) (ht:IsTab w h T) :
  Calls Tryz.prog 87 #[.agg (T.cells h).toArray,.int .i64 k] w fun e w'=>e=.returned (.bool (flashBad T k))∧Below w.heap.size w w':=by
 have hsz:=(cells_ok ht).size
 have IA:Hid ((Tryz.prog.info? 32).map (·.size)=some (T.cells h).length):=hJJ (by rw [List.size_toArray] at hsz;rw [hsz];exact infoT)
 have YE:Hid (∀ W,Below w.heap.size w W→Calls Tryz.prog 120 #[.agg (T.cells h).toArray] W fun e w'=>e=.returned (.int .i64 (yellows T:Nat))∧Below W.heap.size W w'):=hJJ (fun W hb=>yellows_any T h W (ht.below hb))
 have LT0:=hJJ (Row.lies_new w (T.cells h).toArray 32)
 have BX0:=hJJ (bxd_new ht)
 have A0:Hid (Below w.heap.size w (w.alloc (.cells (T.cells h).toArray 32))):=hJJ ((Below.refl _ _).alloc (Nat.le_refl _) _)
 obtain ⟨x,hx⟩:∃ x,x=flashBad T k:=⟨_,rfl⟩
 rw [← hx]
 have HR:Hid (x=(flAt T k == 0 || (flAt T k == 2 && bits .and .i64 (cfAt T k) (yellows T:Nat) != 0))):=hJJ hx
 clear ht hx
 generalize T.cells h=c at *
 have hki:((k:Nat):Int) < 8:=by omega
 go_enter Tryz.func87,Tryz.ntmps87
 go_upto_region 1 with fail
 generalize w.alloc (.cells c.toArray 32)=u at A0 LT0 BX0 ⊢
 clear hsz
 have cf:=BX0.out.fl k (by omega) (by omega)
 have cc:=BX0.out.cf k (by omega) (by omega)
 rw [Int.toNat_natCast] at cf cc
 have CCH:=hJJ cc
 clear cc
 generalize flAt T k=fl at *
 by_cases h0:fl=0
 ·subst h0
  have HX:Hid (true=x):=hJJ (by rw [HR.out];rfl)
  go_wp2
  go_ret
  exact ⟨ret_bool HX.out,A0.out⟩
 by_cases h2:fl=2
 ·subst h2
  have HX:Hid (x=(bits .and .i64 (cfAt T k) (yellows T:Nat) != 0)):=hJJ (by rw [HR.out];rfl)
  clear h0 HR
  generalize yellows T=m at HX YE
  have hne:Nonempty (Ph.S (Row.Old u)):=⟨⟨0,u,Below.refl _ _⟩⟩
  have CC:∀ p:Ph.S (Row.Old u),p.world.cell? ⟨w.heap.size,105+k,none⟩=some (I (cfAt T k)):=fun p=>(p.is.cell (World.block_lt_of_cell? u _ CCH.out)).trans CCH.out
  have YW:Hid (∀ p:Ph.S (Row.Old u),Calls Tryz.prog 120 #[.agg c.toArray] p.world fun e w'=>e=.returned (.int .i64 (m:Nat))∧Below p.world.heap.size p.world w'):=hJJ (fun p=>YE.out _ (A0.out.trans (p.is.mono A0.out.size)))
  clear YE
  generalize cfAt T k=cv at *
  go_upto_region 5 with fail
  refine Pw.region (Row.Old u) [] hmx (by kernel_rfl) (Row.Old.drew _) ?_
  iterate 4
   (refine Pw.calm rfl (fun K hK=>?_)
    go_simp
    refine hK _ ?_
    clear hK K)
  refine Pw.load rfl (by rfl) 32 _ rfl ⟨w.heap.size,0,none⟩ rfl c _ (fun p=>LT0.out.below p.is) Tryz.underlying32 rfl IA.out ?_
  (try dsimp only [Act.put]);(try simp only [zA,zB,zC])
  (refine Pw.calm rfl (fun K hK=>?_)
   go_simp
   refine ⟨_,fun p=>Row.Old.call (YW.out p),hK _ ?_⟩
   clear hK K)
  iterate 3
   (refine Pw.calm rfl (fun K hK=>?_)
    go_simp
    refine hK _ ?_
    clear hK K)
  refine Pw.nil ?_
  intro uz hb
  have EZ:=hJJ (A0.out.trans (hb.mono A0.out.size))
  clear hb CC hne
  go_wp2
  go_ret
  exact ⟨ret_bool HX.out.symm,EZ.out⟩
 ·have HX:Hid (false=x):=hJJ (by rw [HR.out];simp [h0,h2])
  go_wp2
  go_ret
  exact ⟨ret_bool HX.out,A0.out⟩
end ChkY
end Go.Proofs.YtjolhoilcibdfaaGreat
