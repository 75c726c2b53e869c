/- 10 texts in one file, in build order. -/
import Derived.Test.YtkkfdojjecagmaaGreatRows
import Derived.Test.YtkkfdojjecagmaaGreatPart07
import Derived.Test.YtkkfdojjecagmaaGreatPart01
set_option linter.unusedVariables false
set_option linter.unusedSimpArgs false
set_option linter.unusedSectionVars false
set_option maxHeartbeats 8000000
set_option maxRecDepth 100000
namespace Go.Proofs.YtkkfdojjecagmaaGreat
namespace ChkZ
open Go Tab PlaceM PlanM OnS May ChkM ChkX
open PlanW (where_some)
def inG (T:Tab) (g:Nat):List Spt:=(spots T).filter fun x=>decide ((x.g:Int)=g)
def phG (T:Tab) (g:Nat):List Int:=(inG T g).map Spt.p
theorem memb_eq (T:Tab) (g:Nat):SetM.of (phG T g)=membS T g:=memb_spots T g
theorem mem_inG {T:Tab} {g:Nat} {x:Spt}:x ∈ inG T g ↔ x ∈ spots T∧x.g=g:=by
 unfold inG
 rw [List.mem_filter,decide_eq_true_eq]
 constructor
 ·rintro ⟨h1,h2⟩;exact ⟨h1,by omega⟩
 ·rintro ⟨h1,h2⟩;exact ⟨h1,by omega⟩
theorem spot_range {T:Tab} {x:Spt} (h:x ∈ spots T):0≤x.p∧x.p < 8:=by obtain ⟨_,_,_,h1,h2⟩:=mem_spots.1 h;exact ⟨h1,h2⟩
theorem ph_range {T:Tab} {g:Nat} {p:Int} (h:p ∈ phG T g):0≤p∧p < 8:=by
 obtain ⟨x,hx,rfl⟩:=List.mem_map.1 h
 exact spot_range (mem_inG.1 hx).1
theorem has_memb {T:Tab} {g:Nat} {q:Int}:SetM.has (membS T g:Nat) q=true ↔ q ∈ phG T g:=by
 rw [← memb_eq,has_of]
 constructor
 ·rintro ⟨_,_,h⟩;exact h
 ·intro h;have:=ph_range h;exact ⟨this.1,this.2,h⟩
theorem has_or {m n:Nat} (hm:m < 256) (hn:n < 256) {q:Int}:SetM.has ((m ||| n:Nat):Int) q=true ↔ SetM.has (m:Int) q=true∨SetM.has (n:Int) q=true:=by
 have hmn:m ||| n < 256:=Nat.or_lt_two_pow (n:=8) hm hn
 rw [has_bits,has_bits,has_bits,SetM.low_nat _ hmn,SetM.low_nat _ hm,SetM.low_nat _ hn,Nat.testBit_or,Bool.or_eq_true]
 constructor
 ·rintro ⟨h1,h2,h3 | h3⟩
  ·exact .inl ⟨h1,h2,h3⟩
  ·exact .inr ⟨h1,h2,h3⟩
 ·rintro (⟨h1,h2,h3⟩ | ⟨h1,h2,h3⟩)
  ·exact ⟨h1,h2,.inl h3⟩
  ·exact ⟨h1,h2,.inr h3⟩
theorem has_placed {T:Tab} {q:Int}:∀ g,SetM.has (placed T g:Nat) q=true ↔ ∃ y ∈ spots T,y.g < g∧y.p=q
 | 0=>by
  constructor
  ·intro h;have:=(has_bits.1 h).2.2;rw [show ((placed T 0:Nat):Int)=((0:Nat):Int) from rfl,SetM.low_nat 0 (by decide),Nat.zero_testBit] at this;cases this
  ·rintro ⟨y,_,h,_⟩;omega
 | g+1=>by
  rw [show placed T (g+1)=placed T g ||| membS T g from rfl,has_or (ChkH.placed_lt T g) (memb_lt T g),has_placed g,has_memb]
  constructor
  ·rintro (⟨y,h1,h2,h3⟩ | h)
   ·exact ⟨y,h1,by omega,h3⟩
   ·obtain ⟨y,hy,rfl⟩:=List.mem_map.1 h
    obtain ⟨h1,h2⟩:=mem_inG.1 hy
    exact ⟨y,h1,by omega,rfl⟩
  ·rintro ⟨y,h1,h2,h3⟩
   by_cases h4:y.g < g
   ·exact .inl ⟨y,h1,h4,h3⟩
   ·exact .inr (List.mem_map.2 ⟨y,mem_inG.2 ⟨h1,by omega⟩,h3⟩)
theorem Lt.asymm {x y:Spt} (h:Lt x y) (k:Lt y x):False:=by unfold Lt at h k;omega
theorem where_first {T:Tab} {x y:Spt} (hw:where_ T x.p=some x) (hy:y ∈ spots T) (hp:y.p=x.p):¬ Lt y x:=by
 intro hl
 unfold where_ find at hw
 have hs:=spots_sorted T
 rw [List.find?_eq_some_iff_append] at hw
 obtain ⟨_,l1,l2,e,h1⟩:=hw
 rw [e] at hy hs
 rcases List.mem_append.1 hy with hy | hy
 ·have:=h1 y hy
  rw [hp] at this
  simp at this
 ·rcases List.mem_cons.1 hy with rfl | hy
  ·exact Lt.irrefl hl
  ·have:=(List.pairwise_append.1 hs).2.1
   exact Lt.asymm hl ((List.pairwise_cons.1 this).1 y hy)
theorem at_some {T:Tab} {x:Spt} (hx:x ∈ spots T):(at0 (where_ T x.p)=(x.g,x.k,x.i)) ↔ where_ T x.p=some x:=by
 constructor
 ·intro h
  cases hw:where_ T x.p with
  | none =>
   exfalso
   unfold where_ find at hw
   rw [List.find?_eq_none] at hw
   exact hw x hx (by simp)
  | some y =>
   rw [hw] at h
   unfold where_ find at hw
   have hp:y.p=x.p:=by simpa using List.find?_some hw
   obtain ⟨yg,yk,yi,yp⟩:=y
   obtain ⟨xg,xk,xi,xp⟩:=x
   simp only [at0,Prod.mk.injEq] at h
   obtain ⟨h1,h2,h3⟩:=h
   subst h1 h2 h3
   simp only at hp
   rw [hp]
 ·intro h;rw [h];rfl
theorem rows_at {T:Tab} {g:Nat} (hg:g < T.groups.length):rowsAt T g=T.groups[g]:=rows_in (List.getElem?_eq_getElem hg)
theorem spot_of {T:Tab} (h:InR T) {g k i:Nat} (hg:g < T.groups.length) (hk:k < 2) (hi:i < (ringOf (rowsAt T g) k).length):(⟨g,k,i,(ringOf (rowsAt T g) k).getD i 0⟩:Spt) ∈ spots T:=by
 have hm:=h.gr _ (List.getElem_mem hg)
 unfold groupMay rowMay at hm
 simp only [Bool.and_eq_true,allIn_iff] at hm
 rw [mem_spots]
 refine ⟨T.groups[g],List.getElem?_eq_getElem hg,?_⟩
 rw [rows_at hg] at hi ⊢
 simp only
 have he:(ringOf T.groups[g] k)[i]?=some ((ringOf T.groups[g] k).getD i 0):=by rw [List.getD_eq_getElem?_getD,List.getElem?_eq_getElem hi];rfl
 refine ⟨he,?_⟩
 have hmem:(ringOf T.groups[g] k).getD i 0 ∈ ringOf T.groups[g] k:=List.mem_of_getElem? he
 have h01:k=0∨k=1:=by omega
 rcases h01 with rfl | rfl
 ·have:=hm.1.2 _ hmem;omega
 ·have:=hm.2.2 _ hmem;omega
theorem rep_iff {T:Tab} (h:InR T) {g:Nat} (hg:g < T.groups.length):repeats T g=false ↔ ∀ x ∈ inG T g,where_ T x.p=some x:=by
 unfold repeats
 rw [Bool.or_eq_false_iff,ChkG.rep_row,ChkG.rep_row]
 constructor
 ·rintro ⟨h0,h1⟩ x hx
  obtain ⟨hs,hxg⟩:=mem_inG.1 hx
  rw [← at_some hs]
  obtain ⟨y,hy,hr,_⟩:=mem_spots.1 hs
  have hry:rowsAt T (x.g:Nat)=y:=rows_in hy
  rw [hxg] at hry
  have hlt:=(List.getElem?_eq_some_iff.1 hr).1
  have hk:x.k=0∨x.k=1:=by
   unfold ringOf at hr
   by_cases e0:x.k=0
   ·exact .inl e0
   ·by_cases e1:x.k=1
    ·exact .inr e1
    ·rw [if_neg e0,if_neg e1] at hr;simp at hr
  have hv:(ringOf y x.k).getD x.i 0=x.p:=by rw [List.getD_eq_getElem?_getD,hr];rfl
  rcases hk with e | e
  ·rw [e] at hlt hv
   have:=h0 x.i (by rw [hry];exact hlt)
   unfold ChkG.atOk at this
   rw [beq_iff_eq,hry,show y.1.getD x.i 0=x.p from hv] at this
   rw [this,hxg,e]
  ·rw [e] at hlt hv
   have:=h1 x.i (by rw [hry];exact hlt)
   unfold ChkG.atOk at this
   rw [beq_iff_eq,hry,show y.2.getD x.i 0=x.p from hv] at this
   rw [this,hxg,e]
 ·intro hall
  constructor
  ·intro i hi
   have hs:=spot_of h hg (k:=0) (by omega) hi
   have:=(at_some hs).2 (hall _ (mem_inG.2 ⟨hs,rfl⟩))
   unfold ChkG.atOk
   rw [beq_iff_eq]
   exact this
  ·intro i hi
   have hs:=spot_of h hg (k:=1) (by omega) hi
   have:=(at_some hs).2 (hall _ (mem_inG.2 ⟨hs,rfl⟩))
   unfold ChkG.atOk
   rw [beq_iff_eq]
   exact this
theorem inj_of {A:List Spt}:(A.map Spt.p).Nodup→∀ {x y:Spt},x ∈ A→y ∈ A→x.p=y.p→x=y:=by
 induction A with
 | nil=>intro _ x y hx;cases hx
 | cons a A ih =>
  intro hn x y hx hy hp
  rw [List.map_cons,List.nodup_cons] at hn
  rcases List.mem_cons.1 hx with hx | hx
  ·rcases List.mem_cons.1 hy with hy | hy
   ·rw [hx,hy]
   ·exact absurd (List.mem_map.2 ⟨y,hy,by rw [← hp,hx]⟩) hn.1
  ·rcases List.mem_cons.1 hy with hy | hy
   ·exact absurd (List.mem_map.2 ⟨x,hx,by rw [hp,hy]⟩) hn.1
   ·exact ih hn.2 hx hy hp
theorem first_iff {T:Tab} (g:Nat):(∀ x ∈ inG T g,where_ T x.p=some x) ↔ (phG T g).Nodup∧∀ p ∈ phG T g,SetM.has (placed T g:Nat) p=false:=by
 constructor
 ·intro h
  constructor
  ·unfold phG List.Nodup
   rw [List.pairwise_map]
   have hs:(inG T g).Pairwise Lt:=(spots_sorted T).sublist List.filter_sublist
   refine List.Pairwise.imp_of_mem (fun {y x} hy hx hl e=>?_) hs
   exact where_first (h x hx) (mem_inG.1 hy).1 e hl
  ·intro p hp
   obtain ⟨x,hx,rfl⟩:=List.mem_map.1 hp
   cases e:SetM.has (placed T g:Nat) x.p with
   | false=>rfl
   | true =>
    exfalso
    obtain ⟨y,h1,h2,h3⟩:=(has_placed g).1 e
    exact where_first (h x hx) h1 h3 (.inl (by rw [(mem_inG.1 hx).2];exact h2))
 ·rintro ⟨hn,hp⟩ x hx
  obtain ⟨hs,hxg⟩:=mem_inG.1 hx
  refine where_some hs rfl (fun y hy hl e=>?_)
  rcases hl with hl | ⟨hl,hl2⟩
  ·have:=hp x.p (List.mem_map.2 ⟨x,hx,rfl⟩)
   rw [(has_placed g).2 ⟨y,hy,by omega,e⟩] at this
   cases this
  ·have hyx:=inj_of hn (mem_inG.2 ⟨hy,by omega⟩) hx e
   subst hyx
   omega
theorem of_zero {l:List Int} (hr:∀ p ∈ l,0≤p∧p < 8):SetM.of l=0 ↔ l=[]:=by
 constructor
 ·intro h
  cases l with
  | nil=>rfl
  | cons p l =>
   exfalso
   have hp:=hr p (List.mem_cons_self ..)
   exact (low_ne (SetM.of_lt (p :: l))).2 ⟨p,has_of.2 ⟨hp.1,hp.2,List.mem_cons_self ..⟩⟩ h
 ·rintro rfl;rfl
theorem group_iff {T:Tab} (h:InR T) {g:Nat} (hg:g < T.groups.length):groupBad T g=false ↔
  phG T g ≠ []∧(∀ p ∈ phG T g,SetM.has (onS T:Nat) p=true)∧(phG T g).Nodup∧∀ p ∈ phG T g,SetM.has (placed T g:Nat) p=false:=by
 unfold groupBad
 rw [Bool.or_eq_false_iff,Bool.or_eq_false_iff,rep_iff h hg,first_iff,beq_eq_false_iff_ne,Bool.not_eq_false',allOn_iff (by have:=memb_lt T g;omega),← memb_eq,ne_eq,of_zero (fun p hp=>ph_range hp)]
 rw [memb_eq]
 simp only [has_memb]
end ChkZ
namespace Bes
open Go Tab PlaceM PlanM OnS May ChkM ChkX
open ChkZ (inG phG mem_inG group_iff first_iff inj_of has_placed)
theorem first_none:∀ {l:List (Int × Option Int)},(∀ x ∈ l,x.1 ≠ 0)→firstF l=(0,0)→∀ x ∈ l,x.2=none
 | [],_,_,x,hx=>by simp at hx
 | (c,some p) :: l,hc,h,x,hx=>by
  exfalso
  have:c=0:=congrArg Prod.fst h
  exact hc (c,some p) (by simp) this
 | (c,none) :: l,hc,h,x,hx=>by
  rcases List.mem_cons.1 hx with rfl | hx
  ·rfl
  ·exact first_none (fun y hy=>hc y (List.mem_cons_of_mem _ hy)) h x hx
structure Fine (T:Tab):Prop where
 rg:InR T
 wh:∀ x ∈ spots T,where_ T x.p=some x
 on:∀ x ∈ spots T,SetM.has (onS T:Nat) x.p=true
 all:∀ q,SetM.has (onS T:Nat) q=true→∃ y ∈ spots T,y.p=q
 cf:∀ p ∈ ons T,confBad T p=false
theorem fine {T:Tab} (h:chkC T=(0,0)):Fine T:=by
 have H:=first_none (l:=rulesC T) (by unfold rulesC;simp) h
 have h4:mayF T=none:=H (4,mayF T) (by unfold rulesC;simp)
 have h8:ringsC T=none:=H (8,ringsC T) (by unfold rulesC;simp)
 have h9:(ons T).find? (confBad T)=none:=H (9,_) (by unfold rulesC;simp)
 have hm:tabMay T=true:=by
  unfold mayF at h4
  cases e:tabMay T with
  | true=>rfl
  | false=>rw [e] at h4;cases h4
 have R:=in_ranges hm
 unfold ringsC at h8
 by_cases h0:T.groups.length=0
 ·rw [if_pos h0] at h8;cases h8
 rw [if_neg h0] at h8
 cases hf:(List.range T.groups.length).find? (groupBad T) with
 | some g=>rw [hf] at h8;cases h8
 | none =>
  rw [hf] at h8
  have hg:∀ g,g < T.groups.length→groupBad T g=false:=fun g hg=>by
   have:=List.find?_eq_none.1 hf g (List.mem_range.2 hg)
   simpa using this
  have hin:∀ x ∈ spots T,x.g < T.groups.length:=fun x hx=>by
   obtain ⟨y,hy,_⟩:=mem_spots.1 hx
   exact (List.getElem?_eq_some_iff.1 hy).1
  have ho:bits .andNot .i64 (onS T:Nat) (placed T T.groups.length:Nat)=0:=by
   by_cases e:bits .andNot .i64 (onS T:Nat) (placed T T.groups.length:Nat)=0
   ·exact e
   ·dsimp only at h8;rw [if_neg e] at h8;cases h8
  refine ⟨R,fun x hx=>?_,fun x hx=>?_,fun q hq=>?_,fun p hp=>?_⟩
  ·have G:=(group_iff R (hin x hx)).1 (hg _ (hin x hx))
   exact (first_iff x.g).2 G.2.2 x (mem_inG.2 ⟨hx,rfl⟩)
  ·have G:=(group_iff R (hin x hx)).1 (hg _ (hin x hx))
   exact G.2.1 x.p (List.mem_map.2 ⟨x,mem_inG.2 ⟨hx,rfl⟩,rfl⟩)
  ·have hlt:onS T < 256:=SetM.of_lt _
   have:=(andNot_zero (by omega) (ChkH.placed_lt T _)).1 ho q hq
   obtain ⟨y,hy,_,e⟩:=(has_placed _).1 this
   exact ⟨y,hy,e⟩
  ·have:=List.find?_eq_none.1 h9 p hp
   simpa using this
theorem Fine.inj {T:Tab} (h:Fine T) {x y:Spt} (hx:x ∈ spots T) (hy:y ∈ spots T) (e:x.p=y.p):x=y:=by
 have h1:=h.wh x hx
 rw [e,h.wh y hy] at h1
 exact (Option.some.inj h1).symm
theorem Fine.two {T:Tab} (h:Fine T) {i k:Nat} {x y:Spt} (hi:(spots T)[i]?=some x) (hk:(spots T)[k]?=some y) (hne:i ≠ k):x.p ≠ y.p:=by
 intro e
 have hx:=List.mem_of_getElem? hi
 have hy:=List.mem_of_getElem? hk
 have exy:=h.inj hx hy e
 subst exy
 have hs:=spots_sorted T
 obtain ⟨hi1,hi2⟩:=List.getElem?_eq_some_iff.1 hi
 obtain ⟨hk1,hk2⟩:=List.getElem?_eq_some_iff.1 hk
 rcases Nat.lt_or_gt_of_ne hne with hlt | hlt
 ·have:=List.pairwise_iff_getElem.1 hs i k hi1 hk1 hlt
  rw [hi2,hk2] at this
  exact Lt.irrefl this
 ·have:=List.pairwise_iff_getElem.1 hs k i hk1 hi1 hlt
  rw [hi2,hk2] at this
  exact Lt.irrefl this
theorem Fine.mem {T:Tab} (h:Fine T) {x:Spt} (hx:x ∈ spots T):x.p ∈ ons T:=ChkX.mem_ons.2 (h.on x hx)
theorem Fine.symm {T:Tab} (h:Fine T) {x y:Spt} (hx:x ∈ spots T) (hy:y ∈ spots T):SetM.has (cfAt T x.p) y.p=SetM.has (cfAt T y.p) x.p:=by
 have:=h.cf x.p (h.mem hx)
 unfold confBad at this
 rw [Bool.or_eq_false_iff,List.any_eq_false] at this
 have h2:=this.2 y.p (h.mem hy)
 simp only [Bool.or_eq_true,not_or,bne_iff_ne,ne_eq,Classical.not_not] at h2
 exact h2.1
theorem Fine.clash {T:Tab} (h:Fine T) {x y:Spt} (hx:x ∈ spots T) (hy:y ∈ spots T) (hg:x.g=y.g) (hk:x.k ≠ y.k):SetM.has (cfAt T x.p) y.p=false∧SetM.has (cfAt T y.p) x.p=false:=by
 have hb:beside T x.p y.p=true:=by
  unfold beside
  rw [h.wh x hx,h.wh y hy]
  simp [hg,hk]
 have:=h.cf x.p (h.mem hx)
 unfold confBad at this
 rw [Bool.or_eq_false_iff,List.any_eq_false] at this
 have h2:=this.2 y.p (h.mem hy)
 rw [hb] at h2
 have h3:=h.symm hx hy
 cases e:SetM.has (cfAt T x.p) y.p with
 | false=>exact ⟨rfl,by rw [← h3,e]⟩
 | true=>rw [e] at h2;simp at h2
theorem Fine.count {T:Tab} (h:Fine T):(spots T).length=(ons T).length:=by
 have hnd:((spots T).map Spt.p).Nodup:=by
  unfold List.Nodup
  rw [List.pairwise_map]
  refine (spots_sorted T).imp_of_mem fun {x y} hx hy hlt e=>?_
  have:=h.inj hx hy e
  subst this
  exact Lt.irrefl hlt
 have hno:(ons T).Nodup:=by
  unfold ons SetM.list SetM.upto List.Nodup
  rw [List.pairwise_map]
  exact (List.nodup_range.filter _).imp (fun hne e=>hne (Int.ofNat.inj e))
 have hp:((spots T).map Spt.p).Perm (ons T):=(List.perm_ext_iff_of_nodup hnd hno).2 fun q=>by
  constructor
  ·intro hq
   obtain ⟨x,hx,rfl⟩:=List.mem_map.1 hq
   exact h.mem hx
  ·intro hq
   obtain ⟨y,hy,e⟩:=h.all q (ChkX.mem_ons.1 hq)
   exact List.mem_map.2 ⟨y,hy,e⟩
 rw [← hp.length_eq,List.length_map]
end Bes
namespace RkB
open Go.ChangeShapes Go.WideShapes Go.ChangeAt Go.RowKit
open Tab PlaceM PlanM OnS ChkM ChkI
open RefS (rlist_any rhas_any row_of)
open May (ret_bool infoT infoP)
end RkB
namespace Lcl
open Zip
open Go.ChangeShapes Go.WideShapes Go.ChangeAt Go.RowKit
open Tab PlaceM PlanM OnS ChkM ChkI
open May (infoT)
theorem lclash_any (T:Tab) (h:Hd) (p q:Int) (w:World) (ht:IsTab w h T) (hp:0≤p∧p < 8) (hq:0≤q∧q < 8) :
  Calls Tryz.prog 26 #[.agg (T.cells h).toArray,.int .i64 p,.int .i64 q] w fun e w'=>e=.returned (.bool (SetM.has (cfAt T p) q || SetM.has (cfAt T q) p))∧Below w.heap.size w w':=by
 have A0:Hid (Below w.heap.size w (w.alloc (.cells (T.cells h).toArray 31))):=hJJ ((Below.refl _ _).alloc (Nat.le_refl _) _)
 have BX:=bxd_new ht
 obtain ⟨p,rfl⟩:=Int.eq_ofNat_of_zero_le hp.1
 obtain ⟨q,rfl⟩:=Int.eq_ofNat_of_zero_le hq.1
 have p8:p < 8:=by omega
 have q8:q < 8:=by omega
 have cp:=BX.cf p (by omega) (by omega)
 have cq:=BX.cf q (by omega) (by omega)
 rw [Int.toNat_natCast] at cp cq
 have RH1:=hJJ (RefS.rhas_any (cfAt T p) q)
 have RH2:=hJJ (RefS.rhas_any (cfAt T q) p)
 generalize cfAt T p=sp at *
 generalize cfAt T q=sq at *
 generalize T.cells h=c at *
 clear ht BX hp hq
 go_enter Tryz.func26,Tryz.ntmps26
 go_upto_region 1 with fail
 generalize w.alloc (.cells c.toArray 31)=u at cp cq A0 ⊢
 go_wp2_with fail
 refine (RH1.out _).mono ?_
 rintro e u1 ⟨rfl,rfl⟩
 cases h1:SetM.has sp q with
 | true =>
  go_wp2
  go_ret
  exact ⟨by simp [h1],A0.out⟩
 | false =>
  go_wp2_with fail
  refine (RH2.out _).mono ?_
  rintro e u2 ⟨rfl,rfl⟩
  go_wp2
  go_ret
  exact ⟨by simp [h1],A0.out⟩
end Lcl
namespace ChkE
open Zip
open Go.ChangeShapes Go.WideShapes Go.ChangeAt Go.RowKit
open Tab PlaceM PlanM OnS ChkM ChkA ChkH
open ChkB (laid2)
open Same (below_setRow)
open May (ret_bool infoT infoD infoR infoB)
theorem idx_hit {α:Type} {f:α→Bool} {l:List α} {q:Nat} {v:α} (hv:l[q]?=some v) (hb:f v=true) (hn:∀ (j:Nat) u,j < q→l[j]?=some u→f u=false):idx f l=some (q:Int):=by
 have h:l.findIdx? f=some q:=by
  rw [List.findIdx?_eq_some_iff_getElem]
  obtain ⟨h1,h2⟩:=List.getElem?_eq_some_iff.1 hv
  refine ⟨h1,by rw [h2];exact hb,fun j hj=>?_⟩
  have:=hn j _ hj (List.getElem?_eq_getElem (by omega))
  simp [this]
 unfold idx;rw [h];rfl
theorem idx_miss {α:Type} {f:α→Bool} {l:List α} (hn:∀ (j:Nat) u,l[j]?=some u→f u=false):idx f l=none:=by
 have h:l.findIdx? f=none:=by
  rw [List.findIdx?_eq_none_iff]
  intro x hx
  obtain ⟨j,hj,rfl⟩:=List.getElem_of_mem hx
  exact hn j _ (List.getElem?_eq_getElem hj)
 unfold idx;rw [h];rfl
theorem elem_D (T:Tab) (h:Hd) (code:Int) (bl bb bc:Nat) (bad:Det→Bool) (w:World) (ht:IsTab w h T) (hbl:w.cell? ⟨bl,0,none⟩=some (.func (.func 119) #[] #[])) (hbb:w.cell? ⟨bb,0,none⟩=some (.func (.func 120) #[] #[])) (hbc:w.cell? ⟨bc,0,none⟩=some (.int .i64 code))
  (hbad:∀ (v:Det) W,v ∈ T.dets→Below w.heap.size w W→Calls Tryz.prog 120 #[.agg (T.cells h).toArray,.agg v.cells.toArray] W fun e w'=>e=.returned (.bool (bad v))∧Below W.heap.size W w') :
  Calls Tryz.prog 155 #[.agg (T.cells h).toArray,.pointer (some ⟨bl,0,none⟩),.pointer (some ⟨bb,0,none⟩),.pointer (some ⟨bc,0,none⟩)] w fun e w'=>e=.returned (.agg (fltC code (idx bad T.dets)))∧Below w.heap.size w w':=by
 have hsz:=(cells_ok ht).size
 have IA:Hid ((Tryz.prog.info? 31).map (·.size)=some (T.cells h).length):=hJJ (by rw [List.size_toArray] at hsz;rw [hsz];exact infoT)
 have LS:Hid (∀ W,Below w.heap.size w W→Calls Tryz.prog 119 #[.agg (T.cells h).toArray] W fun e w'=>e=.returned (h.d.val T.dets.length)∧Below W.heap.size W w'):=hJJ (fun W hb=>listD_any T h W (ht.below hb))
 have LT0:=hJJ (Row.lies_new w (T.cells h).toArray 31)
 have HBAD:=hJJ hbad
 have HBL:=hJJ (show ∀ W,Below w.heap.size w W→W.cell? ⟨bl,0,none⟩=some (.func (.func 119) #[] #[]) from fun W hb=>(hb.cell (World.block_lt_of_cell? w _ hbl)).trans hbl)
 have HBB:=hJJ (show ∀ W,Below w.heap.size w W→W.cell? ⟨bb,0,none⟩=some (.func (.func 120) #[] #[]) from fun W hb=>(hb.cell (World.block_lt_of_cell? w _ hbb)).trans hbb)
 have HBC:=hJJ (show ∀ W,Below w.heap.size w W→W.cell? ⟨bc,0,none⟩=some (.int .i64 code) from fun W hb=>(hb.cell (World.block_lt_of_cell? w _ hbc)).trans hbc)
 have hs1:(w.alloc (.cells (T.cells h).toArray 31)).heap.size=w.heap.size+1:=by simp
 have en:=enters_of Tryz.func120 (by kernel_rfl) rfl
 have en2:=enters_of Tryz.func119 (by kernel_rfl) rfl
 have RW:=hJJ ht.dets
 have Kl:=ht.dets.len
 unfold maxLen at Kl
 obtain ⟨o,ho⟩:∃ o,o=idx bad T.dets:=⟨_,rfl⟩
 rw [← ho]
 have HO:=hJJ ho
 clear ht hbad hbl hbb hbc ho
 generalize hSl:h.d=sl at *
 obtain ⟨sa,scap⟩:=sl
 clear hSl
 generalize T.cells h=c at *
 generalize T.dets=l at *
 go_enter Tryz.func155,Tryz.ntmps155
 go_upto_region 1 with fail
 obtain ⟨W1,hW1,E1,E0,EB,bR⟩:=laid2 w (.cells c.toArray 31) (.cells #[.int .i64 0,.int .i64 0] 40)
 rw [hW1]
 have LT:=hJJ (LT0.out.below (by rw [hs1];exact EB))
 have B0:=hJJ E0
 have B2:Hid (W1.heap[w.heap.size+1]?=some (.cells #[.int .i64 0,.int .i64 0] 40 (0,0))):=hJJ bR
 clear hW1 EB hs1 hsz LT0 E0 bR E1
 have hbl:=HBL.out _ B0.out
 go_wp2_with (refine lgZ 31 ⟨w.heap.size,0,none⟩ c rfl LT.out Tryz.underlying31 IA.out ?_)
 (try go_wp2_with fail)
 refine (LS.out _ B0.out).mono ?_
 rintro e W3 ⟨rfl,hb⟩
 have HB3:=hJJ hb
 clear hb hbl
 rw [show (Sl.val ⟨sa,scap⟩ l.length)=.slice sa l.length scap from rfl]
 go_wp2_with fail
 go_loopw [12] (fun a wr=>∃ q:Nat,q≤l.length∧a=.int .i64 q∧(∀ j u,j < q→l[j]?=some u→bad u=false)∧Below W1.heap.size W1 wr) (fun a _=>l.length - (intOf a).toNat)
 case atStart=>exact ⟨0,by omega,rfl,(fun j u h=>by omega),HB3.out⟩
 case round =>
  obtain ⟨q,hq,rfl,hall,hB⟩:=hrel
  have HA:=hJJ hall
  have HB:=hJJ hB
  have BW:Hid (Below w.heap.size w wr):=hJJ (B0.out.trans (hB.mono B0.out.size))
  clear hall hB
  by_cases hlt:q < l.length
  ·have hv:=List.getElem?_eq_getElem hlt
   generalize hz:l[q]=v at hv
   have hmem:v ∈ l:=List.mem_of_getElem? hv
   obtain ⟨x,hx,hc⟩:=(RW.out.below BW.out).at hv
   obtain rfl:sa=some x:=hx
   have HC:=hJJ hc
   have HV:=hJJ hv
   have BD:=hJJ (fun W hb=>HBAD.out v W hmem hb)
   have hwr:=HB.out.size
   clear hv hz hmem hc
   have VO:=hJJ (Det.one v)
   obtain ⟨bv,hbv⟩:∃ z,bad v=z:=⟨_,rfl⟩
   have BDV:=BD
   have IV:Hid ((Tryz.prog.info? 90).map (·.size)=some v.cells.length):=hJJ infoD
   go_upto_region 4 with (first | (refine Row.wpList_load_g 90 _ rfl (by first | rfl | go_simp) (x.add (q*7)) rfl v.cells _ HC.out Tryz.underlying90 rfl IV.out ?_) | (refine Row.wpList_store_new rfl 90 _ _ rfl wr _ v.cells.toArray rfl rfl rfl infoD rfl VO.out ?_))
   have hbn:Below W1.heap.size W1 (wr.alloc (.cells v.cells.toArray 90)):=HB.out.alloc hwr _
   have hbo:Below wr.heap.size wr (wr.alloc (.cells v.cells.toArray 90)):=(Below.refl _ _).alloc (Nat.le_refl _) _
   have hg:=Row.lies_new wr v.cells.toArray 90
   have HL:Hid (Lies (wr.alloc (.cells v.cells.toArray 90)) ⟨wr.heap.size,0,none⟩ v.cells):=hJJ (by simpa using hg)
   have HN:=hJJ hbn
   have LTW:=hJJ ((LT.out.below HB.out).below hbo)
   clear hg hbn hbo HC VO
   generalize v.cells=vc at *
   generalize wr.alloc (.cells vc.toArray 90)=w4 at HL HN LTW ⊢
   generalize wr.heap.size=b4 at HL ⊢
   have BW4:Hid (Below w.heap.size w w4):=hJJ (B0.out.trans (HN.out.mono B0.out.size))
   have hbb:=HBB.out _ BW4.out
   go_wp2_with (first | (refine lgZ 31 ⟨w.heap.size,0,none⟩ c rfl LTW.out Tryz.underlying31 IA.out ?_) | (refine lgZ 90 ⟨b4,0,none⟩ vc rfl HL.out Tryz.underlying90 IV.out ?_))
   (try go_wp2_with fail)
   refine (BD.out _ BW4.out).mono ?_
   rintro e w5 ⟨rfl,hb⟩
   have HN5:=hJJ (HN.out.trans (hb.mono HN.out.size))
   have BW5:Hid (Below w.heap.size w w5):=hJJ (BW4.out.trans (hb.mono BW4.out.size))
   clear hb hbb HN LTW BW4
   rw [hbv]
   cases bv with
   | true =>
    have RO:Hid (o=some (q:Int)):=hJJ (by rw [HO.out];exact idx_hit HV.out hbv HA.out)
    have hbc:=HBC.out _ BW5.out
    have C2:Hid (w5.heap[w.heap.size+1]?=some (.cells #[.int .i64 0,.int .i64 0] 40 (0,0))):=hJJ ((HN5.out.block _ (Array.getElem?_eq_some_iff.1 B2.out).1).trans B2.out)
    clear hbv
    have HW:=hJJ (below_setRow BW5.out (g:=w.heap.size+1) (by omega) #[.int .i64 code,.int .i64 q])
    have HK:=hJJ (setRow_heap w5 (w.heap.size+1) _ #[.int .i64 code,.int .i64 q] _ _ C2.out)
    go_wp2_with (first | (refine wpList_store_row rfl 40 _ _ rfl (w.heap.size+1) #[.int .i64 code,.int .i64 q] rfl rfl 40 _ C2.out infoF rfl (by simp [Value.oneCell']) ?_))
    generalize w5.setRow (w.heap.size+1) #[.int .i64 code,.int .i64 q]=uz at HW HK ⊢
    (try go_wp2_with fail)
    (try simp only [Exit.inBlock,Exit.then])
    refine bodyPost_ret (v:=.agg #[.int .i64 code,.int .i64 q]) ?_ rfl ⟨by rw [RO.out];rfl,HW.out⟩
    exact results_cell_row rfl _ _ (w.heap.size+1) 40 _ (0,0) _ rfl HK.out Tryz.underlying40 rfl infoF
   | false =>
    have HF:=hJJ hbv
    clear hbv
    go_wp2
    go_roundw
    case rel=>exact ⟨q+1,by omega,by go_num,(fun j u hj hu=>by
     by_cases e:j=q
     ·subst e;obtain rfl:=Option.some.inj (hu.symm.trans HV.out);exact HF.out
     ·exact HA.out j u (by omega) hu),HN5.out⟩
    case measure=>simp [intOf];omega
  ·have RO:Hid (o=none):=hJJ (by rw [HO.out];exact idx_miss (fun j u hu=>HA.out j u (by have:=(List.getElem?_eq_some_iff.1 hu).1;omega) hu))
   have C2:Hid (wr.heap[w.heap.size+1]?=some (.cells #[.int .i64 0,.int .i64 0] 40 (0,0))):=hJJ ((HB.out.block _ (Array.getElem?_eq_some_iff.1 B2.out).1).trans B2.out)
   have HW:=hJJ (below_setRow BW.out (g:=w.heap.size+1) (by omega) #[.int .i64 0,.int .i64 0])
   have HK:=hJJ (setRow_heap wr (w.heap.size+1) _ #[.int .i64 0,.int .i64 0] _ _ C2.out)
   go_wp2_with (first | (refine wpList_store_row rfl 40 _ _ rfl (w.heap.size+1) #[.int .i64 0,.int .i64 0] rfl rfl 40 _ C2.out infoF rfl (by simp [Value.oneCell']) ?_))
   generalize wr.setRow (w.heap.size+1) #[.int .i64 0,.int .i64 0]=uz at HW HK ⊢
   (try go_wp2_with fail)
   (try simp only [Exit.inBlock,Exit.then])
   refine bodyPost_ret (v:=.agg #[.int .i64 0,.int .i64 0]) ?_ rfl ⟨by rw [RO.out];rfl,HW.out⟩
   exact results_cell_row rfl _ _ (w.heap.size+1) 40 _ (0,0) _ rfl HK.out Tryz.underlying40 rfl infoF
theorem elem_R (T:Tab) (h:Hd) (code:Int) (bl bb bc:Nat) (bad:Rl→Bool) (w:World) (ht:IsTab w h T) (hbl:w.cell? ⟨bl,0,none⟩=some (.func (.func 122) #[] #[])) (hbb:w.cell? ⟨bb,0,none⟩=some (.func (.func 123) #[] #[])) (hbc:w.cell? ⟨bc,0,none⟩=some (.int .i64 code))
  (hbad:∀ (v:Rl) W,v ∈ T.rails→Below w.heap.size w W→Calls Tryz.prog 123 #[.agg (T.cells h).toArray,.agg v.cells.toArray] W fun e w'=>e=.returned (.bool (bad v))∧Below W.heap.size W w') :
  Calls Tryz.prog 156 #[.agg (T.cells h).toArray,.pointer (some ⟨bl,0,none⟩),.pointer (some ⟨bb,0,none⟩),.pointer (some ⟨bc,0,none⟩)] w fun e w'=>e=.returned (.agg (fltC code (idx bad T.rails)))∧Below w.heap.size w w':=by
 have hsz:=(cells_ok ht).size
 have IA:Hid ((Tryz.prog.info? 31).map (·.size)=some (T.cells h).length):=hJJ (by rw [List.size_toArray] at hsz;rw [hsz];exact infoT)
 have LS:Hid (∀ W,Below w.heap.size w W→Calls Tryz.prog 122 #[.agg (T.cells h).toArray] W fun e w'=>e=.returned (h.r.val T.rails.length)∧Below W.heap.size W w'):=hJJ (fun W hb=>listR_any T h W (ht.below hb))
 have LT0:=hJJ (Row.lies_new w (T.cells h).toArray 31)
 have HBAD:=hJJ hbad
 have HBL:=hJJ (show ∀ W,Below w.heap.size w W→W.cell? ⟨bl,0,none⟩=some (.func (.func 122) #[] #[]) from fun W hb=>(hb.cell (World.block_lt_of_cell? w _ hbl)).trans hbl)
 have HBB:=hJJ (show ∀ W,Below w.heap.size w W→W.cell? ⟨bb,0,none⟩=some (.func (.func 123) #[] #[]) from fun W hb=>(hb.cell (World.block_lt_of_cell? w _ hbb)).trans hbb)
 have HBC:=hJJ (show ∀ W,Below w.heap.size w W→W.cell? ⟨bc,0,none⟩=some (.int .i64 code) from fun W hb=>(hb.cell (World.block_lt_of_cell? w _ hbc)).trans hbc)
 have hs1:(w.alloc (.cells (T.cells h).toArray 31)).heap.size=w.heap.size+1:=by simp
 have en:=enters_of Tryz.func123 (by kernel_rfl) rfl
 have en2:=enters_of Tryz.func122 (by kernel_rfl) rfl
 have RW:=hJJ ht.rails
 have Kl:=ht.rails.len
 unfold maxLen at Kl
 obtain ⟨o,ho⟩:∃ o,o=idx bad T.rails:=⟨_,rfl⟩
 rw [← ho]
 have HO:=hJJ ho
 clear ht hbad hbl hbb hbc ho
 generalize hSl:h.r=sl at *
 obtain ⟨sa,scap⟩:=sl
 clear hSl
 generalize T.cells h=c at *
 generalize T.rails=l at *
 go_enter Tryz.func156,Tryz.ntmps156
 go_upto_region 1 with fail
 obtain ⟨W1,hW1,E1,E0,EB,bR⟩:=laid2 w (.cells c.toArray 31) (.cells #[.int .i64 0,.int .i64 0] 40)
 rw [hW1]
 have LT:=hJJ (LT0.out.below (by rw [hs1];exact EB))
 have B0:=hJJ E0
 have B2:Hid (W1.heap[w.heap.size+1]?=some (.cells #[.int .i64 0,.int .i64 0] 40 (0,0))):=hJJ bR
 clear hW1 EB hs1 hsz LT0 E0 bR E1
 have hbl:=HBL.out _ B0.out
 go_wp2_with (refine lgZ 31 ⟨w.heap.size,0,none⟩ c rfl LT.out Tryz.underlying31 IA.out ?_)
 (try go_wp2_with fail)
 refine (LS.out _ B0.out).mono ?_
 rintro e W3 ⟨rfl,hb⟩
 have HB3:=hJJ hb
 clear hb hbl
 rw [show (Sl.val ⟨sa,scap⟩ l.length)=.slice sa l.length scap from rfl]
 go_wp2_with fail
 go_loopw [12] (fun a wr=>∃ q:Nat,q≤l.length∧a=.int .i64 q∧(∀ j u,j < q→l[j]?=some u→bad u=false)∧Below W1.heap.size W1 wr) (fun a _=>l.length - (intOf a).toNat)
 case atStart=>exact ⟨0,by omega,rfl,(fun j u h=>by omega),HB3.out⟩
 case round =>
  obtain ⟨q,hq,rfl,hall,hB⟩:=hrel
  have HA:=hJJ hall
  have HB:=hJJ hB
  have BW:Hid (Below w.heap.size w wr):=hJJ (B0.out.trans (hB.mono B0.out.size))
  clear hall hB
  by_cases hlt:q < l.length
  ·have hv:=List.getElem?_eq_getElem hlt
   generalize hz:l[q]=v at hv
   have hmem:v ∈ l:=List.mem_of_getElem? hv
   obtain ⟨x,hx,hc⟩:=(RW.out.below BW.out).at hv
   obtain rfl:sa=some x:=hx
   have HC:=hJJ hc
   have HV:=hJJ hv
   have BD:=hJJ (fun W hb=>HBAD.out v W hmem hb)
   have hwr:=HB.out.size
   clear hv hz hmem hc
   have VO:=hJJ (Rl.one v)
   obtain ⟨bv,hbv⟩:∃ z,bad v=z:=⟨_,rfl⟩
   have BDV:=BD
   have IV:Hid ((Tryz.prog.info? 94).map (·.size)=some v.cells.length):=hJJ infoR
   go_upto_region 4 with (first | (refine Row.wpList_load_g 94 _ rfl (by first | rfl | go_simp) (x.add (q*11)) rfl v.cells _ HC.out Tryz.underlying94 rfl IV.out ?_) | (refine Row.wpList_store_new rfl 94 _ _ rfl wr _ v.cells.toArray rfl rfl rfl infoR rfl VO.out ?_))
   have hbn:Below W1.heap.size W1 (wr.alloc (.cells v.cells.toArray 94)):=HB.out.alloc hwr _
   have hbo:Below wr.heap.size wr (wr.alloc (.cells v.cells.toArray 94)):=(Below.refl _ _).alloc (Nat.le_refl _) _
   have hg:=Row.lies_new wr v.cells.toArray 94
   have HL:Hid (Lies (wr.alloc (.cells v.cells.toArray 94)) ⟨wr.heap.size,0,none⟩ v.cells):=hJJ (by simpa using hg)
   have HN:=hJJ hbn
   have LTW:=hJJ ((LT.out.below HB.out).below hbo)
   clear hg hbn hbo HC VO
   generalize v.cells=vc at *
   generalize wr.alloc (.cells vc.toArray 94)=w4 at HL HN LTW ⊢
   generalize wr.heap.size=b4 at HL ⊢
   have BW4:Hid (Below w.heap.size w w4):=hJJ (B0.out.trans (HN.out.mono B0.out.size))
   have hbb:=HBB.out _ BW4.out
   go_wp2_with (first | (refine lgZ 31 ⟨w.heap.size,0,none⟩ c rfl LTW.out Tryz.underlying31 IA.out ?_) | (refine lgZ 94 ⟨b4,0,none⟩ vc rfl HL.out Tryz.underlying94 IV.out ?_))
   (try go_wp2_with fail)
   refine (BD.out _ BW4.out).mono ?_
   rintro e w5 ⟨rfl,hb⟩
   have HN5:=hJJ (HN.out.trans (hb.mono HN.out.size))
   have BW5:Hid (Below w.heap.size w w5):=hJJ (BW4.out.trans (hb.mono BW4.out.size))
   clear hb hbb HN LTW BW4
   rw [hbv]
   cases bv with
   | true =>
    have RO:Hid (o=some (q:Int)):=hJJ (by rw [HO.out];exact idx_hit HV.out hbv HA.out)
    have hbc:=HBC.out _ BW5.out
    have C2:Hid (w5.heap[w.heap.size+1]?=some (.cells #[.int .i64 0,.int .i64 0] 40 (0,0))):=hJJ ((HN5.out.block _ (Array.getElem?_eq_some_iff.1 B2.out).1).trans B2.out)
    clear hbv
    have HW:=hJJ (below_setRow BW5.out (g:=w.heap.size+1) (by omega) #[.int .i64 code,.int .i64 q])
    have HK:=hJJ (setRow_heap w5 (w.heap.size+1) _ #[.int .i64 code,.int .i64 q] _ _ C2.out)
    go_wp2_with (first | (refine wpList_store_row rfl 40 _ _ rfl (w.heap.size+1) #[.int .i64 code,.int .i64 q] rfl rfl 40 _ C2.out infoF rfl (by simp [Value.oneCell']) ?_))
    generalize w5.setRow (w.heap.size+1) #[.int .i64 code,.int .i64 q]=uz at HW HK ⊢
    (try go_wp2_with fail)
    (try simp only [Exit.inBlock,Exit.then])
    refine bodyPost_ret (v:=.agg #[.int .i64 code,.int .i64 q]) ?_ rfl ⟨by rw [RO.out];rfl,HW.out⟩
    exact results_cell_row rfl _ _ (w.heap.size+1) 40 _ (0,0) _ rfl HK.out Tryz.underlying40 rfl infoF
   | false =>
    have HF:=hJJ hbv
    clear hbv
    go_wp2
    go_roundw
    case rel=>exact ⟨q+1,by omega,by go_num,(fun j u hj hu=>by
     by_cases e:j=q
     ·subst e;obtain rfl:=Option.some.inj (hu.symm.trans HV.out);exact HF.out
     ·exact HA.out j u (by omega) hu),HN5.out⟩
    case measure=>simp [intOf];omega
  ·have RO:Hid (o=none):=hJJ (by rw [HO.out];exact idx_miss (fun j u hu=>HA.out j u (by have:=(List.getElem?_eq_some_iff.1 hu).1;omega) hu))
   have C2:Hid (wr.heap[w.heap.size+1]?=some (.cells #[.int .i64 0,.int .i64 0] 40 (0,0))):=hJJ ((HB.out.block _ (Array.getElem?_eq_some_iff.1 B2.out).1).trans B2.out)
   have HW:=hJJ (below_setRow BW.out (g:=w.heap.size+1) (by omega) #[.int .i64 0,.int .i64 0])
   have HK:=hJJ (setRow_heap wr (w.heap.size+1) _ #[.int .i64 0,.int .i64 0] _ _ C2.out)
   go_wp2_with (first | (refine wpList_store_row rfl 40 _ _ rfl (w.heap.size+1) #[.int .i64 0,.int .i64 0] rfl rfl 40 _ C2.out infoF rfl (by simp [Value.oneCell']) ?_))
   generalize wr.setRow (w.heap.size+1) #[.int .i64 0,.int .i64 0]=uz at HW HK ⊢
   (try go_wp2_with fail)
   (try simp only [Exit.inBlock,Exit.then])
   refine bodyPost_ret (v:=.agg #[.int .i64 0,.int .i64 0]) ?_ rfl ⟨by rw [RO.out];rfl,HW.out⟩
   exact results_cell_row rfl _ _ (w.heap.size+1) 40 _ (0,0) _ rfl HK.out Tryz.underlying40 rfl infoF
theorem elem_B (T:Tab) (h:Hd) (code:Int) (bl bb bc:Nat) (bad:Bs→Bool) (w:World) (ht:IsTab w h T) (hbl:w.cell? ⟨bl,0,none⟩=some (.func (.func 125) #[] #[])) (hbb:w.cell? ⟨bb,0,none⟩=some (.func (.func 126) #[] #[])) (hbc:w.cell? ⟨bc,0,none⟩=some (.int .i64 code))
  (hbad:∀ (v:Bs) W,v ∈ T.buses→Below w.heap.size w W→Calls Tryz.prog 126 #[.agg (T.cells h).toArray,.agg v.cells.toArray] W fun e w'=>e=.returned (.bool (bad v))∧Below W.heap.size W w') :
  Calls Tryz.prog 161 #[.agg (T.cells h).toArray,.pointer (some ⟨bl,0,none⟩),.pointer (some ⟨bb,0,none⟩),.pointer (some ⟨bc,0,none⟩)] w fun e w'=>e=.returned (.agg (fltC code (idx bad T.buses)))∧Below w.heap.size w w':=by
 have hsz:=(cells_ok ht).size
 have IA:Hid ((Tryz.prog.info? 31).map (·.size)=some (T.cells h).length):=hJJ (by rw [List.size_toArray] at hsz;rw [hsz];exact infoT)
 have LS:Hid (∀ W,Below w.heap.size w W→Calls Tryz.prog 125 #[.agg (T.cells h).toArray] W fun e w'=>e=.returned (h.b.val T.buses.length)∧Below W.heap.size W w'):=hJJ (fun W hb=>listB_any T h W (ht.below hb))
 have LT0:=hJJ (Row.lies_new w (T.cells h).toArray 31)
 have HBAD:=hJJ hbad
 have HBL:=hJJ (show ∀ W,Below w.heap.size w W→W.cell? ⟨bl,0,none⟩=some (.func (.func 125) #[] #[]) from fun W hb=>(hb.cell (World.block_lt_of_cell? w _ hbl)).trans hbl)
 have HBB:=hJJ (show ∀ W,Below w.heap.size w W→W.cell? ⟨bb,0,none⟩=some (.func (.func 126) #[] #[]) from fun W hb=>(hb.cell (World.block_lt_of_cell? w _ hbb)).trans hbb)
 have HBC:=hJJ (show ∀ W,Below w.heap.size w W→W.cell? ⟨bc,0,none⟩=some (.int .i64 code) from fun W hb=>(hb.cell (World.block_lt_of_cell? w _ hbc)).trans hbc)
 have hs1:(w.alloc (.cells (T.cells h).toArray 31)).heap.size=w.heap.size+1:=by simp
 have en:=enters_of Tryz.func126 (by kernel_rfl) rfl
 have en2:=enters_of Tryz.func125 (by kernel_rfl) rfl
 have RW:=hJJ ht.buses
 have Kl:=ht.buses.len
 unfold maxLen at Kl
 obtain ⟨o,ho⟩:∃ o,o=idx bad T.buses:=⟨_,rfl⟩
 rw [← ho]
 have HO:=hJJ ho
 clear ht hbad hbl hbb hbc ho
 generalize hSl:h.b=sl at *
 obtain ⟨sa,scap⟩:=sl
 clear hSl
 generalize T.cells h=c at *
 generalize T.buses=l at *
 go_enter Tryz.func161,Tryz.ntmps161
 go_upto_region 1 with fail
 obtain ⟨W1,hW1,E1,E0,EB,bR⟩:=laid2 w (.cells c.toArray 31) (.cells #[.int .i64 0,.int .i64 0] 40)
 rw [hW1]
 have LT:=hJJ (LT0.out.below (by rw [hs1];exact EB))
 have B0:=hJJ E0
 have B2:Hid (W1.heap[w.heap.size+1]?=some (.cells #[.int .i64 0,.int .i64 0] 40 (0,0))):=hJJ bR
 clear hW1 EB hs1 hsz LT0 E0 bR E1
 have hbl:=HBL.out _ B0.out
 go_wp2_with (refine lgZ 31 ⟨w.heap.size,0,none⟩ c rfl LT.out Tryz.underlying31 IA.out ?_)
 (try go_wp2_with fail)
 refine (LS.out _ B0.out).mono ?_
 rintro e W3 ⟨rfl,hb⟩
 have HB3:=hJJ hb
 clear hb hbl
 rw [show (Sl.val ⟨sa,scap⟩ l.length)=.slice sa l.length scap from rfl]
 go_wp2_with fail
 go_loopw [12] (fun a wr=>∃ q:Nat,q≤l.length∧a=.int .i64 q∧(∀ j u,j < q→l[j]?=some u→bad u=false)∧Below W1.heap.size W1 wr) (fun a _=>l.length - (intOf a).toNat)
 case atStart=>exact ⟨0,by omega,rfl,(fun j u h=>by omega),HB3.out⟩
 case round =>
  obtain ⟨q,hq,rfl,hall,hB⟩:=hrel
  have HA:=hJJ hall
  have HB:=hJJ hB
  have BW:Hid (Below w.heap.size w wr):=hJJ (B0.out.trans (hB.mono B0.out.size))
  clear hall hB
  by_cases hlt:q < l.length
  ·have hv:=List.getElem?_eq_getElem hlt
   generalize hz:l[q]=v at hv
   have hmem:v ∈ l:=List.mem_of_getElem? hv
   obtain ⟨x,hx,hc⟩:=(RW.out.below BW.out).at hv
   obtain rfl:sa=some x:=hx
   have HC:=hJJ hc
   have HV:=hJJ hv
   have BD:=hJJ (fun W hb=>HBAD.out v W hmem hb)
   have hwr:=HB.out.size
   clear hv hz hmem hc
   have VO:=hJJ (Bs.one v)
   obtain ⟨bv,hbv⟩:∃ z,bad v=z:=⟨_,rfl⟩
   have BDV:=BD
   have IV:Hid ((Tryz.prog.info? 96).map (·.size)=some v.cells.length):=hJJ infoB
   go_upto_region 4 with (first | (refine Row.wpList_load_g 96 _ rfl (by first | rfl | go_simp) (x.add (q*2)) rfl v.cells _ HC.out Tryz.underlying96 rfl IV.out ?_) | (refine Row.wpList_store_new rfl 96 _ _ rfl wr _ v.cells.toArray rfl rfl rfl infoB rfl VO.out ?_))
   have hbn:Below W1.heap.size W1 (wr.alloc (.cells v.cells.toArray 96)):=HB.out.alloc hwr _
   have hbo:Below wr.heap.size wr (wr.alloc (.cells v.cells.toArray 96)):=(Below.refl _ _).alloc (Nat.le_refl _) _
   have hg:=Row.lies_new wr v.cells.toArray 96
   have HL:Hid (Lies (wr.alloc (.cells v.cells.toArray 96)) ⟨wr.heap.size,0,none⟩ v.cells):=hJJ (by simpa using hg)
   have HN:=hJJ hbn
   have LTW:=hJJ ((LT.out.below HB.out).below hbo)
   clear hg hbn hbo HC VO
   generalize v.cells=vc at *
   generalize wr.alloc (.cells vc.toArray 96)=w4 at HL HN LTW ⊢
   generalize wr.heap.size=b4 at HL ⊢
   have BW4:Hid (Below w.heap.size w w4):=hJJ (B0.out.trans (HN.out.mono B0.out.size))
   have hbb:=HBB.out _ BW4.out
   go_wp2_with (first | (refine lgZ 31 ⟨w.heap.size,0,none⟩ c rfl LTW.out Tryz.underlying31 IA.out ?_) | (refine lgZ 96 ⟨b4,0,none⟩ vc rfl HL.out Tryz.underlying96 IV.out ?_))
   (try go_wp2_with fail)
   refine (BD.out _ BW4.out).mono ?_
   rintro e w5 ⟨rfl,hb⟩
   have HN5:=hJJ (HN.out.trans (hb.mono HN.out.size))
   have BW5:Hid (Below w.heap.size w w5):=hJJ (BW4.out.trans (hb.mono BW4.out.size))
   clear hb hbb HN LTW BW4
   rw [hbv]
   cases bv with
   | true =>
    have RO:Hid (o=some (q:Int)):=hJJ (by rw [HO.out];exact idx_hit HV.out hbv HA.out)
    have hbc:=HBC.out _ BW5.out
    have C2:Hid (w5.heap[w.heap.size+1]?=some (.cells #[.int .i64 0,.int .i64 0] 40 (0,0))):=hJJ ((HN5.out.block _ (Array.getElem?_eq_some_iff.1 B2.out).1).trans B2.out)
    clear hbv
    have HW:=hJJ (below_setRow BW5.out (g:=w.heap.size+1) (by omega) #[.int .i64 code,.int .i64 q])
    have HK:=hJJ (setRow_heap w5 (w.heap.size+1) _ #[.int .i64 code,.int .i64 q] _ _ C2.out)
    go_wp2_with (first | (refine wpList_store_row rfl 40 _ _ rfl (w.heap.size+1) #[.int .i64 code,.int .i64 q] rfl rfl 40 _ C2.out infoF rfl (by simp [Value.oneCell']) ?_))
    generalize w5.setRow (w.heap.size+1) #[.int .i64 code,.int .i64 q]=uz at HW HK ⊢
    (try go_wp2_with fail)
    (try simp only [Exit.inBlock,Exit.then])
    refine bodyPost_ret (v:=.agg #[.int .i64 code,.int .i64 q]) ?_ rfl ⟨by rw [RO.out];rfl,HW.out⟩
    exact results_cell_row rfl _ _ (w.heap.size+1) 40 _ (0,0) _ rfl HK.out Tryz.underlying40 rfl infoF
   | false =>
    have HF:=hJJ hbv
    clear hbv
    go_wp2
    go_roundw
    case rel=>exact ⟨q+1,by omega,by go_num,(fun j u hj hu=>by
     by_cases e:j=q
     ·subst e;obtain rfl:=Option.some.inj (hu.symm.trans HV.out);exact HF.out
     ·exact HA.out j u (by omega) hu),HN5.out⟩
    case measure=>simp [intOf];omega
  ·have RO:Hid (o=none):=hJJ (by rw [HO.out];exact idx_miss (fun j u hu=>HA.out j u (by have:=(List.getElem?_eq_some_iff.1 hu).1;omega) hu))
   have C2:Hid (wr.heap[w.heap.size+1]?=some (.cells #[.int .i64 0,.int .i64 0] 40 (0,0))):=hJJ ((HB.out.block _ (Array.getElem?_eq_some_iff.1 B2.out).1).trans B2.out)
   have HW:=hJJ (below_setRow BW.out (g:=w.heap.size+1) (by omega) #[.int .i64 0,.int .i64 0])
   have HK:=hJJ (setRow_heap wr (w.heap.size+1) _ #[.int .i64 0,.int .i64 0] _ _ C2.out)
   go_wp2_with (first | (refine wpList_store_row rfl 40 _ _ rfl (w.heap.size+1) #[.int .i64 0,.int .i64 0] rfl rfl 40 _ C2.out infoF rfl (by simp [Value.oneCell']) ?_))
   generalize wr.setRow (w.heap.size+1) #[.int .i64 0,.int .i64 0]=uz at HW HK ⊢
   (try go_wp2_with fail)
   (try simp only [Exit.inBlock,Exit.then])
   refine bodyPost_ret (v:=.agg #[.int .i64 0,.int .i64 0]) ?_ rfl ⟨by rw [RO.out];rfl,HW.out⟩
   exact results_cell_row rfl _ _ (w.heap.size+1) 40 _ (0,0) _ rfl HK.out Tryz.underlying40 rfl infoF
end ChkE
namespace ChkP
open Zip
open Go.RowKit Go.Shelf
open Tab PlaceM PlanM OnS ChkM Each Search ChkI ChkH
open ChkB (laid2)
open May (infoT)
attribute [local go_sem] Oper.semAt_some
theorem phases_P (T:Tab) (h:Hd) (code:Int) (bb bc:Nat) (bad:Int→Bool) (w:World) (ht:IsTab w h T) (hbb:w.cell? ⟨bb,0,none⟩=some (.func (.func 115) #[] #[])) (hbc:w.cell? ⟨bc,0,none⟩=some (.int .i64 code))
  (hbad:∀ (k:Nat) W,k < 8→Below w.heap.size w W→Calls Tryz.prog 115 #[.agg (T.cells h).toArray,.int .i64 k] W fun e w'=>e=.returned (.bool (bad k))∧Below W.heap.size W w') :
  Calls Tryz.prog 148 #[.agg (T.cells h).toArray,.pointer (some ⟨bb,0,none⟩),.pointer (some ⟨bc,0,none⟩)] w fun e w'=>e=.returned (.agg (fltC code ((ons T).find? bad)))∧Below w.heap.size w w':=by
 have hsz:=(cells_ok ht).size
 have IA:Hid ((Tryz.prog.info? 31).map (·.size)=some (T.cells h).length):=hJJ (by rw [List.size_toArray] at hsz;rw [hsz];exact infoT)
 have ON:Hid (∀ W,Below w.heap.size w W→Calls Tryz.prog 150 #[.agg (T.cells h).toArray] W fun e w'=>e=.returned (.int .i64 (onS T:Nat))∧Below W.heap.size W w'):=hJJ (fun W hb=>PlanO.pon_any T h W (ht.below hb))
 have LT0:=hJJ (Row.lies_new w (T.cells h).toArray 31)
 have HBAD:=hJJ hbad
 have HBB:=hJJ (show ∀ W,Below w.heap.size w W→W.cell? ⟨bb,0,none⟩=some (.func (.func 115) #[] #[]) from fun W hb=>(hb.cell (World.block_lt_of_cell? w _ hbb)).trans hbb)
 have HBC:=hJJ (show ∀ W,Below w.heap.size w W→W.cell? ⟨bc,0,none⟩=some (.int .i64 code) from fun W hb=>(hb.cell (World.block_lt_of_cell? w _ hbc)).trans hbc)
 have hs1:(w.alloc (.cells (T.cells h).toArray 31)).heap.size=w.heap.size+1:=by simp
 have en:=enters_of Tryz.func115 (by kernel_rfl) rfl
 clear ht hbad hbb hbc
 generalize T.cells h=c at *
 refine (callsIn_wide (n:=3)).1 ?_
 refine callsIn_of_wp_marks Tryz.func148 rfl trivial ?_ rfl
 simp only [Tryz.ntmps148,List.size_toArray,List.length_cons,List.length_nil,Nat.reduceAdd,Nat.reduceSub,Array.replicate_succ,Array.replicate_zero,List.push_toArray,List.append_toArray,List.nil_append,List.cons_append]
 refine wpIn_wide.2 ?_
 go_upto_region 1 with fail
 obtain ⟨W1,hW1,E1,E0,EB,bR⟩:=laid2 w (.cells c.toArray 31) (.cells #[.int .i64 0,.int .i64 0] 40)
 rw [hW1]
 have LT:=hJJ (LT0.out.below (by rw [hs1];exact EB))
 have B0:=hJJ E0
 clear hW1 EB hs1 hsz LT0 E0
 go_wp2_with (refine lgZ 31 ⟨w.heap.size,0,none⟩ c rfl LT.out Tryz.underlying31 IA.out ?_)
 refine (ON.out _ B0.out).mono ?_
 rintro e W3 ⟨rfl,hb⟩
 go_wp2_with fail
 refine (callsIn_wide.1 (Each.each_in 3 _ _)).mono ?_
 rintro e w' ⟨rfl,rfl⟩
 go_wp2_with fail
 have hb4:Below W1.heap.size W1 (W3.alloc (.cells #[.int .i64 (onS T:Nat)] 3)):=hb.alloc hb.size _
 have bE:Boxed (W3.alloc (.cells #[.int .i64 (onS T:Nat)] 3)) W3.heap.size 3 (.int .i64 (onS T:Nat)):=Boxed.new _ _ _
 have hsz3:(W3.alloc (.cells #[.int .i64 (onS T:Nat)] 3)).heap.size=W3.heap.size+1:=by simp
 have hs3:=hb.size
 generalize W3.alloc (.cells #[.int .i64 (onS T:Nat)] 3)=W4 at hb4 bE hsz3 ⊢
 have bR4:W4.heap[w.heap.size+1]?=some (.cells #[.int .i64 0,.int .i64 0] 40 (0,0)):=(hb4.block _ (by omega)).trans bR
 have LT4:=hJJ (LT.out.below hb4)
 have C0:Hid (Below w.heap.size w W4):=hJJ (B0.out.trans (hb4.mono B0.out.size))
 have E4:w.heap.size+2 < W4.heap.size:=by omega
 clear hb hb4 bR LT B0 hs3
 generalize W3.heap.size=be at *
 refine (wpIn_wide (n:=3)).1 ?_
 refine search bad (fun x=>.cells #[.int .i64 code,.int .i64 x] 40 (0,0)) be (w.heap.size+1) (onS T:Nat) (by omega) rfl rfl (by omega) (by omega) bE.cell
  (fun x=>{ tmps:=#[.agg c.toArray,.pointer (some ⟨bb,0,none⟩),.pointer (some ⟨bc,0,none⟩),.pointer (some ⟨w.heap.size,0,none⟩),.pointer (some ⟨w.heap.size+1,0,none⟩),.int .i64 x,.agg c.toArray,.int .i64 (onS T:Nat),.func (.func 173) #[] #[.pointer (some ⟨be,0,none⟩)],.int .i64 x,undef,undef,undef,undef,undef,undef,undef,undef],defers:=[] }) ?assign ?body ?done ?stop
 case assign =>
  intro l x W K hK
  gi_wp2
  exact hK
 case body =>
  intro l x W hx hB
  have hx8:=SetM.list_bd _ x hx
  have LTW:=hJJ (LT4.out.below hB)
  have BW:Hid (Below w.heap.size w W):=hJJ (C0.out.trans (hB.mono C0.out.size))
  have hbb:=HBB.out _ BW.out
  have HVR:Hid (W.heap[w.heap.size+1]?=some (.cells #[.int .i64 0,.int .i64 0] 40 (0,0))):=hJJ ((hB.block _ (by omega)).trans bR4)
  obtain ⟨k,rfl⟩:=Int.eq_ofNat_of_zero_le hx8.1
  have hk8:k < 8:=by have:=hx8.2;omega
  have BD:=hJJ (HBAD.out k _ hk8 BW.out)
  clear hB hx hx8
  refine wpIn_block (wpIn_seq ?_)
  refine Up.region_list (fun ⟨_,_,h⟩=>h) (by kernel_rfl) ?_
  go_wp2_with (refine lgZ 31 ⟨w.heap.size,0,none⟩ c rfl LTW.out Tryz.underlying31 IA.out ?_)
  refine (BD.out).mono ?_
  rintro e W2 ⟨rfl,hb⟩
  have HW2:=hJJ hb
  have hbc:=HBC.out _ (BW.out.trans (hb.mono BW.out.size))
  have HV2:Hid (W2.heap[w.heap.size+1]?=some (.cells #[.int .i64 0,.int .i64 0] 40 (0,0))):=hJJ ((hb.block _ (Array.getElem?_eq_some_iff.1 HVR.out).1).trans HVR.out)
  clear hb hbb
  cases hbk:bad k with
  | false =>
   have HB:=hJJ hbk
   clear hbk
   go_wp2_with fail
   gi_wp2
   exact ⟨HB.out,HW2.out⟩
  | true =>
   have HB:=hJJ hbk
   clear hbk
   have HK:=hJJ (setRow_heap W2 (w.heap.size+1) _ #[.int .i64 code,.int .i64 k] _ _ HV2.out)
   have HG:Hid (W2.grownBy (W2.setRow (w.heap.size+1) #[.int .i64 code,.int .i64 k]) (some (w.heap.size+1))):=hJJ (setRow_grown W2 (w.heap.size+1) #[.int .i64 code,.int .i64 k] (Array.getElem?_eq_some_iff.1 HV2.out).1)
   go_wp2_with fail
   refine wpIn_cond_true rfl (wpIn_seq ?_)
   refine Up.region_list (fun ⟨_,_,h⟩=>h) (by kernel_rfl) ?_
   go_wp2_with (refine wpList_store_row rfl 40 _ _ rfl (w.heap.size+1) #[.int .i64 code,.int .i64 k] rfl rfl 40 _ HV2.out infoF rfl (by simp [Value.oneCell']) ?_)
   generalize W2.setRow (w.heap.size+1) #[.int .i64 code,.int .i64 k]=W5 at HK HG ⊢
   (try go_wp2_with fail)
   (try gi_wp2)
   exact ⟨HB.out,grown_trans (grown_of_below HW2.out) HG.out,HK.out⟩
 case done =>
  intro D W hD hall hB hK
  have B1:Hid (W.heap[w.heap.size+1]?=some (.cells #[.int .i64 0,.int .i64 0] 40 (0,0))):=hJJ ((hB.block _ (by omega)).trans bR4)
  have HR:Hid ((ons T).find? bad=none):=hJJ (List.find?_eq_none.2 (fun x hx=>by simp [hall x hx]))
  have HB:Hid (Below w.heap.size w W):=hJJ (C0.out.trans (hB.mono C0.out.size))
  have HW:=hJJ (Same.below_setRow HB.out (g:=w.heap.size+1) (by omega) #[.int .i64 0,.int .i64 0])
  have HC:=hJJ (setRow_heap W (w.heap.size+1) _ #[.int .i64 0,.int .i64 0] _ _ B1.out)
  have hg:=setRow_grown W (w.heap.size+1) #[.int .i64 0,.int .i64 0] (Array.getElem?_eq_some_iff.1 B1.out).1
  have HK':Hid ((W.setRow (w.heap.size+1) #[.int .i64 0,.int .i64 0]).heap[D]?=some (.deferred (some []))):=hJJ ((hg.block D (Array.getElem?_eq_some_iff.1 hK).1 (fun e=>by cases e;omega)).trans hK)
  clear hB hall hg hK
  go_wp2_with (refine wpList_store_row rfl 40 _ _ rfl (w.heap.size+1) #[.int .i64 0,.int .i64 0] rfl rfl 40 _ B1.out infoF rfl (by simp [Value.oneCell']) ?_)
  generalize W.setRow (w.heap.size+1) #[.int .i64 0,.int .i64 0]=W5 at HC HW HK' ⊢
  (try go_wp2_with fail)
  refine ⟨by simp,.inl ⟨_,_,rfl,run_takeDeferred HK'.out,?_⟩⟩
  have hp:(W5.putObj D (.deferred none)).heap[w.heap.size+1]?=some (.cells #[.int .i64 0,.int .i64 0] 40 (0,0)):=(World.putObj_heap_other (by omega)).trans HC.out
  refine ⟨.agg #[.int .i64 0,.int .i64 0],?_,by rw [HR.out];rfl,HW.out.trans (belowK_b (w:=w) (Nat.le_refl _) _ D _ _ (by omega) HK'.out rfl rfl)⟩
  exact results_cell_row rfl _ _ (w.heap.size+1) 40 _ (0,0) _ rfl hp Tryz.underlying40 rfl infoF
 case stop =>
  intro D x W hD hf hx hg hR hK
  have HR:Hid ((ons T).find? bad=some x):=hJJ hf
  have HC:=hJJ hR
  have HB:Hid (Below w.heap.size w W):=hJJ (C0.out.grown hg (by omega) (fun k e=>by cases e;omega))
  clear hf hx hg hR
  gi_wp2
  refine ⟨by simp,.inl ⟨_,_,rfl,run_takeDeferred hK,?_⟩⟩
  have hp:(W.putObj D (.deferred none)).heap[w.heap.size+1]?=some (.cells #[.int .i64 code,.int .i64 x] 40 (0,0)):=(World.putObj_heap_other (by omega)).trans HC.out
  refine ⟨.agg #[.int .i64 code,.int .i64 x],?_,by rw [HR.out];rfl,HB.out.trans (belowK_b (w:=w) (Nat.le_refl _) W D _ _ (by omega) hK rfl rfl)⟩
  exact results_cell_row rfl _ _ (w.heap.size+1) 40 _ (0,0) _ rfl hp Tryz.underlying40 rfl infoF
theorem phases_C (T:Tab) (h:Hd) (code:Int) (bb bc:Nat) (bad:Int→Bool) (w:World) (ht:IsTab w h T) (hbb:w.cell? ⟨bb,0,none⟩=some (.func (.func 117) #[] #[])) (hbc:w.cell? ⟨bc,0,none⟩=some (.int .i64 code))
  (hbad:∀ (k:Nat) W,k < 8→Below w.heap.size w W→Calls Tryz.prog 117 #[.agg (T.cells h).toArray,.int .i64 k] W fun e w'=>e=.returned (.bool (bad k))∧Below W.heap.size W w') :
  Calls Tryz.prog 148 #[.agg (T.cells h).toArray,.pointer (some ⟨bb,0,none⟩),.pointer (some ⟨bc,0,none⟩)] w fun e w'=>e=.returned (.agg (fltC code ((ons T).find? bad)))∧Below w.heap.size w w':=by
 have hsz:=(cells_ok ht).size
 have IA:Hid ((Tryz.prog.info? 31).map (·.size)=some (T.cells h).length):=hJJ (by rw [List.size_toArray] at hsz;rw [hsz];exact infoT)
 have ON:Hid (∀ W,Below w.heap.size w W→Calls Tryz.prog 150 #[.agg (T.cells h).toArray] W fun e w'=>e=.returned (.int .i64 (onS T:Nat))∧Below W.heap.size W w'):=hJJ (fun W hb=>PlanO.pon_any T h W (ht.below hb))
 have LT0:=hJJ (Row.lies_new w (T.cells h).toArray 31)
 have HBAD:=hJJ hbad
 have HBB:=hJJ (show ∀ W,Below w.heap.size w W→W.cell? ⟨bb,0,none⟩=some (.func (.func 117) #[] #[]) from fun W hb=>(hb.cell (World.block_lt_of_cell? w _ hbb)).trans hbb)
 have HBC:=hJJ (show ∀ W,Below w.heap.size w W→W.cell? ⟨bc,0,none⟩=some (.int .i64 code) from fun W hb=>(hb.cell (World.block_lt_of_cell? w _ hbc)).trans hbc)
 have hs1:(w.alloc (.cells (T.cells h).toArray 31)).heap.size=w.heap.size+1:=by simp
 have en:=enters_of Tryz.func117 (by kernel_rfl) rfl
 clear ht hbad hbb hbc
 generalize T.cells h=c at *
 refine (callsIn_wide (n:=3)).1 ?_
 refine callsIn_of_wp_marks Tryz.func148 rfl trivial ?_ rfl
 simp only [Tryz.ntmps148,List.size_toArray,List.length_cons,List.length_nil,Nat.reduceAdd,Nat.reduceSub,Array.replicate_succ,Array.replicate_zero,List.push_toArray,List.append_toArray,List.nil_append,List.cons_append]
 refine wpIn_wide.2 ?_
 go_upto_region 1 with fail
 obtain ⟨W1,hW1,E1,E0,EB,bR⟩:=laid2 w (.cells c.toArray 31) (.cells #[.int .i64 0,.int .i64 0] 40)
 rw [hW1]
 have LT:=hJJ (LT0.out.below (by rw [hs1];exact EB))
 have B0:=hJJ E0
 clear hW1 EB hs1 hsz LT0 E0
 go_wp2_with (refine lgZ 31 ⟨w.heap.size,0,none⟩ c rfl LT.out Tryz.underlying31 IA.out ?_)
 refine (ON.out _ B0.out).mono ?_
 rintro e W3 ⟨rfl,hb⟩
 go_wp2_with fail
 refine (callsIn_wide.1 (Each.each_in 3 _ _)).mono ?_
 rintro e w' ⟨rfl,rfl⟩
 go_wp2_with fail
 have hb4:Below W1.heap.size W1 (W3.alloc (.cells #[.int .i64 (onS T:Nat)] 3)):=hb.alloc hb.size _
 have bE:Boxed (W3.alloc (.cells #[.int .i64 (onS T:Nat)] 3)) W3.heap.size 3 (.int .i64 (onS T:Nat)):=Boxed.new _ _ _
 have hsz3:(W3.alloc (.cells #[.int .i64 (onS T:Nat)] 3)).heap.size=W3.heap.size+1:=by simp
 have hs3:=hb.size
 generalize W3.alloc (.cells #[.int .i64 (onS T:Nat)] 3)=W4 at hb4 bE hsz3 ⊢
 have bR4:W4.heap[w.heap.size+1]?=some (.cells #[.int .i64 0,.int .i64 0] 40 (0,0)):=(hb4.block _ (by omega)).trans bR
 have LT4:=hJJ (LT.out.below hb4)
 have C0:Hid (Below w.heap.size w W4):=hJJ (B0.out.trans (hb4.mono B0.out.size))
 have E4:w.heap.size+2 < W4.heap.size:=by omega
 clear hb hb4 bR LT B0 hs3
 generalize W3.heap.size=be at *
 refine (wpIn_wide (n:=3)).1 ?_
 refine search bad (fun x=>.cells #[.int .i64 code,.int .i64 x] 40 (0,0)) be (w.heap.size+1) (onS T:Nat) (by omega) rfl rfl (by omega) (by omega) bE.cell
  (fun x=>{ tmps:=#[.agg c.toArray,.pointer (some ⟨bb,0,none⟩),.pointer (some ⟨bc,0,none⟩),.pointer (some ⟨w.heap.size,0,none⟩),.pointer (some ⟨w.heap.size+1,0,none⟩),.int .i64 x,.agg c.toArray,.int .i64 (onS T:Nat),.func (.func 173) #[] #[.pointer (some ⟨be,0,none⟩)],.int .i64 x,undef,undef,undef,undef,undef,undef,undef,undef],defers:=[] }) ?assign ?body ?done ?stop
 case assign =>
  intro l x W K hK
  gi_wp2
  exact hK
 case body =>
  intro l x W hx hB
  have hx8:=SetM.list_bd _ x hx
  have LTW:=hJJ (LT4.out.below hB)
  have BW:Hid (Below w.heap.size w W):=hJJ (C0.out.trans (hB.mono C0.out.size))
  have hbb:=HBB.out _ BW.out
  have HVR:Hid (W.heap[w.heap.size+1]?=some (.cells #[.int .i64 0,.int .i64 0] 40 (0,0))):=hJJ ((hB.block _ (by omega)).trans bR4)
  obtain ⟨k,rfl⟩:=Int.eq_ofNat_of_zero_le hx8.1
  have hk8:k < 8:=by have:=hx8.2;omega
  have BD:=hJJ (HBAD.out k _ hk8 BW.out)
  clear hB hx hx8
  refine wpIn_block (wpIn_seq ?_)
  refine Up.region_list (fun ⟨_,_,h⟩=>h) (by kernel_rfl) ?_
  go_wp2_with (refine lgZ 31 ⟨w.heap.size,0,none⟩ c rfl LTW.out Tryz.underlying31 IA.out ?_)
  refine (BD.out).mono ?_
  rintro e W2 ⟨rfl,hb⟩
  have HW2:=hJJ hb
  have hbc:=HBC.out _ (BW.out.trans (hb.mono BW.out.size))
  have HV2:Hid (W2.heap[w.heap.size+1]?=some (.cells #[.int .i64 0,.int .i64 0] 40 (0,0))):=hJJ ((hb.block _ (Array.getElem?_eq_some_iff.1 HVR.out).1).trans HVR.out)
  clear hb hbb
  cases hbk:bad k with
  | false =>
   have HB:=hJJ hbk
   clear hbk
   go_wp2_with fail
   gi_wp2
   exact ⟨HB.out,HW2.out⟩
  | true =>
   have HB:=hJJ hbk
   clear hbk
   have HK:=hJJ (setRow_heap W2 (w.heap.size+1) _ #[.int .i64 code,.int .i64 k] _ _ HV2.out)
   have HG:Hid (W2.grownBy (W2.setRow (w.heap.size+1) #[.int .i64 code,.int .i64 k]) (some (w.heap.size+1))):=hJJ (setRow_grown W2 (w.heap.size+1) #[.int .i64 code,.int .i64 k] (Array.getElem?_eq_some_iff.1 HV2.out).1)
   go_wp2_with fail
   refine wpIn_cond_true rfl (wpIn_seq ?_)
   refine Up.region_list (fun ⟨_,_,h⟩=>h) (by kernel_rfl) ?_
   go_wp2_with (refine wpList_store_row rfl 40 _ _ rfl (w.heap.size+1) #[.int .i64 code,.int .i64 k] rfl rfl 40 _ HV2.out infoF rfl (by simp [Value.oneCell']) ?_)
   generalize W2.setRow (w.heap.size+1) #[.int .i64 code,.int .i64 k]=W5 at HK HG ⊢
   (try go_wp2_with fail)
   (try gi_wp2)
   exact ⟨HB.out,grown_trans (grown_of_below HW2.out) HG.out,HK.out⟩
 case done =>
  intro D W hD hall hB hK
  have B1:Hid (W.heap[w.heap.size+1]?=some (.cells #[.int .i64 0,.int .i64 0] 40 (0,0))):=hJJ ((hB.block _ (by omega)).trans bR4)
  have HR:Hid ((ons T).find? bad=none):=hJJ (List.find?_eq_none.2 (fun x hx=>by simp [hall x hx]))
  have HB:Hid (Below w.heap.size w W):=hJJ (C0.out.trans (hB.mono C0.out.size))
  have HW:=hJJ (Same.below_setRow HB.out (g:=w.heap.size+1) (by omega) #[.int .i64 0,.int .i64 0])
  have HC:=hJJ (setRow_heap W (w.heap.size+1) _ #[.int .i64 0,.int .i64 0] _ _ B1.out)
  have hg:=setRow_grown W (w.heap.size+1) #[.int .i64 0,.int .i64 0] (Array.getElem?_eq_some_iff.1 B1.out).1
  have HK':Hid ((W.setRow (w.heap.size+1) #[.int .i64 0,.int .i64 0]).heap[D]?=some (.deferred (some []))):=hJJ ((hg.block D (Array.getElem?_eq_some_iff.1 hK).1 (fun e=>by cases e;omega)).trans hK)
  clear hB hall hg hK
  go_wp2_with (refine wpList_store_row rfl 40 _ _ rfl (w.heap.size+1) #[.int .i64 0,.int .i64 0] rfl rfl 40 _ B1.out infoF rfl (by simp [Value.oneCell']) ?_)
  generalize W.setRow (w.heap.size+1) #[.int .i64 0,.int .i64 0]=W5 at HC HW HK' ⊢
  (try go_wp2_with fail)
  refine ⟨by simp,.inl ⟨_,_,rfl,run_takeDeferred HK'.out,?_⟩⟩
  have hp:(W5.putObj D (.deferred none)).heap[w.heap.size+1]?=some (.cells #[.int .i64 0,.int .i64 0] 40 (0,0)):=(World.putObj_heap_other (by omega)).trans HC.out
  refine ⟨.agg #[.int .i64 0,.int .i64 0],?_,by rw [HR.out];rfl,HW.out.trans (belowK_b (w:=w) (Nat.le_refl _) _ D _ _ (by omega) HK'.out rfl rfl)⟩
  exact results_cell_row rfl _ _ (w.heap.size+1) 40 _ (0,0) _ rfl hp Tryz.underlying40 rfl infoF
 case stop =>
  intro D x W hD hf hx hg hR hK
  have HR:Hid ((ons T).find? bad=some x):=hJJ hf
  have HC:=hJJ hR
  have HB:Hid (Below w.heap.size w W):=hJJ (C0.out.grown hg (by omega) (fun k e=>by cases e;omega))
  clear hf hx hg hR
  gi_wp2
  refine ⟨by simp,.inl ⟨_,_,rfl,run_takeDeferred hK,?_⟩⟩
  have hp:(W.putObj D (.deferred none)).heap[w.heap.size+1]?=some (.cells #[.int .i64 code,.int .i64 x] 40 (0,0)):=(World.putObj_heap_other (by omega)).trans HC.out
  refine ⟨.agg #[.int .i64 code,.int .i64 x],?_,by rw [HR.out];rfl,HB.out.trans (belowK_b (w:=w) (Nat.le_refl _) W D _ _ (by omega) hK rfl rfl)⟩
  exact results_cell_row rfl _ _ (w.heap.size+1) 40 _ (0,0) _ rfl hp Tryz.underlying40 rfl infoF
theorem phases_F (T:Tab) (h:Hd) (code:Int) (bb bc:Nat) (bad:Int→Bool) (w:World) (ht:IsTab w h T) (hbb:w.cell? ⟨bb,0,none⟩=some (.func (.func 127) #[] #[])) (hbc:w.cell? ⟨bc,0,none⟩=some (.int .i64 code))
  (hbad:∀ (k:Nat) W,k < 8→Below w.heap.size w W→Calls Tryz.prog 127 #[.agg (T.cells h).toArray,.int .i64 k] W fun e w'=>e=.returned (.bool (bad k))∧Below W.heap.size W w') :
  Calls Tryz.prog 148 #[.agg (T.cells h).toArray,.pointer (some ⟨bb,0,none⟩),.pointer (some ⟨bc,0,none⟩)] w fun e w'=>e=.returned (.agg (fltC code ((ons T).find? bad)))∧Below w.heap.size w w':=by
 have hsz:=(cells_ok ht).size
 have IA:Hid ((Tryz.prog.info? 31).map (·.size)=some (T.cells h).length):=hJJ (by rw [List.size_toArray] at hsz;rw [hsz];exact infoT)
 have ON:Hid (∀ W,Below w.heap.size w W→Calls Tryz.prog 150 #[.agg (T.cells h).toArray] W fun e w'=>e=.returned (.int .i64 (onS T:Nat))∧Below W.heap.size W w'):=hJJ (fun W hb=>PlanO.pon_any T h W (ht.below hb))
 have LT0:=hJJ (Row.lies_new w (T.cells h).toArray 31)
 have HBAD:=hJJ hbad
 have HBB:=hJJ (show ∀ W,Below w.heap.size w W→W.cell? ⟨bb,0,none⟩=some (.func (.func 127) #[] #[]) from fun W hb=>(hb.cell (World.block_lt_of_cell? w _ hbb)).trans hbb)
 have HBC:=hJJ (show ∀ W,Below w.heap.size w W→W.cell? ⟨bc,0,none⟩=some (.int .i64 code) from fun W hb=>(hb.cell (World.block_lt_of_cell? w _ hbc)).trans hbc)
 have hs1:(w.alloc (.cells (T.cells h).toArray 31)).heap.size=w.heap.size+1:=by simp
 have en:=enters_of Tryz.func127 (by kernel_rfl) rfl
 clear ht hbad hbb hbc
 generalize T.cells h=c at *
 refine (callsIn_wide (n:=3)).1 ?_
 refine callsIn_of_wp_marks Tryz.func148 rfl trivial ?_ rfl
 simp only [Tryz.ntmps148,List.size_toArray,List.length_cons,List.length_nil,Nat.reduceAdd,Nat.reduceSub,Array.replicate_succ,Array.replicate_zero,List.push_toArray,List.append_toArray,List.nil_append,List.cons_append]
 refine wpIn_wide.2 ?_
 go_upto_region 1 with fail
 obtain ⟨W1,hW1,E1,E0,EB,bR⟩:=laid2 w (.cells c.toArray 31) (.cells #[.int .i64 0,.int .i64 0] 40)
 rw [hW1]
 have LT:=hJJ (LT0.out.below (by rw [hs1];exact EB))
 have B0:=hJJ E0
 clear hW1 EB hs1 hsz LT0 E0
 go_wp2_with (refine lgZ 31 ⟨w.heap.size,0,none⟩ c rfl LT.out Tryz.underlying31 IA.out ?_)
 refine (ON.out _ B0.out).mono ?_
 rintro e W3 ⟨rfl,hb⟩
 go_wp2_with fail
 refine (callsIn_wide.1 (Each.each_in 3 _ _)).mono ?_
 rintro e w' ⟨rfl,rfl⟩
 go_wp2_with fail
 have hb4:Below W1.heap.size W1 (W3.alloc (.cells #[.int .i64 (onS T:Nat)] 3)):=hb.alloc hb.size _
 have bE:Boxed (W3.alloc (.cells #[.int .i64 (onS T:Nat)] 3)) W3.heap.size 3 (.int .i64 (onS T:Nat)):=Boxed.new _ _ _
 have hsz3:(W3.alloc (.cells #[.int .i64 (onS T:Nat)] 3)).heap.size=W3.heap.size+1:=by simp
 have hs3:=hb.size
 generalize W3.alloc (.cells #[.int .i64 (onS T:Nat)] 3)=W4 at hb4 bE hsz3 ⊢
 have bR4:W4.heap[w.heap.size+1]?=some (.cells #[.int .i64 0,.int .i64 0] 40 (0,0)):=(hb4.block _ (by omega)).trans bR
 have LT4:=hJJ (LT.out.below hb4)
 have C0:Hid (Below w.heap.size w W4):=hJJ (B0.out.trans (hb4.mono B0.out.size))
 have E4:w.heap.size+2 < W4.heap.size:=by omega
 clear hb hb4 bR LT B0 hs3
 generalize W3.heap.size=be at *
 refine (wpIn_wide (n:=3)).1 ?_
 refine search bad (fun x=>.cells #[.int .i64 code,.int .i64 x] 40 (0,0)) be (w.heap.size+1) (onS T:Nat) (by omega) rfl rfl (by omega) (by omega) bE.cell
  (fun x=>{ tmps:=#[.agg c.toArray,.pointer (some ⟨bb,0,none⟩),.pointer (some ⟨bc,0,none⟩),.pointer (some ⟨w.heap.size,0,none⟩),.pointer (some ⟨w.heap.size+1,0,none⟩),.int .i64 x,.agg c.toArray,.int .i64 (onS T:Nat),.func (.func 173) #[] #[.pointer (some ⟨be,0,none⟩)],.int .i64 x,undef,undef,undef,undef,undef,undef,undef,undef],defers:=[] }) ?assign ?body ?done ?stop
 case assign =>
  intro l x W K hK
  gi_wp2
  exact hK
 case body =>
  intro l x W hx hB
  have hx8:=SetM.list_bd _ x hx
  have LTW:=hJJ (LT4.out.below hB)
  have BW:Hid (Below w.heap.size w W):=hJJ (C0.out.trans (hB.mono C0.out.size))
  have hbb:=HBB.out _ BW.out
  have HVR:Hid (W.heap[w.heap.size+1]?=some (.cells #[.int .i64 0,.int .i64 0] 40 (0,0))):=hJJ ((hB.block _ (by omega)).trans bR4)
  obtain ⟨k,rfl⟩:=Int.eq_ofNat_of_zero_le hx8.1
  have hk8:k < 8:=by have:=hx8.2;omega
  have BD:=hJJ (HBAD.out k _ hk8 BW.out)
  clear hB hx hx8
  refine wpIn_block (wpIn_seq ?_)
  refine Up.region_list (fun ⟨_,_,h⟩=>h) (by kernel_rfl) ?_
  go_wp2_with (refine lgZ 31 ⟨w.heap.size,0,none⟩ c rfl LTW.out Tryz.underlying31 IA.out ?_)
  refine (BD.out).mono ?_
  rintro e W2 ⟨rfl,hb⟩
  have HW2:=hJJ hb
  have hbc:=HBC.out _ (BW.out.trans (hb.mono BW.out.size))
  have HV2:Hid (W2.heap[w.heap.size+1]?=some (.cells #[.int .i64 0,.int .i64 0] 40 (0,0))):=hJJ ((hb.block _ (Array.getElem?_eq_some_iff.1 HVR.out).1).trans HVR.out)
  clear hb hbb
  cases hbk:bad k with
  | false =>
   have HB:=hJJ hbk
   clear hbk
   go_wp2_with fail
   gi_wp2
   exact ⟨HB.out,HW2.out⟩
  | true =>
   have HB:=hJJ hbk
   clear hbk
   have HK:=hJJ (setRow_heap W2 (w.heap.size+1) _ #[.int .i64 code,.int .i64 k] _ _ HV2.out)
   have HG:Hid (W2.grownBy (W2.setRow (w.heap.size+1) #[.int .i64 code,.int .i64 k]) (some (w.heap.size+1))):=hJJ (setRow_grown W2 (w.heap.size+1) #[.int .i64 code,.int .i64 k] (Array.getElem?_eq_some_iff.1 HV2.out).1)
   go_wp2_with fail
   refine wpIn_cond_true rfl (wpIn_seq ?_)
   refine Up.region_list (fun ⟨_,_,h⟩=>h) (by kernel_rfl) ?_
   go_wp2_with (refine wpList_store_row rfl 40 _ _ rfl (w.heap.size+1) #[.int .i64 code,.int .i64 k] rfl rfl 40 _ HV2.out infoF rfl (by simp [Value.oneCell']) ?_)
   generalize W2.setRow (w.heap.size+1) #[.int .i64 code,.int .i64 k]=W5 at HK HG ⊢
   (try go_wp2_with fail)
   (try gi_wp2)
   exact ⟨HB.out,grown_trans (grown_of_below HW2.out) HG.out,HK.out⟩
 case done =>
  intro D W hD hall hB hK
  have B1:Hid (W.heap[w.heap.size+1]?=some (.cells #[.int .i64 0,.int .i64 0] 40 (0,0))):=hJJ ((hB.block _ (by omega)).trans bR4)
  have HR:Hid ((ons T).find? bad=none):=hJJ (List.find?_eq_none.2 (fun x hx=>by simp [hall x hx]))
  have HB:Hid (Below w.heap.size w W):=hJJ (C0.out.trans (hB.mono C0.out.size))
  have HW:=hJJ (Same.below_setRow HB.out (g:=w.heap.size+1) (by omega) #[.int .i64 0,.int .i64 0])
  have HC:=hJJ (setRow_heap W (w.heap.size+1) _ #[.int .i64 0,.int .i64 0] _ _ B1.out)
  have hg:=setRow_grown W (w.heap.size+1) #[.int .i64 0,.int .i64 0] (Array.getElem?_eq_some_iff.1 B1.out).1
  have HK':Hid ((W.setRow (w.heap.size+1) #[.int .i64 0,.int .i64 0]).heap[D]?=some (.deferred (some []))):=hJJ ((hg.block D (Array.getElem?_eq_some_iff.1 hK).1 (fun e=>by cases e;omega)).trans hK)
  clear hB hall hg hK
  go_wp2_with (refine wpList_store_row rfl 40 _ _ rfl (w.heap.size+1) #[.int .i64 0,.int .i64 0] rfl rfl 40 _ B1.out infoF rfl (by simp [Value.oneCell']) ?_)
  generalize W.setRow (w.heap.size+1) #[.int .i64 0,.int .i64 0]=W5 at HC HW HK' ⊢
  (try go_wp2_with fail)
  refine ⟨by simp,.inl ⟨_,_,rfl,run_takeDeferred HK'.out,?_⟩⟩
  have hp:(W5.putObj D (.deferred none)).heap[w.heap.size+1]?=some (.cells #[.int .i64 0,.int .i64 0] 40 (0,0)):=(World.putObj_heap_other (by omega)).trans HC.out
  refine ⟨.agg #[.int .i64 0,.int .i64 0],?_,by rw [HR.out];rfl,HW.out.trans (belowK_b (w:=w) (Nat.le_refl _) _ D _ _ (by omega) HK'.out rfl rfl)⟩
  exact results_cell_row rfl _ _ (w.heap.size+1) 40 _ (0,0) _ rfl hp Tryz.underlying40 rfl infoF
 case stop =>
  intro D x W hD hf hx hg hR hK
  have HR:Hid ((ons T).find? bad=some x):=hJJ hf
  have HC:=hJJ hR
  have HB:Hid (Below w.heap.size w W):=hJJ (C0.out.grown hg (by omega) (fun k e=>by cases e;omega))
  clear hf hx hg hR
  gi_wp2
  refine ⟨by simp,.inl ⟨_,_,rfl,run_takeDeferred hK,?_⟩⟩
  have hp:(W.putObj D (.deferred none)).heap[w.heap.size+1]?=some (.cells #[.int .i64 code,.int .i64 x] 40 (0,0)):=(World.putObj_heap_other (by omega)).trans HC.out
  refine ⟨.agg #[.int .i64 code,.int .i64 x],?_,by rw [HR.out];rfl,HB.out.trans (belowK_b (w:=w) (Nat.le_refl _) W D _ _ (by omega) hK rfl rfl)⟩
  exact results_cell_row rfl _ _ (w.heap.size+1) 40 _ (0,0) _ rfl hp Tryz.underlying40 rfl infoF
end ChkP
namespace ChkQ
open Zip
open Go.ChangeShapes Go.WideShapes Go.ChangeAt Go.RowKit
open Tab ChkM ChkH
open ChkB (laid2)
open Each (Kept)
theorem mkphases_P (code:Int) (w:World):Calls Tryz.prog 114 #[.int .i64 code,.func (.func 115) #[] #[]] w fun e w' =>
  e=.returned (.func (.func 148) #[] #[.pointer (some ⟨w.heap.size+1,0,none⟩),.pointer (some ⟨w.heap.size,0,none⟩)])∧w'=(w.alloc (.cells #[.int .i64 code] 35)).alloc (.cells #[.func (.func 115) #[] #[]] 160):=by
 go_enter Tryz.func114,Tryz.ntmps114
 go_wp2
 go_ret
 exact ⟨rfl,rfl⟩
theorem mkphases_C (code:Int) (w:World):Calls Tryz.prog 114 #[.int .i64 code,.func (.func 117) #[] #[]] w fun e w' =>
  e=.returned (.func (.func 148) #[] #[.pointer (some ⟨w.heap.size+1,0,none⟩),.pointer (some ⟨w.heap.size,0,none⟩)])∧w'=(w.alloc (.cells #[.int .i64 code] 35)).alloc (.cells #[.func (.func 117) #[] #[]] 160):=by
 go_enter Tryz.func114,Tryz.ntmps114
 go_wp2
 go_ret
 exact ⟨rfl,rfl⟩
theorem mkphases_F (code:Int) (w:World):Calls Tryz.prog 114 #[.int .i64 code,.func (.func 127) #[] #[]] w fun e w' =>
  e=.returned (.func (.func 148) #[] #[.pointer (some ⟨w.heap.size+1,0,none⟩),.pointer (some ⟨w.heap.size,0,none⟩)])∧w'=(w.alloc (.cells #[.int .i64 code] 35)).alloc (.cells #[.func (.func 127) #[] #[]] 160):=by
 go_enter Tryz.func114,Tryz.ntmps114
 go_wp2
 go_ret
 exact ⟨rfl,rfl⟩
theorem mkelem_D (code:Int) (w:World):Calls Tryz.prog 118 #[.int .i64 code,.func (.func 119) #[] #[],.func (.func 120) #[] #[]] w fun e w' =>
  e=.returned (.func (.func 155) #[] #[.pointer (some ⟨w.heap.size+1,0,none⟩),.pointer (some ⟨w.heap.size+1+1,0,none⟩),.pointer (some ⟨w.heap.size,0,none⟩)])∧w'=((w.alloc (.cells #[.int .i64 code] 35)).alloc (.cells #[.func (.func 119) #[] #[]] 162)).alloc (.cells #[.func (.func 120) #[] #[]] 163):=by
 go_enter Tryz.func118,Tryz.ntmps118
 go_wp2
 go_ret
 exact ⟨rfl,rfl⟩
theorem mkelem_R (code:Int) (w:World):Calls Tryz.prog 121 #[.int .i64 code,.func (.func 122) #[] #[],.func (.func 123) #[] #[]] w fun e w' =>
  e=.returned (.func (.func 156) #[] #[.pointer (some ⟨w.heap.size+1,0,none⟩),.pointer (some ⟨w.heap.size+1+1,0,none⟩),.pointer (some ⟨w.heap.size,0,none⟩)])∧w'=((w.alloc (.cells #[.int .i64 code] 35)).alloc (.cells #[.func (.func 122) #[] #[]] 165)).alloc (.cells #[.func (.func 123) #[] #[]] 166):=by
 go_enter Tryz.func121,Tryz.ntmps121
 go_wp2
 go_ret
 exact ⟨rfl,rfl⟩
theorem mkelem_B (code:Int) (w:World):Calls Tryz.prog 124 #[.int .i64 code,.func (.func 125) #[] #[],.func (.func 126) #[] #[]] w fun e w' =>
  e=.returned (.func (.func 161) #[] #[.pointer (some ⟨w.heap.size+1,0,none⟩),.pointer (some ⟨w.heap.size+1+1,0,none⟩),.pointer (some ⟨w.heap.size,0,none⟩)])∧w'=((w.alloc (.cells #[.int .i64 code] 35)).alloc (.cells #[.func (.func 125) #[] #[]] 168)).alloc (.cells #[.func (.func 126) #[] #[]] 169):=by
 go_enter Tryz.func124,Tryz.ntmps124
 go_wp2
 go_ret
 exact ⟨rfl,rfl⟩
def fns (n:Nat):Array Value:=#[.func (.func 113) #[] #[],.func (.func 148) #[] #[.pointer (some ⟨n+1+1,0,none⟩),.pointer (some ⟨n+1,0,none⟩)],.func (.func 116) #[] #[],.func (.func 148) #[] #[.pointer (some ⟨n+3+1,0,none⟩),.pointer (some ⟨n+3,0,none⟩)],.func (.func 155) #[] #[.pointer (some ⟨n+5+1,0,none⟩),.pointer (some ⟨n+5+1+1,0,none⟩),.pointer (some ⟨n+5,0,none⟩)],.func (.func 156) #[] #[.pointer (some ⟨n+8+1,0,none⟩),.pointer (some ⟨n+8+1+1,0,none⟩),.pointer (some ⟨n+8,0,none⟩)],.func (.func 161) #[] #[.pointer (some ⟨n+11+1,0,none⟩),.pointer (some ⟨n+11+1+1,0,none⟩),.pointer (some ⟨n+11,0,none⟩)],.func (.func 148) #[] #[.pointer (some ⟨n+14+1,0,none⟩),.pointer (some ⟨n+14,0,none⟩)]]
structure Lie (n:Nat) (W:World):Prop where
 c1:W.cell? ⟨n+1,0,none⟩=some (.int .i64 7)
 c2:W.cell? ⟨n+2,0,none⟩=some (.func (.func 115) #[] #[])
 c3:W.cell? ⟨n+3,0,none⟩=some (.int .i64 9)
 c4:W.cell? ⟨n+4,0,none⟩=some (.func (.func 117) #[] #[])
 c5:W.cell? ⟨n+5,0,none⟩=some (.int .i64 10)
 c6:W.cell? ⟨n+6,0,none⟩=some (.func (.func 119) #[] #[])
 c7:W.cell? ⟨n+7,0,none⟩=some (.func (.func 120) #[] #[])
 c8:W.cell? ⟨n+8,0,none⟩=some (.int .i64 11)
 c9:W.cell? ⟨n+9,0,none⟩=some (.func (.func 122) #[] #[])
 c10:W.cell? ⟨n+10,0,none⟩=some (.func (.func 123) #[] #[])
 c11:W.cell? ⟨n+11,0,none⟩=some (.int .i64 12)
 c12:W.cell? ⟨n+12,0,none⟩=some (.func (.func 125) #[] #[])
 c13:W.cell? ⟨n+13,0,none⟩=some (.func (.func 126) #[] #[])
 c14:W.cell? ⟨n+14,0,none⟩=some (.int .i64 13)
 c15:W.cell? ⟨n+15,0,none⟩=some (.func (.func 127) #[] #[])
theorem Lie.below {n:Nat} {W W':World} (h:Lie n W) (hb:Below W.heap.size W W'):Lie n W' :=
 ⟨(hb.cell (World.block_lt_of_cell? W _ h.c1)).trans h.c1,(hb.cell (World.block_lt_of_cell? W _ h.c2)).trans h.c2,(hb.cell (World.block_lt_of_cell? W _ h.c3)).trans h.c3,(hb.cell (World.block_lt_of_cell? W _ h.c4)).trans h.c4,(hb.cell (World.block_lt_of_cell? W _ h.c5)).trans h.c5,(hb.cell (World.block_lt_of_cell? W _ h.c6)).trans h.c6,(hb.cell (World.block_lt_of_cell? W _ h.c7)).trans h.c7,(hb.cell (World.block_lt_of_cell? W _ h.c8)).trans h.c8,(hb.cell (World.block_lt_of_cell? W _ h.c9)).trans h.c9,(hb.cell (World.block_lt_of_cell? W _ h.c10)).trans h.c10,(hb.cell (World.block_lt_of_cell? W _ h.c11)).trans h.c11,(hb.cell (World.block_lt_of_cell? W _ h.c12)).trans h.c12,(hb.cell (World.block_lt_of_cell? W _ h.c13)).trans h.c13,(hb.cell (World.block_lt_of_cell? W _ h.c14)).trans h.c14,(hb.cell (World.block_lt_of_cell? W _ h.c15)).trans h.c15⟩
theorem new_size {w W:World} {o:Obj} (h:w.alloc o=W):W.heap.size=w.heap.size+1:=by rw [← h];simp
theorem new_cell {w W:World} {v:Value} {t:TypeId} (h:w.alloc (.cells #[v] t)=W) {k:Nat} (hk:w.heap.size=k):W.cell? ⟨k,0,none⟩=some v:=by
 subst hk;rw [← h];exact Boxed.cell (Boxed.new w t v)
theorem new_old {w W:World} {o:Obj} (h:w.alloc o=W) {a:Addr} {v:Value} (hc:w.cell? a=some v):W.cell? a=some v:=by
 rw [← h];exact (((Below.refl w.heap.size w).alloc (Nat.le_refl _) o).cell (World.block_lt_of_cell? w _ hc)).trans hc
theorem new_below {w W:World} {o:Obj} (h:w.alloc o=W) {v:World} {b:Nat} (hb:Below b v w) (hs:b≤w.heap.size):Below b v W:=by rw [← h];exact hb.alloc hs o
theorem new_heap {w W:World} {o:Obj} (h:w.alloc o=W) {k:Nat} {x:Obj} (hx:w.heap[k]?=some x):W.heap[k]?=some x:=by
 rw [← h];exact (Below.heap_alloc w o k (Array.getElem?_eq_some_iff.1 hx).1).trans hx
theorem infoA:(Tryz.prog.info? 107).map (·.size)=some 8:=by kernel_rfl
theorem rules_any (w:World):Calls Tryz.prog 62 #[] w fun e w'=>e=.returned (.agg (fns w.heap.size))∧Lie w.heap.size w'∧Below w.heap.size w w':=by
 go_enter Tryz.func62,Tryz.ntmps62
 go_upto_region 1 with fail
 have h0:=heap_alloc_new w (.cells #[.nilFunc,.nilFunc,.nilFunc,.nilFunc,.nilFunc,.nilFunc,.nilFunc,.nilFunc] 107)
 have s0:(w.alloc (.cells #[.nilFunc,.nilFunc,.nilFunc,.nilFunc,.nilFunc,.nilFunc,.nilFunc,.nilFunc] 107)).heap.size=w.heap.size+1:=by simp
 have b0:Below w.heap.size w (w.alloc (.cells #[.nilFunc,.nilFunc,.nilFunc,.nilFunc,.nilFunc,.nilFunc,.nilFunc,.nilFunc] 107)):=(Below.refl _ _).alloc (Nat.le_refl _) _
 generalize w.alloc (.cells #[.nilFunc,.nilFunc,.nilFunc,.nilFunc,.nilFunc,.nilFunc,.nilFunc,.nilFunc] 107)=u0 at h0 s0 b0 ⊢
 generalize hn:w.heap.size=n at *
 have HN:=hJJ hn
 clear hn
 go_wp2_with fail
 refine (mkphases_P _ _).mono ?_
 rintro e w' ⟨rfl,rfl⟩
 obtain ⟨u1,hu⟩:∃ W,u0.alloc (.cells #[.int .i64 7] 35)=W:=⟨_,rfl⟩
 rw [hu]
 have s1:u1.heap.size=n+2:=by rw [new_size hu,s0]
 have c1:u1.cell? ⟨n+1,0,none⟩=some (.int .i64 7):=new_cell hu s0
 have h0:=new_heap hu h0
 have b0:=new_below hu b0 (by omega)
 clear hu
 obtain ⟨u2,hu⟩:∃ W,u1.alloc (.cells #[.func (.func 115) #[] #[]] 160)=W:=⟨_,rfl⟩
 rw [hu]
 have s2:u2.heap.size=n+3:=by rw [new_size hu,s1]
 have c1:=new_old hu c1
 have c2:u2.cell? ⟨n+2,0,none⟩=some (.func (.func 115) #[] #[]):=new_cell hu s1
 have h0:=new_heap hu h0
 have b0:=new_below hu b0 (by omega)
 clear hu
 rw [s0]
 go_wp2_with fail
 refine (mkphases_C _ _).mono ?_
 rintro e w' ⟨rfl,rfl⟩
 obtain ⟨u3,hu⟩:∃ W,u2.alloc (.cells #[.int .i64 9] 35)=W:=⟨_,rfl⟩
 rw [hu]
 have s3:u3.heap.size=n+4:=by rw [new_size hu,s2]
 have c1:=new_old hu c1
 have c2:=new_old hu c2
 have c3:u3.cell? ⟨n+3,0,none⟩=some (.int .i64 9):=new_cell hu s2
 have h0:=new_heap hu h0
 have b0:=new_below hu b0 (by omega)
 clear hu
 obtain ⟨u4,hu⟩:∃ W,u3.alloc (.cells #[.func (.func 117) #[] #[]] 160)=W:=⟨_,rfl⟩
 rw [hu]
 have s4:u4.heap.size=n+5:=by rw [new_size hu,s3]
 have c1:=new_old hu c1
 have c2:=new_old hu c2
 have c3:=new_old hu c3
 have c4:u4.cell? ⟨n+4,0,none⟩=some (.func (.func 117) #[] #[]):=new_cell hu s3
 have h0:=new_heap hu h0
 have b0:=new_below hu b0 (by omega)
 clear hu
 rw [s2]
 go_wp2_with fail
 refine (mkelem_D _ _).mono ?_
 rintro e w' ⟨rfl,rfl⟩
 obtain ⟨u5,hu⟩:∃ W,u4.alloc (.cells #[.int .i64 10] 35)=W:=⟨_,rfl⟩
 rw [hu]
 have s5:u5.heap.size=n+6:=by rw [new_size hu,s4]
 have c1:=new_old hu c1
 have c2:=new_old hu c2
 have c3:=new_old hu c3
 have c4:=new_old hu c4
 have c5:u5.cell? ⟨n+5,0,none⟩=some (.int .i64 10):=new_cell hu s4
 have h0:=new_heap hu h0
 have b0:=new_below hu b0 (by omega)
 clear hu
 obtain ⟨u6,hu⟩:∃ W,u5.alloc (.cells #[.func (.func 119) #[] #[]] 162)=W:=⟨_,rfl⟩
 rw [hu]
 have s6:u6.heap.size=n+7:=by rw [new_size hu,s5]
 have c1:=new_old hu c1
 have c2:=new_old hu c2
 have c3:=new_old hu c3
 have c4:=new_old hu c4
 have c5:=new_old hu c5
 have c6:u6.cell? ⟨n+6,0,none⟩=some (.func (.func 119) #[] #[]):=new_cell hu s5
 have h0:=new_heap hu h0
 have b0:=new_below hu b0 (by omega)
 clear hu
 obtain ⟨u7,hu⟩:∃ W,u6.alloc (.cells #[.func (.func 120) #[] #[]] 163)=W:=⟨_,rfl⟩
 rw [hu]
 have s7:u7.heap.size=n+8:=by rw [new_size hu,s6]
 have c1:=new_old hu c1
 have c2:=new_old hu c2
 have c3:=new_old hu c3
 have c4:=new_old hu c4
 have c5:=new_old hu c5
 have c6:=new_old hu c6
 have c7:u7.cell? ⟨n+7,0,none⟩=some (.func (.func 120) #[] #[]):=new_cell hu s6
 have h0:=new_heap hu h0
 have b0:=new_below hu b0 (by omega)
 clear hu
 rw [s4]
 go_wp2_with fail
 refine (mkelem_R _ _).mono ?_
 rintro e w' ⟨rfl,rfl⟩
 obtain ⟨u8,hu⟩:∃ W,u7.alloc (.cells #[.int .i64 11] 35)=W:=⟨_,rfl⟩
 rw [hu]
 have s8:u8.heap.size=n+9:=by rw [new_size hu,s7]
 have c1:=new_old hu c1
 have c2:=new_old hu c2
 have c3:=new_old hu c3
 have c4:=new_old hu c4
 have c5:=new_old hu c5
 have c6:=new_old hu c6
 have c7:=new_old hu c7
 have c8:u8.cell? ⟨n+8,0,none⟩=some (.int .i64 11):=new_cell hu s7
 have h0:=new_heap hu h0
 have b0:=new_below hu b0 (by omega)
 clear hu
 obtain ⟨u9,hu⟩:∃ W,u8.alloc (.cells #[.func (.func 122) #[] #[]] 165)=W:=⟨_,rfl⟩
 rw [hu]
 have s9:u9.heap.size=n+10:=by rw [new_size hu,s8]
 have c1:=new_old hu c1
 have c2:=new_old hu c2
 have c3:=new_old hu c3
 have c4:=new_old hu c4
 have c5:=new_old hu c5
 have c6:=new_old hu c6
 have c7:=new_old hu c7
 have c8:=new_old hu c8
 have c9:u9.cell? ⟨n+9,0,none⟩=some (.func (.func 122) #[] #[]):=new_cell hu s8
 have h0:=new_heap hu h0
 have b0:=new_below hu b0 (by omega)
 clear hu
 obtain ⟨u10,hu⟩:∃ W,u9.alloc (.cells #[.func (.func 123) #[] #[]] 166)=W:=⟨_,rfl⟩
 rw [hu]
 have s10:u10.heap.size=n+11:=by rw [new_size hu,s9]
 have c1:=new_old hu c1
 have c2:=new_old hu c2
 have c3:=new_old hu c3
 have c4:=new_old hu c4
 have c5:=new_old hu c5
 have c6:=new_old hu c6
 have c7:=new_old hu c7
 have c8:=new_old hu c8
 have c9:=new_old hu c9
 have c10:u10.cell? ⟨n+10,0,none⟩=some (.func (.func 123) #[] #[]):=new_cell hu s9
 have h0:=new_heap hu h0
 have b0:=new_below hu b0 (by omega)
 clear hu
 rw [s7]
 go_wp2_with fail
 refine (mkelem_B _ _).mono ?_
 rintro e w' ⟨rfl,rfl⟩
 obtain ⟨u11,hu⟩:∃ W,u10.alloc (.cells #[.int .i64 12] 35)=W:=⟨_,rfl⟩
 rw [hu]
 have s11:u11.heap.size=n+12:=by rw [new_size hu,s10]
 have c1:=new_old hu c1
 have c2:=new_old hu c2
 have c3:=new_old hu c3
 have c4:=new_old hu c4
 have c5:=new_old hu c5
 have c6:=new_old hu c6
 have c7:=new_old hu c7
 have c8:=new_old hu c8
 have c9:=new_old hu c9
 have c10:=new_old hu c10
 have c11:u11.cell? ⟨n+11,0,none⟩=some (.int .i64 12):=new_cell hu s10
 have h0:=new_heap hu h0
 have b0:=new_below hu b0 (by omega)
 clear hu
 obtain ⟨u12,hu⟩:∃ W,u11.alloc (.cells #[.func (.func 125) #[] #[]] 168)=W:=⟨_,rfl⟩
 rw [hu]
 have s12:u12.heap.size=n+13:=by rw [new_size hu,s11]
 have c1:=new_old hu c1
 have c2:=new_old hu c2
 have c3:=new_old hu c3
 have c4:=new_old hu c4
 have c5:=new_old hu c5
 have c6:=new_old hu c6
 have c7:=new_old hu c7
 have c8:=new_old hu c8
 have c9:=new_old hu c9
 have c10:=new_old hu c10
 have c11:=new_old hu c11
 have c12:u12.cell? ⟨n+12,0,none⟩=some (.func (.func 125) #[] #[]):=new_cell hu s11
 have h0:=new_heap hu h0
 have b0:=new_below hu b0 (by omega)
 clear hu
 obtain ⟨u13,hu⟩:∃ W,u12.alloc (.cells #[.func (.func 126) #[] #[]] 169)=W:=⟨_,rfl⟩
 rw [hu]
 have s13:u13.heap.size=n+14:=by rw [new_size hu,s12]
 have c1:=new_old hu c1
 have c2:=new_old hu c2
 have c3:=new_old hu c3
 have c4:=new_old hu c4
 have c5:=new_old hu c5
 have c6:=new_old hu c6
 have c7:=new_old hu c7
 have c8:=new_old hu c8
 have c9:=new_old hu c9
 have c10:=new_old hu c10
 have c11:=new_old hu c11
 have c12:=new_old hu c12
 have c13:u13.cell? ⟨n+13,0,none⟩=some (.func (.func 126) #[] #[]):=new_cell hu s12
 have h0:=new_heap hu h0
 have b0:=new_below hu b0 (by omega)
 clear hu
 rw [s10]
 go_wp2_with fail
 refine (mkphases_F _ _).mono ?_
 rintro e w' ⟨rfl,rfl⟩
 obtain ⟨u14,hu⟩:∃ W,u13.alloc (.cells #[.int .i64 13] 35)=W:=⟨_,rfl⟩
 rw [hu]
 have s14:u14.heap.size=n+15:=by rw [new_size hu,s13]
 have c1:=new_old hu c1
 have c2:=new_old hu c2
 have c3:=new_old hu c3
 have c4:=new_old hu c4
 have c5:=new_old hu c5
 have c6:=new_old hu c6
 have c7:=new_old hu c7
 have c8:=new_old hu c8
 have c9:=new_old hu c9
 have c10:=new_old hu c10
 have c11:=new_old hu c11
 have c12:=new_old hu c12
 have c13:=new_old hu c13
 have c14:u14.cell? ⟨n+14,0,none⟩=some (.int .i64 13):=new_cell hu s13
 have h0:=new_heap hu h0
 have b0:=new_below hu b0 (by omega)
 clear hu
 obtain ⟨u15,hu⟩:∃ W,u14.alloc (.cells #[.func (.func 127) #[] #[]] 160)=W:=⟨_,rfl⟩
 rw [hu]
 have s15:u15.heap.size=n+16:=by rw [new_size hu,s14]
 have c1:=new_old hu c1
 have c2:=new_old hu c2
 have c3:=new_old hu c3
 have c4:=new_old hu c4
 have c5:=new_old hu c5
 have c6:=new_old hu c6
 have c7:=new_old hu c7
 have c8:=new_old hu c8
 have c9:=new_old hu c9
 have c10:=new_old hu c10
 have c11:=new_old hu c11
 have c12:=new_old hu c12
 have c13:=new_old hu c13
 have c14:=new_old hu c14
 have c15:u15.cell? ⟨n+15,0,none⟩=some (.func (.func 127) #[] #[]):=new_cell hu s14
 have h0:=new_heap hu h0
 have b0:=new_below hu b0 (by omega)
 clear hu
 rw [s13]
 have LI:Lie n u15:=⟨c1,c2,c3,c4,c5,c6,c7,c8,c9,c10,c11,c12,c13,c14,c15⟩
 have hsz:n≤u15.heap.size:=by omega
 have HW:Below n w (u15.setRow n (fns n)):=b0.trans (Same.below_setRow (Below.refl n u15) (Nat.le_refl _) (fns n))
 have HK:=hJJ (setRow_heap u15 n _ (fns n) _ _ h0)
 have HL:Lie n (u15.setRow n (fns n)):=⟨(Kept.cell (o:=0) (setRow_other u15 n (n+1) (fns n) (by omega))).trans c1,(Kept.cell (o:=0) (setRow_other u15 n (n+2) (fns n) (by omega))).trans c2,(Kept.cell (o:=0) (setRow_other u15 n (n+3) (fns n) (by omega))).trans c3,(Kept.cell (o:=0) (setRow_other u15 n (n+4) (fns n) (by omega))).trans c4,(Kept.cell (o:=0) (setRow_other u15 n (n+5) (fns n) (by omega))).trans c5,(Kept.cell (o:=0) (setRow_other u15 n (n+6) (fns n) (by omega))).trans c6,(Kept.cell (o:=0) (setRow_other u15 n (n+7) (fns n) (by omega))).trans c7,(Kept.cell (o:=0) (setRow_other u15 n (n+8) (fns n) (by omega))).trans c8,(Kept.cell (o:=0) (setRow_other u15 n (n+9) (fns n) (by omega))).trans c9,(Kept.cell (o:=0) (setRow_other u15 n (n+10) (fns n) (by omega))).trans c10,(Kept.cell (o:=0) (setRow_other u15 n (n+11) (fns n) (by omega))).trans c11,(Kept.cell (o:=0) (setRow_other u15 n (n+12) (fns n) (by omega))).trans c12,(Kept.cell (o:=0) (setRow_other u15 n (n+13) (fns n) (by omega))).trans c13,(Kept.cell (o:=0) (setRow_other u15 n (n+14) (fns n) (by omega))).trans c14,(Kept.cell (o:=0) (setRow_other u15 n (n+15) (fns n) (by omega))).trans c15⟩
 have H1:=hJJ HW
 have H2:=hJJ HL
 clear HW HL c1 c2 c3 c4 c5 c6 c7 c8 c9 c10 c11 c12 c13 c14 c15 LI s0 s1 s2 s3 s4 s5 s6 s7 s8 s9 s10 s11 s12 s13 s14 s15 b0
 go_wp2_with (refine wpList_store_row rfl 107 _ _ rfl n (fns n) rfl rfl 107 _ h0 infoA rfl (by simp [fns,Value.oneCell']) ?_)
 (try go_wp2_with fail)
 generalize u15.setRow n (fns n)=uz at HK H1 H2 ⊢
 (try simp only [Exit.inBlock,Exit.then])
 refine bodyPost_ret (v:=.agg (fns n)) ?_ rfl (by rw [HN.out];exact ⟨rfl,H2.out,H1.out⟩)
 exact results_cell_row rfl _ _ n 107 _ (0,0) _ rfl HK.out Tryz.underlying107 rfl infoA
end ChkQ
namespace ChkY
open Zip
open Go.RowKit Go.Shelf
open Tab PlaceM PlanM OnS ChkM Each Search ChkI
open ChkB (laid2)
open May (infoT ret_bool)
attribute [local go_sem] Oper.semAt_some
def yS (T:Tab) (l:List Int):Nat:=SetM.of (l.filter (yel T))
theorem yS_hit {T:Tab} {l:List Int} {x:Int} (h:yel T x=true):SetM.withN (yS T l:Nat) x=yS T (l++[x]):=by
 unfold yS;rw [SetM.with_of,List.filter_append];simp [h]
theorem yS_miss {T:Tab} {l:List Int} {x:Int} (h:yel T x=false):yS T (l++[x])=yS T l:=by
 unfold yS;rw [List.filter_append];simp [h]
theorem yellows_any (T:Tab) (h:Hd) (w:World) (ht:IsTab w h T) :
  Calls Tryz.prog 162 #[.agg (T.cells h).toArray] w fun e w'=>e=.returned (.int .i64 (yellows T:Nat))∧Below w.heap.size w w':=by
 have hsz:=(cells_ok ht).size
 have IA:Hid ((Tryz.prog.info? 31).map (·.size)=some (T.cells h).length):=hJJ (by rw [List.size_toArray] at hsz;rw [hsz];exact infoT)
 have ON:Hid (∀ W,Below w.heap.size w W→Calls Tryz.prog 150 #[.agg (T.cells h).toArray] W fun e w'=>e=.returned (.int .i64 (onS T:Nat))∧Below W.heap.size W w'):=hJJ (fun W hb=>PlanO.pon_any T h W (ht.below hb))
 have LT0:=hJJ (Row.lies_new w (T.cells h).toArray 31)
 have BX0:=hJJ (bxd_new ht)
 have hs1:(w.alloc (.cells (T.cells h).toArray 31)).heap.size=w.heap.size+1:=by simp
 have YR:Hid (yellows T=yS T (SetM.list (onS T:Nat))):=hJJ rfl
 clear ht
 generalize T.cells h=c at *
 refine (callsIn_wide (n:=3)).1 ?_
 refine callsIn_of_wp_marks Tryz.func162 rfl trivial ?_ rfl
 simp only [Tryz.ntmps162,List.size_toArray,List.length_cons,List.length_nil,Nat.reduceAdd,Nat.reduceSub,Array.replicate_succ,Array.replicate_zero,List.push_toArray,List.append_toArray,List.nil_append,List.cons_append]
 refine wpIn_wide.2 ?_
 go_upto_region 2 with fail
 obtain ⟨W1,hW1,E1,E0,EB,bR⟩:=laid2 w (.cells c.toArray 31) (.cells #[.int .i64 0] 3)
 rw [hW1]
 have LT:=hJJ (LT0.out.below (by rw [hs1];exact EB))
 have BX:=hJJ (BX0.out.below (by rw [hs1];exact EB))
 have B0:=hJJ E0
 clear hW1 EB hs1 hsz LT0 E0 BX0
 go_wp2_with (refine lgZ 31 ⟨w.heap.size,0,none⟩ c rfl LT.out Tryz.underlying31 IA.out ?_)
 refine (ON.out _ B0.out).mono ?_
 rintro e W3 ⟨rfl,hb⟩
 go_wp2_with fail
 refine (callsIn_wide.1 (Each.each_in 3 _ _)).mono ?_
 rintro e w' ⟨rfl,rfl⟩
 go_wp2_with fail
 have hb4:Below W1.heap.size W1 (W3.alloc (.cells #[.int .i64 (onS T:Nat)] 3)):=hb.alloc hb.size _
 have bE:Boxed (W3.alloc (.cells #[.int .i64 (onS T:Nat)] 3)) W3.heap.size 3 (.int .i64 (onS T:Nat)):=Boxed.new _ _ _
 have hsz3:(W3.alloc (.cells #[.int .i64 (onS T:Nat)] 3)).heap.size=W3.heap.size+1:=by simp
 have hs3:=hb.size
 generalize W3.alloc (.cells #[.int .i64 (onS T:Nat)] 3)=W4 at hb4 bE hsz3 ⊢
 have bR4:Boxed W4 (w.heap.size+1) 3 (.int .i64 0):=(hb4.block _ (by omega)).trans bR
 have BX4:=hJJ (BX.out.below hb4)
 have C0:Hid (Below w.heap.size w W4):=hJJ (B0.out.trans (hb4.mono B0.out.size))
 have E4:w.heap.size+2 < W4.heap.size:=by omega
 have E5:W3.heap.size < W4.heap.size:=by omega
 have E6:w.heap.size+1 < W3.heap.size:=by omega
 clear hb hb4 bR LT B0 hs3 BX
 generalize W3.heap.size=be at *
 refine (wpIn_wide (n:=3)).1 ?_
 refine wpIn_rangeFunc_ownG rfl (by omega) (gf:=173) (lb:=#[.pointer (some ⟨be,0,none⟩)]) rfl trivial (enters_of Tryz.func173 (by kernel_rfl) rfl)
  (each_mem _ (by omega) be (onS T:Nat) W4 (by omega) bE.cell) Kept.trans (kept_b E5) (Below.refl _ _) (fun _=>rfl)
  (fun pre W=>Boxed W (w.heap.size+1) 3 (.int .i64 (yS T (pre.map Subtype.val):Nat))∧W4.grownBy W (some (w.heap.size+1)))
  (fun _ _ _=>False)
  ?own (fun _ _ _ _ _ hs _ _=>hs) ⟨bR4,grown_of_below (Below.refl _ _)⟩
  (fun x=>{ tmps:=#[.agg c.toArray,.pointer (some ⟨w.heap.size,0,none⟩),.int .i64 0,.pointer (some ⟨w.heap.size+1,0,none⟩),.int .i64 x.1,.agg c.toArray,.int .i64 (onS T:Nat),.func (.func 173) #[] #[.pointer (some ⟨be,0,none⟩)],.int .i64 x.1,undef,undef,undef,undef,undef,undef,undef,undef,undef],defers:=[] }) ?assign ?body ?done ?stop
 case own =>
  rintro pre W W' row ⟨h1,h2⟩ hgr hr
  exact ⟨h1.kept hgr (fun e=>by have:=(hr _ e.symm).1;omega),grown_from h2 hgr (fun r e=>(hr r e).1)⟩
 case assign =>
  intro l x W K hK
  gi_wp2
  exact hK
 case body =>
  rintro l pre ⟨x,hx⟩ W ⟨hv,hg⟩ hlt
  have hx8:=SetM.list_bd _ x hx
  obtain ⟨j,rfl⟩:=Int.eq_ofNat_of_zero_le hx8.1
  have hj8:((j:Nat):Int) < 8:=hx8.2
  have cc0:=BX4.out.fl j (by omega) (by omega)
  rw [Int.toNat_natCast] at cc0
  have cc:W.cell? ⟨w.heap.size,121+j,none⟩=some (I (flAt T j)):=(Kept.cell (o:=121+j) (hg.block w.heap.size (by omega) (fun e=>by have:=Option.some.inj e;omega))).trans cc0
  have hc:=hv.cell
  have hf:=hv.frozen
  dsimp only
  by_cases hy:flAt T j=2
  ·have HY:=hJJ (yS_hit (l:=pre.map Subtype.val) (show yel T j=true by unfold yel;rw [hy];rfl))
   gi_wp2_with (refine ⟨trivial,?_⟩;gi_at_call 174;refine (CallsIn.inRound l (callsIn_wide.2 (SetP.with_any _ _ _))).mono ?_;rintro e w' ⟨rfl,rfl⟩)
   exact ⟨(KeepsOthers.setCell _ _ _).from _,Kept.setCell _ _ (by omega),by rw [List.map_append,List.map_cons,List.map_nil,← HY.out];exact hv.set _,grown_trans hg (grownBy_setCell' _ _ _)⟩
  ·have HY:=hJJ (yS_miss (l:=pre.map Subtype.val) (show yel T j=false by unfold yel;rw [beq_eq_false_iff_ne];exact hy))
   gi_wp2
   exact ⟨KeepsFrom.refl _ _,rfl,by rw [List.map_append,List.map_cons,List.map_nil,HY.out];exact hv,hg⟩
 case done =>
  rintro D ys W hD hS ⟨hv,hg⟩ hK
  have hc:=hv.cell
  have HR:Hid (yS T (ys.map Subtype.val)=yellows T):=hJJ (by rw [hS];exact YR.out.symm)
  have HB:Hid (Below w.heap.size w W):=hJJ (C0.out.grown hg (by omega) (fun k e=>by cases e;omega))
  clear hg
  go_wp2
  refine ⟨by simp,.inl ⟨_,_,rfl,run_takeDeferred hK,?_⟩⟩
  exact ⟨_,results_tmp rfl _ _ _,by rw [show yellows T=yS T (SetM.list (onS T:Nat)) from YR.out];rfl,HB.out.trans (belowK_b (w:=w) (Nat.le_refl _) _ D _ _ (by omega) hK rfl rfl)⟩
 case stop =>
  rintro D c pre W hD _ h _
  exact h.elim
theorem badFlash_any (T:Tab) (h:Hd) (k:Nat) (hk:k < 8) (w:World) (ht:IsTab w h T) :
  Calls Tryz.prog 127 #[.agg (T.cells h).toArray,.int .i64 k] w fun e w'=>e=.returned (.bool (flashBad T k))∧Below w.heap.size w w':=by
 have hsz:=(cells_ok ht).size
 have IA:Hid ((Tryz.prog.info? 31).map (·.size)=some (T.cells h).length):=hJJ (by rw [List.size_toArray] at hsz;rw [hsz];exact infoT)
 have YE:Hid (∀ W,Below w.heap.size w W→Calls Tryz.prog 162 #[.agg (T.cells h).toArray] W fun e w'=>e=.returned (.int .i64 (yellows T:Nat))∧Below W.heap.size W w'):=hJJ (fun W hb=>yellows_any T h W (ht.below hb))
 have LT0:=hJJ (Row.lies_new w (T.cells h).toArray 31)
 have BX0:=hJJ (bxd_new ht)
 have A0:Hid (Below w.heap.size w (w.alloc (.cells (T.cells h).toArray 31))):=hJJ ((Below.refl _ _).alloc (Nat.le_refl _) _)
 obtain ⟨x,hx⟩:∃ x,x=flashBad T k:=⟨_,rfl⟩
 rw [← hx]
 have HR:Hid (x=(flAt T k == 0 || (flAt T k == 2 && bits .and .i64 (cfAt T k) (yellows T:Nat) != 0))):=hJJ hx
 clear ht hx
 generalize T.cells h=c at *
 have hki:((k:Nat):Int) < 8:=by omega
 go_enter Tryz.func127,Tryz.ntmps127
 go_upto_region 1 with fail
 generalize w.alloc (.cells c.toArray 31)=u at A0 LT0 BX0 ⊢
 clear hsz
 have cf:=BX0.out.fl k (by omega) (by omega)
 have cc:=BX0.out.cf k (by omega) (by omega)
 rw [Int.toNat_natCast] at cf cc
 have CCH:=hJJ cc
 clear cc
 generalize flAt T k=fl at *
 by_cases h0:fl=0
 ·subst h0
  have HX:Hid (true=x):=hJJ (by rw [HR.out];rfl)
  go_wp2
  go_ret
  exact ⟨ret_bool HX.out,A0.out⟩
 by_cases h2:fl=2
 ·subst h2
  have HX:Hid (x=(bits .and .i64 (cfAt T k) (yellows T:Nat) != 0)):=hJJ (by rw [HR.out];rfl)
  clear h0 HR
  generalize yellows T=m at HX YE
  have hne:Nonempty (Ph.S (Row.Old u)):=⟨⟨0,u,Below.refl _ _⟩⟩
  have CC:∀ p:Ph.S (Row.Old u),p.world.cell? ⟨w.heap.size,105+k,none⟩=some (I (cfAt T k)):=fun p=>(p.is.cell (World.block_lt_of_cell? u _ CCH.out)).trans CCH.out
  have YW:Hid (∀ p:Ph.S (Row.Old u),Calls Tryz.prog 162 #[.agg c.toArray] p.world fun e w'=>e=.returned (.int .i64 (m:Nat))∧Below p.world.heap.size p.world w'):=hJJ (fun p=>YE.out _ (A0.out.trans (p.is.mono A0.out.size)))
  clear YE
  generalize cfAt T k=cv at *
  go_upto_region 5 with fail
  refine Pw.region (Row.Old u) [] hmx (by kernel_rfl) (Row.Old.drew _) ?_
  iterate 4
   (refine Pw.calm rfl (fun K hK=>?_)
    go_simp
    refine hK _ ?_
    clear hK K)
  refine Pw.load rfl (by rfl) 31 _ rfl ⟨w.heap.size,0,none⟩ rfl c _ (fun p=>LT0.out.below p.is) Tryz.underlying31 rfl IA.out ?_
  (try dsimp only [Act.put]);(try simp only [zA,zB,zC])
  (refine Pw.calm rfl (fun K hK=>?_)
   go_simp
   refine ⟨_,fun p=>Row.Old.call (YW.out p),hK _ ?_⟩
   clear hK K)
  iterate 3
   (refine Pw.calm rfl (fun K hK=>?_)
    go_simp
    refine hK _ ?_
    clear hK K)
  refine Pw.nil ?_
  intro uz hb
  have EZ:=hJJ (A0.out.trans (hb.mono A0.out.size))
  clear hb CC hne
  go_wp2
  go_ret
  exact ⟨ret_bool HX.out.symm,EZ.out⟩
 ·have HX:Hid (false=x):=hJJ (by rw [HR.out];simp [h0,h2])
  go_wp2
  go_ret
  exact ⟨ret_bool HX.out,A0.out⟩
end ChkY
namespace ChkN
open Zip
open Go.RowKit Go.Shelf
open Tab PlaceM PlanM OnS ChkM Each Search ChkI
open May (infoT ret_bool)
theorem without_any (s p:Int) (w:World):Calls Tryz.prog 180 #[.int .i64 s,.int .i64 p] w fun e w'=>e=.returned (.int .i64 (SetM.withoutN s p))∧w=w':=by
 rw [← SetM.without_bits]
 go_enter Tryz.func180,Tryz.ntmps180
 go_wp2_with (go_at_call 178;refine (SetP.bit_any _ _).mono ?_;rintro e w' ⟨rfl,rfl⟩)
 go_ret
 exact ⟨rfl,rfl⟩
attribute [local go_sem] Oper.semAt_some
def besAll (T:Tab) (s p:Int):Bool:=(SetM.list (SetM.withoutN s p:Nat)).all fun q=>beside T p q
theorem abreast_any (T:Tab) (h:Hd) (s:Int) (w:World) (ht:IsTab w h T) :
  Calls Tryz.prog 159 #[.agg (T.cells h).toArray,.int .i64 s] w fun e w'=>e=.returned (.bool (abreast T s))∧Below w.heap.size w w':=by
 have hsz:=(cells_ok ht).size
 have IA:Hid ((Tryz.prog.info? 31).map (·.size)=some (T.cells h).length):=hJJ (by rw [List.size_toArray] at hsz;rw [hsz];exact infoT)
 have BS:Hid (∀ (p q:Int) W,Below w.heap.size w W→Calls Tryz.prog 154 #[.agg (T.cells h).toArray,.int .i64 p,.int .i64 q] W fun e w'=>e=.returned (.bool (beside T p q))∧Below W.heap.size W w'):=hJJ (fun p q W hb=>PlanW.pbeside_any T h p q W (ht.below hb))
 have LT0:=hJJ (Row.lies_new w (T.cells h).toArray 31)
 have hs1:(w.alloc (.cells (T.cells h).toArray 31)).heap.size=w.heap.size+1:=by simp
 have AR:Hid (abreast T s=(SetM.list s).all (besAll T s)):=hJJ rfl
 clear ht
 generalize T.cells h=c at *
 refine (callsIn_wide (n:=6)).1 ?_
 refine callsIn_of_wp_marks Tryz.func159 rfl trivial ?_ rfl
 simp only [Tryz.ntmps159,List.size_toArray,List.length_cons,List.length_nil,Nat.reduceAdd,Nat.reduceSub,Array.replicate_succ,Array.replicate_zero,List.push_toArray,List.append_toArray,List.nil_append,List.cons_append]
 gi_wp2_with fail
 refine ⟨trivial,(Each.each_in _ _ _).mono ?_⟩
 rintro e w' ⟨rfl,rfl⟩
 gi_wp2_with fail
 obtain ⟨W0,hW0,E1,E0,EB,bS,bR,bE⟩:=laid4 w (.cells c.toArray 31) (.cells #[.int .i64 s] 3) (.cells #[.bool false] 4) (.cells #[.int .i64 s] 3)
 rw [hW0]
 have LT:=hJJ (LT0.out.below (by rw [hs1];exact EB))
 clear hW0 EB hs1 hsz LT0
 have bS:Boxed W0 (w.heap.size+1) 3 (.int .i64 s):=bS
 have bR:Boxed W0 (w.heap.size+1+1) 4 (.bool false):=bR
 have bE:Boxed W0 (w.heap.size+1+1+1) 3 (.int .i64 s):=bE
 refine wpIn_rangeFunc_ownH rfl (by omega) (gf:=173) (lb:=#[.pointer (some ⟨w.heap.size+1+1+1,0,none⟩)]) rfl trivial (enters_of Tryz.func173 (by kernel_rfl) rfl)
  (each_mem _ (by omega) (w.heap.size+1+1+1) s W0 (by omega) bE.cell) Kept.trans (kept_b (by omega)) (Below.refl _ _) (fun _=>rfl)
  (fun pre W=>(∀ y ∈ pre,besAll T s y.1=true)∧Below W0.heap.size W0 W)
  (fun c pre W=>(c=.ret∧(∃ y ∈ pre,besAll T s y.1=false)∧W.heap[w.heap.size+1+1]?=some (.cells #[.bool false] 4 (0,0)))∧W0.grownBy W (some (w.heap.size+1+1)))
  (OwnFrom.and (ownFrom_pure _ _) (ownFrom_below (Nat.le_refl _) (Nat.le_refl _)))
  ?own ⟨by simp,Below.refl _ _⟩
  (fun x a' W=>∃ Bx,W0.heap.size≤Bx∧Boxed W Bx 3 (.int .i64 x.1)∧a'={ tmps:=#[.agg c.toArray,.int .i64 s,.pointer (some ⟨w.heap.size,0,none⟩),.pointer (some ⟨w.heap.size+1,0,none⟩),.pointer (some ⟨w.heap.size+1+1,0,none⟩),.pointer (some ⟨Bx,0,none⟩),undef,.int .i64 s,.func (.func 173) #[] #[.pointer (some ⟨w.heap.size+1+1+1,0,none⟩)],.int .i64 x.1,undef,undef,undef,undef,undef,undef,undef,undef,undef,undef],defers:=[] })
  (fun x a' _ X Y row hs hg hr=>by obtain ⟨Bx,e1,e2,e3⟩:=hs;exact ⟨Bx,e1,boxed_own Bx 3 (fun (_:Unit)=>Value.int .i64 x.1) () X Y row e2 hg (fun r e=>(hr r e).2),e3⟩)
  ?assign ?body ?done ?stop
 case own =>
  rintro c pre W W' row ⟨⟨h1,h2,h5⟩,hg⟩ hgr hr
  have hlt:w.heap.size+1+1 < W.heap.size:=(Array.getElem?_eq_some_iff.1 h5).1
  exact ⟨⟨h1,h2,(hgr.block _ hlt (fun e=>by have:=(hr _ e.symm).1;omega)).trans h5⟩,grown_from hg hgr (fun r e=>(hr r e).1)⟩
 case assign =>
  rintro l pre x W K ⟨hp,hB⟩ hK
  gi_wp2
  exact hK _ _ ((KeepsOthers.alloc _ _).from _) (Kept.below ((Below.refl W.heap.size W).alloc (Nat.le_refl _) _) (by have:=hB.size;omega)) ⟨hp,hB.alloc hB.size _⟩ ⟨W.heap.size,hB.size,Boxed.new W 3 _,rfl⟩
 case body =>
  rintro l pre ⟨x,hx⟩ a' W hl ⟨r,hr⟩ ⟨hp,hB⟩ ⟨Bx,hBx,bX,rfl⟩ hlt
  have cX:=bX.cell
  have cS:=(Boxed.cell (show Boxed W (w.heap.size+1) 3 (.int .i64 s) from (hB.block _ (by omega)).trans bS))
  gi_wp2_with (first | (refine ⟨trivial,?_⟩;gi_at_call 180;refine (CallsIn.inRound l (callsIn_wide.2 (without_any _ _ _))).mono ?_;rintro e w' ⟨rfl,rfl⟩) | (refine ⟨trivial,?_⟩;gi_at_call 149;refine (CallsIn.inRound l (Each.each_in _ _ _)).mono ?_;rintro e w' ⟨rfl,rfl⟩))
  have bN:=Boxed.new W 3 (.int .i64 (SetM.withoutN s x:Nat))
  have hr':(W.alloc (.cells #[.int .i64 (SetM.withoutN s x:Nat)] 3)).heap[l]?=some (.loop r):=(Below.heap_alloc W _ l (Array.getElem?_eq_some_iff.1 hr).1).trans hr
  have hb5:Below W.heap.size W (W.alloc (.cells #[.int .i64 (SetM.withoutN s x:Nat)] 3)):=(Below.refl _ W).alloc (Nat.le_refl _) _
  have hs5:(W.alloc (.cells #[.int .i64 (SetM.withoutN s x:Nat)] 3)).heap.size=W.heap.size+1:=by simp
  have bX5:Boxed (W.alloc (.cells #[.int .i64 (SetM.withoutN s x:Nat)] 3)) Bx 3 (.int .i64 x):=bX.alloc _
  have hBs:=hB.size
  generalize W.alloc (.cells #[.int .i64 (SetM.withoutN s x:Nat)] 3)=W5 at *
  have LT5:=hJJ (LT.out.below (hB.trans (hb5.mono hB.size)))
  have C5:Hid (Below w.heap.size w W5):=hJJ (E0.trans ((hB.trans (hb5.mono hB.size)).mono (by omega)))
  have bR5:Boxed W5 (w.heap.size+1+1) 4 (.bool false):=(hb5.block _ (by omega)).trans ((hB.block _ (by omega)).trans bR)
  refine wpIn_rangeFunc_ownN (l₀:=l) (r₀:=r) rfl hr' (by omega) (gf:=173) (lb:=#[.pointer (some ⟨W.heap.size,0,none⟩)]) rfl trivial (enters_of Tryz.func173 (by kernel_rfl) rfl)
   ((each_mem _ (by omega) W.heap.size (SetM.withoutN s x:Nat) W5 (by omega) bN.cell).inRound l) Kept.trans (kept_b (by omega)) (Below.refl _ _) (fun _=>rfl)
   (fun pre' W'=>(∀ z ∈ pre',beside T x z.1=true)∧Below W5.heap.size W5 W')
   (fun c pre' W'=>(c=.ret∧(∃ z ∈ pre',beside T x z.1=false)∧W'.heap[w.heap.size+1+1]?=some (.cells #[.bool false] 4 (0,0)))∧W5.grownBy W' (some (w.heap.size+1+1)))
   (OwnFrom.and (ownFrom_pure _ _) (ownFrom_below (Nat.le_refl _) (Nat.le_refl _)))
   ?own2 ⟨by simp,Below.refl _ _⟩
   (fun z a'' _=>a''={ tmps:=#[.agg c.toArray,.int .i64 s,.pointer (some ⟨w.heap.size,0,none⟩),.pointer (some ⟨w.heap.size+1,0,none⟩),.pointer (some ⟨w.heap.size+1+1,0,none⟩),.pointer (some ⟨Bx,0,none⟩),.int .i64 z.1,.int .i64 s,.func (.func 173) #[] #[.pointer (some ⟨w.heap.size+1+1+1,0,none⟩)],.int .i64 x,.int .i64 s,.int .i64 x,.int .i64 (SetM.withoutN s x:Nat),.func (.func 173) #[] #[.pointer (some ⟨W.heap.size,0,none⟩)],.int .i64 z.1,undef,undef,undef,undef,undef],defers:=[] })
   (fun _ _ _ _ _ _ hs _ _=>hs)
   ?assign2 ?body2 ?done2 ?stop2
  case own2 =>
   rintro c pre' W' W'' row ⟨⟨h1,h2,h5⟩,hg⟩ hgr hr
   have hlt':w.heap.size+1+1 < W'.heap.size:=(Array.getElem?_eq_some_iff.1 h5).1
   exact ⟨⟨h1,h2,(hgr.block _ hlt' (fun e=>by have:=(hr _ e.symm).1;omega)).trans h5⟩,grown_from hg hgr (fun r e=>(hr r e).1)⟩
  case assign2 =>
   rintro l2 pre' z W' K hi hK
   gi_wp2
   exact hK _ _ (KeepsFrom.refl _ _) rfl hi rfl
  case body2 =>
   rintro l2 pre' ⟨z,hz⟩ a'' W' _ _ ⟨hp2,hB2⟩ rfl hlt2
   have LTW:=hJJ (LT5.out.below hB2)
   have BW:Hid (Below w.heap.size w W'):=hJJ (C5.out.trans (hB2.mono C5.out.size))
   have cX':=(Boxed.cell (show Boxed W' Bx 3 (.int .i64 x) from (hB2.block _ (by have:=bX5.lt;omega)).trans bX5))
   have bRW:Boxed W' (w.heap.size+1+1) 4 (.bool false):=(hB2.block _ (by omega)).trans bR5
   have BRW:=hJJ bRW
   refine wpIn_block (wpIn_seq ?_)
   refine Up.region_list (fun ⟨_,_,h⟩=>h) (by kernel_rfl) ?_
   go_wp2_with (refine lgZ 31 ⟨w.heap.size,0,none⟩ c rfl LTW.out Tryz.underlying31 IA.out ?_)
   refine (BS.out x z _ BW.out).mono ?_
   rintro e W6 ⟨rfl,hb6⟩
   have bR6:Boxed W6 (w.heap.size+1+1) 4 (.bool false):=(hb6.block _ bRW.lt).trans bRW
   have hc:=bR6.cell
   have hf:=bR6.frozen
   have H6:=hJJ hb6
   have HB2:=hJJ hB2
   clear hb6 bRW cX' hB2
   cases hbs:beside T x z with
   | true =>
    have HS:=hJJ hbs
    clear hbs
    go_wp2_with fail
    gi_wp2
    refine ⟨keeps_below H6.out,Kept.below H6.out (by have:=HB2.out.size;omega),?_,HB2.out.trans (H6.out.mono HB2.out.size)⟩
    intro y hy
    rcases List.mem_append.1 hy with hy | hy
    ·exact hp2 y hy
    ·obtain rfl:y=⟨z,hz⟩:=by simpa using hy
     exact HS.out
   | false =>
    have HS:=hJJ hbs
    clear hbs
    go_wp2_with fail
    gi_wp2
    exact ⟨KeepsFrom.of_grownBy (grown_trans (grown_of_below H6.out) (grownBy_setCell' _ _ _)) (fun j e=>by cases e;omega),⟨rfl,⟨⟨z,hz⟩,by simp,HS.out⟩,bR6.set (.bool false)⟩,grown_trans (grown_trans (grown_of_below (HB2.out.mono (Nat.le_refl _))) (grown_of_below H6.out)) (grownBy_setCell' _ _ _)⟩
  case done2 =>
   rintro ys W' hS ⟨hp2,hB2⟩
   have HW:Hid (Below W.heap.size W W'):=hJJ (hb5.trans (hB2.mono hb5.size))
   have HA:Hid (besAll T s x=true):=hJJ (by
    unfold besAll;rw [← hS,List.all_eq_true];intro y hy
    obtain ⟨z,hz,rfl⟩:=List.mem_map.1 hy
    exact hp2 z hz)
   clear hB2
   gi_wp2
   refine ⟨keeps_below HW.out,Kept.below HW.out (by omega),?_,hB.trans (HW.out.mono hB.size)⟩
   intro y hy
   rcases List.mem_append.1 hy with hy | hy
   ·exact hp y hy
   ·obtain rfl:y=⟨x,hx⟩:=by simpa using hy
    exact HA.out
  case stop2 =>
   rintro c pre' W' hpre ⟨⟨rfl,⟨z,hz,hzb⟩,hR⟩,hg⟩
   have HG:Hid (W.grownBy W' (some (w.heap.size+1+1))):=hJJ (grown_trans (grown_of_below hb5) hg)
   have HA:Hid (besAll T s x=false):=hJJ (by
    unfold besAll;rw [List.all_eq_false];exact ⟨z.1,z.2,by simp [hzb]⟩)
   have HRR:=hJJ hR
   clear hg hR
   gi_wp2
   exact ⟨KeepsFrom.of_grownBy HG.out (fun j e=>by cases e;omega),⟨rfl,⟨⟨x,hx⟩,by simp,HA.out⟩,HRR.out⟩,grown_trans (grown_of_below (hB.mono (Nat.le_refl _))) HG.out⟩
 case done =>
  rintro D ys W hD hS ⟨hp,hB⟩ hK
  have hv:Boxed W (w.heap.size+1+1) 4 (.bool false):=(hB.block _ (by omega)).trans bR
  have hc:=hv.cell
  have hf:=hv.frozen
  have HR:Hid (abreast T s=true):=hJJ (by
   rw [AR.out,← hS,List.all_eq_true];intro y hy
   obtain ⟨z,hz,rfl⟩:=List.mem_map.1 hy
   exact hp z hz)
  have HB:Hid (Below w.heap.size w W):=hJJ (E0.trans (hB.mono (by omega)))
  clear hB
  gi_wp2
  have hv2:=hv.set (.bool true)
  have hK':=(KeepsOthers.setCell W ⟨w.heap.size+1+1,0,none⟩ (.bool true)).same D _ hK rfl
  refine ⟨by simp,.inl ⟨_,_,rfl,run_takeDeferred hK',?_⟩⟩
  have hc5:=cell_kept hv2.cell (grownBy_putObj' _ D (.deferred none)) (fun r e=>by cases e;exact ⟨_,hK',rfl⟩)
  refine ⟨.bool true,?_,by rw [HR.out],(HB.out.setCell (p:=⟨w.heap.size+1+1,0,none⟩) (by simp;omega) _).trans (belowK_b (w:=w) (Nat.le_refl _) _ D _ _ (by omega) hK' rfl rfl)⟩
  simp [results,Tryz.f159,go_sem,hc5]
 case stop =>
  rintro D c pre W hD hpre ⟨⟨rfl,⟨z,hz,hzb⟩,hR⟩,hg⟩ hK
  have HR:Hid (abreast T s=false):=hJJ (by rw [AR.out,List.all_eq_false];exact ⟨z.1,z.2,by simp [hzb]⟩)
  have hv:Boxed W (w.heap.size+1+1) 4 (.bool false):=hR
  have HB:Hid (Below w.heap.size w W):=hJJ (E0.grown hg (by omega) (fun k e=>by cases e;omega))
  clear hg
  gi_wp2
  refine ⟨by simp,.inl ⟨_,_,rfl,run_takeDeferred hK,?_⟩⟩
  have hc5:=cell_kept hv.cell (grownBy_putObj' _ D (.deferred none)) (fun r e=>by cases e;exact ⟨_,hK,rfl⟩)
  refine ⟨.bool false,?_,by rw [HR.out],HB.out.trans (belowK_b (w:=w) (Nat.le_refl _) W D _ _ (by omega) hK rfl rfl)⟩
  simp [results,Tryz.f159,go_sem,hc5]
end ChkN
namespace ChkR
open Zip
open Go.ChangeShapes Go.WideShapes Go.ChangeAt Go.RowKit
open Tab PlaceM PlanM OnS ChkM ChkA
open ChkB (laid2)
open May (ret_bool infoT infoR)
theorem badRail_any (T:Tab) (h:Hd) (r:Rl) (w:World) (ht:IsTab w h T) :
  Calls Tryz.prog 123 #[.agg (T.cells h).toArray,.agg r.cells.toArray] w fun e w'=>e=.returned (.bool (railBad T r))∧Below w.heap.size w w':=by
 have hsz:=(cells_ok ht).size
 have IA:Hid ((Tryz.prog.info? 31).map (·.size)=some (T.cells h).length):=hJJ (by rw [List.size_toArray] at hsz;rw [hsz];exact infoT)
 have AO:Hid (∀ W,Below w.heap.size w W→Calls Tryz.prog 157 #[.agg (T.cells h).toArray,.int .i64 (or4 r)] W fun e w'=>e=.returned (.bool (allOn T (or4 r)))∧Below W.heap.size W w'):=hJJ (fun W hb=>allOn_any T h _ W (ht.below hb))
 have CL:Hid (∀ s W,Below w.heap.size w W→Calls Tryz.prog 158 #[.agg (T.cells h).toArray,.int .i64 s] W fun e w'=>e=.returned (.bool (clashC T s))∧Below W.heap.size W w'):=hJJ (fun s W hb=>ChkI.clash_any T h s W (ht.below hb))
 have AB:Hid (∀ s W,Below w.heap.size w W→Calls Tryz.prog 159 #[.agg (T.cells h).toArray,.int .i64 s] W fun e w'=>e=.returned (.bool (abreast T s))∧Below W.heap.size W w'):=hJJ (fun s W hb=>ChkN.abreast_any T h s W (ht.below hb))
 have BT:Hid (∀ W,Calls Tryz.prog 160 #[.agg r.cells.toArray] W fun e w'=>e=.returned (.bool (timesBad r))∧Below W.heap.size W w'):=hJJ (fun W=>badTimes_any r W)
 obtain ⟨x,hx⟩:∃ x,x=railBad T r:=⟨_,rfl⟩
 rw [← hx]
 have HR:Hid (x=(!allOn T (or4 r) || (r.dwell == 0 || (r.exit == 0 || (bits .and .i64 r.dwell r.bars != 0 || (clashC T r.clear || (clashC T r.dwell || (clashC T r.exit || (!abreast T r.exit || timesBad r))))))))):=hJJ hx
 have LT0:=hJJ (Row.lies_new w (T.cells h).toArray 31)
 have hs1:(w.alloc (.cells (T.cells h).toArray 31)).heap.size=w.heap.size+1:=by simp
 have IR:Hid ((Tryz.prog.info? 94).map (·.size)=some r.cells.length):=hJJ infoR
 have hone:=Rl.one r
 have hsz2:r.cells.toArray.size=11:=rfl
 have RC:=hJJ (rail_cells r)
 have O4:Hid (bits .or .i64 (bits .or .i64 (bits .or .i64 r.bars r.clear) r.dwell) r.exit=or4 r):=hJJ rfl
 generalize timesBad r=tb at BT HR
 obtain ⟨a1,ha1⟩:∃ z,allOn T (or4 r)=z:=⟨_,rfl⟩
 obtain ⟨c1,hc1⟩:∃ z,clashC T r.clear=z:=⟨_,rfl⟩
 obtain ⟨c2,hc2⟩:∃ z,clashC T r.dwell=z:=⟨_,rfl⟩
 obtain ⟨c3,hc3⟩:∃ z,clashC T r.exit=z:=⟨_,rfl⟩
 obtain ⟨b1,hb1⟩:∃ z,abreast T r.exit=z:=⟨_,rfl⟩
 have CL1:=hJJ (CL.out r.clear)
 have CL2:=hJJ (CL.out r.dwell)
 have CL3:=hJJ (CL.out r.exit)
 have AB1:=hJJ (AB.out r.exit)
 rw [ha1] at AO HR
 rw [hc1] at CL1 HR
 rw [hc2] at CL2 HR
 rw [hc3] at CL3 HR
 rw [hb1] at AB1 HR
 clear hx ht CL AB ha1 hc1 hc2 hc3 hb1
 generalize or4 r=o4 at *
 generalize r.cells=rc at *
 obtain ⟨bars,clear_,dwell,exit,delay,green,foot,hold,stay,most,limit⟩:=r
 dsimp only at *
 generalize T.cells h=c at *
 go_enter Tryz.func123,Tryz.ntmps123
 go_upto_region 1 with fail
 obtain ⟨u,hu,E1,E0,EB,b1'⟩:=laid2 w (.cells c.toArray 31) (.cells rc.toArray 94)
 rw [hu]
 have A0:=hJJ E0
 have A1:=hJJ (LT0.out.below (by rw [hs1];exact EB))
 have A2:Hid (u.heap[w.heap.size+1]?=some (.cells rc.toArray 94 (0,0))):=hJJ b1'
 clear hu EB LT0 b1' hs1 hsz hsz2 hone E0 E1
 obtain ⟨q0,q1,q2,q3,q4,q5,q7,q8,q9,q10⟩:=RC.out _ _ A2.out
 go_wp2_with (refine lgZ 31 ⟨w.heap.size,0,none⟩ c rfl A1.out Tryz.underlying31 IA.out ?_)
 (try go_wp2_with fail)
 rw [O4.out]
 refine (AO.out _ A0.out).mono ?_
 rintro e u1 ⟨rfl,hb⟩
 have A0:Hid (Below w.heap.size w u1):=hJJ (A0.out.trans (hb.mono A0.out.size))
 have A2:Hid (u1.heap[w.heap.size+1]?=some (.cells rc.toArray 94 (0,0))):=hJJ ((hb.block _ (Array.getElem?_eq_some_iff.1 A2.out).1).trans A2.out)
 have A1:=hJJ (A1.out.below hb)
 clear q0 q1 q2 q3 q4 q5 q7 q8 q9 q10
 clear hb
 obtain ⟨q0,q1,q2,q3,q4,q5,q7,q8,q9,q10⟩:=RC.out _ _ A2.out
 cases a1 with
 | false =>
  have HX:Hid (true=x):=hJJ (by rw [HR.out];rfl)
  go_wp2
  go_ret
  exact ⟨ret_bool HX.out,A0.out⟩
 | true =>
  by_cases h1:dwell=0
  ·have HX:Hid (true=x):=hJJ (by rw [HR.out];simp [h1])
   go_wp2
   go_ret
   exact ⟨ret_bool HX.out,A0.out⟩
  by_cases h2:exit=0
  ·have HX:Hid (true=x):=hJJ (by rw [HR.out];simp [h2])
   go_wp2
   go_ret
   exact ⟨ret_bool HX.out,A0.out⟩
  by_cases h3:bits .and .i64 dwell bars=0
  rotate_left
  ·have HX:Hid (true=x):=hJJ (by rw [HR.out];simp [h3])
   go_wp2
   go_ret
   exact ⟨ret_bool HX.out,A0.out⟩
  go_wp2_with (refine lgZ 31 ⟨w.heap.size,0,none⟩ c rfl A1.out Tryz.underlying31 IA.out ?_)
  (try go_wp2_with fail)
  refine (CL1.out _ A0.out).mono ?_
  rintro e u2 ⟨rfl,hb⟩
  have A0:Hid (Below w.heap.size w u2):=hJJ (A0.out.trans (hb.mono A0.out.size))
  have A2:Hid (u2.heap[w.heap.size+1]?=some (.cells rc.toArray 94 (0,0))):=hJJ ((hb.block _ (Array.getElem?_eq_some_iff.1 A2.out).1).trans A2.out)
  have A1:=hJJ (A1.out.below hb)
  clear q0 q1 q2 q3 q4 q5 q7 q8 q9 q10
  clear hb
  obtain ⟨q0,q1,q2,q3,q4,q5,q7,q8,q9,q10⟩:=RC.out _ _ A2.out
  cases c1 with
  | true =>
   have HX:Hid (true=x):=hJJ (by rw [HR.out];simp)
   go_wp2
   go_ret
   exact ⟨ret_bool HX.out,A0.out⟩
  | false =>
   go_wp2_with (refine lgZ 31 ⟨w.heap.size,0,none⟩ c rfl A1.out Tryz.underlying31 IA.out ?_)
   (try go_wp2_with fail)
   refine (CL2.out _ A0.out).mono ?_
   rintro e u3 ⟨rfl,hb⟩
   have A0:Hid (Below w.heap.size w u3):=hJJ (A0.out.trans (hb.mono A0.out.size))
   have A2:Hid (u3.heap[w.heap.size+1]?=some (.cells rc.toArray 94 (0,0))):=hJJ ((hb.block _ (Array.getElem?_eq_some_iff.1 A2.out).1).trans A2.out)
   have A1:=hJJ (A1.out.below hb)
   clear q0 q1 q2 q3 q4 q5 q7 q8 q9 q10
   clear hb
   obtain ⟨q0,q1,q2,q3,q4,q5,q7,q8,q9,q10⟩:=RC.out _ _ A2.out
   cases c2 with
   | true =>
    have HX:Hid (true=x):=hJJ (by rw [HR.out];simp)
    go_wp2
    go_ret
    exact ⟨ret_bool HX.out,A0.out⟩
   | false =>
    go_wp2_with (refine lgZ 31 ⟨w.heap.size,0,none⟩ c rfl A1.out Tryz.underlying31 IA.out ?_)
    (try go_wp2_with fail)
    refine (CL3.out _ A0.out).mono ?_
    rintro e u4 ⟨rfl,hb⟩
    have A0:Hid (Below w.heap.size w u4):=hJJ (A0.out.trans (hb.mono A0.out.size))
    have A2:Hid (u4.heap[w.heap.size+1]?=some (.cells rc.toArray 94 (0,0))):=hJJ ((hb.block _ (Array.getElem?_eq_some_iff.1 A2.out).1).trans A2.out)
    have A1:=hJJ (A1.out.below hb)
    clear q0 q1 q2 q3 q4 q5 q7 q8 q9 q10
    clear hb
    obtain ⟨q0,q1,q2,q3,q4,q5,q7,q8,q9,q10⟩:=RC.out _ _ A2.out
    cases c3 with
    | true =>
     have HX:Hid (true=x):=hJJ (by rw [HR.out];simp)
     go_wp2
     go_ret
     exact ⟨ret_bool HX.out,A0.out⟩
    | false =>
     go_wp2_with (refine lgZ 31 ⟨w.heap.size,0,none⟩ c rfl A1.out Tryz.underlying31 IA.out ?_)
     (try go_wp2_with fail)
     refine (AB1.out _ A0.out).mono ?_
     rintro e u5 ⟨rfl,hb⟩
     have A0:Hid (Below w.heap.size w u5):=hJJ (A0.out.trans (hb.mono A0.out.size))
     have A2:Hid (u5.heap[w.heap.size+1]?=some (.cells rc.toArray 94 (0,0))):=hJJ ((hb.block _ (Array.getElem?_eq_some_iff.1 A2.out).1).trans A2.out)
     have A1:=hJJ (A1.out.below hb)
     clear q0 q1 q2 q3 q4 q5 q7 q8 q9 q10
     clear hb
     obtain ⟨q0,q1,q2,q3,q4,q5,q7,q8,q9,q10⟩:=RC.out _ _ A2.out
     cases b1 with
     | false =>
      have HX:Hid (true=x):=hJJ (by rw [HR.out];simp)
      go_wp2
      go_ret
      exact ⟨ret_bool HX.out,A0.out⟩
     | true =>
      have LR:Hid (Lies u5 ⟨w.heap.size+1,0,none⟩ rc):=hJJ (by have:=Row.lies_of_block A2.out;simpa using this)
      go_wp2_with (refine lgZ 94 ⟨w.heap.size+1,0,none⟩ rc rfl LR.out Tryz.underlying94 IR.out ?_)
      (try go_wp2_with fail)
      refine (BT.out _).mono ?_
      rintro e uz ⟨rfl,hb⟩
      have EZ:=hJJ (A0.out.trans (hb.mono A0.out.size))
      clear hb
      have HX:Hid (x=tb):=hJJ (by rw [HR.out,beq_eq_false_iff_ne.2 h1,beq_eq_false_iff_ne.2 h2,h3];rfl)
      go_wp2
      go_ret
      refine ⟨ret_bool ?_,EZ.out⟩
      first | exact HX.out.symm | (rw [HX.out,beq_eq_false_iff_ne.2 h1,beq_eq_false_iff_ne.2 h2];rfl)
end ChkR
end Go.Proofs.YtkkfdojjecagmaaGreat
