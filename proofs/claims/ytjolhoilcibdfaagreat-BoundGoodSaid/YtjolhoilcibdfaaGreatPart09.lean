/- 12 texts in one file, in build order. -/
import Derived.Test.YtjolhoilcibdfaaGreatRows
import Derived.Test.YtjolhoilcibdfaaGreatPart08
import Derived.Test.YtjolhoilcibdfaaGreatPart03
import Derived.Test.YtjolhoilcibdfaaGreatPart02
import Derived.Test.YtjolhoilcibdfaaGreatPart07
import Derived.Test.YtjolhoilcibdfaaGreatPart01
import Derived.Deep.Cut
import Derived.LoopTactic
import Derived.Test.YtjolhoilcibdfaaGreatPart06
import Derived.Test.YtjolhoilcibdfaaGreatPart05
set_option linter.unusedVariables false
set_option linter.unusedSimpArgs false
set_option linter.unusedSectionVars false
set_option maxHeartbeats 8000000
set_option maxRecDepth 100000
namespace Go.Proofs.YtjolhoilcibdfaaGreat
namespace ChkX
open Go Tab PlaceM PlanM OnS May ChkM
theorem low_in {a:Int} (h:0≤a∧a≤255):((SetM.low a:Nat):Int)=a:=by unfold SetM.low;omega
theorem has_bits {a q:Int}:SetM.has a q=true ↔ 0≤q∧q < 8∧(SetM.low a).testBit q.toNat=true:=by
 unfold SetM.has
 rw [Bool.and_eq_true,decide_eq_true_eq]
 constructor
 ·rintro ⟨h1,h2⟩
  refine ⟨h1,?_,h2⟩
  by_cases h8:q < 8
  ·exact h8
  ·rw [SetM.test_high _ _ (SetM.low_lt a) (by omega)] at h2;cases h2
 ·rintro ⟨h1,_,h2⟩;exact ⟨h1,h2⟩
theorem low_ne {m:Nat} (hm:m < 256):m ≠ 0 ↔ ∃ q:Int,SetM.has (m:Int) q=true:=by
 constructor
 ·intro h
  refine Classical.byContradiction fun hn=>h ?_
  refine Nat.eq_of_testBit_eq fun k=>?_
  rw [Nat.zero_testBit]
  cases ht:m.testBit k with
  | false=>rfl
  | true =>
   exfalso
   refine hn ⟨(k:Int),has_bits.2 ⟨by omega,?_,?_⟩⟩
   ·by_cases h8:k < 8
    ·omega
    ·rw [SetM.test_high _ _ hm (by omega)] at ht;cases ht
   ·rw [SetM.low_nat _ hm,Int.toNat_natCast];exact ht
 ·rintro ⟨q,hq⟩ rfl
  have:=(has_bits.1 hq).2.2
  rw [SetM.low_nat _ hm,Nat.zero_testBit] at this
  cases this
theorem and_ne {a b:Int} (hb:0≤b∧b≤255):bits .and .i64 a b ≠ 0 ↔ ∃ q:Int,SetM.has a q=true∧SetM.has b q=true:=by
 have e:bits .and .i64 a b=((SetM.low a &&& SetM.low b:Nat):Int):=by
  have:=SetM.and_low a (SetM.low b) (SetM.low_lt b)
  rwa [low_in hb] at this
 have hlt:SetM.low a &&& SetM.low b < 256:=Nat.lt_of_le_of_lt Nat.and_le_left (SetM.low_lt a)
 rw [e]
 have:((SetM.low a &&& SetM.low b:Nat):Int) ≠ 0 ↔ (SetM.low a &&& SetM.low b) ≠ 0:=by omega
 rw [this,low_ne hlt]
 constructor
 ·rintro ⟨q,hq⟩
  obtain ⟨h1,h2,h3⟩:=has_bits.1 hq
  rw [SetM.low_nat _ hlt,Nat.testBit_and,Bool.and_eq_true] at h3
  exact ⟨q,has_bits.2 ⟨h1,h2,h3.1⟩,has_bits.2 ⟨h1,h2,h3.2⟩⟩
 ·rintro ⟨q,h1,h2⟩
  obtain ⟨h3,h4,h5⟩:=has_bits.1 h1
  obtain ⟨_,_,h6⟩:=has_bits.1 h2
  refine ⟨q,has_bits.2 ⟨h3,h4,?_⟩⟩
  rw [SetM.low_nat _ hlt,Nat.testBit_and,h5,h6];rfl
theorem andNot_eq {a:Int} (ha:0≤a∧a≤255) {m:Nat} (hm:m < 256):bits .andNot .i64 a (m:Int)=((SetM.low a &&& (255 - m):Nat):Int):=by
 obtain ⟨k,rfl⟩:=Int.eq_ofNat_of_zero_le ha.1
 have hk:k < 256:=by omega
 have h1:=SetM.andNot_low (k:Int) m hm
 have e:bits .andNot .i64 (k:Int) (m:Int)=IntKind.i64.wrap (((BitVec.ofInt 64 (k:Int) &&& ~~~ BitVec.ofInt 64 (m:Int)).toNat:Nat):Int):=rfl
 have hlt:(BitVec.ofInt 64 (k:Int) &&& ~~~ BitVec.ofInt 64 (m:Int)).toNat < 256:=by
  rw [BitVec.toNat_and,SetM.toNat_ofNat k hk]
  exact Nat.lt_of_le_of_lt Nat.and_le_left hk
 rw [e,SetM.wrap_small _ hlt] at h1 ⊢
 rw [← h1,SetM.low_nat _ hlt]
theorem not_bit {m k:Nat} (hm:m < 256) (hk:k < 8):(255 - m).testBit k=!m.testBit k:=by
 have:∀ m:Fin 256,∀ k:Fin 8,(255 - m.val).testBit k.val=!m.val.testBit k.val:=by decide +kernel
 exact this ⟨m,hm⟩ ⟨k,hk⟩
theorem andNot_zero {a:Int} (ha:0≤a∧a≤255) {m:Nat} (hm:m < 256):bits .andNot .i64 a (m:Int)=0 ↔ ∀ q,SetM.has a q=true→SetM.has (m:Int) q=true:=by
 rw [andNot_eq ha hm]
 have hlt:SetM.low a &&& (255 - m) < 256:=Nat.lt_of_le_of_lt Nat.and_le_left (SetM.low_lt a)
 have h0:((SetM.low a &&& (255 - m):Nat):Int)=0 ↔ ¬ (SetM.low a &&& (255 - m)) ≠ 0:=by omega
 rw [h0,low_ne hlt]
 constructor
 ·intro h q hq
  obtain ⟨h1,h2,h3⟩:=has_bits.1 hq
  refine Classical.byContradiction fun hn=>h ⟨q,has_bits.2 ⟨h1,h2,?_⟩⟩
  rw [SetM.low_nat _ hlt,Nat.testBit_and,h3,not_bit hm (by omega),Bool.true_and]
  cases ht:m.testBit q.toNat with
  | false=>rfl
  | true=>exact absurd (has_bits.2 ⟨h1,h2,by rw [SetM.low_nat _ hm];exact ht⟩) hn
 ·rintro h ⟨q,hq⟩
  obtain ⟨h1,h2,h3⟩:=has_bits.1 hq
  rw [SetM.low_nat _ hlt,Nat.testBit_and,not_bit hm (by omega),Bool.and_eq_true] at h3
  have h4:=(has_bits.1 (h q (has_bits.2 ⟨h1,h2,h3.1⟩))).2.2
  rw [SetM.low_nat _ hm] at h4
  rw [h4] at h3
  cases h3.2
theorem allOn_iff {T:Tab} {s:Int} (hs:0≤s∧s≤255):allOn T s=true ↔ ∀ q,SetM.has s q=true→SetM.has (onS T:Nat) q=true:=by
 unfold allOn
 rw [beq_iff_eq,andNot_zero hs (show onS T < 256 from SetM.of_lt _)]
theorem inR_eq {T:Tab} {s:Int} (hs:0≤s∧s≤255):inR s (onS T:Nat)=allOn T s:=by
 unfold inR allOn
 rw [SetM.and_255,andNot_eq hs (show onS T < 256 from SetM.of_lt _),SetM.low_nat _ (Nat.lt_of_le_of_lt Nat.and_le_left (SetM.low_lt s))]
theorem has_of {l:List Int} {q:Int}:SetM.has ((SetM.of l:Nat):Int) q=true ↔ 0≤q∧q < 8∧q ∈ l:=by
 rw [has_bits,SetM.low_nat _ (SetM.of_lt _),SetM.of_test,decide_eq_true_eq]
 constructor
 ·rintro ⟨h1,h2,h3,_⟩;exact ⟨h1,h2,by rwa [Int.toNat_of_nonneg h1] at h3⟩
 ·rintro ⟨h1,h2,h3⟩;exact ⟨h1,h2,by rwa [Int.toNat_of_nonneg h1],by omega⟩
theorem mem_onTo {x:Int}:∀ {i:Nat} {l:List Ph},x ∈ onTo i l ↔ ∃ j u,l[j]?=some u∧u.on=true∧x=((i+j:Nat):Int)
 | i,[]=>by simp [onTo]
 | i,p :: l=>by
  rw [onTo,List.mem_append,mem_onTo (i:=i+1) (l:=l)]
  constructor
  ·rintro (h | ⟨j,u,h1,h2,h3⟩)
   ·by_cases hp:p.on
    ·rw [if_pos hp] at h
     exact ⟨0,p,rfl,hp,by simpa using h⟩
    ·rw [if_neg hp] at h;cases h
   ·exact ⟨j+1,u,by simpa using h1,h2,by rw [h3];congr 1;omega⟩
  ·rintro ⟨j,u,h1,h2,h3⟩
   cases j with
   | zero =>
    obtain rfl:p=u:=by simpa using h1
    exact .inl (by rw [if_pos h2];simpa using h3)
   | succ j=>exact .inr ⟨j,u,by simpa using h1,h2,by rw [h3];congr 1;omega⟩
theorem has_on {T:Tab} (h8:T.phases.length=8) {p:Int} (h0:0≤p) (hp:p < 8):SetM.has (onS T:Nat) p=(phAt T p).on:=by
 obtain ⟨k,rfl⟩:=Int.eq_ofNat_of_zero_le h0
 have hk:k < T.phases.length:=by omega
 have e:phAt T k=T.phases[k]:=by unfold phAt;rw [Int.toNat_natCast,List.getD_eq_getElem?_getD,List.getElem?_eq_getElem hk];rfl
 rw [Bool.eq_iff_iff]
 unfold onS onL
 rw [has_of,mem_onTo,e]
 constructor
 ·rintro ⟨_,_,j,u,h1,h2,h3⟩
  obtain rfl:k=j:=by omega
  rw [List.getElem?_eq_getElem hk] at h1
  obtain rfl:=Option.some.inj h1
  exact h2
 ·intro h
  exact ⟨h0,hp,k,_,List.getElem?_eq_getElem hk,h,by simp⟩
theorem mem_ons {T:Tab} {q:Int}:q ∈ ons T ↔ SetM.has (onS T:Nat) q=true:=SetM.mem_list _ _
theorem allIn_iff {m:Int} {l:List Int}:allIn m l=true ↔ ∀ x ∈ l,0≤x∧x≤m:=by
 unfold allIn inB
 rw [List.all_eq_true]
 constructor
 ·intro h x hx;have:=h x hx;simpa using this
 ·intro h x hx;have:=h x hx;simpa using this
structure InR (T:Tab):Prop where
 ph:∀ u ∈ T.phases,Ph.may u=true
 gr:∀ g ∈ T.groups,groupMay g=true
 cf:∀ x ∈ T.conflict,0≤x∧x≤255
 dt:∀ d ∈ T.dets,Det.may d=true
 rl:∀ r ∈ T.rails,Rl.may r=true
 bs:∀ b ∈ T.buses,Bs.may b=true
theorem in_ranges {T:Tab} (h:tabMay T=true):InR T:=by
 unfold tabMay listMay at h
 simp only [Bool.and_eq_true,List.all_eq_true] at h
 obtain ⟨⟨_,h1⟩,⟨_,h2⟩,h3,⟨_,h4⟩,⟨_,h5⟩,⟨_,h6⟩,_⟩:=h
 exact ⟨h1,h2,allIn_iff.1 h3,h4,h5,h6⟩
theorem lt_dec (a b:Int):decide (a < b)=!decide (b≤a):=by rw [Bool.eq_iff_iff];simp
theorem ph_eq {u:Ph} (h:Ph.may u=true):phOk u=!phBad u:=by
 unfold Ph.may at h
 rw [Bool.and_eq_true,allIn_iff,allIn_iff] at h
 have hw:=h.1 u.walk (by simp)
 have hb:=h.1 u.blinks (by simp)
 obtain ⟨on,min,gap,max,top,step,yellow,red,walk,blinks,recall,lock,rest⟩:=u
 clear h
 unfold phOk phBad
 simp only at *
 have e0:(walk == 0)=!decide (0 < walk):=by rw [Bool.eq_iff_iff];simp;omega
 have e1:(blinks == 0)=!decide (0 < blinks):=by rw [Bool.eq_iff_iff];simp;omega
 rw [e0,e1,lt_dec min 1,lt_dec yellow 10,lt_dec max min,lt_dec top max,lt_dec step 1]
 have e2:(recall != 3)=!(recall == 3):=rfl
 rw [e2]
 generalize decide (0 < walk)=b0
 generalize decide (0 < blinks)=b1
 generalize decide (1≤min)=b2
 generalize decide (10≤yellow)=b3
 generalize decide (min≤max)=b4
 generalize decide (1≤step)=b5
 generalize (recall == 3)=b6
 by_cases h4:max≤top
 ·have e3:(top == max)=!decide (max < top):=by rw [Bool.eq_iff_iff];simp;omega
  rw [e3,decide_eq_true h4]
  generalize decide (max < top)=b7
  revert b0 b1 b2 b3 b4 b5 b6 b7
  decide
 ·rw [decide_eq_false h4]
  generalize decide (max < top)=b7
  generalize (top == max)=b8
  revert b0 b1 b2 b3 b4 b5 b6 b7 b8
  decide
theorem ph_at {T:Tab} (h:InR T) (h8:T.phases.length=8) {p:Int} (h0:0≤p) (hp:p < 8):Ph.may (phAt T p)=true:=by
 refine h.ph _ ?_
 unfold phAt
 rw [List.getD_eq_getElem?_getD,List.getElem?_eq_getElem (show p.toNat < T.phases.length by omega)]
 exact List.getElem_mem _
theorem conf_eq {T:Tab} {p:Int} (hp:p ∈ ons T):confOk T p=!confBad T p:=by
 unfold confOk
 congr 1
 rw [Bool.eq_iff_iff]
 unfold confBad
 rw [List.any_eq_true,Bool.or_eq_true,List.any_eq_true]
 constructor
 ·rintro ⟨q,hq,h⟩
  unfold confR at h
  rw [Bool.or_eq_true,Bool.and_eq_true,beq_iff_eq] at h
  rcases h with ⟨h1,rfl⟩ | h
  ·exact .inl h1
  ·exact .inr ⟨q,hq,h⟩
 ·rintro (h | ⟨q,hq,h⟩)
  ·exact ⟨p,hp,by unfold confR;rw [h];simp⟩
  ·refine ⟨q,hq,?_⟩
   unfold confR
   rw [h];simp
theorem det_eq {T:Tab} (h8:T.phases.length=8) {d:Det} (h0:0≤d.phase) (hp:d.phase < 8):detBad T d=detR T d:=by
 unfold detBad detR;rw [has_on h8 h0 hp]
theorem mem_yel {T:Tab} {q:Int}:SetM.has (yellows T:Nat) q=true ↔ q ∈ ons T∧flAt T q=2:=by
 unfold yellows
 rw [has_of,List.mem_filter]
 unfold yel
 rw [beq_iff_eq]
 constructor
 ·rintro ⟨_,_,h⟩;exact h
 ·intro h;have:=SetM.list_bd _ _ h.1;exact ⟨this.1,this.2,h⟩
theorem flash_eq {T:Tab} {p:Int}:flashOk T p=!flashBad T p:=by
 have hy:0≤((yellows T:Nat):Int)∧((yellows T:Nat):Int)≤255:=by have:yellows T < 256:=SetM.of_lt _;omega
 have e:(bits .and .i64 (cfAt T p) (yellows T:Nat) != 0)=(ons T).any fun q=>flAt T q == 2 && SetM.has (cfAt T p) q:=by
  rw [Bool.eq_iff_iff,bne_iff_ne,and_ne hy,List.any_eq_true]
  constructor
  ·rintro ⟨q,h1,h2⟩;obtain ⟨h3,h4⟩:=mem_yel.1 h2;exact ⟨q,h3,by rw [h4,h1];rfl⟩
  ·rintro ⟨q,h1,h2⟩
   rw [Bool.and_eq_true,beq_iff_eq] at h2
   exact ⟨q,h2.2,mem_yel.2 ⟨h1,h2.1⟩⟩
 unfold flashOk flashBad
 rw [e]
 unfold flashR
 by_cases h0:flAt T p=0
 ·rw [h0];rfl
 by_cases h2:flAt T p=2
 ·rw [h2];simp
 ·have e2:(flAt T p == 2)=false:=beq_eq_false_iff_ne.2 h2
  have e0:(flAt T p == 0)=false:=beq_eq_false_iff_ne.2 h0
  have e1:(flAt T p != 0)=true:=bne_iff_ne.2 h0
  rw [e0,e1]
  simp only [e2,Bool.false_and]
  simp
theorem bus_eq {T:Tab} {b:Bs} (h:Bs.may b=true):busBad T b=busR T b:=by
 unfold Bs.may at h
 rw [Bool.and_eq_true,allIn_iff] at h
 unfold busBad busR
 rw [inR_eq (h.1 b.set (by simp))]
theorem clash_eq {T:Tab} (h:InR T) (hc:T.conflict.length=8) {s:Int} (hs:0≤s∧s≤255):clashC T s=clashR T s s:=by
 rw [Bool.eq_iff_iff]
 unfold clashC clashR
 rw [List.any_eq_true,List.any_eq_true]
 constructor
 ·rintro ⟨p,hp,h1⟩
  rw [bne_iff_ne,and_ne hs] at h1
  obtain ⟨q,h2,h3⟩:=h1
  exact ⟨p,hp,List.any_eq_true.2 ⟨q,(SetM.mem_list _ _).2 h3,by rw [h2];rfl⟩⟩
 ·rintro ⟨p,hp,h1⟩
  obtain ⟨q,hq,h2⟩:=List.any_eq_true.1 h1
  rw [Bool.or_eq_true] at h2
  rcases h2 with h2 | h2
  ·exact ⟨p,hp,bne_iff_ne.2 ((and_ne hs).2 ⟨q,h2,(SetM.mem_list _ _).1 hq⟩)⟩
  ·exact ⟨q,hq,bne_iff_ne.2 ((and_ne hs).2 ⟨p,h2,(SetM.mem_list _ _).1 hp⟩)⟩
theorem beside_symm (T:Tab) (p q:Int):beside T p q=beside T q p:=by
 unfold beside
 cases where_ T p with
 | none=>cases where_ T q <;> rfl
 | some a =>
  cases where_ T q with
  | none=>rfl
  | some b =>
   show (a.g == b.g && a.k != b.k)=(b.g == a.g && b.k != a.k)
   rw [Bool.beq_comm,bne_comm]
theorem list_nodup (s:Int):(SetM.list s).Nodup:=by
 unfold SetM.list SetM.upto List.Nodup
 rw [List.pairwise_map]
 exact (List.nodup_range.sublist List.filter_sublist).imp (fun h e=>h (Int.ofNat.inj e))
theorem abreast_eq {T:Tab} {s:Int}:abreast T s=pairs T (SetM.list s):=by
 have hn:=list_nodup s
 have hm:∀ p q,q ∈ SetM.list (SetM.withoutN s p:Nat) ↔ q ∈ SetM.list s∧q ≠ p:=by
  intro p q
  rw [SetM.mem_list,SetM.mem_list,SetM.has_without,Bool.and_eq_true]
  simp
 rw [Bool.eq_iff_iff]
 unfold abreast pairs
 simp only [List.all_eq_true,List.mem_range,hm]
 generalize SetM.list s=L at *
 constructor
 ·intro h i hi k hk
  have e1:L.getD i 0=L[i]:=by rw [List.getD_eq_getElem?_getD,List.getElem?_eq_getElem hi];rfl
  have e2:L.getD k 0=L[k]'(by omega):=by rw [List.getD_eq_getElem?_getD,List.getElem?_eq_getElem (by omega)];rfl
  rw [e1,e2]
  refine h _ (List.getElem_mem _) _ ⟨List.getElem_mem _,fun e=>?_⟩
  have:=List.pairwise_iff_getElem.1 hn k i (by omega) hi hk
  exact this e
 ·rintro h p hp q ⟨hq,hne⟩
  obtain ⟨i,hi,rfl⟩:=List.getElem_of_mem hp
  obtain ⟨k,hk,rfl⟩:=List.getElem_of_mem hq
  have e:∀ (j:Nat) (hj:j < L.length),L.getD j 0=L[j]:=fun j hj=>by rw [List.getD_eq_getElem?_getD,List.getElem?_eq_getElem hj];rfl
  rcases Nat.lt_trichotomy k i with h1 | h1 | h1
  ·have:=h i hi k h1;rwa [e i hi,e k hk] at this
  ·subst h1;exact absurd rfl hne
  ·have:=h k hk i h1;rw [e i hi,e k hk] at this;rw [beside_symm];exact this
theorem or_in {a b:Int} (ha:0≤a∧a≤255) (hb:0≤b∧b≤255):0≤bits .or .i64 a b∧bits .or .i64 a b≤255:=by
 obtain ⟨m,rfl⟩:=Int.eq_ofNat_of_zero_le ha.1
 obtain ⟨n,rfl⟩:=Int.eq_ofNat_of_zero_le hb.1
 rw [RefS.or_small m n (by omega) (by omega)]
 have:=Nat.or_lt_two_pow (n:=8) (show m < 2 ^ 8 by omega) (show n < 2 ^ 8 by omega)
 omega
theorem exit_eq {T:Tab} {s:Int} (hs:0≤s∧s≤255):exitR T s=(s != 0 && abreast T s):=by
 unfold exitR
 rw [abreast_eq,Bool.and_comm]
 congr 1
 rw [Bool.eq_iff_iff,decide_eq_true_eq,bne_iff_ne,List.length_pos_iff_exists_mem]
 have:=low_ne (SetM.low_lt s)
 rw [low_in hs] at this
 constructor
 ·rintro ⟨q,hq⟩ rfl
  rw [SetM.mem_list] at hq
  exact (this.2 ⟨q,hq⟩) rfl
 ·intro h
  obtain ⟨q,hq⟩:=this.1 (fun e=>h (by rw [← low_in hs,e];rfl))
  exact ⟨q,(SetM.mem_list _ _).2 hq⟩
theorem rail_eq {T:Tab} (h:InR T) (hc:T.conflict.length=8) {r:Rl} (hr:Rl.may r=true):railOk T r=!railBad T r:=by
 unfold Rl.may at hr
 rw [Bool.and_eq_true,Bool.and_eq_true,allIn_iff,allIn_iff,allIn_iff] at hr
 obtain ⟨h1,h2,h3⟩:=hr
 have hb:=h1 r.bars (by simp)
 have hcl:=h1 r.clear (by simp)
 have hd:=h1 r.dwell (by simp)
 have he:=h1 r.exit (by simp)
 have hho:=h2 r.hold (by simp)
 have hmo:=h2 r.most (by simp)
 have ho:0≤or4 r∧or4 r≤255:=or_in (or_in (or_in hb hcl) hd) he
 unfold railOk railBad timesBad
 rw [inR_eq ho,← clash_eq h hc hcl,← clash_eq h hc hd,← clash_eq h hc he,exit_eq he]
 generalize allOn T (or4 r)=a
 generalize clashC T r.clear=c1
 generalize clashC T r.dwell=c2
 generalize clashC T r.exit=c3
 generalize abreast T r.exit=b
 generalize bits .and .i64 r.dwell r.bars=x
 obtain ⟨bars,clear,dwell,exit,delay,green,foot,hold,stay,most,limit⟩:=r
 simp only at *
 clear h1 h2 h3 ho
 have e0:(hold == 0)=!decide (0 < hold):=by rw [Bool.eq_iff_iff];simp;omega
 have e1:decide (0 < most)=!(most == 0):=by rw [Bool.eq_iff_iff];simp;omega
 rw [e0,e1,lt_dec green 1,lt_dec stay 1,lt_dec most stay,lt_dec delay limit]
 simp only [bne]
 generalize decide (0 < hold)=g0
 generalize (clear == 0)=g1
 generalize decide (1≤green)=g2
 generalize decide (1≤stay)=g3
 generalize (most == 0)=g4
 generalize decide (stay≤most)=g5
 generalize decide (limit≤delay)=g6
 generalize (dwell == 0)=g7
 generalize (exit == 0)=g8
 generalize (x == 0)=g9
 have e2:(g0 == !g1)=((!g0) == g1):=by revert g0 g1;decide
 rw [e2]
 generalize ((!g0) == g1)=k
 simp only [Bool.not_or,Bool.not_and,Bool.not_not]
 ac_rfl
end ChkX
namespace BdB
open Go.ChangeShapes Go.WideShapes Go.ChangeAt Go.RowKit
open Tab Gath OnS RefC Clear
open May (St phases_in infoP infoT row_new)
open ServeS PassS FreeS OverS WaitS EntryS ChkM BdS
def idxF (L:List Int):Int:=match L.findIdx? full with
 | some i=>i
 | none=>-1
theorem idx_at {L:List Int} {k:Nat} {v:Int} (h:∀ x ∈ L.take k,full x=false) (hv:L[k]?=some v) (hf:full v=true):idxF L=k:=by
 have hl:=(List.getElem?_eq_some_iff.1 hv)
 obtain ⟨hl,hv⟩:=hl
 have:L.findIdx? full=some k:=by
  rw [List.findIdx?_eq_some_iff_getElem]
  refine ⟨hl,by rw [hv];exact hf,fun j hj=>?_⟩
  have:=h (L[j]'(by omega)) (by rw [List.mem_take_iff_getElem];exact ⟨j,by omega,rfl⟩)
  simp [this]
 unfold idxF;rw [this]
theorem idx_none {L:List Int} (h:∀ x ∈ L,full x=false):idxF L = -1:=by
 have:L.findIdx? full=none:=by
  rw [List.findIdx?_eq_none_iff]
  exact h
 unfold idxF;rw [this]
theorem take_all {L:List Int} {k:Nat} {v:Int} (h:∀ x ∈ L.take k,full x=false) (hv:L[k]?=some v) (hf:full v=false):∀ x ∈ L.take (k+1),full x=false:=by
 intro x hx
 rw [PlaceM.take_succ hv] at hx
 rcases List.mem_append.1 hx with hx | hx
 ·exact h x hx
 ·obtain rfl:=List.mem_singleton.1 hx
  exact hf
def waitsL (T:Tab):List Int:=(List.range 8).map fun i=>waitS T (i:Nat)
def entsL (T:Tab):List Int:=(List.range 4).map fun i=>entryS T (i:Nat)
theorem waits_len (T:Tab):(waitsL T).length=8:=rfl
theorem ents_len (T:Tab):(entsL T).length=4:=rfl
theorem waits_at (T:Tab) {i:Nat} (h:i < 8):(waitsL T)[i]?=some (waitS T i):=by unfold waitsL;rw [List.getElem?_map,List.getElem?_range h];rfl
theorem ents_at (T:Tab) {i:Nat} (h:i < 4):(entsL T)[i]?=some (entryS T i):=by unfold entsL;rw [List.getElem?_map,List.getElem?_range h];rfl
def faultS (T:Tab):Int × Int:=if 0≤idxF (waitsL T) then (14,idxF (waitsL T)) else if 0≤idxF (entsL T) then (14,idxF (entsL T)) else if 0 < T.rails.length∧T.window < mosts (waitsL T) then (15,0) else (0,0)
def allF (T:Tab):Int × Int:=if chkC T=(0,0) then faultS T else chkC T
def allB (T:Tab):List Int:=if allF T=(0,0) then waitsL T++entsL T else List.replicate 12 0
theorem wait_lo (T:Tab) (p:Int):0≤waitS T p:=by
 have hf:0≤freeS T p:=by
  unfold freeS
  split
  ·split
   ·exact BdM.sums_lo _
   ·omega
  ·omega
 unfold waitS
 split
 ·exact hf
 ·exact BdM.sums_lo _
theorem waits_lo (T:Tab):∀ x ∈ waitsL T,0≤x:=by
 intro x hx
 obtain ⟨i,_,rfl⟩:=List.mem_map.1 hx
 exact wait_lo T _
theorem wait_on {T:Tab} {p:Int} (h:waitS T p ≠ 0):SetM.has (onS T:Nat) p=true:=by
 by_cases ho:SetM.has (onS T:Nat) p=true
 ·exact ho
 exfalso
 apply h
 have hf:freeS T p=0:=by
  unfold freeS
  split
  ·rw [if_neg ho]
  ·rfl
 unfold waitS
 rw [hf];simp
theorem entry_far {T:Tab} {k:Nat} (h:T.rails.length≤k):entryS T k=0:=by
 unfold entryS
 rw [if_neg (by omega),Int.toNat_natCast,List.getElem?_eq_none h]
def zeros (n:Nat):List Int:=List.replicate n 0
def upTo (L:List Int) (n i:Nat):List Int:=L.take i++List.replicate (n - i) 0
theorem upTo_succ {L:List Int} {n i:Nat} {v:Int} (hn:L.length=n) (hv:L[i]?=some v):(upTo L n i).set i v=upTo L n (i+1):=by
 have hl:=(List.getElem?_eq_some_iff.1 hv).1
 unfold upTo
 rw [PlaceM.take_succ hv,List.append_assoc,List.set_append_right _ _ (by rw [List.length_take];omega),List.length_take,Nat.min_eq_left (by omega),Nat.sub_self,show n - i=(n - (i+1))+1 by omega,List.replicate_succ]
 rfl
theorem upTo_same {L:List Int} {n i:Nat} (hn:L.length=n) (hi:i≤n) (h:∀ j,i≤j→j < n→L[j]?=some 0):upTo L n i=L:=by
 unfold upTo
 have:L.drop i=List.replicate (n - i) 0:=by
  rw [List.eq_replicate_iff]
  refine ⟨by rw [List.length_drop,hn],fun x hx=>?_⟩
  obtain ⟨j,hj,rfl⟩:=List.mem_iff_getElem.1 hx
  rw [List.length_drop] at hj
  have:=h (i+j) (by omega) (by omega)
  rw [List.getElem_drop]
  exact (List.getElem?_eq_some_iff.1 this).2
 rw [← this,List.take_append_drop]
theorem upTo_full {L:List Int} {n:Nat} (hn:L.length=n):upTo L n n=L:=by
 unfold upTo;rw [Nat.sub_self,← hn,List.take_length];simp
theorem upTo_len {L:List Int} {n i:Nat} (hn:L.length=n) (hi:i≤n):(upTo L n i).length=n:=by unfold upTo;rw [List.length_append,List.length_take,List.length_replicate];omega
def bcells (A E:List Int):Array Value:=((A++E).map I).toArray
theorem setA {A E:List Int} {i:Nat} (v:Int) (h:i < A.length):(bcells A E).setIfInBounds i (I v)=bcells (A.set i v) E:=by
 unfold bcells
 rw [List.setIfInBounds_toArray,← List.map_set,List.set_append_left _ _ h]
theorem setE {A E:List Int} {i:Nat} (v:Int) (h:i < E.length):(bcells A E).setIfInBounds (A.length+i) (I v)=bcells A (E.set i v):=by
 unfold bcells
 rw [List.setIfInBounds_toArray,← List.map_set,List.set_append_right _ _ (by omega),Nat.add_sub_cancel_left]
theorem bsize (A E:List Int):(bcells A E).size=A.length+E.length:=by unfold bcells;simp
theorem batA {A E:List Int} {i:Nat} {v:Int} (h:A[i]?=some v):(bcells A E)[i]?=some (I v):=by
 have hl:=(List.getElem?_eq_some_iff.1 h).1
 unfold bcells
 rw [List.getElem?_toArray,List.map_append,List.getElem?_append_left (by simpa using hl),List.getElem?_map,h]
 rfl
theorem batE {A E:List Int} {i:Nat} {v:Int} (h:E[i]?=some v):(bcells A E)[A.length+i]?=some (I v):=by
 unfold bcells
 rw [List.getElem?_toArray,List.map_append,List.getElem?_append_right (by simp),List.length_map,Nat.add_sub_cancel_left,List.getElem?_map,h]
 rfl
theorem bone (A E:List Int):(bcells A E).all (·.oneCell')=true:=by
 unfold bcells
 simp [Value.oneCell']
section
variable {w1 u v:World}
structure Bks (w1:World) (m:List (Nat × Array Value × TypeId)) (u:World):Prop where
 bel:Below w1.heap.size w1 u
 own:∀ x ∈ m,w1.heap.size≤x.1
 blk:∀ x ∈ m,u.heap[x.1]?=some (.cells x.2.1 x.2.2 (0,0))
theorem Bks.step {m:List (Nat × Array Value × TypeId)} (h:Bks w1 m u) (hb:Below u.heap.size u v):Bks w1 m v :=
 ⟨h.bel.trans (hb.mono h.bel.size),h.own,fun x hx=>(hb.block _ (Array.getElem?_eq_some_iff.1 (h.blk x hx)).1).trans (h.blk x hx)⟩
theorem Bks.set {m:List (Nat × Array Value × TypeId)} {n:Nat} {cs:Array Value} {t:TypeId} (h:Bks w1 ((n,cs,t) :: m) u) (hd:∀ x ∈ m,x.1 ≠ n) (i:Nat) (x:Value) :
  Bks w1 ((n,cs.setIfInBounds i x,t) :: m) (u.setCell ⟨n,i,none⟩ x):=by
 have ho:=h.own _ (List.mem_cons_self ..)
 have hk:=h.blk _ (List.mem_cons_self ..)
 have hg:=GenG.grown_set u n i x
 refine ⟨h.bel.grown hg h.bel.size (fun k hk=>by cases hk;exact ho),fun y hy=>?_,fun y hy=>?_⟩
 ·rcases List.mem_cons.1 hy with rfl | hy
  ·exact ho
  ·exact h.own _ (List.mem_cons_of_mem _ hy)
 ·rcases List.mem_cons.1 hy with rfl | hy
  ·exact heap_setCell_same _ _ _ _ _ _ hk
  ·have h1:=h.blk _ (List.mem_cons_of_mem _ hy)
   exact (hg.block _ (Array.getElem?_eq_some_iff.1 h1).1 (fun e=>hd y hy (Option.some.inj e))).trans h1
theorem Bks.row {m:List (Nat × Array Value × TypeId)} {n:Nat} {cs:Array Value} {t:TypeId} (h:Bks w1 ((n,cs,t) :: m) u) (hd:∀ x ∈ m,x.1 ≠ n) (cs':Array Value) :
  Bks w1 ((n,cs',t) :: m) (u.setRow n cs'):=by
 have ho:=h.own _ (List.mem_cons_self ..)
 have hk:=h.blk _ (List.mem_cons_self ..)
 refine ⟨Same.below_setRow h.bel ho cs',fun y hy=>?_,fun y hy=>?_⟩
 ·rcases List.mem_cons.1 hy with rfl | hy
  ·exact ho
  ·exact h.own _ (List.mem_cons_of_mem _ hy)
 ·rcases List.mem_cons.1 hy with rfl | hy
  ·exact setRow_heap _ _ _ _ _ _ hk
  ·have h1:=h.blk _ (List.mem_cons_of_mem _ hy)
   exact (setRow_other _ _ _ _ (hd y hy)).trans h1
theorem row_A {n:Nat} {A E:List Int} {t:TypeId} (h:u.heap[n]?=some (.cells (bcells A E) t (0,0))) (hm:A.length≤maxLen):IntRow u ⟨some ⟨n,0,none⟩,A.length⟩ A:=by
 refine .inr ⟨_,rfl,Nat.le_refl _,hm,fun i v hv j x hx=>?_⟩
 cases j with
 | zero =>
  obtain rfl:=Option.some.inj hx
  rw [Nat.mul_one,add_two,Nat.add_zero,Addr.add_mid,Nat.zero_add,cell_of_row _ _ _ _ _ _ h]
  exact batA hv
 | succ j=>simp at hx
theorem row_E {n:Nat} {A E:List Int} {t:TypeId} (h:u.heap[n]?=some (.cells (bcells A E) t (0,0))) (hm:E.length≤maxLen):IntRow u ⟨some ⟨n,A.length,none⟩,E.length⟩ E:=by
 refine .inr ⟨_,rfl,Nat.le_refl _,hm,fun i v hv j x hx=>?_⟩
 cases j with
 | zero =>
  obtain rfl:=Option.some.inj hx
  rw [Nat.mul_one,add_two,Nat.add_zero,Addr.add_mid,cell_of_row _ _ _ _ _ _ h]
  exact batE hv
 | succ j=>simp at hx
end
theorem results_two {P:Program} {fn:Func} {p q:Tmp} {t1 t2:TypeId} (h:fn.results=#[.cell p t1,.cell q t2]) (tmps:Array Value) (w:World) (g1 g2:Nat) (s1 s2:TypeId) (c1 c2:Array Value) (d1 d2:TypeDesc)
  (hp:tmps.getD p undef=.pointer (some ⟨g1,0,none⟩)) (hq:tmps.getD q undef=.pointer (some ⟨g2,0,none⟩)) (hg1:w.heap[g1]?=some (.cells c1 s1 (0,0))) (hg2:w.heap[g2]?=some (.cells c2 s2 (0,0)))
  (hu1:P.underlying t1=some d1) (hd1:(match d1 with | .struct _ | .array _ _=>true | _=>false)=true) (hi1:(P.info? t1).map (·.size)=some c1.size)
  (hu2:P.underlying t2=some d2) (hd2:(match d2 with | .struct _ | .array _ _=>true | _=>false)=true) (hi2:(P.info? t2).map (·.size)=some c2.size) :
  (results fn tmps).run P w=.ok (.tuple #[.agg c1,.agg c2]) w:=by
 have hp':tmps[p]?.getD undef=.pointer (some ⟨g1,0,none⟩):=by simpa using hp
 have hq':tmps[q]?.getD undef=.pointer (some ⟨g2,0,none⟩):=by simpa using hq
 simp [results,h,hp',hq',asAddr,Sem.run_bind,Result.andThen,run_loadVar_row w g1 s1 t1 c1 _ d1 hg1 hu1 hd1 hi1,run_loadVar_row w g2 s2 t2 c2 _ d2 hg2 hu2 hd2 hi2]
theorem infoB:(Tryz.prog.info? 65).map (·.size)=some 12:=by kernel_rfl
theorem infoF:(Tryz.prog.info? 37).map (·.size)=some 2:=by kernel_rfl
end BdB
namespace BdQ
open Go Tab PlaceM RefC Clear OnS ServeS PassS FreeS EntryS OverS WaitS BdM BdPM BdB
theorem free_lo (T:Tab) (p:Int):0≤freeS T p:=by
 unfold freeS
 split
 ·split
  ·exact sums_lo _
  ·omega
 ·omega
theorem mul_mono {a b c d:Int} (h1:a≤c) (h2:b≤d):mul a b≤mul c d:=by
 unfold mul
 refine cap_mono ?_
 exact Int.mul_le_mul (cap_mono h1) (cap_mono h2) (cap_lo _) (cap_lo _)
theorem cap_le {x B:Int} (h:x≤B) (h0:0≤B):cap x≤B:=by unfold cap;split <;> (try split) <;> omega
theorem tot_le {B:Int} (h0:0≤B):∀ {l:List Int},(∀ x ∈ l,x≤B)→tot l≤l.length*B
 | [],_=>by simp [tot_nil]
 | x :: l,h=>by
  rw [tot_cons,List.length_cons]
  have:=cap_le (h x (by simp)) h0
  have:=tot_le h0 (l:=l) (fun y hy=>h y (by simp [hy]))
  have e:((l.length+1:Nat):Int)*B=l.length*B+B:=by rw [Int.natCast_add,Int.add_mul];simp
  omega
theorem mosts_le {B:Int} (h0:0≤B):∀ {l:List Int},(∀ x ∈ l,x≤B)→mosts l≤B
 | [],_=>h0
 | x :: l,h=>by
  rw [mosts_cons]
  have:=h x (by simp)
  have:=mosts_le h0 (l:=l) (fun y hy=>h y (by simp [hy]))
  omega
theorem le_mosts {x:Int}:∀ {l:List Int},x ∈ l→x≤mosts l
 | y :: l,h=>by
  rw [mosts_cons]
  rcases List.mem_cons.1 h with rfl | h
  ·omega
  ·have:=le_mosts h;omega
structure Lo (T:Tab):Prop where
 h8:T.phases.length=8
 ph:∀ p,0≤(phAt T p).min∧(phAt T p).min≤9999∧(phAt T p).top≤9999∧(phAt T p).yellow≤9999∧(phAt T p).red≤9999∧(phAt T p).walk≤9999∧(phAt T p).blinks≤9999
 ex:T.extend≤9999
 rv:T.revert≤9999
 sh:0≤T.share∧T.share≤3
 gr:T.groups.length≤3
 rw:∀ g ∈ T.groups,g.1.length≤2∧g.2.length≤2
 rl:∀ r ∈ T.rails,r.delay≤9999∧r.hold≤9999∧r.green≤9999∧r.foot≤9999∧r.stay≤9999
theorem serve_le {T:Tab} (h:Lo T) (p:Int):0≤serveS T p∧serveS T p≤60002:=by
 unfold serveS serveR
 split
 ·refine ⟨sums_lo _,?_⟩
  obtain ⟨h0,h1,h2,h3,h4,h5,h6⟩:=h.ph p
  rw [sums_tot]
  simp only [tot_cons,tot_nil]
  have a1:=cap_le h.ex (by omega)
  have a2:=cap_le h.rv (by omega)
  have a3:=cap_le h3 (by omega)
  have a4:=cap_le h4 (by omega)
  have a5:=cap_le h5 (by omega)
  have a6:=cap_le h6 (by omega)
  have a7:=cap_le h2 (by omega)
  have a8:=cap_le h1 (by omega)
  have b1:sums [(phAt T p).walk,(phAt T p).blinks]≤19998:=by rw [sums_tot];simp only [tot_cons,tot_nil];omega
  have b2:cap (mosts [cap (phAt T p).min,sums [(phAt T p).walk,(phAt T p).blinks],cap (phAt T p).top])≤19998:=by
   refine cap_le ?_ (by omega)
   simp only [mosts_cons,mosts_nil]
   omega
  have b3:cap 8=8:=rfl
  omega
 ·omega
theorem pass_le {T:Tab} (h:Lo T) (g:Int):0≤passS T g∧passS T g≤240016:=by
 by_cases hg:0≤g∧g < T.groups.length
 ·obtain ⟨q,rfl⟩:=Int.eq_ofNat_of_zero_le hg.1
  have hq:q < T.groups.length:=by omega
  rw [pass_rows (List.getElem?_eq_getElem hq)]
  refine ⟨sums_lo _,?_⟩
  obtain ⟨r0,r1⟩:=h.rw _ (List.getElem_mem hq)
  generalize T.groups[q]=y at r0 r1
  rw [sums_tot,tot_cons]
  have h1:=tot_le (B:=60002) (by omega) (l:=(y.1++y.2).map (serveS T)) (by
   intro x hx
   obtain ⟨p,_,rfl⟩:=List.mem_map.1 hx
   exact (serve_le h p).2)
  rw [List.length_map,List.length_append] at h1
  have h2:((y.1.length+y.2.length:Nat):Int)≤4:=by omega
  have h3:((y.1.length+y.2.length:Nat):Int)*60002≤4*60002:=by omega
  have b3:cap 8=8:=rfl
  omega
 ·unfold passS
  rw [if_neg hg];omega
theorem cap_pass {T:Tab} (h:Lo T) (g:Int):cap (passS T g)=passS T g:=cap_in (pass_le h g).1 (by have:=(pass_le h g).2;omega)
theorem up_le {T:Tab} (h:Lo T) {n:Nat} (hn:n≤T.groups.length):0≤tot (upL T n)∧tot (upL T n)≤720048:=by
 refine ⟨tot_lo _,?_⟩
 have h1:=tot_le (B:=240016) (by omega) (l:=upL T n) (by
  intro x hx
  unfold upL at hx
  obtain ⟨i,_,rfl⟩:=List.mem_map.1 hx
  exact (pass_le h i).2)
 have:(upL T n).length=n:=by unfold upL;simp
 rw [this] at h1
 have:=h.gr
 omega
theorem up_tot {T:Tab} (h:Lo T) (n:Nat):tot (upL T (n+1))=tot (upL T n)+passS T n:=by
 rw [up_succ,tot_snoc,cap_pass h]
theorem free_val {T:Tab} (h:Lo T) {p:Int} {x:Spt} (hw:where_ T p=some x) (ho:SetM.has (onS T:Nat) p=true):freeS T p=tot (upL T T.groups.length)+passS T x.g:=by
 unfold freeS
 rw [hw]
 simp only
 rw [if_pos ho]
 unfold freeR
 rw [sums_tot,tot_cons,cap_pass h]
 have:=(up_le h (Nat.le_refl _)).2
 have:=(pass_le h x.g).2
 omega
theorem free_le {T:Tab} (h:Lo T) (p:Int):freeS T p≤960064:=by
 by_cases ho:SetM.has (onS T:Nat) p=true
 ·cases hw:where_ T p with
  | some x =>
   rw [free_val h hw ho]
   have:=(up_le h (Nat.le_refl _)).2
   have:=(pass_le h x.g).2
   omega
  | none=>unfold freeS;rw [hw];simp
 ·unfold freeS
  split
  ·rw [if_neg ho];omega
  ·omega
theorem find_mem {p:Int} {x:Spt}:∀ {l:List Spt},find p l=some x→x ∈ l∧x.p=p:=by
 intro l h
 unfold find at h
 refine ⟨List.mem_of_find?_eq_some h,?_⟩
 have:=List.find?_some h
 simpa using this
theorem cap_tot {x:Int}:∀ {l:List Int},x ∈ l→cap x≤tot l
 | y :: l,h=>by
  rw [tot_cons]
  have:=tot_lo l
  have:=cap_lo y
  rcases List.mem_cons.1 h with rfl | h
  ·omega
  ·have:=cap_tot h;omega
theorem where_mem {T:Tab} {p:Int} {x:Spt} (h:where_ T p=some x):x ∈ spots T∧x.p=p:=by
 unfold where_ at h
 exact find_mem h
theorem serve_pass {T:Tab} (h:Lo T) {p:Int} {x:Spt} (hw:where_ T p=some x):serveS T p≤passS T x.g∧(x.g:Nat) < T.groups.length:=by
 obtain ⟨hm,hp⟩:=where_mem hw
 have hg:x.g < T.groups.length:=by
  obtain ⟨y,hy,_⟩:=PlanM.mem_spots.1 hm
  exact (List.getElem?_eq_some_iff.1 hy).1
 refine ⟨?_,hg⟩
 unfold passS
 rw [if_pos (by omega),sums_tot,tot_cons]
 have hs:=serve_le h p
 have hc:cap (serveS T p)=serveS T p:=cap_in hs.1 (by omega)
 have h1:cap (serveS T p)≤tot (passL T x.g (spots T)):=by
  have hmem:serveS T p ∈ passL T x.g (spots T):=by
   unfold passL
   refine List.mem_map.2 ⟨x,List.mem_filter.2 ⟨hm,by simp⟩,by rw [hp]⟩
  exact cap_tot hmem
 have b3:cap 8=8:=rfl
 omega
theorem up_ge {T:Tab} (h:Lo T):∀ {n g:Nat},g < n→passS T g≤tot (upL T n)
 | n+1,g,hg=>by
  rw [up_tot h]
  have:=tot_lo (upL T n)
  have:=(pass_le h (n:Int)).1
  by_cases e:g=n
  ·subst e;omega
  ·have:=up_ge h (n:=n) (g:=g) (by omega);omega
theorem free_two {T:Tab} (h:Lo T) {p:Int} {x:Spt} (hw:where_ T p=some x) (ho:SetM.has (onS T:Nat) p=true):2*serveS T p≤freeS T p:=by
 rw [free_val h hw ho]
 obtain ⟨h1,h2⟩:=serve_pass h hw
 have:=up_ge h h2
 omega
theorem wait_free {T:Tab} (h:Lo T) (p:Int):freeS T p≤waitS T p:=by
 unfold waitS
 split
 ·omega
 ·have hf:=free_le h p
  have h0:=free_lo T p
  obtain ⟨s0,s1⟩:=h.sh
  unfold waitR
  have a1:1≤sums [T.share,1]:=by
   rw [sums_tot];simp only [tot_cons,tot_nil]
   have:=cap_lo T.share
   have:cap 1=1:=rfl
   omega
  have a2:freeS T p≤sums [overS T,freeS T p,2]:=by
   rw [sums_tot];simp only [tot_cons,tot_nil]
   have:=cap_lo (overS T)
   have:cap (freeS T p)=freeS T p:=cap_in h0 (by omega)
   have:cap 2=2:=rfl
   omega
  have a3:sums [overS T,freeS T p,2]≤mul (sums [T.share,1]) (sums [overS T,freeS T p,2]):=by
   have b1:=sums_lo [overS T,freeS T p,2]
   have b2:=sums_hi [overS T,freeS T p,2]
   have b3:=sums_lo [T.share,1]
   have e:=mul_mono a1 (Int.le_refl (sums [overS T,freeS T p,2]))
   have e2:mul 1 (sums [overS T,freeS T p,2])=sums [overS T,freeS T p,2]:=by
    unfold mul
    rw [show cap 1=1 from rfl,Int.one_mul,cap_cap,cap_sums]
   omega
  have a4:mul (sums [T.share,1]) (sums [overS T,freeS T p,2])≤sums [mul (sums [T.share,1]) (sums [overS T,freeS T p,2]),T.share]:=by
   have c1:0≤mul (sums [T.share,1]) (sums [overS T,freeS T p,2]):=by unfold mul;exact cap_lo _
   have c2:mul (sums [T.share,1]) (sums [overS T,freeS T p,2])≤2147483647:=by unfold mul;exact cap_hi _
   generalize mul (sums [T.share,1]) (sums [overS T,freeS T p,2])=m at c1 c2
   rw [sums_tot];simp only [tot_cons,tot_nil]
   rw [cap_in c1 c2]
   have:=cap_lo T.share
   omega
  omega
theorem clear_le {T:Tab} (h:Lo T):clearS T≤19998:=by
 unfold clearS
 refine mosts_le (by omega) (fun x hx=>?_)
 obtain ⟨p,_,rfl⟩:=List.mem_map.1 hx
 obtain ⟨_,_,_,h3,h4,_⟩:=h.ph p
 unfold clr
 rw [sums_tot];simp only [tot_cons,tot_nil]
 have:=cap_le h3 (by omega)
 have:=cap_le h4 (by omega)
 omega
theorem entry_le {T:Tab} (h:Lo T) (k:Int):entryS T k≤300000:=by
 unfold entryS
 split
 ·omega
 ·split
  ·rename_i r hr
   obtain ⟨h1,h2,h3,h4,h5⟩:=h.rl r (List.mem_of_getElem? hr)
   unfold entryR
   rw [sums_tot];simp only [tot_cons,tot_nil]
   have:=cap_le h1 (by omega)
   have:=cap_le h2 (by omega)
   have:=cap_le h3 (by omega)
   have:=cap_le h4 (by omega)
   have:=cap_le (clear_le h) (by omega)
   have:=cap_le h.rv (by omega)
   have:cap 60=60:=rfl
   omega
  ·omega
theorem over_le {T:Tab} (h:Lo T):overS T≤400000:=by
 unfold overS
 split
 ·omega
 ·unfold overR
  rw [sums_tot];simp only [tot_cons,tot_nil]
  have a1:mosts (ovL T T.rails.length)≤310000:=by
   refine mosts_le (by omega) (fun x hx=>?_)
   unfold ovL at hx
   obtain ⟨k,hk,rfl⟩:=List.mem_map.1 hx
   have hk2:k < T.rails.length:=List.mem_range.1 hk
   unfold ovE
   rw [sums_tot];simp only [tot_cons,tot_nil]
   have h5:(T.rails.getD k default).stay≤9999:=by
    rw [List.getD_eq_getElem?_getD,List.getElem?_eq_getElem hk2]
    exact (h.rl _ (List.getElem_mem hk2)).2.2.2.2
   have:=cap_le (entry_le h k) (by omega)
   have:=cap_le h5 (by omega)
   omega
  have a2:mosts (ovM T (SetM.list (onS T:Nat)))≤19998:=by
   refine mosts_le (by omega) (fun x hx=>?_)
   unfold ovM at hx
   obtain ⟨p,_,hx⟩:=List.mem_flatMap.1 hx
   obtain ⟨_,h1,_,_,_,h5,h6⟩:=h.ph p
   simp only [List.mem_cons,List.not_mem_nil,or_false] at hx
   rcases hx with rfl | rfl
   ·have:=cap_le h1 (by omega);omega
   ·rw [sums_tot];simp only [tot_cons,tot_nil]
    have:=cap_le h5 (by omega)
    have:=cap_le h6 (by omega)
    omega
  have:=cap_le a1 (by omega)
  have:=cap_le a2 (by omega)
  have:=cap_le (clear_le h) (by omega)
  have:=cap_le h.rv (by omega)
  have:cap 30=30:=rfl
  omega
theorem wait_le {T:Tab} (h:Lo T) (p:Int):waitS T p≤6000000:=by
 unfold waitS
 split
 ·have:=free_le h p;omega
 ·have hf:=free_le h p
  have ho:=over_le h
  obtain ⟨s0,s1⟩:=h.sh
  unfold waitR
  rw [sums_tot];simp only [tot_cons,tot_nil]
  have a1:sums [T.share,1]≤4:=by
   rw [sums_tot];simp only [tot_cons,tot_nil]
   have:=cap_le s1 (by omega)
   have:cap 1=1:=rfl
   omega
  have a2:sums [overS T,freeS T p,2]≤1360066:=by
   rw [sums_tot];simp only [tot_cons,tot_nil]
   have:=cap_le ho (by omega)
   have:=cap_le hf (by omega)
   have:cap 2=2:=rfl
   omega
  have a3:mul (sums [T.share,1]) (sums [overS T,freeS T p,2])≤5440264:=by
   have e:=mul_mono a1 a2
   have:mul 4 1360066=5440264:=by decide
   omega
  have:=cap_le a3 (by omega)
  have:=cap_le s1 (by omega)
  omega
end BdQ
namespace BdN
open Zip
open Go.ChangeShapes Go.WideShapes Go.ChangeAt Go.RowKit
open Tab Gath OnS RefC Clear
open May (St phases_in infoP infoT row_new)
open FreeS OverS WaitS EntryS BdB PlaceM
theorem infoBz:(Tryz.prog.info? 65).map (fun i=>(i.zero,i.size))=some (some (.agg (bcells (zeros 8) (zeros 4))),12):=by kernel_rfl
theorem laid3 (w:World) (a b c:Array Value) (s t r:TypeId):Bks w [(w.heap.size+2,c,r),(w.heap.size+1,b,t),(w.heap.size,a,s)] (((w.alloc (.cells a s)).alloc (.cells b t)).alloc (.cells c r)):=by
 have hb:Below w.heap.size w (((w.alloc (.cells a s)).alloc (.cells b t)).alloc (.cells c r)):=(((Below.refl _ _).alloc (Nat.le_refl _) _).alloc (by simp) _).alloc (by simp;omega) _
 refine ⟨hb,?_,?_⟩
 ·intro x hx
  simp only [List.mem_cons,List.not_mem_nil,or_false] at hx
  rcases hx with rfl | rfl | rfl <;> simp
 ·intro x hx
  simp only [List.mem_cons,List.not_mem_nil,or_false] at hx
  have s2:((w.alloc (.cells a s)).alloc (.cells b t)).heap.size=w.heap.size+2:=by simp
  rcases hx with rfl | rfl | rfl
  ·have:=heap_alloc_new ((w.alloc (.cells a s)).alloc (.cells b t)) (.cells c r)
   rwa [s2] at this
  ·rw [heap_alloc_old _ _ (by rw [s2];simp)];exact heap_alloc2_new w _ _
  ·rw [heap_alloc_old _ _ (by rw [s2];simp)];exact heap_alloc2_old w _ _
theorem bks_lies {w1 u:World} {m:List (Nat × Array Value × TypeId)} (h:Bks w1 m u) {x:Nat × Array Value × TypeId} (hx:x ∈ m):Lies u ⟨x.1,0,none⟩ x.2.1.toList:=Row.lies_of_block (h.blk x hx)
theorem bks_cell {w1 u:World} {m:List (Nat × Array Value × TypeId)} (h:Bks w1 m u) {x:Nat × Array Value × TypeId} (hx:x ∈ m) {o:Nat} {v:Value} (hv:x.2.1[o]?=some v):u.cell? ⟨x.1,o,none⟩=some v:=by
 rw [cell_of_row _ _ _ _ _ _ (h.blk x hx)];exact hv
theorem bks_frozen {w1 u:World} {m:List (Nat × Array Value × TypeId)} (h:Bks w1 m u) {x:Nat × Array Value × TypeId} (hx:x ∈ m) (o:Nat):u.frozen? ⟨x.1,o,none⟩=false:=frozen_of_row _ _ _ _ _ (h.blk x hx)
theorem bounds_any (T:Tab) (h:Hd) (w:World) (ht:IsTab w h T) (sm:Few T) (hr:T.rails.length≤4) :
  Calls Tryz.prog 69 #[.agg (T.cells h).toArray] w fun e w'=>e=.returned (.agg (bcells (waitsL T) (entsL T)))∧Below w.heap.size w w':=by
 have C:=hJJ (cells_ok ht)
 have hsz:=C.out.size
 have IA:Hid ((Tryz.prog.info? 32).map (·.size)=some (T.cells h).length):=hJJ (by rw [List.size_toArray] at hsz;rw [hsz];exact infoT)
 have WC:Hid (∀ (q:Nat) W,Below w.heap.size w W→Calls Tryz.prog 35 #[.agg (T.cells h).toArray,.int .i64 q] W fun e w'=>e=.returned (.int .i64 (waitS T q))∧Below W.heap.size W w'):=hJJ (fun q W hb=>BdW.pwait_any T h q W (ht.below hb) sm)
 have EC:Hid (∀ (q:Nat) W,Below w.heap.size w W→Calls Tryz.prog 31 #[.agg (T.cells h).toArray,.int .i64 q] W fun e w'=>e=.returned (.int .i64 (entryS T q))∧Below W.heap.size W w'):=hJJ (fun q W hb=>BdE.pentry_any T h q W (ht.below hb))
 have q114:=C.out.r
 have WA:Hid (∀ i:Nat,i < 8→(waitsL T)[i]?=some (waitS T i)):=hJJ (fun i hi=>waits_at T hi)
 have EA:Hid (∀ i:Nat,i < 4→(entsL T)[i]?=some (entryS T i)):=hJJ (fun i hi=>ents_at T hi)
 have EF:Hid (∀ k:Nat,T.rails.length≤k→entryS T k=0):=hJJ (fun k hk=>entry_far hk)
 have WL:Hid ((waitsL T).length=8):=hJJ (waits_len T)
 have EL:Hid ((entsL T).length=4):=hJJ (ents_len T)
 generalize waitsL T=wl at WA WL ⊢
 generalize entsL T=el at EA EL ⊢
 obtain ⟨sg,sd,⟨ra,rcap⟩,sb⟩:=h
 clear ht sm C
 generalize T.cells _=c at *
 have hz:=(zero_of_info infoBz).1
 have ST:=hJJ (laid3 w c.toArray (bcells (zeros 8) (zeros 4)) (bcells (zeros 8) (zeros 4)) 32 65 65)
 have H00:Hid (bcells (zeros 8) (zeros 4)=bcells (upTo wl 8 0) (upTo el 4 0)):=hJJ rfl
 have HZs:Hid ((bcells (zeros 8) (zeros 4)).size=12):=hJJ rfl
 generalize bcells (zeros 8) (zeros 4)=Z at *
 rw [H00.out] at ST
 generalize T.rails.length=n at *
 have HN:=hJJ hr
 go_enter Tryz.func69,Tryz.ntmps69
 go_upto_region 2 with fail
 rw [← H00.out] at ST
 generalize (((w.alloc (.cells c.toArray 32)).alloc (.cells Z 65)).alloc (.cells Z 65))=w1 at ST ⊢
 rw [H00.out] at ST
 clear hz hsz H00 HZs hr
 have LT:Hid (∀ W,Below w1.heap.size w1 W→Lies W ⟨w.heap.size,0,none⟩ c):=hJJ (fun W hb=>by have:=bks_lies (ST.out.step hb) (x:=(w.heap.size,c.toArray,32)) (by simp);simpa using this)
 have Q114:Hid (∀ W,Below w1.heap.size w1 W→W.cell? ⟨w.heap.size,114,none⟩=some (.slice ra n rcap)):=hJJ (fun W hb=>bks_cell (ST.out.step hb) (x:=(w.heap.size,c.toArray,32)) (by simp) q114)
 have C114:=hJJ q114
 clear q114
 generalize hN0:w.heap.size+2=N0 at *
 generalize hN1:w.heap.size+1=N1 at *
 have NE:Hid (N0 ≠ N1∧N0 ≠ w.heap.size∧N1 ≠ w.heap.size):=hJJ (by omega)
 clear hN0 hN1
 go_wp2_with fail
 go_loopw [6] (fun i wr=>∃ q:Nat,q≤8∧i=.int .i64 q∧Bks w [(N0,bcells (upTo wl 8 q) (upTo el 4 0),65),(N1,bcells (upTo wl 8 0) (upTo el 4 0),65),(w.heap.size,c.toArray,32)] wr) (fun i _=>8 - (intOf i).toNat)
 case atStart=>exact ⟨0,by omega,rfl,ST.out⟩
 case round =>
  obtain ⟨q,hq,rfl,hB⟩:=hrel
  have HB:=hJJ hB
  clear hB
  by_cases hlt:q < 8
  ·skip
   have hv:=WA.out q (by omega)
   have UP:Hid ((upTo wl 8 q).set q (waitS T q)=upTo wl 8 (q+1)):=hJJ (upTo_succ WL.out hv)
   have WCq:=hJJ (WC.out q)
   generalize waitS T q=x at UP WCq hv
   clear hv
   have LTW:Hid (Lies wr ⟨w.heap.size,0,none⟩ c):=hJJ (by have:=bks_lies HB.out (x:=(w.heap.size,c.toArray,32)) (by simp);simpa using this)
   go_wp2_with (refine lgZ 32 ⟨w.heap.size,0,none⟩ c rfl LTW.out Tryz.underlying32 IA.out ?_)
   refine (WCq.out _ HB.out.bel).mono ?_
   rintro e u5 ⟨rfl,hb⟩
   have HB5:=hJJ (HB.out.step hb)
   clear hb LTW WCq HB
   obtain ⟨v0,hv0⟩:∃ v0,(bcells (upTo wl 8 q) (upTo el 4 0))[q]?=some v0:=⟨_,Array.getElem?_eq_getElem (by rw [bsize];rw [upTo_len WL.out (by omega),upTo_len EL.out (by omega)];omega)⟩
   have c5:u5.cell? ⟨N0,q,none⟩=some v0:=bks_cell HB5.out (x:=(N0,bcells (upTo wl 8 q) (upTo el 4 0),65)) (by simp) hv0
   have f5:u5.frozen? ⟨N0,q,none⟩=false:=bks_frozen HB5.out (x:=(N0,bcells (upTo wl 8 q) (upTo el 4 0),65)) (by simp) (q)
   have HB6:Hid (Bks w [(N0,bcells (upTo wl 8 (q+1)) (upTo el 4 0),65),(N1,bcells (upTo wl 8 0) (upTo el 4 0),65),(w.heap.size,c.toArray,32)] (u5.setCell ⟨N0,q,none⟩ (I x))):=hJJ (by
    have:=HB5.out.set (by intro y hy;simp only [List.mem_cons,List.not_mem_nil,or_false] at hy;obtain ⟨n1,n2,n3⟩:=NE.out;rcases hy with rfl | rfl <;> simp only <;> omega) (q) (I x)
    rwa [setA x (by rw [upTo_len WL.out hq];exact hlt),UP.out] at this)
   clear HB5 hv0
   go_wp2
   go_roundw
   case rel=>exact ⟨q+1,by omega,by go_num,HB6.out⟩
   case measure=>simp [intOf];omega
  ·obtain rfl:q=8:=by omega
   have HB2:Hid (Bks w [(N0,bcells wl (upTo el 4 0),65),(N1,bcells (upTo wl 8 0) (upTo el 4 0),65),(w.heap.size,c.toArray,32)] wr):=hJJ (by have:=HB.out;rwa [upTo_full WL.out] at this)
   have q114:wr.cell? ⟨w.heap.size,114,none⟩=some (.slice ra n rcap):=bks_cell HB2.out (x:=(w.heap.size,c.toArray,32)) (by simp) C114.out
   clear HB ST LT Q114 WC WA hq hlt
   rw [show ((8:Nat):Int)=(8:Int) from rfl]
   go_upto_region 8 with fail
   clear q114
   go_loopw [19] (fun i wr=>∃ q:Nat,q≤n∧i=.int .i64 q∧Bks w [(N0,bcells wl (upTo el 4 q),65),(N1,bcells (upTo wl 8 0) (upTo el 4 0),65),(w.heap.size,c.toArray,32)] wr) (fun i _=>n - (intOf i).toNat)
   case atStart=>exact ⟨0,by omega,rfl,HB2.out⟩
   case round =>
    obtain ⟨q,hq,rfl,hB⟩:=hrel
    have HB:=hJJ hB
    have hn4:=HN.out
    clear hB HB2
    by_cases hlt:q < n
    ·skip
     have hv:=EA.out q (by omega)
     have UP:Hid ((upTo el 4 q).set q (entryS T q)=upTo el 4 (q+1)):=hJJ (upTo_succ EL.out hv)
     have WCq:=hJJ (EC.out q)
     generalize entryS T q=x at UP WCq hv
     clear hv
     have LTW:Hid (Lies wr ⟨w.heap.size,0,none⟩ c):=hJJ (by have:=bks_lies HB.out (x:=(w.heap.size,c.toArray,32)) (by simp);simpa using this)
     go_wp2_with (refine lgZ 32 ⟨w.heap.size,0,none⟩ c rfl LTW.out Tryz.underlying32 IA.out ?_)
     refine (WCq.out _ HB.out.bel).mono ?_
     rintro e u5 ⟨rfl,hb⟩
     have HB5:=hJJ (HB.out.step hb)
     clear hb LTW WCq HB
     obtain ⟨v0,hv0⟩:∃ v0,(bcells wl (upTo el 4 q))[8+q]?=some v0:=⟨_,Array.getElem?_eq_getElem (by rw [bsize];rw [WL.out,upTo_len EL.out (by omega)];omega)⟩
     have c5:u5.cell? ⟨N0,8+q,none⟩=some v0:=bks_cell HB5.out (x:=(N0,bcells wl (upTo el 4 q),65)) (by simp) hv0
     have f5:u5.frozen? ⟨N0,8+q,none⟩=false:=bks_frozen HB5.out (x:=(N0,bcells wl (upTo el 4 q),65)) (by simp) (8+q)
     have HB6:Hid (Bks w [(N0,bcells wl (upTo el 4 (q+1)),65),(N1,bcells (upTo wl 8 0) (upTo el 4 0),65),(w.heap.size,c.toArray,32)] (u5.setCell ⟨N0,8+q,none⟩ (I x))):=hJJ (by
      have:=HB5.out.set (by intro y hy;simp only [List.mem_cons,List.not_mem_nil,or_false] at hy;obtain ⟨n1,n2,n3⟩:=NE.out;rcases hy with rfl | rfl <;> simp only <;> omega) (8+q) (I x)
      rw [← WL.out,setE x (by rw [upTo_len EL.out (by omega)];omega),UP.out,WL.out] at this;exact this)
     clear HB5 hv0
     go_wp2
     go_roundw
     case rel=>exact ⟨q+1,by omega,by go_num,HB6.out⟩
     case measure=>simp [intOf];omega
    ·obtain rfl:q=n:=by omega
     have HF:Hid (Bks w [(N0,((wl++el).map I).toArray,65),(N1,bcells (upTo wl 8 0) (upTo el 4 0),65),(w.heap.size,c.toArray,32)] wr):=hJJ (by
      have:=HB.out
      rwa [upTo_same EL.out hn4 (fun j h1 h2=>by rw [EA.out j h2,EF.out j h1])] at this)
     have LB:Hid (Lies wr ⟨N0,0,none⟩ ((wl++el).map I)):=hJJ (by have:=bks_lies HF.out (x:=(N0,((wl++el).map I).toArray,65)) (by simp);simpa using this)
     have K1:Hid (wr.heap[N1]?=some (.cells (bcells (upTo wl 8 0) (upTo el 4 0)) 65 (0,0))):=hJJ (HF.out.blk (N1,bcells (upTo wl 8 0) (upTo el 4 0),65) (by simp))
     have hsz0:(bcells (upTo wl 8 0) (upTo el 4 0)).size=12:=by rw [bsize,upTo_len WL.out (by omega),upTo_len EL.out (by omega)]
     have hln:((wl++el).map I).length=12:=by rw [List.length_map,List.length_append,WL.out,EL.out]
     have LN:Hid (((wl++el).map I).length=12):=hJJ hln
     have ON:Hid (((wl++el).map I).toArray.all (·.oneCell')=true):=hJJ (by have:=bone wl el;exact this)
     have RF:Hid (bcells wl el=((wl++el).map I).toArray):=hJJ rfl
     generalize (wl++el).map I=bc at HF LB LN ON RF
     generalize bcells (upTo wl 8 0) (upTo el 4 0)=Z0 at K1 hsz0 HF
     have Z12:=hJJ hsz0
     have IB:Hid ((Tryz.prog.info? 65).map (·.size)=some bc.length):=hJJ (by rw [LN.out];exact infoB)
     have HW:=hJJ (Same.below_setRow HF.out.bel (HF.out.own (N1,Z0,65) (by simp)) bc.toArray)
     have HK:=hJJ (setRow_heap wr N1 _ bc.toArray _ _ K1.out)
     clear hsz0 HB HF hln
     go_wp2_with (first | (refine lgZ 65 ⟨N0,0,none⟩ bc rfl LB.out Tryz.underlying65 IB.out ?_) | (refine wpList_store_row rfl 65 _ _ rfl N1 bc.toArray rfl rfl 65 _ K1.out (by rw [List.size_toArray];exact IB.out) (by rw [Z12.out,List.size_toArray,LN.out]) ON.out ?_))
     generalize wr.setRow N1 bc.toArray=uz at HW HK ⊢
     (try go_wp2_with fail)
     (try simp only [Exit.inBlock,Exit.then])
     refine bodyPost_ret (v:=.agg bc.toArray) ?_ rfl ⟨by rw [RF.out],HW.out⟩
     exact results_cell_row rfl _ _ N1 65 _ (0,0) _ rfl HK.out Tryz.underlying65 rfl (by rw [List.size_toArray];exact IB.out)
end BdN
namespace BdI
open Zip
open Go.ChangeShapes Go.WideShapes Go.ChangeAt Go.RowKit
open Tab Gath OnS RefC Clear
open May (St phases_in infoP infoT row_new)
open BdS BdB
theorem index_any (a:Option Addr) (cap:Nat) (L:List Int) (n:Nat) (hn:L.length=n) (w:World) (h:IntRow w ⟨a,cap⟩ L) :
  Calls Tryz.prog 105 #[.slice a n cap,.func (.func 106) #[] #[]] w fun e w'=>e=.returned (.int .i64 (idxF L))∧w=w':=by
 subst hn
 have hl:=h.len
 unfold maxLen at hl
 have HF:Hid (∀ (k:Nat) v,(∀ x ∈ L.take k,full x=false)→L[k]?=some v→full v=true→idxF L=k):=hJJ (fun k v h1 h2 h3=>idx_at h1 h2 h3)
 have HN:Hid ((∀ x ∈ L,full x=false)→idxF L = -1):=hJJ idx_none
 generalize idxF L=res at *
 go_enter Tryz.func105,Tryz.ntmps105
 go_wp2
 go_loop [8] (fun i=>∃ k:Nat,k≤L.length∧i=.int .i64 k∧∀ x ∈ L.take k,full x=false) (fun i=>L.length - (intOf i).toNat)
 case atStart=>exact ⟨0,Nat.zero_le _,rfl,by simp⟩
 case round =>
  obtain ⟨k,hk,rfl,hno⟩:=hrel
  have HNO:=hJJ hno
  clear hno
  by_cases hlt:k < L.length
  ·have hv:=List.getElem?_eq_getElem hlt
   generalize L[k]=v at hv
   obtain ⟨x,hx,hc⟩:=IntRow.at h hv
   obtain rfl:a=some x:=hx
   have HV:=hJJ hv
   clear hv
   go_wp2_with fail
   refine (full_any v _).mono ?_
   rintro e w' ⟨rfl,rfl⟩
   cases hf:full v with
   | true =>
    have HR:Hid ((k:Int)=res):=hJJ (HF.out k v HNO.out HV.out hf).symm
    clear hf
    go_wp2
    go_ret
    exact ⟨RefC.ret_int HR.out,rfl⟩
   | false =>
    have HT:=hJJ (take_all HNO.out HV.out hf)
    clear hf
    go_wp2
    go_round
    case rel=>exact ⟨k+1,by omega,by go_num,HT.out⟩
    case measure=>simp [intOf];omega
  ·obtain rfl:k=L.length:=by omega
   have HR:Hid (-1=res):=hJJ (HN.out (by have:=HNO.out;rwa [List.take_length] at this)).symm
   go_wp2
   go_ret
   exact ⟨RefC.ret_int HR.out,rfl⟩
theorem mx (m v:Int):Value.int IntKind.i64 (if m < v then v else m)=Value.int IntKind.i64 (max m v):=by
 congr 1
 split <;> omega
theorem most_step {L:List Int} {k:Nat} {v:Int} (hv:L[k]?=some v):mosts (L.take (k+1))=max (mosts (L.take k)) v:=by
 rw [PlaceM.take_succ hv,BdM.mosts_snoc]
theorem most_one {L:List Int} {v:Int} (hv:L[0]?=some v) (h0:0≤v):mosts (L.take 1)=v:=by
 rw [show (1:Nat)=0+1 from rfl,most_step hv,List.take_zero,BdM.mosts_nil];omega
theorem max_any (a:Option Addr) (cap:Nat) (L:List Int) (n:Nat) (hn:L.length=n) (h1:1≤n) (h0:∀ x ∈ L,0≤x) (w:World) (h:IntRow w ⟨a,cap⟩ L) :
  Calls Tryz.prog 107 #[.slice a n cap] w fun e w'=>e=.returned (.int .i64 (mosts L))∧w=w':=by
 subst hn
 have hl:=h.len
 unfold maxLen at hl
 have HS:Hid (∀ (k:Nat) v,L[k]?=some v→mosts (L.take (k+1))=max (mosts (L.take k)) v):=hJJ (fun k v hv=>most_step hv)
 have v0:=List.getElem?_eq_getElem (show 0 < L.length by omega)
 have HO:=hJJ (most_one v0 (h0 _ (List.getElem_mem _)))
 generalize L[0]'(by omega)=y at v0 HO
 obtain ⟨x,hx,hc0⟩:=IntRow.at h v0
 obtain rfl:a=some x:=hx
 rw [add_zero] at hc0
 have hp:(decide ((L.length:Int) < 1))=false:=by simp;omega
 have HL:Hid (mosts (L.take L.length)=mosts L):=hJJ (by rw [List.take_length])
 generalize mosts L=res at HL ⊢
 clear v0 h0
 go_enter Tryz.func107,Tryz.ntmps107
 go_wp2
 go_loop [3,4] (fun m i=>∃ k:Nat,1≤k∧k≤L.length∧i=.int .i64 k∧m=.int .i64 (mosts (L.take k))) (fun _ i=>L.length - (intOf i).toNat)
 case atStart=>exact ⟨1,Nat.le_refl _,h1,rfl,by rw [HO.out]⟩
 case round =>
  obtain ⟨k,hk1,hk,rfl,rfl⟩:=hrel
  by_cases hlt:k < L.length
  ·have hv:=List.getElem?_eq_getElem hlt
   generalize L[k]=v at hv
   obtain ⟨x',hx,hc⟩:=IntRow.at h hv
   obtain rfl:=Option.some.inj hx
   have HV:=hJJ (HS.out k v hv)
   clear hv
   generalize mosts (L.take k)=m at *
   go_wp2
   go_round
   case rel=>exact ⟨k+1,by omega,by omega,by go_num,by rw [HV.out];exact mx m v⟩
   case measure=>simp [intOf];omega
  ·obtain rfl:k=L.length:=by omega
   rw [HL.out]
   go_wp2
   go_ret
   exact ⟨rfl,rfl⟩
end BdI
namespace BdT
open Zip
open Go.ChangeShapes Go.WideShapes Go.ChangeAt Go.RowKit
open Tab Gath OnS RefC Clear
open May (St phases_in infoP infoT row_new)
open BdB BdN BdI ChkM PlaceM
def faultG (T:Tab) (wl el:List Int):Int × Int:=if 0≤idxF wl then (14,idxF wl) else if 0≤idxF el then (14,idxF el) else if 0 < T.rails.length∧T.window < mosts wl then (15,0) else (0,0)
theorem pfault_any (T:Tab) (h:Hd) (wl el:List Int) (w:World) (ht:IsTab w h T) (h8:wl.length=8) (h4:el.length=4) (h0:∀ x ∈ wl,0≤x) :
  Calls Tryz.prog 70 #[.agg (T.cells h).toArray,.agg (bcells wl el)] w fun e w'=>e=.returned (.agg (fcells (faultG T wl el)))∧Below w.heap.size w w':=by
 have C:=hJJ (cells_ok ht)
 have hsz:=C.out.size
 have q114:=C.out.r
 have q129:=C.out.window
 obtain ⟨sg,sd,⟨ra,rcap⟩,sb⟩:=h
 clear C
 have ST:=hJJ (laid3 w (T.cells ⟨sg,sd,⟨ra,rcap⟩,sb⟩).toArray (bcells wl el) #[I 0,I 0] 32 65 37)
 clear ht
 generalize T.cells _=c at *
 have RA:Hid (∀ u,Bks w [(w.heap.size+2,#[I 0,I 0],37),(w.heap.size+1,bcells wl el,65),(w.heap.size,c.toArray,32)] u→IntRow u ⟨some ⟨w.heap.size+1,0,none⟩,8⟩ wl):=hJJ (fun u hu=>by
  have:=row_A (hu.blk (w.heap.size+1,bcells wl el,65) (by simp)) (by rw [h8];decide)
  rwa [h8] at this)
 have RE:Hid (∀ u,Bks w [(w.heap.size+2,#[I 0,I 0],37),(w.heap.size+1,bcells wl el,65),(w.heap.size,c.toArray,32)] u→IntRow u ⟨some ⟨w.heap.size+1,8,none⟩,4⟩ el):=hJJ (fun u hu=>by
  have:=row_E (hu.blk (w.heap.size+1,bcells wl el,65) (by simp)) (by rw [h4];decide)
  rwa [h8,h4] at this)
 have RS:Hid (faultG T wl el=if 0≤idxF wl then (14,idxF wl) else if 0≤idxF el then (14,idxF el) else if 0 < T.rails.length∧T.window < mosts wl then (15,0) else (0,0)):=hJJ rfl
 generalize faultG T wl el=res at RS ⊢
 generalize T.rails.length=n at *
 generalize T.window=wd at *
 have HX:=hJJ (index_any (some ⟨w.heap.size+1,0,none⟩) 8 wl 8 h8)
 have HY:=hJJ (index_any (some ⟨w.heap.size+1,8,none⟩) 4 el 4 h4)
 have HM:=hJJ (max_any (some ⟨w.heap.size+1,0,none⟩) 8 wl 8 h8 (by decide) h0)
 generalize idxF wl=i1 at RS HX
 generalize idxF el=i2 at RS HY
 generalize mosts wl=mw at RS HM
 clear h8 h4 h0
 generalize bcells wl el=bc at *
 go_enter Tryz.func70,Tryz.ntmps70
 go_upto_region 1 with fail
 generalize ((w.alloc (.cells c.toArray 32)).alloc (.cells bc 65)).alloc (.cells #[I 0,I 0] 37)=w1 at ST ⊢
 have QR:Hid (∀ u,Below w1.heap.size w1 u→u.cell? ⟨w.heap.size,114,none⟩=some (.slice ra n rcap)):=hJJ (fun u hu=>bks_cell (ST.out.step hu) (x:=(w.heap.size,c.toArray,32)) (by simp) q114)
 have QW:Hid (∀ u,Below w1.heap.size w1 u→u.cell? ⟨w.heap.size,129,none⟩=some (I wd)):=hJJ (fun u hu=>bks_cell (ST.out.step hu) (x:=(w.heap.size,c.toArray,32)) (by simp) q129)
 have K2:Hid (w1.heap[w.heap.size+2]?=some (.cells #[I 0,I 0] 37 (0,0))):=hJJ (ST.out.blk (w.heap.size+2,#[I 0,I 0],37) (by simp))
 have B1:=hJJ ST.out.bel
 have HX1:=hJJ (HX.out _ (RA.out _ ST.out))
 have HY1:=hJJ (HY.out _ (RE.out _ ST.out))
 have HM1:Hid (∀ u,Below w1.heap.size w1 u→Calls Tryz.prog 107 #[.slice (some ⟨w.heap.size+1,0,none⟩) (8:Nat) 8] u fun e w'=>e=.returned (.int .i64 mw)∧u=w'):=hJJ (fun u hu=>HM.out u (RA.out _ (ST.out.step hu)))
 clear q114 q129 ST HX HY HM RA RE hsz
 go_wp2_with fail
 refine HX1.out.mono ?_
 rintro e w' ⟨rfl,rfl⟩
 by_cases hi1:0≤i1
 ·have RR:Hid ((14,i1)=res):=hJJ (by rw [RS.out,if_pos hi1])
  clear RS HX1 HY1 HM1 QR QW
  have HW:=hJJ (Same.below_setRow B1.out (g:=w.heap.size+2) (by omega) #[I 14,I i1])
  have HK:=hJJ (setRow_heap w1 (w.heap.size+2) _ #[I 14,I i1] _ _ K2.out)
  go_wp2_with (first | (refine wpList_store_row rfl 37 _ _ rfl (w.heap.size+2) #[I 14,I i1] rfl rfl 37 _ K2.out infoF rfl (by simp [Value.oneCell']) ?_))
  generalize w1.setRow (w.heap.size+2) #[I 14,I i1]=uz at HW HK ⊢
  (try go_wp2_with fail)
  (try simp only [Exit.inBlock,Exit.then])
  refine bodyPost_ret (v:=.agg #[I 14,I i1]) ?_ rfl ⟨by rw [← RR.out];rfl,HW.out⟩
  exact results_cell_row rfl _ _ (w.heap.size+2) 37 _ (0,0) _ rfl HK.out Tryz.underlying37 rfl infoF
 go_wp2_with fail
 refine HY1.out.mono ?_
 rintro e w' ⟨rfl,rfl⟩
 by_cases hi2:0≤i2
 ·have RR:Hid ((14,i2)=res):=hJJ (by rw [RS.out,if_neg (by omega),if_pos hi2])
  clear RS HX1 HY1 HM1 QR QW
  have HW:=hJJ (Same.below_setRow B1.out (g:=w.heap.size+2) (by omega) #[I 14,I i2])
  have HK:=hJJ (setRow_heap w1 (w.heap.size+2) _ #[I 14,I i2] _ _ K2.out)
  go_wp2_with (first | (refine wpList_store_row rfl 37 _ _ rfl (w.heap.size+2) #[I 14,I i2] rfl rfl 37 _ K2.out infoF rfl (by simp [Value.oneCell']) ?_))
  generalize w1.setRow (w.heap.size+2) #[I 14,I i2]=uz at HW HK ⊢
  (try go_wp2_with fail)
  (try simp only [Exit.inBlock,Exit.then])
  refine bodyPost_ret (v:=.agg #[I 14,I i2]) ?_ rfl ⟨by rw [← RR.out];rfl,HW.out⟩
  exact results_cell_row rfl _ _ (w.heap.size+2) 37 _ (0,0) _ rfl HK.out Tryz.underlying37 rfl infoF
 have RS2:Hid (res=if 0 < n∧wd < mw then (15,0) else (0,0)):=hJJ (by rw [RS.out,if_neg (by omega),if_neg (by omega)])
 clear RS HX1 HY1
 go_upto_region 7 with fail
 clear hi1 hi2
 by_cases hn:n=0
 ·have RR:Hid ((0,0)=res):=hJJ (by rw [RS2.out,if_neg (by omega)])
  subst hn
  clear RS2
  refine wp_region_held (S:=fun w'=>Below w1.heap.size w1 w') (by kernel_rfl) ?_
  have hS:Below w1.heap.size w1 { w1 with drawn:=w1.drawn+1 }:=(Below.refl _ _).drew
  generalize ({ w1 with drawn:=w1.drawn+1 }:World)=v at hS ⊢
  refine tkZ 0 21 ?_ rfl ?_ hS ?_
  rotate_left
  ·intro w' hw'
   go_simp
   try with_reducible rfl
  (try dsimp only [Act.put]);(try simp only [zA,zB,zC])
  refine tkZ 1 22 ?_ rfl ?_ hS ?_
  rotate_left
  ·intro w' hw'
   have cf:=QR.out w' hw'
   go_simp
   try with_reducible rfl
  (try dsimp only [Act.put]);(try simp only [zA,zB,zC])
  refine tkZ 2 23 ?_ rfl ?_ hS ?_
  rotate_left
  ·intro w' hw'
   go_simp
   try with_reducible rfl
  (try dsimp only [Act.put]);(try simp only [zA,zB,zC])
  refine tkZ 3 24 (.bool false) rfl ?_ hS ?_
  ·intro w' hw'
   go_simp
   try with_reducible rfl
  (try dsimp only [Act.put]);(try simp only [zA,zB,zC])
  refine tkZ 4 25 (.bool false) rfl ?_ hS ?_
  ·intro w' hw'
   go_simp
   try with_reducible rfl
  (try dsimp only [Act.put]);(try simp only [zA,zB,zC])
  refine Held.take_skip (i:=5) (some 26) rfl rfl (by kernel_rfl) (by kernel_rfl) (by kernel_rfl) (fun _ _ _ h=>h) (by rfl) hS ?_
  (try dsimp only [Act.put]);(try simp only [zA,zB,zC])
  refine Held.take_skip (i:=6) (some 27) rfl rfl (by kernel_rfl) (by kernel_rfl) (by kernel_rfl) (fun _ _ _ h=>h) (by rfl) hS ?_
  (try dsimp only [Act.put]);(try simp only [zA,zB,zC])
  refine Held.take_skip (i:=7) (some 28) rfl rfl (by kernel_rfl) (by kernel_rfl) (by kernel_rfl) (fun _ _ _ h=>h) (by rfl) hS ?_
  (try dsimp only [Act.put]);(try simp only [zA,zB,zC])
  refine Held.take_skip (i:=8) (some 29) rfl rfl (by kernel_rfl) (by kernel_rfl) (by kernel_rfl) (fun _ _ _ h=>h) (by rfl) hS ?_
  (try dsimp only [Act.put]);(try simp only [zA,zB,zC])
  refine Held.take_skip (i:=9) (some 30) rfl rfl (by kernel_rfl) (by kernel_rfl) (by kernel_rfl) (fun _ _ _ h=>h) (by rfl) hS ?_
  (try dsimp only [Act.put]);(try simp only [zA,zB,zC])
  refine Held.take_skip (i:=10) (some 31) rfl rfl (by kernel_rfl) (by kernel_rfl) (by kernel_rfl) (fun _ _ _ h=>h) (by rfl) hS ?_
  (try dsimp only [Act.put]);(try simp only [zA,zB,zC])
  refine tkZ 11 32 ?_ rfl ?_ hS ?_
  rotate_left
  ·intro w' hw'
   go_simp
   try with_reducible rfl
  (try dsimp only [Act.put]);(try simp only [zA,zB,zC])
  refine wpAnyH_done (by kernel_rfl) ?_ _
  have D2:Hid (v.heap[w.heap.size+2]?=some (.cells #[I 0,I 0] 37 (0,0))):=hJJ ((hS.block _ (Array.getElem?_eq_some_iff.1 K2.out).1).trans K2.out)
  have BF:=hJJ (B1.out.trans (hS.mono B1.out.size))
  clear hS
  have HW:=hJJ (Same.below_setRow BF.out (g:=w.heap.size+2) (by omega) #[I 0,I 0])
  have HK:=hJJ (setRow_heap v (w.heap.size+2) _ #[I 0,I 0] _ _ D2.out)
  go_wp2_with (first | (refine wpList_store_row rfl 37 _ _ rfl (w.heap.size+2) #[I 0,I 0] rfl rfl 37 _ D2.out infoF rfl (by simp [Value.oneCell']) ?_))
  generalize v.setRow (w.heap.size+2) #[I 0,I 0]=uz at HW HK ⊢
  (try go_wp2_with fail)
  (try simp only [Exit.inBlock,Exit.then])
  refine bodyPost_ret (v:=.agg #[I 0,I 0]) ?_ rfl ⟨by rw [← RR.out];rfl,HW.out⟩
  exact results_cell_row rfl _ _ (w.heap.size+2) 37 _ (0,0) _ rfl HK.out Tryz.underlying37 rfl infoF
 ·have hg:(decide ((n:Int) > 0))=true:=by simp;omega
  have NP:=hJJ (Nat.pos_of_ne_zero hn)
  clear hn
  refine wp_region_held (S:=fun w'=>Below w1.heap.size w1 w') (by kernel_rfl) ?_
  have hS:Below w1.heap.size w1 { w1 with drawn:=w1.drawn+1 }:=(Below.refl _ _).drew
  generalize ({ w1 with drawn:=w1.drawn+1 }:World)=v at hS ⊢
  refine tkZ 0 21 ?_ rfl ?_ hS ?_
  rotate_left
  ·intro w' hw'
   go_simp
   try with_reducible rfl
  (try dsimp only [Act.put]);(try simp only [zA,zB,zC])
  refine tkZ 1 22 ?_ rfl ?_ hS ?_
  rotate_left
  ·intro w' hw'
   have cf:=QR.out w' hw'
   go_simp
   try with_reducible rfl
  (try dsimp only [Act.put]);(try simp only [zA,zB,zC])
  refine tkZ 2 23 ?_ rfl ?_ hS ?_
  rotate_left
  ·intro w' hw'
   go_simp
   try with_reducible rfl
  (try dsimp only [Act.put]);(try simp only [zA,zB,zC])
  refine tkZ 3 24 (.bool true) rfl ?_ hS ?_
  ·intro w' hw'
   have cf:=NP.out
   go_simp
   try omega
   try with_reducible rfl
  (try dsimp only [Act.put]);(try simp only [zA,zB,zC])
  refine tkZ 4 25 (.bool true) rfl ?_ hS ?_
  ·intro w' hw'
   go_simp
   try with_reducible rfl
  (try dsimp only [Act.put]);(try simp only [zA,zB,zC])
  refine tkZ 5 26 ?_ rfl ?_ hS ?_
  rotate_left
  ·intro w' hw'
   go_simp
   try with_reducible rfl
  (try dsimp only [Act.put]);(try simp only [zA,zB,zC])
  refine tkZ 6 27 ?_ rfl ?_ hS ?_
  rotate_left
  ·intro w' hw'
   have cf:=QW.out w' hw'
   go_simp
   try with_reducible rfl
  (try dsimp only [Act.put]);(try simp only [zA,zB,zC])
  refine tkZ 7 28 ?_ rfl ?_ hS ?_
  rotate_left
  ·intro w' hw'
   go_simp
   try with_reducible rfl
  (try dsimp only [Act.put]);(try simp only [zA,zB,zC])
  refine tkZ 8 29 ?_ rfl ?_ hS ?_
  rotate_left
  ·intro w' hw'
   go_simp
   try with_reducible rfl
  (try dsimp only [Act.put]);(try simp only [zA,zB,zC])
  refine rdZ 9 rfl (fun K hK=>?_)
  go_simp
  refine (HM1.out _ hS).mono ?_
  rintro e w' ⟨rfl,rfl⟩
  go_simp
  refine hK.out _ _ hS (fun hS=>?_)
  clear hK K
  refine tkZ 10 31 (.bool (decide (wd < mw))) rfl ?_ hS ?_
  ·intro w' hw'
   go_simp
   try with_reducible rfl
  (try dsimp only [Act.put]);(try simp only [zA,zB,zC])
  refine tkZ 11 32 ?_ rfl ?_ hS ?_
  rotate_left
  ·intro w' hw'
   go_simp
   try with_reducible rfl
  (try dsimp only [Act.put]);(try simp only [zA,zB,zC])
  refine wpAnyH_done (by kernel_rfl) ?_ _
  have D2:Hid (v.heap[w.heap.size+2]?=some (.cells #[I 0,I 0] 37 (0,0))):=hJJ ((hS.block _ (Array.getElem?_eq_some_iff.1 K2.out).1).trans K2.out)
  have BF:=hJJ (B1.out.trans (hS.mono B1.out.size))
  clear hS hg
  by_cases hw:wd < mw
  ·have RR:Hid ((15,0)=res):=hJJ (by rw [RS2.out,if_pos ⟨NP.out,hw⟩])
   clear RS2
   have HW:=hJJ (Same.below_setRow BF.out (g:=w.heap.size+2) (by omega) #[I 15,I 0])
   have HK:=hJJ (setRow_heap v (w.heap.size+2) _ #[I 15,I 0] _ _ D2.out)
   go_wp2_with (first | (refine wpList_store_row rfl 37 _ _ rfl (w.heap.size+2) #[I 15,I 0] rfl rfl 37 _ D2.out infoF rfl (by simp [Value.oneCell']) ?_))
   generalize v.setRow (w.heap.size+2) #[I 15,I 0]=uz at HW HK ⊢
   (try go_wp2_with fail)
   (try simp only [Exit.inBlock,Exit.then])
   refine bodyPost_ret (v:=.agg #[I 15,I 0]) ?_ rfl ⟨by rw [← RR.out];rfl,HW.out⟩
   exact results_cell_row rfl _ _ (w.heap.size+2) 37 _ (0,0) _ rfl HK.out Tryz.underlying37 rfl infoF
  ·have RR:Hid ((0,0)=res):=hJJ (by rw [RS2.out,if_neg (fun e=>hw e.2)])
   clear RS2
   have HW:=hJJ (Same.below_setRow BF.out (g:=w.heap.size+2) (by omega) #[I 0,I 0])
   have HK:=hJJ (setRow_heap v (w.heap.size+2) _ #[I 0,I 0] _ _ D2.out)
   go_wp2_with (first | (refine wpList_store_row rfl 37 _ _ rfl (w.heap.size+2) #[I 0,I 0] rfl rfl 37 _ D2.out infoF rfl (by simp [Value.oneCell']) ?_))
   generalize v.setRow (w.heap.size+2) #[I 0,I 0]=uz at HW HK ⊢
   (try go_wp2_with fail)
   (try simp only [Exit.inBlock,Exit.then])
   refine bodyPost_ret (v:=.agg #[I 0,I 0]) ?_ rfl ⟨by rw [← RR.out];rfl,HW.out⟩
   exact results_cell_row rfl _ _ (w.heap.size+2) 37 _ (0,0) _ rfl HK.out Tryz.underlying37 rfl infoF
end BdT
namespace GenT
open Go Tab GenG PlaceM OnS Clone
open RefS (num num_range)
theorem seg_append (p a b:Nat):seg p a++seg (p+a) b=seg p (a+b):=by
 induction b with
 | zero=>simp [seg]
 | succ b ih=>rw [seg_succ,← List.append_assoc,ih,← Nat.add_assoc,seg_succ,Nat.add_assoc]
theorem mem_seg {p m:Nat} {x:Int}:x ∈ seg p m ↔ (p:Int)≤x∧x < p+m:=by
 unfold seg
 rw [List.mem_map]
 constructor
 ·rintro ⟨i,hi,rfl⟩
  have:=List.mem_range.1 hi
  omega
 ·rintro ⟨h1,h2⟩
  exact ⟨(x - p).toNat,List.mem_range.2 (by omega),by omega⟩
theorem seg_at {p m i:Nat} (h:i < m):(seg p m)[i]?=some ((p+i:Nat):Int):=by
 unfold seg;rw [List.getElem?_map,List.getElem?_range h];rfl
theorem row_seg (g k:Nat):∀ (m i p:Nat),p+m≤8→(rowS g k i (seg p m)).map Spt.p=seg p m
 | 0,i,p,h=>rfl
 | m+1,i,p,h=>by
  have e:seg p (m+1)=(p:Int) :: seg (p+1) m:=by
   have:=seg_append p 1 m
   rw [Nat.add_comm 1 m] at this
   rw [← this]
   simp [seg]
  rw [e,rowS,List.map_append,row_seg g k m (i+1) (p+1) (by omega),one,if_pos ⟨by omega,by omega⟩]
  rfl
theorem up_spots (L:List Int) (G:Nat) (hG:G≤3):∀ g,g≤G→(allS 0 (upTo L G g).1).map Spt.p=seg 0 (upTo L G g).2
 | 0,_=>rfl
 | g+1,h=>by
  have h8:=up_le L G hG (g+1) h
  have e2:(upTo L G (g+1)).2=(upTo L G g).2+n0 L G g (upTo L G g).2+n1 L G g (upTo L G g).2:=rfl
  have e1:(upTo L G (g+1)).1=(upTo L G g).1++[grpD L G g (upTo L G g).2]:=rfl
  rw [e1,allS_append,List.map_append,up_spots L G hG g (by omega)]
  rw [e2] at h8 ⊢
  simp only [allS,List.append_nil,grpS,grpD,List.map_append]
  rw [row_seg _ _ _ _ _ (by omega),row_seg _ _ _ _ _ (by omega),← List.append_assoc]
  rw [show seg 0 (upTo L G g).2++seg (upTo L G g).2 (n0 L G g (upTo L G g).2)=seg 0 ((upTo L G g).2+n0 L G g (upTo L G g).2) from by have:=seg_append 0 (upTo L G g).2 (n0 L G g (upTo L G g).2);rwa [Nat.zero_add] at this]
  have:=seg_append 0 ((upTo L G g).2+n0 L G g (upTo L G g).2) (n1 L G g (upTo L G g).2)
  rwa [Nat.zero_add] at this
theorem genTab_groups (L:List Int):(genTab L).groups=genGs L:=by
 unfold genTab;split <;> exact tabF_groups L
theorem genTab_phases (L:List Int):(genTab L).phases=upd (fun p=>GenP.genPh L (10+12*p)) zPh (genN L):=by
 have h:(tabF L).phases=upd (fun p=>GenP.genPh L (10+12*p)) zPh (genN L):=by unfold tabF;split <;> rfl
 unfold genTab;split <;> exact h
theorem genTab_few (L:List Int):Few (genTab L):=⟨by rw [genTab_groups];exact (tab1_few L).groups,by rw [genTab_groups];exact (tab1_few L).rows⟩
theorem gen_spots (L:List Int):(spots (genTab L)).map Spt.p=seg 0 (genN L):=by
 unfold spots;rw [genTab_groups];exact up_spots L (genG L) (genG_range L).2 _ (Nat.le_refl _)
theorem gen_nodup (L:List Int):((spots (genTab L)).map Spt.p).Nodup:=by
 rw [gen_spots]
 unfold seg
 unfold List.Nodup
 rw [List.pairwise_map]
 exact List.nodup_range.imp (fun h e=>h (by omega))
theorem where_isSome (T:Tab) (p:Int):(where_ T p).isSome=decide (p ∈ (spots T).map Spt.p):=by
 unfold where_ find
 cases h:List.find? (fun x=>x.p == p) (spots T) with
 | none =>
  rw [List.find?_eq_none] at h
  symm;simp only [Option.isSome_none,decide_eq_false_iff_not,List.mem_map]
  rintro ⟨x,hx,rfl⟩
  simpa using h x hx
 | some x =>
  have hx:=List.mem_of_find?_eq_some h
  have hp:=List.find?_some h
  symm;simp only [Option.isSome_some,decide_eq_true_eq,List.mem_map]
  exact ⟨x,hx,by simpa using hp⟩
theorem gen_on (L:List Int):onL (genTab L)=seg 0 (genN L):=by
 unfold onL
 rw [genTab_phases]
 have h8:=genN_range L
 generalize genN L=n at *
 match n,h8 with
 | 0,_ | 1,_ | 2,_ | 3,_ | 4,_ | 5,_ | 6,_ | 7,_ | 8,_=>rfl
theorem gen_has_on (L:List Int) (p:Int):SetM.has (onS (genTab L):Nat) p=(where_ (genTab L) p).isSome:=by
 rw [where_isSome,gen_spots,OnS.onS,gen_on]
 have h8:=genN_range L
 rw [SetM.has_of _ (SetM.of_lt _)]
 by_cases h:0≤p
 ·obtain ⟨k,rfl⟩:=Int.eq_ofNat_of_zero_le h
  rw [decide_eq_true h,Bool.true_and,Int.toNat_natCast,SetM.of_test]
  have:((k:Int) ∈ seg 0 (genN L)) ↔ ((k:Int) ∈ seg 0 (genN L)∧k < 8):=⟨fun h=>⟨h,by have:=mem_seg.1 h;omega⟩,fun h=>h.1⟩
  simp only [decide_eq_decide]
  exact this.symm
 ·rw [decide_eq_false h,Bool.false_and]
  symm
  rw [decide_eq_false_iff_not,mem_seg]
  omega
theorem beside_symm (T:Tab) (p q:Int):beside T p q=beside T q p:=by
 unfold beside
 cases where_ T p with
 | none=>cases where_ T q <;> rfl
 | some a =>
  cases where_ T q with
  | none=>rfl
  | some b =>
   show (a.g == b.g && a.k != b.k)=(b.g == a.g && b.k != a.k)
   rw [Bool.beq_comm,bne_comm]
end GenT
namespace Val
open Go Tab GenG GenT PlaceM PlanM OnS ChkM Clone
open RefS (num num_range)
theorem onS_gen (L:List Int):onS (genTab L)=SetM.of (seg 0 (genN L)):=by unfold onS;rw [gen_on]
theorem ons_gen (L:List Int):ons (genTab L)=seg 0 (genN L):=by
 unfold ons;rw [onS_gen]
 have h8:=genN_range L
 generalize genN L=n at *
 match n,h8 with
 | 0,_ | 1,_ | 2,_ | 3,_ | 4,_ | 5,_ | 6,_ | 7,_ | 8,_=>decide +kernel
theorem mem_ons {L:List Int} {p:Int}:p ∈ ons (genTab L) ↔ 0≤p∧p < (genN L:Int):=by
 rw [ons_gen,mem_seg];omega
theorem phAt_gen (L:List Int) (k:Nat) (h:k < genN L):phAt (genTab L) k=GenP.genPh L (10+12*k):=by
 have h8:=genN_range L
 unfold phAt
 rw [genTab_phases,Int.toNat_natCast,List.getD_eq_getElem?_getD,upd_at _ _ _ _ (by omega),if_pos h]
 rfl
theorem recall_ok (x walk:Int):((GenP.recall x walk == 3) && walk == 0)=false:=by
 unfold GenP.recall
 split <;> rename_i h
 ·simp
 ·by_cases e:x=3
  ·have:¬ walk=0:=fun e2=>h (.inr ⟨e,e2⟩)
   simp [this]
  ·simp [e]
theorem phase_good (L:List Int) (i:Int):phBad (GenP.genPh L i)=false:=by
 have a0:=num_range L i 12 (by omega)
 have a1:=num_range L (i+5) 25 (by omega)
 have a2:=num_range L (i+6) 15 (by omega)
 have a3:=num_range L (i+2) 6 (by omega)
 have a4:=num_range L (i+3) 4 (by omega)
 have a5:=num_range L (i+8) 10 (by omega)
 have a6:=num_range L (i+8) 97 (by omega)
 have hr:=recall_ok (num L (i+9) 7) (if num L (i+7) 2=1 then 1+num L (i+8) 10 else 0)
 unfold phBad GenP.genPh
 dsimp only
 rw [hr]
 by_cases hw:num L (i+7) 2=1
 ·simp only [if_pos hw]
  have e1:((1+num L (i+8) 10:Int) == 0)=false:=by simp;omega
  have e2:((1+num L (i+8) 97 / 10:Int) == 0)=false:=by simp;omega
  rw [e1,e2]
  simp
  omega
 ·simp only [if_neg hw]
  simp
  omega
theorem no_phase (L:List Int):(ons (genTab L)).find? (fun p=>phBad (phAt (genTab L) p))=none:=by
 rw [List.find?_eq_none]
 intro p hp
 have hm:=mem_ons.1 hp
 obtain ⟨k,rfl⟩:=Int.eq_ofNat_of_zero_le hm.1
 rw [phAt_gen L k (by omega),phase_good]
 simp
theorem genTab_dets (L:List Int):(genTab L).dets=down (fun i=>GenD.genDet L (180+8*i) (genN L)) (num L 175 9).toNat (num L 175 9).toNat:=by
 unfold genTab;split <;> rfl
theorem mem_down {α:Type} {f:Nat→α} {k:Nat} {x:α}:∀ j,x ∈ down f k j→∃ i,x=f i
 | 0,h=>by simp [down] at h
 | j+1,h=>by
  rw [down,List.mem_append,List.mem_singleton] at h
  rcases h with h | h
  ·exact mem_down j h
  ·exact ⟨_,h⟩
theorem idx_none {α:Type} {f:α→Bool} {l:List α} (h:∀ x ∈ l,f x=false):idx f l=none:=by
 unfold idx
 rw [List.findIdx?_eq_none_iff.2 (fun x hx=>h x hx)]
 rfl
theorem gt_tab:∀ a:Fin 4,∀ b:Fin 3,gtF (GenD.mulTab a.val b.val) (GenD.onTab a.val)=false:=by decide +kernel
theorem on_of (L:List Int) (k:Nat) (h:k < genN L):(phAt (genTab L) k).on=true:=by rw [phAt_gen L k h];rfl
theorem no_det (L:List Int):idx (detBad (genTab L)) (genTab L).dets=none:=by
 refine idx_none fun x hx=>?_
 rw [genTab_dets] at hx
 obtain ⟨i,rfl⟩:=mem_down _ hx
 have h8:=genN_range L
 have h1:=genN_pos L
 have r:=num_range L (180+8*i) (genN L) (by omega)
 have ra:=num_range L (180+8*i+1) 4 (by omega)
 have rb:=num_range L (180+8*i+2) 3 (by omega)
 unfold detBad GenD.genDet
 dsimp only
 generalize num L (180+8*i) (genN L)=q at r ⊢
 generalize num L (180+8*i+1) 4=a at ra ⊢
 generalize num L (180+8*i+2) 3=b at rb ⊢
 obtain ⟨q,rfl⟩:=Int.eq_ofNat_of_zero_le r.1
 obtain ⟨a,rfl⟩:=Int.eq_ofNat_of_zero_le ra.1
 obtain ⟨b,rfl⟩:=Int.eq_ofNat_of_zero_le rb.1
 have:=gt_tab ⟨a,by omega⟩ ⟨b,by omega⟩
 rw [this,on_of L q (by omega)]
 rfl
theorem genTab_buses (L:List Int):(genTab L).buses=down (fun i=>genBs L i (genN L)) (num L 177 3).toNat (num L 177 3).toNat:=by
 unfold genTab;split <;> rfl
theorem bus_tab:∀ n:Fin 9,1≤n.val→∀ x:Fin 256,bits .andNot .i64 (max 1 (bits .and .i64 (x.val:Int) (GenR.maskV n.val))) (SetM.of (seg 0 n.val):Nat)=0:=by decide +kernel
theorem no_bus (L:List Int):idx (busBad (genTab L)) (genTab L).buses=none:=by
 refine idx_none fun x hx=>?_
 rw [genTab_buses] at hx
 obtain ⟨i,rfl⟩:=mem_down _ hx
 have h8:=genN_range L
 have h1:=genN_pos L
 have r:=num_range L (330+2*i) 256 (by omega)
 have r2:=num_range L (331+2*i) 30 (by omega)
 unfold busBad genBs allOn
 rw [onS_gen]
 dsimp only
 generalize num L (330+2*i) 256=q at r ⊢
 obtain ⟨q,rfl⟩:=Int.eq_ofNat_of_zero_le r.1
 have:=bus_tab ⟨genN L,by omega⟩ h1 ⟨q,by omega⟩
 rw [this]
 have e:(max 1 (bits .and .i64 (q:Int) (GenR.maskV (genN L))) == 0)=false:=by simp;omega
 rw [e]
 simp
 omega
end Val
namespace Val
open Go Tab GenG GenT PlaceM PlanM OnS ChkM Clone
open RefS (num num_range)
theorem bit_ne (k:Nat) (h:k < 8):(SetM.bit (k:Int) != 0)=true:=by
 rw [SetM.bit_in k h]
 have:=Nat.two_pow_pos k
 simp
theorem cset_has {L:List Int} {T:Tab} {p q:Nat} {C:List Int} (hp:p < 8) (hq:q < p) (hl:C.length=8) (hc:beside T p q=false∧num L (110+8*p+q) 9 ≠ 1) (r x:Nat) (hr:r < 8) (hx:x < 8) :
  SetM.has ((cset L T p q C).getD r 0) x=(SetM.has (C.getD r 0) x || decide ((r=p∧x=q)∨(r=q∧x=p))):=by
 unfold cset
 rw [if_pos hc]
 by_cases h1:r=q
 ·subst h1
  have e1:((C.set p (SetM.withN (C.getD p 0) r:Nat)).set r (SetM.withN ((C.set p (SetM.withN (C.getD p 0) r:Nat)).getD r 0) p:Nat)).getD r 0=(SetM.withN ((C.set p (SetM.withN (C.getD p 0) r:Nat)).getD r 0) p:Nat):=by
   rw [List.getD_eq_getElem?_getD,List.getElem?_set_self (by simp;omega)];rfl
  have e2:(C.set p (SetM.withN (C.getD p 0) r:Nat)).getD r 0=C.getD r 0:=by
   rw [List.getD_eq_getElem?_getD,List.getElem?_set_ne (by omega),← List.getD_eq_getElem?_getD]
  rw [e1,e2,SetM.has_with,bit_ne p hp,Bool.true_and]
  congr 1
  rw [Bool.eq_iff_iff,beq_iff_eq,decide_eq_true_eq]
  omega
 ·have e1:((C.set p (SetM.withN (C.getD p 0) q:Nat)).set q (SetM.withN ((C.set p (SetM.withN (C.getD p 0) q:Nat)).getD q 0) p:Nat)).getD r 0=(C.set p (SetM.withN (C.getD p 0) q:Nat)).getD r 0:=by
   rw [List.getD_eq_getElem?_getD,List.getElem?_set_ne (by omega),← List.getD_eq_getElem?_getD]
  rw [e1]
  by_cases h2:r=p
  ·subst h2
   have e2:(C.set r (SetM.withN (C.getD r 0) q:Nat)).getD r 0=(SetM.withN (C.getD r 0) q:Nat):=by
    rw [List.getD_eq_getElem?_getD,List.getElem?_set_self (by omega)];rfl
   rw [e2,SetM.has_with,bit_ne q (by omega),Bool.true_and]
   congr 1
   rw [Bool.eq_iff_iff,beq_iff_eq,decide_eq_true_eq]
   omega
  ·have e2:(C.set p (SetM.withN (C.getD p 0) q:Nat)).getD r 0=C.getD r 0:=by
    rw [List.getD_eq_getElem?_getD,List.getElem?_set_ne (by omega),← List.getD_eq_getElem?_getD]
   rw [e2,decide_eq_false (by omega),Bool.or_false]
structure Cf (T:Tab) (C:List Int):Prop where
 len:C.length=8
 bd:∀ x ∈ C,0≤x∧x < 256
 rel:∀ p q:Nat,p < 8→q < 8→SetM.has (C.getD p 0) q=true→SetM.has (C.getD q 0) p=true∧p ≠ q∧beside T p q=false
theorem set_bd {C:List Int} {p:Nat} {m:Nat} (h:∀ x ∈ C,0≤x∧x < 256) (hm:m < 256):∀ x ∈ C.set p (m:Int),0≤x∧x < 256:=by
 intro x hx
 rcases List.mem_or_eq_of_mem_set hx with h1 | rfl
 ·exact h x h1
 ·omega
theorem Cf.step {L:List Int} {T:Tab} {p q:Nat} {C:List Int} (h:Cf T C) (hp:p < 8) (hq:q < p):Cf T (cset L T p q C):=by
 by_cases hc:beside T p q=false∧num L (110+8*p+q) 9 ≠ 1
 ·refine ⟨by rw [cset_len];exact h.len,?_,fun a b ha hb hab=>?_⟩
  ·unfold cset
   rw [if_pos hc]
   exact set_bd (set_bd h.bd (SetM.with_lt _ _)) (SetM.with_lt _ _)
  ·rw [cset_has hp hq h.len hc a b ha hb,Bool.or_eq_true,decide_eq_true_eq] at hab
   rw [cset_has hp hq h.len hc b a hb ha,Bool.or_eq_true,decide_eq_true_eq]
   rcases hab with hab | ⟨rfl,rfl⟩ | ⟨rfl,rfl⟩
   ·obtain ⟨h1,h2,h3⟩:=h.rel a b ha hb hab
    exact ⟨.inl h1,h2,h3⟩
   ·exact ⟨.inr (.inr ⟨rfl,rfl⟩),by omega,hc.1⟩
   ·exact ⟨.inr (.inl ⟨rfl,rfl⟩),by omega,by rw [beside_symm];exact hc.1⟩
 ·have:cset L T p q C=C:=by unfold cset;rw [if_neg hc]
  rw [this];exact h
theorem Cf.row {L:List Int} {T:Tab} {p:Nat} {C:List Int} (h:Cf T C) (hp:p < 8):∀ q,q≤p→Cf T (crow L T p C q)
 | 0,_=>h
 | q+1,hq=>(Cf.row h hp q (by omega)).step hp (by omega)
theorem Cf.all {L:List Int} {T:Tab} {C:List Int} (h:Cf T C):∀ p,p≤8→Cf T (call L T C p)
 | 0,_=>h
 | p+1,hp=>(Cf.all h p (by omega)).row (by omega) p (Nat.le_refl _)
theorem has_zero (q:Int):SetM.has 0 q=false:=by
 unfold SetM.has SetM.low;simp
theorem Cf.start (T:Tab):Cf T [0,0,0,0,0,0,0,0]:=by
 refine ⟨rfl,fun x hx=>?_,fun p q hp hq h=>?_⟩
 ·simp at hx;omega
 ·exfalso
  have e:([0,0,0,0,0,0,0,0]:List Int).getD p 0=0:=by
   match p,hp with
   | 0,_ | 1,_ | 2,_ | 3,_ | 4,_ | 5,_ | 6,_ | 7,_=>rfl
  rw [e,has_zero] at h
  simp at h
theorem genTab_conflict (L:List Int):(genTab L).conflict=call L (tab1 L) [0,0,0,0,0,0,0,0] (genN L):=by
 have h:(tabF L).conflict=call L (tab1 L) [0,0,0,0,0,0,0,0] (genN L):=by unfold tabF;split <;> rfl
 unfold genTab;split <;> exact h
theorem cf_gen (L:List Int):Cf (genTab L) (genTab L).conflict:=by
 have h:Cf (tab1 L) (genTab L).conflict:=by rw [genTab_conflict];exact (Cf.start _).all _ (genN_range L)
 exact ⟨h.len,h.bd,fun p q hp hq hh=>by
  obtain ⟨h1,h2,h3⟩:=h.rel p q hp hq hh
  exact ⟨h1,h2,by rw [beside_same (U:=tab1 L) (genTab_groups L)];exact h3⟩⟩
theorem cf_at (L:List Int) {p q:Int} (hp:0≤p∧p < 8) (h:SetM.has (cfAt (genTab L) p) q=true):SetM.has (cfAt (genTab L) q) p=true∧p ≠ q∧beside (genTab L) p q=false:=by
 obtain ⟨p,rfl⟩:=Int.eq_ofNat_of_zero_le hp.1
 have h0:0≤q:=by
  by_cases c:0≤q
  ·exact c
  ·rw [SetM.has_neg _ _ (by omega)] at h;simp at h
 have h8:q < 8:=by
  by_cases c:q < 8
  ·exact c
  ·rw [SetM.has_big _ _ (by omega)] at h;simp at h
 obtain ⟨q,rfl⟩:=Int.eq_ofNat_of_zero_le h0
 obtain ⟨h1,h2,h3⟩:=(cf_gen L).rel p q (by omega) (by omega) h
 exact ⟨h1,by omega,h3⟩
theorem conf_ok (L:List Int) {p:Int} (hp:0≤p∧p < 8):confBad (genTab L) p=false:=by
 unfold confBad
 have h0:SetM.has (cfAt (genTab L) p) p=false:=by
  cases h:SetM.has (cfAt (genTab L) p) p with
  | false=>rfl
  | true=>exact absurd rfl (cf_at L hp h).2.1
 rw [h0,Bool.false_or,List.any_eq_false]
 intro q hq
 have hm:=SetM.list_bd _ _ hq
 cases h1:SetM.has (cfAt (genTab L) p) q with
 | true =>
  obtain ⟨a,_,b⟩:=cf_at L hp h1
  rw [a,b];simp
 | false =>
  cases h2:SetM.has (cfAt (genTab L) q) p with
  | true =>
   have:=(cf_at L hm h2).1
   rw [h1] at this;simp at this
  | false=>simp
theorem no_conf (L:List Int):(ons (genTab L)).find? (confBad (genTab L))=none:=by
 rw [List.find?_eq_none]
 intro p hp
 rw [conf_ok L (SetM.list_bd _ _ hp)]
 simp
theorem genTab_flash (L:List Int):(genTab L).flash=if num L 174 ((genN L:Int)+1) < genN L then (upd (fun _=>(1:Int)) 0 (genN L)).set (num L 174 ((genN L:Int)+1)).toNat 2 else upd (fun _=>1) 0 (genN L):=by
 have h:(tabF L).flash=if num L 174 ((genN L:Int)+1) < genN L then (upd (fun _=>(1:Int)) 0 (genN L)).set (num L 174 ((genN L:Int)+1)).toNat 2 else upd (fun _=>1) 0 (genN L):=by unfold tabF;split <;> rfl
 unfold genTab;split <;> exact h
theorem fl_gen (L:List Int) (k:Nat) (h:k < genN L):flAt (genTab L) k=if (k:Int)=num L 174 ((genN L:Int)+1) then 2 else 1:=by
 have h8:=genN_range L
 have r:=num_range L 174 ((genN L:Int)+1) (by omega)
 unfold flAt
 rw [genTab_flash,Int.toNat_natCast,List.getD_eq_getElem?_getD]
 have hu:(upd (fun _=>(1:Int)) 0 (genN L))[k]?=some 1:=by rw [upd_at _ _ _ _ (by omega),if_pos h]
 split <;> rename_i hlt
 ·by_cases e:(k:Int)=num L 174 ((genN L:Int)+1)
  ·rw [if_pos e,← e,Int.toNat_natCast,List.getElem?_set_self (by rw [upd_len];omega)];rfl
  ·rw [if_neg e,List.getElem?_set_ne (by omega),hu];rfl
 ·rw [if_neg (by omega),hu];rfl
theorem flash_ok (L:List Int) {p:Int} (hp:0≤p∧p < (genN L:Int)):flashBad (genTab L) p=false:=by
 have h8:=genN_range L
 obtain ⟨k,rfl⟩:=Int.eq_ofNat_of_zero_le hp.1
 unfold flashBad
 rw [fl_gen L k (by omega)]
 by_cases e:(k:Int)=num L 174 ((genN L:Int)+1)
 ·rw [if_pos e]
  have hy:yellows (genTab L)=SetM.bit (k:Int):=by
   refine SetM.eq_of (SetM.of_lt _) (SetM.bit_lt _) (fun j hj=>?_)
   unfold yellows
   rw [SetM.of_test,SetM.test_bit,decide_eq_decide]
   constructor
   ·rintro ⟨h1,h2⟩
    rw [List.mem_filter] at h1
    have hm:=mem_ons.1 h1.1
    have h3:=h1.2
    unfold yel at h3
    rw [fl_gen L j (by omega)] at h3
    split at h3
    ·rename_i e2;exact ⟨by omega,h2⟩
    ·simp at h3
   ·rintro ⟨h1,h2⟩
    refine ⟨List.mem_filter.2 ⟨mem_ons.2 (by omega),?_⟩,h2⟩
    unfold yel
    rw [fl_gen L j (by omega),if_pos (by omega)]
    rfl
  have h0:SetM.has (cfAt (genTab L) k) k=false:=by
   cases h:SetM.has (cfAt (genTab L) k) k with
   | false=>rfl
   | true=>exact absurd rfl (cf_at L (by omega) h).2.1
  rw [hy,(SetM.has_and _ _).2 h0]
  rfl
 ·rw [if_neg e];rfl
theorem no_flash (L:List Int):(ons (genTab L)).find? (flashBad (genTab L))=none:=by
 rw [List.find?_eq_none]
 intro p hp
 rw [flash_ok L (mem_ons.1 hp)]
 simp
end Val
namespace Val
open Go Tab GenG GenT PlaceM PlanM OnS ChkM Clone May
open RefS (num num_range)
open ChkX (allIn_iff in_ranges InR)
open MayF (level span)
theorem list_may {α:Type} {m:Int} {f:α→Bool} {l:List α} (hl:(l.length:Int)≤m) (h:∀ x ∈ l,f x=true):listMay m f l=true:=by
 unfold listMay
 rw [decide_eq_true hl,Bool.true_and,List.all_eq_true]
 exact h
theorem recall_range (x walk:Int) (h:0≤x):0≤GenP.recall x walk∧GenP.recall x walk≤3:=by
 unfold GenP.recall
 split <;> omega
theorem ph_may (L:List Int) (i:Int):Ph.may (GenP.genPh L i)=true:=by
 have a0:=num_range L i 12 (by omega)
 have a1:=num_range L (i+5) 25 (by omega)
 have a2:=num_range L (i+6) 15 (by omega)
 have a3:=num_range L (i+2) 6 (by omega)
 have a4:=num_range L (i+3) 4 (by omega)
 have a5:=num_range L (i+8) 10 (by omega)
 have a6:=num_range L (i+8) 97 (by omega)
 have a7:=num_range L (i+1) 9 (by omega)
 have a8:=num_range L (i+4) 5 (by omega)
 have a9:=num_range L (i+9) 7 (by omega)
 unfold Ph.may
 rw [Bool.and_eq_true,allIn_iff,allIn_iff]
 unfold GenP.genPh
 dsimp only
 have hr:=recall_range (num L (i+9) 7) (if num L (i+7) 2=1 then 1+num L (i+8) 10 else 0) a9.1
 simp only [List.mem_cons,List.not_mem_nil,or_false,forall_eq_or_imp,forall_eq]
 refine ⟨?_,hr⟩
 by_cases hw:num L (i+7) 2=1
 ·simp only [if_pos hw];omega
 ·simp only [if_neg hw];omega
theorem phases_may (L:List Int):listMay 8 Ph.may (genTab L).phases=true:=by
 rw [genTab_phases]
 refine list_may (by rw [upd_len];omega) (fun x hx=>?_)
 unfold upd at hx
 obtain ⟨i,_,rfl⟩:=List.mem_map.1 hx
 by_cases h:i < genN L
 ·rw [if_pos h];exact ph_may L _
 ·rw [if_neg h];decide
theorem row_may {p m:Nat} (h:p+m≤8):rowMay (seg p m)=true:=by
 unfold rowMay
 rw [decide_eq_true (by rw [seg_len];omega),Bool.true_and,allIn_iff]
 intro x hx
 have:=mem_seg.1 hx
 omega
theorem groups_may (L:List Int):∀ g,g≤genG L→∀ x ∈ (upTo L (genG L) g).1,groupMay x=true
 | 0,_,x,hx=>by simp [upTo] at hx
 | g+1,h,x,hx=>by
  have h8:=up_le L (genG L) (genG_range L).2 (g+1) h
  have e2:(upTo L (genG L) (g+1)).2=(upTo L (genG L) g).2+n0 L (genG L) g (upTo L (genG L) g).2+n1 L (genG L) g (upTo L (genG L) g).2:=rfl
  have e1:(upTo L (genG L) (g+1)).1=(upTo L (genG L) g).1++[grpD L (genG L) g (upTo L (genG L) g).2]:=rfl
  rw [e2] at h8
  rw [e1,List.mem_append,List.mem_singleton] at hx
  rcases hx with hx | rfl
  ·exact groups_may L g (by omega) x hx
  ·unfold groupMay grpD
   dsimp only
   rw [row_may (by omega),row_may (by omega)]
   rfl
theorem off_tab:∀ a:Fin 4,∀ b:Fin 3,(level (GenD.onTab a.val) && level (GenD.mulTab a.val b.val))=true:=by decide +kernel
theorem span_tab:∀ a:Fin 6,span (Fl.ofB a.val)=true:=by decide +kernel
theorem det_may (L:List Int) (i:Int) (n:Nat) (h0:0 < n) (h8:n≤8):Det.may (GenD.genDet L i n)=true:=by
 have r:=num_range L i n (by omega)
 have ra:=num_range L (i+1) 4 (by omega)
 have rb:=num_range L (i+2) 3 (by omega)
 have rc:=num_range L (i+3) 4 (by omega)
 have rd:=num_range L (i+4) 6 (by omega)
 have re:=num_range L (i+6) 60 (by omega)
 have rf:=num_range L (i+7) 300 (by omega)
 unfold Det.may GenD.genDet
 dsimp only
 have hs1:=span_tab ⟨(num L (i+3) 4).toNat,by omega⟩
 have hs2:=span_tab ⟨(num L (i+4) 6).toNat,by omega⟩
 dsimp only at hs1 hs2
 generalize num L (i+1) 4=a at ra ⊢
 generalize num L (i+2) 3=b at rb ⊢
 obtain ⟨a,rfl⟩:=Int.eq_ofNat_of_zero_le ra.1
 obtain ⟨b,rfl⟩:=Int.eq_ofNat_of_zero_le rb.1
 have ht:=off_tab ⟨a,by omega⟩ ⟨b,by omega⟩
 rw [Bool.and_eq_true] at ht
 rw [ht.1,ht.2,hs1,hs2]
 simp only [Bool.true_and,Bool.and_eq_true,allIn_iff,List.mem_cons,List.not_mem_nil,or_false,forall_eq_or_imp,forall_eq]
 refine ⟨by omega,?_,?_⟩
 ·split <;> omega
 ·split <;> omega
theorem mask_eq:∀ n:Fin 9,GenR.maskV n.val=((2 ^ n.val - 1:Nat):Int):=by decide +kernel
theorem and_mask (x:Int) {n:Nat} (h8:n≤8):∃ m:Nat,bits .and .i64 x (GenR.maskV n)=(m:Int)∧m < 256:=by
 have:=mask_eq ⟨n,by omega⟩
 dsimp only at this
 rw [this]
 have hb:2 ^ n - 1 < 256:=by
  have:2 ^ n≤2 ^ 8:=Nat.pow_le_pow_right (by omega) h8
  omega
 rw [SetM.and_low x _ hb]
 exact ⟨_,rfl,Nat.lt_of_le_of_lt Nat.and_le_right hb⟩
theorem withS_nat (T:Tab) (p q:Int):∃ m:Nat,GenW.withS T p q=(m:Int)∧m < 256:=by
 unfold GenW.withS
 split
 ·exact ⟨_,rfl,SetM.with_lt _ _⟩
 ·exact ⟨_,rfl,SetM.of_lt _⟩
theorem bars_range (x d:Int) {n:Nat} (h8:n≤8) (hd:∃ m:Nat,d=(m:Int)∧m < 256):0≤GenR.barsV x d n∧GenR.barsV x d n≤255:=by
 obtain ⟨m,rfl,hm⟩:=hd
 obtain ⟨k,hk,hk2⟩:=and_mask x h8
 unfold GenR.barsV
 rw [hk,ChkX.andNot_eq (by omega) hm]
 have:SetM.low (k:Int) &&& (255 - m) < 256:=Nat.lt_of_le_of_lt Nat.and_le_left (SetM.low_lt _)
 omega
theorem rl_may (T:Tab) (L:List Int) (i:Int) {n:Nat} (h0:0 < n) (h8:n≤8):Rl.may (GenR.genRl T L i n)=true:=by
 have r8:=num_range L (i+8) 4 (by omega)
 have r9:=num_range L (i+9) 6 (by omega)
 have ra:=num_range L (i+10) 6 (by omega)
 have rb:=num_range L (i+6) 10 (by omega)
 have rc:=num_range L (i+11) 15 (by omega)
 have rd:=num_range L (i+13) 30 (by omega)
 have rl:=GenR.lim_range (num L (i+14) 3)
 have w1:=withS_nat T (num L i n) (num L (i+1) n)
 obtain ⟨b0,b1⟩:=bars_range (num L (i+7) 256) _ h8 w1
 obtain ⟨d,hd,hd2⟩:=w1
 obtain ⟨c,hc,hc2⟩:=withS_nat T (num L (i+4) (n+1)) (num L (i+5) n)
 obtain ⟨x,hx,hx2⟩:=withS_nat T (num L (i+2) n) (num L (i+3) n)
 unfold Rl.may GenR.genRl
 dsimp only
 simp only [Bool.and_eq_true,allIn_iff,List.mem_cons,List.not_mem_nil,or_false,forall_eq_or_imp,forall_eq]
 rw [hc,hx,hd]
 rw [hd] at b0 b1
 refine ⟨⟨⟨b0,b1⟩,?_,by omega,by omega⟩,⟨by omega,by omega,by omega,?_,by omega,?_⟩,by omega⟩
 ·split <;> omega
 ·split <;> omega
 ·split <;> omega
theorem bs_may (L:List Int) (i:Nat) {n:Nat} (h8:n≤8):Bs.may (genBs L i n)=true:=by
 have r:=num_range L (331+2*i) 30 (by omega)
 obtain ⟨m,hm,hm2⟩:=and_mask (num L (330+2*i) 256) h8
 unfold Bs.may genBs
 dsimp only
 rw [hm]
 simp only [Bool.and_eq_true,allIn_iff,List.mem_cons,List.not_mem_nil,or_false,forall_eq_or_imp,forall_eq]
 omega
theorem genTab_rails (L:List Int):(genTab L).rails=down (fun i=>GenR.genRl (tab1 L) L (260+16*i) (genN L)) (num L 176 4 % 3).toNat (num L 176 4 % 3).toNat:=by
 unfold genTab;split <;> rfl
theorem cap_bd (n:Int):0≤RefC.cap n∧RefC.cap n≤2147483647:=⟨RefC.cap_lo n,RefC.cap_hi n⟩
theorem fold_bd:∀ (l:List Int) (x:Int),0≤x∧x≤2147483647→0≤l.foldl RefC.add x∧l.foldl RefC.add x≤2147483647
 | [],x,h=>h
 | y :: l,x,h=>fold_bd l _ (cap_bd _)
theorem sums_bd (l:List Int):0≤RefC.sums l∧RefC.sums l≤2147483647:=fold_bd l 0 (by omega)
theorem free_bd (T:Tab) (p:Int):0≤FreeS.freeS T p∧FreeS.freeS T p≤2147483647:=by
 unfold FreeS.freeS
 split
 ·split
  ·exact sums_bd _
  ·omega
 ·omega
theorem wait_bd (T:Tab) (p:Int):0≤WaitS.waitS T p∧WaitS.waitS T p≤2147483647:=by
 unfold WaitS.waitS
 split
 ·exact free_bd T p
 ·exact sums_bd _
theorem maxW_bd (T:Tab):∀ n,0≤maxW T n∧maxW T n≤2147483647
 | 0=>by simp [maxW]
 | n+1=>by
  have h1:=maxW_bd T n
  have h2:=wait_bd T n
  rw [maxW]
  omega
theorem genTab_times (L:List Int):(genTab L).extend=num L 178 12∧(genTab L).budget=num L 179 40∧(genTab L).start=num L 180 8∧(genTab L).revert=num L 181 8∧(genTab L).least=num L 182 12∧(genTab L).share=num L 183 4:=by
 unfold genTab;split <;> exact ⟨rfl,rfl,rfl,rfl,rfl,rfl⟩
theorem tabS_win (L:List Int):(tabS L).window=0:=(congrArg Tab.window (tabS_window L)).symm
theorem genTab_window (L:List Int):0≤(genTab L).window∧(genTab L).window≤2147483647:=by
 unfold genTab
 split
 ·rw [tabS_win];omega
 ·exact maxW_bd _ _
theorem flash_bd (L:List Int):∀ x ∈ (genTab L).flash,0≤x∧x≤2:=by
 have hu:∀ x ∈ upd (fun _=>(1:Int)) 0 (genN L),0≤x∧x≤2:=by
  intro x hx
  unfold upd at hx
  obtain ⟨i,_,rfl⟩:=List.mem_map.1 hx
  by_cases h:i < genN L
  ·rw [if_pos h];exact ⟨(show (0:Int)≤1 by decide),(show (1:Int)≤2 by decide)⟩
  ·rw [if_neg h];exact ⟨(show (0:Int)≤0 by decide),(show (0:Int)≤2 by decide)⟩
 intro x hx
 rw [genTab_flash] at hx
 split at hx
 ·rcases List.mem_or_eq_of_mem_set hx with h1 | rfl
  ·exact hu x h1
  ·omega
 ·exact hu x hx
theorem gen_may (L:List Int):tabMay (genTab L)=true:=by
 have h8:=genN_range L
 have h1:=genN_pos L
 obtain ⟨t1,t2,t3,t4,t5,t6⟩:=genTab_times L
 have a1:=num_range L 178 12 (by omega)
 have a2:=num_range L 179 40 (by omega)
 have a3:=num_range L 180 8 (by omega)
 have a4:=num_range L 181 8 (by omega)
 have a5:=num_range L 182 12 (by omega)
 have a6:=num_range L 183 4 (by omega)
 have a7:=num_range L 175 9 (by omega)
 have a8:=num_range L 176 4 (by omega)
 have a9:=num_range L 177 3 (by omega)
 have w:=genTab_window L
 unfold tabMay
 rw [phases_may,t1,t2,t3,t4,t5,t6]
 simp only [Bool.true_and,Bool.and_eq_true,allIn_iff,List.mem_cons,List.not_mem_nil,or_false,forall_eq_or_imp,forall_eq]
 refine ⟨?_,fun x hx=>by have:=(cf_gen L).bd x hx;omega,?_,?_,?_,by omega,flash_bd L,by omega⟩
 ·rw [genTab_groups]
  refine list_may ?_ (groups_may L _ (Nat.le_refl _))
  have:=genG_range L
  unfold genGs
  rw [up_len]
  omega
 ·rw [genTab_dets]
  refine list_may (by rw [down_len];omega) (fun x hx=>?_)
  obtain ⟨i,rfl⟩:=mem_down _ hx
  exact det_may L _ _ h1 h8
 ·rw [genTab_rails]
  refine list_may (by rw [down_len];omega) (fun x hx=>?_)
  obtain ⟨i,rfl⟩:=mem_down _ hx
  exact rl_may _ L _ h1 h8
 ·rw [genTab_buses]
  refine list_may (by rw [down_len];omega) (fun x hx=>?_)
  obtain ⟨i,rfl⟩:=mem_down _ hx
  exact bs_may L _ h8
end Val
namespace ChkI
open Zip
open Go.RowKit Go.Shelf
open Tab PlaceM PlanM OnS ChkM Each Search
attribute [local go_sem] Oper.semAt_some
structure Bxd (T:Tab) (b:Nat) (W:World):Prop where
 cf:∀ p:Int,0≤p→p < 8→W.cell? ⟨b,105+p.toNat,none⟩=some (I (cfAt T p))
 fl:∀ p:Int,0≤p→p < 8→W.cell? ⟨b,121+p.toNat,none⟩=some (I (flAt T p))
theorem bxd_new {T:Tab} {h:Hd} {w:World} (ht:IsTab w h T):Bxd T w.heap.size (w.alloc (.cells (T.cells h).toArray 32)):=by
 have C:=cells_ok ht
 have hb:(w.alloc (.cells (T.cells h).toArray 32)).heap[w.heap.size]?=some (.cells (T.cells h).toArray 32 (0,0)):=heap_alloc_new w _
 constructor
 ·intro p h0 h8
  obtain ⟨k,rfl⟩:=Int.eq_ofNat_of_zero_le h0
  rw [cell_of_row _ _ _ _ _ _ hb]
  have hk:k < 8:=by omega
  have h1:=congrArg (·[k]?) C.conflict
  simp only [List.getElem?_take,List.getElem?_drop,List.getElem?_map] at h1
  rw [if_pos hk,Array.getElem?_toList] at h1
  rw [Int.toNat_natCast,h1,List.getElem?_eq_getElem (by rw [ht.cf];exact hk)]
  simp [cfAt,List.getD_eq_getElem?_getD,List.getElem?_eq_getElem (show k < T.conflict.length by rw [ht.cf];exact hk)]
 ·intro p h0 h8
  obtain ⟨k,rfl⟩:=Int.eq_ofNat_of_zero_le h0
  rw [cell_of_row _ _ _ _ _ _ hb]
  have hk:k < 8:=by omega
  have h1:=congrArg (·[k]?) C.flash
  simp only [List.getElem?_take,List.getElem?_drop,List.getElem?_map] at h1
  rw [if_pos hk,Array.getElem?_toList] at h1
  rw [Int.toNat_natCast,h1,List.getElem?_eq_getElem (by rw [ht.fl];exact hk)]
  simp [flAt,List.getD_eq_getElem?_getD,List.getElem?_eq_getElem (show k < T.flash.length by rw [ht.fl];exact hk)]
theorem Bxd.below {T:Tab} {b:Nat} {W W':World} (h:Bxd T b W) (hb:Below W.heap.size W W'):Bxd T b W' :=
 ⟨fun p h0 h8=>(hb.cell (World.block_lt_of_cell? W _ (h.cf p h0 h8))).trans (h.cf p h0 h8),fun p h0 h8=>(hb.cell (World.block_lt_of_cell? W _ (h.fl p h0 h8))).trans (h.fl p h0 h8)⟩
theorem laid4 (w:World) (o0 o1 o2 o3:Obj):∃ W,((((w.alloc o0).alloc o1).alloc o2).alloc o3)=W∧W.heap.size=w.heap.size+4∧Below w.heap.size w W∧Below (w.heap.size+1) (w.alloc o0) W∧W.heap[w.heap.size+1]?=some o1∧W.heap[w.heap.size+2]?=some o2∧W.heap[w.heap.size+3]?=some o3:=by
 refine ⟨_,rfl,by simp,(((((Below.refl _ w).alloc (Nat.le_refl _) _).alloc (by simp) _).alloc (by simp;omega) _).alloc (by simp;omega) _),?_,?_,?_,?_⟩
 ·have:=(((Below.refl (w.alloc o0).heap.size (w.alloc o0)).alloc (Nat.le_refl _) o1).alloc (by simp) o2).alloc (by simp;try omega) o3
  simpa using this
 ·have h1:=heap_alloc_new (w.alloc o0) o1
  have h2:=Below.heap_alloc ((w.alloc o0).alloc o1) o2 (w.heap.size+1) (by simp)
  have h3:=Below.heap_alloc (((w.alloc o0).alloc o1).alloc o2) o3 (w.heap.size+1) (by simp)
  rw [World.size_alloc] at h1
  exact h3.trans (h2.trans h1)
 ·have h1:=heap_alloc_new ((w.alloc o0).alloc o1) o2
  have h3:=Below.heap_alloc (((w.alloc o0).alloc o1).alloc o2) o3 (w.heap.size+2) (by simp)
  simp only [World.size_alloc] at h1
  exact h3.trans h1
 ·have h1:=heap_alloc_new (((w.alloc o0).alloc o1).alloc o2) o3
  simp only [World.size_alloc] at h1
  exact h1
theorem setRow_grown (W:World) (b:Nat) (cs:Array Value) (h:b < W.heap.size):W.grownBy (W.setRow b cs) (some b) :=
 ⟨rfl,rfl,rfl,by simp [World.setRow],fun j _ hj=>setRow_other _ _ _ _ (fun e=>hj (by rw [e]))⟩
theorem hmx:Tryz.prog.follows .mixedOrders=true:=by kernel_rfl
theorem clash_any (T:Tab) (h:Hd) (s:Int) (w:World) (ht:IsTab w h T) :
  Calls Tryz.prog 116 #[.agg (T.cells h).toArray,.int .i64 s] w fun e w'=>e=.returned (.bool (clashC T s))∧Below w.heap.size w w':=by
 have hsz:=(cells_ok ht).size
 have A0:Hid (Below w.heap.size w (w.alloc (.cells (T.cells h).toArray 32))):=hJJ ((Below.refl _ _).alloc (Nat.le_refl _) _)
 have BX:=hJJ (bxd_new ht)
 have hs1:(w.alloc (.cells (T.cells h).toArray 32)).heap.size=w.heap.size+1:=by simp
 clear ht
 generalize T.cells h=c at *
 refine (callsIn_wide (n:=3)).1 ?_
 refine callsIn_of_wp_marks Tryz.func116 rfl trivial ?_ rfl
 simp only [Tryz.ntmps116,List.size_toArray,List.length_cons,List.length_nil,Nat.reduceAdd,Nat.reduceSub,Array.replicate_succ,Array.replicate_zero,List.push_toArray,List.append_toArray,List.nil_append,List.cons_append]
 gi_wp2_with fail
 refine ⟨trivial,(Each.each_in _ _ _).mono ?_⟩
 rintro e w' ⟨rfl,rfl⟩
 gi_wp2_with fail
 obtain ⟨W0,hW0,E1,E0,EB,bS,bR,bE⟩:=laid4 w (.cells c.toArray 32) (.cells #[.int .i64 s] 3) (.cells #[.bool false] 4) (.cells #[.int .i64 s] 3)
 rw [hW0]
 have BX:=hJJ (BX.out.below (by rw [hs1];exact EB))
 clear hW0 EB hs1 hsz A0
 have bS:Boxed W0 (w.heap.size+1) 3 (.int .i64 s):=bS
 have bR:Boxed W0 (w.heap.size+2) 4 (.bool false):=bR
 have bE:Boxed W0 (w.heap.size+3) 3 (.int .i64 s):=bE
 refine search (fun p=>bits .and .i64 (cfAt T p) s != 0) (fun _=>.cells #[.bool true] 4 (0,0)) (w.heap.size+3) (w.heap.size+2) s (by omega) rfl rfl (by omega) (by omega) bE.cell
  (fun x=>{ tmps:=#[.agg c.toArray,.int .i64 s,.pointer (some ⟨w.heap.size,0,none⟩),.pointer (some ⟨w.heap.size+1,0,none⟩),.pointer (some ⟨w.heap.size+1+1,0,none⟩),.int .i64 x,.int .i64 s,.func (.func 127) #[] #[.pointer (some ⟨w.heap.size+1+1+1,0,none⟩)],.int .i64 x,undef,undef,undef,undef,undef,undef,undef],defers:=[] }) ?assign ?body ?done ?stop
 case assign =>
  intro l x W K hK
  gi_wp2
  exact hK
 case body =>
  intro l x W hx hB
  have hx8:=SetM.list_bd s x hx
  have cc:=(BX.out.below hB).cf x hx8.1 hx8.2
  have cS:=(Boxed.cell (show Boxed W (w.heap.size+1) 3 (.int .i64 s) from (hB.block _ (by omega)).trans bS))
  have hne:Nonempty (Ph.S (Row.Old W)):=⟨⟨0,W,Below.refl _ _⟩⟩
  obtain ⟨k,rfl⟩:=Int.eq_ofNat_of_zero_le hx8.1
  rw [Int.toNat_natCast] at cc
  have CC:∀ p:Ph.S (Row.Old W),p.world.cell? ⟨w.heap.size,105+k,none⟩=some (I (cfAt T k)):=fun p=>(p.is.cell (World.block_lt_of_cell? W _ cc)).trans cc
  have CS:∀ p:Ph.S (Row.Old W),p.world.cell? ⟨w.heap.size+1,0,none⟩=some (.int .i64 s):=fun p=>(p.is.cell (World.block_lt_of_cell? W _ cS)).trans cS
  have hk8:k < 8:=by omega
  gi_wp2
  refine Up.region_ph (Row.Old W) [] (fun ⟨_,_,h⟩=>h) (by kernel_rfl) hmx (by kernel_rfl) (Row.Old.drew _) ?_
  iterate 7
   (refine Pw.calm rfl (fun K hK=>?_)
    go_simp
    refine hK _ ?_
    clear hK K)
  refine Pw.nil ?_
  intro W1 hb1
  have hv:Boxed W1 (w.heap.size+1+1) 4 (.bool false):=(hb1.block _ (by have:=hB.size;omega)).trans ((hB.block _ (by omega)).trans bR)
  have hc:=hv.cell
  have hf:=hv.frozen
  clear CC CS cc cS hne BX hB
  generalize hg:(bits BinOp.and IntKind.i64 (cfAt T k) s != 0)=r
  cases r with
  | true =>
   have HG:=hJJ hg
   clear hg
   gi_wp2
   exact ⟨HG.out,grown_trans (grown_of_below hb1) (grownBy_setCell' _ _ _),hv.set (.bool true)⟩
  | false =>
   have HG:=hJJ hg
   clear hg
   gi_wp2
   exact ⟨HG.out,hb1⟩
 case done =>
  intro D W hD hall hB hK
  have hv:Boxed W (w.heap.size+1+1) 4 (.bool false):=(hB.block _ (by omega)).trans bR
  have hc:=hv.cell
  have hf:=hv.frozen
  have HR:Hid (clashC T s=false):=hJJ (by unfold clashC;rw [List.any_eq_false];intro x hx;simpa using hall x hx)
  have HB:Hid (Below w.heap.size w W):=hJJ (E0.trans (hB.mono (by omega)))
  clear hB hall
  gi_wp2
  have hv2:=hv.set (.bool false)
  have hK':=(KeepsOthers.setCell W ⟨w.heap.size+1+1,0,none⟩ (.bool false)).same D _ hK rfl
  refine ⟨by simp,.inl ⟨_,_,rfl,run_takeDeferred hK',?_⟩⟩
  have hc5:=cell_kept hv2.cell (grownBy_putObj' _ D (.deferred none)) (fun r e=>by cases e;exact ⟨_,hK',rfl⟩)
  refine ⟨.bool false,?_,by rw [HR.out],(HB.out.setCell (p:=⟨w.heap.size+1+1,0,none⟩) (by simp;try omega) _).trans (belowK_b (w:=w) (Nat.le_refl _) _ D _ _ (by omega) hK' rfl rfl)⟩
  simp [results,Tryz.f116,go_sem,hc5]
 case stop =>
  intro D x W hD hf hx hg hR hK
  have HR:Hid (clashC T s=true):=hJJ (by unfold clashC;rw [List.any_eq_true];exact ⟨x,List.mem_of_find?_eq_some hf,hx⟩)
  have hv:Boxed W (w.heap.size+1+1) 4 (.bool true):=hR
  have HB:Hid (Below w.heap.size w W):=hJJ (E0.grown hg (by omega) (fun k e=>by cases e;omega))
  clear hf hx hg
  gi_wp2
  refine ⟨by simp,.inl ⟨_,_,rfl,run_takeDeferred hK,?_⟩⟩
  have hc5:=cell_kept hv.cell (grownBy_putObj' _ D (.deferred none)) (fun r e=>by cases e;exact ⟨_,hK,rfl⟩)
  refine ⟨.bool true,?_,by rw [HR.out],HB.out.trans (belowK_b (w:=w) (Nat.le_refl _) W D _ _ (by omega) hK rfl rfl)⟩
  simp [results,Tryz.f116,go_sem,hc5]
end ChkI
namespace ChkJ
open Zip
open Go.RowKit Go.Shelf
open Tab PlaceM PlanM OnS ChkM Each Search ChkI
open May (infoT)
attribute [local go_sem] Oper.semAt_some
theorem laid3 (w:World) (o0 o1 o2:Obj):∃ W,(((w.alloc o0).alloc o1).alloc o2)=W∧W.heap.size=w.heap.size+3∧Below w.heap.size w W∧Below (w.heap.size+1) (w.alloc o0) W∧W.heap[w.heap.size+1]?=some o1∧W.heap[w.heap.size+2]?=some o2:=by
 refine ⟨_,rfl,by simp,((((Below.refl _ w).alloc (Nat.le_refl _) _).alloc (by simp) _).alloc (by simp;omega) _),?_,?_,?_⟩
 ·have:=(((Below.refl (w.alloc o0).heap.size (w.alloc o0)).alloc (Nat.le_refl _) o1).alloc (by simp) o2)
  simpa using this
 ·have h1:=heap_alloc_new (w.alloc o0) o1
  have h2:=Below.heap_alloc ((w.alloc o0).alloc o1) o2 (w.heap.size+1) (by simp)
  rw [World.size_alloc] at h1
  exact h2.trans h1
 ·have h1:=heap_alloc_new ((w.alloc o0).alloc o1) o2
  simp only [World.size_alloc] at h1
  exact h1
def cbad (T:Tab) (p q:Int):Bool:=(SetM.has (cfAt T p) q != SetM.has (cfAt T q) p) || (SetM.has (cfAt T p) q && beside T p q)
theorem conf_self {T:Tab} {p:Int} (h:SetM.has (cfAt T p) p=true):confBad T p=true:=by unfold confBad;rw [h];rfl
theorem conf_any {T:Tab} {p:Int} (h:SetM.has (cfAt T p) p=false):confBad T p=(ons T).any (cbad T p):=by unfold confBad;rw [h];rfl
theorem badConflict_any (T:Tab) (h:Hd) (k:Nat) (hk:k < 8) (w:World) (ht:IsTab w h T) :
  Calls Tryz.prog 77 #[.agg (T.cells h).toArray,.int .i64 k] w fun e w'=>e=.returned (.bool (confBad T k))∧Below w.heap.size w w':=by
 have hsz:=(cells_ok ht).size
 have IA:Hid ((Tryz.prog.info? 32).map (·.size)=some (T.cells h).length):=hJJ (by rw [List.size_toArray] at hsz;rw [hsz];exact infoT)
 have ON:Hid (∀ W,Below w.heap.size w W→Calls Tryz.prog 96 #[.agg (T.cells h).toArray] W fun e w'=>e=.returned (.int .i64 (onS T:Nat))∧Below W.heap.size W w'):=hJJ (fun W hb=>PlanO.pon_any T h W (ht.below hb))
 have BS:Hid (∀ (p q:Int) W,Below w.heap.size w W→Calls Tryz.prog 112 #[.agg (T.cells h).toArray,.int .i64 p,.int .i64 q] W fun e w'=>e=.returned (.bool (beside T p q))∧Below W.heap.size W w'):=hJJ (fun p q W hb=>PlanW.pbeside_any T h p q W (ht.below hb))
 have BX0:=hJJ (bxd_new ht)
 have LT0:=hJJ (Row.lies_new w (T.cells h).toArray 32)
 have hs1:(w.alloc (.cells (T.cells h).toArray 32)).heap.size=w.heap.size+1:=by simp
 clear ht
 generalize T.cells h=c at *
 refine (callsIn_wide (n:=3)).1 ?_
 refine callsIn_of_wp_marks Tryz.func77 rfl trivial ?_ rfl
 simp only [Tryz.ntmps77,List.size_toArray,List.length_cons,List.length_nil,Nat.reduceAdd,Nat.reduceSub,Array.replicate_succ,Array.replicate_zero,List.push_toArray,List.append_toArray,List.nil_append,List.cons_append]
 refine wpIn_wide.2 ?_
 go_upto_region 1 with fail
 obtain ⟨W1,hW1,E1,E0,EB,bS,bR⟩:=laid3 w (.cells c.toArray 32) (.cells #[.int .i64 k] 3) (.cells #[.bool false] 4)
 rw [hW1]
 have BX1:=hJJ (BX0.out.below (by rw [hs1];exact EB))
 have LT1:=hJJ (LT0.out.below (by rw [hs1];exact EB))
 have A0:=hJJ E0
 clear hW1 EB hs1 hsz BX0 LT0 E0
 have bS:Boxed W1 (w.heap.size+1) 3 (.int .i64 k):=bS
 have bR:Boxed W1 (w.heap.size+1+1) 4 (.bool false):=bR
 have cS:=bS.cell
 have cc:=BX1.out.cf k (by omega) (by omega)
 rw [Int.toNat_natCast] at cc
 have hne:Nonempty (Ph.S (Row.Old W1)):=⟨⟨0,W1,Below.refl _ _⟩⟩
 have CC:∀ p:Ph.S (Row.Old W1),p.world.cell? ⟨w.heap.size,105+k,none⟩=some (I (cfAt T k)):=fun p=>(p.is.cell (World.block_lt_of_cell? W1 _ cc)).trans cc
 have CS:∀ p:Ph.S (Row.Old W1),p.world.cell? ⟨w.heap.size+1,0,none⟩=some (.int .i64 k):=fun p=>(p.is.cell (World.block_lt_of_cell? W1 _ cS)).trans cS
 refine Pw.region (Row.Old W1) [] hmx (by kernel_rfl) (Row.Old.drew _) ?_
 have hki:((k:Nat):Int) < 8:=by omega
 iterate 5
  (refine Pw.calm rfl (fun K hK=>?_)
   go_simp
   refine hK _ ?_
   clear hK K)
 (refine Pw.calm rfl (fun K hK=>?_)
  go_simp
  refine ⟨_,fun p=>Row.Old.pure (SetP.has_any _ _ _),hK _ ?_⟩
  clear hK K)
 refine Pw.nil ?_
 intro W2 hb
 have B0:Hid (Below w.heap.size w W2):=hJJ (A0.out.trans (hb.mono (by omega)))
 have bS2:Boxed W2 (w.heap.size+1) 3 (.int .i64 k):=(hb.block _ (by omega)).trans bS
 have bR2:Boxed W2 (w.heap.size+1+1) 4 (.bool false):=(hb.block _ (by omega)).trans bR
 have BX:=hJJ (BX1.out.below hb)
 have LT:=hJJ (LT1.out.below hb)
 have E2:w.heap.size+3≤W2.heap.size:=by have:=hb.size;omega
 clear CC CS cc cS hne hb bS bR BX1 LT1 A0 E1
 cases hself:SetM.has (cfAt T k) k with
 | true =>
  have HR:=hJJ (conf_self hself)
  clear hself
  have hc:=bR2.cell
  have hf:=bR2.frozen
  go_wp2
  have hv2:=bR2.set (.bool true)
  have hc5:=hv2.cell
  refine ⟨.bool true,?_,by rw [HR.out],B0.out.setCell (p:=⟨w.heap.size+1+1,0,none⟩) (by simp;omega) _⟩
  simp [results,Tryz.f77,go_sem,hc5]
 | false =>
  have HR:=hJJ (conf_any hself)
  clear hself
  go_wp2_with (refine lgZ 32 ⟨w.heap.size,0,none⟩ c rfl LT.out Tryz.underlying32 IA.out ?_)
  refine (ON.out _ B0.out).mono ?_
  rintro e W3 ⟨rfl,hb⟩
  go_wp2_with fail
  refine (callsIn_wide.1 (Each.each_in 3 _ _)).mono ?_
  rintro e w' ⟨rfl,rfl⟩
  go_wp2_with fail
  have hb4:Below W2.heap.size W2 (W3.alloc (.cells #[.int .i64 (onS T:Nat)] 3)):=hb.alloc hb.size _
  have bE:Boxed (W3.alloc (.cells #[.int .i64 (onS T:Nat)] 3)) W3.heap.size 3 (.int .i64 (onS T:Nat)):=Boxed.new _ _ _
  have hsz3:(W3.alloc (.cells #[.int .i64 (onS T:Nat)] 3)).heap.size=W3.heap.size+1:=by simp
  have hs3:=hb.size
  generalize W3.alloc (.cells #[.int .i64 (onS T:Nat)] 3)=W4 at hb4 bE hsz3 ⊢
  have bS4:Boxed W4 (w.heap.size+1) 3 (.int .i64 k):=(hb4.block _ (by omega)).trans bS2
  have bR4:Boxed W4 (w.heap.size+1+1) 4 (.bool false):=(hb4.block _ (by omega)).trans bR2
  have BX4:=hJJ (BX.out.below hb4)
  have LT4:=hJJ (LT.out.below hb4)
  have C0:Hid (Below w.heap.size w W4):=hJJ (B0.out.trans (hb4.mono B0.out.size))
  have E4:w.heap.size+3 < W4.heap.size:=by omega
  clear hb hb4 bS2 bR2 BX LT B0 E2 hs3
  generalize W3.heap.size=be at *
  refine (wpIn_wide (n:=3)).1 ?_
  refine search (cbad T k) (fun _=>.cells #[.bool true] 4 (0,0)) be (w.heap.size+1+1) (onS T:Nat) (by omega) rfl rfl (by omega) (by omega) bE.cell
   (fun x=>{ tmps:=#[.agg c.toArray,.int .i64 k,.pointer (some ⟨w.heap.size,0,none⟩),.pointer (some ⟨w.heap.size+1,0,none⟩),.pointer (some ⟨w.heap.size+1+1,0,none⟩),.int .i64 x,undef,.int .i64 k,.pointer (some ⟨w.heap.size,105,none⟩),.pointer (some ⟨w.heap.size,105+k,none⟩),I (cfAt T k),.int .i64 k,.bool false,.agg c.toArray,.int .i64 (onS T:Nat),.func (.func 127) #[] #[.pointer (some ⟨be,0,none⟩)],.int .i64 x,undef,undef,undef,undef,undef,undef,undef,undef,undef,undef,undef,undef,undef,undef,undef,undef,undef,undef,undef,undef,undef,undef,undef],defers:=[] }) ?assign ?body ?done ?stop
  case assign =>
   intro l x W K hK
   gi_wp2
   exact hK
  case body =>
   intro l x W hx hB
   have hx8:=SetM.list_bd _ x hx
   have BXW:=BX4.out.below hB
   have cc:=BXW.cf x hx8.1 hx8.2
   have ck:=BXW.cf k (by omega) (by omega)
   rw [Int.toNat_natCast] at ck
   have cS:=(Boxed.cell (show Boxed W (w.heap.size+1) 3 (.int .i64 k) from (hB.block _ (by omega)).trans bS4))
   have LTW:=hJJ (LT4.out.below hB)
   have BW:Hid (Below w.heap.size w W):=hJJ (C0.out.trans (hB.mono C0.out.size))
   have hvR:Boxed W (w.heap.size+1+1) 4 (.bool false):=(hB.block _ (by omega)).trans bR4
   have HV:=hJJ hvR
   obtain ⟨j,rfl⟩:=Int.eq_ofNat_of_zero_le hx8.1
   rw [Int.toNat_natCast] at cc
   have hj8:((j:Nat):Int) < 8:=hx8.2
   have hjn:j < 8:=by omega
   have CB:Hid (cbad T k j=_):=hJJ (by unfold cbad;rfl)
   have CC:∀ p:Ph.S (Row.Old W),p.world.cell? ⟨w.heap.size,105+j,none⟩=some (I (cfAt T j)):=fun p=>(p.is.cell (World.block_lt_of_cell? W _ cc)).trans cc
   have CS:∀ p:Ph.S (Row.Old W),p.world.cell? ⟨w.heap.size+1,0,none⟩=some (.int .i64 k):=fun p=>(p.is.cell (World.block_lt_of_cell? W _ cS)).trans cS
   have CH:=hJJ CC
   have CSH:=hJJ CS
   have BSW:Hid (∀ p:Ph.S (Row.Old W),Calls Tryz.prog 112 #[.agg c.toArray,.int .i64 k,.int .i64 j] p.world fun e w'=>e=.returned (.bool (beside T k j))∧Below p.world.heap.size p.world w'):=hJJ (fun p=>BS.out k j _ (BW.out.trans (p.is.mono BW.out.size)))
   clear cc CC CS hB BXW bE bS4 bR4 hvR
   obtain ⟨a,ha⟩:∃ a,SetM.has (cfAt T k) j=a:=⟨_,rfl⟩
   obtain ⟨b,hb'⟩:∃ b,SetM.has (cfAt T j) k=b:=⟨_,rfl⟩
   gi_wp2_with (refine ⟨trivial,?_⟩;gi_at_call 95;refine (CallsIn.inRound l (callsIn_wide.2 (SetP.has_any _ _ _))).mono ?_;rintro e w' ⟨rfl,rfl⟩;rw [ha])
   have hne:Nonempty (Ph.S (Row.Old W)):=⟨⟨0,W,Below.refl _ _⟩⟩
   have CC:=CH.out
   have CS:=CSH.out
   refine Up.region_ph (Row.Old W) [] (fun ⟨_,_,h⟩=>h) (by kernel_rfl) hmx (by kernel_rfl) (Row.Old.drew _) ?_
   iterate 6
    (refine Pw.calm rfl (fun K hK=>?_)
     go_simp
     refine hK _ ?_
     clear hK K)
   (refine Pw.calm rfl (fun K hK=>?_)
    go_simp
    refine ⟨_,fun p=>Row.Old.pure (SetP.has_any _ _ _),hK _ ?_⟩
    clear hK K)
   rw [hb']
   cases a with
   | false =>
    cases b with
    | false =>
     have HCB:Hid (cbad T k j=false):=hJJ (by rw [CB.out,ha,hb'];rfl)
     clear ha hb' CB
     iterate 4
      (refine Pw.calm rfl (fun K hK=>?_)
       go_simp
       refine hK _ ?_
       clear hK K)
     refine Pw.skips 4 (by kernel_rfl) ?_
     (try simp only [List.take_succ_cons,List.take_zero,List.drop_succ_cons,List.drop_zero,Pw.undefs])
     (try dsimp only [Act.put])
     (try simp only [List.setIfInBounds_toArray,List.set_cons_zero,List.set_cons_succ])
     iterate 2
      (refine Pw.calm rfl (fun K hK=>?_)
       go_simp
       refine hK _ ?_
       clear hK K)
     refine Pw.nil ?_
     intro Wz hbz
     have hv:Boxed Wz (w.heap.size+1+1) 4 (.bool false):=(hbz.block _ HV.out.lt).trans HV.out
     have hc:=hv.cell
     have hf:=hv.frozen
     clear CC CS hne
     gi_wp2
     exact ⟨HCB.out,hbz⟩
    | true =>
     have HCB:Hid (cbad T k j=true):=hJJ (by rw [CB.out,ha,hb'];rfl)
     clear ha hb' CB
     iterate 2
      (refine Pw.calm rfl (fun K hK=>?_)
       go_simp
       refine hK _ ?_
       clear hK K)
     refine Pw.skips 7 (by kernel_rfl) ?_
     (try simp only [List.take_succ_cons,List.take_zero,List.drop_succ_cons,List.drop_zero,Pw.undefs])
     (try dsimp only [Act.put])
     (try simp only [List.setIfInBounds_toArray,List.set_cons_zero,List.set_cons_succ])
     iterate 1
      (refine Pw.calm rfl (fun K hK=>?_)
       go_simp
       refine hK _ ?_
       clear hK K)
     refine Pw.nil ?_
     intro Wz hbz
     have hv:Boxed Wz (w.heap.size+1+1) 4 (.bool false):=(hbz.block _ HV.out.lt).trans HV.out
     have hc:=hv.cell
     have hf:=hv.frozen
     clear CC CS hne
     gi_wp2
     exact ⟨HCB.out,grown_trans (grown_of_below hbz) (grownBy_setCell' _ _ _),hv.set (.bool true)⟩
   | true =>
    cases b with
    | false =>
     have HCB:Hid (cbad T k j=true):=hJJ (by rw [CB.out,ha,hb'];rfl)
     clear ha hb' CB
     iterate 2
      (refine Pw.calm rfl (fun K hK=>?_)
       go_simp
       refine hK _ ?_
       clear hK K)
     refine Pw.skips 7 (by kernel_rfl) ?_
     (try simp only [List.take_succ_cons,List.take_zero,List.drop_succ_cons,List.drop_zero,Pw.undefs])
     (try dsimp only [Act.put])
     (try simp only [List.setIfInBounds_toArray,List.set_cons_zero,List.set_cons_succ])
     iterate 1
      (refine Pw.calm rfl (fun K hK=>?_)
       go_simp
       refine hK _ ?_
       clear hK K)
     refine Pw.nil ?_
     intro Wz hbz
     have hv:Boxed Wz (w.heap.size+1+1) 4 (.bool false):=(hbz.block _ HV.out.lt).trans HV.out
     have hc:=hv.cell
     have hf:=hv.frozen
     clear CC CS hne
     gi_wp2
     exact ⟨HCB.out,grown_trans (grown_of_below hbz) (grownBy_setCell' _ _ _),hv.set (.bool true)⟩
    | true =>
     have HCB0:Hid (cbad T k j=beside T k j):=hJJ (by rw [CB.out,ha,hb'];simp)
     clear ha hb' CB
     obtain ⟨bs,hbs⟩:∃ x,beside T k j=x:=⟨_,rfl⟩
     iterate 4
      (refine Pw.calm rfl (fun K hK=>?_)
       go_simp
       refine hK _ ?_
       clear hK K)
     refine Pw.load rfl (by rfl) 32 _ rfl ⟨w.heap.size,0,none⟩ rfl c _ (fun p=>LTW.out.below p.is) Tryz.underlying32 rfl IA.out ?_
     (try dsimp only [Act.put]);(try simp only [zA,zB,zC])
     iterate 2
      (refine Pw.calm rfl (fun K hK=>?_)
       go_simp
       refine hK _ ?_
       clear hK K)
     (refine Pw.calm rfl (fun K hK=>?_)
      go_simp
      refine ⟨_,fun p=>Row.Old.call (BSW.out p),hK _ ?_⟩
      clear hK K)
     rw [hbs]
     have HCB:Hid (cbad T k j=bs):=hJJ (HCB0.out.trans hbs)
     clear hbs HCB0
     cases bs with
     | true =>
      iterate 2
       (refine Pw.calm rfl (fun K hK=>?_)
        go_simp
        refine hK _ ?_
        clear hK K)
      refine Pw.nil ?_
      intro Wz hbz
      have hv:Boxed Wz (w.heap.size+1+1) 4 (.bool false):=(hbz.block _ HV.out.lt).trans HV.out
      have hc:=hv.cell
      have hf:=hv.frozen
      clear CC CS hne
      gi_wp2
      exact ⟨HCB.out,grown_trans (grown_of_below hbz) (grownBy_setCell' _ _ _),hv.set (.bool true)⟩
     | false =>
      iterate 2
       (refine Pw.calm rfl (fun K hK=>?_)
        go_simp
        refine hK _ ?_
        clear hK K)
      refine Pw.nil ?_
      intro Wz hbz
      have hv:Boxed Wz (w.heap.size+1+1) 4 (.bool false):=(hbz.block _ HV.out.lt).trans HV.out
      have hc:=hv.cell
      have hf:=hv.frozen
      clear CC CS hne
      gi_wp2
      exact ⟨HCB.out,hbz⟩
  case done =>
   intro D W hD hall hB hK
   have hv:Boxed W (w.heap.size+1+1) 4 (.bool false):=(hB.block _ (by omega)).trans bR4
   have hc:=hv.cell
   have hf:=hv.frozen
   have HR2:Hid (confBad T k=false):=hJJ (by rw [HR.out,List.any_eq_false];intro x hx;simpa using hall x hx)
   have HB:Hid (Below w.heap.size w W):=hJJ (C0.out.trans (hB.mono C0.out.size))
   clear hB hall
   go_wp2
   have hv2:=hv.set (.bool false)
   have hK':=(KeepsOthers.setCell W ⟨w.heap.size+1+1,0,none⟩ (.bool false)).same D _ hK rfl
   refine ⟨by simp,.inl ⟨_,_,rfl,run_takeDeferred hK',?_⟩⟩
   have hc5:=cell_kept hv2.cell (grownBy_putObj' _ D (.deferred none)) (fun r e=>by cases e;exact ⟨_,hK',rfl⟩)
   refine ⟨.bool false,?_,by rw [HR2.out],(HB.out.setCell (p:=⟨w.heap.size+1+1,0,none⟩) (by simp;omega) _).trans (belowK_b (w:=w) (Nat.le_refl _) _ D _ _ (by omega) hK' rfl rfl)⟩
   simp [results,Tryz.f77,go_sem,hc5]
  case stop =>
   intro D x W hD hf hx hg hR hK
   have HR2:Hid (confBad T k=true):=hJJ (by rw [HR.out,List.any_eq_true];exact ⟨x,List.mem_of_find?_eq_some hf,hx⟩)
   have hv:Boxed W (w.heap.size+1+1) 4 (.bool true):=hR
   have HB:Hid (Below w.heap.size w W):=hJJ (C0.out.grown hg (by omega) (fun k e=>by cases e;omega))
   clear hf hx hg
   gi_wp2
   refine ⟨by simp,.inl ⟨_,_,rfl,run_takeDeferred hK,?_⟩⟩
   have hc5:=cell_kept hv.cell (grownBy_putObj' _ D (.deferred none)) (fun r e=>by cases e;exact ⟨_,hK,rfl⟩)
   refine ⟨.bool true,?_,by rw [HR2.out],HB.out.trans (belowK_b (w:=w) (Nat.le_refl _) W D _ _ (by omega) hK rfl rfl)⟩
   simp [results,Tryz.f77,go_sem,hc5]
end ChkJ
end Go.Proofs.YtjolhoilcibdfaaGreat
