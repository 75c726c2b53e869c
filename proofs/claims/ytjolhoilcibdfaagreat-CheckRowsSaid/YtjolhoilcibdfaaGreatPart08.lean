/- 13 texts in one file, in build order. -/
import Derived.Test.YtjolhoilcibdfaaGreatRows
import Derived.Test.YtjolhoilcibdfaaGreatPart07
import Derived.Test.YtjolhoilcibdfaaGreatPart01
import Derived.RangeFuncCalls
import Derived.OrdersIn
import Derived.TacticsIn
import Derived.RangeFuncNested
import Derived.RangeFuncBound
import Derived.RangeFuncLeaves
import Derived.RangeFuncBox
import Derived.Shelf.Abstract
import Derived.Shelf.RegionOpen
import Derived.WalkKit
import Derived.OwnWalkIn
import Derived.TacticsInMore
import Derived.LoopNIn
import Derived.LoopIn
import Derived.Maps.AppendAt
import Derived.Test.YtjolhoilcibdfaaGreatPart05
import Derived.Test.YtjolhoilcibdfaaGreatPart02
import Derived.Deep.Cut
import Derived.Test.YtjolhoilcibdfaaGreatPart03
import Derived.Laws.ResultCell
import Derived.Laws.Rows
import Derived.Test.YtjolhoilcibdfaaGreatPart04
set_option linter.unusedVariables false
set_option linter.unusedSimpArgs false
set_option linter.unusedSectionVars false
set_option maxHeartbeats 8000000
set_option maxRecDepth 100000
namespace Go.Proofs.YtjolhoilcibdfaaGreat
namespace ChkX
open Go Tab PlaceM PlanM OnS May ChkM
theorem low_in {a:Int} (h:0≤a∧a≤255):((SetM.low a:Nat):Int)=a:=by unfold SetM.low;omega
theorem has_bits {a q:Int}:SetM.has a q=true ↔ 0≤q∧q < 8∧(SetM.low a).testBit q.toNat=true:=by
 unfold SetM.has
 rw [Bool.and_eq_true,decide_eq_true_eq]
 constructor
 ·rintro ⟨h1,h2⟩
  refine ⟨h1,?_,h2⟩
  by_cases h8:q < 8
  ·exact h8
  ·rw [SetM.test_high _ _ (SetM.low_lt a) (by omega)] at h2;cases h2
 ·rintro ⟨h1,_,h2⟩;exact ⟨h1,h2⟩
theorem low_ne {m:Nat} (hm:m < 256):m ≠ 0 ↔ ∃ q:Int,SetM.has (m:Int) q=true:=by
 constructor
 ·intro h
  refine Classical.byContradiction fun hn=>h ?_
  refine Nat.eq_of_testBit_eq fun k=>?_
  rw [Nat.zero_testBit]
  cases ht:m.testBit k with
  | false=>rfl
  | true =>
   exfalso
   refine hn ⟨(k:Int),has_bits.2 ⟨by omega,?_,?_⟩⟩
   ·by_cases h8:k < 8
    ·omega
    ·rw [SetM.test_high _ _ hm (by omega)] at ht;cases ht
   ·rw [SetM.low_nat _ hm,Int.toNat_natCast];exact ht
 ·rintro ⟨q,hq⟩ rfl
  have:=(has_bits.1 hq).2.2
  rw [SetM.low_nat _ hm,Nat.zero_testBit] at this
  cases this
theorem and_ne {a b:Int} (hb:0≤b∧b≤255):bits .and .i64 a b ≠ 0 ↔ ∃ q:Int,SetM.has a q=true∧SetM.has b q=true:=by
 have e:bits .and .i64 a b=((SetM.low a &&& SetM.low b:Nat):Int):=by
  have:=SetM.and_low a (SetM.low b) (SetM.low_lt b)
  rwa [low_in hb] at this
 have hlt:SetM.low a &&& SetM.low b < 256:=Nat.lt_of_le_of_lt Nat.and_le_left (SetM.low_lt a)
 rw [e]
 have:((SetM.low a &&& SetM.low b:Nat):Int) ≠ 0 ↔ (SetM.low a &&& SetM.low b) ≠ 0:=by omega
 rw [this,low_ne hlt]
 constructor
 ·rintro ⟨q,hq⟩
  obtain ⟨h1,h2,h3⟩:=has_bits.1 hq
  rw [SetM.low_nat _ hlt,Nat.testBit_and,Bool.and_eq_true] at h3
  exact ⟨q,has_bits.2 ⟨h1,h2,h3.1⟩,has_bits.2 ⟨h1,h2,h3.2⟩⟩
 ·rintro ⟨q,h1,h2⟩
  obtain ⟨h3,h4,h5⟩:=has_bits.1 h1
  obtain ⟨_,_,h6⟩:=has_bits.1 h2
  refine ⟨q,has_bits.2 ⟨h3,h4,?_⟩⟩
  rw [SetM.low_nat _ hlt,Nat.testBit_and,h5,h6];rfl
theorem andNot_eq {a:Int} (ha:0≤a∧a≤255) {m:Nat} (hm:m < 256):bits .andNot .i64 a (m:Int)=((SetM.low a &&& (255 - m):Nat):Int):=by
 obtain ⟨k,rfl⟩:=Int.eq_ofNat_of_zero_le ha.1
 have hk:k < 256:=by omega
 have h1:=SetM.andNot_low (k:Int) m hm
 have e:bits .andNot .i64 (k:Int) (m:Int)=IntKind.i64.wrap (((BitVec.ofInt 64 (k:Int) &&& ~~~ BitVec.ofInt 64 (m:Int)).toNat:Nat):Int):=rfl
 have hlt:(BitVec.ofInt 64 (k:Int) &&& ~~~ BitVec.ofInt 64 (m:Int)).toNat < 256:=by
  rw [BitVec.toNat_and,SetM.toNat_ofNat k hk]
  exact Nat.lt_of_le_of_lt Nat.and_le_left hk
 rw [e,SetM.wrap_small _ hlt] at h1 ⊢
 rw [← h1,SetM.low_nat _ hlt]
theorem not_bit {m k:Nat} (hm:m < 256) (hk:k < 8):(255 - m).testBit k=!m.testBit k:=by
 have:∀ m:Fin 256,∀ k:Fin 8,(255 - m.val).testBit k.val=!m.val.testBit k.val:=by decide +kernel
 exact this ⟨m,hm⟩ ⟨k,hk⟩
theorem andNot_zero {a:Int} (ha:0≤a∧a≤255) {m:Nat} (hm:m < 256):bits .andNot .i64 a (m:Int)=0 ↔ ∀ q,SetM.has a q=true→SetM.has (m:Int) q=true:=by
 rw [andNot_eq ha hm]
 have hlt:SetM.low a &&& (255 - m) < 256:=Nat.lt_of_le_of_lt Nat.and_le_left (SetM.low_lt a)
 have h0:((SetM.low a &&& (255 - m):Nat):Int)=0 ↔ ¬ (SetM.low a &&& (255 - m)) ≠ 0:=by omega
 rw [h0,low_ne hlt]
 constructor
 ·intro h q hq
  obtain ⟨h1,h2,h3⟩:=has_bits.1 hq
  refine Classical.byContradiction fun hn=>h ⟨q,has_bits.2 ⟨h1,h2,?_⟩⟩
  rw [SetM.low_nat _ hlt,Nat.testBit_and,h3,not_bit hm (by omega),Bool.true_and]
  cases ht:m.testBit q.toNat with
  | false=>rfl
  | true=>exact absurd (has_bits.2 ⟨h1,h2,by rw [SetM.low_nat _ hm];exact ht⟩) hn
 ·rintro h ⟨q,hq⟩
  obtain ⟨h1,h2,h3⟩:=has_bits.1 hq
  rw [SetM.low_nat _ hlt,Nat.testBit_and,not_bit hm (by omega),Bool.and_eq_true] at h3
  have h4:=(has_bits.1 (h q (has_bits.2 ⟨h1,h2,h3.1⟩))).2.2
  rw [SetM.low_nat _ hm] at h4
  rw [h4] at h3
  cases h3.2
theorem allOn_iff {T:Tab} {s:Int} (hs:0≤s∧s≤255):allOn T s=true ↔ ∀ q,SetM.has s q=true→SetM.has (onS T:Nat) q=true:=by
 unfold allOn
 rw [beq_iff_eq,andNot_zero hs (show onS T < 256 from SetM.of_lt _)]
theorem inR_eq {T:Tab} {s:Int} (hs:0≤s∧s≤255):inR s (onS T:Nat)=allOn T s:=by
 unfold inR allOn
 rw [SetM.and_255,andNot_eq hs (show onS T < 256 from SetM.of_lt _),SetM.low_nat _ (Nat.lt_of_le_of_lt Nat.and_le_left (SetM.low_lt s))]
theorem has_of {l:List Int} {q:Int}:SetM.has ((SetM.of l:Nat):Int) q=true ↔ 0≤q∧q < 8∧q ∈ l:=by
 rw [has_bits,SetM.low_nat _ (SetM.of_lt _),SetM.of_test,decide_eq_true_eq]
 constructor
 ·rintro ⟨h1,h2,h3,_⟩;exact ⟨h1,h2,by rwa [Int.toNat_of_nonneg h1] at h3⟩
 ·rintro ⟨h1,h2,h3⟩;exact ⟨h1,h2,by rwa [Int.toNat_of_nonneg h1],by omega⟩
theorem mem_onTo {x:Int}:∀ {i:Nat} {l:List Ph},x ∈ onTo i l ↔ ∃ j u,l[j]?=some u∧u.on=true∧x=((i+j:Nat):Int)
 | i,[]=>by simp [onTo]
 | i,p :: l=>by
  rw [onTo,List.mem_append,mem_onTo (i:=i+1) (l:=l)]
  constructor
  ·rintro (h | ⟨j,u,h1,h2,h3⟩)
   ·by_cases hp:p.on
    ·rw [if_pos hp] at h
     exact ⟨0,p,rfl,hp,by simpa using h⟩
    ·rw [if_neg hp] at h;cases h
   ·exact ⟨j+1,u,by simpa using h1,h2,by rw [h3];congr 1;omega⟩
  ·rintro ⟨j,u,h1,h2,h3⟩
   cases j with
   | zero =>
    obtain rfl:p=u:=by simpa using h1
    exact .inl (by rw [if_pos h2];simpa using h3)
   | succ j=>exact .inr ⟨j,u,by simpa using h1,h2,by rw [h3];congr 1;omega⟩
theorem has_on {T:Tab} (h8:T.phases.length=8) {p:Int} (h0:0≤p) (hp:p < 8):SetM.has (onS T:Nat) p=(phAt T p).on:=by
 obtain ⟨k,rfl⟩:=Int.eq_ofNat_of_zero_le h0
 have hk:k < T.phases.length:=by omega
 have e:phAt T k=T.phases[k]:=by unfold phAt;rw [Int.toNat_natCast,List.getD_eq_getElem?_getD,List.getElem?_eq_getElem hk];rfl
 rw [Bool.eq_iff_iff]
 unfold onS onL
 rw [has_of,mem_onTo,e]
 constructor
 ·rintro ⟨_,_,j,u,h1,h2,h3⟩
  obtain rfl:k=j:=by omega
  rw [List.getElem?_eq_getElem hk] at h1
  obtain rfl:=Option.some.inj h1
  exact h2
 ·intro h
  exact ⟨h0,hp,k,_,List.getElem?_eq_getElem hk,h,by simp⟩
theorem mem_ons {T:Tab} {q:Int}:q ∈ ons T ↔ SetM.has (onS T:Nat) q=true:=SetM.mem_list _ _
theorem allIn_iff {m:Int} {l:List Int}:allIn m l=true ↔ ∀ x ∈ l,0≤x∧x≤m:=by
 unfold allIn inB
 rw [List.all_eq_true]
 constructor
 ·intro h x hx;have:=h x hx;simpa using this
 ·intro h x hx;have:=h x hx;simpa using this
structure InR (T:Tab):Prop where
 ph:∀ u ∈ T.phases,Ph.may u=true
 gr:∀ g ∈ T.groups,groupMay g=true
 cf:∀ x ∈ T.conflict,0≤x∧x≤255
 dt:∀ d ∈ T.dets,Det.may d=true
 rl:∀ r ∈ T.rails,Rl.may r=true
 bs:∀ b ∈ T.buses,Bs.may b=true
theorem in_ranges {T:Tab} (h:tabMay T=true):InR T:=by
 unfold tabMay listMay at h
 simp only [Bool.and_eq_true,List.all_eq_true] at h
 obtain ⟨⟨_,h1⟩,⟨_,h2⟩,h3,⟨_,h4⟩,⟨_,h5⟩,⟨_,h6⟩,_⟩:=h
 exact ⟨h1,h2,allIn_iff.1 h3,h4,h5,h6⟩
theorem lt_dec (a b:Int):decide (a < b)=!decide (b≤a):=by rw [Bool.eq_iff_iff];simp
theorem ph_eq {u:Ph} (h:Ph.may u=true):phOk u=!phBad u:=by
 unfold Ph.may at h
 rw [Bool.and_eq_true,allIn_iff,allIn_iff] at h
 have hw:=h.1 u.walk (by simp)
 have hb:=h.1 u.blinks (by simp)
 obtain ⟨on,min,gap,max,top,step,yellow,red,walk,blinks,recall,lock,rest⟩:=u
 clear h
 unfold phOk phBad
 simp only at *
 have e0:(walk == 0)=!decide (0 < walk):=by rw [Bool.eq_iff_iff];simp;omega
 have e1:(blinks == 0)=!decide (0 < blinks):=by rw [Bool.eq_iff_iff];simp;omega
 rw [e0,e1,lt_dec min 1,lt_dec yellow 10,lt_dec max min,lt_dec top max,lt_dec step 1]
 have e2:(recall != 3)=!(recall == 3):=rfl
 rw [e2]
 generalize decide (0 < walk)=b0
 generalize decide (0 < blinks)=b1
 generalize decide (1≤min)=b2
 generalize decide (10≤yellow)=b3
 generalize decide (min≤max)=b4
 generalize decide (1≤step)=b5
 generalize (recall == 3)=b6
 by_cases h4:max≤top
 ·have e3:(top == max)=!decide (max < top):=by rw [Bool.eq_iff_iff];simp;omega
  rw [e3,decide_eq_true h4]
  generalize decide (max < top)=b7
  revert b0 b1 b2 b3 b4 b5 b6 b7
  decide
 ·rw [decide_eq_false h4]
  generalize decide (max < top)=b7
  generalize (top == max)=b8
  revert b0 b1 b2 b3 b4 b5 b6 b7 b8
  decide
theorem ph_at {T:Tab} (h:InR T) (h8:T.phases.length=8) {p:Int} (h0:0≤p) (hp:p < 8):Ph.may (phAt T p)=true:=by
 refine h.ph _ ?_
 unfold phAt
 rw [List.getD_eq_getElem?_getD,List.getElem?_eq_getElem (show p.toNat < T.phases.length by omega)]
 exact List.getElem_mem _
theorem conf_eq {T:Tab} {p:Int} (hp:p ∈ ons T):confOk T p=!confBad T p:=by
 unfold confOk
 congr 1
 rw [Bool.eq_iff_iff]
 unfold confBad
 rw [List.any_eq_true,Bool.or_eq_true,List.any_eq_true]
 constructor
 ·rintro ⟨q,hq,h⟩
  unfold confR at h
  rw [Bool.or_eq_true,Bool.and_eq_true,beq_iff_eq] at h
  rcases h with ⟨h1,rfl⟩ | h
  ·exact .inl h1
  ·exact .inr ⟨q,hq,h⟩
 ·rintro (h | ⟨q,hq,h⟩)
  ·exact ⟨p,hp,by unfold confR;rw [h];simp⟩
  ·refine ⟨q,hq,?_⟩
   unfold confR
   rw [h];simp
theorem det_eq {T:Tab} (h8:T.phases.length=8) {d:Det} (h0:0≤d.phase) (hp:d.phase < 8):detBad T d=detR T d:=by
 unfold detBad detR;rw [has_on h8 h0 hp]
theorem mem_yel {T:Tab} {q:Int}:SetM.has (yellows T:Nat) q=true ↔ q ∈ ons T∧flAt T q=2:=by
 unfold yellows
 rw [has_of,List.mem_filter]
 unfold yel
 rw [beq_iff_eq]
 constructor
 ·rintro ⟨_,_,h⟩;exact h
 ·intro h;have:=SetM.list_bd _ _ h.1;exact ⟨this.1,this.2,h⟩
theorem flash_eq {T:Tab} {p:Int}:flashOk T p=!flashBad T p:=by
 have hy:0≤((yellows T:Nat):Int)∧((yellows T:Nat):Int)≤255:=by have:yellows T < 256:=SetM.of_lt _;omega
 have e:(bits .and .i64 (cfAt T p) (yellows T:Nat) != 0)=(ons T).any fun q=>flAt T q == 2 && SetM.has (cfAt T p) q:=by
  rw [Bool.eq_iff_iff,bne_iff_ne,and_ne hy,List.any_eq_true]
  constructor
  ·rintro ⟨q,h1,h2⟩;obtain ⟨h3,h4⟩:=mem_yel.1 h2;exact ⟨q,h3,by rw [h4,h1];rfl⟩
  ·rintro ⟨q,h1,h2⟩
   rw [Bool.and_eq_true,beq_iff_eq] at h2
   exact ⟨q,h2.2,mem_yel.2 ⟨h1,h2.1⟩⟩
 unfold flashOk flashBad
 rw [e]
 unfold flashR
 by_cases h0:flAt T p=0
 ·rw [h0];rfl
 by_cases h2:flAt T p=2
 ·rw [h2];simp
 ·have e2:(flAt T p == 2)=false:=beq_eq_false_iff_ne.2 h2
  have e0:(flAt T p == 0)=false:=beq_eq_false_iff_ne.2 h0
  have e1:(flAt T p != 0)=true:=bne_iff_ne.2 h0
  rw [e0,e1]
  simp only [e2,Bool.false_and]
  simp
theorem bus_eq {T:Tab} {b:Bs} (h:Bs.may b=true):busBad T b=busR T b:=by
 unfold Bs.may at h
 rw [Bool.and_eq_true,allIn_iff] at h
 unfold busBad busR
 rw [inR_eq (h.1 b.set (by simp))]
theorem clash_eq {T:Tab} (h:InR T) (hc:T.conflict.length=8) {s:Int} (hs:0≤s∧s≤255):clashC T s=clashR T s s:=by
 rw [Bool.eq_iff_iff]
 unfold clashC clashR
 rw [List.any_eq_true,List.any_eq_true]
 constructor
 ·rintro ⟨p,hp,h1⟩
  rw [bne_iff_ne,and_ne hs] at h1
  obtain ⟨q,h2,h3⟩:=h1
  exact ⟨p,hp,List.any_eq_true.2 ⟨q,(SetM.mem_list _ _).2 h3,by rw [h2];rfl⟩⟩
 ·rintro ⟨p,hp,h1⟩
  obtain ⟨q,hq,h2⟩:=List.any_eq_true.1 h1
  rw [Bool.or_eq_true] at h2
  rcases h2 with h2 | h2
  ·exact ⟨p,hp,bne_iff_ne.2 ((and_ne hs).2 ⟨q,h2,(SetM.mem_list _ _).1 hq⟩)⟩
  ·exact ⟨q,hq,bne_iff_ne.2 ((and_ne hs).2 ⟨p,h2,(SetM.mem_list _ _).1 hp⟩)⟩
theorem beside_symm (T:Tab) (p q:Int):beside T p q=beside T q p:=by
 unfold beside
 cases where_ T p with
 | none=>cases where_ T q <;> rfl
 | some a =>
  cases where_ T q with
  | none=>rfl
  | some b =>
   show (a.g == b.g && a.k != b.k)=(b.g == a.g && b.k != a.k)
   rw [Bool.beq_comm,bne_comm]
theorem list_nodup (s:Int):(SetM.list s).Nodup:=by
 unfold SetM.list SetM.upto List.Nodup
 rw [List.pairwise_map]
 exact (List.nodup_range.sublist List.filter_sublist).imp (fun h e=>h (Int.ofNat.inj e))
theorem abreast_eq {T:Tab} {s:Int}:abreast T s=pairs T (SetM.list s):=by
 have hn:=list_nodup s
 have hm:∀ p q,q ∈ SetM.list (SetM.withoutN s p:Nat) ↔ q ∈ SetM.list s∧q ≠ p:=by
  intro p q
  rw [SetM.mem_list,SetM.mem_list,SetM.has_without,Bool.and_eq_true]
  simp
 rw [Bool.eq_iff_iff]
 unfold abreast pairs
 simp only [List.all_eq_true,List.mem_range,hm]
 generalize SetM.list s=L at *
 constructor
 ·intro h i hi k hk
  have e1:L.getD i 0=L[i]:=by rw [List.getD_eq_getElem?_getD,List.getElem?_eq_getElem hi];rfl
  have e2:L.getD k 0=L[k]'(by omega):=by rw [List.getD_eq_getElem?_getD,List.getElem?_eq_getElem (by omega)];rfl
  rw [e1,e2]
  refine h _ (List.getElem_mem _) _ ⟨List.getElem_mem _,fun e=>?_⟩
  have:=List.pairwise_iff_getElem.1 hn k i (by omega) hi hk
  exact this e
 ·rintro h p hp q ⟨hq,hne⟩
  obtain ⟨i,hi,rfl⟩:=List.getElem_of_mem hp
  obtain ⟨k,hk,rfl⟩:=List.getElem_of_mem hq
  have e:∀ (j:Nat) (hj:j < L.length),L.getD j 0=L[j]:=fun j hj=>by rw [List.getD_eq_getElem?_getD,List.getElem?_eq_getElem hj];rfl
  rcases Nat.lt_trichotomy k i with h1 | h1 | h1
  ·have:=h i hi k h1;rwa [e i hi,e k hk] at this
  ·subst h1;exact absurd rfl hne
  ·have:=h k hk i h1;rw [e i hi,e k hk] at this;rw [beside_symm];exact this
theorem or_in {a b:Int} (ha:0≤a∧a≤255) (hb:0≤b∧b≤255):0≤bits .or .i64 a b∧bits .or .i64 a b≤255:=by
 obtain ⟨m,rfl⟩:=Int.eq_ofNat_of_zero_le ha.1
 obtain ⟨n,rfl⟩:=Int.eq_ofNat_of_zero_le hb.1
 rw [RefS.or_small m n (by omega) (by omega)]
 have:=Nat.or_lt_two_pow (n:=8) (show m < 2 ^ 8 by omega) (show n < 2 ^ 8 by omega)
 omega
theorem exit_eq {T:Tab} {s:Int} (hs:0≤s∧s≤255):exitR T s=(s != 0 && abreast T s):=by
 unfold exitR
 rw [abreast_eq,Bool.and_comm]
 congr 1
 rw [Bool.eq_iff_iff,decide_eq_true_eq,bne_iff_ne,List.length_pos_iff_exists_mem]
 have:=low_ne (SetM.low_lt s)
 rw [low_in hs] at this
 constructor
 ·rintro ⟨q,hq⟩ rfl
  rw [SetM.mem_list] at hq
  exact (this.2 ⟨q,hq⟩) rfl
 ·intro h
  obtain ⟨q,hq⟩:=this.1 (fun e=>h (by rw [← low_in hs,e];rfl))
  exact ⟨q,(SetM.mem_list _ _).2 hq⟩
theorem rail_eq {T:Tab} (h:InR T) (hc:T.conflict.length=8) {r:Rl} (hr:Rl.may r=true):railOk T r=!railBad T r:=by
 unfold Rl.may at hr
 rw [Bool.and_eq_true,Bool.and_eq_true,allIn_iff,allIn_iff,allIn_iff] at hr
 obtain ⟨h1,h2,h3⟩:=hr
 have hb:=h1 r.bars (by simp)
 have hcl:=h1 r.clear (by simp)
 have hd:=h1 r.dwell (by simp)
 have he:=h1 r.exit (by simp)
 have hho:=h2 r.hold (by simp)
 have hmo:=h2 r.most (by simp)
 have ho:0≤or4 r∧or4 r≤255:=or_in (or_in (or_in hb hcl) hd) he
 unfold railOk railBad timesBad
 rw [inR_eq ho,← clash_eq h hc hcl,← clash_eq h hc hd,← clash_eq h hc he,exit_eq he]
 generalize allOn T (or4 r)=a
 generalize clashC T r.clear=c1
 generalize clashC T r.dwell=c2
 generalize clashC T r.exit=c3
 generalize abreast T r.exit=b
 generalize bits .and .i64 r.dwell r.bars=x
 obtain ⟨bars,clear,dwell,exit,delay,green,foot,hold,stay,most,limit⟩:=r
 simp only at *
 clear h1 h2 h3 ho
 have e0:(hold == 0)=!decide (0 < hold):=by rw [Bool.eq_iff_iff];simp;omega
 have e1:decide (0 < most)=!(most == 0):=by rw [Bool.eq_iff_iff];simp;omega
 rw [e0,e1,lt_dec green 1,lt_dec stay 1,lt_dec most stay,lt_dec delay limit]
 simp only [bne]
 generalize decide (0 < hold)=g0
 generalize (clear == 0)=g1
 generalize decide (1≤green)=g2
 generalize decide (1≤stay)=g3
 generalize (most == 0)=g4
 generalize decide (stay≤most)=g5
 generalize decide (limit≤delay)=g6
 generalize (dwell == 0)=g7
 generalize (exit == 0)=g8
 generalize (x == 0)=g9
 have e2:(g0 == !g1)=((!g0) == g1):=by revert g0 g1;decide
 rw [e2]
 generalize ((!g0) == g1)=k
 simp only [Bool.not_or,Bool.not_and,Bool.not_not]
 ac_rfl
end ChkX
namespace Val
open Go Tab GenG GenT PlaceM PlanM OnS ChkM Clone May
open RefS (num num_range)
open ChkX (allIn_iff in_ranges InR)
open MayF (level span)
end Val
namespace Up
open Go Go.RowKit
def noDefer (l:List Oper):Bool:=l.all fun o=>match o.op with | .defer _=>false | _=>true
theorem not_defer {l:List Oper} (h:noDefer l=true) {o:Oper} (ho:o ∈ l):∀ c,o.op ≠ .defer c:=by
 intro c e
 have:=List.all_eq_true.1 h o ho
 rw [e] at this
 cases this
section
variable {P:Program} {l n:Nat} {Q:Exit→Act→World→Prop}
theorem op_up {o:Oper} {a:Act} {w:World} {K K':Act→World→Prop} (hn:∀ a w,K a w→K' a w) (hd:∀ c,o.op ≠ .defer c) (h:o.wp P a w K Q):o.wpIn (Fence.wide.inRound l) n P a w K' Q:=by
 refine ⟨fun _ _=>trivial,?_⟩
 rw [show (Fence.wide.inRound l).round=some l from rfl,Oper.semAt_some l _ _ hd]
 unfold Oper.wp at h
 generalize (execOp a.eval o).run P w=r at h
 cases r with
 | ok nx w' =>
  cases nx with
  | value v=>exact hn _ _ h
  | skip=>exact hn _ _ h
  | defer d=>exact hn _ _ h
  | enter f args =>
   refine ⟨fun h=>(by cases h),CallsIn.inRound l (callsIn_wide.2 (Calls.mono h ?_))⟩
   intro e w'' he
   cases e with
   | returned v=>exact hn _ _ he
   | panicked c=>exact he
   | outgrown=>exact he
  | row row args=>exact ⟨fun h=>(by cases h),fun c cs _=>let ⟨v,w',r,s⟩:=h c cs;⟨v,w',hn _ _ r,stepsIn_wide.2 s⟩⟩
  | _=>exact h.elim
 | halt e w' =>
  cases e with
  | panic v=>exact h
  | _=>exact h.elim
theorem list_up (hQ:¬ LetsOut Q) {ops:Array Oper}:∀ (m:List Oper) (a:Act) (w:World),noDefer m=true→wpList P ops Q m a w→wpListIn (Fence.wide.inRound l) n P ops Q m a w
 | [],a,w,_,h=>h
 | o :: rest,a,w,hd,h=>by
  have hr:noDefer rest=true:=by unfold noDefer at hd ⊢;rw [List.all_cons,Bool.and_eq_true] at hd;exact hd.2
  unfold wpList at h
  unfold wpListIn
  split at h
  ·rename_i hw
   rw [if_pos hw]
   rcases h with h | h
   ·exact op_up (fun a w h=>list_up hQ rest a w hr h) (not_defer hd (List.mem_cons_self ..)) h
   ·exact absurd h.2 hQ
  ·rename_i hw
   rw [if_neg hw]
   exact ⟨fun _ _=>trivial,list_up hQ rest _ _ hr h⟩
theorem any_up (hQ:¬ LetsOut Q) {md:Region.Mode} {ops:Array Oper} (hd:noDefer ops.toList=true):∀ (fuel:Nat) (listed:Array Bool) (a:Act) (w:World),wpAny P md ops Q fuel listed a w→wpAnyIn (Fence.wide.inRound l) n P md ops Q fuel listed a w
 | 0,_,_,_,h=>h
 | fuel+1,listed,a,w,h=>by
  refine ⟨h.1,fun i hi=>?_⟩
  have h1:=h.2 i hi
  unfold wpOp at h1
  unfold wpOpIn
  cases ho:ops[i]? with
  | none=>rw [ho] at h1;exact any_up hQ hd fuel _ _ _ h1
  | some o =>
   rw [ho] at h1
   have hm:o ∈ ops.toList:=List.mem_of_getElem? (by rw [Array.getElem?_toList];exact ho)
   dsimp only at h1 ⊢
   split at h1
   ·rename_i hw
    rw [if_pos hw]
    rcases h1 with h1 | h1
    ·exact op_up (fun a w h=>any_up hQ hd fuel _ a w h) (not_defer hd hm) h1
    ·exact absurd h1.2 hQ
   ·rename_i hw
    rw [if_neg hw]
    exact ⟨fun _ _=>trivial,any_up hQ hd fuel _ _ _ h1⟩
theorem region_list {id:Nat} {m:List Oper} {a:Act} {w:World} (hQ:¬ LetsOut Q) (hd:noDefer m=true) (h:wpList P m.toArray Q m a w):(Code.region id m.toArray false).wpIn (Fence.wide.inRound l) n P Q a w :=
 wpIn_region_lit (list_up hQ m a w hd h)
theorem region_ph {id:Nat} {a:Act} {w:World} {m:List Oper} (D:Nat→World→Prop) (cs:List Nat) (hQ:¬ LetsOut Q) (hd:noDefer m=true) (hm:P.follows .mixedOrders=true) (hB:Ph.okB .any m.toArray cs=true) (hD:D 0 w.drew)
  (h:Pw.W P m.toArray D cs (fun a'=>∀ w',D cs.length w'→Q .normal a' w') 0 m a):(Code.region id m.toArray true).wpIn (Fence.wide.inRound l) n P Q a w:=by
 have h:=h.out
 simp only [Ph.okB,Bool.and_eq_true] at hB
 obtain ⟨⟨hs,hc⟩,hlex⟩:=hB
 have h1:=Ph.wpAnyP_lex (md:=.any) hs hc m 0 (Array.replicate m.toArray.size false) a (by simp) (by simpa using hlex) h
 refine wpIn_region_any hm (any_up hQ (by simpa using hd) _ _ _ _ ?_)
 refine Ph.wpAny_of_ph (D:=D) (cs:=cs) (Q:=fun L a=>(cs.all fun c=>L.getD c false)=true∧∀ w',D cs.length w'→Q .normal a w') (fun L a w ⟨p,hp,hat,hd⟩ ⟨hall,hq⟩=>?_) _ _ _ _ (by simp) ⟨0,Nat.zero_le _,fun q c _=>by rw [getD_replicate_false];simp,hD⟩ (by simpa using h1)
 have hpe:p=cs.length:=by
  rcases Nat.lt_or_ge p cs.length with h2 | h2
  ·have h3:=hat p _ (List.getElem?_eq_getElem h2)
   have h4:=List.all_eq_true.1 hall _ (List.getElem_mem h2)
   rw [h4] at h3
   have:=of_decide_eq_true h3.symm
   omega
  ·omega
 subst hpe
 exact hq w hd
end
end Up
namespace Each
open Zip
open Go.RowKit Go.Shelf
open Go.Proofs.YtjolhoilcibdfaaGreat
attribute [local go_sem] Oper.semAt_some
def Kept (B:Nat) (W W':World):Prop:=W'.heap[B]?=W.heap[B]?
theorem Kept.refl (B:Nat) (W:World):Kept B W W:=rfl
theorem Kept.trans {B:Nat} {A C D:World} (h:Kept B A C) (k:Kept B C D):Kept B A D:=Eq.trans k h
theorem Kept.cell {B o:Nat} {A C:World} (h:Kept B A C):C.cell? ⟨B,o,none⟩=A.cell? ⟨B,o,none⟩:=by
 simp only [World.cell?,show C.heap[B]?=A.heap[B]? from h]
theorem Kept.below {n₀ B:Nat} {A C:World} (h:Below n₀ A C) (hB:B < n₀):Kept B A C:=h.block B hB
theorem Kept.setCell {B b o:Nat} (W:World) (v:Value) (h:B ≠ b):Kept B W (W.setCell ⟨b,o,none⟩ v):=Below.heap_setCell _ _ _ B h
theorem kept_b {B:Nat} {w:World} (hB:B < w.heap.size) (W:World) (l:Nat) (o o':Obj) (hl:w.heap.size≤l) (_:W.heap[l]?=some o) (_:o.isCells=false) (_:o.isWalk=false):Kept B W (W.putObj l o') :=
 World.putObj_heap_other (by omega)
theorem each1_in (n:Nat) (hn:1≤n) (l Bs:Nat) (s:Int) (J Jx:List Int→World→Prop)
  (hY:∀ pre (x:Int) W,J pre W→pre++[x] <+: SetM.list s→YieldAt Fence.wide (n - 1) Tryz.prog l #[.int .i64 x] W fun e W' =>
   (e=.returned (.bool true)∧J (pre++[x]) W'∧Kept Bs W W')∨(e=.returned (.bool false)∧Jx (pre++[x]) W'))
  (W:World) (hc:W.cell? ⟨Bs,0,none⟩=some (.int .i64 s)) (h0:J [] W) :
  CallsIn Fence.wide n Tryz.prog 127 #[.func (.yield l) #[] #[],.pointer (some ⟨Bs,0,none⟩)] W fun e W'=>(∃ v,e=.returned v) ∧
   ((∃ ys,ys=SetM.list s∧J ys W')∨(∃ pre,pre <+: SetM.list s∧Jx pre W')):=by
 refine callsIn_of_wp Tryz.func127 rfl trivial ?_ rfl
 simp only [Tryz.ntmps127,List.size_toArray,List.length_cons,List.length_nil,Nat.reduceAdd,Nat.reduceSub,Array.replicate_succ,Array.replicate_zero,List.push_toArray,List.append_toArray,List.nil_append,List.cons_append]
 gi_wp2
 gi_loopw [4] (fun i wr=>∃ k:Nat,k≤8∧i=.int .i64 k∧J (SetM.upto s k) wr∧Kept Bs W wr)
  (fun i _=>8 - (intOf i).toNat)
 case atStart=>exact ⟨0,Nat.zero_le _,rfl,h0,Kept.refl _ _⟩
 case round =>
  obtain ⟨k,hk,rfl,hJs,hnx⟩:=hrel
  have hcx:=(hnx.cell (o:=0)).trans hc
  by_cases hlt:k < 8
  ·by_cases hh:SetM.has s k=true
   ·obtain ⟨fn,tmps,assign,body,hy,hR⟩:=hY _ (k:Int) wr hJs (by rw [← SetM.upto_hit s k hh];exact SetM.upto_list s (k+1) (by omega))
    have Hs:=hJJ (SetM.upto_hit s k hh)
    have Hp:=hJJ (SetM.upto_list s (k+1) (by omega))
    gi_wp2_with (refine ⟨trivial,?_⟩;gi_at_call 95;refine (callsIn_wide.2 (SetP.has_any _ _ _)).mono ?_;rintro e w' ⟨rfl,rfl⟩;rw [hh])
    refine hR.mono ?_
    rintro e W3 (⟨rfl,hJ3,hk3⟩ | ⟨rfl,hJx3⟩)
    ·gi_wp2
     go_roundw
     case rel=>exact ⟨k+1,by omega,by go_num,by rw [Hs.out];exact hJ3,hnx.trans hk3⟩
     case measure=>simp [intOf];omega
    ·gi_wp2
     refine bodyPost_ret (results_none rfl _ _ _) rfl ?_
     exact ⟨⟨_,rfl⟩,.inr ⟨_,by rw [← Hs.out];exact Hp.out,hJx3⟩⟩
   ·have hh':SetM.has s k=false:=by simpa using hh
    have Hs:=hJJ (SetM.upto_miss s k hh')
    clear hh
    gi_wp2_with (refine ⟨trivial,?_⟩;gi_at_call 95;refine (callsIn_wide.2 (SetP.has_any _ _ _)).mono ?_;rintro e w' ⟨rfl,rfl⟩;rw [hh'])
    refine ⟨fun _ h=>(by cases h),?_⟩
    gi_wp2
    go_roundw
    case rel=>exact ⟨k+1,by omega,by go_num,by rw [Hs.out];exact hJs,hnx⟩
    case measure=>simp [intOf];omega
  ·obtain rfl:k=8:=by omega
   gi_wp2
   go_end0
   exact ⟨⟨_,rfl⟩,.inl ⟨_,rfl,hJs⟩⟩
theorem each_in (n:Nat) (s:Int) (w:World) :
  CallsIn Fence.wide n Tryz.prog 104 #[.int .i64 s] w fun e w'=>e=.returned (.func (.func 127) #[] #[.pointer (some ⟨w.heap.size,0,none⟩)])∧w'=w.alloc (.cells #[.int .i64 s] 3):=by
 refine callsIn_of_wp Tryz.func104 rfl trivial ?_ rfl
 simp only [Tryz.ntmps104,List.size_toArray,List.length_cons,List.length_nil,Nat.reduceAdd,Nat.reduceSub,Array.replicate_succ,Array.replicate_zero,List.push_toArray,List.append_toArray,List.nil_append,List.cons_append]
 gi_wp2
 go_ret
 exact ⟨rfl,rfl⟩
abbrev Mem (s:Int):={ x:Int // x ∈ SetM.list s }
theorem each_mem (n:Nat) (hn:1≤n) (Bs:Nat) (s:Int) (w:World) (hBs:Bs < w.heap.size) (hc:w.cell? ⟨Bs,0,none⟩=some (.int .i64 s)) :
  SeqStopsK Fence.wide n Tryz.prog 127 #[.pointer (some ⟨Bs,0,none⟩)] (fun x:Mem s=>#[Value.int .i64 x.1]) (Kept Bs) (fun ys=>ys.map Subtype.val=SetM.list s) (fun pre=>pre.map Subtype.val <+: SetM.list s) (SetM.list s).length w:=fun l J Jx W hW _ _ hY h0=>by
 refine (each1_in n hn l Bs s (fun pre W=>∃ m:List (Mem s),m.map Subtype.val=pre∧J m W) (fun pre W=>∃ m:List (Mem s),m.map Subtype.val=pre∧Jx m W) ?_ W ((hW.cell (p:=⟨Bs,0,none⟩) hBs).trans hc) ⟨[],rfl,h0⟩).mono ?_
 ·rintro pre x W1 ⟨m,rfl,hJ⟩ hp
  have hx:x ∈ SetM.list s:=hp.subset (by simp)
  have hl:m.length < (SetM.list s).length:=by have:=hp.length_le;simp at this;omega
  obtain ⟨fn,tmps,assign,body,hy,hR⟩:=hY m ⟨x,hx⟩ W1 hJ hl
  refine ⟨fn,tmps,assign,body,hy,hR.mono ?_⟩
  rintro e W' (⟨h1,h2,h3⟩ | ⟨h1,h2⟩)
  ·exact .inl ⟨h1,⟨_,by simp,h2⟩,h3⟩
  ·exact .inr ⟨h1,⟨_,by simp,h2⟩⟩
 ·rintro e W' ⟨hv,h⟩
  refine ⟨hv,?_⟩
  rcases h with ⟨ys,rfl,m,hm,hJ⟩ | ⟨pre,hp,m,rfl,hJ⟩
  ·exact .inl ⟨m,hm,hJ⟩
  ·exact .inr ⟨m,hp,hJ⟩
end Each
namespace Search
open Go.RowKit Go.Shelf
open Each
def post (R:Nat) (o:Int→Obj) (bad:Int→Bool) (x:Int) (W:World):Exit→Act→World→Prop
 | .normal,_,W'=>bad x=false∧Below W.heap.size W W'
 | .ret,_,W'=>bad x=true∧W.grownBy W' (some R)∧W'.heap[R]?=some (o x)
 | _,_,_=>False
theorem keeps_below {B:Nat} {W W':World} (h:Below W.heap.size W W'):KeepsFrom B W W':=⟨h.size,fun k o _ hk _=>(h.block k (Array.getElem?_eq_some_iff.1 hk).1).trans hk⟩
theorem grown_of_below {W W':World} {row:Option Nat} (h:Below W.heap.size W W'):W.grownBy W' row:=⟨h.os,h.tape,h.output,h.size,fun j hj _=>h.block j hj⟩
theorem grown_trans {A B C:World} {R:Nat} (h:A.grownBy B (some R)) (k:B.grownBy C (some R)):A.grownBy C (some R) :=
 ⟨k.os.trans h.os,k.tape.trans h.tape,k.output.trans h.output,Nat.le_trans h.size k.size,fun j hj hne=>(k.block j (Nat.lt_of_lt_of_le hj h.size) hne).trans (h.block j hj hne)⟩
theorem grown_from {A B C:World} {R:Nat} {row:Option Nat} (h:A.grownBy B (some R)) (k:B.grownBy C row) (hr:∀ r,row=some r→A.heap.size≤r):A.grownBy C (some R) :=
 ⟨k.os.trans h.os,k.tape.trans h.tape,k.output.trans h.output,Nat.le_trans h.size k.size,fun j hj hne=>(k.block j (Nat.lt_of_lt_of_le hj h.size) (fun e=>by have:=hr j e.symm;omega)).trans (h.block j hj hne)⟩
theorem find_pre {f:Int→Bool} {l p:List Int} {x:Int} (hp:p++[x] <+: l) (hn:∀ y ∈ p,f y=false) (hx:f x=true):l.find? f=some x:=by
 obtain ⟨t,rfl⟩:=hp
 rw [List.append_assoc,List.find?_append,List.find?_eq_none.2 (fun y hy=>by simp [hn y hy])]
 simp [hx]
theorem search {n:Nat} {g:Operand} {ps:Array Tmp} {assign body:Code} {Q:Exit→Act→World→Prop} {a:Act} {W0:World} (bad:Int→Bool) (o:Int→Obj) (Bs R:Nat) (s:Int)
  (hn:3≤n) (hg:a.eval g=.func (.func 127) #[] #[.pointer (some ⟨Bs,0,none⟩)]) (hps:ps.size=1) (hBs:Bs < W0.heap.size) (hR:R < W0.heap.size) (hc:W0.cell? ⟨Bs,0,none⟩=some (.int .i64 s)) (a₁:Int→Act)
  (hassign:∀ (l:Nat) (x:Int) (W:World) (K:Act→World→Prop),K (a₁ x) W→assign.wpIn (Fence.wide.inRound l) (n - 1 - 1) Tryz.prog (Exit.then K (fun _ _ _=>False)) { tmps:=(ps.zip #[Value.int .i64 x]).foldl (fun t (p,v)=>t.setIfInBounds p v) a.tmps,defers:=[] } W)
  (hbody:∀ (l:Nat) (x:Int) (W:World),x ∈ SetM.list s→Below W0.heap.size W0 W→body.wpIn (Fence.wide.inRound l) (n - 1 - 1) Tryz.prog (post R o bad x W) (a₁ x) W)
  (hdone:∀ (D:Nat) (W:World),W0.heap.size≤D→(∀ x ∈ SetM.list s,bad x=false)→Below W0.heap.size W0 W→W.heap[D]?=some (.deferred (some []))→Q .normal { a with defers:={ target:=.collected D,args:=#[] } :: a.defers } W)
  (hstop:∀ (D:Nat) (x:Int) (W:World),W0.heap.size≤D→(SetM.list s).find? bad=some x→bad x=true→W0.grownBy W (some R)→W.heap[R]?=some (o x)→W.heap[D]?=some (.deferred (some []))→Code.ret.wpIn Fence.wide n Tryz.prog Q { a with defers:={ target:=.collected D,args:=#[] } :: a.defers } W) :
  (Code.rangeFunc g ps assign body).wpIn Fence.wide n Tryz.prog Q a W0:=by
 refine wpIn_rangeFunc_ownG rfl (by omega) (gf:=127) (lb:=#[.pointer (some ⟨Bs,0,none⟩)]) hg trivial (enters_of Tryz.func127 (by kernel_rfl) rfl)
  (each_mem _ (by omega) Bs s W0 hBs hc) Kept.trans (kept_b hBs) (Below.refl _ _) (fun _=>hps.symm)
  (fun pre W=>(∀ y ∈ pre,bad y.1=false)∧Below W0.heap.size W0 W)
  (fun c pre W=>(c=.ret∧∃ p0 x,pre=p0++[x]∧(∀ y ∈ p0,bad y.1=false)∧bad x.1=true∧W.heap[R]?=some (o x.1))∧W0.grownBy W (some R))
  (OwnFrom.and (ownFrom_pure _ _) (ownFrom_below (Nat.le_refl _) (Nat.le_refl _)))
  ?own ⟨by simp,Below.refl _ _⟩ (fun x=>a₁ x.1) (fun l x W K h=>hassign l x.1 W K h) ?body ?done ?stop
 case own =>
  rintro c pre W W' row ⟨⟨h1,p0,x,h2,h3,h4,h5⟩,hg⟩ hgr hr
  have hlt:R < W.heap.size:=(Array.getElem?_eq_some_iff.1 h5).1
  exact ⟨⟨h1,p0,x,h2,h3,h4,(hgr.block R hlt (fun e=>by have:=(hr R e.symm).1;omega)).trans h5⟩,grown_from hg hgr (fun r e=>(hr r e).1)⟩
 case body =>
  rintro l pre x W ⟨hp,hB⟩ _
  refine wpIn_mono (hbody l x.1 W x.2 hB) ?_
  intro e a' W' h
  cases e with
  | normal =>
   obtain ⟨h1,h2⟩:=h
   refine ⟨keeps_below h2,Kept.below h2 (by have:=hB.size;omega),?_,hB.trans (h2.mono hB.size)⟩
   intro y hy
   rcases List.mem_append.1 hy with hy | hy
   ·exact hp y hy
   ·obtain rfl:y=x:=by simpa using hy
    exact h1
  | ret =>
   obtain ⟨h1,h2,h3⟩:=h
   exact ⟨KeepsFrom.of_grownBy h2 (fun j e=>by cases e;exact hR),⟨rfl,pre,x,rfl,hp,h1,h3⟩,grown_trans (grown_of_below (hB.mono (Nat.le_refl _))) h2⟩
  | _=>exact h.elim
 case done =>
  rintro D xs W hD hS ⟨hp,hB⟩ hK
  refine hdone D W hD ?_ hB hK
  rw [← hS]
  intro x hx
  obtain ⟨y,hy,rfl⟩:=List.mem_map.1 hx
  exact hp y hy
 case stop =>
  rintro D c pre W hD hS ⟨⟨rfl,p0,x,rfl,h3,h4,h5⟩,hg⟩ hK
  refine hstop D x.1 W hD (find_pre (p:=p0.map Subtype.val) (by simpa using hS) ?_ h4) h4 hg h5 hK
  intro y hy
  obtain ⟨z,hz,rfl⟩:=List.mem_map.1 hy
  exact h3 z hz
end Search
namespace PlanC
open Zip
open Go.ChangeShapes Go.WideShapes Go.ChangeAt Go.RowKit
open Tab PlaceM PlanM
open May (ret_bool chain infoP infoG St phases_in)
open SetP (of_any has_any)
open Same (below_setRow)
theorem ret_int {k:IntKind} {a b:Int} (h:a=b):Ending.returned (.int k a)=.returned (.int k b):=by rw [h]
theorem infoZ:(Tryz.prog.info? 41).map (fun i=>(i.zero,i.size))=some (some (.agg #[.slice none 0 0,.slice none 0 0]),2):=by kernel_rfl
theorem infoT:(Tryz.prog.info? 32).map (·.size)=some 131:=by kernel_rfl
theorem info2:(Tryz.prog.info? 41).map (·.size)=some 2:=by kernel_rfl
theorem idx0 (v0 v1:Value) (w:World):Sem.run Tryz.prog (Instr.index 41 (.agg #[v0,v1]) (.int .i64 0)) w=.ok v0 w:=by kernel_rfl
theorem idx1 (v0 v1:Value) (w:World):Sem.run Tryz.prog (Instr.index 41 (.agg #[v0,v1]) (.int .i64 1)) w=.ok v1 w:=by kernel_rfl
theorem row_of_int {w:World} {a:Option Addr} {cap:Nat} {L:List Int} (h:IntRow w ⟨a,cap⟩ L):RefS.Row w a L:=by
 have hl:=h.len
 refine ⟨by omega,?_⟩
 by_cases h0:L=[]
 ·exact .inl h0
 ·have hp:0 < L.length:=List.length_pos_iff.2 h0
  obtain ⟨x,hx,_⟩:=IntRow.at h (List.getElem?_eq_getElem hp)
  refine .inr ⟨x,hx,fun i hi=>?_⟩
  obtain ⟨y,hy,hc⟩:=IntRow.at h (List.getElem?_eq_getElem hi)
  obtain rfl:x=y:=Option.some.inj (hx.symm.trans hy)
  rw [hc,List.getD_eq_getElem?_getD,List.getElem?_eq_getElem hi]
  rfl
theorem hasGroup_any (T:Tab) (h:Hd) (g:Int) (w:World) (ht:IsTab w h T) :
  Calls Tryz.prog 147 #[.agg (T.cells h).toArray,.int .i64 g] w fun e w'=>e=.returned (.bool (decide (0≤g∧g < T.groups.length)))∧Below w.heap.size w w':=by
 have C:=hJJ (cells_ok ht)
 generalize (T.cells h).toArray=cs at C ⊢
 have hsz:=C.out.size
 have S0:=hJJ (St.box (cs:=cs) ht)
 clear ht
 have q104:=S0.out.cell C.out.g
 generalize hr:decide (0≤g∧g < T.groups.length)=r
 have HR:=hJJ hr
 clear hr
 generalize T.groups.length=n at *
 have Q104:=hJJ q104
 clear q104
 go_enter Tryz.func147,Tryz.ntmps147
 go_upto_region 1 with fail
 generalize w.alloc (.cells cs 32)=w1 at S0 Q104 ⊢
 clear hsz
 have q104:=Q104.out
 by_cases h0:0≤g
 ·by_cases h1:g < n
  ·go_wp2
   go_ret
   exact ⟨ret_bool (by rw [← HR.out];simp [h0,h1]),S0.out.bel⟩
  ·go_wp2
   go_ret
   exact ⟨ret_bool (by rw [← HR.out];simp [h0,h1]),S0.out.bel⟩
 ·go_wp2
  go_ret
  exact ⟨ret_bool (by rw [← HR.out];symm;rw [decide_eq_false_iff_not];omega),S0.out.bel⟩
def Pair (w:World) (y:List Int × List Int) (s0 s1:Sl):Prop:=IntRow w s0 y.1∧IntRow w s1 y.2
theorem rowsOf_any (T:Tab) (h:Hd) (g:Int) (w:World) (ht:IsTab w h T) :
  Calls Tryz.prog 140 #[.agg (T.cells h).toArray,.int .i64 g] w fun e w'=>∃ s0 s1:Sl,e=.returned (.agg #[s0.val (rowsAt T g).1.length,s1.val (rowsAt T g).2.length])∧Pair w' (rowsAt T g) s0 s1∧Below w.heap.size w w':=by
 have hsz:=(cells_ok ht).size
 have C:=hJJ (cells_ok ht)
 have IA:Hid ((Tryz.prog.info? 32).map (·.size)=some (T.cells h).length):=hJJ (by rw [List.size_toArray] at hsz;rw [hsz];exact infoT)
 have HG:Hid (∀ W,Below w.heap.size w W→Calls Tryz.prog 147 #[.agg (T.cells h).toArray,.int .i64 g] W fun e w'=>e=.returned (.bool (decide (0≤g∧g < T.groups.length)))∧Below W.heap.size W w'):=hJJ (fun W hb=>hasGroup_any T h g W (ht.below hb))
 obtain ⟨gs,hgd,hgr⟩:=ht.groups
 have Hgr:=hJJ hgr
 have Hgd:=hJJ hgd
 have Hgl:=hJJ (show T.groups.length=gs.length by rw [← hgd,List.length_map])
 have Kg:=hgr.1.len
 unfold maxLen at Kg
 have A0:Hid (Below w.heap.size w ((w.alloc (.cells (T.cells h).toArray 32)).alloc (.cells #[.slice none 0 0,.slice none 0 0] 41))):=hJJ (((Below.refl _ _).alloc (Nat.le_refl _) _).alloc (by simp) _)
 have A1:Hid (((w.alloc (.cells (T.cells h).toArray 32)).alloc (.cells #[.slice none 0 0,.slice none 0 0] 41)).heap[w.heap.size]?=some (.cells (T.cells h).toArray 32 (0,0))):=hJJ (heap_alloc2_old w _ _)
 have A2:Hid (((w.alloc (.cells (T.cells h).toArray 32)).alloc (.cells #[.slice none 0 0,.slice none 0 0] 41)).heap[w.heap.size+1]?=some (.cells #[.slice none 0 0,.slice none 0 0] 41 (0,0))):=hJJ (heap_alloc2_new w _ _)
 have hz:=(zero_of_info infoZ).1
 clear ht hgr hgd
 generalize T.cells h=c at *
 go_enter Tryz.func140,Tryz.ntmps140
 go_upto_region 1 with fail
 generalize ((w.alloc (.cells c.toArray 32)).alloc (.cells #[.slice none 0 0,.slice none 0 0] 41))=u at A0 A1 A2 ⊢
 clear hsz hz
 have LT:Hid (Lies u ⟨w.heap.size,0,none⟩ c):=hJJ (by have:=Row.lies_of_block A1.out;simpa using this)
 go_wp2_with (refine lgZ 32 ⟨w.heap.size,0,none⟩ c rfl LT.out Tryz.underlying32 IA.out ?_)
 refine (HG.out _ A0.out).mono ?_
 rintro e u1 ⟨rfl,hb⟩
 have B0:Hid (Below w.heap.size w u1):=hJJ (A0.out.trans (hb.mono A0.out.size))
 have B1:Hid (u1.heap[w.heap.size]?=some (.cells c.toArray 32 (0,0))):=hJJ ((hb.block _ (Array.getElem?_eq_some_iff.1 A1.out).1).trans A1.out)
 have B2:Hid (u1.heap[w.heap.size+1]?=some (.cells #[.slice none 0 0,.slice none 0 0] 41 (0,0))):=hJJ ((hb.block _ (Array.getElem?_eq_some_iff.1 A2.out).1).trans A2.out)
 clear hb A0 A1 A2 LT HG
 by_cases hg:0≤g∧g < T.groups.length
 ·rw [decide_eq_true hg]
  obtain ⟨g0,g1⟩:=hg
  obtain ⟨q,rfl⟩:=Int.eq_ofNat_of_zero_le g0
  have hlt:q < gs.length:=by have:=Hgl.out;omega
  have hv:=List.getElem?_eq_getElem hlt
  generalize gs[q]=v at hv
  have HR:Hid (rowsAt T q=v.data):=hJJ (rows_in (by rw [← Hgd.out,List.getElem?_map,hv];rfl))
  obtain ⟨x,hx,hc⟩:=(Hgr.out.1.below B0.out).at hv
  have hok:=(Hgr.out.2 v (List.mem_of_getElem? hv)).below B0.out
  have q104:u1.cell? ⟨w.heap.size,104,none⟩=some (.slice (some x) gs.length h.g.cap):=by
   rw [cell_of_row _ _ _ _ _ _ B1.out,C.out.g,Hgl.out];simp only [Sl.val,hx]
  have HC:=hJJ hc
  have HM:=hJJ (List.mem_of_getElem? hv)
  have HW:=hJJ (below_setRow B0.out (g:=w.heap.size+1) (by omega) v.cells.toArray)
  have HK:=hJJ (setRow_heap u1 (w.heap.size+1) _ v.cells.toArray _ _ B2.out)
  have V1:Hid (v.cells.toArray.all (·.oneCell')=true):=hJJ (Gr.one v)
  clear hv hc hok hx g1
  go_wp2_with (first | (refine Row.wpList_load_g 41 _ rfl (by first | rfl | go_simp) (x.add (q*2)) rfl v.cells _ HC.out Tryz.underlying41 rfl info2 ?_) | (refine wpList_store_row rfl 41 _ _ rfl (w.heap.size+1) v.cells.toArray rfl rfl 41 _ B2.out info2 rfl V1.out ?_))
  have HO2:Hid (v.ok (u1.setRow (w.heap.size+1) v.cells.toArray)):=hJJ ((Hgr.out.2 v HM.out).below HW.out)
  generalize u1.setRow (w.heap.size+1) v.cells.toArray=u2 at HW HK HO2 ⊢
  go_wp2_with fail
  (try simp only [Exit.inBlock,Exit.then])
  refine bodyPost_ret (v:=.agg v.cells.toArray) ?_ rfl ⟨v.s0,v.s1,by rw [HR.out];rfl,by rw [HR.out];exact HO2.out,HW.out⟩
  exact results_cell_row rfl _ _ (w.heap.size+1) 41 _ (0,0) _ rfl HK.out Tryz.underlying41 rfl info2
 ·rw [decide_eq_false hg]
  have HR:Hid (rowsAt T g=([],[])):=hJJ (rows_out hg)
  have HW:=hJJ (below_setRow B0.out (g:=w.heap.size+1) (by omega) #[.slice none 0 0,.slice none 0 0])
  have HK:=hJJ (setRow_heap u1 (w.heap.size+1) _ #[.slice none 0 0,.slice none 0 0] _ _ B2.out)
  clear hg
  go_wp2_with (first | (refine wpList_store_row rfl 41 _ _ rfl (w.heap.size+1) #[.slice none 0 0,.slice none 0 0] rfl rfl 41 _ B2.out info2 rfl (by simp [Value.oneCell']) ?_))
  generalize u1.setRow (w.heap.size+1) #[.slice none 0 0,.slice none 0 0]=u2 at HW HK ⊢
  go_wp2_with fail
  (try simp only [Exit.inBlock,Exit.then])
  refine bodyPost_ret (v:=.agg #[.slice none 0 0,.slice none 0 0]) ?_ rfl ⟨⟨none,0⟩,⟨none,0⟩,by rw [HR.out];rfl,by rw [HR.out];exact ⟨RowOf.nil _,RowOf.nil _⟩,HW.out⟩
  exact results_cell_row rfl _ _ (w.heap.size+1) 41 _ (0,0) _ rfl HK.out Tryz.underlying41 rfl info2
theorem of_len (a:Option Addr) (cap:Nat) (l:List Int) (w:World) (h:IntRow w ⟨a,cap⟩ l):Calls Tryz.prog 100 #[.slice a l.length cap] w fun e w'=>e=.returned (.int .i64 (SetM.of l:Nat))∧w=w':=of_any a cap l w (row_of_int h)
theorem or0 (m:Nat) (h:m < 256):bits .or .i64 0 (m:Int)=(m:Int):=by
 have:=RefS.or_small 0 m (by decide) h
 simpa using this
theorem members_any (T:Tab) (h:Hd) (g:Int) (w:World) (ht:IsTab w h T) :
  Calls Tryz.prog 111 #[.agg (T.cells h).toArray,.int .i64 g] w fun e w'=>e=.returned (.int .i64 (membS T g:Nat))∧Below w.heap.size w w':=by
 have hsz:=(cells_ok ht).size
 have C:=hJJ (cells_ok ht)
 have IA:Hid ((Tryz.prog.info? 32).map (·.size)=some (T.cells h).length):=hJJ (by rw [List.size_toArray] at hsz;rw [hsz];exact infoT)
 have RO:Hid (∀ W,Below w.heap.size w W→Calls Tryz.prog 140 #[.agg (T.cells h).toArray,.int .i64 g] W fun e w'=>∃ s0 s1:Sl,e=.returned (.agg #[s0.val (rowsAt T g).1.length,s1.val (rowsAt T g).2.length])∧Pair w' (rowsAt T g) s0 s1∧Below W.heap.size W w'):=hJJ (fun W hb=>rowsOf_any T h g W (ht.below hb))
 have A0:Hid (Below w.heap.size w (w.alloc (.cells (T.cells h).toArray 32))):=hJJ ((Below.refl _ _).alloc (Nat.le_refl _) _)
 have A1:Hid (Lies (w.alloc (.cells (T.cells h).toArray 32)) ⟨w.heap.size,0,none⟩ (T.cells h)):=hJJ (Row.lies_new w _ _)
 have MS:Hid (membS T g=SetM.of (rowsAt T g).1 ||| SetM.of (rowsAt T g).2):=hJJ rfl
 generalize membS T g=m at MS ⊢
 generalize rowsAt T g=y at MS RO
 obtain ⟨l0,l1⟩:=y
 clear ht
 generalize T.cells h=c at *
 go_enter Tryz.func111,Tryz.ntmps111
 go_upto_region 1 with fail
 generalize w.alloc (.cells c.toArray 32)=u at A0 A1 ⊢
 clear hsz
 go_wp2_with (refine lgZ 32 ⟨w.heap.size,0,none⟩ c rfl A1.out Tryz.underlying32 IA.out ?_)
 refine (RO.out _ A0.out).mono ?_
 rintro e u1 ⟨⟨a0,cap0⟩,⟨a1,cap1⟩,rfl,hpair,hb⟩
 have B0:Hid (Below w.heap.size w u1):=hJJ (A0.out.trans (hb.mono A0.out.size))
 have HP:=hJJ hpair
 clear hb A0 A1 RO hpair IA
 rw [show (Value.agg #[Sl.val ⟨a0,cap0⟩ (l0,l1).fst.length,Sl.val ⟨a1,cap1⟩ (l0,l1).snd.length])=.agg #[.slice a0 l0.length cap0,.slice a1 l1.length cap1] from rfl]
 have i0:=idx0 (.slice a0 l0.length cap0) (.slice a1 l1.length cap1)
 have i1:=idx1 (.slice a0 l0.length cap0) (.slice a1 l1.length cap1)
 have I0:=hJJ i0
 have I1:=hJJ i1
 clear i0 i1
 go_wp2_with fail
 go_loopw [5,11] (fun t i wr=>∃ r:Nat,r≤2∧i=.int .i64 r∧t=.int .i64 ((if r=0 then 0 else if r=1 then SetM.of l0 else m:Nat):Int)∧wr=u1) (fun _ i _=>2 - (intOf i).toNat)
 case atStart=>exact ⟨0,by omega,rfl,rfl,rfl⟩
 case round =>
  obtain ⟨r,hr,rfl,rfl,rfl⟩:=hrel
  have hr2:r=0∨r=1∨r=2:=by omega
  rcases hr2 with rfl | rfl | rfl
  ·rw [show ((0:Nat):Int)=(0:Int) from rfl]
   have i0:=I0.out
   have HS:=hJJ (or0 (SetM.of l0) (SetM.of_lt l0))
   simp only [if_true]
   go_wp2_with fail
   refine (of_len a0 cap0 l0 _ HP.out.1).mono ?_
   rintro e w' ⟨rfl,rfl⟩
   generalize hs:SetM.of l0=s at HS MS ⊢
   have HQ:=hJJ hs
   clear hs
   go_wp2
   go_roundw
   case rel=>exact ⟨1,by omega,by go_num,by rw [HS.out,← HQ.out];rfl,trivial⟩
   case measure=>simp [intOf]
  ·rw [show ((1:Nat):Int)=(1:Int) from rfl]
   have i1:=I1.out
   have HS:Hid (bits .or .i64 (SetM.of l0:Nat) (SetM.of l1:Nat)=(m:Nat)):=hJJ (by rw [RefS.or_small _ _ (SetM.of_lt _) (SetM.of_lt _),MS.out])
   simp only [Nat.one_ne_zero,if_false,if_true]
   go_wp2_with fail
   refine (of_len a1 cap1 l1 _ HP.out.2).mono ?_
   rintro e w' ⟨rfl,rfl⟩
   generalize SetM.of l0=s at HS MS ⊢
   generalize SetM.of l1=s' at HS MS ⊢
   go_wp2
   go_roundw
   case rel=>exact ⟨2,by omega,by go_num,by rw [HS.out];rfl,trivial⟩
   case measure=>simp [intOf]
  ·rw [show ((2:Nat):Int)=(2:Int) from rfl]
   simp only [show ¬ (2=0) by decide,show ¬ (2=1) by decide,if_false]
   go_wp2
   go_ret
   exact ⟨rfl,B0.out⟩
theorem infoPs:(Tryz.prog.info? 25).map (·.size)=some 104:=by kernel_rfl
theorem cellsP:Tryz.prog.cellsOf 24=13:=by kernel_rfl
theorem rowP:Flat.rowT Tryz.prog 24=true:=by kernel_rfl
theorem infoPz:∃ i,Tryz.prog.info? 24=some i∧i.size=13:=by
 have:=infoP
 cases h:Tryz.prog.info? 24 with
 | none=>rw [h] at this;simp at this
 | some i=>rw [h] at this;exact ⟨i,rfl,by simpa using this⟩
theorem flat_take:∀ {l:List Ph} {q:Nat} {u:Ph},l[q]?=some u→((l.flatMap Ph.cells).drop (q*13)).take 13=u.cells
 | [],q,u,h=>by simp at h
 | p :: l,0,u,h=>by
  obtain rfl:p=u:=by simpa using h
  rw [Nat.zero_mul,List.drop_zero,List.flatMap_cons]
  exact List.take_left' rfl
 | p :: l,q+1,u,h=>by
  rw [List.flatMap_cons,Nat.add_mul,Nat.one_mul,Nat.add_comm,List.drop_append,List.drop_of_length_le (by simp [Ph.cells]),List.nil_append,show 13+q*13 - p.cells.length=q*13 by simp [Ph.cells]]
  exact flat_take (by simpa using h)
theorem idx_phase {l:List Ph} {q:Nat} {u:Ph} (hl:l.length=8) (hu:l[q]?=some u) (w:World) :
  Sem.run Tryz.prog (Instr.index 25 (.agg (l.flatMap Ph.cells).toArray) (.int .i64 q)) w=.ok (.agg u.cells.toArray) w:=by
 have hq:q < l.length:=(List.getElem?_eq_some_iff.1 hu).1
 obtain ⟨i,hi,hs⟩:=infoPz
 have hp:=Flat.run_part (P:=Tryz.prog) w (t:=24) (d:=_) Tryz.underlying24 (by rw [rowP];simp) (l.flatMap Ph.cells) (q*13) (by rw [cellsP,phases_len];omega)
 rw [cellsP,Flat.vOf,if_pos rowP,flat_take hu] at hp
 unfold Instr.index
 have hc:0≤(q:Int)∧(q:Int) < 8:=by omega
 simp [run_underlying Tryz.underlying25,asIntOf]
 rw [if_pos (by omega)]
 first | exact hp | (rw [cellsP];exact hp)
theorem lies_take {w:World} {b:Nat} {cs:Array Value} {t:TypeId} {fr:Nat × Nat} (hb:w.heap[b]?=some (.cells cs t fr)) (n:Nat) (l:List Value) (h:cs.toList.take n=l):Lies w ⟨b,0,none⟩ l:=by
 intro j v hv
 rw [Addr.add_mid,Nat.zero_add,cell_of_row _ _ _ _ _ _ hb]
 subst h
 rw [List.getElem?_take] at hv
 split at hv
 ·rwa [Array.getElem?_toList] at hv
 ·cases hv
end PlanC
namespace PlanO
open Zip
open Go.ChangeShapes Go.WideShapes Go.ChangeAt Go.RowKit
open Tab PlaceM PlanM OnS PlanC
open May (infoP St)
open SetP (with_any)
theorem on_with {l:List Ph} {q:Nat} {p:Ph} (h:l[q]?=some p) (hp:p.on=true):SetM.withN (SetM.of (onTo 0 (l.take q)):Nat) q=SetM.of (onTo 0 (l.take (q+1))):=by
 rw [on_step h,hp,if_pos rfl,SetM.with_of]
theorem on_skip {l:List Ph} {q:Nat} {p:Ph} (h:l[q]?=some p) (hp:p.on=false):SetM.of (onTo 0 (l.take (q+1)))=SetM.of (onTo 0 (l.take q)):=by
 rw [on_step h,hp];simp
theorem pon_any (T:Tab) (h:Hd) (w:World) (ht:IsTab w h T) :
  Calls Tryz.prog 96 #[.agg (T.cells h).toArray] w fun e w'=>e=.returned (.int .i64 (onS T:Nat))∧Below w.heap.size w w':=by
 have C:=hJJ (cells_ok ht)
 generalize (T.cells h).toArray=cs at C ⊢
 have hsz:=C.out.size
 have L8:=hJJ ht.ph
 have S0:=hJJ (St.box (cs:=cs) ht)
 have RS:Hid ((onS T:Nat)=SetM.of (onTo 0 T.phases)):=hJJ rfl
 have IX:Hid (∀ (q:Nat) u,T.phases[q]?=some u→∀ W,Sem.run Tryz.prog (Instr.index 25 (.agg (T.phases.flatMap Ph.cells).toArray) (.int .i64 q)) W=.ok (.agg u.cells.toArray) W):=hJJ (fun q u hu W=>idx_phase L8.out hu W)
 have LI:Hid ((Tryz.prog.info? 25).map (·.size)=some (T.phases.flatMap Ph.cells).length):=hJJ (by rw [phases_len,L8.out];exact infoPs)
 generalize onS T=r at RS ⊢
 clear ht
 go_enter Tryz.func96,Tryz.ntmps96
 go_upto_region 1 with fail
 generalize w.alloc (.cells cs 32)=w1 at S0 ⊢
 clear hsz
 have LT:Hid (Lies w1 ⟨w.heap.size,0,none⟩ (T.phases.flatMap Ph.cells)):=hJJ (lies_take S0.out.blk 104 _ C.out.phases)
 generalize T.phases.flatMap Ph.cells=fl at IX LI LT
 go_wp2_with (refine lgZ 25 ⟨w.heap.size,0,none⟩ fl rfl LT.out Tryz.underlying25 LI.out ?_)
 go_loopw [3,8] (fun v g wr=>∃ q:Nat,q≤8∧g=.int .i64 q∧v=.int .i64 (SetM.of (onTo 0 (T.phases.take q)):Nat)∧Below w1.heap.size w1 wr) (fun _ g _=>8 - (intOf g).toNat)
 case atStart=>exact ⟨0,by omega,rfl,rfl,Below.refl _ _⟩
 case round =>
  obtain ⟨q,hq,rfl,rfl,hbel⟩:=hrel
  have HB:=hJJ hbel
  clear hbel
  by_cases hlt:q < 8
  ·have hv:T.phases[q]?=some (T.phases[q]'(by rw [L8.out];exact hlt)):=List.getElem?_eq_getElem _
   generalize T.phases[q]'(by rw [L8.out];exact hlt)=u at hv
   have HV:=hJJ hv
   have hidx:=IX.out q u hv
   clear hv
   have hsz:=HB.out.size
   go_upto_region 5 with (refine Row.wpList_store_new rfl 24 _ _ rfl wr _ u.cells.toArray rfl rfl rfl infoP rfl (Ph.one _) ?_)
   clear hidx
   have hbn:Below w1.heap.size w1 (wr.alloc (.cells u.cells.toArray 24)):=HB.out.alloc hsz _
   have hg:=Row.lies_of_block (heap_alloc_new wr (.cells u.cells.toArray 24))
   have HL:=hJJ hg
   have HN:=hJJ hbn
   clear hg hbn HB
   generalize wr.alloc (.cells u.cells.toArray 24)=w4 at HL HN ⊢
   generalize wr.heap.size=b4 at HL ⊢
   have c0:w4.cell? ⟨b4,0,none⟩=some (.bool u.on):=by
    have:=HL.out 0 _ rfl
    rwa [Tab.add_zero] at this
   cases hon:u.on with
   | true =>
    rw [hon] at c0
    have HS:=hJJ (on_with HV.out hon)
    clear hon
    generalize SetM.of (onTo 0 (T.phases.take q))=s0 at HS ⊢
    go_wp2_with (go_at_call 124;refine (with_any _ _ _).mono ?_;rintro e w' ⟨rfl,rfl⟩)
    go_roundw
    case rel=>exact ⟨q+1,by omega,by go_num,by rw [← HS.out],HN.out⟩
    case measure=>simp [intOf];omega
   | false =>
    rw [hon] at c0
    have HS:=hJJ (on_skip HV.out hon)
    clear hon
    generalize SetM.of (onTo 0 (T.phases.take q))=s0 at HS ⊢
    go_wp2
    go_roundw
    case rel=>exact ⟨q+1,by omega,by go_num,by rw [← HS.out],HN.out⟩
    case measure=>simp [intOf];omega
  ·have HE:Hid (SetM.of (onTo 0 (T.phases.take q))=r):=hJJ (by rw [RS.out,List.take_of_length_le (by rw [L8.out];omega)])
   have HF:Hid (Below w.heap.size w wr):=hJJ (S0.out.bel.trans (HB.out.mono S0.out.bel.size))
   generalize SetM.of (onTo 0 (T.phases.take q))=s0 at HE ⊢
   go_wp2
   go_ret
   exact ⟨ret_int (by rw [HE.out]),HF.out⟩
end PlanO
namespace ChkI
open Zip
open Go.RowKit Go.Shelf
open Tab PlaceM PlanM OnS ChkM Each Search
attribute [local go_sem] Oper.semAt_some
structure Bxd (T:Tab) (b:Nat) (W:World):Prop where
 cf:∀ p:Int,0≤p→p < 8→W.cell? ⟨b,105+p.toNat,none⟩=some (I (cfAt T p))
 fl:∀ p:Int,0≤p→p < 8→W.cell? ⟨b,121+p.toNat,none⟩=some (I (flAt T p))
theorem bxd_new {T:Tab} {h:Hd} {w:World} (ht:IsTab w h T):Bxd T w.heap.size (w.alloc (.cells (T.cells h).toArray 32)):=by
 have C:=cells_ok ht
 have hb:(w.alloc (.cells (T.cells h).toArray 32)).heap[w.heap.size]?=some (.cells (T.cells h).toArray 32 (0,0)):=heap_alloc_new w _
 constructor
 ·intro p h0 h8
  obtain ⟨k,rfl⟩:=Int.eq_ofNat_of_zero_le h0
  rw [cell_of_row _ _ _ _ _ _ hb]
  have hk:k < 8:=by omega
  have h1:=congrArg (·[k]?) C.conflict
  simp only [List.getElem?_take,List.getElem?_drop,List.getElem?_map] at h1
  rw [if_pos hk,Array.getElem?_toList] at h1
  rw [Int.toNat_natCast,h1,List.getElem?_eq_getElem (by rw [ht.cf];exact hk)]
  simp [cfAt,List.getD_eq_getElem?_getD,List.getElem?_eq_getElem (show k < T.conflict.length by rw [ht.cf];exact hk)]
 ·intro p h0 h8
  obtain ⟨k,rfl⟩:=Int.eq_ofNat_of_zero_le h0
  rw [cell_of_row _ _ _ _ _ _ hb]
  have hk:k < 8:=by omega
  have h1:=congrArg (·[k]?) C.flash
  simp only [List.getElem?_take,List.getElem?_drop,List.getElem?_map] at h1
  rw [if_pos hk,Array.getElem?_toList] at h1
  rw [Int.toNat_natCast,h1,List.getElem?_eq_getElem (by rw [ht.fl];exact hk)]
  simp [flAt,List.getD_eq_getElem?_getD,List.getElem?_eq_getElem (show k < T.flash.length by rw [ht.fl];exact hk)]
theorem Bxd.below {T:Tab} {b:Nat} {W W':World} (h:Bxd T b W) (hb:Below W.heap.size W W'):Bxd T b W' :=
 ⟨fun p h0 h8=>(hb.cell (World.block_lt_of_cell? W _ (h.cf p h0 h8))).trans (h.cf p h0 h8),fun p h0 h8=>(hb.cell (World.block_lt_of_cell? W _ (h.fl p h0 h8))).trans (h.fl p h0 h8)⟩
theorem laid4 (w:World) (o0 o1 o2 o3:Obj):∃ W,((((w.alloc o0).alloc o1).alloc o2).alloc o3)=W∧W.heap.size=w.heap.size+4∧Below w.heap.size w W∧Below (w.heap.size+1) (w.alloc o0) W∧W.heap[w.heap.size+1]?=some o1∧W.heap[w.heap.size+2]?=some o2∧W.heap[w.heap.size+3]?=some o3:=by
 refine ⟨_,rfl,by simp,(((((Below.refl _ w).alloc (Nat.le_refl _) _).alloc (by simp) _).alloc (by simp;omega) _).alloc (by simp;omega) _),?_,?_,?_,?_⟩
 ·have:=(((Below.refl (w.alloc o0).heap.size (w.alloc o0)).alloc (Nat.le_refl _) o1).alloc (by simp) o2).alloc (by simp;try omega) o3
  simpa using this
 ·have h1:=heap_alloc_new (w.alloc o0) o1
  have h2:=Below.heap_alloc ((w.alloc o0).alloc o1) o2 (w.heap.size+1) (by simp)
  have h3:=Below.heap_alloc (((w.alloc o0).alloc o1).alloc o2) o3 (w.heap.size+1) (by simp)
  rw [World.size_alloc] at h1
  exact h3.trans (h2.trans h1)
 ·have h1:=heap_alloc_new ((w.alloc o0).alloc o1) o2
  have h3:=Below.heap_alloc (((w.alloc o0).alloc o1).alloc o2) o3 (w.heap.size+2) (by simp)
  simp only [World.size_alloc] at h1
  exact h3.trans h1
 ·have h1:=heap_alloc_new (((w.alloc o0).alloc o1).alloc o2) o3
  simp only [World.size_alloc] at h1
  exact h1
theorem setRow_grown (W:World) (b:Nat) (cs:Array Value) (h:b < W.heap.size):W.grownBy (W.setRow b cs) (some b) :=
 ⟨rfl,rfl,rfl,by simp [World.setRow],fun j _ hj=>setRow_other _ _ _ _ (fun e=>hj (by rw [e]))⟩
theorem hmx:Tryz.prog.follows .mixedOrders=true:=by kernel_rfl
theorem clash_any (T:Tab) (h:Hd) (s:Int) (w:World) (ht:IsTab w h T) :
  Calls Tryz.prog 116 #[.agg (T.cells h).toArray,.int .i64 s] w fun e w'=>e=.returned (.bool (clashC T s))∧Below w.heap.size w w':=by
 have hsz:=(cells_ok ht).size
 have A0:Hid (Below w.heap.size w (w.alloc (.cells (T.cells h).toArray 32))):=hJJ ((Below.refl _ _).alloc (Nat.le_refl _) _)
 have BX:=hJJ (bxd_new ht)
 have hs1:(w.alloc (.cells (T.cells h).toArray 32)).heap.size=w.heap.size+1:=by simp
 clear ht
 generalize T.cells h=c at *
 refine (callsIn_wide (n:=3)).1 ?_
 refine callsIn_of_wp_marks Tryz.func116 rfl trivial ?_ rfl
 simp only [Tryz.ntmps116,List.size_toArray,List.length_cons,List.length_nil,Nat.reduceAdd,Nat.reduceSub,Array.replicate_succ,Array.replicate_zero,List.push_toArray,List.append_toArray,List.nil_append,List.cons_append]
 gi_wp2_with fail
 refine ⟨trivial,(Each.each_in _ _ _).mono ?_⟩
 rintro e w' ⟨rfl,rfl⟩
 gi_wp2_with fail
 obtain ⟨W0,hW0,E1,E0,EB,bS,bR,bE⟩:=laid4 w (.cells c.toArray 32) (.cells #[.int .i64 s] 3) (.cells #[.bool false] 4) (.cells #[.int .i64 s] 3)
 rw [hW0]
 have BX:=hJJ (BX.out.below (by rw [hs1];exact EB))
 clear hW0 EB hs1 hsz A0
 have bS:Boxed W0 (w.heap.size+1) 3 (.int .i64 s):=bS
 have bR:Boxed W0 (w.heap.size+2) 4 (.bool false):=bR
 have bE:Boxed W0 (w.heap.size+3) 3 (.int .i64 s):=bE
 refine search (fun p=>bits .and .i64 (cfAt T p) s != 0) (fun _=>.cells #[.bool true] 4 (0,0)) (w.heap.size+3) (w.heap.size+2) s (by omega) rfl rfl (by omega) (by omega) bE.cell
  (fun x=>{ tmps:=#[.agg c.toArray,.int .i64 s,.pointer (some ⟨w.heap.size,0,none⟩),.pointer (some ⟨w.heap.size+1,0,none⟩),.pointer (some ⟨w.heap.size+1+1,0,none⟩),.int .i64 x,.int .i64 s,.func (.func 127) #[] #[.pointer (some ⟨w.heap.size+1+1+1,0,none⟩)],.int .i64 x,undef,undef,undef,undef,undef,undef,undef],defers:=[] }) ?assign ?body ?done ?stop
 case assign =>
  intro l x W K hK
  gi_wp2
  exact hK
 case body =>
  intro l x W hx hB
  have hx8:=SetM.list_bd s x hx
  have cc:=(BX.out.below hB).cf x hx8.1 hx8.2
  have cS:=(Boxed.cell (show Boxed W (w.heap.size+1) 3 (.int .i64 s) from (hB.block _ (by omega)).trans bS))
  have hne:Nonempty (Ph.S (Row.Old W)):=⟨⟨0,W,Below.refl _ _⟩⟩
  obtain ⟨k,rfl⟩:=Int.eq_ofNat_of_zero_le hx8.1
  rw [Int.toNat_natCast] at cc
  have CC:∀ p:Ph.S (Row.Old W),p.world.cell? ⟨w.heap.size,105+k,none⟩=some (I (cfAt T k)):=fun p=>(p.is.cell (World.block_lt_of_cell? W _ cc)).trans cc
  have CS:∀ p:Ph.S (Row.Old W),p.world.cell? ⟨w.heap.size+1,0,none⟩=some (.int .i64 s):=fun p=>(p.is.cell (World.block_lt_of_cell? W _ cS)).trans cS
  have hk8:k < 8:=by omega
  gi_wp2
  refine Up.region_ph (Row.Old W) [] (fun ⟨_,_,h⟩=>h) (by kernel_rfl) hmx (by kernel_rfl) (Row.Old.drew _) ?_
  iterate 7
   (refine Pw.calm rfl (fun K hK=>?_)
    go_simp
    refine hK _ ?_
    clear hK K)
  refine Pw.nil ?_
  intro W1 hb1
  have hv:Boxed W1 (w.heap.size+1+1) 4 (.bool false):=(hb1.block _ (by have:=hB.size;omega)).trans ((hB.block _ (by omega)).trans bR)
  have hc:=hv.cell
  have hf:=hv.frozen
  clear CC CS cc cS hne BX hB
  generalize hg:(bits BinOp.and IntKind.i64 (cfAt T k) s != 0)=r
  cases r with
  | true =>
   have HG:=hJJ hg
   clear hg
   gi_wp2
   exact ⟨HG.out,grown_trans (grown_of_below hb1) (grownBy_setCell' _ _ _),hv.set (.bool true)⟩
  | false =>
   have HG:=hJJ hg
   clear hg
   gi_wp2
   exact ⟨HG.out,hb1⟩
 case done =>
  intro D W hD hall hB hK
  have hv:Boxed W (w.heap.size+1+1) 4 (.bool false):=(hB.block _ (by omega)).trans bR
  have hc:=hv.cell
  have hf:=hv.frozen
  have HR:Hid (clashC T s=false):=hJJ (by unfold clashC;rw [List.any_eq_false];intro x hx;simpa using hall x hx)
  have HB:Hid (Below w.heap.size w W):=hJJ (E0.trans (hB.mono (by omega)))
  clear hB hall
  gi_wp2
  have hv2:=hv.set (.bool false)
  have hK':=(KeepsOthers.setCell W ⟨w.heap.size+1+1,0,none⟩ (.bool false)).same D _ hK rfl
  refine ⟨by simp,.inl ⟨_,_,rfl,run_takeDeferred hK',?_⟩⟩
  have hc5:=cell_kept hv2.cell (grownBy_putObj' _ D (.deferred none)) (fun r e=>by cases e;exact ⟨_,hK',rfl⟩)
  refine ⟨.bool false,?_,by rw [HR.out],(HB.out.setCell (p:=⟨w.heap.size+1+1,0,none⟩) (by simp;try omega) _).trans (belowK_b (w:=w) (Nat.le_refl _) _ D _ _ (by omega) hK' rfl rfl)⟩
  simp [results,Tryz.f116,go_sem,hc5]
 case stop =>
  intro D x W hD hf hx hg hR hK
  have HR:Hid (clashC T s=true):=hJJ (by unfold clashC;rw [List.any_eq_true];exact ⟨x,List.mem_of_find?_eq_some hf,hx⟩)
  have hv:Boxed W (w.heap.size+1+1) 4 (.bool true):=hR
  have HB:Hid (Below w.heap.size w W):=hJJ (E0.grown hg (by omega) (fun k e=>by cases e;omega))
  clear hf hx hg
  gi_wp2
  refine ⟨by simp,.inl ⟨_,_,rfl,run_takeDeferred hK,?_⟩⟩
  have hc5:=cell_kept hv.cell (grownBy_putObj' _ D (.deferred none)) (fun r e=>by cases e;exact ⟨_,hK,rfl⟩)
  refine ⟨.bool true,?_,by rw [HR.out],HB.out.trans (belowK_b (w:=w) (Nat.le_refl _) W D _ _ (by omega) hK rfl rfl)⟩
  simp [results,Tryz.f116,go_sem,hc5]
end ChkI
namespace ChkJ
open Zip
open Go.RowKit Go.Shelf
open Tab PlaceM PlanM OnS ChkM Each Search ChkI
open May (infoT)
attribute [local go_sem] Oper.semAt_some
theorem laid3 (w:World) (o0 o1 o2:Obj):∃ W,(((w.alloc o0).alloc o1).alloc o2)=W∧W.heap.size=w.heap.size+3∧Below w.heap.size w W∧Below (w.heap.size+1) (w.alloc o0) W∧W.heap[w.heap.size+1]?=some o1∧W.heap[w.heap.size+2]?=some o2:=by
 refine ⟨_,rfl,by simp,((((Below.refl _ w).alloc (Nat.le_refl _) _).alloc (by simp) _).alloc (by simp;omega) _),?_,?_,?_⟩
 ·have:=(((Below.refl (w.alloc o0).heap.size (w.alloc o0)).alloc (Nat.le_refl _) o1).alloc (by simp) o2)
  simpa using this
 ·have h1:=heap_alloc_new (w.alloc o0) o1
  have h2:=Below.heap_alloc ((w.alloc o0).alloc o1) o2 (w.heap.size+1) (by simp)
  rw [World.size_alloc] at h1
  exact h2.trans h1
 ·have h1:=heap_alloc_new ((w.alloc o0).alloc o1) o2
  simp only [World.size_alloc] at h1
  exact h1
def cbad (T:Tab) (p q:Int):Bool:=(SetM.has (cfAt T p) q != SetM.has (cfAt T q) p) || (SetM.has (cfAt T p) q && beside T p q)
theorem conf_self {T:Tab} {p:Int} (h:SetM.has (cfAt T p) p=true):confBad T p=true:=by unfold confBad;rw [h];rfl
theorem conf_any {T:Tab} {p:Int} (h:SetM.has (cfAt T p) p=false):confBad T p=(ons T).any (cbad T p):=by unfold confBad;rw [h];rfl
theorem badConflict_any (T:Tab) (h:Hd) (k:Nat) (hk:k < 8) (w:World) (ht:IsTab w h T) :
  Calls Tryz.prog 77 #[.agg (T.cells h).toArray,.int .i64 k] w fun e w'=>e=.returned (.bool (confBad T k))∧Below w.heap.size w w':=by
 have hsz:=(cells_ok ht).size
 have IA:Hid ((Tryz.prog.info? 32).map (·.size)=some (T.cells h).length):=hJJ (by rw [List.size_toArray] at hsz;rw [hsz];exact infoT)
 have ON:Hid (∀ W,Below w.heap.size w W→Calls Tryz.prog 96 #[.agg (T.cells h).toArray] W fun e w'=>e=.returned (.int .i64 (onS T:Nat))∧Below W.heap.size W w'):=hJJ (fun W hb=>PlanO.pon_any T h W (ht.below hb))
 have BS:Hid (∀ (p q:Int) W,Below w.heap.size w W→Calls Tryz.prog 112 #[.agg (T.cells h).toArray,.int .i64 p,.int .i64 q] W fun e w'=>e=.returned (.bool (beside T p q))∧Below W.heap.size W w'):=hJJ (fun p q W hb=>PlanW.pbeside_any T h p q W (ht.below hb))
 have BX0:=hJJ (bxd_new ht)
 have LT0:=hJJ (Row.lies_new w (T.cells h).toArray 32)
 have hs1:(w.alloc (.cells (T.cells h).toArray 32)).heap.size=w.heap.size+1:=by simp
 clear ht
 generalize T.cells h=c at *
 refine (callsIn_wide (n:=3)).1 ?_
 refine callsIn_of_wp_marks Tryz.func77 rfl trivial ?_ rfl
 simp only [Tryz.ntmps77,List.size_toArray,List.length_cons,List.length_nil,Nat.reduceAdd,Nat.reduceSub,Array.replicate_succ,Array.replicate_zero,List.push_toArray,List.append_toArray,List.nil_append,List.cons_append]
 refine wpIn_wide.2 ?_
 go_upto_region 1 with fail
 obtain ⟨W1,hW1,E1,E0,EB,bS,bR⟩:=laid3 w (.cells c.toArray 32) (.cells #[.int .i64 k] 3) (.cells #[.bool false] 4)
 rw [hW1]
 have BX1:=hJJ (BX0.out.below (by rw [hs1];exact EB))
 have LT1:=hJJ (LT0.out.below (by rw [hs1];exact EB))
 have A0:=hJJ E0
 clear hW1 EB hs1 hsz BX0 LT0 E0
 have bS:Boxed W1 (w.heap.size+1) 3 (.int .i64 k):=bS
 have bR:Boxed W1 (w.heap.size+1+1) 4 (.bool false):=bR
 have cS:=bS.cell
 have cc:=BX1.out.cf k (by omega) (by omega)
 rw [Int.toNat_natCast] at cc
 have hne:Nonempty (Ph.S (Row.Old W1)):=⟨⟨0,W1,Below.refl _ _⟩⟩
 have CC:∀ p:Ph.S (Row.Old W1),p.world.cell? ⟨w.heap.size,105+k,none⟩=some (I (cfAt T k)):=fun p=>(p.is.cell (World.block_lt_of_cell? W1 _ cc)).trans cc
 have CS:∀ p:Ph.S (Row.Old W1),p.world.cell? ⟨w.heap.size+1,0,none⟩=some (.int .i64 k):=fun p=>(p.is.cell (World.block_lt_of_cell? W1 _ cS)).trans cS
 refine Pw.region (Row.Old W1) [] hmx (by kernel_rfl) (Row.Old.drew _) ?_
 have hki:((k:Nat):Int) < 8:=by omega
 iterate 5
  (refine Pw.calm rfl (fun K hK=>?_)
   go_simp
   refine hK _ ?_
   clear hK K)
 (refine Pw.calm rfl (fun K hK=>?_)
  go_simp
  refine ⟨_,fun p=>Row.Old.pure (SetP.has_any _ _ _),hK _ ?_⟩
  clear hK K)
 refine Pw.nil ?_
 intro W2 hb
 have B0:Hid (Below w.heap.size w W2):=hJJ (A0.out.trans (hb.mono (by omega)))
 have bS2:Boxed W2 (w.heap.size+1) 3 (.int .i64 k):=(hb.block _ (by omega)).trans bS
 have bR2:Boxed W2 (w.heap.size+1+1) 4 (.bool false):=(hb.block _ (by omega)).trans bR
 have BX:=hJJ (BX1.out.below hb)
 have LT:=hJJ (LT1.out.below hb)
 have E2:w.heap.size+3≤W2.heap.size:=by have:=hb.size;omega
 clear CC CS cc cS hne hb bS bR BX1 LT1 A0 E1
 cases hself:SetM.has (cfAt T k) k with
 | true =>
  have HR:=hJJ (conf_self hself)
  clear hself
  have hc:=bR2.cell
  have hf:=bR2.frozen
  go_wp2
  have hv2:=bR2.set (.bool true)
  have hc5:=hv2.cell
  refine ⟨.bool true,?_,by rw [HR.out],B0.out.setCell (p:=⟨w.heap.size+1+1,0,none⟩) (by simp;omega) _⟩
  simp [results,Tryz.f77,go_sem,hc5]
 | false =>
  have HR:=hJJ (conf_any hself)
  clear hself
  go_wp2_with (refine lgZ 32 ⟨w.heap.size,0,none⟩ c rfl LT.out Tryz.underlying32 IA.out ?_)
  refine (ON.out _ B0.out).mono ?_
  rintro e W3 ⟨rfl,hb⟩
  go_wp2_with fail
  refine (callsIn_wide.1 (Each.each_in 3 _ _)).mono ?_
  rintro e w' ⟨rfl,rfl⟩
  go_wp2_with fail
  have hb4:Below W2.heap.size W2 (W3.alloc (.cells #[.int .i64 (onS T:Nat)] 3)):=hb.alloc hb.size _
  have bE:Boxed (W3.alloc (.cells #[.int .i64 (onS T:Nat)] 3)) W3.heap.size 3 (.int .i64 (onS T:Nat)):=Boxed.new _ _ _
  have hsz3:(W3.alloc (.cells #[.int .i64 (onS T:Nat)] 3)).heap.size=W3.heap.size+1:=by simp
  have hs3:=hb.size
  generalize W3.alloc (.cells #[.int .i64 (onS T:Nat)] 3)=W4 at hb4 bE hsz3 ⊢
  have bS4:Boxed W4 (w.heap.size+1) 3 (.int .i64 k):=(hb4.block _ (by omega)).trans bS2
  have bR4:Boxed W4 (w.heap.size+1+1) 4 (.bool false):=(hb4.block _ (by omega)).trans bR2
  have BX4:=hJJ (BX.out.below hb4)
  have LT4:=hJJ (LT.out.below hb4)
  have C0:Hid (Below w.heap.size w W4):=hJJ (B0.out.trans (hb4.mono B0.out.size))
  have E4:w.heap.size+3 < W4.heap.size:=by omega
  clear hb hb4 bS2 bR2 BX LT B0 E2 hs3
  generalize W3.heap.size=be at *
  refine (wpIn_wide (n:=3)).1 ?_
  refine search (cbad T k) (fun _=>.cells #[.bool true] 4 (0,0)) be (w.heap.size+1+1) (onS T:Nat) (by omega) rfl rfl (by omega) (by omega) bE.cell
   (fun x=>{ tmps:=#[.agg c.toArray,.int .i64 k,.pointer (some ⟨w.heap.size,0,none⟩),.pointer (some ⟨w.heap.size+1,0,none⟩),.pointer (some ⟨w.heap.size+1+1,0,none⟩),.int .i64 x,undef,.int .i64 k,.pointer (some ⟨w.heap.size,105,none⟩),.pointer (some ⟨w.heap.size,105+k,none⟩),I (cfAt T k),.int .i64 k,.bool false,.agg c.toArray,.int .i64 (onS T:Nat),.func (.func 127) #[] #[.pointer (some ⟨be,0,none⟩)],.int .i64 x,undef,undef,undef,undef,undef,undef,undef,undef,undef,undef,undef,undef,undef,undef,undef,undef,undef,undef,undef,undef,undef,undef,undef],defers:=[] }) ?assign ?body ?done ?stop
  case assign =>
   intro l x W K hK
   gi_wp2
   exact hK
  case body =>
   intro l x W hx hB
   have hx8:=SetM.list_bd _ x hx
   have BXW:=BX4.out.below hB
   have cc:=BXW.cf x hx8.1 hx8.2
   have ck:=BXW.cf k (by omega) (by omega)
   rw [Int.toNat_natCast] at ck
   have cS:=(Boxed.cell (show Boxed W (w.heap.size+1) 3 (.int .i64 k) from (hB.block _ (by omega)).trans bS4))
   have LTW:=hJJ (LT4.out.below hB)
   have BW:Hid (Below w.heap.size w W):=hJJ (C0.out.trans (hB.mono C0.out.size))
   have hvR:Boxed W (w.heap.size+1+1) 4 (.bool false):=(hB.block _ (by omega)).trans bR4
   have HV:=hJJ hvR
   obtain ⟨j,rfl⟩:=Int.eq_ofNat_of_zero_le hx8.1
   rw [Int.toNat_natCast] at cc
   have hj8:((j:Nat):Int) < 8:=hx8.2
   have hjn:j < 8:=by omega
   have CB:Hid (cbad T k j=_):=hJJ (by unfold cbad;rfl)
   have CC:∀ p:Ph.S (Row.Old W),p.world.cell? ⟨w.heap.size,105+j,none⟩=some (I (cfAt T j)):=fun p=>(p.is.cell (World.block_lt_of_cell? W _ cc)).trans cc
   have CS:∀ p:Ph.S (Row.Old W),p.world.cell? ⟨w.heap.size+1,0,none⟩=some (.int .i64 k):=fun p=>(p.is.cell (World.block_lt_of_cell? W _ cS)).trans cS
   have CH:=hJJ CC
   have CSH:=hJJ CS
   have BSW:Hid (∀ p:Ph.S (Row.Old W),Calls Tryz.prog 112 #[.agg c.toArray,.int .i64 k,.int .i64 j] p.world fun e w'=>e=.returned (.bool (beside T k j))∧Below p.world.heap.size p.world w'):=hJJ (fun p=>BS.out k j _ (BW.out.trans (p.is.mono BW.out.size)))
   clear cc CC CS hB BXW bE bS4 bR4 hvR
   obtain ⟨a,ha⟩:∃ a,SetM.has (cfAt T k) j=a:=⟨_,rfl⟩
   obtain ⟨b,hb'⟩:∃ b,SetM.has (cfAt T j) k=b:=⟨_,rfl⟩
   gi_wp2_with (refine ⟨trivial,?_⟩;gi_at_call 95;refine (CallsIn.inRound l (callsIn_wide.2 (SetP.has_any _ _ _))).mono ?_;rintro e w' ⟨rfl,rfl⟩;rw [ha])
   have hne:Nonempty (Ph.S (Row.Old W)):=⟨⟨0,W,Below.refl _ _⟩⟩
   have CC:=CH.out
   have CS:=CSH.out
   refine Up.region_ph (Row.Old W) [] (fun ⟨_,_,h⟩=>h) (by kernel_rfl) hmx (by kernel_rfl) (Row.Old.drew _) ?_
   iterate 6
    (refine Pw.calm rfl (fun K hK=>?_)
     go_simp
     refine hK _ ?_
     clear hK K)
   (refine Pw.calm rfl (fun K hK=>?_)
    go_simp
    refine ⟨_,fun p=>Row.Old.pure (SetP.has_any _ _ _),hK _ ?_⟩
    clear hK K)
   rw [hb']
   cases a with
   | false =>
    cases b with
    | false =>
     have HCB:Hid (cbad T k j=false):=hJJ (by rw [CB.out,ha,hb'];rfl)
     clear ha hb' CB
     iterate 4
      (refine Pw.calm rfl (fun K hK=>?_)
       go_simp
       refine hK _ ?_
       clear hK K)
     refine Pw.skips 4 (by kernel_rfl) ?_
     (try simp only [List.take_succ_cons,List.take_zero,List.drop_succ_cons,List.drop_zero,Pw.undefs])
     (try dsimp only [Act.put])
     (try simp only [List.setIfInBounds_toArray,List.set_cons_zero,List.set_cons_succ])
     iterate 2
      (refine Pw.calm rfl (fun K hK=>?_)
       go_simp
       refine hK _ ?_
       clear hK K)
     refine Pw.nil ?_
     intro Wz hbz
     have hv:Boxed Wz (w.heap.size+1+1) 4 (.bool false):=(hbz.block _ HV.out.lt).trans HV.out
     have hc:=hv.cell
     have hf:=hv.frozen
     clear CC CS hne
     gi_wp2
     exact ⟨HCB.out,hbz⟩
    | true =>
     have HCB:Hid (cbad T k j=true):=hJJ (by rw [CB.out,ha,hb'];rfl)
     clear ha hb' CB
     iterate 2
      (refine Pw.calm rfl (fun K hK=>?_)
       go_simp
       refine hK _ ?_
       clear hK K)
     refine Pw.skips 7 (by kernel_rfl) ?_
     (try simp only [List.take_succ_cons,List.take_zero,List.drop_succ_cons,List.drop_zero,Pw.undefs])
     (try dsimp only [Act.put])
     (try simp only [List.setIfInBounds_toArray,List.set_cons_zero,List.set_cons_succ])
     iterate 1
      (refine Pw.calm rfl (fun K hK=>?_)
       go_simp
       refine hK _ ?_
       clear hK K)
     refine Pw.nil ?_
     intro Wz hbz
     have hv:Boxed Wz (w.heap.size+1+1) 4 (.bool false):=(hbz.block _ HV.out.lt).trans HV.out
     have hc:=hv.cell
     have hf:=hv.frozen
     clear CC CS hne
     gi_wp2
     exact ⟨HCB.out,grown_trans (grown_of_below hbz) (grownBy_setCell' _ _ _),hv.set (.bool true)⟩
   | true =>
    cases b with
    | false =>
     have HCB:Hid (cbad T k j=true):=hJJ (by rw [CB.out,ha,hb'];rfl)
     clear ha hb' CB
     iterate 2
      (refine Pw.calm rfl (fun K hK=>?_)
       go_simp
       refine hK _ ?_
       clear hK K)
     refine Pw.skips 7 (by kernel_rfl) ?_
     (try simp only [List.take_succ_cons,List.take_zero,List.drop_succ_cons,List.drop_zero,Pw.undefs])
     (try dsimp only [Act.put])
     (try simp only [List.setIfInBounds_toArray,List.set_cons_zero,List.set_cons_succ])
     iterate 1
      (refine Pw.calm rfl (fun K hK=>?_)
       go_simp
       refine hK _ ?_
       clear hK K)
     refine Pw.nil ?_
     intro Wz hbz
     have hv:Boxed Wz (w.heap.size+1+1) 4 (.bool false):=(hbz.block _ HV.out.lt).trans HV.out
     have hc:=hv.cell
     have hf:=hv.frozen
     clear CC CS hne
     gi_wp2
     exact ⟨HCB.out,grown_trans (grown_of_below hbz) (grownBy_setCell' _ _ _),hv.set (.bool true)⟩
    | true =>
     have HCB0:Hid (cbad T k j=beside T k j):=hJJ (by rw [CB.out,ha,hb'];simp)
     clear ha hb' CB
     obtain ⟨bs,hbs⟩:∃ x,beside T k j=x:=⟨_,rfl⟩
     iterate 4
      (refine Pw.calm rfl (fun K hK=>?_)
       go_simp
       refine hK _ ?_
       clear hK K)
     refine Pw.load rfl (by rfl) 32 _ rfl ⟨w.heap.size,0,none⟩ rfl c _ (fun p=>LTW.out.below p.is) Tryz.underlying32 rfl IA.out ?_
     (try dsimp only [Act.put]);(try simp only [zA,zB,zC])
     iterate 2
      (refine Pw.calm rfl (fun K hK=>?_)
       go_simp
       refine hK _ ?_
       clear hK K)
     (refine Pw.calm rfl (fun K hK=>?_)
      go_simp
      refine ⟨_,fun p=>Row.Old.call (BSW.out p),hK _ ?_⟩
      clear hK K)
     rw [hbs]
     have HCB:Hid (cbad T k j=bs):=hJJ (HCB0.out.trans hbs)
     clear hbs HCB0
     cases bs with
     | true =>
      iterate 2
       (refine Pw.calm rfl (fun K hK=>?_)
        go_simp
        refine hK _ ?_
        clear hK K)
      refine Pw.nil ?_
      intro Wz hbz
      have hv:Boxed Wz (w.heap.size+1+1) 4 (.bool false):=(hbz.block _ HV.out.lt).trans HV.out
      have hc:=hv.cell
      have hf:=hv.frozen
      clear CC CS hne
      gi_wp2
      exact ⟨HCB.out,grown_trans (grown_of_below hbz) (grownBy_setCell' _ _ _),hv.set (.bool true)⟩
     | false =>
      iterate 2
       (refine Pw.calm rfl (fun K hK=>?_)
        go_simp
        refine hK _ ?_
        clear hK K)
      refine Pw.nil ?_
      intro Wz hbz
      have hv:Boxed Wz (w.heap.size+1+1) 4 (.bool false):=(hbz.block _ HV.out.lt).trans HV.out
      have hc:=hv.cell
      have hf:=hv.frozen
      clear CC CS hne
      gi_wp2
      exact ⟨HCB.out,hbz⟩
  case done =>
   intro D W hD hall hB hK
   have hv:Boxed W (w.heap.size+1+1) 4 (.bool false):=(hB.block _ (by omega)).trans bR4
   have hc:=hv.cell
   have hf:=hv.frozen
   have HR2:Hid (confBad T k=false):=hJJ (by rw [HR.out,List.any_eq_false];intro x hx;simpa using hall x hx)
   have HB:Hid (Below w.heap.size w W):=hJJ (C0.out.trans (hB.mono C0.out.size))
   clear hB hall
   go_wp2
   have hv2:=hv.set (.bool false)
   have hK':=(KeepsOthers.setCell W ⟨w.heap.size+1+1,0,none⟩ (.bool false)).same D _ hK rfl
   refine ⟨by simp,.inl ⟨_,_,rfl,run_takeDeferred hK',?_⟩⟩
   have hc5:=cell_kept hv2.cell (grownBy_putObj' _ D (.deferred none)) (fun r e=>by cases e;exact ⟨_,hK',rfl⟩)
   refine ⟨.bool false,?_,by rw [HR2.out],(HB.out.setCell (p:=⟨w.heap.size+1+1,0,none⟩) (by simp;omega) _).trans (belowK_b (w:=w) (Nat.le_refl _) _ D _ _ (by omega) hK' rfl rfl)⟩
   simp [results,Tryz.f77,go_sem,hc5]
  case stop =>
   intro D x W hD hf hx hg hR hK
   have HR2:Hid (confBad T k=true):=hJJ (by rw [HR.out,List.any_eq_true];exact ⟨x,List.mem_of_find?_eq_some hf,hx⟩)
   have hv:Boxed W (w.heap.size+1+1) 4 (.bool true):=hR
   have HB:Hid (Below w.heap.size w W):=hJJ (C0.out.grown hg (by omega) (fun k e=>by cases e;omega))
   clear hf hx hg
   gi_wp2
   refine ⟨by simp,.inl ⟨_,_,rfl,run_takeDeferred hK,?_⟩⟩
   have hc5:=cell_kept hv.cell (grownBy_putObj' _ D (.deferred none)) (fun r e=>by cases e;exact ⟨_,hK,rfl⟩)
   refine ⟨.bool true,?_,by rw [HR2.out],HB.out.trans (belowK_b (w:=w) (Nat.le_refl _) W D _ _ (by omega) hK rfl rfl)⟩
   simp [results,Tryz.f77,go_sem,hc5]
end ChkJ
namespace ChkA
open Zip
open Go.ChangeShapes Go.WideShapes Go.ChangeAt Go.RowKit
open Tab PlaceM PlanM OnS ChkM
open May (ret_bool infoT St ints_in phases_in)
theorem allOn_any (T:Tab) (h:Hd) (s:Int) (w:World) (ht:IsTab w h T) :
  Calls Tryz.prog 115 #[.agg (T.cells h).toArray,.int .i64 s] w fun e w'=>e=.returned (.bool (allOn T s))∧Below w.heap.size w w':=by
 have hsz:=(cells_ok ht).size
 have IA:Hid ((Tryz.prog.info? 32).map (·.size)=some (T.cells h).length):=hJJ (by rw [List.size_toArray] at hsz;rw [hsz];exact infoT)
 have ON:Hid (∀ W,Below w.heap.size w W→Calls Tryz.prog 96 #[.agg (T.cells h).toArray] W fun e w'=>e=.returned (.int .i64 (onS T:Nat))∧Below W.heap.size W w'):=hJJ (fun W hb=>PlanO.pon_any T h W (ht.below hb))
 have A0:Hid (Below w.heap.size w (w.alloc (.cells (T.cells h).toArray 32))):=hJJ ((Below.refl _ _).alloc (Nat.le_refl _) _)
 have A1:Hid (Lies (w.alloc (.cells (T.cells h).toArray 32)) ⟨w.heap.size,0,none⟩ (T.cells h)):=hJJ (Row.lies_new w _ _)
 have HR:Hid (allOn T s=(bits .andNot .i64 s (onS T:Nat) == 0)):=hJJ rfl
 generalize allOn T s=r at HR ⊢
 generalize onS T=m at HR ON
 clear ht
 generalize T.cells h=c at *
 go_enter Tryz.func115,Tryz.ntmps115
 go_upto_region 1 with fail
 generalize w.alloc (.cells c.toArray 32)=u at A0 A1 ⊢
 clear hsz
 go_wp2_with (refine lgZ 32 ⟨w.heap.size,0,none⟩ c rfl A1.out Tryz.underlying32 IA.out ?_)
 refine (ON.out _ A0.out).mono ?_
 rintro e u1 ⟨rfl,hb⟩
 have B0:Hid (Below w.heap.size w u1):=hJJ (A0.out.trans (hb.mono A0.out.size))
 clear hb A0 A1 ON
 go_wp2
 go_ret
 exact ⟨ret_bool (by rw [HR.out]),B0.out⟩
theorem listD_any (T:Tab) (h:Hd) (w:World) (ht:IsTab w h T) :
  Calls Tryz.prog 79 #[.agg (T.cells h).toArray] w fun e w'=>e=.returned (h.d.val T.dets.length)∧Below w.heap.size w w':=by
 have S0:=hJJ (St.box (cs:=(T.cells h).toArray) ht)
 have hsz:=(cells_ok ht).size
 have q:=(St.box (cs:=(T.cells h).toArray) ht).cell (cells_ok ht).d
 generalize (T.cells h).toArray=cs at *
 clear ht
 go_enter Tryz.func79,Tryz.ntmps79
 go_upto_region 1 with fail
 generalize w.alloc (.cells cs 32)=w1 at S0 q ⊢
 clear hsz
 go_wp2
 go_ret
 exact ⟨rfl,S0.out.bel⟩
theorem listR_any (T:Tab) (h:Hd) (w:World) (ht:IsTab w h T) :
  Calls Tryz.prog 82 #[.agg (T.cells h).toArray] w fun e w'=>e=.returned (h.r.val T.rails.length)∧Below w.heap.size w w':=by
 have S0:=hJJ (St.box (cs:=(T.cells h).toArray) ht)
 have hsz:=(cells_ok ht).size
 have q:=(St.box (cs:=(T.cells h).toArray) ht).cell (cells_ok ht).r
 generalize (T.cells h).toArray=cs at *
 clear ht
 go_enter Tryz.func82,Tryz.ntmps82
 go_upto_region 1 with fail
 generalize w.alloc (.cells cs 32)=w1 at S0 q ⊢
 clear hsz
 go_wp2
 go_ret
 exact ⟨rfl,S0.out.bel⟩
theorem listB_any (T:Tab) (h:Hd) (w:World) (ht:IsTab w h T) :
  Calls Tryz.prog 85 #[.agg (T.cells h).toArray] w fun e w'=>e=.returned (h.b.val T.buses.length)∧Below w.heap.size w w':=by
 have S0:=hJJ (St.box (cs:=(T.cells h).toArray) ht)
 have hsz:=(cells_ok ht).size
 have q:=(St.box (cs:=(T.cells h).toArray) ht).cell (cells_ok ht).b
 generalize (T.cells h).toArray=cs at *
 clear ht
 go_enter Tryz.func85,Tryz.ntmps85
 go_upto_region 1 with fail
 generalize w.alloc (.cells cs 32)=w1 at S0 q ⊢
 clear hsz
 go_wp2
 go_ret
 exact ⟨rfl,S0.out.bel⟩
theorem rail_cells (r:Rl) (w:World) (b:Nat) (hb:w.heap[b]?=some (.cells r.cells.toArray 47 (0,0))) :
  w.cell? ⟨b,0,none⟩=some (I r.bars)∧w.cell? ⟨b,1,none⟩=some (I r.clear)∧w.cell? ⟨b,2,none⟩=some (I r.dwell)∧w.cell? ⟨b,3,none⟩=some (I r.exit)∧w.cell? ⟨b,4,none⟩=some (I r.delay)∧w.cell? ⟨b,5,none⟩=some (I r.green)∧w.cell? ⟨b,7,none⟩=some (I r.hold)∧w.cell? ⟨b,8,none⟩=some (I r.stay)∧w.cell? ⟨b,9,none⟩=some (I r.most)∧w.cell? ⟨b,10,none⟩=some (I r.limit):=by
 refine ⟨?_,?_,?_,?_,?_,?_,?_,?_,?_,?_⟩ <;> (rw [cell_of_row _ _ _ _ _ _ hb];rfl)
theorem badTimes_any (r:Rl) (w:World) :
  Calls Tryz.prog 118 #[.agg r.cells.toArray] w fun e w'=>e=.returned (.bool (timesBad r))∧Below w.heap.size w w':=by
 have A0:Hid (Below w.heap.size w (w.alloc (.cells r.cells.toArray 47))):=hJJ ((Below.refl _ _).alloc (Nat.le_refl _) _)
 obtain ⟨q0,q1,q2,q3,q4,q5,q7,q8,q9,q10⟩:=rail_cells r _ _ (heap_alloc_new w (.cells r.cells.toArray 47))
 have HR:Hid (timesBad r=_):=hJJ (by unfold timesBad;rfl)
 generalize timesBad r=x at HR ⊢
 have hone:=Rl.one r
 have hsz:r.cells.toArray.size=11:=rfl
 generalize r.cells.toArray=cs at *
 obtain ⟨bars,clear,dwell,exit,delay,green,foot,hold,stay,most,limit⟩:=r
 simp only at *
 go_enter Tryz.func118,Tryz.ntmps118
 go_upto_region 1 with fail
 generalize w.alloc (.cells cs 47)=u at *
 clear q0 q2 q3 hone hsz
 go_wp2
 all_goals go_ret
 all_goals (refine ⟨ret_bool ?_,A0.out⟩)
 all_goals (rw [HR.out])
 all_goals (clear HR q1 q4 q5 q7 q8 q9 q10 A0)
 all_goals (first | grind | (simp_all <;> omega))
end ChkA
namespace ChkB
open Zip
open Go.ChangeShapes Go.WideShapes Go.ChangeAt Go.RowKit
open Tab PlaceM PlanM OnS ChkM ChkA
open May (ret_bool infoT infoP infoB infoD infoR St ints_in phases_in)
theorem phase_cells (u:Ph) (w:World) (b:Nat) (hb:w.heap[b]?=some (.cells u.cells.toArray 24 (0,0))) :
  w.cell? ⟨b,1,none⟩=some (I u.min)∧w.cell? ⟨b,3,none⟩=some (I u.max)∧w.cell? ⟨b,4,none⟩=some (I u.top)∧w.cell? ⟨b,5,none⟩=some (I u.step)∧w.cell? ⟨b,6,none⟩=some (I u.yellow)∧w.cell? ⟨b,8,none⟩=some (I u.walk)∧w.cell? ⟨b,9,none⟩=some (I u.blinks)∧w.cell? ⟨b,10,none⟩=some (I u.recall):=by
 refine ⟨?_,?_,?_,?_,?_,?_,?_,?_⟩ <;> (rw [cell_of_row _ _ _ _ _ _ hb];rfl)
theorem phase_lies {T:Tab} {h:Hd} {w:World} (ht:IsTab w h T) (k:Nat) (hk:k < 8):Lies (w.alloc (.cells (T.cells h).toArray 32)) ⟨w.heap.size,k*13,none⟩ (phAt T k).cells:=by
 have C:=cells_ok ht
 have hb:(w.alloc (.cells (T.cells h).toArray 32)).heap[w.heap.size]?=some (.cells (T.cells h).toArray 32 (0,0)):=heap_alloc_new w _
 have h8:k < T.phases.length:=by rw [ht.ph];exact hk
 have e:phAt T k=T.phases[k]:=by unfold phAt;rw [Int.toNat_natCast,List.getD_eq_getElem?_getD,List.getElem?_eq_getElem h8];rfl
 have h1:=C.phase k _ (List.getElem?_eq_getElem h8)
 rw [Nat.mul_comm] at h1
 rw [← e] at h1
 intro j v hv
 rw [Addr.add_mid,cell_of_row _ _ _ _ _ _ hb]
 rw [← h1,List.getElem?_take] at hv
 split at hv
 ·rw [List.getElem?_drop,Array.getElem?_toList] at hv
  exact hv
 ·cases hv
theorem badPhase_any (T:Tab) (h:Hd) (k:Nat) (hk:k < 8) (w:World) (ht:IsTab w h T) :
  Calls Tryz.prog 75 #[.agg (T.cells h).toArray,.int .i64 k] w fun e w'=>e=.returned (.bool (phBad (phAt T k)))∧Below w.heap.size w w':=by
 have hsz:=(cells_ok ht).size
 have A0:Hid (Below w.heap.size w (w.alloc (.cells (T.cells h).toArray 32))):=hJJ ((Below.refl _ _).alloc (Nat.le_refl _) _)
 have A1:=hJJ (phase_lies ht k hk)
 have HS:Hid ((w.alloc (.cells (T.cells h).toArray 32)).heap.size=w.heap.size+1):=hJJ (by simp)
 clear ht
 generalize T.cells h=c at *
 obtain ⟨x,hx⟩:∃ x,x=phBad (phAt T k):=⟨_,rfl⟩
 rw [← hx]
 have HR:=hJJ hx
 clear hx
 generalize phAt T k=ph at *
 go_enter Tryz.func75,Tryz.ntmps75
 go_upto_region 1 with fail
 generalize w.alloc (.cells c.toArray 32)=u at A0 A1 HS ⊢
 clear hsz
 go_upto_region 2 with (first | (refine lgZ 24 ⟨w.heap.size,k*13,none⟩ ph.cells rfl A1.out Tryz.underlying24 infoP ?_) | (refine Row.wpList_store_new rfl 24 _ _ rfl u _ ph.cells.toArray rfl rfl rfl infoP rfl (Ph.one _) ?_))
 have E:=hJJ (A0.out.trans (((Below.refl u.heap.size u).alloc (Nat.le_refl _) (.cells ph.cells.toArray 24)).mono A0.out.size))
 obtain ⟨q1,q3,q4,q5,q6,q8,q9,q10⟩:=phase_cells ph _ _ (heap_alloc_new u (.cells ph.cells.toArray 24))
 generalize u.alloc (.cells ph.cells.toArray 24)=u2 at *
 generalize u.heap.size=b2 at *
 clear A0 A1 HS
 obtain ⟨on,min,gap,max,top,step,yellow,red,walk,blinks,recall,lock,rest⟩:=ph
 simp only at *
 go_wp2
 all_goals go_ret
 all_goals (refine ⟨ret_bool ?_,E.out⟩)
 all_goals (rw [HR.out];unfold phBad;dsimp only)
 all_goals (clear HR q1 q3 q4 q5 q6 q8 q9 q10 E)
 all_goals (first | grind | (simp_all <;> omega))
theorem laid2 (w:World) (o0 o1:Obj):∃ W,((w.alloc o0).alloc o1)=W∧W.heap.size=w.heap.size+2∧Below w.heap.size w W∧Below (w.heap.size+1) (w.alloc o0) W∧W.heap[w.heap.size+1]?=some o1:=by
 refine ⟨_,rfl,by simp,((Below.refl _ w).alloc (Nat.le_refl _) _).alloc (by simp) _,?_,?_⟩
 ·have:=(Below.refl (w.alloc o0).heap.size (w.alloc o0)).alloc (Nat.le_refl _) o1
  simpa using this
 ·have h1:=heap_alloc_new (w.alloc o0) o1
  rwa [World.size_alloc] at h1
theorem lies_head {w:World} {x:Addr} {v:Value} {l:List Value} (h:Lies w x (v :: l)):w.cell? x=some v:=by
 have:=h 0 v rfl
 rwa [Tab.add_zero] at this
theorem badDetector_any (T:Tab) (h:Hd) (d:Det) (w:World) (ht:IsTab w h T) (h0:Fl.isn d.on=false) (h1:Fl.isn d.off=false) (hp:0≤d.phase∧d.phase < 8) :
  Calls Tryz.prog 80 #[.agg (T.cells h).toArray,.agg d.cells.toArray] w fun e w'=>e=.returned (.bool (detBad T d))∧Below w.heap.size w w':=by
 have hsz:=(cells_ok ht).size
 have hs1:(w.alloc (.cells (T.cells h).toArray 32)).heap.size=w.heap.size+1:=by simp
 obtain ⟨ph,on,off,delay,extend,mOn,mOff⟩:=d
 dsimp only at h0 h1 hp
 obtain ⟨k,rfl⟩:=Int.eq_ofNat_of_zero_le hp.1
 have hk:k < 8:=by omega
 have LP:=hJJ (lies_head (phase_lies ht k hk))
 obtain ⟨x,hx⟩:∃ x,x=detBad T ⟨k,on,off,delay,extend,mOn,mOff⟩:=⟨_,rfl⟩
 rw [← hx]
 have HR:Hid (x=(gtF off on || !(phAt T k).on)):=hJJ hx
 generalize (phAt T k).on=q at LP HR
 have ho:=Secs.ord_cases off on h1 h0
 have HO:=hJJ ho
 clear hx ht h0 h1 hp ho
 generalize T.cells h=c at *
 have hone:=Det.one ⟨k,on,off,delay,extend,mOn,mOff⟩
 have hsz2:(Det.cells ⟨k,on,off,delay,extend,mOn,mOff⟩).toArray.size=7:=rfl
 generalize hcd:(Det.cells ⟨k,on,off,delay,extend,mOn,mOff⟩).toArray=cd at *
 have HCD:=hJJ hcd
 clear hcd
 go_enter Tryz.func80,Tryz.ntmps80
 go_upto_region 1 with fail
 obtain ⟨u,hu,E1,E0,EB,b1⟩:=laid2 w (.cells c.toArray 32) (.cells cd 45)
 rw [hu]
 have EE:=hJJ E0
 have c0:u.cell? ⟨w.heap.size,k*13,none⟩=some (.bool q):=(EB.cell (p:=⟨w.heap.size,k*13,none⟩) (Nat.lt_succ_self _)).trans LP.out
 have q0:u.cell? ⟨w.heap.size+1,0,none⟩=some (I k):=by rw [cell_of_row _ _ _ _ _ _ b1,← HCD.out];rfl
 have q1:u.cell? ⟨w.heap.size+1,1,none⟩=some (.float .f64 on):=by rw [cell_of_row _ _ _ _ _ _ b1,← HCD.out];rfl
 have q2:u.cell? ⟨w.heap.size+1,2,none⟩=some (.float .f64 off):=by rw [cell_of_row _ _ _ _ _ _ b1,← HCD.out];rfl
 clear hu EB LP b1 hs1 hsz hsz2 hone E0 HCD
 rcases HO.out with ⟨a,ho⟩ | ⟨a,ho⟩ | ⟨a,ho⟩
 all_goals
  clear HO
  have HA:=hJJ a
  clear a
  go_wp2
  go_ret
  have a:=HA.out
  refine ⟨ret_bool ?_,EE.out⟩
  rw [HR.out]
  unfold gtF
  first | (rw [decide_eq_true (by omega)];simp) | (rw [decide_eq_false (by omega)];simp)
theorem badBus_any (T:Tab) (h:Hd) (d:Bs) (w:World) (ht:IsTab w h T) :
  Calls Tryz.prog 86 #[.agg (T.cells h).toArray,.agg d.cells.toArray] w fun e w'=>e=.returned (.bool (busBad T d))∧Below w.heap.size w w':=by
 have hsz:=(cells_ok ht).size
 have IA:Hid ((Tryz.prog.info? 32).map (·.size)=some (T.cells h).length):=hJJ (by rw [List.size_toArray] at hsz;rw [hsz];exact infoT)
 obtain ⟨s,lk⟩:=d
 have AO:Hid (∀ W,Below w.heap.size w W→Calls Tryz.prog 115 #[.agg (T.cells h).toArray,.int .i64 s] W fun e w'=>e=.returned (.bool (allOn T s))∧Below W.heap.size W w'):=hJJ (fun W hb=>allOn_any T h s W (ht.below hb))
 obtain ⟨x,hx⟩:∃ x,x=busBad T ⟨s,lk⟩:=⟨_,rfl⟩
 rw [← hx]
 have HR:Hid (x=(s == 0 || (!allOn T s || decide (lk < 1)))):=hJJ hx
 generalize allOn T s=q at AO HR
 have A1:=hJJ (Row.lies_new w (T.cells h).toArray 32)
 clear hx ht
 have hone:=Bs.one ⟨s,lk⟩
 have hsz2:(Bs.cells ⟨s,lk⟩).toArray.size=2:=rfl
 generalize hcd:(Bs.cells ⟨s,lk⟩).toArray=cd at *
 have HCD:=hJJ hcd
 clear hcd
 generalize T.cells h=c at *
 go_enter Tryz.func86,Tryz.ntmps86
 go_upto_region 1 with fail
 obtain ⟨u,hu,E1,E0,EB,b1⟩:=laid2 w (.cells c.toArray 32) (.cells cd 49)
 rw [hu]
 have EE:=hJJ E0
 have LT:Hid (Lies u ⟨w.heap.size,0,none⟩ c):=hJJ (A1.out.below (by simpa using EB))
 have q0:u.cell? ⟨w.heap.size+1,0,none⟩=some (I s):=by rw [cell_of_row _ _ _ _ _ _ b1,← HCD.out];rfl
 have q1:u.cell? ⟨w.heap.size+1,1,none⟩=some (I lk):=by rw [cell_of_row _ _ _ _ _ _ b1,← HCD.out];rfl
 have Q1:=hJJ q1
 clear hu EB A1 b1 hsz hsz2 hone E0 HCD
 by_cases hs:s=0
 ·go_wp2
  go_ret
  exact ⟨ret_bool (by rw [HR.out,hs];rfl),EE.out⟩
 ·go_wp2_with (refine lgZ 32 ⟨w.heap.size,0,none⟩ c rfl LT.out Tryz.underlying32 IA.out ?_)
  refine (AO.out _ EE.out).mono ?_
  rintro e u1 ⟨rfl,hb⟩
  have q1:=(hb.cell (World.block_lt_of_cell? u _ Q1.out)).trans Q1.out
  have EF:=hJJ (EE.out.trans (hb.mono EE.out.size))
  clear hb q0 LT AO Q1
  cases q with
  | true =>
   go_wp2
   go_ret
   refine ⟨ret_bool ?_,EF.out⟩
   rw [HR.out];simp [hs]
  | false =>
   go_wp2
   go_ret
   refine ⟨ret_bool ?_,EF.out⟩
   rw [HR.out];simp
end ChkB
namespace RkA
open Zip
open Go.ChangeShapes Go.WideShapes Go.ChangeAt Go.RowKit
open Tab PlaceM PlanM OnS ChkM ChkI
open RefS (rlist_any rhas_any row_of)
open May (ret_bool infoT infoP)
theorem in_any (a b:Int) (w:World):Calls Tryz.prog 53 #[.int .i64 a,.int .i64 b] w fun e w'=>e=.returned (.bool (inR a b))∧w=w':=by
 have HR:Hid (inR a b=(bits .and .i64 (bits .andNot .i64 a b) 255 == 0)):=hJJ rfl
 generalize inR a b=x at HR ⊢
 go_enter Tryz.func53,Tryz.ntmps53
 go_wp2
 go_ret
 exact ⟨ret_bool HR.out.symm,rfl⟩
theorem phase_any (ph:Ph) (w:World) :
  Calls Tryz.prog 49 #[.agg ph.cells.toArray] w fun e w'=>e=.returned (.bool (phOk ph))∧Below w.heap.size w w':=by
 obtain ⟨x,hx⟩:∃ x,x=phOk ph:=⟨_,rfl⟩
 rw [← hx]
 have HR:=hJJ hx
 clear hx
 have E:Hid (Below w.heap.size w (w.alloc (.cells ph.cells.toArray 24))):=hJJ ((Below.refl _ _).alloc (Nat.le_refl _) _)
 obtain ⟨q1,q3,q4,q5,q6,q8,q9,q10⟩:=ChkB.phase_cells ph _ _ (heap_alloc_new w (.cells ph.cells.toArray 24))
 have hone:=Ph.one ph
 have hsz:ph.cells.toArray.size=13:=rfl
 generalize ph.cells.toArray=cs at *
 go_enter Tryz.func49,Tryz.ntmps49
 go_upto_region 1 with fail
 generalize w.alloc (.cells cs 24)=u2 at *
 clear hone hsz
 obtain ⟨on,min,gap,max,top,step,yellow,red,walk,blinks,recall,lock,rest⟩:=ph
 simp only at *
 go_wp2
 all_goals go_ret
 all_goals (refine ⟨ret_bool ?_,E.out⟩)
 all_goals (rw [HR.out];unfold phOk;dsimp only)
 all_goals (clear HR q1 q3 q4 q5 q6 q8 q9 q10 E)
 all_goals (first | grind | (simp_all <;> omega))
theorem flash_any (T:Tab) (h:Hd) (k:Nat) (hk:k < 8) (w:World) (ht:IsTab w h T) :
  Calls Tryz.prog 54 #[.agg (T.cells h).toArray,.int .i64 k,.int .i64 (onS T:Nat)] w fun e w'=>e=.returned (.bool (flashOk T k))∧Below w.heap.size w w':=by
 have hsz:=(cells_ok ht).size
 have BX0:=hJJ (bxd_new ht)
 have A0:Hid (Below w.heap.size w (w.alloc (.cells (T.cells h).toArray 32))):=hJJ ((Below.refl _ _).alloc (Nat.le_refl _) _)
 obtain ⟨x,hx⟩:∃ x,x=flashOk T k:=⟨_,rfl⟩
 rw [← hx]
 have HR:Hid (x=(flAt T k != 0 && !(ons T).any (flashR T k))):=hJJ hx
 have FR:Hid (∀ q,flashR T k q=(flAt T k == 2 && (flAt T q == 2 && SetM.has (cfAt T k) q))):=hJJ (fun q=>rfl)
 have BD:=hJJ (fun q (hq:q ∈ ons T)=>SetM.list_bd _ q hq)
 have HL:=hJJ (show (ons T).length≤8 from SetM.list_len _)
 have OL:Hid (SetM.list (onS T:Nat)=ons T):=hJJ rfl
 generalize ons T=L at *
 clear ht hx
 generalize T.cells h=c at *
 have hki:((k:Nat):Int) < 8:=by omega
 go_enter Tryz.func54,Tryz.ntmps54
 go_upto_region 1 with fail
 generalize w.alloc (.cells c.toArray 32)=u at A0 BX0 ⊢
 clear hsz
 have cf:=BX0.out.fl k (by omega) (by omega)
 rw [Int.toNat_natCast] at cf
 generalize hfk:flAt T k=fk at *
 by_cases h0:fk=0
 ·subst h0
  have HX:Hid (false=x):=hJJ (by rw [HR.out];rfl)
  go_wp2
  go_ret
  exact ⟨ret_bool HX.out,A0.out⟩
 have HX:Hid (x=!L.any (flashR T k)):=hJJ (by rw [HR.out,bne_iff_ne.2 h0];rfl)
 clear HR
 go_wp2_with fail
 refine (rlist_any _ _).mono ?_
 rintro e u1 ⟨v,rfl,hown,hb⟩
 rw [OL.out] at hown
 obtain ⟨a,cap,rfl,hrow⟩:=row_of hown
 have HROW:=hJJ hrow
 have B0:Hid (Below w.heap.size w u1):=hJJ (A0.out.trans (hb.mono A0.out.size))
 have BX:=hJJ (BX0.out.below hb)
 clear hown hrow hb A0 BX0 cf
 have hl8:=HL.out
 go_wp2_with fail
 go_loopw [17] (fun i wr=>∃ q:Nat,q≤L.length∧i=.int .i64 q∧(∀ j,j < q→flashR T k (L.getD j 0)=false)∧wr=u1) (fun i _=>L.length - (intOf i).toNat)
 case atStart=>exact ⟨0,by omega,rfl,(fun j h=>by omega),rfl⟩
 case round =>
  obtain ⟨q,hq,rfl,hall,rfl⟩:=hrel
  rename World=>wg
  have HA:=hJJ hall
  clear hall
  by_cases hlt:q < L.length
  ·obtain ⟨y,rfl,hcells⟩:=HROW.out.cells hlt
   have cq:=hcells q hlt
   have hmem:L.getD q 0 ∈ L:=by rw [List.getD_eq_getElem?_getD,List.getElem?_eq_getElem hlt];exact List.getElem_mem hlt
   have hbd:=BD.out _ hmem
   generalize hz:L.getD q 0=z at *
   have HZ:=hJJ hz
   have HM:=hJJ hmem
   clear hcells hz hmem
   obtain ⟨j,rfl⟩:=Int.eq_ofNat_of_zero_le hbd.1
   have hj8:((j:Nat):Int) < 8:=hbd.2
   have fk':=BX.out.fl k (by omega) (by omega)
   have fj:=BX.out.fl j (by omega) (by omega)
   have ck:=BX.out.cf k (by omega) (by omega)
   rw [Int.toNat_natCast] at fk' fj ck
   rw [hfk] at fk'
   have FQ:Hid (flashR T k j=(fk == 2 && (flAt T j == 2 && SetM.has (cfAt T k) j))):=hJJ (FR.out j)
   have NEXT:Hid (flashR T k j=false→∀ i,i < q+1→flashR T k (L.getD i 0)=false):=hJJ (fun e i hi=>by
    by_cases h1:i=q
    ·subst h1;rw [HZ.out];exact e
    ·exact HA.out i (by omega))
   have STOP:Hid (flashR T k j=true→false=x):=hJJ (fun e=>by
    rw [HX.out,List.any_eq_true.2 ⟨_,HM.out,e⟩];rfl)
   generalize flAt T j=fq at *
   obtain ⟨hs,hhs⟩:∃ z,SetM.has (cfAt T k) j=z:=⟨_,rfl⟩
   rw [hhs] at FQ
   have HHS:=hJJ hhs
   clear hhs FR
   by_cases h2:fk=2
   ·by_cases h3:fq=2
    ·subst h2 h3
     have FV:Hid (flashR T k j=hs):=hJJ (by rw [FQ.out];rfl)
     go_wp2_with fail
     refine (rhas_any _ _ _).mono ?_
     rintro e w' ⟨rfl,rfl⟩
     rw [HHS.out]
     cases hs with
     | true =>
      have SX:=hJJ (STOP.out FV.out)
      go_wp2
      go_ret
      exact ⟨ret_bool SX.out,B0.out⟩
     | false =>
      have NX:=hJJ (NEXT.out FV.out)
      go_wp2
      go_roundw
      case rel=>exact ⟨q+1,by omega,by go_num,NX.out,trivial⟩
      case measure=>simp [intOf];omega
    ·have NX:=hJJ (NEXT.out (by rw [FQ.out,beq_eq_false_iff_ne.2 h3];simp))
     subst h2
     have H3:=hJJ h3
     go_wp2
     go_roundw
     case rel=>exact ⟨q+1,by omega,by go_num,NX.out,trivial⟩
     case measure=>simp [intOf];omega
   ·have NX:=hJJ (NEXT.out (by rw [FQ.out,beq_eq_false_iff_ne.2 h2];simp))
    go_wp2
    go_roundw
    case rel=>exact ⟨q+1,by omega,by go_num,NX.out,trivial⟩
    case measure=>simp [intOf];omega
  ·have SX:Hid (true=x):=hJJ (by
    rw [HX.out,List.any_eq_false.2]
    ·rfl
    ·intro z hz
     obtain ⟨i,hi,rfl⟩:=List.getElem_of_mem hz
     have:=HA.out i (by omega)
     rw [List.getD_eq_getElem?_getD,List.getElem?_eq_getElem hi] at this
     simpa using this)
   go_wp2
   go_ret
   exact ⟨ret_bool SX.out,B0.out⟩
theorem conflict_any (T:Tab) (h:Hd) (k:Nat) (hk:k < 8) (w:World) (ht:IsTab w h T) (sm:Few T) :
  Calls Tryz.prog 51 #[.agg (T.cells h).toArray,.int .i64 k,.int .i64 (onS T:Nat)] w fun e w'=>e=.returned (.bool (confOk T k))∧Below w.heap.size w w':=by
 have hsz:=(cells_ok ht).size
 have IA:Hid ((Tryz.prog.info? 32).map (·.size)=some (T.cells h).length):=hJJ (by rw [List.size_toArray] at hsz;rw [hsz];exact infoT)
 have BS:Hid (∀ (q:Int) W,Below w.heap.size w W→Calls Tryz.prog 42 #[.agg (T.cells h).toArray,.int .i64 k,.int .i64 q] W fun e w'=>e=.returned (.bool (beside T k q))∧Below W.heap.size W w'):=hJJ (fun q W hb=>Where.beside_any T h k q W (ht.below hb) sm)
 have BX0:=hJJ (bxd_new ht)
 have LT0:=hJJ (Row.lies_new w (T.cells h).toArray 32)
 have A0:Hid (Below w.heap.size w (w.alloc (.cells (T.cells h).toArray 32))):=hJJ ((Below.refl _ _).alloc (Nat.le_refl _) _)
 obtain ⟨x,hx⟩:∃ x,x=confOk T k:=⟨_,rfl⟩
 rw [← hx]
 have HX:Hid (x=!(ons T).any (confR T k)):=hJJ hx
 have FR:Hid (∀ q,confR T k q=((SetM.has (cfAt T k) q && q == k) || ((SetM.has (cfAt T k) q != SetM.has (cfAt T q) k) || (SetM.has (cfAt T k) q && beside T k q)))):=hJJ (fun q=>rfl)
 have BD:=hJJ (fun q (hq:q ∈ ons T)=>SetM.list_bd _ q hq)
 have HL:=hJJ (show (ons T).length≤8 from SetM.list_len _)
 have OL:Hid (SetM.list (onS T:Nat)=ons T):=hJJ rfl
 generalize ons T=L at *
 clear ht hx
 generalize T.cells h=c at *
 have hki:((k:Nat):Int) < 8:=by omega
 go_enter Tryz.func51,Tryz.ntmps51
 go_upto_region 1 with fail
 generalize w.alloc (.cells c.toArray 32)=u at A0 BX0 LT0 ⊢
 clear hsz
 go_wp2_with fail
 refine (rlist_any _ _).mono ?_
 rintro e u1 ⟨v,rfl,hown,hb⟩
 rw [OL.out] at hown
 obtain ⟨a,cap,rfl,hrow⟩:=row_of hown
 have HROW:=hJJ hrow
 have B0:Hid (Below w.heap.size w u1):=hJJ (A0.out.trans (hb.mono A0.out.size))
 have BX1:=hJJ (BX0.out.below hb)
 have LT1:=hJJ (LT0.out.below hb)
 clear hown hrow hb A0 BX0 LT0
 have hl8:=HL.out
 go_wp2_with fail
 go_loopw [13] (fun i wr=>∃ q:Nat,q≤L.length∧i=.int .i64 q∧(∀ j,j < q→confR T k (L.getD j 0)=false)∧Below u1.heap.size u1 wr) (fun i _=>L.length - (intOf i).toNat)
 case atStart=>exact ⟨0,by omega,rfl,(fun j h=>by omega),Below.refl _ _⟩
 case round =>
  obtain ⟨q,hq,rfl,hall,hB⟩:=hrel
  have HA:=hJJ hall
  have HB:=hJJ hB
  have BW:Hid (Below w.heap.size w wr):=hJJ (B0.out.trans (hB.mono B0.out.size))
  have BX:=hJJ (BX1.out.below hB)
  have LT:=hJJ (LT1.out.below hB)
  have HROW:=hJJ (HROW.out.below hB)
  clear hall hB
  by_cases hlt:q < L.length
  ·obtain ⟨y,rfl,hcells⟩:=HROW.out.cells hlt
   have cq:=hcells q hlt
   have hmem:L.getD q 0 ∈ L:=by rw [List.getD_eq_getElem?_getD,List.getElem?_eq_getElem hlt];exact List.getElem_mem hlt
   have hbd:=BD.out _ hmem
   generalize hz:L.getD q 0=z at *
   have HZ:=hJJ hz
   have HM:=hJJ hmem
   clear hcells hz hmem
   obtain ⟨j,rfl⟩:=Int.eq_ofNat_of_zero_le hbd.1
   have hj8:((j:Nat):Int) < 8:=hbd.2
   have cj:=BX.out.cf j (by omega) (by omega)
   have ck:=BX.out.cf k (by omega) (by omega)
   rw [Int.toNat_natCast] at cj ck
   have FQ:=hJJ (FR.out j)
   have NEXT:Hid (confR T k j=false→∀ i,i < q+1→confR T k (L.getD i 0)=false):=hJJ (fun e i hi=>by
    by_cases h1:i=q
    ·subst h1;rw [HZ.out];exact e
    ·exact HA.out i (by omega))
   have STOP:Hid (confR T k j=true→false=x):=hJJ (fun e=>by
    rw [HX.out,List.any_eq_true.2 ⟨_,HM.out,e⟩];rfl)
   obtain ⟨ha,hha⟩:∃ z,SetM.has (cfAt T k) j=z:=⟨_,rfl⟩
   obtain ⟨hb,hhb⟩:∃ z,SetM.has (cfAt T j) k=z:=⟨_,rfl⟩
   obtain ⟨bs,hbs⟩:∃ z,beside T k j=z:=⟨_,rfl⟩
   rw [hha,hhb,hbs] at FQ
   have BSJ:=hJJ (BS.out j)
   rw [hbs] at BSJ
   have HHA:=hJJ hha
   have HHB:=hJJ hhb
   clear hha hhb hbs FR BS BD
   go_wp2_with fail
   refine (rhas_any _ _ _).mono ?_
   rintro e w' ⟨rfl,rfl⟩
   rw [HHA.out]
   cases ha with
   | false =>
    go_wp2_with fail
    refine (rhas_any _ _ _).mono ?_
    rintro e w' ⟨rfl,rfl⟩
    rw [HHB.out]
    cases hb with
    | true =>
     have SX:=hJJ (STOP.out (by rw [FQ.out];simp))
     go_wp2
     go_ret
     exact ⟨ret_bool SX.out,BW.out⟩
    | false =>
     have NX:=hJJ (NEXT.out (by rw [FQ.out];simp))
     go_wp2
     go_roundw
     case rel=>exact ⟨q+1,by omega,by go_num,NX.out,HB.out⟩
     case measure=>simp [intOf];omega
   | true =>
    by_cases hjk:((j:Nat):Int)=(k:Int)
    ·have SX:=hJJ (STOP.out (by rw [FQ.out,hjk];simp))
     have hjb:(((j:Nat):Int) == (k:Int))=true:=by rw [beq_iff_eq];exact hjk
     clear hjk
     go_wp2
     go_ret
     exact ⟨ret_bool SX.out,BW.out⟩
    ·have HJ:=hJJ hjk
     have hjb:(((j:Nat):Int) == (k:Int))=false:=by rw [beq_eq_false_iff_ne];exact hjk
     have HJB:=hJJ hjb
     clear hjb
     go_wp2_with fail
     refine (rhas_any _ _ _).mono ?_
     rintro e w' ⟨rfl,rfl⟩
     rw [HHB.out]
     cases hb with
     | false =>
      have SX:=hJJ (STOP.out (by rw [FQ.out];simp))
      go_wp2
      go_ret
      exact ⟨ret_bool SX.out,BW.out⟩
     | true =>
      go_wp2_with (refine lgZ 32 ⟨w.heap.size,0,none⟩ c rfl LT.out Tryz.underlying32 IA.out ?_)
      (try go_wp2_with fail)
      refine (BSJ.out _ BW.out).mono ?_
      rintro e u3 ⟨rfl,hb3⟩
      have HB3:=hJJ (HB.out.trans (hb3.mono HB.out.size))
      have BW3:Hid (Below w.heap.size w u3):=hJJ (BW.out.trans (hb3.mono BW.out.size))
      clear hb3
      have FV:Hid (confR T k j=bs):=hJJ (by rw [FQ.out,HJB.out];simp)
      cases bs with
      | true =>
       have SX:=hJJ (STOP.out FV.out)
       go_wp2
       go_ret
       exact ⟨ret_bool SX.out,BW3.out⟩
      | false =>
       have NX:=hJJ (NEXT.out FV.out)
       go_wp2
       go_roundw
       case rel=>exact ⟨q+1,by omega,by go_num,NX.out,HB3.out⟩
       case measure=>simp [intOf];omega
  ·have SX:Hid (true=x):=hJJ (by
    rw [HX.out,List.any_eq_false.2]
    ·rfl
    ·intro z hz
     obtain ⟨i,hi,rfl⟩:=List.getElem_of_mem hz
     have:=HA.out i (by omega)
     rw [List.getD_eq_getElem?_getD,List.getElem?_eq_getElem hi] at this
     simpa using this)
   go_wp2
   go_ret
   exact ⟨ret_bool SX.out,BW.out⟩
end RkA
namespace ChkG
open Zip
open Go.ChangeShapes Go.WideShapes Go.ChangeAt Go.RowKit
open Tab PlaceM PlanM OnS ChkM ChkA
open PlanW (wG wK wI idx0 idx1 info2 pwhere_any)
open May (ret_bool infoT St)
def atOk (T:Tab) (g k i:Nat) (p:Int):Bool:=at0 (where_ T p) == (g,k,i)
theorem at_iff (T:Tab) (g k i:Nat) (p:Int):atOk T g k i p=(decide (wG (where_ T p)=g) && (decide (wK (where_ T p)=k) && decide (wI (where_ T p)=i))):=by
 unfold atOk at0 wG wK wI
 cases where_ T p with
 | none=>rw [Bool.eq_iff_iff];simp;omega
 | some x=>rw [Bool.eq_iff_iff];simp;omega
theorem rep_row {T:Tab} {g k:Nat} {l:List Int}:repRow T g k l=false ↔ ∀ i,i < l.length→atOk T g k i (l.getD i 0)=true:=by
 unfold repRow
 rw [List.any_eq_false]
 constructor
 ·intro h i hi
  have:=h i (List.mem_range.2 hi)
  unfold atOk
  simpa using this
 ·intro h i hi
  have:=h i (List.mem_range.1 hi)
  unfold atOk at this
  simpa using this
theorem repeats_any (T:Tab) (h:Hd) (g:Nat) (w:World) (ht:IsTab w h T) (hg:g < T.groups.length) :
  Calls Tryz.prog 139 #[.agg (T.cells h).toArray,.int .i64 g] w fun e w'=>e=.returned (.bool (repeats T g))∧Below w.heap.size w w':=by
 obtain ⟨⟨ga,gcap⟩,sd,sr,sb⟩:=h
 have hsz1:=(cells_ok ht).size
 have IA:Hid ((Tryz.prog.info? 32).map (·.size)=some (T.cells ⟨⟨ga,gcap⟩,sd,sr,sb⟩).length):=hJJ (by rw [List.size_toArray] at hsz1;rw [hsz1];exact infoT)
 have WH:Hid (∀ p W,Below w.heap.size w W→Calls Tryz.prog 63 #[.agg (T.cells ⟨⟨ga,gcap⟩,sd,sr,sb⟩).toArray,.int .i64 p] W fun e w'=>e=.returned (.tuple #[I (wG (where_ T p)),I (wK (where_ T p)),I (wI (where_ T p)),.bool (where_ T p).isSome])∧Below W.heap.size W w'):=hJJ (fun p W hb=>pwhere_any T _ p W (ht.below hb))
 have LT0:=hJJ (Row.lies_new w (T.cells ⟨⟨ga,gcap⟩,sd,sr,sb⟩).toArray 32)
 have C:=hJJ (cells_ok ht)
 obtain ⟨gs,hgd,hgr⟩:=ht.groups
 have Hgr:=hJJ hgr
 have Hgd:=hJJ hgd
 have S0:=hJJ (St.box (cs:=(T.cells ⟨⟨ga,gcap⟩,sd,sr,sb⟩).toArray) ht)
 have Hgl:=hJJ (show T.groups.length=gs.length by rw [← hgd,List.length_map])
 have Kg:=hgr.1.len
 unfold maxLen at Kg
 have hlt:g < gs.length:=by rw [← Hgl.out];exact hg
 have hv:=List.getElem?_eq_getElem hlt
 generalize gs[g]=u at hv
 obtain ⟨x,hx,hc⟩:=hgr.1.at hv
 have hok:=hgr.2 u (List.mem_of_getElem? hv)
 have HD:Hid (rowsAt T g=u.data):=hJJ (rows_in (by rw [← hgd,List.getElem?_map,hv];rfl))
 obtain rfl:ga=some x:=hx
 obtain ⟨l0,l1,⟨a0,cap0⟩,⟨a1,cap1⟩⟩:=u
 have HC:Hid (Lies w (x.add (g*2)) [.slice a0 l0.length cap0,.slice a1 l1.length cap1]):=hJJ hc
 have HO:=hJJ hok
 have RS:Hid (repeats T g=(repRow T g 0 l0 || repRow T g 1 l1)):=hJJ (by unfold repeats;rw [HD.out];rfl)
 have AT:=hJJ (at_iff T)
 have RR:Hid (∀ {k l},repRow T g k l=false ↔ ∀ i,i < l.length→atOk T g k i (l.getD i 0)=true):=hJJ rep_row
 have q104:=S0.out.cell C.out.g
 rw [Hgl.out] at q104
 have Q104:Hid ((w.alloc (.cells (T.cells ⟨⟨some x,gcap⟩,sd,sr,sb⟩).toArray 32)).cell? ⟨w.heap.size,104,none⟩=some (.slice (some x) gs.length gcap)):=hJJ q104
 clear ht hgr hgd hv hc hok hsz1 q104 C
 obtain ⟨res,hres⟩:∃ r,r=repeats T g:=⟨_,rfl⟩
 rw [← hres]
 have HRES:=hJJ hres
 clear hres
 generalize hcc:T.cells ⟨⟨some x,gcap⟩,sd,sr,sb⟩=c at *
 clear hcc
 have hsz:c.toArray.size=131:=by
  have:=S0.out.blk
  have h2:=IA.out
  have h3:(Tryz.prog.info? 32).map (·.size)=some 131:=infoT
  rw [h3] at h2
  rw [List.size_toArray];exact (Option.some.inj h2).symm
 go_enter Tryz.func139,Tryz.ntmps139
 go_upto_region 1 with fail
 clear hsz
 generalize w.alloc (.cells c.toArray 32)=w1 at *
 have q104:=Q104.out
 have HC1:=hJJ (HC.out.below S0.out.bel)
 have HO1:=hJJ (HO.out.below S0.out.bel)
 clear HC HO
 go_wp2_with (refine Row.wpList_load_g 41 _ rfl (by first | rfl | go_simp) (x.add (g*2)) rfl [.slice a0 l0.length cap0,.slice a1 l1.length cap1] _ HC1.out Tryz.underlying41 rfl info2 ?_)
 clear q104
 go_loopw [18] (fun a wr=>∃ r:Nat,r≤2∧a=.int .i64 r∧(0 < r→repRow T g 0 l0=false)∧(1 < r→repRow T g 1 l1=false)∧Below w1.heap.size w1 wr) (fun a _=>2 - (intOf a).toNat)
 case atStart=>exact ⟨0,by omega,rfl,by omega,by omega,Below.refl _ _⟩
 case round =>
  obtain ⟨r,hr,rfl,h0,h1,hB⟩:=hrel
  have H0:=hJJ h0
  have H1:=hJJ h1
  have HB:=hJJ hB
  clear h0 h1 hB
  by_cases hr2:r < 2
  ·obtain ⟨l,a,cap,hidx,hrow,hring,hbad⟩:∃ (l:List Int) (a:Option Addr) (cap:Nat),(∀ W,Sem.run Tryz.prog (Instr.index 41 (.agg #[.slice a0 l0.length cap0,.slice a1 l1.length cap1]) (.int .i64 r)) W=.ok (.slice a l.length cap) W)∧IntRow wr ⟨a,cap⟩ l∧(repRow T g r l=false→(0 < r+1→repRow T g 0 l0=false)∧(1 < r+1→repRow T g 1 l1=false))∧(repRow T g r l=true→repeats T g=true):=by
    have:r=0∨r=1:=by omega
    rcases this with rfl | rfl
    ·exact ⟨l0,a0,cap0,fun W=>idx0 _ _ W,HO1.out.1.below HB.out,fun e=>⟨fun _=>e,by omega⟩,fun e=>by rw [RS.out,e];rfl⟩
    ·exact ⟨l1,a1,cap1,fun W=>idx1 _ _ W,HO1.out.2.below HB.out,fun e=>⟨fun _=>H0.out (by omega),fun _=>e⟩,fun e=>by rw [RS.out,e];simp⟩
   have HROW:=hJJ hrow
   have HRING:=hJJ hring
   have HBAD:=hJJ hbad
   have K:=hrow.len
   unfold maxLen at K
   clear hrow hring hbad
   go_wp2_with fail
   clear hidx
   go_loopw [24] (fun a' wk=>∃ j:Nat,j≤l.length∧a'=.int .i64 j∧(∀ i,i < j→atOk T g r i (l.getD i 0)=true)∧Below wr.heap.size wr wk) (fun a' _=>l.length - (intOf a').toNat)
   case atStart=>exact ⟨0,by omega,rfl,(fun i h=>by omega),Below.refl _ _⟩
   case round =>
    obtain ⟨j,hj,rfl,hall,hB2⟩:=hrel
    rename World=>wk
    have HA:=hJJ hall
    have HB2:=hJJ hB2
    clear hall hB2
    by_cases hjl:j < l.length
    ·have hv:=List.getElem?_eq_getElem hjl
     generalize hz:l[j]=z at hv
     obtain ⟨y,hy,hp⟩:=IntRow.at (HROW.out.below HB2.out) hv
     obtain rfl:a=some y:=hy
     have hgd:l.getD j 0=z:=by rw [List.getD_eq_getElem?_getD,hv];rfl
     have HGD:=hJJ hgd
     have LT:Hid (Lies wk ⟨w.heap.size,0,none⟩ c):=hJJ ((LT0.out.below HB.out).below HB2.out)
     have BW:Hid (Below w.heap.size w wk):=hJJ (S0.out.bel.trans ((HB.out.trans (HB2.out.mono HB.out.size)).mono S0.out.bel.size))
     clear hv hz hgd
     have hAT:=AT.out g r j z
     go_wp2_with (refine lgZ 32 ⟨w.heap.size,0,none⟩ c rfl LT.out Tryz.underlying32 IA.out ?_)
     refine (WH.out z _ BW.out).mono ?_
     rintro e u1 ⟨rfl,hb⟩
     have HB3:Hid (Below wr.heap.size wr u1):=hJJ (HB2.out.trans (hb.mono HB2.out.size))
     have BW1:Hid (Below w.heap.size w u1):=hJJ (BW.out.trans (hb.mono BW.out.size))
     clear hb LT BW HB2
     have HAT:=hJJ hAT
     clear hAT
     generalize wG (where_ T z)=oG at HAT ⊢
     generalize wK (where_ T z)=oK at HAT ⊢
     generalize wI (where_ T z)=oI at HAT ⊢
     generalize (where_ T z).isSome=oS
     have BAD:Hid (atOk T g r j z=false→true=res):=hJJ (fun e=>by
      rw [HRES.out];symm
      refine HBAD.out ?_
      cases hr:repRow T g r l with
      | true=>rfl
      | false=>rw [RR.out] at hr;have:=hr j hjl;rw [HGD.out,e] at this;cases this)
     by_cases e1:oG=(g:Int)
     ·by_cases e2:oK=(r:Int)
      ·by_cases e3:oI=(j:Int)
       ·subst e1 e2 e3
        have OK:=hJJ (show atOk T g r j z=true by rw [HAT.out];simp)
        go_wp2
        go_roundw
        case rel=>exact ⟨j+1,by omega,by go_num,(fun i hi=>by
         by_cases e:i=j
         ·subst e;rw [HGD.out];exact OK.out
         ·exact HA.out i (by omega)),HB3.out⟩
        case measure=>simp [intOf];omega
       ·have NO:=hJJ (BAD.out (by rw [HAT.out];simp [e3]))
        go_wp2
        go_ret
        exact ⟨ret_bool NO.out,BW1.out⟩
      ·have NO:=hJJ (BAD.out (by rw [HAT.out];simp [e2]))
       go_wp2
       go_ret
       exact ⟨ret_bool NO.out,BW1.out⟩
     ·have NO:=hJJ (BAD.out (by rw [HAT.out];simp [e1]))
      go_wp2
      go_ret
      exact ⟨ret_bool NO.out,BW1.out⟩
    ·have HE:=hJJ (HRING.out (by rw [RR.out];intro i hi;exact HA.out i (by omega)))
     have HB4:=hJJ (HB.out.trans (HB2.out.mono HB.out.size))
     go_wp2
     go_roundw
     case rel=>exact ⟨r+1,by omega,by go_num,HE.out.1,HE.out.2,HB4.out⟩
     case measure=>simp [intOf];omega
  ·have NO:=hJJ (show false=res by rw [HRES.out,RS.out,H0.out (by omega),H1.out (by omega)];rfl)
   have BW1:=hJJ (S0.out.bel.trans (HB.out.mono S0.out.bel.size))
   go_wp2
   go_ret
   exact ⟨ret_bool NO.out,BW1.out⟩
end ChkG
end Go.Proofs.YtjolhoilcibdfaaGreat
