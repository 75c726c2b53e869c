/- 15 texts in one file, in build order. -/
import Derived.Test.YtkkfdojjecagmaaGreatPart01
import Derived.Test.YtkkfdojjecagmaaGreatRows
import Derived.Test.YtkkfdojjecagmaaGreatPart06
import Derived.Test.YtkkfdojjecagmaaGreatPart04
import Derived.Test.YtkkfdojjecagmaaGreatPart02
import Derived.Deep.Cut
import Derived.WalkMore
import Derived.Great.BuildSlice
import Derived.RangeFuncCalls
import Derived.OrdersIn
import Derived.TacticsIn
import Derived.RangeFuncNested
import Derived.RangeFuncBound
import Derived.RangeFuncLeaves
import Derived.RangeFuncBox
import Derived.Shelf.Abstract
import Derived.Shelf.RegionOpen
import Derived.WalkKit
import Derived.OwnWalkIn
import Derived.TacticsInMore
import Derived.LoopNIn
import Derived.LoopIn
import Derived.Maps.AppendAt
import Derived.Laws.ResultCell
import Derived.Laws.Rows
import Derived.Test.YtkkfdojjecagmaaGreatPart03
set_option linter.unusedVariables false
set_option linter.unusedSimpArgs false
set_option linter.unusedSectionVars false
set_option maxHeartbeats 8000000
set_option maxRecDepth 100000
namespace Go.Proofs.YtkkfdojjecagmaaGreat
namespace PlanW
open Zip
open Go.ChangeShapes Go.WideShapes Go.ChangeAt Go.RowKit
open Tab PlaceM PlanM
open May (ret_bool chain infoP infoG St)
open SetP (of_any has_any)
theorem info2:(Tryz.prog.info? 65).map (·.size)=some 2:=by kernel_rfl
theorem infoT:(Tryz.prog.info? 31).map (·.size)=some 131:=by kernel_rfl
theorem row_one (w:World) (p:Int) (t:TypeId) (b:Nat) (hb:w.heap.size=b):RefS.Row (w.alloc (.cells #[.int .i64 p] t)) (some ⟨b,0,none⟩) [p]:=by
 subst hb
 refine ⟨by simp [maxLen],.inr ⟨_,rfl,fun i hi=>?_⟩⟩
 obtain rfl:i=0:=by simpa using hi
 rw [RefS.add_zero,cell_of_row _ _ _ _ _ _ (heap_alloc_new w _)]
 rfl
theorem idx0 (v0 v1:Value) (w:World):Sem.run Tryz.prog (Instr.index 65 (.agg #[v0,v1]) (.int .i64 0)) w=.ok v0 w:=by kernel_rfl
theorem idx1 (v0 v1:Value) (w:World):Sem.run Tryz.prog (Instr.index 65 (.agg #[v0,v1]) (.int .i64 1)) w=.ok v1 w:=by kernel_rfl
theorem has_one (p q:Int):SetM.has ((SetM.of [p]:Nat):Int) q=(decide (0≤p∧p < 8) && decide (q=p)):=by
 unfold SetM.has
 rw [SetM.low_nat _ (SetM.of_lt _),SetM.of_test]
 by_cases h0:0≤q
 ·obtain ⟨k,rfl⟩:=Int.eq_ofNat_of_zero_le h0
  simp only [Int.toNat_natCast,List.mem_singleton,h0,decide_true,Bool.true_and]
  rw [Bool.eq_iff_iff]
  simp only [Bool.and_eq_true,decide_eq_true_eq]
  omega
 ·rw [decide_eq_false h0,Bool.false_and]
  symm
  rw [Bool.and_eq_false_iff,decide_eq_false_iff_not,decide_eq_false_iff_not]
  omega
theorem results_tmp4 {P:Program} {fn:Func} {t u v x:Tmp} (h:fn.results=#[.tmp t,.tmp u,.tmp v,.tmp x]) (tmps:Array Value) (w:World) :
  (results fn tmps).run P w=.ok (.tuple #[tmps.getD t undef,tmps.getD u undef,tmps.getD v undef,tmps.getD x undef]) w:=by
 simp [results,h]
def wG:Option Spt→Int | some x=>x.g | none=>0
def wK:Option Spt→Int | some x=>x.k | none=>0
def wI:Option Spt→Int | some x=>x.i | none=>0
theorem where_none {T:Tab} {p:Int} (h:∀ x ∈ spots T,x.p ≠ p):where_ T p=none:=find_none h
theorem where_some {T:Tab} {p:Int} {x:Spt} (hx:x ∈ spots T) (hp:x.p=p) (hn:∀ y ∈ spots T,Lt y x→y.p ≠ p):where_ T p=some x:=by
 unfold where_ find
 exact find_hit (spots_sorted T) hx (by simpa using hp) (fun y hy hl=>by simpa using hn y hy hl)
theorem pwhere_any (T:Tab) (h:Hd) (p:Int) (w:World) (ht:IsTab w h T) :
  Calls Tryz.prog 179 #[.agg (T.cells h).toArray,.int .i64 p] w fun e w'=>e=.returned (.tuple #[I (wG (where_ T p)),I (wK (where_ T p)),I (wI (where_ T p)),.bool (where_ T p).isSome])∧Below w.heap.size w w':=by
 obtain ⟨⟨ga,gcap⟩,sd,sr,sb⟩:=h
 have C:=hJJ (cells_ok ht)
 generalize (T.cells ⟨⟨ga,gcap⟩,sd,sr,sb⟩).toArray=cs at C ⊢
 obtain ⟨gs,hgd,hgr⟩:=ht.groups
 have Hgr:=hJJ hgr
 have Hgd:=hJJ hgd
 have hsz:=C.out.size
 have S0:=hJJ (St.box (cs:=cs) ht)
 have Hgl:=hJJ (show T.groups.length=gs.length by rw [← hgd,List.length_map])
 have Kg:=hgr.1.len
 unfold maxLen at Kg
 have HS:Hid (∀ q,SetM.has ((SetM.of [p]:Nat):Int) q=(decide (0≤p∧p < 8) && decide (q=p))):=hJJ (has_one p)
 have WN:Hid ((∀ x ∈ spots T,x.p ≠ p)→where_ T p=none):=hJJ where_none
 have WS:Hid (∀ x,x ∈ spots T→x.p=p→(∀ y ∈ spots T,Lt y x→y.p ≠ p)→where_ T p=some x):=hJJ (fun x=>where_some)
 generalize where_ T p=o at WN WS ⊢
 clear ht hgr hgd
 go_enter Tryz.func179,Tryz.ntmps179
 go_upto_region 1 with fail
 generalize w.alloc (.cells cs 31)=w1 at S0 ⊢
 clear hsz
 go_step3
 go_wp2_with fail
 have hb1:Below w1.heap.size w1 (w1.alloc (.cells #[.int .i64 p] 3)):=(Below.refl _ _).alloc (Nat.le_refl _) _
 have hr:=row_one w1 p 3 _ rfl
 have S2:=hJJ (S0.out.step hb1)
 have HR:=hJJ hr
 clear hb1 hr S0
 generalize w1.alloc (.cells #[.int .i64 p] 3)=w2 at S2 HR ⊢
 refine (of_any _ _ [p] _ HR.out).mono ?_
 rintro e w' ⟨rfl,rfl⟩
 generalize ((SetM.of [p]:Nat):Int)=s0 at HS ⊢
 clear HR
 have q104:=S2.out.cell C.out.g
 rw [Hgl.out] at q104
 have Q104:Hid (w2.cell? ⟨w.heap.size,104,none⟩=some (.slice ga gs.length gcap)):=hJJ q104
 clear q104
 have q104:=Q104.out
 have LIFT:Hid (∀ W,Below w2.heap.size w2 W→∀ (z:Addr) (c:Value),w2.cell? z=some c→W.cell? z=some c):=hJJ (fun W hb z c hc=>(hb.cell (World.block_lt_of_cell? w2 _ hc)).trans hc)
 go_wp2_with fail
 go_step3
 go_wp2_with fail
 clear q104
 go_loopw [4,5,6,7,21] (fun a b c d g wr=>∃ q:Nat,q≤gs.length∧a=.int .i64 0∧b=.int .i64 0∧c=.int .i64 0∧d=.bool false∧g=.int .i64 q∧(∀ x ∈ spots T,x.g < q→x.p ≠ p)∧Below w2.heap.size w2 wr) (fun _ _ _ _ g _=>gs.length - (intOf g).toNat)
 case atStart=>exact ⟨0,by omega,rfl,rfl,rfl,rfl,rfl,(fun x _ h=>by omega),Below.refl _ _⟩
 case round =>
  obtain ⟨q,hq,rfl,rfl,rfl,rfl,rfl,hall,hbel⟩:=hrel
  have HA:=hJJ hall
  have HB:=hJJ hbel
  clear hall hbel
  by_cases hlt:q < gs.length
  ·have hv:=List.getElem?_eq_getElem hlt
   generalize gs[q]=u at hv
   obtain ⟨x,hx,hc⟩:=(Hgr.out.1.below (S2.out.bel.trans (HB.out.mono S2.out.bel.size))).at hv
   have hok:=(Hgr.out.2 u (List.mem_of_getElem? hv)).below (S2.out.bel.trans (HB.out.mono S2.out.bel.size))
   have HD:Hid (T.groups[q]?=some u.data):=hJJ (by rw [← Hgd.out,List.getElem?_map,hv];rfl)
   obtain rfl:ga=some x:=hx
   obtain ⟨l0,l1,⟨a0,cap0⟩,⟨a1,cap1⟩⟩:=u
   have HC:Hid (Lies wr (x.add (q*2)) [.slice a0 l0.length cap0,.slice a1 l1.length cap1]):=hJJ hc
   have HO:=hJJ hok
   clear hv hc hok
   have hwr:=HB.out.size
   go_upto_region 5 with (first | (refine Row.wpList_load_g 65 _ rfl (by first | rfl | go_simp) (x.add (q*2)) rfl [.slice a0 l0.length cap0,.slice a1 l1.length cap1] _ HC.out Tryz.underlying65 rfl info2 ?_) | (refine Row.wpList_store_new rfl 65 _ _ rfl wr #[.slice none 0 0,.slice none 0 0] #[.slice a0 l0.length cap0,.slice a1 l1.length cap1] rfl rfl rfl info2 rfl (by simp [Value.oneCell']) ?_))
   have hbn:Below w2.heap.size w2 (wr.alloc (.cells #[.slice a0 l0.length cap0,.slice a1 l1.length cap1] 65)):=HB.out.alloc hwr _
   have hbo:Below wr.heap.size wr (wr.alloc (.cells #[.slice a0 l0.length cap0,.slice a1 l1.length cap1] 65)):=(Below.refl _ _).alloc (Nat.le_refl _) _
   have hg:=Row.lies_of_block (heap_alloc_new wr (.cells #[.slice a0 l0.length cap0,.slice a1 l1.length cap1] 65))
   have HL:=hJJ hg
   have HO2:=hJJ (HO.out.below hbo)
   have HN:=hJJ hbn
   clear hg hbn hbo HC HO
   generalize wr.alloc (.cells #[.slice a0 l0.length cap0,.slice a1 l1.length cap1] 65)=w4 at HL HO2 HN ⊢
   generalize wr.heap.size=b4 at HL ⊢
   go_wp2_with (first | (refine lgZ 65 ⟨b4,0,none⟩ [.slice a0 l0.length cap0,.slice a1 l1.length cap1] rfl HL.out Tryz.underlying65 info2 ?_))
   go_loopw [4,5,6,7,27] (fun a b c d k wk=>∃ r:Nat,r≤2∧a=.int .i64 0∧b=.int .i64 0∧c=.int .i64 0∧d=.bool false∧k=.int .i64 r∧(∀ x ∈ spots T,x.g=q→x.k < r→x.p ≠ p)∧wk=w4) (fun _ _ _ _ k _=>2 - (intOf k).toNat)
   case atStart=>exact ⟨0,by omega,rfl,rfl,rfl,rfl,rfl,(fun x _ _ h=>by omega),rfl⟩
   case round =>
    obtain ⟨r,hr,rfl,rfl,rfl,rfl,rfl,hall,rfl⟩:=hrel
    have HA2:=hJJ hall
    clear hall
    by_cases hr2:r < 2
    ·obtain ⟨l,a,cap,hidx,hrow,hring⟩:∃ (l:List Int) (a:Option Addr) (cap:Nat),(∀ W,Sem.run Tryz.prog (Instr.index 65 (.agg #[.slice a0 l0.length cap0,.slice a1 l1.length cap1]) (.int .i64 r)) W=.ok (.slice a l.length cap) W)∧IntRow wr ⟨a,cap⟩ l∧ringOf (l0,l1) r=l:=by
      have:r=0∨r=1:=by omega
      rcases this with rfl | rfl
      ·exact ⟨l0,a0,cap0,fun W=>idx0 _ _ W,HO2.out.1,rfl⟩
      ·exact ⟨l1,a1,cap1,fun W=>idx1 _ _ W,HO2.out.2,rfl⟩
     have HROW:=hJJ hrow
     have HRING:=hJJ hring
     have K:=hrow.len
     unfold maxLen at K
     clear hrow hring
     go_wp2_with fail
     clear hidx
     go_loopw [4,5,6,7,33] (fun a0' b c d k wk=>∃ j:Nat,j≤l.length∧a0'=.int .i64 0∧b=.int .i64 0∧c=.int .i64 0∧d=.bool false∧k=.int .i64 j∧(∀ i,i < j→SetM.has s0 (l.getD i 0)=false)∧wk=wr) (fun _ _ _ _ k _=>l.length - (intOf k).toNat)
     case atStart=>exact ⟨0,by omega,rfl,rfl,rfl,rfl,rfl,(fun i h=>by omega),rfl⟩
     case round =>
      obtain ⟨j,hj,rfl,rfl,rfl,rfl,rfl,hall,rfl⟩:=hrel
      have HA3:=hJJ hall
      clear hall
      by_cases hjl:j < l.length
      ·have hv:=List.getElem?_eq_getElem hjl
       generalize hz:l[j]=z at hv
       obtain ⟨y,hy,hp⟩:=IntRow.at HROW.out hv
       obtain rfl:a=some y:=hy
       have HV:=hJJ hv
       have hgd:l.getD j 0=z:=by rw [List.getD_eq_getElem?_getD,hv];rfl
       have HGD:=hJJ hgd
       clear hv hz hgd
       cases hh:SetM.has s0 z with
       | true =>
        have HF:Hid (o=some ⟨q,r,j,p⟩):=hJJ (by
         have h1:=HS.out z
         rw [hh] at h1
         simp only [Eq.comm (a:=true),Bool.and_eq_true,decide_eq_true_eq] at h1
         obtain ⟨⟨p0,p8⟩,rfl⟩:=h1
         refine WS.out _ (mem_spots.2 ⟨(l0,l1),HD.out,by rw [HRING.out];exact HV.out,p0,p8⟩) rfl fun y hy hl=>?_
         unfold Lt at hl
         simp only at hl
         rcases hl with hl | ⟨hl,hl2 | ⟨hl2,hl3⟩⟩
         ·exact HA.out y hy hl
         ·exact HA2.out y hy hl hl2
         ·intro e
          obtain ⟨z,h2,h3,_⟩:=mem_spots.1 hy
          rw [hl,HD.out] at h2
          obtain rfl:=Option.some.inj h2
          have h4:l[y.i]?=some y.p:=by have:=h3;rw [hl2] at this;rw [← HRING.out];exact this
          have h5:=HA3.out y.i hl3
          rw [List.getD_eq_getElem?_getD,h4] at h5
          have h6:=HS.out y.p
          rw [show SetM.has s0 y.p=false from h5,e] at h6
          simp [p0,p8] at h6)
        go_wp2_with (go_at_call 153;refine (has_any _ _ _).mono ?_;rintro e w' ⟨rfl,rfl⟩;rw [hh])
        (try rw [Exit.noGoto_ret])
        (try simp only [Exit.inBlock,Exit.then])
        refine bodyPost_ret (v:=.tuple #[I q,I r,I j,.bool true]) ?_ rfl ⟨?_,?_⟩
        ·exact results_tmp4 (fn:=Tryz.f179) (t:=4) (u:=5) (v:=6) (x:=7) rfl _ _
        ·rw [HF.out];rfl
        ·exact S2.out.bel.trans (HN.out.mono S2.out.bel.size)
       | false =>
        go_wp2_with (go_at_call 153;refine (has_any _ _ _).mono ?_;rintro e w' ⟨rfl,rfl⟩;rw [hh])
        go_roundw
        case rel=>exact ⟨j+1,by omega,rfl,rfl,rfl,rfl,by go_num,(fun i hi=>by
         by_cases e:i=j
         ·subst e;rw [HGD.out];exact hh
         ·exact HA3.out i (by omega)),trivial⟩
        case measure=>simp [intOf];omega
      ·have HN:Hid (∀ x ∈ spots T,x.g=q→x.k < r+1→x.p ≠ p):=hJJ (fun y hy h1 h2 e=>by
        by_cases h3:y.k < r
        ·exact HA2.out y hy h1 h3 e
        ·obtain ⟨z,h4,h5,h6,h7⟩:=mem_spots.1 hy
         rw [h1,HD.out] at h4
         obtain rfl:=Option.some.inj h4
         have hk:y.k=r:=by omega
         have h8:l[y.i]?=some y.p:=by rw [hk] at h5;rw [← HRING.out];exact h5
         have h9:=HA3.out y.i (by have:=(List.getElem?_eq_some_iff.1 h8).1;omega)
         rw [List.getD_eq_getElem?_getD,h8] at h9
         have h10:=HS.out y.p
         rw [show SetM.has s0 y.p=false from h9,e] at h10
         rw [e] at h6 h7
         simp [h6,h7] at h10)
       go_wp2
       go_roundw
       case rel=>exact ⟨r+1,by omega,rfl,rfl,rfl,rfl,by go_num,HN.out,trivial⟩
       case measure=>simp [intOf];omega
    ·have HN3:Hid (∀ x ∈ spots T,x.g < q+1→x.p ≠ p):=hJJ (fun y hy h1 e=>by
      by_cases h3:y.g < q
      ·exact HA.out y hy h3 e
      ·obtain ⟨z,h4,h5,_⟩:=mem_spots.1 hy
       refine HA2.out y hy (by omega) ?_ e
       unfold ringOf at h5
       by_cases h6:y.k=0
       ·omega
       ·by_cases h7:y.k=1
        ·omega
        ·rw [if_neg h6,if_neg h7] at h5;simp at h5)
     go_wp2
     go_roundw
     case rel=>exact ⟨q+1,by omega,rfl,rfl,rfl,rfl,by go_num,HN3.out,HN.out⟩
     case measure=>simp [intOf];omega
  ·have HF:Hid (o=none):=hJJ (WN.out (fun y hy=>by
    refine HA.out y hy ?_
    obtain ⟨z,h4,_⟩:=mem_spots.1 hy
    have:=(List.getElem?_eq_some_iff.1 h4).1
    rw [Hgl.out] at this
    omega))
   go_wp2
   (try rw [Exit.noGoto_ret])
   (try simp only [Exit.inBlock,Exit.then])
   refine bodyPost_ret (v:=.tuple #[I 0,I 0,I 0,.bool false]) ?_ rfl ⟨?_,?_⟩
   ·exact results_tmp4 (fn:=Tryz.f179) (t:=4) (u:=5) (v:=6) (x:=7) rfl _ _
   ·rw [HF.out];rfl
   ·exact S2.out.bel.trans (HB.out.mono S2.out.bel.size)
theorem pbeside_raw (c:List Value) (p q g1 k1 i1 g2 k2 i2:Int) (ok1 ok2:Bool) (w:World) (hc:c.length=131)
  (V1:Hid (∀ W,Below w.heap.size w W→Calls Tryz.prog 179 #[.agg c.toArray,.int .i64 p] W fun e w'=>e=.returned (.tuple #[I g1,I k1,I i1,.bool ok1])∧Below W.heap.size W w'))
  (V2:Hid (∀ W,Below w.heap.size w W→Calls Tryz.prog 179 #[.agg c.toArray,.int .i64 q] W fun e w'=>e=.returned (.tuple #[I g2,I k2,I i2,.bool ok2])∧Below W.heap.size W w')) :
  Calls Tryz.prog 154 #[.agg c.toArray,.int .i64 p,.int .i64 q] w fun e w'=>e=.returned (.bool (ok1 && ok2 && g1 == g2 && k1 != k2))∧Below w.heap.size w w':=by
 have hsz:c.toArray.size=131:=by simpa using hc
 have IA:Hid ((Tryz.prog.info? 31).map (·.size)=some c.length):=hJJ (by rw [hc];exact infoT)
 have A0:Hid (Below w.heap.size w (w.alloc (.cells c.toArray 31))):=hJJ ((Below.refl _ _).alloc (Nat.le_refl _) _)
 have A1:Hid (Lies (w.alloc (.cells c.toArray 31)) ⟨w.heap.size,0,none⟩ c):=hJJ (Row.lies_new w _ _)
 generalize hr:(ok1 && ok2 && g1 == g2 && k1 != k2)=r
 have HR:=hJJ hr
 clear hr hc
 go_enter Tryz.func154,Tryz.ntmps154
 go_upto_region 1 with fail
 generalize w.alloc (.cells c.toArray 31)=u at A0 A1 ⊢
 clear hsz
 go_wp2_with (refine lgZ 31 ⟨w.heap.size,0,none⟩ c rfl A1.out Tryz.underlying31 IA.out ?_)
 refine (V1.out _ A0.out).mono ?_
 rintro e u1 ⟨rfl,hb⟩
 have B0:Hid (Below w.heap.size w u1):=hJJ (A0.out.trans (hb.mono A0.out.size))
 have B1:=hJJ (A1.out.below hb)
 clear hb A0 A1 V1
 go_wp2_with (refine lgZ 31 ⟨w.heap.size,0,none⟩ c rfl B1.out Tryz.underlying31 IA.out ?_)
 refine (V2.out _ B0.out).mono ?_
 rintro e u3 ⟨rfl,hb⟩
 have HF:Hid (Below w.heap.size w u3):=hJJ (B0.out.trans (hb.mono B0.out.size))
 clear hb B0 B1 V2 IA
 cases ok1
 ·go_wp2
  go_ret
  exact ⟨ret_bool (by rw [← HR.out];simp),HF.out⟩
 cases ok2
 ·go_wp2
  go_ret
  exact ⟨ret_bool (by rw [← HR.out];simp),HF.out⟩
 by_cases hg:g1=g2
 ·have e1:(g1 == g2)=true:=by simpa using hg
  have E1:=hJJ e1
  clear hg
  go_wp2
  go_ret
  exact ⟨ret_bool (by rw [← HR.out,E1.out];simp),HF.out⟩
 ·have e1:(g1 == g2)=false:=by simpa using hg
  have E1:=hJJ e1
  clear hg
  go_wp2
  go_ret
  exact ⟨ret_bool (by rw [← HR.out,E1.out];simp),HF.out⟩
theorem pbeside_any (T:Tab) (h:Hd) (p q:Int) (w:World) (ht:IsTab w h T) :
  Calls Tryz.prog 154 #[.agg (T.cells h).toArray,.int .i64 p,.int .i64 q] w fun e w'=>e=.returned (.bool (beside T p q))∧Below w.heap.size w w':=by
 have hsz:=(cells_ok ht).size
 rw [List.size_toArray] at hsz
 have V:=fun r W (hb:Below w.heap.size w W)=>pwhere_any T h r W (ht.below hb)
 have V1:=V p
 have V2:=V q
 have hB:beside T p q=match where_ T p,where_ T q with
  | some a,some b=>a.g == b.g && a.k != b.k
  | _,_=>false:=rfl
 rw [hB]
 generalize where_ T p=o1 at V1 ⊢
 generalize where_ T q=o2 at V2 ⊢
 have e0:∀ a b:Nat,((a:Int) == (b:Int))=(a == b):=fun a b=>by
  by_cases h:a=b
  ·subst h;simp
  ·rw [beq_eq_false_iff_ne.2 h,beq_eq_false_iff_ne.2 (by omega)]
 have e1:∀ a b:Nat,((a:Int) != (b:Int))=(a != b):=fun a b=>by unfold bne;rw [e0]
 cases o1 with
 | none =>
  cases o2 with
  | none=>exact pbeside_raw _ p q 0 0 0 0 0 0 false false w hsz (hJJ V1) (hJJ V2)
  | some b=>exact pbeside_raw _ p q 0 0 0 b.g b.k b.i false true w hsz (hJJ V1) (hJJ V2)
 | some a =>
  cases o2 with
  | none=>exact pbeside_raw _ p q a.g a.k a.i 0 0 0 true false w hsz (hJJ V1) (hJJ V2)
  | some b =>
   have:=pbeside_raw _ p q a.g a.k a.i b.g b.k b.i true true w hsz (hJJ V1) (hJJ V2)
   rw [e0,e1] at this
   simpa using this
end PlanW
namespace ChkX
open Go Tab PlaceM PlanM OnS May ChkM
theorem has_bits {a q:Int}:SetM.has a q=true ↔ 0≤q∧q < 8∧(SetM.low a).testBit q.toNat=true:=by
 unfold SetM.has
 rw [Bool.and_eq_true,decide_eq_true_eq]
 constructor
 ·rintro ⟨h1,h2⟩
  refine ⟨h1,?_,h2⟩
  by_cases h8:q < 8
  ·exact h8
  ·rw [SetM.test_high _ _ (SetM.low_lt a) (by omega)] at h2;cases h2
 ·rintro ⟨h1,_,h2⟩;exact ⟨h1,h2⟩
theorem low_ne {m:Nat} (hm:m < 256):m ≠ 0 ↔ ∃ q:Int,SetM.has (m:Int) q=true:=by
 constructor
 ·intro h
  refine Classical.byContradiction fun hn=>h ?_
  refine Nat.eq_of_testBit_eq fun k=>?_
  rw [Nat.zero_testBit]
  cases ht:m.testBit k with
  | false=>rfl
  | true =>
   exfalso
   refine hn ⟨(k:Int),has_bits.2 ⟨by omega,?_,?_⟩⟩
   ·by_cases h8:k < 8
    ·omega
    ·rw [SetM.test_high _ _ hm (by omega)] at ht;cases ht
   ·rw [SetM.low_nat _ hm,Int.toNat_natCast];exact ht
 ·rintro ⟨q,hq⟩ rfl
  have:=(has_bits.1 hq).2.2
  rw [SetM.low_nat _ hm,Nat.zero_testBit] at this
  cases this
theorem andNot_eq {a:Int} (ha:0≤a∧a≤255) {m:Nat} (hm:m < 256):bits .andNot .i64 a (m:Int)=((SetM.low a &&& (255 - m):Nat):Int):=by
 obtain ⟨k,rfl⟩:=Int.eq_ofNat_of_zero_le ha.1
 have hk:k < 256:=by omega
 have h1:=SetM.andNot_low (k:Int) m hm
 have e:bits .andNot .i64 (k:Int) (m:Int)=IntKind.i64.wrap (((BitVec.ofInt 64 (k:Int) &&& ~~~ BitVec.ofInt 64 (m:Int)).toNat:Nat):Int):=rfl
 have hlt:(BitVec.ofInt 64 (k:Int) &&& ~~~ BitVec.ofInt 64 (m:Int)).toNat < 256:=by
  rw [BitVec.toNat_and,SetM.toNat_ofNat k hk]
  exact Nat.lt_of_le_of_lt Nat.and_le_left hk
 rw [e,SetM.wrap_small _ hlt] at h1 ⊢
 rw [← h1,SetM.low_nat _ hlt]
theorem not_bit {m k:Nat} (hm:m < 256) (hk:k < 8):(255 - m).testBit k=!m.testBit k:=by
 have:∀ m:Fin 256,∀ k:Fin 8,(255 - m.val).testBit k.val=!m.val.testBit k.val:=by decide +kernel
 exact this ⟨m,hm⟩ ⟨k,hk⟩
theorem andNot_zero {a:Int} (ha:0≤a∧a≤255) {m:Nat} (hm:m < 256):bits .andNot .i64 a (m:Int)=0 ↔ ∀ q,SetM.has a q=true→SetM.has (m:Int) q=true:=by
 rw [andNot_eq ha hm]
 have hlt:SetM.low a &&& (255 - m) < 256:=Nat.lt_of_le_of_lt Nat.and_le_left (SetM.low_lt a)
 have h0:((SetM.low a &&& (255 - m):Nat):Int)=0 ↔ ¬ (SetM.low a &&& (255 - m)) ≠ 0:=by omega
 rw [h0,low_ne hlt]
 constructor
 ·intro h q hq
  obtain ⟨h1,h2,h3⟩:=has_bits.1 hq
  refine Classical.byContradiction fun hn=>h ⟨q,has_bits.2 ⟨h1,h2,?_⟩⟩
  rw [SetM.low_nat _ hlt,Nat.testBit_and,h3,not_bit hm (by omega),Bool.true_and]
  cases ht:m.testBit q.toNat with
  | false=>rfl
  | true=>exact absurd (has_bits.2 ⟨h1,h2,by rw [SetM.low_nat _ hm];exact ht⟩) hn
 ·rintro h ⟨q,hq⟩
  obtain ⟨h1,h2,h3⟩:=has_bits.1 hq
  rw [SetM.low_nat _ hlt,Nat.testBit_and,not_bit hm (by omega),Bool.and_eq_true] at h3
  have h4:=(has_bits.1 (h q (has_bits.2 ⟨h1,h2,h3.1⟩))).2.2
  rw [SetM.low_nat _ hm] at h4
  rw [h4] at h3
  cases h3.2
theorem allOn_iff {T:Tab} {s:Int} (hs:0≤s∧s≤255):allOn T s=true ↔ ∀ q,SetM.has s q=true→SetM.has (onS T:Nat) q=true:=by
 unfold allOn
 rw [beq_iff_eq,andNot_zero hs (show onS T < 256 from SetM.of_lt _)]
theorem has_of {l:List Int} {q:Int}:SetM.has ((SetM.of l:Nat):Int) q=true ↔ 0≤q∧q < 8∧q ∈ l:=by
 rw [has_bits,SetM.low_nat _ (SetM.of_lt _),SetM.of_test,decide_eq_true_eq]
 constructor
 ·rintro ⟨h1,h2,h3,_⟩;exact ⟨h1,h2,by rwa [Int.toNat_of_nonneg h1] at h3⟩
 ·rintro ⟨h1,h2,h3⟩;exact ⟨h1,h2,by rwa [Int.toNat_of_nonneg h1],by omega⟩
theorem mem_ons {T:Tab} {q:Int}:q ∈ ons T ↔ SetM.has (onS T:Nat) q=true:=SetM.mem_list _ _
theorem allIn_iff {m:Int} {l:List Int}:allIn m l=true ↔ ∀ x ∈ l,0≤x∧x≤m:=by
 unfold allIn inB
 rw [List.all_eq_true]
 constructor
 ·intro h x hx;have:=h x hx;simpa using this
 ·intro h x hx;have:=h x hx;simpa using this
structure InR (T:Tab):Prop where
 ph:∀ u ∈ T.phases,Ph.may u=true
 gr:∀ g ∈ T.groups,groupMay g=true
 cf:∀ x ∈ T.conflict,0≤x∧x≤255
 dt:∀ d ∈ T.dets,Det.may d=true
 rl:∀ r ∈ T.rails,Rl.may r=true
 bs:∀ b ∈ T.buses,Bs.may b=true
theorem in_ranges {T:Tab} (h:tabMay T=true):InR T:=by
 unfold tabMay listMay at h
 simp only [Bool.and_eq_true,List.all_eq_true] at h
 obtain ⟨⟨_,h1⟩,⟨_,h2⟩,h3,⟨_,h4⟩,⟨_,h5⟩,⟨_,h6⟩,_⟩:=h
 exact ⟨h1,h2,allIn_iff.1 h3,h4,h5,h6⟩
end ChkX
namespace Up
open Go Go.RowKit
def noDefer (l:List Oper):Bool:=l.all fun o=>match o.op with | .defer _=>false | _=>true
theorem not_defer {l:List Oper} (h:noDefer l=true) {o:Oper} (ho:o ∈ l):∀ c,o.op ≠ .defer c:=by
 intro c e
 have:=List.all_eq_true.1 h o ho
 rw [e] at this
 cases this
section
variable {P:Program} {l n:Nat} {Q:Exit→Act→World→Prop}
theorem op_up {o:Oper} {a:Act} {w:World} {K K':Act→World→Prop} (hn:∀ a w,K a w→K' a w) (hd:∀ c,o.op ≠ .defer c) (h:o.wp P a w K Q):o.wpIn (Fence.wide.inRound l) n P a w K' Q:=by
 refine ⟨fun _ _=>trivial,?_⟩
 rw [show (Fence.wide.inRound l).round=some l from rfl,Oper.semAt_some l _ _ hd]
 unfold Oper.wp at h
 generalize (execOp a.eval o).run P w=r at h
 cases r with
 | ok nx w' =>
  cases nx with
  | value v=>exact hn _ _ h
  | skip=>exact hn _ _ h
  | defer d=>exact hn _ _ h
  | enter f args =>
   refine ⟨fun h=>(by cases h),CallsIn.inRound l (callsIn_wide.2 (Calls.mono h ?_))⟩
   intro e w'' he
   cases e with
   | returned v=>exact hn _ _ he
   | panicked c=>exact he
   | outgrown=>exact he
  | row row args=>exact ⟨fun h=>(by cases h),fun c cs _=>let ⟨v,w',r,s⟩:=h c cs;⟨v,w',hn _ _ r,stepsIn_wide.2 s⟩⟩
  | _=>exact h.elim
 | halt e w' =>
  cases e with
  | panic v=>exact h
  | _=>exact h.elim
theorem list_up (hQ:¬ LetsOut Q) {ops:Array Oper}:∀ (m:List Oper) (a:Act) (w:World),noDefer m=true→wpList P ops Q m a w→wpListIn (Fence.wide.inRound l) n P ops Q m a w
 | [],a,w,_,h=>h
 | o :: rest,a,w,hd,h=>by
  have hr:noDefer rest=true:=by unfold noDefer at hd ⊢;rw [List.all_cons,Bool.and_eq_true] at hd;exact hd.2
  unfold wpList at h
  unfold wpListIn
  split at h
  ·rename_i hw
   rw [if_pos hw]
   rcases h with h | h
   ·exact op_up (fun a w h=>list_up hQ rest a w hr h) (not_defer hd (List.mem_cons_self ..)) h
   ·exact absurd h.2 hQ
  ·rename_i hw
   rw [if_neg hw]
   exact ⟨fun _ _=>trivial,list_up hQ rest _ _ hr h⟩
theorem any_up (hQ:¬ LetsOut Q) {md:Region.Mode} {ops:Array Oper} (hd:noDefer ops.toList=true):∀ (fuel:Nat) (listed:Array Bool) (a:Act) (w:World),wpAny P md ops Q fuel listed a w→wpAnyIn (Fence.wide.inRound l) n P md ops Q fuel listed a w
 | 0,_,_,_,h=>h
 | fuel+1,listed,a,w,h=>by
  refine ⟨h.1,fun i hi=>?_⟩
  have h1:=h.2 i hi
  unfold wpOp at h1
  unfold wpOpIn
  cases ho:ops[i]? with
  | none=>rw [ho] at h1;exact any_up hQ hd fuel _ _ _ h1
  | some o =>
   rw [ho] at h1
   have hm:o ∈ ops.toList:=List.mem_of_getElem? (by rw [Array.getElem?_toList];exact ho)
   dsimp only at h1 ⊢
   split at h1
   ·rename_i hw
    rw [if_pos hw]
    rcases h1 with h1 | h1
    ·exact op_up (fun a w h=>any_up hQ hd fuel _ a w h) (not_defer hd hm) h1
    ·exact absurd h1.2 hQ
   ·rename_i hw
    rw [if_neg hw]
    exact ⟨fun _ _=>trivial,any_up hQ hd fuel _ _ _ h1⟩
theorem region_list {id:Nat} {m:List Oper} {a:Act} {w:World} (hQ:¬ LetsOut Q) (hd:noDefer m=true) (h:wpList P m.toArray Q m a w):(Code.region id m.toArray false).wpIn (Fence.wide.inRound l) n P Q a w :=
 wpIn_region_lit (list_up hQ m a w hd h)
theorem region_ph {id:Nat} {a:Act} {w:World} {m:List Oper} (D:Nat→World→Prop) (cs:List Nat) (hQ:¬ LetsOut Q) (hd:noDefer m=true) (hm:P.follows .mixedOrders=true) (hB:Ph.okB .any m.toArray cs=true) (hD:D 0 w.drew)
  (h:Pw.W P m.toArray D cs (fun a'=>∀ w',D cs.length w'→Q .normal a' w') 0 m a):(Code.region id m.toArray true).wpIn (Fence.wide.inRound l) n P Q a w:=by
 have h:=h.out
 simp only [Ph.okB,Bool.and_eq_true] at hB
 obtain ⟨⟨hs,hc⟩,hlex⟩:=hB
 have h1:=Ph.wpAnyP_lex (md:=.any) hs hc m 0 (Array.replicate m.toArray.size false) a (by simp) (by simpa using hlex) h
 refine wpIn_region_any hm (any_up hQ (by simpa using hd) _ _ _ _ ?_)
 refine Ph.wpAny_of_ph (D:=D) (cs:=cs) (Q:=fun L a=>(cs.all fun c=>L.getD c false)=true∧∀ w',D cs.length w'→Q .normal a w') (fun L a w ⟨p,hp,hat,hd⟩ ⟨hall,hq⟩=>?_) _ _ _ _ (by simp) ⟨0,Nat.zero_le _,fun q c _=>by rw [getD_replicate_false];simp,hD⟩ (by simpa using h1)
 have hpe:p=cs.length:=by
  rcases Nat.lt_or_ge p cs.length with h2 | h2
  ·have h3:=hat p _ (List.getElem?_eq_getElem h2)
   have h4:=List.all_eq_true.1 hall _ (List.getElem_mem h2)
   rw [h4] at h3
   have:=of_decide_eq_true h3.symm
   omega
  ·omega
 subst hpe
 exact hq w hd
end
end Up
namespace Each
open Zip
open Go.RowKit Go.Shelf
open Go.Proofs.YtkkfdojjecagmaaGreat
attribute [local go_sem] Oper.semAt_some
def Kept (B:Nat) (W W':World):Prop:=W'.heap[B]?=W.heap[B]?
theorem Kept.refl (B:Nat) (W:World):Kept B W W:=rfl
theorem Kept.trans {B:Nat} {A C D:World} (h:Kept B A C) (k:Kept B C D):Kept B A D:=Eq.trans k h
theorem Kept.cell {B o:Nat} {A C:World} (h:Kept B A C):C.cell? ⟨B,o,none⟩=A.cell? ⟨B,o,none⟩:=by
 simp only [World.cell?,show C.heap[B]?=A.heap[B]? from h]
theorem Kept.below {n₀ B:Nat} {A C:World} (h:Below n₀ A C) (hB:B < n₀):Kept B A C:=h.block B hB
theorem Kept.setCell {B b o:Nat} (W:World) (v:Value) (h:B ≠ b):Kept B W (W.setCell ⟨b,o,none⟩ v):=Below.heap_setCell _ _ _ B h
theorem kept_b {B:Nat} {w:World} (hB:B < w.heap.size) (W:World) (l:Nat) (o o':Obj) (hl:w.heap.size≤l) (_:W.heap[l]?=some o) (_:o.isCells=false) (_:o.isWalk=false):Kept B W (W.putObj l o') :=
 World.putObj_heap_other (by omega)
theorem each1_in (n:Nat) (hn:1≤n) (l Bs:Nat) (s:Int) (J Jx:List Int→World→Prop)
  (hY:∀ pre (x:Int) W,J pre W→pre++[x] <+: SetM.list s→YieldAt Fence.wide (n - 1) Tryz.prog l #[.int .i64 x] W fun e W' =>
   (e=.returned (.bool true)∧J (pre++[x]) W'∧Kept Bs W W')∨(e=.returned (.bool false)∧Jx (pre++[x]) W'))
  (W:World) (hc:W.cell? ⟨Bs,0,none⟩=some (.int .i64 s)) (h0:J [] W) :
  CallsIn Fence.wide n Tryz.prog 173 #[.func (.yield l) #[] #[],.pointer (some ⟨Bs,0,none⟩)] W fun e W'=>(∃ v,e=.returned v) ∧
   ((∃ ys,ys=SetM.list s∧J ys W')∨(∃ pre,pre <+: SetM.list s∧Jx pre W')):=by
 refine callsIn_of_wp Tryz.func173 rfl trivial ?_ rfl
 simp only [Tryz.ntmps173,List.size_toArray,List.length_cons,List.length_nil,Nat.reduceAdd,Nat.reduceSub,Array.replicate_succ,Array.replicate_zero,List.push_toArray,List.append_toArray,List.nil_append,List.cons_append]
 gi_wp2
 gi_loopw [4] (fun i wr=>∃ k:Nat,k≤8∧i=.int .i64 k∧J (SetM.upto s k) wr∧Kept Bs W wr)
  (fun i _=>8 - (intOf i).toNat)
 case atStart=>exact ⟨0,Nat.zero_le _,rfl,h0,Kept.refl _ _⟩
 case round =>
  obtain ⟨k,hk,rfl,hJs,hnx⟩:=hrel
  have hcx:=(hnx.cell (o:=0)).trans hc
  by_cases hlt:k < 8
  ·by_cases hh:SetM.has s k=true
   ·obtain ⟨fn,tmps,assign,body,hy,hR⟩:=hY _ (k:Int) wr hJs (by rw [← SetM.upto_hit s k hh];exact SetM.upto_list s (k+1) (by omega))
    have Hs:=hJJ (SetM.upto_hit s k hh)
    have Hp:=hJJ (SetM.upto_list s (k+1) (by omega))
    gi_wp2_with (refine ⟨trivial,?_⟩;gi_at_call 153;refine (callsIn_wide.2 (SetP.has_any _ _ _)).mono ?_;rintro e w' ⟨rfl,rfl⟩;rw [hh])
    refine hR.mono ?_
    rintro e W3 (⟨rfl,hJ3,hk3⟩ | ⟨rfl,hJx3⟩)
    ·gi_wp2
     go_roundw
     case rel=>exact ⟨k+1,by omega,by go_num,by rw [Hs.out];exact hJ3,hnx.trans hk3⟩
     case measure=>simp [intOf];omega
    ·gi_wp2
     refine bodyPost_ret (results_none rfl _ _ _) rfl ?_
     exact ⟨⟨_,rfl⟩,.inr ⟨_,by rw [← Hs.out];exact Hp.out,hJx3⟩⟩
   ·have hh':SetM.has s k=false:=by simpa using hh
    have Hs:=hJJ (SetM.upto_miss s k hh')
    clear hh
    gi_wp2_with (refine ⟨trivial,?_⟩;gi_at_call 153;refine (callsIn_wide.2 (SetP.has_any _ _ _)).mono ?_;rintro e w' ⟨rfl,rfl⟩;rw [hh'])
    refine ⟨fun _ h=>(by cases h),?_⟩
    gi_wp2
    go_roundw
    case rel=>exact ⟨k+1,by omega,by go_num,by rw [Hs.out];exact hJs,hnx⟩
    case measure=>simp [intOf];omega
  ·obtain rfl:k=8:=by omega
   gi_wp2
   go_end0
   exact ⟨⟨_,rfl⟩,.inl ⟨_,rfl,hJs⟩⟩
theorem each_in (n:Nat) (s:Int) (w:World) :
  CallsIn Fence.wide n Tryz.prog 149 #[.int .i64 s] w fun e w'=>e=.returned (.func (.func 173) #[] #[.pointer (some ⟨w.heap.size,0,none⟩)])∧w'=w.alloc (.cells #[.int .i64 s] 3):=by
 refine callsIn_of_wp Tryz.func149 rfl trivial ?_ rfl
 simp only [Tryz.ntmps149,List.size_toArray,List.length_cons,List.length_nil,Nat.reduceAdd,Nat.reduceSub,Array.replicate_succ,Array.replicate_zero,List.push_toArray,List.append_toArray,List.nil_append,List.cons_append]
 gi_wp2
 go_ret
 exact ⟨rfl,rfl⟩
abbrev Mem (s:Int):={ x:Int // x ∈ SetM.list s }
theorem each_mem (n:Nat) (hn:1≤n) (Bs:Nat) (s:Int) (w:World) (hBs:Bs < w.heap.size) (hc:w.cell? ⟨Bs,0,none⟩=some (.int .i64 s)) :
  SeqStopsK Fence.wide n Tryz.prog 173 #[.pointer (some ⟨Bs,0,none⟩)] (fun x:Mem s=>#[Value.int .i64 x.1]) (Kept Bs) (fun ys=>ys.map Subtype.val=SetM.list s) (fun pre=>pre.map Subtype.val <+: SetM.list s) (SetM.list s).length w:=fun l J Jx W hW _ _ hY h0=>by
 refine (each1_in n hn l Bs s (fun pre W=>∃ m:List (Mem s),m.map Subtype.val=pre∧J m W) (fun pre W=>∃ m:List (Mem s),m.map Subtype.val=pre∧Jx m W) ?_ W ((hW.cell (p:=⟨Bs,0,none⟩) hBs).trans hc) ⟨[],rfl,h0⟩).mono ?_
 ·rintro pre x W1 ⟨m,rfl,hJ⟩ hp
  have hx:x ∈ SetM.list s:=hp.subset (by simp)
  have hl:m.length < (SetM.list s).length:=by have:=hp.length_le;simp at this;omega
  obtain ⟨fn,tmps,assign,body,hy,hR⟩:=hY m ⟨x,hx⟩ W1 hJ hl
  refine ⟨fn,tmps,assign,body,hy,hR.mono ?_⟩
  rintro e W' (⟨h1,h2,h3⟩ | ⟨h1,h2⟩)
  ·exact .inl ⟨h1,⟨_,by simp,h2⟩,h3⟩
  ·exact .inr ⟨h1,⟨_,by simp,h2⟩⟩
 ·rintro e W' ⟨hv,h⟩
  refine ⟨hv,?_⟩
  rcases h with ⟨ys,rfl,m,hm,hJ⟩ | ⟨pre,hp,m,rfl,hJ⟩
  ·exact .inl ⟨m,hm,hJ⟩
  ·exact .inr ⟨m,hp,hJ⟩
end Each
namespace Search
open Go.RowKit Go.Shelf
open Each
def post (R:Nat) (o:Int→Obj) (bad:Int→Bool) (x:Int) (W:World):Exit→Act→World→Prop
 | .normal,_,W'=>bad x=false∧Below W.heap.size W W'
 | .ret,_,W'=>bad x=true∧W.grownBy W' (some R)∧W'.heap[R]?=some (o x)
 | _,_,_=>False
theorem keeps_below {B:Nat} {W W':World} (h:Below W.heap.size W W'):KeepsFrom B W W':=⟨h.size,fun k o _ hk _=>(h.block k (Array.getElem?_eq_some_iff.1 hk).1).trans hk⟩
theorem grown_of_below {W W':World} {row:Option Nat} (h:Below W.heap.size W W'):W.grownBy W' row:=⟨h.os,h.tape,h.output,h.size,fun j hj _=>h.block j hj⟩
theorem grown_trans {A B C:World} {R:Nat} (h:A.grownBy B (some R)) (k:B.grownBy C (some R)):A.grownBy C (some R) :=
 ⟨k.os.trans h.os,k.tape.trans h.tape,k.output.trans h.output,Nat.le_trans h.size k.size,fun j hj hne=>(k.block j (Nat.lt_of_lt_of_le hj h.size) hne).trans (h.block j hj hne)⟩
theorem grown_from {A B C:World} {R:Nat} {row:Option Nat} (h:A.grownBy B (some R)) (k:B.grownBy C row) (hr:∀ r,row=some r→A.heap.size≤r):A.grownBy C (some R) :=
 ⟨k.os.trans h.os,k.tape.trans h.tape,k.output.trans h.output,Nat.le_trans h.size k.size,fun j hj hne=>(k.block j (Nat.lt_of_lt_of_le hj h.size) (fun e=>by have:=hr j e.symm;omega)).trans (h.block j hj hne)⟩
theorem find_pre {f:Int→Bool} {l p:List Int} {x:Int} (hp:p++[x] <+: l) (hn:∀ y ∈ p,f y=false) (hx:f x=true):l.find? f=some x:=by
 obtain ⟨t,rfl⟩:=hp
 rw [List.append_assoc,List.find?_append,List.find?_eq_none.2 (fun y hy=>by simp [hn y hy])]
 simp [hx]
theorem search {n:Nat} {g:Operand} {ps:Array Tmp} {assign body:Code} {Q:Exit→Act→World→Prop} {a:Act} {W0:World} (bad:Int→Bool) (o:Int→Obj) (Bs R:Nat) (s:Int)
  (hn:3≤n) (hg:a.eval g=.func (.func 173) #[] #[.pointer (some ⟨Bs,0,none⟩)]) (hps:ps.size=1) (hBs:Bs < W0.heap.size) (hR:R < W0.heap.size) (hc:W0.cell? ⟨Bs,0,none⟩=some (.int .i64 s)) (a₁:Int→Act)
  (hassign:∀ (l:Nat) (x:Int) (W:World) (K:Act→World→Prop),K (a₁ x) W→assign.wpIn (Fence.wide.inRound l) (n - 1 - 1) Tryz.prog (Exit.then K (fun _ _ _=>False)) { tmps:=(ps.zip #[Value.int .i64 x]).foldl (fun t (p,v)=>t.setIfInBounds p v) a.tmps,defers:=[] } W)
  (hbody:∀ (l:Nat) (x:Int) (W:World),x ∈ SetM.list s→Below W0.heap.size W0 W→body.wpIn (Fence.wide.inRound l) (n - 1 - 1) Tryz.prog (post R o bad x W) (a₁ x) W)
  (hdone:∀ (D:Nat) (W:World),W0.heap.size≤D→(∀ x ∈ SetM.list s,bad x=false)→Below W0.heap.size W0 W→W.heap[D]?=some (.deferred (some []))→Q .normal { a with defers:={ target:=.collected D,args:=#[] } :: a.defers } W)
  (hstop:∀ (D:Nat) (x:Int) (W:World),W0.heap.size≤D→(SetM.list s).find? bad=some x→bad x=true→W0.grownBy W (some R)→W.heap[R]?=some (o x)→W.heap[D]?=some (.deferred (some []))→Code.ret.wpIn Fence.wide n Tryz.prog Q { a with defers:={ target:=.collected D,args:=#[] } :: a.defers } W) :
  (Code.rangeFunc g ps assign body).wpIn Fence.wide n Tryz.prog Q a W0:=by
 refine wpIn_rangeFunc_ownG rfl (by omega) (gf:=173) (lb:=#[.pointer (some ⟨Bs,0,none⟩)]) hg trivial (enters_of Tryz.func173 (by kernel_rfl) rfl)
  (each_mem _ (by omega) Bs s W0 hBs hc) Kept.trans (kept_b hBs) (Below.refl _ _) (fun _=>hps.symm)
  (fun pre W=>(∀ y ∈ pre,bad y.1=false)∧Below W0.heap.size W0 W)
  (fun c pre W=>(c=.ret∧∃ p0 x,pre=p0++[x]∧(∀ y ∈ p0,bad y.1=false)∧bad x.1=true∧W.heap[R]?=some (o x.1))∧W0.grownBy W (some R))
  (OwnFrom.and (ownFrom_pure _ _) (ownFrom_below (Nat.le_refl _) (Nat.le_refl _)))
  ?own ⟨by simp,Below.refl _ _⟩ (fun x=>a₁ x.1) (fun l x W K h=>hassign l x.1 W K h) ?body ?done ?stop
 case own =>
  rintro c pre W W' row ⟨⟨h1,p0,x,h2,h3,h4,h5⟩,hg⟩ hgr hr
  have hlt:R < W.heap.size:=(Array.getElem?_eq_some_iff.1 h5).1
  exact ⟨⟨h1,p0,x,h2,h3,h4,(hgr.block R hlt (fun e=>by have:=(hr R e.symm).1;omega)).trans h5⟩,grown_from hg hgr (fun r e=>(hr r e).1)⟩
 case body =>
  rintro l pre x W ⟨hp,hB⟩ _
  refine wpIn_mono (hbody l x.1 W x.2 hB) ?_
  intro e a' W' h
  cases e with
  | normal =>
   obtain ⟨h1,h2⟩:=h
   refine ⟨keeps_below h2,Kept.below h2 (by have:=hB.size;omega),?_,hB.trans (h2.mono hB.size)⟩
   intro y hy
   rcases List.mem_append.1 hy with hy | hy
   ·exact hp y hy
   ·obtain rfl:y=x:=by simpa using hy
    exact h1
  | ret =>
   obtain ⟨h1,h2,h3⟩:=h
   exact ⟨KeepsFrom.of_grownBy h2 (fun j e=>by cases e;exact hR),⟨rfl,pre,x,rfl,hp,h1,h3⟩,grown_trans (grown_of_below (hB.mono (Nat.le_refl _))) h2⟩
  | _=>exact h.elim
 case done =>
  rintro D xs W hD hS ⟨hp,hB⟩ hK
  refine hdone D W hD ?_ hB hK
  rw [← hS]
  intro x hx
  obtain ⟨y,hy,rfl⟩:=List.mem_map.1 hx
  exact hp y hy
 case stop =>
  rintro D c pre W hD hS ⟨⟨rfl,p0,x,rfl,h3,h4,h5⟩,hg⟩ hK
  refine hstop D x.1 W hD (find_pre (p:=p0.map Subtype.val) (by simpa using hS) ?_ h4) h4 hg h5 hK
  intro y hy
  obtain ⟨z,hz,rfl⟩:=List.mem_map.1 hy
  exact h3 z hz
end Search
namespace PlanC
open Zip
open Go.ChangeShapes Go.WideShapes Go.ChangeAt Go.RowKit
open Tab PlaceM PlanM
open May (ret_bool chain infoP infoG St phases_in)
open SetP (of_any has_any)
open Same (below_setRow)
theorem ret_int {k:IntKind} {a b:Int} (h:a=b):Ending.returned (.int k a)=.returned (.int k b):=by rw [h]
theorem infoZ:(Tryz.prog.info? 65).map (fun i=>(i.zero,i.size))=some (some (.agg #[.slice none 0 0,.slice none 0 0]),2):=by kernel_rfl
theorem infoT:(Tryz.prog.info? 31).map (·.size)=some 131:=by kernel_rfl
theorem info2:(Tryz.prog.info? 65).map (·.size)=some 2:=by kernel_rfl
theorem idx0 (v0 v1:Value) (w:World):Sem.run Tryz.prog (Instr.index 65 (.agg #[v0,v1]) (.int .i64 0)) w=.ok v0 w:=by kernel_rfl
theorem idx1 (v0 v1:Value) (w:World):Sem.run Tryz.prog (Instr.index 65 (.agg #[v0,v1]) (.int .i64 1)) w=.ok v1 w:=by kernel_rfl
theorem row_of_int {w:World} {a:Option Addr} {cap:Nat} {L:List Int} (h:IntRow w ⟨a,cap⟩ L):RefS.Row w a L:=by
 have hl:=h.len
 refine ⟨by omega,?_⟩
 by_cases h0:L=[]
 ·exact .inl h0
 ·have hp:0 < L.length:=List.length_pos_iff.2 h0
  obtain ⟨x,hx,_⟩:=IntRow.at h (List.getElem?_eq_getElem hp)
  refine .inr ⟨x,hx,fun i hi=>?_⟩
  obtain ⟨y,hy,hc⟩:=IntRow.at h (List.getElem?_eq_getElem hi)
  obtain rfl:x=y:=Option.some.inj (hx.symm.trans hy)
  rw [hc,List.getD_eq_getElem?_getD,List.getElem?_eq_getElem hi]
  rfl
theorem hasGroup_any (T:Tab) (h:Hd) (g:Int) (w:World) (ht:IsTab w h T) :
  Calls Tryz.prog 189 #[.agg (T.cells h).toArray,.int .i64 g] w fun e w'=>e=.returned (.bool (decide (0≤g∧g < T.groups.length)))∧Below w.heap.size w w':=by
 have C:=hJJ (cells_ok ht)
 generalize (T.cells h).toArray=cs at C ⊢
 have hsz:=C.out.size
 have S0:=hJJ (St.box (cs:=cs) ht)
 clear ht
 have q104:=S0.out.cell C.out.g
 generalize hr:decide (0≤g∧g < T.groups.length)=r
 have HR:=hJJ hr
 clear hr
 generalize T.groups.length=n at *
 have Q104:=hJJ q104
 clear q104
 go_enter Tryz.func189,Tryz.ntmps189
 go_upto_region 1 with fail
 generalize w.alloc (.cells cs 31)=w1 at S0 Q104 ⊢
 clear hsz
 have q104:=Q104.out
 by_cases h0:0≤g
 ·by_cases h1:g < n
  ·go_wp2
   go_ret
   exact ⟨ret_bool (by rw [← HR.out];simp [h0,h1]),S0.out.bel⟩
  ·go_wp2
   go_ret
   exact ⟨ret_bool (by rw [← HR.out];simp [h0,h1]),S0.out.bel⟩
 ·go_wp2
  go_ret
  exact ⟨ret_bool (by rw [← HR.out];symm;rw [decide_eq_false_iff_not];omega),S0.out.bel⟩
def Pair (w:World) (y:List Int × List Int) (s0 s1:Sl):Prop:=IntRow w s0 y.1∧IntRow w s1 y.2
theorem rowsOf_any (T:Tab) (h:Hd) (g:Int) (w:World) (ht:IsTab w h T) :
  Calls Tryz.prog 176 #[.agg (T.cells h).toArray,.int .i64 g] w fun e w'=>∃ s0 s1:Sl,e=.returned (.agg #[s0.val (rowsAt T g).1.length,s1.val (rowsAt T g).2.length])∧Pair w' (rowsAt T g) s0 s1∧Below w.heap.size w w':=by
 have hsz:=(cells_ok ht).size
 have C:=hJJ (cells_ok ht)
 have IA:Hid ((Tryz.prog.info? 31).map (·.size)=some (T.cells h).length):=hJJ (by rw [List.size_toArray] at hsz;rw [hsz];exact infoT)
 have HG:Hid (∀ W,Below w.heap.size w W→Calls Tryz.prog 189 #[.agg (T.cells h).toArray,.int .i64 g] W fun e w'=>e=.returned (.bool (decide (0≤g∧g < T.groups.length)))∧Below W.heap.size W w'):=hJJ (fun W hb=>hasGroup_any T h g W (ht.below hb))
 obtain ⟨gs,hgd,hgr⟩:=ht.groups
 have Hgr:=hJJ hgr
 have Hgd:=hJJ hgd
 have Hgl:=hJJ (show T.groups.length=gs.length by rw [← hgd,List.length_map])
 have Kg:=hgr.1.len
 unfold maxLen at Kg
 have A0:Hid (Below w.heap.size w ((w.alloc (.cells (T.cells h).toArray 31)).alloc (.cells #[.slice none 0 0,.slice none 0 0] 65))):=hJJ (((Below.refl _ _).alloc (Nat.le_refl _) _).alloc (by simp) _)
 have A1:Hid (((w.alloc (.cells (T.cells h).toArray 31)).alloc (.cells #[.slice none 0 0,.slice none 0 0] 65)).heap[w.heap.size]?=some (.cells (T.cells h).toArray 31 (0,0))):=hJJ (heap_alloc2_old w _ _)
 have A2:Hid (((w.alloc (.cells (T.cells h).toArray 31)).alloc (.cells #[.slice none 0 0,.slice none 0 0] 65)).heap[w.heap.size+1]?=some (.cells #[.slice none 0 0,.slice none 0 0] 65 (0,0))):=hJJ (heap_alloc2_new w _ _)
 have hz:=(zero_of_info infoZ).1
 clear ht hgr hgd
 generalize T.cells h=c at *
 go_enter Tryz.func176,Tryz.ntmps176
 go_upto_region 1 with fail
 generalize ((w.alloc (.cells c.toArray 31)).alloc (.cells #[.slice none 0 0,.slice none 0 0] 65))=u at A0 A1 A2 ⊢
 clear hsz hz
 have LT:Hid (Lies u ⟨w.heap.size,0,none⟩ c):=hJJ (by have:=Row.lies_of_block A1.out;simpa using this)
 go_wp2_with (refine lgZ 31 ⟨w.heap.size,0,none⟩ c rfl LT.out Tryz.underlying31 IA.out ?_)
 refine (HG.out _ A0.out).mono ?_
 rintro e u1 ⟨rfl,hb⟩
 have B0:Hid (Below w.heap.size w u1):=hJJ (A0.out.trans (hb.mono A0.out.size))
 have B1:Hid (u1.heap[w.heap.size]?=some (.cells c.toArray 31 (0,0))):=hJJ ((hb.block _ (Array.getElem?_eq_some_iff.1 A1.out).1).trans A1.out)
 have B2:Hid (u1.heap[w.heap.size+1]?=some (.cells #[.slice none 0 0,.slice none 0 0] 65 (0,0))):=hJJ ((hb.block _ (Array.getElem?_eq_some_iff.1 A2.out).1).trans A2.out)
 clear hb A0 A1 A2 LT HG
 by_cases hg:0≤g∧g < T.groups.length
 ·rw [decide_eq_true hg]
  obtain ⟨g0,g1⟩:=hg
  obtain ⟨q,rfl⟩:=Int.eq_ofNat_of_zero_le g0
  have hlt:q < gs.length:=by have:=Hgl.out;omega
  have hv:=List.getElem?_eq_getElem hlt
  generalize gs[q]=v at hv
  have HR:Hid (rowsAt T q=v.data):=hJJ (rows_in (by rw [← Hgd.out,List.getElem?_map,hv];rfl))
  obtain ⟨x,hx,hc⟩:=(Hgr.out.1.below B0.out).at hv
  have hok:=(Hgr.out.2 v (List.mem_of_getElem? hv)).below B0.out
  have q104:u1.cell? ⟨w.heap.size,104,none⟩=some (.slice (some x) gs.length h.g.cap):=by
   rw [cell_of_row _ _ _ _ _ _ B1.out,C.out.g,Hgl.out];simp only [Sl.val,hx]
  have HC:=hJJ hc
  have HM:=hJJ (List.mem_of_getElem? hv)
  have HW:=hJJ (below_setRow B0.out (g:=w.heap.size+1) (by omega) v.cells.toArray)
  have HK:=hJJ (setRow_heap u1 (w.heap.size+1) _ v.cells.toArray _ _ B2.out)
  have V1:Hid (v.cells.toArray.all (·.oneCell')=true):=hJJ (Gr.one v)
  clear hv hc hok hx g1
  go_wp2_with (first | (refine Row.wpList_load_g 65 _ rfl (by first | rfl | go_simp) (x.add (q*2)) rfl v.cells _ HC.out Tryz.underlying65 rfl info2 ?_) | (refine wpList_store_row rfl 65 _ _ rfl (w.heap.size+1) v.cells.toArray rfl rfl 65 _ B2.out info2 rfl V1.out ?_))
  have HO2:Hid (v.ok (u1.setRow (w.heap.size+1) v.cells.toArray)):=hJJ ((Hgr.out.2 v HM.out).below HW.out)
  generalize u1.setRow (w.heap.size+1) v.cells.toArray=u2 at HW HK HO2 ⊢
  go_wp2_with fail
  (try simp only [Exit.inBlock,Exit.then])
  refine bodyPost_ret (v:=.agg v.cells.toArray) ?_ rfl ⟨v.s0,v.s1,by rw [HR.out];rfl,by rw [HR.out];exact HO2.out,HW.out⟩
  exact results_cell_row rfl _ _ (w.heap.size+1) 65 _ (0,0) _ rfl HK.out Tryz.underlying65 rfl info2
 ·rw [decide_eq_false hg]
  have HR:Hid (rowsAt T g=([],[])):=hJJ (rows_out hg)
  have HW:=hJJ (below_setRow B0.out (g:=w.heap.size+1) (by omega) #[.slice none 0 0,.slice none 0 0])
  have HK:=hJJ (setRow_heap u1 (w.heap.size+1) _ #[.slice none 0 0,.slice none 0 0] _ _ B2.out)
  clear hg
  go_wp2_with (first | (refine wpList_store_row rfl 65 _ _ rfl (w.heap.size+1) #[.slice none 0 0,.slice none 0 0] rfl rfl 65 _ B2.out info2 rfl (by simp [Value.oneCell']) ?_))
  generalize u1.setRow (w.heap.size+1) #[.slice none 0 0,.slice none 0 0]=u2 at HW HK ⊢
  go_wp2_with fail
  (try simp only [Exit.inBlock,Exit.then])
  refine bodyPost_ret (v:=.agg #[.slice none 0 0,.slice none 0 0]) ?_ rfl ⟨⟨none,0⟩,⟨none,0⟩,by rw [HR.out];rfl,by rw [HR.out];exact ⟨RowOf.nil _,RowOf.nil _⟩,HW.out⟩
  exact results_cell_row rfl _ _ (w.heap.size+1) 65 _ (0,0) _ rfl HK.out Tryz.underlying65 rfl info2
theorem of_len (a:Option Addr) (cap:Nat) (l:List Int) (w:World) (h:IntRow w ⟨a,cap⟩ l):Calls Tryz.prog 177 #[.slice a l.length cap] w fun e w'=>e=.returned (.int .i64 (SetM.of l:Nat))∧w=w':=of_any a cap l w (row_of_int h)
theorem or0 (m:Nat) (h:m < 256):bits .or .i64 0 (m:Int)=(m:Int):=by
 have:=RefS.or_small 0 m (by decide) h
 simpa using this
theorem members_any (T:Tab) (h:Hd) (g:Int) (w:World) (ht:IsTab w h T) :
  Calls Tryz.prog 152 #[.agg (T.cells h).toArray,.int .i64 g] w fun e w'=>e=.returned (.int .i64 (membS T g:Nat))∧Below w.heap.size w w':=by
 have hsz:=(cells_ok ht).size
 have C:=hJJ (cells_ok ht)
 have IA:Hid ((Tryz.prog.info? 31).map (·.size)=some (T.cells h).length):=hJJ (by rw [List.size_toArray] at hsz;rw [hsz];exact infoT)
 have RO:Hid (∀ W,Below w.heap.size w W→Calls Tryz.prog 176 #[.agg (T.cells h).toArray,.int .i64 g] W fun e w'=>∃ s0 s1:Sl,e=.returned (.agg #[s0.val (rowsAt T g).1.length,s1.val (rowsAt T g).2.length])∧Pair w' (rowsAt T g) s0 s1∧Below W.heap.size W w'):=hJJ (fun W hb=>rowsOf_any T h g W (ht.below hb))
 have A0:Hid (Below w.heap.size w (w.alloc (.cells (T.cells h).toArray 31))):=hJJ ((Below.refl _ _).alloc (Nat.le_refl _) _)
 have A1:Hid (Lies (w.alloc (.cells (T.cells h).toArray 31)) ⟨w.heap.size,0,none⟩ (T.cells h)):=hJJ (Row.lies_new w _ _)
 have MS:Hid (membS T g=SetM.of (rowsAt T g).1 ||| SetM.of (rowsAt T g).2):=hJJ rfl
 generalize membS T g=m at MS ⊢
 generalize rowsAt T g=y at MS RO
 obtain ⟨l0,l1⟩:=y
 clear ht
 generalize T.cells h=c at *
 go_enter Tryz.func152,Tryz.ntmps152
 go_upto_region 1 with fail
 generalize w.alloc (.cells c.toArray 31)=u at A0 A1 ⊢
 clear hsz
 go_wp2_with (refine lgZ 31 ⟨w.heap.size,0,none⟩ c rfl A1.out Tryz.underlying31 IA.out ?_)
 refine (RO.out _ A0.out).mono ?_
 rintro e u1 ⟨⟨a0,cap0⟩,⟨a1,cap1⟩,rfl,hpair,hb⟩
 have B0:Hid (Below w.heap.size w u1):=hJJ (A0.out.trans (hb.mono A0.out.size))
 have HP:=hJJ hpair
 clear hb A0 A1 RO hpair IA
 rw [show (Value.agg #[Sl.val ⟨a0,cap0⟩ (l0,l1).fst.length,Sl.val ⟨a1,cap1⟩ (l0,l1).snd.length])=.agg #[.slice a0 l0.length cap0,.slice a1 l1.length cap1] from rfl]
 have i0:=idx0 (.slice a0 l0.length cap0) (.slice a1 l1.length cap1)
 have i1:=idx1 (.slice a0 l0.length cap0) (.slice a1 l1.length cap1)
 have I0:=hJJ i0
 have I1:=hJJ i1
 clear i0 i1
 go_wp2_with fail
 go_loopw [5,11] (fun t i wr=>∃ r:Nat,r≤2∧i=.int .i64 r∧t=.int .i64 ((if r=0 then 0 else if r=1 then SetM.of l0 else m:Nat):Int)∧wr=u1) (fun _ i _=>2 - (intOf i).toNat)
 case atStart=>exact ⟨0,by omega,rfl,rfl,rfl⟩
 case round =>
  obtain ⟨r,hr,rfl,rfl,rfl⟩:=hrel
  have hr2:r=0∨r=1∨r=2:=by omega
  rcases hr2 with rfl | rfl | rfl
  ·rw [show ((0:Nat):Int)=(0:Int) from rfl]
   have i0:=I0.out
   have HS:=hJJ (or0 (SetM.of l0) (SetM.of_lt l0))
   simp only [if_true]
   go_wp2_with fail
   refine (of_len a0 cap0 l0 _ HP.out.1).mono ?_
   rintro e w' ⟨rfl,rfl⟩
   generalize hs:SetM.of l0=s at HS MS ⊢
   have HQ:=hJJ hs
   clear hs
   go_wp2
   go_roundw
   case rel=>exact ⟨1,by omega,by go_num,by rw [HS.out,← HQ.out];rfl,trivial⟩
   case measure=>simp [intOf]
  ·rw [show ((1:Nat):Int)=(1:Int) from rfl]
   have i1:=I1.out
   have HS:Hid (bits .or .i64 (SetM.of l0:Nat) (SetM.of l1:Nat)=(m:Nat)):=hJJ (by rw [RefS.or_small _ _ (SetM.of_lt _) (SetM.of_lt _),MS.out])
   simp only [Nat.one_ne_zero,if_false,if_true]
   go_wp2_with fail
   refine (of_len a1 cap1 l1 _ HP.out.2).mono ?_
   rintro e w' ⟨rfl,rfl⟩
   generalize SetM.of l0=s at HS MS ⊢
   generalize SetM.of l1=s' at HS MS ⊢
   go_wp2
   go_roundw
   case rel=>exact ⟨2,by omega,by go_num,by rw [HS.out];rfl,trivial⟩
   case measure=>simp [intOf]
  ·rw [show ((2:Nat):Int)=(2:Int) from rfl]
   simp only [show ¬ (2=0) by decide,show ¬ (2=1) by decide,if_false]
   go_wp2
   go_ret
   exact ⟨rfl,B0.out⟩
theorem infoPs:(Tryz.prog.info? 24).map (·.size)=some 104:=by kernel_rfl
theorem cellsP:Tryz.prog.cellsOf 23=13:=by kernel_rfl
theorem rowP:Flat.rowT Tryz.prog 23=true:=by kernel_rfl
theorem infoPz:∃ i,Tryz.prog.info? 23=some i∧i.size=13:=by
 have:=infoP
 cases h:Tryz.prog.info? 23 with
 | none=>rw [h] at this;simp at this
 | some i=>rw [h] at this;exact ⟨i,rfl,by simpa using this⟩
theorem flat_take:∀ {l:List Ph} {q:Nat} {u:Ph},l[q]?=some u→((l.flatMap Ph.cells).drop (q*13)).take 13=u.cells
 | [],q,u,h=>by simp at h
 | p :: l,0,u,h=>by
  obtain rfl:p=u:=by simpa using h
  rw [Nat.zero_mul,List.drop_zero,List.flatMap_cons]
  exact List.take_left' rfl
 | p :: l,q+1,u,h=>by
  rw [List.flatMap_cons,Nat.add_mul,Nat.one_mul,Nat.add_comm,List.drop_append,List.drop_of_length_le (by simp [Ph.cells]),List.nil_append,show 13+q*13 - p.cells.length=q*13 by simp [Ph.cells]]
  exact flat_take (by simpa using h)
theorem idx_phase {l:List Ph} {q:Nat} {u:Ph} (hl:l.length=8) (hu:l[q]?=some u) (w:World) :
  Sem.run Tryz.prog (Instr.index 24 (.agg (l.flatMap Ph.cells).toArray) (.int .i64 q)) w=.ok (.agg u.cells.toArray) w:=by
 have hq:q < l.length:=(List.getElem?_eq_some_iff.1 hu).1
 obtain ⟨i,hi,hs⟩:=infoPz
 have hp:=Flat.run_part (P:=Tryz.prog) w (t:=23) (d:=_) Tryz.underlying23 (by rw [rowP];simp) (l.flatMap Ph.cells) (q*13) (by rw [cellsP,phases_len];omega)
 rw [cellsP,Flat.vOf,if_pos rowP,flat_take hu] at hp
 unfold Instr.index
 have hc:0≤(q:Int)∧(q:Int) < 8:=by omega
 simp [run_underlying Tryz.underlying24,asIntOf]
 rw [if_pos (by omega)]
 first | exact hp | (rw [cellsP];exact hp)
theorem lies_take {w:World} {b:Nat} {cs:Array Value} {t:TypeId} {fr:Nat × Nat} (hb:w.heap[b]?=some (.cells cs t fr)) (n:Nat) (l:List Value) (h:cs.toList.take n=l):Lies w ⟨b,0,none⟩ l:=by
 intro j v hv
 rw [Addr.add_mid,Nat.zero_add,cell_of_row _ _ _ _ _ _ hb]
 subst h
 rw [List.getElem?_take] at hv
 split at hv
 ·rwa [Array.getElem?_toList] at hv
 ·cases hv
end PlanC
namespace PlanO
open Zip
open Go.ChangeShapes Go.WideShapes Go.ChangeAt Go.RowKit
open Tab PlaceM PlanM OnS PlanC
open May (infoP St)
open SetP (with_any)
theorem on_with {l:List Ph} {q:Nat} {p:Ph} (h:l[q]?=some p) (hp:p.on=true):SetM.withN (SetM.of (onTo 0 (l.take q)):Nat) q=SetM.of (onTo 0 (l.take (q+1))):=by
 rw [on_step h,hp,if_pos rfl,SetM.with_of]
theorem on_skip {l:List Ph} {q:Nat} {p:Ph} (h:l[q]?=some p) (hp:p.on=false):SetM.of (onTo 0 (l.take (q+1)))=SetM.of (onTo 0 (l.take q)):=by
 rw [on_step h,hp];simp
theorem pon_any (T:Tab) (h:Hd) (w:World) (ht:IsTab w h T) :
  Calls Tryz.prog 150 #[.agg (T.cells h).toArray] w fun e w'=>e=.returned (.int .i64 (onS T:Nat))∧Below w.heap.size w w':=by
 have C:=hJJ (cells_ok ht)
 generalize (T.cells h).toArray=cs at C ⊢
 have hsz:=C.out.size
 have L8:=hJJ ht.ph
 have S0:=hJJ (St.box (cs:=cs) ht)
 have RS:Hid ((onS T:Nat)=SetM.of (onTo 0 T.phases)):=hJJ rfl
 have IX:Hid (∀ (q:Nat) u,T.phases[q]?=some u→∀ W,Sem.run Tryz.prog (Instr.index 24 (.agg (T.phases.flatMap Ph.cells).toArray) (.int .i64 q)) W=.ok (.agg u.cells.toArray) W):=hJJ (fun q u hu W=>idx_phase L8.out hu W)
 have LI:Hid ((Tryz.prog.info? 24).map (·.size)=some (T.phases.flatMap Ph.cells).length):=hJJ (by rw [phases_len,L8.out];exact infoPs)
 generalize onS T=r at RS ⊢
 clear ht
 go_enter Tryz.func150,Tryz.ntmps150
 go_upto_region 1 with fail
 generalize w.alloc (.cells cs 31)=w1 at S0 ⊢
 clear hsz
 have LT:Hid (Lies w1 ⟨w.heap.size,0,none⟩ (T.phases.flatMap Ph.cells)):=hJJ (lies_take S0.out.blk 104 _ C.out.phases)
 generalize T.phases.flatMap Ph.cells=fl at IX LI LT
 go_wp2_with (refine lgZ 24 ⟨w.heap.size,0,none⟩ fl rfl LT.out Tryz.underlying24 LI.out ?_)
 go_loopw [3,8] (fun v g wr=>∃ q:Nat,q≤8∧g=.int .i64 q∧v=.int .i64 (SetM.of (onTo 0 (T.phases.take q)):Nat)∧Below w1.heap.size w1 wr) (fun _ g _=>8 - (intOf g).toNat)
 case atStart=>exact ⟨0,by omega,rfl,rfl,Below.refl _ _⟩
 case round =>
  obtain ⟨q,hq,rfl,rfl,hbel⟩:=hrel
  have HB:=hJJ hbel
  clear hbel
  by_cases hlt:q < 8
  ·have hv:T.phases[q]?=some (T.phases[q]'(by rw [L8.out];exact hlt)):=List.getElem?_eq_getElem _
   generalize T.phases[q]'(by rw [L8.out];exact hlt)=u at hv
   have HV:=hJJ hv
   have hidx:=IX.out q u hv
   clear hv
   have hsz:=HB.out.size
   go_upto_region 5 with (refine Row.wpList_store_new rfl 23 _ _ rfl wr _ u.cells.toArray rfl rfl rfl infoP rfl (Ph.one _) ?_)
   clear hidx
   have hbn:Below w1.heap.size w1 (wr.alloc (.cells u.cells.toArray 23)):=HB.out.alloc hsz _
   have hg:=Row.lies_of_block (heap_alloc_new wr (.cells u.cells.toArray 23))
   have HL:=hJJ hg
   have HN:=hJJ hbn
   clear hg hbn HB
   generalize wr.alloc (.cells u.cells.toArray 23)=w4 at HL HN ⊢
   generalize wr.heap.size=b4 at HL ⊢
   have c0:w4.cell? ⟨b4,0,none⟩=some (.bool u.on):=by
    have:=HL.out 0 _ rfl
    rwa [Tab.add_zero] at this
   cases hon:u.on with
   | true =>
    rw [hon] at c0
    have HS:=hJJ (on_with HV.out hon)
    clear hon
    generalize SetM.of (onTo 0 (T.phases.take q))=s0 at HS ⊢
    go_wp2_with (go_at_call 174;refine (with_any _ _ _).mono ?_;rintro e w' ⟨rfl,rfl⟩)
    go_roundw
    case rel=>exact ⟨q+1,by omega,by go_num,by rw [← HS.out],HN.out⟩
    case measure=>simp [intOf];omega
   | false =>
    rw [hon] at c0
    have HS:=hJJ (on_skip HV.out hon)
    clear hon
    generalize SetM.of (onTo 0 (T.phases.take q))=s0 at HS ⊢
    go_wp2
    go_roundw
    case rel=>exact ⟨q+1,by omega,by go_num,by rw [← HS.out],HN.out⟩
    case measure=>simp [intOf];omega
  ·have HE:Hid (SetM.of (onTo 0 (T.phases.take q))=r):=hJJ (by rw [RS.out,List.take_of_length_le (by rw [L8.out];omega)])
   have HF:Hid (Below w.heap.size w wr):=hJJ (S0.out.bel.trans (HB.out.mono S0.out.bel.size))
   generalize SetM.of (onTo 0 (T.phases.take q))=s0 at HE ⊢
   go_wp2
   go_ret
   exact ⟨ret_int (by rw [HE.out]),HF.out⟩
end PlanO
namespace ChkI
open Zip
open Go.RowKit Go.Shelf
open Tab PlaceM PlanM OnS ChkM Each Search
attribute [local go_sem] Oper.semAt_some
structure Bxd (T:Tab) (b:Nat) (W:World):Prop where
 cf:∀ p:Int,0≤p→p < 8→W.cell? ⟨b,105+p.toNat,none⟩=some (I (cfAt T p))
 fl:∀ p:Int,0≤p→p < 8→W.cell? ⟨b,121+p.toNat,none⟩=some (I (flAt T p))
theorem bxd_new {T:Tab} {h:Hd} {w:World} (ht:IsTab w h T):Bxd T w.heap.size (w.alloc (.cells (T.cells h).toArray 31)):=by
 have C:=cells_ok ht
 have hb:(w.alloc (.cells (T.cells h).toArray 31)).heap[w.heap.size]?=some (.cells (T.cells h).toArray 31 (0,0)):=heap_alloc_new w _
 constructor
 ·intro p h0 h8
  obtain ⟨k,rfl⟩:=Int.eq_ofNat_of_zero_le h0
  rw [cell_of_row _ _ _ _ _ _ hb]
  have hk:k < 8:=by omega
  have h1:=congrArg (·[k]?) C.conflict
  simp only [List.getElem?_take,List.getElem?_drop,List.getElem?_map] at h1
  rw [if_pos hk,Array.getElem?_toList] at h1
  rw [Int.toNat_natCast,h1,List.getElem?_eq_getElem (by rw [ht.cf];exact hk)]
  simp [cfAt,List.getD_eq_getElem?_getD,List.getElem?_eq_getElem (show k < T.conflict.length by rw [ht.cf];exact hk)]
 ·intro p h0 h8
  obtain ⟨k,rfl⟩:=Int.eq_ofNat_of_zero_le h0
  rw [cell_of_row _ _ _ _ _ _ hb]
  have hk:k < 8:=by omega
  have h1:=congrArg (·[k]?) C.flash
  simp only [List.getElem?_take,List.getElem?_drop,List.getElem?_map] at h1
  rw [if_pos hk,Array.getElem?_toList] at h1
  rw [Int.toNat_natCast,h1,List.getElem?_eq_getElem (by rw [ht.fl];exact hk)]
  simp [flAt,List.getD_eq_getElem?_getD,List.getElem?_eq_getElem (show k < T.flash.length by rw [ht.fl];exact hk)]
theorem Bxd.below {T:Tab} {b:Nat} {W W':World} (h:Bxd T b W) (hb:Below W.heap.size W W'):Bxd T b W' :=
 ⟨fun p h0 h8=>(hb.cell (World.block_lt_of_cell? W _ (h.cf p h0 h8))).trans (h.cf p h0 h8),fun p h0 h8=>(hb.cell (World.block_lt_of_cell? W _ (h.fl p h0 h8))).trans (h.fl p h0 h8)⟩
theorem laid4 (w:World) (o0 o1 o2 o3:Obj):∃ W,((((w.alloc o0).alloc o1).alloc o2).alloc o3)=W∧W.heap.size=w.heap.size+4∧Below w.heap.size w W∧Below (w.heap.size+1) (w.alloc o0) W∧W.heap[w.heap.size+1]?=some o1∧W.heap[w.heap.size+2]?=some o2∧W.heap[w.heap.size+3]?=some o3:=by
 refine ⟨_,rfl,by simp,(((((Below.refl _ w).alloc (Nat.le_refl _) _).alloc (by simp) _).alloc (by simp;omega) _).alloc (by simp;omega) _),?_,?_,?_,?_⟩
 ·have:=(((Below.refl (w.alloc o0).heap.size (w.alloc o0)).alloc (Nat.le_refl _) o1).alloc (by simp) o2).alloc (by simp;try omega) o3
  simpa using this
 ·have h1:=heap_alloc_new (w.alloc o0) o1
  have h2:=Below.heap_alloc ((w.alloc o0).alloc o1) o2 (w.heap.size+1) (by simp)
  have h3:=Below.heap_alloc (((w.alloc o0).alloc o1).alloc o2) o3 (w.heap.size+1) (by simp)
  rw [World.size_alloc] at h1
  exact h3.trans (h2.trans h1)
 ·have h1:=heap_alloc_new ((w.alloc o0).alloc o1) o2
  have h3:=Below.heap_alloc (((w.alloc o0).alloc o1).alloc o2) o3 (w.heap.size+2) (by simp)
  simp only [World.size_alloc] at h1
  exact h3.trans h1
 ·have h1:=heap_alloc_new (((w.alloc o0).alloc o1).alloc o2) o3
  simp only [World.size_alloc] at h1
  exact h1
theorem setRow_grown (W:World) (b:Nat) (cs:Array Value) (h:b < W.heap.size):W.grownBy (W.setRow b cs) (some b) :=
 ⟨rfl,rfl,rfl,by simp [World.setRow],fun j _ hj=>setRow_other _ _ _ _ (fun e=>hj (by rw [e]))⟩
theorem hmx:Tryz.prog.follows .mixedOrders=true:=by kernel_rfl
theorem clash_any (T:Tab) (h:Hd) (s:Int) (w:World) (ht:IsTab w h T) :
  Calls Tryz.prog 158 #[.agg (T.cells h).toArray,.int .i64 s] w fun e w'=>e=.returned (.bool (clashC T s))∧Below w.heap.size w w':=by
 have hsz:=(cells_ok ht).size
 have A0:Hid (Below w.heap.size w (w.alloc (.cells (T.cells h).toArray 31))):=hJJ ((Below.refl _ _).alloc (Nat.le_refl _) _)
 have BX:=hJJ (bxd_new ht)
 have hs1:(w.alloc (.cells (T.cells h).toArray 31)).heap.size=w.heap.size+1:=by simp
 clear ht
 generalize T.cells h=c at *
 refine (callsIn_wide (n:=3)).1 ?_
 refine callsIn_of_wp_marks Tryz.func158 rfl trivial ?_ rfl
 simp only [Tryz.ntmps158,List.size_toArray,List.length_cons,List.length_nil,Nat.reduceAdd,Nat.reduceSub,Array.replicate_succ,Array.replicate_zero,List.push_toArray,List.append_toArray,List.nil_append,List.cons_append]
 gi_wp2_with fail
 refine ⟨trivial,(Each.each_in _ _ _).mono ?_⟩
 rintro e w' ⟨rfl,rfl⟩
 gi_wp2_with fail
 obtain ⟨W0,hW0,E1,E0,EB,bS,bR,bE⟩:=laid4 w (.cells c.toArray 31) (.cells #[.int .i64 s] 3) (.cells #[.bool false] 4) (.cells #[.int .i64 s] 3)
 rw [hW0]
 have BX:=hJJ (BX.out.below (by rw [hs1];exact EB))
 clear hW0 EB hs1 hsz A0
 have bS:Boxed W0 (w.heap.size+1) 3 (.int .i64 s):=bS
 have bR:Boxed W0 (w.heap.size+2) 4 (.bool false):=bR
 have bE:Boxed W0 (w.heap.size+3) 3 (.int .i64 s):=bE
 refine search (fun p=>bits .and .i64 (cfAt T p) s != 0) (fun _=>.cells #[.bool true] 4 (0,0)) (w.heap.size+3) (w.heap.size+2) s (by omega) rfl rfl (by omega) (by omega) bE.cell
  (fun x=>{ tmps:=#[.agg c.toArray,.int .i64 s,.pointer (some ⟨w.heap.size,0,none⟩),.pointer (some ⟨w.heap.size+1,0,none⟩),.pointer (some ⟨w.heap.size+1+1,0,none⟩),.int .i64 x,.int .i64 s,.func (.func 173) #[] #[.pointer (some ⟨w.heap.size+1+1+1,0,none⟩)],.int .i64 x,undef,undef,undef,undef,undef,undef,undef],defers:=[] }) ?assign ?body ?done ?stop
 case assign =>
  intro l x W K hK
  gi_wp2
  exact hK
 case body =>
  intro l x W hx hB
  have hx8:=SetM.list_bd s x hx
  have cc:=(BX.out.below hB).cf x hx8.1 hx8.2
  have cS:=(Boxed.cell (show Boxed W (w.heap.size+1) 3 (.int .i64 s) from (hB.block _ (by omega)).trans bS))
  have hne:Nonempty (Ph.S (Row.Old W)):=⟨⟨0,W,Below.refl _ _⟩⟩
  obtain ⟨k,rfl⟩:=Int.eq_ofNat_of_zero_le hx8.1
  rw [Int.toNat_natCast] at cc
  have CC:∀ p:Ph.S (Row.Old W),p.world.cell? ⟨w.heap.size,105+k,none⟩=some (I (cfAt T k)):=fun p=>(p.is.cell (World.block_lt_of_cell? W _ cc)).trans cc
  have CS:∀ p:Ph.S (Row.Old W),p.world.cell? ⟨w.heap.size+1,0,none⟩=some (.int .i64 s):=fun p=>(p.is.cell (World.block_lt_of_cell? W _ cS)).trans cS
  have hk8:k < 8:=by omega
  gi_wp2
  refine Up.region_ph (Row.Old W) [] (fun ⟨_,_,h⟩=>h) (by kernel_rfl) hmx (by kernel_rfl) (Row.Old.drew _) ?_
  iterate 7
   (refine Pw.calm rfl (fun K hK=>?_)
    go_simp
    refine hK _ ?_
    clear hK K)
  refine Pw.nil ?_
  intro W1 hb1
  have hv:Boxed W1 (w.heap.size+1+1) 4 (.bool false):=(hb1.block _ (by have:=hB.size;omega)).trans ((hB.block _ (by omega)).trans bR)
  have hc:=hv.cell
  have hf:=hv.frozen
  clear CC CS cc cS hne BX hB
  generalize hg:(bits BinOp.and IntKind.i64 (cfAt T k) s != 0)=r
  cases r with
  | true =>
   have HG:=hJJ hg
   clear hg
   gi_wp2
   exact ⟨HG.out,grown_trans (grown_of_below hb1) (grownBy_setCell' _ _ _),hv.set (.bool true)⟩
  | false =>
   have HG:=hJJ hg
   clear hg
   gi_wp2
   exact ⟨HG.out,hb1⟩
 case done =>
  intro D W hD hall hB hK
  have hv:Boxed W (w.heap.size+1+1) 4 (.bool false):=(hB.block _ (by omega)).trans bR
  have hc:=hv.cell
  have hf:=hv.frozen
  have HR:Hid (clashC T s=false):=hJJ (by unfold clashC;rw [List.any_eq_false];intro x hx;simpa using hall x hx)
  have HB:Hid (Below w.heap.size w W):=hJJ (E0.trans (hB.mono (by omega)))
  clear hB hall
  gi_wp2
  have hv2:=hv.set (.bool false)
  have hK':=(KeepsOthers.setCell W ⟨w.heap.size+1+1,0,none⟩ (.bool false)).same D _ hK rfl
  refine ⟨by simp,.inl ⟨_,_,rfl,run_takeDeferred hK',?_⟩⟩
  have hc5:=cell_kept hv2.cell (grownBy_putObj' _ D (.deferred none)) (fun r e=>by cases e;exact ⟨_,hK',rfl⟩)
  refine ⟨.bool false,?_,by rw [HR.out],(HB.out.setCell (p:=⟨w.heap.size+1+1,0,none⟩) (by simp;try omega) _).trans (belowK_b (w:=w) (Nat.le_refl _) _ D _ _ (by omega) hK' rfl rfl)⟩
  simp [results,Tryz.f158,go_sem,hc5]
 case stop =>
  intro D x W hD hf hx hg hR hK
  have HR:Hid (clashC T s=true):=hJJ (by unfold clashC;rw [List.any_eq_true];exact ⟨x,List.mem_of_find?_eq_some hf,hx⟩)
  have hv:Boxed W (w.heap.size+1+1) 4 (.bool true):=hR
  have HB:Hid (Below w.heap.size w W):=hJJ (E0.grown hg (by omega) (fun k e=>by cases e;omega))
  clear hf hx hg
  gi_wp2
  refine ⟨by simp,.inl ⟨_,_,rfl,run_takeDeferred hK,?_⟩⟩
  have hc5:=cell_kept hv.cell (grownBy_putObj' _ D (.deferred none)) (fun r e=>by cases e;exact ⟨_,hK,rfl⟩)
  refine ⟨.bool true,?_,by rw [HR.out],HB.out.trans (belowK_b (w:=w) (Nat.le_refl _) W D _ _ (by omega) hK rfl rfl)⟩
  simp [results,Tryz.f158,go_sem,hc5]
end ChkI
namespace ChkJ
open Zip
open Go.RowKit Go.Shelf
open Tab PlaceM PlanM OnS ChkM Each Search ChkI
open May (infoT)
attribute [local go_sem] Oper.semAt_some
theorem laid3 (w:World) (o0 o1 o2:Obj):∃ W,(((w.alloc o0).alloc o1).alloc o2)=W∧W.heap.size=w.heap.size+3∧Below w.heap.size w W∧Below (w.heap.size+1) (w.alloc o0) W∧W.heap[w.heap.size+1]?=some o1∧W.heap[w.heap.size+2]?=some o2:=by
 refine ⟨_,rfl,by simp,((((Below.refl _ w).alloc (Nat.le_refl _) _).alloc (by simp) _).alloc (by simp;omega) _),?_,?_,?_⟩
 ·have:=(((Below.refl (w.alloc o0).heap.size (w.alloc o0)).alloc (Nat.le_refl _) o1).alloc (by simp) o2)
  simpa using this
 ·have h1:=heap_alloc_new (w.alloc o0) o1
  have h2:=Below.heap_alloc ((w.alloc o0).alloc o1) o2 (w.heap.size+1) (by simp)
  rw [World.size_alloc] at h1
  exact h2.trans h1
 ·have h1:=heap_alloc_new ((w.alloc o0).alloc o1) o2
  simp only [World.size_alloc] at h1
  exact h1
def cbad (T:Tab) (p q:Int):Bool:=(SetM.has (cfAt T p) q != SetM.has (cfAt T q) p) || (SetM.has (cfAt T p) q && beside T p q)
theorem conf_self {T:Tab} {p:Int} (h:SetM.has (cfAt T p) p=true):confBad T p=true:=by unfold confBad;rw [h];rfl
theorem conf_any {T:Tab} {p:Int} (h:SetM.has (cfAt T p) p=false):confBad T p=(ons T).any (cbad T p):=by unfold confBad;rw [h];rfl
theorem badConflict_any (T:Tab) (h:Hd) (k:Nat) (hk:k < 8) (w:World) (ht:IsTab w h T) :
  Calls Tryz.prog 117 #[.agg (T.cells h).toArray,.int .i64 k] w fun e w'=>e=.returned (.bool (confBad T k))∧Below w.heap.size w w':=by
 have hsz:=(cells_ok ht).size
 have IA:Hid ((Tryz.prog.info? 31).map (·.size)=some (T.cells h).length):=hJJ (by rw [List.size_toArray] at hsz;rw [hsz];exact infoT)
 have ON:Hid (∀ W,Below w.heap.size w W→Calls Tryz.prog 150 #[.agg (T.cells h).toArray] W fun e w'=>e=.returned (.int .i64 (onS T:Nat))∧Below W.heap.size W w'):=hJJ (fun W hb=>PlanO.pon_any T h W (ht.below hb))
 have BS:Hid (∀ (p q:Int) W,Below w.heap.size w W→Calls Tryz.prog 154 #[.agg (T.cells h).toArray,.int .i64 p,.int .i64 q] W fun e w'=>e=.returned (.bool (beside T p q))∧Below W.heap.size W w'):=hJJ (fun p q W hb=>PlanW.pbeside_any T h p q W (ht.below hb))
 have BX0:=hJJ (bxd_new ht)
 have LT0:=hJJ (Row.lies_new w (T.cells h).toArray 31)
 have hs1:(w.alloc (.cells (T.cells h).toArray 31)).heap.size=w.heap.size+1:=by simp
 clear ht
 generalize T.cells h=c at *
 refine (callsIn_wide (n:=3)).1 ?_
 refine callsIn_of_wp_marks Tryz.func117 rfl trivial ?_ rfl
 simp only [Tryz.ntmps117,List.size_toArray,List.length_cons,List.length_nil,Nat.reduceAdd,Nat.reduceSub,Array.replicate_succ,Array.replicate_zero,List.push_toArray,List.append_toArray,List.nil_append,List.cons_append]
 refine wpIn_wide.2 ?_
 go_upto_region 1 with fail
 obtain ⟨W1,hW1,E1,E0,EB,bS,bR⟩:=laid3 w (.cells c.toArray 31) (.cells #[.int .i64 k] 3) (.cells #[.bool false] 4)
 rw [hW1]
 have BX1:=hJJ (BX0.out.below (by rw [hs1];exact EB))
 have LT1:=hJJ (LT0.out.below (by rw [hs1];exact EB))
 have A0:=hJJ E0
 clear hW1 EB hs1 hsz BX0 LT0 E0
 have bS:Boxed W1 (w.heap.size+1) 3 (.int .i64 k):=bS
 have bR:Boxed W1 (w.heap.size+1+1) 4 (.bool false):=bR
 have cS:=bS.cell
 have cc:=BX1.out.cf k (by omega) (by omega)
 rw [Int.toNat_natCast] at cc
 have hne:Nonempty (Ph.S (Row.Old W1)):=⟨⟨0,W1,Below.refl _ _⟩⟩
 have CC:∀ p:Ph.S (Row.Old W1),p.world.cell? ⟨w.heap.size,105+k,none⟩=some (I (cfAt T k)):=fun p=>(p.is.cell (World.block_lt_of_cell? W1 _ cc)).trans cc
 have CS:∀ p:Ph.S (Row.Old W1),p.world.cell? ⟨w.heap.size+1,0,none⟩=some (.int .i64 k):=fun p=>(p.is.cell (World.block_lt_of_cell? W1 _ cS)).trans cS
 refine Pw.region (Row.Old W1) [] hmx (by kernel_rfl) (Row.Old.drew _) ?_
 have hki:((k:Nat):Int) < 8:=by omega
 iterate 5
  (refine Pw.calm rfl (fun K hK=>?_)
   go_simp
   refine hK _ ?_
   clear hK K)
 (refine Pw.calm rfl (fun K hK=>?_)
  go_simp
  refine ⟨_,fun p=>Row.Old.pure (SetP.has_any _ _ _),hK _ ?_⟩
  clear hK K)
 refine Pw.nil ?_
 intro W2 hb
 have B0:Hid (Below w.heap.size w W2):=hJJ (A0.out.trans (hb.mono (by omega)))
 have bS2:Boxed W2 (w.heap.size+1) 3 (.int .i64 k):=(hb.block _ (by omega)).trans bS
 have bR2:Boxed W2 (w.heap.size+1+1) 4 (.bool false):=(hb.block _ (by omega)).trans bR
 have BX:=hJJ (BX1.out.below hb)
 have LT:=hJJ (LT1.out.below hb)
 have E2:w.heap.size+3≤W2.heap.size:=by have:=hb.size;omega
 clear CC CS cc cS hne hb bS bR BX1 LT1 A0 E1
 cases hself:SetM.has (cfAt T k) k with
 | true =>
  have HR:=hJJ (conf_self hself)
  clear hself
  have hc:=bR2.cell
  have hf:=bR2.frozen
  go_wp2
  have hv2:=bR2.set (.bool true)
  have hc5:=hv2.cell
  refine ⟨.bool true,?_,by rw [HR.out],B0.out.setCell (p:=⟨w.heap.size+1+1,0,none⟩) (by simp;omega) _⟩
  simp [results,Tryz.f117,go_sem,hc5]
 | false =>
  have HR:=hJJ (conf_any hself)
  clear hself
  go_wp2_with (refine lgZ 31 ⟨w.heap.size,0,none⟩ c rfl LT.out Tryz.underlying31 IA.out ?_)
  refine (ON.out _ B0.out).mono ?_
  rintro e W3 ⟨rfl,hb⟩
  go_wp2_with fail
  refine (callsIn_wide.1 (Each.each_in 3 _ _)).mono ?_
  rintro e w' ⟨rfl,rfl⟩
  go_wp2_with fail
  have hb4:Below W2.heap.size W2 (W3.alloc (.cells #[.int .i64 (onS T:Nat)] 3)):=hb.alloc hb.size _
  have bE:Boxed (W3.alloc (.cells #[.int .i64 (onS T:Nat)] 3)) W3.heap.size 3 (.int .i64 (onS T:Nat)):=Boxed.new _ _ _
  have hsz3:(W3.alloc (.cells #[.int .i64 (onS T:Nat)] 3)).heap.size=W3.heap.size+1:=by simp
  have hs3:=hb.size
  generalize W3.alloc (.cells #[.int .i64 (onS T:Nat)] 3)=W4 at hb4 bE hsz3 ⊢
  have bS4:Boxed W4 (w.heap.size+1) 3 (.int .i64 k):=(hb4.block _ (by omega)).trans bS2
  have bR4:Boxed W4 (w.heap.size+1+1) 4 (.bool false):=(hb4.block _ (by omega)).trans bR2
  have BX4:=hJJ (BX.out.below hb4)
  have LT4:=hJJ (LT.out.below hb4)
  have C0:Hid (Below w.heap.size w W4):=hJJ (B0.out.trans (hb4.mono B0.out.size))
  have E4:w.heap.size+3 < W4.heap.size:=by omega
  clear hb hb4 bS2 bR2 BX LT B0 E2 hs3
  generalize W3.heap.size=be at *
  refine (wpIn_wide (n:=3)).1 ?_
  refine search (cbad T k) (fun _=>.cells #[.bool true] 4 (0,0)) be (w.heap.size+1+1) (onS T:Nat) (by omega) rfl rfl (by omega) (by omega) bE.cell
   (fun x=>{ tmps:=#[.agg c.toArray,.int .i64 k,.pointer (some ⟨w.heap.size,0,none⟩),.pointer (some ⟨w.heap.size+1,0,none⟩),.pointer (some ⟨w.heap.size+1+1,0,none⟩),.int .i64 x,undef,.int .i64 k,.pointer (some ⟨w.heap.size,105,none⟩),.pointer (some ⟨w.heap.size,105+k,none⟩),I (cfAt T k),.int .i64 k,.bool false,.agg c.toArray,.int .i64 (onS T:Nat),.func (.func 173) #[] #[.pointer (some ⟨be,0,none⟩)],.int .i64 x,undef,undef,undef,undef,undef,undef,undef,undef,undef,undef,undef,undef,undef,undef,undef,undef,undef,undef,undef,undef,undef,undef,undef],defers:=[] }) ?assign ?body ?done ?stop
  case assign =>
   intro l x W K hK
   gi_wp2
   exact hK
  case body =>
   intro l x W hx hB
   have hx8:=SetM.list_bd _ x hx
   have BXW:=BX4.out.below hB
   have cc:=BXW.cf x hx8.1 hx8.2
   have ck:=BXW.cf k (by omega) (by omega)
   rw [Int.toNat_natCast] at ck
   have cS:=(Boxed.cell (show Boxed W (w.heap.size+1) 3 (.int .i64 k) from (hB.block _ (by omega)).trans bS4))
   have LTW:=hJJ (LT4.out.below hB)
   have BW:Hid (Below w.heap.size w W):=hJJ (C0.out.trans (hB.mono C0.out.size))
   have hvR:Boxed W (w.heap.size+1+1) 4 (.bool false):=(hB.block _ (by omega)).trans bR4
   have HV:=hJJ hvR
   obtain ⟨j,rfl⟩:=Int.eq_ofNat_of_zero_le hx8.1
   rw [Int.toNat_natCast] at cc
   have hj8:((j:Nat):Int) < 8:=hx8.2
   have hjn:j < 8:=by omega
   have CB:Hid (cbad T k j=_):=hJJ (by unfold cbad;rfl)
   have CC:∀ p:Ph.S (Row.Old W),p.world.cell? ⟨w.heap.size,105+j,none⟩=some (I (cfAt T j)):=fun p=>(p.is.cell (World.block_lt_of_cell? W _ cc)).trans cc
   have CS:∀ p:Ph.S (Row.Old W),p.world.cell? ⟨w.heap.size+1,0,none⟩=some (.int .i64 k):=fun p=>(p.is.cell (World.block_lt_of_cell? W _ cS)).trans cS
   have CH:=hJJ CC
   have CSH:=hJJ CS
   have BSW:Hid (∀ p:Ph.S (Row.Old W),Calls Tryz.prog 154 #[.agg c.toArray,.int .i64 k,.int .i64 j] p.world fun e w'=>e=.returned (.bool (beside T k j))∧Below p.world.heap.size p.world w'):=hJJ (fun p=>BS.out k j _ (BW.out.trans (p.is.mono BW.out.size)))
   clear cc CC CS hB BXW bE bS4 bR4 hvR
   obtain ⟨a,ha⟩:∃ a,SetM.has (cfAt T k) j=a:=⟨_,rfl⟩
   obtain ⟨b,hb'⟩:∃ b,SetM.has (cfAt T j) k=b:=⟨_,rfl⟩
   gi_wp2_with (refine ⟨trivial,?_⟩;gi_at_call 153;refine (CallsIn.inRound l (callsIn_wide.2 (SetP.has_any _ _ _))).mono ?_;rintro e w' ⟨rfl,rfl⟩;rw [ha])
   have hne:Nonempty (Ph.S (Row.Old W)):=⟨⟨0,W,Below.refl _ _⟩⟩
   have CC:=CH.out
   have CS:=CSH.out
   refine Up.region_ph (Row.Old W) [] (fun ⟨_,_,h⟩=>h) (by kernel_rfl) hmx (by kernel_rfl) (Row.Old.drew _) ?_
   iterate 6
    (refine Pw.calm rfl (fun K hK=>?_)
     go_simp
     refine hK _ ?_
     clear hK K)
   (refine Pw.calm rfl (fun K hK=>?_)
    go_simp
    refine ⟨_,fun p=>Row.Old.pure (SetP.has_any _ _ _),hK _ ?_⟩
    clear hK K)
   rw [hb']
   cases a with
   | false =>
    cases b with
    | false =>
     have HCB:Hid (cbad T k j=false):=hJJ (by rw [CB.out,ha,hb'];rfl)
     clear ha hb' CB
     iterate 4
      (refine Pw.calm rfl (fun K hK=>?_)
       go_simp
       refine hK _ ?_
       clear hK K)
     refine Pw.skips 4 (by kernel_rfl) ?_
     (try simp only [List.take_succ_cons,List.take_zero,List.drop_succ_cons,List.drop_zero,Pw.undefs])
     (try dsimp only [Act.put])
     (try simp only [List.setIfInBounds_toArray,List.set_cons_zero,List.set_cons_succ])
     iterate 2
      (refine Pw.calm rfl (fun K hK=>?_)
       go_simp
       refine hK _ ?_
       clear hK K)
     refine Pw.nil ?_
     intro Wz hbz
     have hv:Boxed Wz (w.heap.size+1+1) 4 (.bool false):=(hbz.block _ HV.out.lt).trans HV.out
     have hc:=hv.cell
     have hf:=hv.frozen
     clear CC CS hne
     gi_wp2
     exact ⟨HCB.out,hbz⟩
    | true =>
     have HCB:Hid (cbad T k j=true):=hJJ (by rw [CB.out,ha,hb'];rfl)
     clear ha hb' CB
     iterate 2
      (refine Pw.calm rfl (fun K hK=>?_)
       go_simp
       refine hK _ ?_
       clear hK K)
     refine Pw.skips 7 (by kernel_rfl) ?_
     (try simp only [List.take_succ_cons,List.take_zero,List.drop_succ_cons,List.drop_zero,Pw.undefs])
     (try dsimp only [Act.put])
     (try simp only [List.setIfInBounds_toArray,List.set_cons_zero,List.set_cons_succ])
     iterate 1
      (refine Pw.calm rfl (fun K hK=>?_)
       go_simp
       refine hK _ ?_
       clear hK K)
     refine Pw.nil ?_
     intro Wz hbz
     have hv:Boxed Wz (w.heap.size+1+1) 4 (.bool false):=(hbz.block _ HV.out.lt).trans HV.out
     have hc:=hv.cell
     have hf:=hv.frozen
     clear CC CS hne
     gi_wp2
     exact ⟨HCB.out,grown_trans (grown_of_below hbz) (grownBy_setCell' _ _ _),hv.set (.bool true)⟩
   | true =>
    cases b with
    | false =>
     have HCB:Hid (cbad T k j=true):=hJJ (by rw [CB.out,ha,hb'];rfl)
     clear ha hb' CB
     iterate 2
      (refine Pw.calm rfl (fun K hK=>?_)
       go_simp
       refine hK _ ?_
       clear hK K)
     refine Pw.skips 7 (by kernel_rfl) ?_
     (try simp only [List.take_succ_cons,List.take_zero,List.drop_succ_cons,List.drop_zero,Pw.undefs])
     (try dsimp only [Act.put])
     (try simp only [List.setIfInBounds_toArray,List.set_cons_zero,List.set_cons_succ])
     iterate 1
      (refine Pw.calm rfl (fun K hK=>?_)
       go_simp
       refine hK _ ?_
       clear hK K)
     refine Pw.nil ?_
     intro Wz hbz
     have hv:Boxed Wz (w.heap.size+1+1) 4 (.bool false):=(hbz.block _ HV.out.lt).trans HV.out
     have hc:=hv.cell
     have hf:=hv.frozen
     clear CC CS hne
     gi_wp2
     exact ⟨HCB.out,grown_trans (grown_of_below hbz) (grownBy_setCell' _ _ _),hv.set (.bool true)⟩
    | true =>
     have HCB0:Hid (cbad T k j=beside T k j):=hJJ (by rw [CB.out,ha,hb'];simp)
     clear ha hb' CB
     obtain ⟨bs,hbs⟩:∃ x,beside T k j=x:=⟨_,rfl⟩
     iterate 4
      (refine Pw.calm rfl (fun K hK=>?_)
       go_simp
       refine hK _ ?_
       clear hK K)
     refine Pw.load rfl (by rfl) 31 _ rfl ⟨w.heap.size,0,none⟩ rfl c _ (fun p=>LTW.out.below p.is) Tryz.underlying31 rfl IA.out ?_
     (try dsimp only [Act.put]);(try simp only [zA,zB,zC])
     iterate 2
      (refine Pw.calm rfl (fun K hK=>?_)
       go_simp
       refine hK _ ?_
       clear hK K)
     (refine Pw.calm rfl (fun K hK=>?_)
      go_simp
      refine ⟨_,fun p=>Row.Old.call (BSW.out p),hK _ ?_⟩
      clear hK K)
     rw [hbs]
     have HCB:Hid (cbad T k j=bs):=hJJ (HCB0.out.trans hbs)
     clear hbs HCB0
     cases bs with
     | true =>
      iterate 2
       (refine Pw.calm rfl (fun K hK=>?_)
        go_simp
        refine hK _ ?_
        clear hK K)
      refine Pw.nil ?_
      intro Wz hbz
      have hv:Boxed Wz (w.heap.size+1+1) 4 (.bool false):=(hbz.block _ HV.out.lt).trans HV.out
      have hc:=hv.cell
      have hf:=hv.frozen
      clear CC CS hne
      gi_wp2
      exact ⟨HCB.out,grown_trans (grown_of_below hbz) (grownBy_setCell' _ _ _),hv.set (.bool true)⟩
     | false =>
      iterate 2
       (refine Pw.calm rfl (fun K hK=>?_)
        go_simp
        refine hK _ ?_
        clear hK K)
      refine Pw.nil ?_
      intro Wz hbz
      have hv:Boxed Wz (w.heap.size+1+1) 4 (.bool false):=(hbz.block _ HV.out.lt).trans HV.out
      have hc:=hv.cell
      have hf:=hv.frozen
      clear CC CS hne
      gi_wp2
      exact ⟨HCB.out,hbz⟩
  case done =>
   intro D W hD hall hB hK
   have hv:Boxed W (w.heap.size+1+1) 4 (.bool false):=(hB.block _ (by omega)).trans bR4
   have hc:=hv.cell
   have hf:=hv.frozen
   have HR2:Hid (confBad T k=false):=hJJ (by rw [HR.out,List.any_eq_false];intro x hx;simpa using hall x hx)
   have HB:Hid (Below w.heap.size w W):=hJJ (C0.out.trans (hB.mono C0.out.size))
   clear hB hall
   go_wp2
   have hv2:=hv.set (.bool false)
   have hK':=(KeepsOthers.setCell W ⟨w.heap.size+1+1,0,none⟩ (.bool false)).same D _ hK rfl
   refine ⟨by simp,.inl ⟨_,_,rfl,run_takeDeferred hK',?_⟩⟩
   have hc5:=cell_kept hv2.cell (grownBy_putObj' _ D (.deferred none)) (fun r e=>by cases e;exact ⟨_,hK',rfl⟩)
   refine ⟨.bool false,?_,by rw [HR2.out],(HB.out.setCell (p:=⟨w.heap.size+1+1,0,none⟩) (by simp;omega) _).trans (belowK_b (w:=w) (Nat.le_refl _) _ D _ _ (by omega) hK' rfl rfl)⟩
   simp [results,Tryz.f117,go_sem,hc5]
  case stop =>
   intro D x W hD hf hx hg hR hK
   have HR2:Hid (confBad T k=true):=hJJ (by rw [HR.out,List.any_eq_true];exact ⟨x,List.mem_of_find?_eq_some hf,hx⟩)
   have hv:Boxed W (w.heap.size+1+1) 4 (.bool true):=hR
   have HB:Hid (Below w.heap.size w W):=hJJ (C0.out.grown hg (by omega) (fun k e=>by cases e;omega))
   clear hf hx hg
   gi_wp2
   refine ⟨by simp,.inl ⟨_,_,rfl,run_takeDeferred hK,?_⟩⟩
   have hc5:=cell_kept hv.cell (grownBy_putObj' _ D (.deferred none)) (fun r e=>by cases e;exact ⟨_,hK,rfl⟩)
   refine ⟨.bool true,?_,by rw [HR2.out],HB.out.trans (belowK_b (w:=w) (Nat.le_refl _) W D _ _ (by omega) hK rfl rfl)⟩
   simp [results,Tryz.f117,go_sem,hc5]
end ChkJ
namespace ChkA
open Zip
open Go.ChangeShapes Go.WideShapes Go.ChangeAt Go.RowKit
open Tab PlaceM PlanM OnS ChkM
open May (ret_bool infoT St ints_in phases_in)
theorem allOn_any (T:Tab) (h:Hd) (s:Int) (w:World) (ht:IsTab w h T) :
  Calls Tryz.prog 157 #[.agg (T.cells h).toArray,.int .i64 s] w fun e w'=>e=.returned (.bool (allOn T s))∧Below w.heap.size w w':=by
 have hsz:=(cells_ok ht).size
 have IA:Hid ((Tryz.prog.info? 31).map (·.size)=some (T.cells h).length):=hJJ (by rw [List.size_toArray] at hsz;rw [hsz];exact infoT)
 have ON:Hid (∀ W,Below w.heap.size w W→Calls Tryz.prog 150 #[.agg (T.cells h).toArray] W fun e w'=>e=.returned (.int .i64 (onS T:Nat))∧Below W.heap.size W w'):=hJJ (fun W hb=>PlanO.pon_any T h W (ht.below hb))
 have A0:Hid (Below w.heap.size w (w.alloc (.cells (T.cells h).toArray 31))):=hJJ ((Below.refl _ _).alloc (Nat.le_refl _) _)
 have A1:Hid (Lies (w.alloc (.cells (T.cells h).toArray 31)) ⟨w.heap.size,0,none⟩ (T.cells h)):=hJJ (Row.lies_new w _ _)
 have HR:Hid (allOn T s=(bits .andNot .i64 s (onS T:Nat) == 0)):=hJJ rfl
 generalize allOn T s=r at HR ⊢
 generalize onS T=m at HR ON
 clear ht
 generalize T.cells h=c at *
 go_enter Tryz.func157,Tryz.ntmps157
 go_upto_region 1 with fail
 generalize w.alloc (.cells c.toArray 31)=u at A0 A1 ⊢
 clear hsz
 go_wp2_with (refine lgZ 31 ⟨w.heap.size,0,none⟩ c rfl A1.out Tryz.underlying31 IA.out ?_)
 refine (ON.out _ A0.out).mono ?_
 rintro e u1 ⟨rfl,hb⟩
 have B0:Hid (Below w.heap.size w u1):=hJJ (A0.out.trans (hb.mono A0.out.size))
 clear hb A0 A1 ON
 go_wp2
 go_ret
 exact ⟨ret_bool (by rw [HR.out]),B0.out⟩
theorem listD_any (T:Tab) (h:Hd) (w:World) (ht:IsTab w h T) :
  Calls Tryz.prog 119 #[.agg (T.cells h).toArray] w fun e w'=>e=.returned (h.d.val T.dets.length)∧Below w.heap.size w w':=by
 have S0:=hJJ (St.box (cs:=(T.cells h).toArray) ht)
 have hsz:=(cells_ok ht).size
 have q:=(St.box (cs:=(T.cells h).toArray) ht).cell (cells_ok ht).d
 generalize (T.cells h).toArray=cs at *
 clear ht
 go_enter Tryz.func119,Tryz.ntmps119
 go_upto_region 1 with fail
 generalize w.alloc (.cells cs 31)=w1 at S0 q ⊢
 clear hsz
 go_wp2
 go_ret
 exact ⟨rfl,S0.out.bel⟩
theorem listR_any (T:Tab) (h:Hd) (w:World) (ht:IsTab w h T) :
  Calls Tryz.prog 122 #[.agg (T.cells h).toArray] w fun e w'=>e=.returned (h.r.val T.rails.length)∧Below w.heap.size w w':=by
 have S0:=hJJ (St.box (cs:=(T.cells h).toArray) ht)
 have hsz:=(cells_ok ht).size
 have q:=(St.box (cs:=(T.cells h).toArray) ht).cell (cells_ok ht).r
 generalize (T.cells h).toArray=cs at *
 clear ht
 go_enter Tryz.func122,Tryz.ntmps122
 go_upto_region 1 with fail
 generalize w.alloc (.cells cs 31)=w1 at S0 q ⊢
 clear hsz
 go_wp2
 go_ret
 exact ⟨rfl,S0.out.bel⟩
theorem listB_any (T:Tab) (h:Hd) (w:World) (ht:IsTab w h T) :
  Calls Tryz.prog 125 #[.agg (T.cells h).toArray] w fun e w'=>e=.returned (h.b.val T.buses.length)∧Below w.heap.size w w':=by
 have S0:=hJJ (St.box (cs:=(T.cells h).toArray) ht)
 have hsz:=(cells_ok ht).size
 have q:=(St.box (cs:=(T.cells h).toArray) ht).cell (cells_ok ht).b
 generalize (T.cells h).toArray=cs at *
 clear ht
 go_enter Tryz.func125,Tryz.ntmps125
 go_upto_region 1 with fail
 generalize w.alloc (.cells cs 31)=w1 at S0 q ⊢
 clear hsz
 go_wp2
 go_ret
 exact ⟨rfl,S0.out.bel⟩
theorem rail_cells (r:Rl) (w:World) (b:Nat) (hb:w.heap[b]?=some (.cells r.cells.toArray 94 (0,0))) :
  w.cell? ⟨b,0,none⟩=some (I r.bars)∧w.cell? ⟨b,1,none⟩=some (I r.clear)∧w.cell? ⟨b,2,none⟩=some (I r.dwell)∧w.cell? ⟨b,3,none⟩=some (I r.exit)∧w.cell? ⟨b,4,none⟩=some (I r.delay)∧w.cell? ⟨b,5,none⟩=some (I r.green)∧w.cell? ⟨b,7,none⟩=some (I r.hold)∧w.cell? ⟨b,8,none⟩=some (I r.stay)∧w.cell? ⟨b,9,none⟩=some (I r.most)∧w.cell? ⟨b,10,none⟩=some (I r.limit):=by
 refine ⟨?_,?_,?_,?_,?_,?_,?_,?_,?_,?_⟩ <;> (rw [cell_of_row _ _ _ _ _ _ hb];rfl)
theorem badTimes_any (r:Rl) (w:World) :
  Calls Tryz.prog 160 #[.agg r.cells.toArray] w fun e w'=>e=.returned (.bool (timesBad r))∧Below w.heap.size w w':=by
 have A0:Hid (Below w.heap.size w (w.alloc (.cells r.cells.toArray 94))):=hJJ ((Below.refl _ _).alloc (Nat.le_refl _) _)
 obtain ⟨q0,q1,q2,q3,q4,q5,q7,q8,q9,q10⟩:=rail_cells r _ _ (heap_alloc_new w (.cells r.cells.toArray 94))
 have HR:Hid (timesBad r=_):=hJJ (by unfold timesBad;rfl)
 generalize timesBad r=x at HR ⊢
 have hone:=Rl.one r
 have hsz:r.cells.toArray.size=11:=rfl
 generalize r.cells.toArray=cs at *
 obtain ⟨bars,clear,dwell,exit,delay,green,foot,hold,stay,most,limit⟩:=r
 simp only at *
 go_enter Tryz.func160,Tryz.ntmps160
 go_upto_region 1 with fail
 generalize w.alloc (.cells cs 94)=u at *
 clear q0 q2 q3 hone hsz
 go_wp2
 all_goals go_ret
 all_goals (refine ⟨ret_bool ?_,A0.out⟩)
 all_goals (rw [HR.out])
 all_goals (clear HR q1 q4 q5 q7 q8 q9 q10 A0)
 all_goals (first | grind | (simp_all <;> omega))
end ChkA
namespace ChkB
open Zip
open Go.ChangeShapes Go.WideShapes Go.ChangeAt Go.RowKit
open Tab PlaceM PlanM OnS ChkM ChkA
open May (ret_bool infoT infoP infoB infoD infoR St ints_in phases_in)
theorem phase_cells (u:Ph) (w:World) (b:Nat) (hb:w.heap[b]?=some (.cells u.cells.toArray 23 (0,0))) :
  w.cell? ⟨b,1,none⟩=some (I u.min)∧w.cell? ⟨b,3,none⟩=some (I u.max)∧w.cell? ⟨b,4,none⟩=some (I u.top)∧w.cell? ⟨b,5,none⟩=some (I u.step)∧w.cell? ⟨b,6,none⟩=some (I u.yellow)∧w.cell? ⟨b,8,none⟩=some (I u.walk)∧w.cell? ⟨b,9,none⟩=some (I u.blinks)∧w.cell? ⟨b,10,none⟩=some (I u.recall):=by
 refine ⟨?_,?_,?_,?_,?_,?_,?_,?_⟩ <;> (rw [cell_of_row _ _ _ _ _ _ hb];rfl)
theorem phase_lies {T:Tab} {h:Hd} {w:World} (ht:IsTab w h T) (k:Nat) (hk:k < 8):Lies (w.alloc (.cells (T.cells h).toArray 31)) ⟨w.heap.size,k*13,none⟩ (phAt T k).cells:=by
 have C:=cells_ok ht
 have hb:(w.alloc (.cells (T.cells h).toArray 31)).heap[w.heap.size]?=some (.cells (T.cells h).toArray 31 (0,0)):=heap_alloc_new w _
 have h8:k < T.phases.length:=by rw [ht.ph];exact hk
 have e:phAt T k=T.phases[k]:=by unfold phAt;rw [Int.toNat_natCast,List.getD_eq_getElem?_getD,List.getElem?_eq_getElem h8];rfl
 have h1:=C.phase k _ (List.getElem?_eq_getElem h8)
 rw [Nat.mul_comm] at h1
 rw [← e] at h1
 intro j v hv
 rw [Addr.add_mid,cell_of_row _ _ _ _ _ _ hb]
 rw [← h1,List.getElem?_take] at hv
 split at hv
 ·rw [List.getElem?_drop,Array.getElem?_toList] at hv
  exact hv
 ·cases hv
theorem badPhase_any (T:Tab) (h:Hd) (k:Nat) (hk:k < 8) (w:World) (ht:IsTab w h T) :
  Calls Tryz.prog 115 #[.agg (T.cells h).toArray,.int .i64 k] w fun e w'=>e=.returned (.bool (phBad (phAt T k)))∧Below w.heap.size w w':=by
 have hsz:=(cells_ok ht).size
 have A0:Hid (Below w.heap.size w (w.alloc (.cells (T.cells h).toArray 31))):=hJJ ((Below.refl _ _).alloc (Nat.le_refl _) _)
 have A1:=hJJ (phase_lies ht k hk)
 have HS:Hid ((w.alloc (.cells (T.cells h).toArray 31)).heap.size=w.heap.size+1):=hJJ (by simp)
 clear ht
 generalize T.cells h=c at *
 obtain ⟨x,hx⟩:∃ x,x=phBad (phAt T k):=⟨_,rfl⟩
 rw [← hx]
 have HR:=hJJ hx
 clear hx
 generalize phAt T k=ph at *
 go_enter Tryz.func115,Tryz.ntmps115
 go_upto_region 1 with fail
 generalize w.alloc (.cells c.toArray 31)=u at A0 A1 HS ⊢
 clear hsz
 go_upto_region 2 with (first | (refine lgZ 23 ⟨w.heap.size,k*13,none⟩ ph.cells rfl A1.out Tryz.underlying23 infoP ?_) | (refine Row.wpList_store_new rfl 23 _ _ rfl u _ ph.cells.toArray rfl rfl rfl infoP rfl (Ph.one _) ?_))
 have E:=hJJ (A0.out.trans (((Below.refl u.heap.size u).alloc (Nat.le_refl _) (.cells ph.cells.toArray 23)).mono A0.out.size))
 obtain ⟨q1,q3,q4,q5,q6,q8,q9,q10⟩:=phase_cells ph _ _ (heap_alloc_new u (.cells ph.cells.toArray 23))
 generalize u.alloc (.cells ph.cells.toArray 23)=u2 at *
 generalize u.heap.size=b2 at *
 clear A0 A1 HS
 obtain ⟨on,min,gap,max,top,step,yellow,red,walk,blinks,recall,lock,rest⟩:=ph
 simp only at *
 go_wp2
 all_goals go_ret
 all_goals (refine ⟨ret_bool ?_,E.out⟩)
 all_goals (rw [HR.out];unfold phBad;dsimp only)
 all_goals (clear HR q1 q3 q4 q5 q6 q8 q9 q10 E)
 all_goals (first | grind | (simp_all <;> omega))
theorem laid2 (w:World) (o0 o1:Obj):∃ W,((w.alloc o0).alloc o1)=W∧W.heap.size=w.heap.size+2∧Below w.heap.size w W∧Below (w.heap.size+1) (w.alloc o0) W∧W.heap[w.heap.size+1]?=some o1:=by
 refine ⟨_,rfl,by simp,((Below.refl _ w).alloc (Nat.le_refl _) _).alloc (by simp) _,?_,?_⟩
 ·have:=(Below.refl (w.alloc o0).heap.size (w.alloc o0)).alloc (Nat.le_refl _) o1
  simpa using this
 ·have h1:=heap_alloc_new (w.alloc o0) o1
  rwa [World.size_alloc] at h1
theorem lies_head {w:World} {x:Addr} {v:Value} {l:List Value} (h:Lies w x (v :: l)):w.cell? x=some v:=by
 have:=h 0 v rfl
 rwa [Tab.add_zero] at this
theorem badDetector_any (T:Tab) (h:Hd) (d:Det) (w:World) (ht:IsTab w h T) (h0:Fl.isn d.on=false) (h1:Fl.isn d.off=false) (hp:0≤d.phase∧d.phase < 8) :
  Calls Tryz.prog 120 #[.agg (T.cells h).toArray,.agg d.cells.toArray] w fun e w'=>e=.returned (.bool (detBad T d))∧Below w.heap.size w w':=by
 have hsz:=(cells_ok ht).size
 have hs1:(w.alloc (.cells (T.cells h).toArray 31)).heap.size=w.heap.size+1:=by simp
 obtain ⟨ph,on,off,delay,extend,mOn,mOff⟩:=d
 dsimp only at h0 h1 hp
 obtain ⟨k,rfl⟩:=Int.eq_ofNat_of_zero_le hp.1
 have hk:k < 8:=by omega
 have LP:=hJJ (lies_head (phase_lies ht k hk))
 obtain ⟨x,hx⟩:∃ x,x=detBad T ⟨k,on,off,delay,extend,mOn,mOff⟩:=⟨_,rfl⟩
 rw [← hx]
 have HR:Hid (x=(gtF off on || !(phAt T k).on)):=hJJ hx
 generalize (phAt T k).on=q at LP HR
 have ho:=Secs.ord_cases off on h1 h0
 have HO:=hJJ ho
 clear hx ht h0 h1 hp ho
 generalize T.cells h=c at *
 have hone:=Det.one ⟨k,on,off,delay,extend,mOn,mOff⟩
 have hsz2:(Det.cells ⟨k,on,off,delay,extend,mOn,mOff⟩).toArray.size=7:=rfl
 generalize hcd:(Det.cells ⟨k,on,off,delay,extend,mOn,mOff⟩).toArray=cd at *
 have HCD:=hJJ hcd
 clear hcd
 go_enter Tryz.func120,Tryz.ntmps120
 go_upto_region 1 with fail
 obtain ⟨u,hu,E1,E0,EB,b1⟩:=laid2 w (.cells c.toArray 31) (.cells cd 90)
 rw [hu]
 have EE:=hJJ E0
 have c0:u.cell? ⟨w.heap.size,k*13,none⟩=some (.bool q):=(EB.cell (p:=⟨w.heap.size,k*13,none⟩) (Nat.lt_succ_self _)).trans LP.out
 have q0:u.cell? ⟨w.heap.size+1,0,none⟩=some (I k):=by rw [cell_of_row _ _ _ _ _ _ b1,← HCD.out];rfl
 have q1:u.cell? ⟨w.heap.size+1,1,none⟩=some (.float .f64 on):=by rw [cell_of_row _ _ _ _ _ _ b1,← HCD.out];rfl
 have q2:u.cell? ⟨w.heap.size+1,2,none⟩=some (.float .f64 off):=by rw [cell_of_row _ _ _ _ _ _ b1,← HCD.out];rfl
 clear hu EB LP b1 hs1 hsz hsz2 hone E0 HCD
 rcases HO.out with ⟨a,ho⟩ | ⟨a,ho⟩ | ⟨a,ho⟩
 all_goals
  clear HO
  have HA:=hJJ a
  clear a
  go_wp2
  go_ret
  have a:=HA.out
  refine ⟨ret_bool ?_,EE.out⟩
  rw [HR.out]
  unfold gtF
  first | (rw [decide_eq_true (by omega)];simp) | (rw [decide_eq_false (by omega)];simp)
theorem badBus_any (T:Tab) (h:Hd) (d:Bs) (w:World) (ht:IsTab w h T) :
  Calls Tryz.prog 126 #[.agg (T.cells h).toArray,.agg d.cells.toArray] w fun e w'=>e=.returned (.bool (busBad T d))∧Below w.heap.size w w':=by
 have hsz:=(cells_ok ht).size
 have IA:Hid ((Tryz.prog.info? 31).map (·.size)=some (T.cells h).length):=hJJ (by rw [List.size_toArray] at hsz;rw [hsz];exact infoT)
 obtain ⟨s,lk⟩:=d
 have AO:Hid (∀ W,Below w.heap.size w W→Calls Tryz.prog 157 #[.agg (T.cells h).toArray,.int .i64 s] W fun e w'=>e=.returned (.bool (allOn T s))∧Below W.heap.size W w'):=hJJ (fun W hb=>allOn_any T h s W (ht.below hb))
 obtain ⟨x,hx⟩:∃ x,x=busBad T ⟨s,lk⟩:=⟨_,rfl⟩
 rw [← hx]
 have HR:Hid (x=(s == 0 || (!allOn T s || decide (lk < 1)))):=hJJ hx
 generalize allOn T s=q at AO HR
 have A1:=hJJ (Row.lies_new w (T.cells h).toArray 31)
 clear hx ht
 have hone:=Bs.one ⟨s,lk⟩
 have hsz2:(Bs.cells ⟨s,lk⟩).toArray.size=2:=rfl
 generalize hcd:(Bs.cells ⟨s,lk⟩).toArray=cd at *
 have HCD:=hJJ hcd
 clear hcd
 generalize T.cells h=c at *
 go_enter Tryz.func126,Tryz.ntmps126
 go_upto_region 1 with fail
 obtain ⟨u,hu,E1,E0,EB,b1⟩:=laid2 w (.cells c.toArray 31) (.cells cd 96)
 rw [hu]
 have EE:=hJJ E0
 have LT:Hid (Lies u ⟨w.heap.size,0,none⟩ c):=hJJ (A1.out.below (by simpa using EB))
 have q0:u.cell? ⟨w.heap.size+1,0,none⟩=some (I s):=by rw [cell_of_row _ _ _ _ _ _ b1,← HCD.out];rfl
 have q1:u.cell? ⟨w.heap.size+1,1,none⟩=some (I lk):=by rw [cell_of_row _ _ _ _ _ _ b1,← HCD.out];rfl
 have Q1:=hJJ q1
 clear hu EB A1 b1 hsz hsz2 hone E0 HCD
 by_cases hs:s=0
 ·go_wp2
  go_ret
  exact ⟨ret_bool (by rw [HR.out,hs];rfl),EE.out⟩
 ·go_wp2_with (refine lgZ 31 ⟨w.heap.size,0,none⟩ c rfl LT.out Tryz.underlying31 IA.out ?_)
  refine (AO.out _ EE.out).mono ?_
  rintro e u1 ⟨rfl,hb⟩
  have q1:=(hb.cell (World.block_lt_of_cell? u _ Q1.out)).trans Q1.out
  have EF:=hJJ (EE.out.trans (hb.mono EE.out.size))
  clear hb q0 LT AO Q1
  cases q with
  | true =>
   go_wp2
   go_ret
   refine ⟨ret_bool ?_,EF.out⟩
   rw [HR.out];simp [hs]
  | false =>
   go_wp2
   go_ret
   refine ⟨ret_bool ?_,EF.out⟩
   rw [HR.out];simp
end ChkB
namespace RkA
open Go.ChangeShapes Go.WideShapes Go.ChangeAt Go.RowKit
open Tab PlaceM PlanM OnS ChkM ChkI
open RefS (rlist_any rhas_any row_of)
open May (ret_bool infoT infoP)
end RkA
namespace ChkG
open Zip
open Go.ChangeShapes Go.WideShapes Go.ChangeAt Go.RowKit
open Tab PlaceM PlanM OnS ChkM ChkA
open PlanW (wG wK wI idx0 idx1 info2 pwhere_any)
open May (ret_bool infoT St)
def atOk (T:Tab) (g k i:Nat) (p:Int):Bool:=at0 (where_ T p) == (g,k,i)
theorem at_iff (T:Tab) (g k i:Nat) (p:Int):atOk T g k i p=(decide (wG (where_ T p)=g) && (decide (wK (where_ T p)=k) && decide (wI (where_ T p)=i))):=by
 unfold atOk at0 wG wK wI
 cases where_ T p with
 | none=>rw [Bool.eq_iff_iff];simp;omega
 | some x=>rw [Bool.eq_iff_iff];simp;omega
theorem rep_row {T:Tab} {g k:Nat} {l:List Int}:repRow T g k l=false ↔ ∀ i,i < l.length→atOk T g k i (l.getD i 0)=true:=by
 unfold repRow
 rw [List.any_eq_false]
 constructor
 ·intro h i hi
  have:=h i (List.mem_range.2 hi)
  unfold atOk
  simpa using this
 ·intro h i hi
  have:=h i (List.mem_range.1 hi)
  unfold atOk at this
  simpa using this
theorem repeats_any (T:Tab) (h:Hd) (g:Nat) (w:World) (ht:IsTab w h T) (hg:g < T.groups.length) :
  Calls Tryz.prog 175 #[.agg (T.cells h).toArray,.int .i64 g] w fun e w'=>e=.returned (.bool (repeats T g))∧Below w.heap.size w w':=by
 obtain ⟨⟨ga,gcap⟩,sd,sr,sb⟩:=h
 have hsz1:=(cells_ok ht).size
 have IA:Hid ((Tryz.prog.info? 31).map (·.size)=some (T.cells ⟨⟨ga,gcap⟩,sd,sr,sb⟩).length):=hJJ (by rw [List.size_toArray] at hsz1;rw [hsz1];exact infoT)
 have WH:Hid (∀ p W,Below w.heap.size w W→Calls Tryz.prog 179 #[.agg (T.cells ⟨⟨ga,gcap⟩,sd,sr,sb⟩).toArray,.int .i64 p] W fun e w'=>e=.returned (.tuple #[I (wG (where_ T p)),I (wK (where_ T p)),I (wI (where_ T p)),.bool (where_ T p).isSome])∧Below W.heap.size W w'):=hJJ (fun p W hb=>pwhere_any T _ p W (ht.below hb))
 have LT0:=hJJ (Row.lies_new w (T.cells ⟨⟨ga,gcap⟩,sd,sr,sb⟩).toArray 31)
 have C:=hJJ (cells_ok ht)
 obtain ⟨gs,hgd,hgr⟩:=ht.groups
 have Hgr:=hJJ hgr
 have Hgd:=hJJ hgd
 have S0:=hJJ (St.box (cs:=(T.cells ⟨⟨ga,gcap⟩,sd,sr,sb⟩).toArray) ht)
 have Hgl:=hJJ (show T.groups.length=gs.length by rw [← hgd,List.length_map])
 have Kg:=hgr.1.len
 unfold maxLen at Kg
 have hlt:g < gs.length:=by rw [← Hgl.out];exact hg
 have hv:=List.getElem?_eq_getElem hlt
 generalize gs[g]=u at hv
 obtain ⟨x,hx,hc⟩:=hgr.1.at hv
 have hok:=hgr.2 u (List.mem_of_getElem? hv)
 have HD:Hid (rowsAt T g=u.data):=hJJ (rows_in (by rw [← hgd,List.getElem?_map,hv];rfl))
 obtain rfl:ga=some x:=hx
 obtain ⟨l0,l1,⟨a0,cap0⟩,⟨a1,cap1⟩⟩:=u
 have HC:Hid (Lies w (x.add (g*2)) [.slice a0 l0.length cap0,.slice a1 l1.length cap1]):=hJJ hc
 have HO:=hJJ hok
 have RS:Hid (repeats T g=(repRow T g 0 l0 || repRow T g 1 l1)):=hJJ (by unfold repeats;rw [HD.out];rfl)
 have AT:=hJJ (at_iff T)
 have RR:Hid (∀ {k l},repRow T g k l=false ↔ ∀ i,i < l.length→atOk T g k i (l.getD i 0)=true):=hJJ rep_row
 have q104:=S0.out.cell C.out.g
 rw [Hgl.out] at q104
 have Q104:Hid ((w.alloc (.cells (T.cells ⟨⟨some x,gcap⟩,sd,sr,sb⟩).toArray 31)).cell? ⟨w.heap.size,104,none⟩=some (.slice (some x) gs.length gcap)):=hJJ q104
 clear ht hgr hgd hv hc hok hsz1 q104 C
 obtain ⟨res,hres⟩:∃ r,r=repeats T g:=⟨_,rfl⟩
 rw [← hres]
 have HRES:=hJJ hres
 clear hres
 generalize hcc:T.cells ⟨⟨some x,gcap⟩,sd,sr,sb⟩=c at *
 clear hcc
 have hsz:c.toArray.size=131:=by
  have:=S0.out.blk
  have h2:=IA.out
  have h3:(Tryz.prog.info? 31).map (·.size)=some 131:=infoT
  rw [h3] at h2
  rw [List.size_toArray];exact (Option.some.inj h2).symm
 go_enter Tryz.func175,Tryz.ntmps175
 go_upto_region 1 with fail
 clear hsz
 generalize w.alloc (.cells c.toArray 31)=w1 at *
 have q104:=Q104.out
 have HC1:=hJJ (HC.out.below S0.out.bel)
 have HO1:=hJJ (HO.out.below S0.out.bel)
 clear HC HO
 go_wp2_with (refine Row.wpList_load_g 65 _ rfl (by first | rfl | go_simp) (x.add (g*2)) rfl [.slice a0 l0.length cap0,.slice a1 l1.length cap1] _ HC1.out Tryz.underlying65 rfl info2 ?_)
 clear q104
 go_loopw [18] (fun a wr=>∃ r:Nat,r≤2∧a=.int .i64 r∧(0 < r→repRow T g 0 l0=false)∧(1 < r→repRow T g 1 l1=false)∧Below w1.heap.size w1 wr) (fun a _=>2 - (intOf a).toNat)
 case atStart=>exact ⟨0,by omega,rfl,by omega,by omega,Below.refl _ _⟩
 case round =>
  obtain ⟨r,hr,rfl,h0,h1,hB⟩:=hrel
  have H0:=hJJ h0
  have H1:=hJJ h1
  have HB:=hJJ hB
  clear h0 h1 hB
  by_cases hr2:r < 2
  ·obtain ⟨l,a,cap,hidx,hrow,hring,hbad⟩:∃ (l:List Int) (a:Option Addr) (cap:Nat),(∀ W,Sem.run Tryz.prog (Instr.index 65 (.agg #[.slice a0 l0.length cap0,.slice a1 l1.length cap1]) (.int .i64 r)) W=.ok (.slice a l.length cap) W)∧IntRow wr ⟨a,cap⟩ l∧(repRow T g r l=false→(0 < r+1→repRow T g 0 l0=false)∧(1 < r+1→repRow T g 1 l1=false))∧(repRow T g r l=true→repeats T g=true):=by
    have:r=0∨r=1:=by omega
    rcases this with rfl | rfl
    ·exact ⟨l0,a0,cap0,fun W=>idx0 _ _ W,HO1.out.1.below HB.out,fun e=>⟨fun _=>e,by omega⟩,fun e=>by rw [RS.out,e];rfl⟩
    ·exact ⟨l1,a1,cap1,fun W=>idx1 _ _ W,HO1.out.2.below HB.out,fun e=>⟨fun _=>H0.out (by omega),fun _=>e⟩,fun e=>by rw [RS.out,e];simp⟩
   have HROW:=hJJ hrow
   have HRING:=hJJ hring
   have HBAD:=hJJ hbad
   have K:=hrow.len
   unfold maxLen at K
   clear hrow hring hbad
   go_wp2_with fail
   clear hidx
   go_loopw [24] (fun a' wk=>∃ j:Nat,j≤l.length∧a'=.int .i64 j∧(∀ i,i < j→atOk T g r i (l.getD i 0)=true)∧Below wr.heap.size wr wk) (fun a' _=>l.length - (intOf a').toNat)
   case atStart=>exact ⟨0,by omega,rfl,(fun i h=>by omega),Below.refl _ _⟩
   case round =>
    obtain ⟨j,hj,rfl,hall,hB2⟩:=hrel
    rename World=>wk
    have HA:=hJJ hall
    have HB2:=hJJ hB2
    clear hall hB2
    by_cases hjl:j < l.length
    ·have hv:=List.getElem?_eq_getElem hjl
     generalize hz:l[j]=z at hv
     obtain ⟨y,hy,hp⟩:=IntRow.at (HROW.out.below HB2.out) hv
     obtain rfl:a=some y:=hy
     have hgd:l.getD j 0=z:=by rw [List.getD_eq_getElem?_getD,hv];rfl
     have HGD:=hJJ hgd
     have LT:Hid (Lies wk ⟨w.heap.size,0,none⟩ c):=hJJ ((LT0.out.below HB.out).below HB2.out)
     have BW:Hid (Below w.heap.size w wk):=hJJ (S0.out.bel.trans ((HB.out.trans (HB2.out.mono HB.out.size)).mono S0.out.bel.size))
     clear hv hz hgd
     have hAT:=AT.out g r j z
     go_wp2_with (refine lgZ 31 ⟨w.heap.size,0,none⟩ c rfl LT.out Tryz.underlying31 IA.out ?_)
     refine (WH.out z _ BW.out).mono ?_
     rintro e u1 ⟨rfl,hb⟩
     have HB3:Hid (Below wr.heap.size wr u1):=hJJ (HB2.out.trans (hb.mono HB2.out.size))
     have BW1:Hid (Below w.heap.size w u1):=hJJ (BW.out.trans (hb.mono BW.out.size))
     clear hb LT BW HB2
     have HAT:=hJJ hAT
     clear hAT
     generalize wG (where_ T z)=oG at HAT ⊢
     generalize wK (where_ T z)=oK at HAT ⊢
     generalize wI (where_ T z)=oI at HAT ⊢
     generalize (where_ T z).isSome=oS
     have BAD:Hid (atOk T g r j z=false→true=res):=hJJ (fun e=>by
      rw [HRES.out];symm
      refine HBAD.out ?_
      cases hr:repRow T g r l with
      | true=>rfl
      | false=>rw [RR.out] at hr;have:=hr j hjl;rw [HGD.out,e] at this;cases this)
     by_cases e1:oG=(g:Int)
     ·by_cases e2:oK=(r:Int)
      ·by_cases e3:oI=(j:Int)
       ·subst e1 e2 e3
        have OK:=hJJ (show atOk T g r j z=true by rw [HAT.out];simp)
        go_wp2
        go_roundw
        case rel=>exact ⟨j+1,by omega,by go_num,(fun i hi=>by
         by_cases e:i=j
         ·subst e;rw [HGD.out];exact OK.out
         ·exact HA.out i (by omega)),HB3.out⟩
        case measure=>simp [intOf];omega
       ·have NO:=hJJ (BAD.out (by rw [HAT.out];simp [e3]))
        go_wp2
        go_ret
        exact ⟨ret_bool NO.out,BW1.out⟩
      ·have NO:=hJJ (BAD.out (by rw [HAT.out];simp [e2]))
       go_wp2
       go_ret
       exact ⟨ret_bool NO.out,BW1.out⟩
     ·have NO:=hJJ (BAD.out (by rw [HAT.out];simp [e1]))
      go_wp2
      go_ret
      exact ⟨ret_bool NO.out,BW1.out⟩
    ·have HE:=hJJ (HRING.out (by rw [RR.out];intro i hi;exact HA.out i (by omega)))
     have HB4:=hJJ (HB.out.trans (HB2.out.mono HB.out.size))
     go_wp2
     go_roundw
     case rel=>exact ⟨r+1,by omega,by go_num,HE.out.1,HE.out.2,HB4.out⟩
     case measure=>simp [intOf];omega
  ·have NO:=hJJ (show false=res by rw [HRES.out,RS.out,H0.out (by omega),H1.out (by omega)];rfl)
   have BW1:=hJJ (S0.out.bel.trans (HB.out.mono S0.out.bel.size))
   go_wp2
   go_ret
   exact ⟨ret_bool NO.out,BW1.out⟩
end ChkG
namespace ChkH
open Zip
open Go.ChangeShapes Go.WideShapes Go.ChangeAt Go.RowKit
open Tab PlaceM PlanM OnS ChkM ChkA ChkG
open May (ret_bool infoT St)
open Same (below_setRow)
def flt (c:Int):Option Int→Value
 | none=>.agg #[I 0,I 0]
 | some p=>.agg #[I c,I p]
theorem infoF:(Tryz.prog.info? 40).map (·.size)=some 2:=by kernel_rfl
theorem badGroup_any (T:Tab) (h:Hd) (g:Nat) (w:World) (ht:IsTab w h T) (hg:g < T.groups.length) :
  Calls Tryz.prog 151 #[.agg (T.cells h).toArray,.int .i64 g] w fun e w'=>e=.returned (.bool (groupBad T g))∧Below w.heap.size w w':=by
 have hsz:=(cells_ok ht).size
 have IA:Hid ((Tryz.prog.info? 31).map (·.size)=some (T.cells h).length):=hJJ (by rw [List.size_toArray] at hsz;rw [hsz];exact infoT)
 have ME:Hid (∀ W,Below w.heap.size w W→Calls Tryz.prog 152 #[.agg (T.cells h).toArray,.int .i64 g] W fun e w'=>e=.returned (.int .i64 (membS T g:Nat))∧Below W.heap.size W w'):=hJJ (fun W hb=>PlanC.members_any T h g W (ht.below hb))
 have AO:Hid (∀ s W,Below w.heap.size w W→Calls Tryz.prog 157 #[.agg (T.cells h).toArray,.int .i64 s] W fun e w'=>e=.returned (.bool (allOn T s))∧Below W.heap.size W w'):=hJJ (fun s W hb=>allOn_any T h s W (ht.below hb))
 have RP:Hid (∀ W,Below w.heap.size w W→Calls Tryz.prog 175 #[.agg (T.cells h).toArray,.int .i64 g] W fun e w'=>e=.returned (.bool (repeats T g))∧Below W.heap.size W w'):=hJJ (fun W hb=>repeats_any T h g W (ht.below hb) hg)
 obtain ⟨x,hx⟩:∃ x,x=groupBad T g:=⟨_,rfl⟩
 rw [← hx]
 have HR:Hid (x=(membS T g == 0 || (!allOn T (membS T g:Nat) || repeats T g))):=hJJ hx
 have A0:Hid (Below w.heap.size w (w.alloc (.cells (T.cells h).toArray 31))):=hJJ ((Below.refl _ _).alloc (Nat.le_refl _) _)
 have A1:=hJJ (Row.lies_new w (T.cells h).toArray 31)
 generalize membS T g=m at HR ME
 generalize repeats T g=rp at HR RP
 clear hx ht hg
 generalize T.cells h=c at *
 go_enter Tryz.func151,Tryz.ntmps151
 go_upto_region 1 with fail
 generalize w.alloc (.cells c.toArray 31)=u at A0 A1 ⊢
 clear hsz
 go_wp2_with (refine lgZ 31 ⟨w.heap.size,0,none⟩ c rfl A1.out Tryz.underlying31 IA.out ?_)
 refine (ME.out _ A0.out).mono ?_
 rintro e u1 ⟨rfl,hb⟩
 have B0:Hid (Below w.heap.size w u1):=hJJ (A0.out.trans (hb.mono A0.out.size))
 have B1:=hJJ (A1.out.below hb)
 clear hb A0 A1 ME
 by_cases hm:m=0
 ·have HR2:Hid (true=x):=hJJ (by rw [HR.out,hm];rfl)
  rw [hm,show (((0:Nat):Int))=(0:Int) from rfl]
  clear hm
  go_wp2
  go_ret
  exact ⟨ret_bool HR2.out,B0.out⟩
 have HM:((m:Int) == 0)=false:=by rw [beq_eq_false_iff_ne];omega
 have HR2:Hid (x=(!allOn T (m:Nat) || rp)):=hJJ (by rw [HR.out,show (m == 0)=false by rw [beq_eq_false_iff_ne];exact hm];rfl)
 have HMi:Hid (¬ ((m:Nat):Int)=0):=hJJ (by omega)
 clear HR hm
 generalize ((m:Nat):Int)=mi at HM HMi HR2 ⊢
 have hmi:=HMi.out
 have HMb:=hJJ HM
 have AO2:=hJJ (AO.out mi)
 clear AO HM
 generalize allOn T mi=ao at AO2 HR2
 go_wp2_with (refine lgZ 31 ⟨w.heap.size,0,none⟩ c rfl B1.out Tryz.underlying31 IA.out ?_)
 refine (AO2.out _ B0.out).mono ?_
 rintro e u2 ⟨rfl,hb⟩
 have A0:Hid (Below w.heap.size w u2):=hJJ (B0.out.trans (hb.mono B0.out.size))
 have A1:=hJJ (B1.out.below hb)
 clear hb B0 B1 AO2 hmi
 cases ao with
 | false =>
  have HR3:Hid (true=x):=hJJ (by rw [HR2.out];rfl)
  go_wp2
  go_ret
  exact ⟨ret_bool HR3.out,A0.out⟩
 | true =>
  have HR3:Hid (rp=x):=hJJ (by rw [HR2.out];rfl)
  go_wp2_with (refine lgZ 31 ⟨w.heap.size,0,none⟩ c rfl A1.out Tryz.underlying31 IA.out ?_)
  refine (RP.out _ A0.out).mono ?_
  rintro e u3 ⟨rfl,hb⟩
  have B0:Hid (Below w.heap.size w u3):=hJJ (A0.out.trans (hb.mono A0.out.size))
  clear hb A0 A1
  go_wp2
  go_ret
  exact ⟨ret_bool (by rw [HMb.out];exact HR3.out),B0.out⟩
theorem find_none {f:Nat→Bool} {n:Nat} (h:∀ j,j < n→f j=false):(List.range n).find? f=none:=range_miss h
theorem placed_lt (T:Tab):∀ g,placed T g < 256
 | 0=>by unfold placed;decide
 | g+1=>Nat.or_lt_two_pow (n:=8) (placed_lt T g) (memb_lt T g)
def fltC (c:Int):Option Int→Array Value
 | none=>#[I 0,I 0]
 | some p=>#[I c,I p]
theorem flt_agg (c:Int) (o:Option Int):flt c o=.agg (fltC c o):=by cases o <;> rfl
theorem rings_any (T:Tab) (h:Hd) (w:World) (ht:IsTab w h T) :
  Calls Tryz.prog 116 #[.agg (T.cells h).toArray] w fun e w'=>e=.returned (flt 8 (ringsC T))∧Below w.heap.size w w':=by
 have hsz:=(cells_ok ht).size
 have C:=hJJ (cells_ok ht)
 have IA:Hid ((Tryz.prog.info? 31).map (·.size)=some (T.cells h).length):=hJJ (by rw [List.size_toArray] at hsz;rw [hsz];exact infoT)
 have ON:Hid (∀ W,Below w.heap.size w W→Calls Tryz.prog 150 #[.agg (T.cells h).toArray] W fun e w'=>e=.returned (.int .i64 (onS T:Nat))∧Below W.heap.size W w'):=hJJ (fun W hb=>PlanO.pon_any T h W (ht.below hb))
 have ME:Hid (∀ (g:Nat) W,Below w.heap.size w W→Calls Tryz.prog 152 #[.agg (T.cells h).toArray,.int .i64 g] W fun e w'=>e=.returned (.int .i64 (membS T g:Nat))∧Below W.heap.size W w'):=hJJ (fun g W hb=>PlanC.members_any T h g W (ht.below hb))
 have BG:Hid (∀ (g:Nat) W,g < T.groups.length→Below w.heap.size w W→Calls Tryz.prog 151 #[.agg (T.cells h).toArray,.int .i64 g] W fun e w'=>e=.returned (.bool (groupBad T g))∧Below W.heap.size W w'):=hJJ (fun g W hg hb=>badGroup_any T h g W (ht.below hb) hg)
 have A0:Hid (Below w.heap.size w ((w.alloc (.cells (T.cells h).toArray 31)).alloc (.cells #[.int .i64 0,.int .i64 0] 40))):=hJJ (((Below.refl _ _).alloc (Nat.le_refl _) _).alloc (by simp) _)
 have A1:Hid (Lies ((w.alloc (.cells (T.cells h).toArray 31)).alloc (.cells #[.int .i64 0,.int .i64 0] 40)) ⟨w.heap.size,0,none⟩ (T.cells h)):=hJJ ((Row.lies_new w _ _).below ((Below.refl _ _).alloc (Nat.le_refl _) _))
 have A2:Hid (((w.alloc (.cells (T.cells h).toArray 31)).alloc (.cells #[.int .i64 0,.int .i64 0] 40)).heap[w.heap.size+1]?=some (.cells #[.int .i64 0,.int .i64 0] 40 (0,0))):=hJJ (heap_alloc2_new w _ _)
 have q104:=(((Row.lies_new w (T.cells h).toArray 31).below ((Below.refl _ _).alloc (Nat.le_refl _) (.cells #[.int .i64 0,.int .i64 0] 40))) 104 _ ((Array.getElem?_toList ..).trans C.out.g):((w.alloc (.cells (T.cells h).toArray 31)).alloc (.cells #[.int .i64 0,.int .i64 0] 40)).cell? ((⟨w.heap.size,0,none⟩:Addr).add 104)=_)
 have q104:((w.alloc (.cells (T.cells h).toArray 31)).alloc (.cells #[.int .i64 0,.int .i64 0] 40)).cell? ⟨w.heap.size,104,none⟩=some (.slice h.g.a T.groups.length h.g.cap):=q104
 have Kg:T.groups.length≤maxLen:=by
  obtain ⟨gs,hgd,hgr⟩:=ht.groups
  have:=hgr.1.len
  rw [← hgd,List.length_map];omega
 unfold maxLen at Kg
 have RC:Hid (ringsC T=_):=hJJ (by unfold ringsC;rfl)
 have LT:=hJJ (placed_lt T)
 have ML:=hJJ (memb_lt T)
 obtain ⟨o,ho⟩:∃ o,o=ringsC T:=⟨_,rfl⟩
 rw [← ho,flt_agg] 
 rw [← ho] at RC
 clear ho ht C
 generalize hn:T.groups.length=n at *
 have HN:=hJJ hn
 clear hn
 generalize h.g.cap=gcap at *
 generalize h.g.a=ga at *
 generalize T.cells h=c at *
 go_enter Tryz.func116,Tryz.ntmps116
 go_upto_region 1 with fail
 generalize ((w.alloc (.cells c.toArray 31)).alloc (.cells #[.int .i64 0,.int .i64 0] 40))=u at A0 A1 A2 q104 ⊢
 clear hsz
 by_cases hz:n=0
 ·subst hz
  have RO:Hid (o=some 0):=hJJ (by rw [RC.out];rfl)
  clear RC
  have HW:=hJJ (below_setRow A0.out (g:=w.heap.size+1) (by omega) #[I 8,I 0])
  have HK:=hJJ (setRow_heap u (w.heap.size+1) _ #[I 8,I 0] _ _ A2.out)
  go_wp2_with (first | (refine wpList_store_row rfl 40 _ _ rfl (w.heap.size+1) #[I 8,I 0] rfl rfl 40 _ A2.out infoF rfl (by simp [Value.oneCell']) ?_))
  generalize u.setRow (w.heap.size+1) #[I 8,I 0]=uz at HW HK ⊢
  (try go_wp2_with fail)
  (try simp only [Exit.inBlock,Exit.then])
  refine bodyPost_ret (v:=.agg #[I 8,I 0]) ?_ rfl ⟨by rw [RO.out];rfl,HW.out⟩
  exact results_cell_row rfl _ _ (w.heap.size+1) 40 _ (0,0) _ rfl HK.out Tryz.underlying40 rfl infoF
 ·have HZ:Hid (¬ n=0):=hJJ hz
  have hzi:((n:Int) == 0)=false:=by rw [beq_eq_false_iff_ne];omega
  have hzj:¬ ((n:Int)=0):=by omega
  rw [if_neg hz] at RC
  clear hz
  go_wp2_with fail
  clear hzi hzj q104
  go_loopw [3,13] (fun s a wr=>∃ q:Nat,q≤n∧s=.int .i64 (placed T q:Nat)∧a=.int .i64 q∧(∀ j,j < q→groupBad T j=false)∧Below u.heap.size u wr) (fun _ a _=>n - (intOf a).toNat)
  case atStart=>exact ⟨0,by omega,rfl,rfl,(fun j h=>by omega),Below.refl _ _⟩
  case round =>
   obtain ⟨q,hq,rfl,rfl,hall,hB⟩:=hrel
   have HA:=hJJ hall
   have B0:Hid (Below w.heap.size w wr):=hJJ (A0.out.trans (hB.mono A0.out.size))
   have B1:=hJJ (A1.out.below hB)
   have B2:Hid (wr.heap[w.heap.size+1]?=some (.cells #[.int .i64 0,.int .i64 0] 40 (0,0))):=hJJ ((hB.block _ (Array.getElem?_eq_some_iff.1 A2.out).1).trans A2.out)
   have B3:=hJJ hB
   clear hall hB
   by_cases hlt:q < n
   ·go_wp2_with (refine lgZ 31 ⟨w.heap.size,0,none⟩ c rfl B1.out Tryz.underlying31 IA.out ?_)
    refine (BG.out q _ hlt B0.out).mono ?_
    rintro e u1 ⟨rfl,hb⟩
    have C0:Hid (Below w.heap.size w u1):=hJJ (B0.out.trans (hb.mono B0.out.size))
    have C1:=hJJ (B1.out.below hb)
    have C2:Hid (u1.heap[w.heap.size+1]?=some (.cells #[.int .i64 0,.int .i64 0] 40 (0,0))):=hJJ ((hb.block _ (Array.getElem?_eq_some_iff.1 B2.out).1).trans B2.out)
    have C3:=hJJ (B3.out.trans (hb.mono B3.out.size))
    clear hb B0 B1 B2 B3
    cases hgb:groupBad T q with
    | true =>
     have RO:Hid (o=some (q:Int)):=hJJ (by rw [RC.out,range_hit hlt hgb HA.out])
     clear hgb
     have HW:=hJJ (below_setRow C0.out (g:=w.heap.size+1) (by omega) #[I 8,I q])
     have HK:=hJJ (setRow_heap u1 (w.heap.size+1) _ #[I 8,I q] _ _ C2.out)
     go_wp2_with (first | (refine wpList_store_row rfl 40 _ _ rfl (w.heap.size+1) #[I 8,I q] rfl rfl 40 _ C2.out infoF rfl (by simp [Value.oneCell']) ?_))
     generalize u1.setRow (w.heap.size+1) #[I 8,I q]=uz at HW HK ⊢
     (try go_wp2_with fail)
     (try simp only [Exit.inBlock,Exit.then])
     refine bodyPost_ret (v:=.agg #[I 8,I q]) ?_ rfl ⟨by rw [RO.out];rfl,HW.out⟩
     exact results_cell_row rfl _ _ (w.heap.size+1) 40 _ (0,0) _ rfl HK.out Tryz.underlying40 rfl infoF
    | false =>
     have HG:=hJJ hgb
     clear hgb
     go_wp2_with (refine lgZ 31 ⟨w.heap.size,0,none⟩ c rfl C1.out Tryz.underlying31 IA.out ?_)
     refine (ME.out q _ C0.out).mono ?_
     rintro e u2 ⟨rfl,hb⟩
     have D3:=hJJ (C3.out.trans (hb.mono C3.out.size))
     have OR:Hid (bits .or .i64 (placed T q:Nat) (membS T q:Nat)=(placed T (q+1):Nat)):=hJJ (RefS.or_small _ _ (LT.out _) (ML.out _))
     clear hb C0 C1 C2 C3
     generalize membS T q=mq at OR ⊢
     generalize placed T q=pq at OR ⊢
     go_wp2
     go_roundw
     case rel=>exact ⟨q+1,by omega,by rw [OR.out],by go_num,(fun j hj=>by
      by_cases e:j=q
      ·subst e;exact HG.out
      ·exact HA.out j (by omega)),D3.out⟩
     case measure=>simp [intOf];omega
   ·have hqn:q=n:=by omega
    have RC2:Hid (o=if bits .andNot .i64 (onS T:Nat) (placed T n:Nat)=0 then none else some 0):=hJJ (by rw [RC.out,find_none (fun j hj=>HA.out j (by omega))])
    rw [hqn]
    clear RC hlt hqn hq HA
    go_wp2_with (refine lgZ 31 ⟨w.heap.size,0,none⟩ c rfl B1.out Tryz.underlying31 IA.out ?_)
    refine (ON.out _ B0.out).mono ?_
    rintro e u1 ⟨rfl,hb⟩
    have C0:Hid (Below w.heap.size w u1):=hJJ (B0.out.trans (hb.mono B0.out.size))
    have C2:Hid (u1.heap[w.heap.size+1]?=some (.cells #[.int .i64 0,.int .i64 0] 40 (0,0))):=hJJ ((hb.block _ (Array.getElem?_eq_some_iff.1 B2.out).1).trans B2.out)
    clear hb B0 B1 B2 B3
    generalize placed T n=pq at RC2 ⊢
    generalize onS T=m at RC2 ⊢
    by_cases hz:bits .andNot .i64 (m:Int) (pq:Int)=0
    ·have RO:Hid (o=none):=hJJ (by rw [RC2.out,if_pos hz])
     have HW:=hJJ (below_setRow C0.out (g:=w.heap.size+1) (by omega) #[I 0,I 0])
     have HK:=hJJ (setRow_heap u1 (w.heap.size+1) _ #[I 0,I 0] _ _ C2.out)
     go_wp2_with (first | (refine wpList_store_row rfl 40 _ _ rfl (w.heap.size+1) #[I 0,I 0] rfl rfl 40 _ C2.out infoF rfl (by simp [Value.oneCell']) ?_))
     generalize u1.setRow (w.heap.size+1) #[I 0,I 0]=uz at HW HK ⊢
     (try go_wp2_with fail)
     (try simp only [Exit.inBlock,Exit.then])
     refine bodyPost_ret (v:=.agg #[I 0,I 0]) ?_ rfl ⟨by rw [RO.out];rfl,HW.out⟩
     exact results_cell_row rfl _ _ (w.heap.size+1) 40 _ (0,0) _ rfl HK.out Tryz.underlying40 rfl infoF
    ·have RO:Hid (o=some 0):=hJJ (by rw [RC2.out,if_neg hz])
     have HW:=hJJ (below_setRow C0.out (g:=w.heap.size+1) (by omega) #[I 8,I 0])
     have HK:=hJJ (setRow_heap u1 (w.heap.size+1) _ #[I 8,I 0] _ _ C2.out)
     go_wp2_with (first | (refine wpList_store_row rfl 40 _ _ rfl (w.heap.size+1) #[I 8,I 0] rfl rfl 40 _ C2.out infoF rfl (by simp [Value.oneCell']) ?_))
     generalize u1.setRow (w.heap.size+1) #[I 8,I 0]=uz at HW HK ⊢
     (try go_wp2_with fail)
     (try simp only [Exit.inBlock,Exit.then])
     refine bodyPost_ret (v:=.agg #[I 8,I 0]) ?_ rfl ⟨by rw [RO.out];rfl,HW.out⟩
     exact results_cell_row rfl _ _ (w.heap.size+1) 40 _ (0,0) _ rfl HK.out Tryz.underlying40 rfl infoF
end ChkH
namespace RkR
open Go.ChangeShapes Go.WideShapes Go.ChangeAt Go.RowKit
open Tab PlaceM PlanM OnS ChkM ChkH
open ChkB (laid2)
open Same (below_setRow)
open Where (infoS)
open RefS (rhas_any rwith_any)
open May (ret_bool infoT)
end RkR
end Go.Proofs.YtkkfdojjecagmaaGreat
