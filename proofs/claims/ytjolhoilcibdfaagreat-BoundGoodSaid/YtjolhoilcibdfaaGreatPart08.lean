/- 12 texts in one file, in build order. -/
import Derived.Test.YtjolhoilcibdfaaGreatPart01
import Derived.Test.YtjolhoilcibdfaaGreatRows
import Derived.Test.YtjolhoilcibdfaaGreatPart07
import Derived.Test.YtjolhoilcibdfaaGreatPart05
import Derived.Test.YtjolhoilcibdfaaGreatPart02
import Derived.Deep.Cut
import Derived.WalkMore
import Derived.Great.BuildSlice
import Derived.RangeFuncCalls
import Derived.OrdersIn
import Derived.TacticsIn
import Derived.RangeFuncNested
import Derived.RangeFuncBound
import Derived.RangeFuncLeaves
import Derived.RangeFuncBox
import Derived.Shelf.Abstract
import Derived.Shelf.RegionOpen
import Derived.WalkKit
import Derived.OwnWalkIn
import Derived.TacticsInMore
import Derived.LoopNIn
import Derived.LoopIn
import Derived.Maps.AppendAt
import Derived.Test.YtjolhoilcibdfaaGreatPart04
set_option linter.unusedVariables false
set_option linter.unusedSimpArgs false
set_option linter.unusedSectionVars false
set_option maxHeartbeats 8000000
set_option maxRecDepth 100000
namespace Go.Proofs.YtjolhoilcibdfaaGreat
namespace BdP
open Zip
open Go.ChangeShapes Go.WideShapes Go.ChangeAt Go.RowKit
open Tab Gath OnS RefC Clear
open May (St phases_in infoP infoT row_new)
open ServeS PassS PlaceM BdPM
open RefS (info3)
theorem info2:(Tryz.prog.info? 41).map (·.size)=some 2:=by kernel_rfl
theorem idx0 (v0 v1:Value) (w:World):Sem.run Tryz.prog (Instr.index 41 (.agg #[v0,v1]) (.int .i64 0)) w=.ok v0 w:=by kernel_rfl
theorem idx1 (v0 v1:Value) (w:World):Sem.run Tryz.prog (Instr.index 41 (.agg #[v0,v1]) (.int .i64 1)) w=.ok v1 w:=by kernel_rfl
theorem row_cell {w:World} {a:Option Addr} {cap:Nat} {l:List Int} {i:Nat} {p:Int} (h:IntRow w ⟨a,cap⟩ l) (hp:l[i]?=some p):∃ x,a=some x∧w.cell? (x.add i)=some (I p):=by
 obtain ⟨x,hx,hc⟩:=IntRow.at h hp
 exact ⟨x,hx,hc⟩
theorem ppass_any (T:Tab) (h:Hd) (g:Int) (w:World) (ht:IsTab w h T) (sm:Few T) :
  Calls Tryz.prog 27 #[.agg (T.cells h).toArray,.int .i64 g] w fun e w'=>e=.returned (.int .i64 (passS T g))∧Below w.heap.size w w':=by
 have C:=hJJ (cells_ok ht)
 have hsz:=C.out.size
 have IA:Hid ((Tryz.prog.info? 32).map (·.size)=some (T.cells h).length):=hJJ (by rw [List.size_toArray] at hsz;rw [hsz];exact infoT)
 have SVC:Hid (∀ p W,Below w.heap.size w W→Calls Tryz.prog 25 #[.agg (T.cells h).toArray,.int .i64 p] W fun e w'=>e=.returned (.int .i64 (serveS T p))∧Below W.heap.size W w'):=hJJ (fun p W hb=>BdV.pserve_any T h p W (ht.below hb))
 have S0:=hJJ (St.box (cs:=(T.cells h).toArray) ht)
 obtain ⟨gs,hgd,hgr⟩:=ht.groups
 have Hgr:=hJJ hgr
 have Hgd:=hJJ hgd
 have Hgl:=hJJ (show T.groups.length=gs.length by rw [← hgd,List.length_map])
 have Kg:=hgr.1.len
 unfold maxLen at Kg
 have RW:=hJJ sm.rows
 have RS0:passS T g=if 0≤g∧g < T.groups.length then sums (8 :: passL T g (spots T)) else 0:=rfl
 have RN:Hid (¬ (0≤g∧g < T.groups.length)→passS T g=0):=hJJ (fun hn=>by rw [RS0,if_neg hn])
 have RS:Hid (∀ (q:Nat) (y:List Int × List Int),g=q→T.groups[q]?=some y→passS T g=sums (acc T y.1 y.2 2)):=hJJ (fun q y hg hy=>by subst hg;exact pass_rows hy)
 clear RS0
 generalize passS T g=res at RN RS ⊢
 obtain ⟨i0,hi,hz0,hz1,hz2⟩:=info_parts info3
 clear ht sm hgr hgd
 go_enter Tryz.func27,Tryz.ntmps27
 go_upto_region 1 with fail
 generalize w.alloc (.cells (T.cells h).toArray 32)=w1 at S0 ⊢
 have q104:=C.out.g
 generalize hc:T.cells h=c at *
 clear hsz hc
 obtain ⟨⟨ga,gcap⟩,sd,sr,sb⟩:=h
 have Q104:Hid (∀ W,Below w1.heap.size w1 W→W.cell? ⟨w.heap.size,104,none⟩=some (.slice ga gs.length gcap)):=hJJ (fun W hb=>by rw [← Hgl.out];exact (S0.out.step hb).cell q104)
 have LT:Hid (∀ W,Below w1.heap.size w1 W→Lies W ⟨w.heap.size,0,none⟩ c):=hJJ (fun W hb=>by have:=Row.lies_of_block (S0.out.step hb).blk;simpa using this)
 have BB:Hid (∀ W,Below w1.heap.size w1 W→Below w.heap.size w W):=hJJ (fun W hb=>S0.out.bel.trans (hb.mono S0.out.bel.size))
 clear q104
 have q104:=Q104.out _ (Below.refl _ _)
 by_cases hg0:g < 0
 ·have HF:Hid (0=res):=hJJ (RN.out (by omega)).symm
  go_wp2
  go_ret
  exact ⟨RefC.ret_int HF.out,S0.out.bel⟩
 obtain ⟨q,rfl⟩:=Int.eq_ofNat_of_zero_le (show 0≤g by omega)
 by_cases hg1:gs.length≤q
 ·have HF:Hid (0=res):=hJJ (RN.out (by have:=Hgl.out;omega)).symm
  go_wp2
  go_ret
  exact ⟨RefC.ret_int HF.out,S0.out.bel⟩
 have hlt:q < gs.length:=by omega
 have hv:=List.getElem?_eq_getElem hlt
 have hm:=List.getElem_mem hlt
 generalize gs[q]=v at hv hm
 have HRS:Hid (res=sums (acc T v.r0 v.r1 2)):=hJJ (RS.out q v.data rfl (by rw [← Hgd.out,List.getElem?_map,hv];rfl))
 have hrw:=RW.out v.data (by rw [← Hgd.out];exact List.mem_map_of_mem hm)
 have KL0:Hid (v.r0.length≤1000):=hJJ hrw.1
 have KL1:Hid (v.r1.length≤1000):=hJJ hrw.2
 clear hrw RN RS
 go_upto_region 4 with fail
 have hb1:Below w1.heap.size w1 (w1.alloc (.cells #[.int .i64 8] 3)):=(Below.refl _ _).alloc (Nat.le_refl _) _
 have ho1:OwnsI w1.heap.size (w1.alloc (.cells #[.int .i64 8] 3)) (.slice (some ⟨w1.heap.size,0,none⟩) 1 1) [8]:=own_one w1 8
 have O1:=hJJ ho1
 have B1:=hJJ hb1
 clear ho1 hb1 q104 hg0 hg1
 generalize w1.alloc (.cells #[.int .i64 8] 3)=w2 at O1 B1 ⊢
 obtain ⟨x,hx,hcc⟩:=(Hgr.out.1.below (BB.out _ B1.out)).at hv
 obtain rfl:ga=some x:=hx
 have OK:=hJJ (Hgr.out.2 v hm)
 have HCC:=hJJ hcc
 clear hv hm hcc
 have q104:=Q104.out _ B1.out
 go_upto_region 5 with (refine Row.wpList_load_g 41 _ rfl (by first | rfl | go_simp) (x.add (q*2)) rfl v.cells _ HCC.out Tryz.underlying41 rfl info2 ?_)
 (try dsimp only [Act.put])
 obtain ⟨r0,r1,⟨a0,cap0⟩,⟨a1,cap1⟩⟩:=v
 have R0:Hid (∀ W,Below w1.heap.size w1 W→IntRow W ⟨a0,cap0⟩ r0):=hJJ (fun W hb=>OK.out.1.below (BB.out _ hb))
 have R1:Hid (∀ W,Below w1.heap.size w1 W→IntRow W ⟨a1,cap1⟩ r1):=hJJ (fun W hb=>OK.out.2.below (BB.out _ hb))
 have K0:=KL0.out
 have K1:=KL1.out
 dsimp only at K0 K1
 have HV:(Gr.cells ⟨r0,r1,⟨a0,cap0⟩,⟨a1,cap1⟩⟩).toArray=#[.slice a0 r0.length cap0,.slice a1 r1.length cap1]:=rfl
 rw [HV]
 have RES:Hid (sums (acc T r0 r1 2)=res):=hJJ HRS.out.symm
 have A0:Hid (acc T r0 r1 0=[8]):=hJJ (acc0 _ _ _)
 have A1:Hid (acc T r0 r1 1=acc T r0 r1 0++r0.map (serveS T)):=hJJ (acc1 _ _ _)
 have A2:Hid (acc T r0 r1 2=acc T r0 r1 1++r1.map (serveS T)):=hJJ (acc2 _ _ _)
 have I0:=hJJ (idx0 (.slice a0 r0.length cap0) (.slice a1 r1.length cap1))
 have I1:=hJJ (idx1 (.slice a0 r0.length cap0) (.slice a1 r1.length cap1))
 clear HV HRS OK HCC q104 Hgr Hgd KL0 KL1
 generalize acc T r0 r1=ac at RES A0 A1 A2
 have B2:Hid (Below w1.heap.size w1 w2):=B1
 have AL0:Hid ((ac 0).length≤1):=hJJ (by rw [A0.out];exact Nat.le_refl _)
 have AL1:Hid ((ac 1).length≤1001):=hJJ (by rw [A1.out,List.length_append,List.length_map];have:=AL0.out;omega)
 go_wp2_with fail
 go_loopw [5,25] (fun v i wr=>∃ r:Nat,r≤2∧i=.int .i64 r∧OwnsI w1.heap.size wr v (ac r)∧Below w1.heap.size w1 wr) (fun _ i _=>2 - (intOf i).toNat)
 case atStart=>exact ⟨0,by omega,rfl,by rw [A0.out];exact O1.out,B1.out⟩
 case round =>
  obtain ⟨r,hr,rfl,hown,hbel⟩:=hrel
  have HO:=hJJ hown
  have HB:=hJJ hbel
  clear hown hbel
  have hr2:r=0∨r=1∨r=2:=by omega
  rcases hr2 with rfl | rfl | rfl
  ·rw [show ((0:Nat):Int)=(0:Int) from rfl]
   have i0:=I0.out
   go_wp2_with fail
   clear i0
   rename World=>wo
   have HBo:=HB
   have OI:Hid (OwnsI w1.heap.size wo u5 (ac 0++(r0.take 0).map (serveS T))):=hJJ (by rw [List.take_zero,List.map_nil,List.append_nil];exact HO.out)
   clear HO HB
   go_loopw [5,30] (fun v i wr=>∃ j:Nat,j≤r0.length∧i=.int .i64 j∧OwnsI w1.heap.size wr v (ac 0++(r0.take j).map (serveS T))∧Below w1.heap.size w1 wr) (fun _ i _=>r0.length - (intOf i).toNat)
   case atStart=>exact ⟨0,by omega,rfl,OI.out,HBo.out⟩
   case round =>
    obtain ⟨j,hj,rfl,hown,hbel⟩:=hrel
    have HO:=hJJ hown
    have HB:=hJJ hbel
    clear hown hbel
    by_cases hlt:j < r0.length
    ·have hv:=List.getElem?_eq_getElem hlt
     have HS:=hJJ (inner_step T (ac 0) r0 hv)
     generalize r0[j]=p at hv HS
     obtain ⟨y,hy,hc⟩:=row_cell (R0.out _ HB.out) hv
     obtain rfl:a0=some y:=hy
     have HBw:Hid (Below w1.heap.size w1 wr):=HB
     have hlen:(ac 0++(r0.take j).map (serveS T)).length≤2001:=by rw [List.length_append,List.length_map,List.length_take];have:=AL0.out;omega
     clear hv
     generalize hP1:ac 0++(r0.take j).map (serveS T)=P1 at HO hlen HS
     clear hP1
     go_wp2_with (refine lgZ 32 ⟨w.heap.size,0,none⟩ c rfl (LT.out _ HBw.out) Tryz.underlying32 IA.out ?_)
     refine (SVC.out p _ (BB.out _ HBw.out)).mono ?_
     rintro e w5 ⟨rfl,hb⟩
     have HB5:=hJJ (HBw.out.trans (hb.mono HBw.out.size))
     have HO5:=hJJ (HO.out.below hb)
     clear hb HB HBw HO hc
     generalize serveS T p=x2 at HS ⊢
     have hown2:w5.ownsRow w1.heap.size 3 1 u5 P1.length (P1.flatMap (fun n=>[I n])):=HO5.out
     have hsz5:=HB5.out.size
     go_wp2_with (at_builtin;refine wpList_append_own _ rfl _ _ 22 rfl w1.heap.size 3 i0 (.int .i64 0) 1 8 Tryz.underlying22 hi hz0 hz1 hz2 rfl (by decide) _ _ _ rfl (hown2.alloc _) ⟨w5.heap.size,0,none⟩ 1 1 [.int .i64 x2] rfl rfl ?c1 ?c2 ?c3 ?c4 ?c5 ?_)
     case c1 =>
      intro m q hm
      match m,hm with
      | 0,hm=>simp at hm;subst hm;simp [Addr.add]
     case c2=>intro q hq;simp at hq;subst hq;rfl
     case c3=>unfold maxLen;omega
     case c4=>omega
     case c5=>simp;omega
     intro v' w6 hown' hgrow hnil'
     have HB6:Hid (Below w1.heap.size w1 w6):=hJJ ((HB5.out.alloc hsz5 _).grown hgrow (by simp;omega) fun m hm=>(show OwnsI w1.heap.size w5 u5 P1 from hown2).blk m hm)
     have HO6:Hid (OwnsI w1.heap.size w6 v' (P1++[x2])):=hJJ (Owns.snoc hown')
     clear hown' hgrow hown2 hnil'
     go_wp2
     go_roundw
     case rel=>exact ⟨j+1,by omega,by go_num,by rw [HS.out];exact HO6.out,HB6.out⟩
     case measure=>simp [intOf];omega
    ·obtain rfl:j=r0.length:=by omega
     rw [List.take_length] at HO
     go_wp2
     go_roundw
     case rel=>exact ⟨1,by omega,by go_num,by rw [A1.out];exact HO.out,HB.out⟩
     case measure=>simp [intOf]
  ·rw [show ((1:Nat):Int)=(1:Int) from rfl]
   have i1:=I1.out
   go_wp2_with fail
   clear i1
   rename World=>wo
   have HBo:=HB
   have OI:Hid (OwnsI w1.heap.size wo u5 (ac 1++(r1.take 0).map (serveS T))):=hJJ (by rw [List.take_zero,List.map_nil,List.append_nil];exact HO.out)
   clear HO HB
   go_loopw [5,30] (fun v i wr=>∃ j:Nat,j≤r1.length∧i=.int .i64 j∧OwnsI w1.heap.size wr v (ac 1++(r1.take j).map (serveS T))∧Below w1.heap.size w1 wr) (fun _ i _=>r1.length - (intOf i).toNat)
   case atStart=>exact ⟨0,by omega,rfl,OI.out,HBo.out⟩
   case round =>
    obtain ⟨j,hj,rfl,hown,hbel⟩:=hrel
    have HO:=hJJ hown
    have HB:=hJJ hbel
    clear hown hbel
    by_cases hlt:j < r1.length
    ·have hv:=List.getElem?_eq_getElem hlt
     have HS:=hJJ (inner_step T (ac 1) r1 hv)
     generalize r1[j]=p at hv HS
     obtain ⟨y,hy,hc⟩:=row_cell (R1.out _ HB.out) hv
     obtain rfl:a1=some y:=hy
     have HBw:Hid (Below w1.heap.size w1 wr):=HB
     have hlen:(ac 1++(r1.take j).map (serveS T)).length≤2001:=by rw [List.length_append,List.length_map,List.length_take];have:=AL1.out;omega
     clear hv
     generalize hP1:ac 1++(r1.take j).map (serveS T)=P1 at HO hlen HS
     clear hP1
     go_wp2_with (refine lgZ 32 ⟨w.heap.size,0,none⟩ c rfl (LT.out _ HBw.out) Tryz.underlying32 IA.out ?_)
     refine (SVC.out p _ (BB.out _ HBw.out)).mono ?_
     rintro e w5 ⟨rfl,hb⟩
     have HB5:=hJJ (HBw.out.trans (hb.mono HBw.out.size))
     have HO5:=hJJ (HO.out.below hb)
     clear hb HB HBw HO hc
     generalize serveS T p=x2 at HS ⊢
     have hown2:w5.ownsRow w1.heap.size 3 1 u5 P1.length (P1.flatMap (fun n=>[I n])):=HO5.out
     have hsz5:=HB5.out.size
     go_wp2_with (at_builtin;refine wpList_append_own _ rfl _ _ 22 rfl w1.heap.size 3 i0 (.int .i64 0) 1 8 Tryz.underlying22 hi hz0 hz1 hz2 rfl (by decide) _ _ _ rfl (hown2.alloc _) ⟨w5.heap.size,0,none⟩ 1 1 [.int .i64 x2] rfl rfl ?c1 ?c2 ?c3 ?c4 ?c5 ?_)
     case c1 =>
      intro m q hm
      match m,hm with
      | 0,hm=>simp at hm;subst hm;simp [Addr.add]
     case c2=>intro q hq;simp at hq;subst hq;rfl
     case c3=>unfold maxLen;omega
     case c4=>omega
     case c5=>simp;omega
     intro v' w6 hown' hgrow hnil'
     have HB6:Hid (Below w1.heap.size w1 w6):=hJJ ((HB5.out.alloc hsz5 _).grown hgrow (by simp;omega) fun m hm=>(show OwnsI w1.heap.size w5 u5 P1 from hown2).blk m hm)
     have HO6:Hid (OwnsI w1.heap.size w6 v' (P1++[x2])):=hJJ (Owns.snoc hown')
     clear hown' hgrow hown2 hnil'
     go_wp2
     go_roundw
     case rel=>exact ⟨j+1,by omega,by go_num,by rw [HS.out];exact HO6.out,HB6.out⟩
     case measure=>simp [intOf];omega
    ·obtain rfl:j=r1.length:=by omega
     rw [List.take_length] at HO
     go_wp2
     go_roundw
     case rel=>exact ⟨2,by omega,by go_num,by rw [A2.out];exact HO.out,HB.out⟩
     case measure=>simp [intOf]
  ·rw [show ((2:Nat):Int)=(2:Int) from rfl]
   obtain ⟨⟨sa',sc⟩,hs,hrow⟩:=HO.out.row (enc:=fun n=>[I n]) (fun _=>rfl)
   have HR2:=hJJ hrow
   have HF:=hJJ (BB.out _ HB.out)
   clear hrow
   subst hs
   generalize ac 2=P2 at RES HR2 ⊢
   show Code.wp _ _ _ _ _
   rw [show (Sl.val ⟨sa',sc⟩ P2.length)=.slice sa' P2.length sc from rfl]
   go_wp2_with fail
   refine (BdS.sum_row sa' sc P2 P2.length rfl _ HR2.out).mono ?_
   rintro e w' ⟨rfl,rfl⟩
   rw [RES.out]
   go_wp2
   go_ret
   exact ⟨rfl,HF.out⟩
end BdP
namespace PlanW
open Zip
open Go.ChangeShapes Go.WideShapes Go.ChangeAt Go.RowKit
open Tab PlaceM PlanM
open May (ret_bool chain infoP infoG St)
open SetP (of_any has_any)
theorem info2:(Tryz.prog.info? 41).map (·.size)=some 2:=by kernel_rfl
theorem infoT:(Tryz.prog.info? 32).map (·.size)=some 131:=by kernel_rfl
theorem row_one (w:World) (p:Int) (t:TypeId) (b:Nat) (hb:w.heap.size=b):RefS.Row (w.alloc (.cells #[.int .i64 p] t)) (some ⟨b,0,none⟩) [p]:=by
 subst hb
 refine ⟨by simp [maxLen],.inr ⟨_,rfl,fun i hi=>?_⟩⟩
 obtain rfl:i=0:=by simpa using hi
 rw [RefS.add_zero,cell_of_row _ _ _ _ _ _ (heap_alloc_new w _)]
 rfl
theorem idx0 (v0 v1:Value) (w:World):Sem.run Tryz.prog (Instr.index 41 (.agg #[v0,v1]) (.int .i64 0)) w=.ok v0 w:=by kernel_rfl
theorem idx1 (v0 v1:Value) (w:World):Sem.run Tryz.prog (Instr.index 41 (.agg #[v0,v1]) (.int .i64 1)) w=.ok v1 w:=by kernel_rfl
theorem has_one (p q:Int):SetM.has ((SetM.of [p]:Nat):Int) q=(decide (0≤p∧p < 8) && decide (q=p)):=by
 unfold SetM.has
 rw [SetM.low_nat _ (SetM.of_lt _),SetM.of_test]
 by_cases h0:0≤q
 ·obtain ⟨k,rfl⟩:=Int.eq_ofNat_of_zero_le h0
  simp only [Int.toNat_natCast,List.mem_singleton,h0,decide_true,Bool.true_and]
  rw [Bool.eq_iff_iff]
  simp only [Bool.and_eq_true,decide_eq_true_eq]
  omega
 ·rw [decide_eq_false h0,Bool.false_and]
  symm
  rw [Bool.and_eq_false_iff,decide_eq_false_iff_not,decide_eq_false_iff_not]
  omega
theorem results_tmp4 {P:Program} {fn:Func} {t u v x:Tmp} (h:fn.results=#[.tmp t,.tmp u,.tmp v,.tmp x]) (tmps:Array Value) (w:World) :
  (results fn tmps).run P w=.ok (.tuple #[tmps.getD t undef,tmps.getD u undef,tmps.getD v undef,tmps.getD x undef]) w:=by
 simp [results,h]
def wG:Option Spt→Int | some x=>x.g | none=>0
def wK:Option Spt→Int | some x=>x.k | none=>0
def wI:Option Spt→Int | some x=>x.i | none=>0
theorem where_none {T:Tab} {p:Int} (h:∀ x ∈ spots T,x.p ≠ p):where_ T p=none:=find_none h
theorem where_some {T:Tab} {p:Int} {x:Spt} (hx:x ∈ spots T) (hp:x.p=p) (hn:∀ y ∈ spots T,Lt y x→y.p ≠ p):where_ T p=some x:=by
 unfold where_ find
 exact find_hit (spots_sorted T) hx (by simpa using hp) (fun y hy hl=>by simpa using hn y hy hl)
theorem pwhere_any (T:Tab) (h:Hd) (p:Int) (w:World) (ht:IsTab w h T) :
  Calls Tryz.prog 63 #[.agg (T.cells h).toArray,.int .i64 p] w fun e w'=>e=.returned (.tuple #[I (wG (where_ T p)),I (wK (where_ T p)),I (wI (where_ T p)),.bool (where_ T p).isSome])∧Below w.heap.size w w':=by
 obtain ⟨⟨ga,gcap⟩,sd,sr,sb⟩:=h
 have C:=hJJ (cells_ok ht)
 generalize (T.cells ⟨⟨ga,gcap⟩,sd,sr,sb⟩).toArray=cs at C ⊢
 obtain ⟨gs,hgd,hgr⟩:=ht.groups
 have Hgr:=hJJ hgr
 have Hgd:=hJJ hgd
 have hsz:=C.out.size
 have S0:=hJJ (St.box (cs:=cs) ht)
 have Hgl:=hJJ (show T.groups.length=gs.length by rw [← hgd,List.length_map])
 have Kg:=hgr.1.len
 unfold maxLen at Kg
 have HS:Hid (∀ q,SetM.has ((SetM.of [p]:Nat):Int) q=(decide (0≤p∧p < 8) && decide (q=p))):=hJJ (has_one p)
 have WN:Hid ((∀ x ∈ spots T,x.p ≠ p)→where_ T p=none):=hJJ where_none
 have WS:Hid (∀ x,x ∈ spots T→x.p=p→(∀ y ∈ spots T,Lt y x→y.p ≠ p)→where_ T p=some x):=hJJ (fun x=>where_some)
 generalize where_ T p=o at WN WS ⊢
 clear ht hgr hgd
 go_enter Tryz.func63,Tryz.ntmps63
 go_upto_region 1 with fail
 generalize w.alloc (.cells cs 32)=w1 at S0 ⊢
 clear hsz
 go_step3
 go_wp2_with fail
 have hb1:Below w1.heap.size w1 (w1.alloc (.cells #[.int .i64 p] 3)):=(Below.refl _ _).alloc (Nat.le_refl _) _
 have hr:=row_one w1 p 3 _ rfl
 have S2:=hJJ (S0.out.step hb1)
 have HR:=hJJ hr
 clear hb1 hr S0
 generalize w1.alloc (.cells #[.int .i64 p] 3)=w2 at S2 HR ⊢
 refine (of_any _ _ [p] _ HR.out).mono ?_
 rintro e w' ⟨rfl,rfl⟩
 generalize ((SetM.of [p]:Nat):Int)=s0 at HS ⊢
 clear HR
 have q104:=S2.out.cell C.out.g
 rw [Hgl.out] at q104
 have Q104:Hid (w2.cell? ⟨w.heap.size,104,none⟩=some (.slice ga gs.length gcap)):=hJJ q104
 clear q104
 have q104:=Q104.out
 have LIFT:Hid (∀ W,Below w2.heap.size w2 W→∀ (z:Addr) (c:Value),w2.cell? z=some c→W.cell? z=some c):=hJJ (fun W hb z c hc=>(hb.cell (World.block_lt_of_cell? w2 _ hc)).trans hc)
 go_wp2_with fail
 go_step3
 go_wp2_with fail
 clear q104
 go_loopw [4,5,6,7,21] (fun a b c d g wr=>∃ q:Nat,q≤gs.length∧a=.int .i64 0∧b=.int .i64 0∧c=.int .i64 0∧d=.bool false∧g=.int .i64 q∧(∀ x ∈ spots T,x.g < q→x.p ≠ p)∧Below w2.heap.size w2 wr) (fun _ _ _ _ g _=>gs.length - (intOf g).toNat)
 case atStart=>exact ⟨0,by omega,rfl,rfl,rfl,rfl,rfl,(fun x _ h=>by omega),Below.refl _ _⟩
 case round =>
  obtain ⟨q,hq,rfl,rfl,rfl,rfl,rfl,hall,hbel⟩:=hrel
  have HA:=hJJ hall
  have HB:=hJJ hbel
  clear hall hbel
  by_cases hlt:q < gs.length
  ·have hv:=List.getElem?_eq_getElem hlt
   generalize gs[q]=u at hv
   obtain ⟨x,hx,hc⟩:=(Hgr.out.1.below (S2.out.bel.trans (HB.out.mono S2.out.bel.size))).at hv
   have hok:=(Hgr.out.2 u (List.mem_of_getElem? hv)).below (S2.out.bel.trans (HB.out.mono S2.out.bel.size))
   have HD:Hid (T.groups[q]?=some u.data):=hJJ (by rw [← Hgd.out,List.getElem?_map,hv];rfl)
   obtain rfl:ga=some x:=hx
   obtain ⟨l0,l1,⟨a0,cap0⟩,⟨a1,cap1⟩⟩:=u
   have HC:Hid (Lies wr (x.add (q*2)) [.slice a0 l0.length cap0,.slice a1 l1.length cap1]):=hJJ hc
   have HO:=hJJ hok
   clear hv hc hok
   have hwr:=HB.out.size
   go_upto_region 5 with (first | (refine Row.wpList_load_g 41 _ rfl (by first | rfl | go_simp) (x.add (q*2)) rfl [.slice a0 l0.length cap0,.slice a1 l1.length cap1] _ HC.out Tryz.underlying41 rfl info2 ?_) | (refine Row.wpList_store_new rfl 41 _ _ rfl wr #[.slice none 0 0,.slice none 0 0] #[.slice a0 l0.length cap0,.slice a1 l1.length cap1] rfl rfl rfl info2 rfl (by simp [Value.oneCell']) ?_))
   have hbn:Below w2.heap.size w2 (wr.alloc (.cells #[.slice a0 l0.length cap0,.slice a1 l1.length cap1] 41)):=HB.out.alloc hwr _
   have hbo:Below wr.heap.size wr (wr.alloc (.cells #[.slice a0 l0.length cap0,.slice a1 l1.length cap1] 41)):=(Below.refl _ _).alloc (Nat.le_refl _) _
   have hg:=Row.lies_of_block (heap_alloc_new wr (.cells #[.slice a0 l0.length cap0,.slice a1 l1.length cap1] 41))
   have HL:=hJJ hg
   have HO2:=hJJ (HO.out.below hbo)
   have HN:=hJJ hbn
   clear hg hbn hbo HC HO
   generalize wr.alloc (.cells #[.slice a0 l0.length cap0,.slice a1 l1.length cap1] 41)=w4 at HL HO2 HN ⊢
   generalize wr.heap.size=b4 at HL ⊢
   go_wp2_with (first | (refine lgZ 41 ⟨b4,0,none⟩ [.slice a0 l0.length cap0,.slice a1 l1.length cap1] rfl HL.out Tryz.underlying41 info2 ?_))
   go_loopw [4,5,6,7,27] (fun a b c d k wk=>∃ r:Nat,r≤2∧a=.int .i64 0∧b=.int .i64 0∧c=.int .i64 0∧d=.bool false∧k=.int .i64 r∧(∀ x ∈ spots T,x.g=q→x.k < r→x.p ≠ p)∧wk=w4) (fun _ _ _ _ k _=>2 - (intOf k).toNat)
   case atStart=>exact ⟨0,by omega,rfl,rfl,rfl,rfl,rfl,(fun x _ _ h=>by omega),rfl⟩
   case round =>
    obtain ⟨r,hr,rfl,rfl,rfl,rfl,rfl,hall,rfl⟩:=hrel
    have HA2:=hJJ hall
    clear hall
    by_cases hr2:r < 2
    ·obtain ⟨l,a,cap,hidx,hrow,hring⟩:∃ (l:List Int) (a:Option Addr) (cap:Nat),(∀ W,Sem.run Tryz.prog (Instr.index 41 (.agg #[.slice a0 l0.length cap0,.slice a1 l1.length cap1]) (.int .i64 r)) W=.ok (.slice a l.length cap) W)∧IntRow wr ⟨a,cap⟩ l∧ringOf (l0,l1) r=l:=by
      have:r=0∨r=1:=by omega
      rcases this with rfl | rfl
      ·exact ⟨l0,a0,cap0,fun W=>idx0 _ _ W,HO2.out.1,rfl⟩
      ·exact ⟨l1,a1,cap1,fun W=>idx1 _ _ W,HO2.out.2,rfl⟩
     have HROW:=hJJ hrow
     have HRING:=hJJ hring
     have K:=hrow.len
     unfold maxLen at K
     clear hrow hring
     go_wp2_with fail
     clear hidx
     go_loopw [4,5,6,7,33] (fun a0' b c d k wk=>∃ j:Nat,j≤l.length∧a0'=.int .i64 0∧b=.int .i64 0∧c=.int .i64 0∧d=.bool false∧k=.int .i64 j∧(∀ i,i < j→SetM.has s0 (l.getD i 0)=false)∧wk=wr) (fun _ _ _ _ k _=>l.length - (intOf k).toNat)
     case atStart=>exact ⟨0,by omega,rfl,rfl,rfl,rfl,rfl,(fun i h=>by omega),rfl⟩
     case round =>
      obtain ⟨j,hj,rfl,rfl,rfl,rfl,rfl,hall,rfl⟩:=hrel
      have HA3:=hJJ hall
      clear hall
      by_cases hjl:j < l.length
      ·have hv:=List.getElem?_eq_getElem hjl
       generalize hz:l[j]=z at hv
       obtain ⟨y,hy,hp⟩:=IntRow.at HROW.out hv
       obtain rfl:a=some y:=hy
       have HV:=hJJ hv
       have hgd:l.getD j 0=z:=by rw [List.getD_eq_getElem?_getD,hv];rfl
       have HGD:=hJJ hgd
       clear hv hz hgd
       cases hh:SetM.has s0 z with
       | true =>
        have HF:Hid (o=some ⟨q,r,j,p⟩):=hJJ (by
         have h1:=HS.out z
         rw [hh] at h1
         simp only [Eq.comm (a:=true),Bool.and_eq_true,decide_eq_true_eq] at h1
         obtain ⟨⟨p0,p8⟩,rfl⟩:=h1
         refine WS.out _ (mem_spots.2 ⟨(l0,l1),HD.out,by rw [HRING.out];exact HV.out,p0,p8⟩) rfl fun y hy hl=>?_
         unfold Lt at hl
         simp only at hl
         rcases hl with hl | ⟨hl,hl2 | ⟨hl2,hl3⟩⟩
         ·exact HA.out y hy hl
         ·exact HA2.out y hy hl hl2
         ·intro e
          obtain ⟨z,h2,h3,_⟩:=mem_spots.1 hy
          rw [hl,HD.out] at h2
          obtain rfl:=Option.some.inj h2
          have h4:l[y.i]?=some y.p:=by have:=h3;rw [hl2] at this;rw [← HRING.out];exact this
          have h5:=HA3.out y.i hl3
          rw [List.getD_eq_getElem?_getD,h4] at h5
          have h6:=HS.out y.p
          rw [show SetM.has s0 y.p=false from h5,e] at h6
          simp [p0,p8] at h6)
        go_wp2_with (go_at_call 95;refine (has_any _ _ _).mono ?_;rintro e w' ⟨rfl,rfl⟩;rw [hh])
        (try rw [Exit.noGoto_ret])
        (try simp only [Exit.inBlock,Exit.then])
        refine bodyPost_ret (v:=.tuple #[I q,I r,I j,.bool true]) ?_ rfl ⟨?_,?_⟩
        ·exact results_tmp4 (fn:=Tryz.f63) (t:=4) (u:=5) (v:=6) (x:=7) rfl _ _
        ·rw [HF.out];rfl
        ·exact S2.out.bel.trans (HN.out.mono S2.out.bel.size)
       | false =>
        go_wp2_with (go_at_call 95;refine (has_any _ _ _).mono ?_;rintro e w' ⟨rfl,rfl⟩;rw [hh])
        go_roundw
        case rel=>exact ⟨j+1,by omega,rfl,rfl,rfl,rfl,by go_num,(fun i hi=>by
         by_cases e:i=j
         ·subst e;rw [HGD.out];exact hh
         ·exact HA3.out i (by omega)),trivial⟩
        case measure=>simp [intOf];omega
      ·have HN:Hid (∀ x ∈ spots T,x.g=q→x.k < r+1→x.p ≠ p):=hJJ (fun y hy h1 h2 e=>by
        by_cases h3:y.k < r
        ·exact HA2.out y hy h1 h3 e
        ·obtain ⟨z,h4,h5,h6,h7⟩:=mem_spots.1 hy
         rw [h1,HD.out] at h4
         obtain rfl:=Option.some.inj h4
         have hk:y.k=r:=by omega
         have h8:l[y.i]?=some y.p:=by rw [hk] at h5;rw [← HRING.out];exact h5
         have h9:=HA3.out y.i (by have:=(List.getElem?_eq_some_iff.1 h8).1;omega)
         rw [List.getD_eq_getElem?_getD,h8] at h9
         have h10:=HS.out y.p
         rw [show SetM.has s0 y.p=false from h9,e] at h10
         rw [e] at h6 h7
         simp [h6,h7] at h10)
       go_wp2
       go_roundw
       case rel=>exact ⟨r+1,by omega,rfl,rfl,rfl,rfl,by go_num,HN.out,trivial⟩
       case measure=>simp [intOf];omega
    ·have HN3:Hid (∀ x ∈ spots T,x.g < q+1→x.p ≠ p):=hJJ (fun y hy h1 e=>by
      by_cases h3:y.g < q
      ·exact HA.out y hy h3 e
      ·obtain ⟨z,h4,h5,_⟩:=mem_spots.1 hy
       refine HA2.out y hy (by omega) ?_ e
       unfold ringOf at h5
       by_cases h6:y.k=0
       ·omega
       ·by_cases h7:y.k=1
        ·omega
        ·rw [if_neg h6,if_neg h7] at h5;simp at h5)
     go_wp2
     go_roundw
     case rel=>exact ⟨q+1,by omega,rfl,rfl,rfl,rfl,by go_num,HN3.out,HN.out⟩
     case measure=>simp [intOf];omega
  ·have HF:Hid (o=none):=hJJ (WN.out (fun y hy=>by
    refine HA.out y hy ?_
    obtain ⟨z,h4,_⟩:=mem_spots.1 hy
    have:=(List.getElem?_eq_some_iff.1 h4).1
    rw [Hgl.out] at this
    omega))
   go_wp2
   (try rw [Exit.noGoto_ret])
   (try simp only [Exit.inBlock,Exit.then])
   refine bodyPost_ret (v:=.tuple #[I 0,I 0,I 0,.bool false]) ?_ rfl ⟨?_,?_⟩
   ·exact results_tmp4 (fn:=Tryz.f63) (t:=4) (u:=5) (v:=6) (x:=7) rfl _ _
   ·rw [HF.out];rfl
   ·exact S2.out.bel.trans (HB.out.mono S2.out.bel.size)
theorem pbeside_raw (c:List Value) (p q g1 k1 i1 g2 k2 i2:Int) (ok1 ok2:Bool) (w:World) (hc:c.length=131)
  (V1:Hid (∀ W,Below w.heap.size w W→Calls Tryz.prog 63 #[.agg c.toArray,.int .i64 p] W fun e w'=>e=.returned (.tuple #[I g1,I k1,I i1,.bool ok1])∧Below W.heap.size W w'))
  (V2:Hid (∀ W,Below w.heap.size w W→Calls Tryz.prog 63 #[.agg c.toArray,.int .i64 q] W fun e w'=>e=.returned (.tuple #[I g2,I k2,I i2,.bool ok2])∧Below W.heap.size W w')) :
  Calls Tryz.prog 112 #[.agg c.toArray,.int .i64 p,.int .i64 q] w fun e w'=>e=.returned (.bool (ok1 && ok2 && g1 == g2 && k1 != k2))∧Below w.heap.size w w':=by
 have hsz:c.toArray.size=131:=by simpa using hc
 have IA:Hid ((Tryz.prog.info? 32).map (·.size)=some c.length):=hJJ (by rw [hc];exact infoT)
 have A0:Hid (Below w.heap.size w (w.alloc (.cells c.toArray 32))):=hJJ ((Below.refl _ _).alloc (Nat.le_refl _) _)
 have A1:Hid (Lies (w.alloc (.cells c.toArray 32)) ⟨w.heap.size,0,none⟩ c):=hJJ (Row.lies_new w _ _)
 generalize hr:(ok1 && ok2 && g1 == g2 && k1 != k2)=r
 have HR:=hJJ hr
 clear hr hc
 go_enter Tryz.func112,Tryz.ntmps112
 go_upto_region 1 with fail
 generalize w.alloc (.cells c.toArray 32)=u at A0 A1 ⊢
 clear hsz
 go_wp2_with (refine lgZ 32 ⟨w.heap.size,0,none⟩ c rfl A1.out Tryz.underlying32 IA.out ?_)
 refine (V1.out _ A0.out).mono ?_
 rintro e u1 ⟨rfl,hb⟩
 have B0:Hid (Below w.heap.size w u1):=hJJ (A0.out.trans (hb.mono A0.out.size))
 have B1:=hJJ (A1.out.below hb)
 clear hb A0 A1 V1
 go_wp2_with (refine lgZ 32 ⟨w.heap.size,0,none⟩ c rfl B1.out Tryz.underlying32 IA.out ?_)
 refine (V2.out _ B0.out).mono ?_
 rintro e u3 ⟨rfl,hb⟩
 have HF:Hid (Below w.heap.size w u3):=hJJ (B0.out.trans (hb.mono B0.out.size))
 clear hb B0 B1 V2 IA
 cases ok1
 ·go_wp2
  go_ret
  exact ⟨ret_bool (by rw [← HR.out];simp),HF.out⟩
 cases ok2
 ·go_wp2
  go_ret
  exact ⟨ret_bool (by rw [← HR.out];simp),HF.out⟩
 by_cases hg:g1=g2
 ·have e1:(g1 == g2)=true:=by simpa using hg
  have E1:=hJJ e1
  clear hg
  go_wp2
  go_ret
  exact ⟨ret_bool (by rw [← HR.out,E1.out];simp),HF.out⟩
 ·have e1:(g1 == g2)=false:=by simpa using hg
  have E1:=hJJ e1
  clear hg
  go_wp2
  go_ret
  exact ⟨ret_bool (by rw [← HR.out,E1.out];simp),HF.out⟩
theorem pbeside_any (T:Tab) (h:Hd) (p q:Int) (w:World) (ht:IsTab w h T) :
  Calls Tryz.prog 112 #[.agg (T.cells h).toArray,.int .i64 p,.int .i64 q] w fun e w'=>e=.returned (.bool (beside T p q))∧Below w.heap.size w w':=by
 have hsz:=(cells_ok ht).size
 rw [List.size_toArray] at hsz
 have V:=fun r W (hb:Below w.heap.size w W)=>pwhere_any T h r W (ht.below hb)
 have V1:=V p
 have V2:=V q
 have hB:beside T p q=match where_ T p,where_ T q with
  | some a,some b=>a.g == b.g && a.k != b.k
  | _,_=>false:=rfl
 rw [hB]
 generalize where_ T p=o1 at V1 ⊢
 generalize where_ T q=o2 at V2 ⊢
 have e0:∀ a b:Nat,((a:Int) == (b:Int))=(a == b):=fun a b=>by
  by_cases h:a=b
  ·subst h;simp
  ·rw [beq_eq_false_iff_ne.2 h,beq_eq_false_iff_ne.2 (by omega)]
 have e1:∀ a b:Nat,((a:Int) != (b:Int))=(a != b):=fun a b=>by unfold bne;rw [e0]
 cases o1 with
 | none =>
  cases o2 with
  | none=>exact pbeside_raw _ p q 0 0 0 0 0 0 false false w hsz (hJJ V1) (hJJ V2)
  | some b=>exact pbeside_raw _ p q 0 0 0 b.g b.k b.i false true w hsz (hJJ V1) (hJJ V2)
 | some a =>
  cases o2 with
  | none=>exact pbeside_raw _ p q a.g a.k a.i 0 0 0 true false w hsz (hJJ V1) (hJJ V2)
  | some b =>
   have:=pbeside_raw _ p q a.g a.k a.i b.g b.k b.i true true w hsz (hJJ V1) (hJJ V2)
   rw [e0,e1] at this
   simpa using this
end PlanW
namespace BdF
open Zip
open Go.ChangeShapes Go.WideShapes Go.ChangeAt Go.RowKit
open Tab Gath OnS RefC Clear
open May (St phases_in infoP infoT row_new)
open ServeS PassS FreeS PlaceM
open RefS (info3)
theorem pfree_raw (T:Tab) (h:Hd) (p:Int) (g1 k1 i1:Int) (ok on:Bool) (w:World) (ht:IsTab w h T) (sm:Few T)
  (WC:Hid (∀ W,Below w.heap.size w W→Calls Tryz.prog 63 #[.agg (T.cells h).toArray,.int .i64 p] W fun e w'=>e=.returned (.tuple #[I g1,I k1,I i1,.bool ok])∧Below W.heap.size W w'))
  (OC:Hid (∀ W,Below w.heap.size w W→Calls Tryz.prog 57 #[.agg (T.cells h).toArray,.int .i64 p] W fun e w'=>e=.returned (.bool on)∧Below W.heap.size W w')) :
  Calls Tryz.prog 29 #[.agg (T.cells h).toArray,.int .i64 p] w fun e w'=>e=.returned (.int .i64 (if ok=true∧on=true then sums (passS T g1 :: upL T T.groups.length) else 0))∧Below w.heap.size w w':=by
 have C:=hJJ (cells_ok ht)
 have hsz:=C.out.size
 have IA:Hid ((Tryz.prog.info? 32).map (·.size)=some (T.cells h).length):=hJJ (by rw [List.size_toArray] at hsz;rw [hsz];exact infoT)
 have PC:Hid (∀ g W,Below w.heap.size w W→Calls Tryz.prog 27 #[.agg (T.cells h).toArray,.int .i64 g] W fun e w'=>e=.returned (.int .i64 (passS T g))∧Below W.heap.size W w'):=hJJ (fun g W hb=>BdP.ppass_any T h g W (ht.below hb) sm)
 have KG:=sm.groups
 have S0:=hJJ (St.box (cs:=(T.cells h).toArray) ht)
 obtain ⟨i0,hi,hz0,hz1,hz2⟩:=info_parts info3
 generalize hres:(if ok=true∧on=true then sums (passS T g1 :: upL T T.groups.length) else 0)=res
 have RS:=hJJ hres
 clear hres ht sm
 go_enter Tryz.func29,Tryz.ntmps29
 go_upto_region 1 with fail
 generalize w.alloc (.cells (T.cells h).toArray 32)=w1 at S0 ⊢
 have q104:=C.out.g
 generalize hc:T.cells h=c at *
 clear hsz hc
 generalize hn:T.groups.length=n at *
 have HN:=hJJ hn
 clear hn
 obtain ⟨⟨ga,gcap⟩,sd,sr,sb⟩:=h
 have Q104:Hid (∀ W,Below w1.heap.size w1 W→W.cell? ⟨w.heap.size,104,none⟩=some (.slice ga n gcap)):=hJJ (fun W hb=>(S0.out.step hb).cell q104)
 have LT:Hid (∀ W,Below w1.heap.size w1 W→Lies W ⟨w.heap.size,0,none⟩ c):=hJJ (fun W hb=>by have:=Row.lies_of_block (S0.out.step hb).blk;simpa using this)
 have BB:Hid (∀ W,Below w1.heap.size w1 W→Below w.heap.size w W):=hJJ (fun W hb=>S0.out.bel.trans (hb.mono S0.out.bel.size))
 clear q104
 go_wp2_with (refine lgZ 32 ⟨w.heap.size,0,none⟩ c rfl (LT.out _ (Below.refl _ _)) Tryz.underlying32 IA.out ?_)
 refine (WC.out _ (BB.out _ (Below.refl _ _))).mono ?_
 rintro e u2 ⟨rfl,hb⟩
 have B2:=hJJ hb
 clear hb WC
 cases ok with
 | false =>
  have HF:Hid (0=res):=hJJ (by rw [← RS.out];simp)
  have HB:=hJJ (BB.out _ B2.out)
  go_wp2
  go_ret
  exact ⟨RefC.ret_int HF.out,HB.out⟩
 | true =>
 go_wp2_with (refine lgZ 32 ⟨w.heap.size,0,none⟩ c rfl (LT.out _ B2.out) Tryz.underlying32 IA.out ?_)
 refine (OC.out _ (BB.out _ B2.out)).mono ?_
 rintro e u3 ⟨rfl,hb⟩
 have B3:=hJJ (B2.out.trans (hb.mono B2.out.size))
 clear hb B2 OC
 cases on with
 | false =>
  have HF:Hid (0=res):=hJJ (by rw [← RS.out];simp)
  have HB:=hJJ (BB.out _ B3.out)
  go_wp2
  go_ret
  exact ⟨RefC.ret_int HF.out,HB.out⟩
 | true =>
 have HR0:Hid (sums (passS T g1 :: upL T n)=res):=hJJ (by rw [← RS.out];simp)
 clear RS
 go_wp2_with (refine lgZ 32 ⟨w.heap.size,0,none⟩ c rfl (LT.out _ B3.out) Tryz.underlying32 IA.out ?_)
 refine (PC.out g1 _ (BB.out _ B3.out)).mono ?_
 rintro e u4 ⟨rfl,hb⟩
 have B4:=hJJ (B3.out.trans (hb.mono B3.out.size))
 clear hb B3
 generalize hp1:passS T g1=x1 at HR0 ⊢
 clear hp1
 have q104:=Q104.out _ B4.out
 have hb5:Below u4.heap.size u4 (u4.alloc (.cells #[.int .i64 x1] 3)):=(Below.refl _ _).alloc (Nat.le_refl _) _
 have B5:=hJJ (B4.out.trans (hb5.mono B4.out.size))
 have q104:=Q104.out _ B5.out
 go_wp2_with fail
 have ho:=Owns.mono (own_one u4 x1) B4.out.size
 have O5:Hid (OwnsI w1.heap.size (u4.alloc (.cells #[.int .i64 x1] 3)) (.slice (some ⟨u4.heap.size,0,none⟩) 1 1) [x1]):=hJJ ho
 clear hb5 ho B4 q104
 generalize u4.alloc (.cells #[.int .i64 x1] 3)=u5 at O5 B5 ⊢
 generalize u4.heap.size=b5 at O5 ⊢
 have US:Hid (∀ q,upL T (q+1)=upL T q++[passS T q]):=hJJ (up_succ T)
 have UL:Hid (∀ q,(upL T q).length=q):=hJJ (up_len T)
 have U0:Hid (upL T 0=[]):=hJJ rfl
 generalize upL T=ul at HR0 US UL U0
 go_loopw [9,34] (fun v i wr=>∃ q:Nat,q≤n∧i=.int .i64 q∧OwnsI w1.heap.size wr v (x1 :: ul q)∧Below w1.heap.size w1 wr) (fun _ i _=>n - (intOf i).toNat)
 case atStart=>exact ⟨0,by omega,rfl,by rw [U0.out];exact O5.out,B5.out⟩
 case round =>
  obtain ⟨q,hq,rfl,hown,hbel⟩:=hrel
  have HO:=hJJ hown
  have HB:=hJJ hbel
  clear hown hbel
  by_cases hlt:q < n
  ·have hlen:(x1 :: ul q).length≤1001:=by rw [List.length_cons,UL.out];omega
   have HS:=hJJ (US.out q)
   generalize hP1:x1 :: ul q=P1 at HO hlen
   have HP1:=hJJ hP1
   clear hP1
   go_wp2_with (refine lgZ 32 ⟨w.heap.size,0,none⟩ c rfl (LT.out _ HB.out) Tryz.underlying32 IA.out ?_)
   refine (PC.out q _ (BB.out _ HB.out)).mono ?_
   rintro e w5 ⟨rfl,hb⟩
   have HB5:=hJJ (HB.out.trans (hb.mono HB.out.size))
   have HO5:=hJJ (HO.out.below hb)
   have HS2:Hid (x1 :: ul (q+1)=P1++[passS T q]):=hJJ (by rw [HS.out,← HP1.out];rfl)
   clear hb HB HO
   generalize passS T q=x2 at HS2 ⊢
   have hown2:w5.ownsRow w1.heap.size 3 1 u9 P1.length (P1.flatMap (fun n=>[I n])):=HO5.out
   have hsz5:=HB5.out.size
   go_wp2_with (at_builtin;refine wpList_append_own _ rfl _ _ 22 rfl w1.heap.size 3 i0 (.int .i64 0) 1 8 Tryz.underlying22 hi hz0 hz1 hz2 rfl (by decide) _ _ _ rfl (hown2.alloc _) ⟨w5.heap.size,0,none⟩ 1 1 [.int .i64 x2] rfl rfl ?c1 ?c2 ?c3 ?c4 ?c5 ?_)
   case c1 =>
    intro m q hm
    match m,hm with
    | 0,hm=>simp at hm;subst hm;simp [Addr.add]
   case c2=>intro q hq;simp at hq;subst hq;rfl
   case c3=>unfold maxLen;omega
   case c4=>omega
   case c5=>simp;omega
   intro v' w6 hown' hgrow hnil'
   have HB6:Hid (Below w1.heap.size w1 w6):=hJJ ((HB5.out.alloc hsz5 _).grown hgrow (by simp;omega) fun m hm=>(show OwnsI w1.heap.size w5 u9 P1 from hown2).blk m hm)
   have HO6:Hid (OwnsI w1.heap.size w6 v' (P1++[x2])):=hJJ (Owns.snoc hown')
   clear hown' hgrow hown2 hnil'
   go_wp2
   go_roundw
   case rel=>exact ⟨q+1,by omega,by go_num,by rw [HS2.out];exact HO6.out,HB6.out⟩
   case measure=>simp [intOf];omega
  ·have HE:Hid (q=n):=hJJ (by omega)
   obtain ⟨⟨sa',sc⟩,hs,hrow⟩:=HO.out.row (enc:=fun n=>[I n]) (fun _=>rfl)
   rw [HE.out] at hs hrow
   have HR2:=hJJ hrow
   have HF:=hJJ (BB.out _ HB.out)
   clear hrow HE
   subst hs
   generalize hL:x1 :: ul n=P2 at HR0 HR2 ⊢
   clear hL
   show Code.wp _ _ _ _ _
   rw [show (Sl.val ⟨sa',sc⟩ P2.length)=.slice sa' P2.length sc from rfl]
   go_wp2_with fail
   refine (BdS.sum_row sa' sc P2 P2.length rfl _ HR2.out).mono ?_
   rintro e w' ⟨rfl,rfl⟩
   rw [HR0.out]
   go_wp2
   go_ret
   exact ⟨rfl,HF.out⟩
theorem pfree_any (T:Tab) (h:Hd) (p:Int) (w:World) (ht:IsTab w h T) (sm:Few T) :
  Calls Tryz.prog 29 #[.agg (T.cells h).toArray,.int .i64 p] w fun e w'=>e=.returned (.int .i64 (freeS T p))∧Below w.heap.size w w':=by
 have h2:=fun W (hb:Below w.heap.size w W)=>PlanW.pwhere_any T h p W (ht.below hb)
 have ho:=fun W (hb:Below w.heap.size w W)=>BdA.isOn_any T h p W (ht.below hb)
 have hf:freeS T p=match where_ T p with
  | some x=>if SetM.has (onS T:Nat) p then freeR T x else 0
  | none=>0:=rfl
 rw [hf]
 cases hw:where_ T p with
 | none =>
  rw [hw] at h2
  have:=pfree_raw T h p _ _ _ false _ w ht sm (hJJ h2) (hJJ ho)
  simpa using this
 | some x =>
  rw [hw] at h2
  have:=pfree_raw T h p x.g x.k x.i true _ w ht sm (hJJ h2) (hJJ ho)
  simpa [freeR] using this
end BdF
namespace Up
open Go Go.RowKit
def noDefer (l:List Oper):Bool:=l.all fun o=>match o.op with | .defer _=>false | _=>true
theorem not_defer {l:List Oper} (h:noDefer l=true) {o:Oper} (ho:o ∈ l):∀ c,o.op ≠ .defer c:=by
 intro c e
 have:=List.all_eq_true.1 h o ho
 rw [e] at this
 cases this
section
variable {P:Program} {l n:Nat} {Q:Exit→Act→World→Prop}
theorem op_up {o:Oper} {a:Act} {w:World} {K K':Act→World→Prop} (hn:∀ a w,K a w→K' a w) (hd:∀ c,o.op ≠ .defer c) (h:o.wp P a w K Q):o.wpIn (Fence.wide.inRound l) n P a w K' Q:=by
 refine ⟨fun _ _=>trivial,?_⟩
 rw [show (Fence.wide.inRound l).round=some l from rfl,Oper.semAt_some l _ _ hd]
 unfold Oper.wp at h
 generalize (execOp a.eval o).run P w=r at h
 cases r with
 | ok nx w' =>
  cases nx with
  | value v=>exact hn _ _ h
  | skip=>exact hn _ _ h
  | defer d=>exact hn _ _ h
  | enter f args =>
   refine ⟨fun h=>(by cases h),CallsIn.inRound l (callsIn_wide.2 (Calls.mono h ?_))⟩
   intro e w'' he
   cases e with
   | returned v=>exact hn _ _ he
   | panicked c=>exact he
   | outgrown=>exact he
  | row row args=>exact ⟨fun h=>(by cases h),fun c cs _=>let ⟨v,w',r,s⟩:=h c cs;⟨v,w',hn _ _ r,stepsIn_wide.2 s⟩⟩
  | _=>exact h.elim
 | halt e w' =>
  cases e with
  | panic v=>exact h
  | _=>exact h.elim
theorem list_up (hQ:¬ LetsOut Q) {ops:Array Oper}:∀ (m:List Oper) (a:Act) (w:World),noDefer m=true→wpList P ops Q m a w→wpListIn (Fence.wide.inRound l) n P ops Q m a w
 | [],a,w,_,h=>h
 | o :: rest,a,w,hd,h=>by
  have hr:noDefer rest=true:=by unfold noDefer at hd ⊢;rw [List.all_cons,Bool.and_eq_true] at hd;exact hd.2
  unfold wpList at h
  unfold wpListIn
  split at h
  ·rename_i hw
   rw [if_pos hw]
   rcases h with h | h
   ·exact op_up (fun a w h=>list_up hQ rest a w hr h) (not_defer hd (List.mem_cons_self ..)) h
   ·exact absurd h.2 hQ
  ·rename_i hw
   rw [if_neg hw]
   exact ⟨fun _ _=>trivial,list_up hQ rest _ _ hr h⟩
theorem any_up (hQ:¬ LetsOut Q) {md:Region.Mode} {ops:Array Oper} (hd:noDefer ops.toList=true):∀ (fuel:Nat) (listed:Array Bool) (a:Act) (w:World),wpAny P md ops Q fuel listed a w→wpAnyIn (Fence.wide.inRound l) n P md ops Q fuel listed a w
 | 0,_,_,_,h=>h
 | fuel+1,listed,a,w,h=>by
  refine ⟨h.1,fun i hi=>?_⟩
  have h1:=h.2 i hi
  unfold wpOp at h1
  unfold wpOpIn
  cases ho:ops[i]? with
  | none=>rw [ho] at h1;exact any_up hQ hd fuel _ _ _ h1
  | some o =>
   rw [ho] at h1
   have hm:o ∈ ops.toList:=List.mem_of_getElem? (by rw [Array.getElem?_toList];exact ho)
   dsimp only at h1 ⊢
   split at h1
   ·rename_i hw
    rw [if_pos hw]
    rcases h1 with h1 | h1
    ·exact op_up (fun a w h=>any_up hQ hd fuel _ a w h) (not_defer hd hm) h1
    ·exact absurd h1.2 hQ
   ·rename_i hw
    rw [if_neg hw]
    exact ⟨fun _ _=>trivial,any_up hQ hd fuel _ _ _ h1⟩
theorem region_list {id:Nat} {m:List Oper} {a:Act} {w:World} (hQ:¬ LetsOut Q) (hd:noDefer m=true) (h:wpList P m.toArray Q m a w):(Code.region id m.toArray false).wpIn (Fence.wide.inRound l) n P Q a w :=
 wpIn_region_lit (list_up hQ m a w hd h)
theorem region_ph {id:Nat} {a:Act} {w:World} {m:List Oper} (D:Nat→World→Prop) (cs:List Nat) (hQ:¬ LetsOut Q) (hd:noDefer m=true) (hm:P.follows .mixedOrders=true) (hB:Ph.okB .any m.toArray cs=true) (hD:D 0 w.drew)
  (h:Pw.W P m.toArray D cs (fun a'=>∀ w',D cs.length w'→Q .normal a' w') 0 m a):(Code.region id m.toArray true).wpIn (Fence.wide.inRound l) n P Q a w:=by
 have h:=h.out
 simp only [Ph.okB,Bool.and_eq_true] at hB
 obtain ⟨⟨hs,hc⟩,hlex⟩:=hB
 have h1:=Ph.wpAnyP_lex (md:=.any) hs hc m 0 (Array.replicate m.toArray.size false) a (by simp) (by simpa using hlex) h
 refine wpIn_region_any hm (any_up hQ (by simpa using hd) _ _ _ _ ?_)
 refine Ph.wpAny_of_ph (D:=D) (cs:=cs) (Q:=fun L a=>(cs.all fun c=>L.getD c false)=true∧∀ w',D cs.length w'→Q .normal a w') (fun L a w ⟨p,hp,hat,hd⟩ ⟨hall,hq⟩=>?_) _ _ _ _ (by simp) ⟨0,Nat.zero_le _,fun q c _=>by rw [getD_replicate_false];simp,hD⟩ (by simpa using h1)
 have hpe:p=cs.length:=by
  rcases Nat.lt_or_ge p cs.length with h2 | h2
  ·have h3:=hat p _ (List.getElem?_eq_getElem h2)
   have h4:=List.all_eq_true.1 hall _ (List.getElem_mem h2)
   rw [h4] at h3
   have:=of_decide_eq_true h3.symm
   omega
  ·omega
 subst hpe
 exact hq w hd
end
end Up
namespace Each
open Zip
open Go.RowKit Go.Shelf
open Go.Proofs.YtjolhoilcibdfaaGreat
attribute [local go_sem] Oper.semAt_some
def Kept (B:Nat) (W W':World):Prop:=W'.heap[B]?=W.heap[B]?
theorem Kept.refl (B:Nat) (W:World):Kept B W W:=rfl
theorem Kept.trans {B:Nat} {A C D:World} (h:Kept B A C) (k:Kept B C D):Kept B A D:=Eq.trans k h
theorem Kept.cell {B o:Nat} {A C:World} (h:Kept B A C):C.cell? ⟨B,o,none⟩=A.cell? ⟨B,o,none⟩:=by
 simp only [World.cell?,show C.heap[B]?=A.heap[B]? from h]
theorem Kept.below {n₀ B:Nat} {A C:World} (h:Below n₀ A C) (hB:B < n₀):Kept B A C:=h.block B hB
theorem Kept.setCell {B b o:Nat} (W:World) (v:Value) (h:B ≠ b):Kept B W (W.setCell ⟨b,o,none⟩ v):=Below.heap_setCell _ _ _ B h
theorem kept_b {B:Nat} {w:World} (hB:B < w.heap.size) (W:World) (l:Nat) (o o':Obj) (hl:w.heap.size≤l) (_:W.heap[l]?=some o) (_:o.isCells=false) (_:o.isWalk=false):Kept B W (W.putObj l o') :=
 World.putObj_heap_other (by omega)
theorem each1_in (n:Nat) (hn:1≤n) (l Bs:Nat) (s:Int) (J Jx:List Int→World→Prop)
  (hY:∀ pre (x:Int) W,J pre W→pre++[x] <+: SetM.list s→YieldAt Fence.wide (n - 1) Tryz.prog l #[.int .i64 x] W fun e W' =>
   (e=.returned (.bool true)∧J (pre++[x]) W'∧Kept Bs W W')∨(e=.returned (.bool false)∧Jx (pre++[x]) W'))
  (W:World) (hc:W.cell? ⟨Bs,0,none⟩=some (.int .i64 s)) (h0:J [] W) :
  CallsIn Fence.wide n Tryz.prog 127 #[.func (.yield l) #[] #[],.pointer (some ⟨Bs,0,none⟩)] W fun e W'=>(∃ v,e=.returned v) ∧
   ((∃ ys,ys=SetM.list s∧J ys W')∨(∃ pre,pre <+: SetM.list s∧Jx pre W')):=by
 refine callsIn_of_wp Tryz.func127 rfl trivial ?_ rfl
 simp only [Tryz.ntmps127,List.size_toArray,List.length_cons,List.length_nil,Nat.reduceAdd,Nat.reduceSub,Array.replicate_succ,Array.replicate_zero,List.push_toArray,List.append_toArray,List.nil_append,List.cons_append]
 gi_wp2
 gi_loopw [4] (fun i wr=>∃ k:Nat,k≤8∧i=.int .i64 k∧J (SetM.upto s k) wr∧Kept Bs W wr)
  (fun i _=>8 - (intOf i).toNat)
 case atStart=>exact ⟨0,Nat.zero_le _,rfl,h0,Kept.refl _ _⟩
 case round =>
  obtain ⟨k,hk,rfl,hJs,hnx⟩:=hrel
  have hcx:=(hnx.cell (o:=0)).trans hc
  by_cases hlt:k < 8
  ·by_cases hh:SetM.has s k=true
   ·obtain ⟨fn,tmps,assign,body,hy,hR⟩:=hY _ (k:Int) wr hJs (by rw [← SetM.upto_hit s k hh];exact SetM.upto_list s (k+1) (by omega))
    have Hs:=hJJ (SetM.upto_hit s k hh)
    have Hp:=hJJ (SetM.upto_list s (k+1) (by omega))
    gi_wp2_with (refine ⟨trivial,?_⟩;gi_at_call 95;refine (callsIn_wide.2 (SetP.has_any _ _ _)).mono ?_;rintro e w' ⟨rfl,rfl⟩;rw [hh])
    refine hR.mono ?_
    rintro e W3 (⟨rfl,hJ3,hk3⟩ | ⟨rfl,hJx3⟩)
    ·gi_wp2
     go_roundw
     case rel=>exact ⟨k+1,by omega,by go_num,by rw [Hs.out];exact hJ3,hnx.trans hk3⟩
     case measure=>simp [intOf];omega
    ·gi_wp2
     refine bodyPost_ret (results_none rfl _ _ _) rfl ?_
     exact ⟨⟨_,rfl⟩,.inr ⟨_,by rw [← Hs.out];exact Hp.out,hJx3⟩⟩
   ·have hh':SetM.has s k=false:=by simpa using hh
    have Hs:=hJJ (SetM.upto_miss s k hh')
    clear hh
    gi_wp2_with (refine ⟨trivial,?_⟩;gi_at_call 95;refine (callsIn_wide.2 (SetP.has_any _ _ _)).mono ?_;rintro e w' ⟨rfl,rfl⟩;rw [hh'])
    refine ⟨fun _ h=>(by cases h),?_⟩
    gi_wp2
    go_roundw
    case rel=>exact ⟨k+1,by omega,by go_num,by rw [Hs.out];exact hJs,hnx⟩
    case measure=>simp [intOf];omega
  ·obtain rfl:k=8:=by omega
   gi_wp2
   go_end0
   exact ⟨⟨_,rfl⟩,.inl ⟨_,rfl,hJs⟩⟩
theorem each_in (n:Nat) (s:Int) (w:World) :
  CallsIn Fence.wide n Tryz.prog 104 #[.int .i64 s] w fun e w'=>e=.returned (.func (.func 127) #[] #[.pointer (some ⟨w.heap.size,0,none⟩)])∧w'=w.alloc (.cells #[.int .i64 s] 3):=by
 refine callsIn_of_wp Tryz.func104 rfl trivial ?_ rfl
 simp only [Tryz.ntmps104,List.size_toArray,List.length_cons,List.length_nil,Nat.reduceAdd,Nat.reduceSub,Array.replicate_succ,Array.replicate_zero,List.push_toArray,List.append_toArray,List.nil_append,List.cons_append]
 gi_wp2
 go_ret
 exact ⟨rfl,rfl⟩
abbrev Mem (s:Int):={ x:Int // x ∈ SetM.list s }
theorem each_mem (n:Nat) (hn:1≤n) (Bs:Nat) (s:Int) (w:World) (hBs:Bs < w.heap.size) (hc:w.cell? ⟨Bs,0,none⟩=some (.int .i64 s)) :
  SeqStopsK Fence.wide n Tryz.prog 127 #[.pointer (some ⟨Bs,0,none⟩)] (fun x:Mem s=>#[Value.int .i64 x.1]) (Kept Bs) (fun ys=>ys.map Subtype.val=SetM.list s) (fun pre=>pre.map Subtype.val <+: SetM.list s) (SetM.list s).length w:=fun l J Jx W hW _ _ hY h0=>by
 refine (each1_in n hn l Bs s (fun pre W=>∃ m:List (Mem s),m.map Subtype.val=pre∧J m W) (fun pre W=>∃ m:List (Mem s),m.map Subtype.val=pre∧Jx m W) ?_ W ((hW.cell (p:=⟨Bs,0,none⟩) hBs).trans hc) ⟨[],rfl,h0⟩).mono ?_
 ·rintro pre x W1 ⟨m,rfl,hJ⟩ hp
  have hx:x ∈ SetM.list s:=hp.subset (by simp)
  have hl:m.length < (SetM.list s).length:=by have:=hp.length_le;simp at this;omega
  obtain ⟨fn,tmps,assign,body,hy,hR⟩:=hY m ⟨x,hx⟩ W1 hJ hl
  refine ⟨fn,tmps,assign,body,hy,hR.mono ?_⟩
  rintro e W' (⟨h1,h2,h3⟩ | ⟨h1,h2⟩)
  ·exact .inl ⟨h1,⟨_,by simp,h2⟩,h3⟩
  ·exact .inr ⟨h1,⟨_,by simp,h2⟩⟩
 ·rintro e W' ⟨hv,h⟩
  refine ⟨hv,?_⟩
  rcases h with ⟨ys,rfl,m,hm,hJ⟩ | ⟨pre,hp,m,rfl,hJ⟩
  ·exact .inl ⟨m,hm,hJ⟩
  ·exact .inr ⟨m,hp,hJ⟩
end Each
namespace Search
open Go.RowKit Go.Shelf
open Each
def post (R:Nat) (o:Int→Obj) (bad:Int→Bool) (x:Int) (W:World):Exit→Act→World→Prop
 | .normal,_,W'=>bad x=false∧Below W.heap.size W W'
 | .ret,_,W'=>bad x=true∧W.grownBy W' (some R)∧W'.heap[R]?=some (o x)
 | _,_,_=>False
theorem keeps_below {B:Nat} {W W':World} (h:Below W.heap.size W W'):KeepsFrom B W W':=⟨h.size,fun k o _ hk _=>(h.block k (Array.getElem?_eq_some_iff.1 hk).1).trans hk⟩
theorem grown_of_below {W W':World} {row:Option Nat} (h:Below W.heap.size W W'):W.grownBy W' row:=⟨h.os,h.tape,h.output,h.size,fun j hj _=>h.block j hj⟩
theorem grown_trans {A B C:World} {R:Nat} (h:A.grownBy B (some R)) (k:B.grownBy C (some R)):A.grownBy C (some R) :=
 ⟨k.os.trans h.os,k.tape.trans h.tape,k.output.trans h.output,Nat.le_trans h.size k.size,fun j hj hne=>(k.block j (Nat.lt_of_lt_of_le hj h.size) hne).trans (h.block j hj hne)⟩
theorem grown_from {A B C:World} {R:Nat} {row:Option Nat} (h:A.grownBy B (some R)) (k:B.grownBy C row) (hr:∀ r,row=some r→A.heap.size≤r):A.grownBy C (some R) :=
 ⟨k.os.trans h.os,k.tape.trans h.tape,k.output.trans h.output,Nat.le_trans h.size k.size,fun j hj hne=>(k.block j (Nat.lt_of_lt_of_le hj h.size) (fun e=>by have:=hr j e.symm;omega)).trans (h.block j hj hne)⟩
theorem find_pre {f:Int→Bool} {l p:List Int} {x:Int} (hp:p++[x] <+: l) (hn:∀ y ∈ p,f y=false) (hx:f x=true):l.find? f=some x:=by
 obtain ⟨t,rfl⟩:=hp
 rw [List.append_assoc,List.find?_append,List.find?_eq_none.2 (fun y hy=>by simp [hn y hy])]
 simp [hx]
theorem search {n:Nat} {g:Operand} {ps:Array Tmp} {assign body:Code} {Q:Exit→Act→World→Prop} {a:Act} {W0:World} (bad:Int→Bool) (o:Int→Obj) (Bs R:Nat) (s:Int)
  (hn:3≤n) (hg:a.eval g=.func (.func 127) #[] #[.pointer (some ⟨Bs,0,none⟩)]) (hps:ps.size=1) (hBs:Bs < W0.heap.size) (hR:R < W0.heap.size) (hc:W0.cell? ⟨Bs,0,none⟩=some (.int .i64 s)) (a₁:Int→Act)
  (hassign:∀ (l:Nat) (x:Int) (W:World) (K:Act→World→Prop),K (a₁ x) W→assign.wpIn (Fence.wide.inRound l) (n - 1 - 1) Tryz.prog (Exit.then K (fun _ _ _=>False)) { tmps:=(ps.zip #[Value.int .i64 x]).foldl (fun t (p,v)=>t.setIfInBounds p v) a.tmps,defers:=[] } W)
  (hbody:∀ (l:Nat) (x:Int) (W:World),x ∈ SetM.list s→Below W0.heap.size W0 W→body.wpIn (Fence.wide.inRound l) (n - 1 - 1) Tryz.prog (post R o bad x W) (a₁ x) W)
  (hdone:∀ (D:Nat) (W:World),W0.heap.size≤D→(∀ x ∈ SetM.list s,bad x=false)→Below W0.heap.size W0 W→W.heap[D]?=some (.deferred (some []))→Q .normal { a with defers:={ target:=.collected D,args:=#[] } :: a.defers } W)
  (hstop:∀ (D:Nat) (x:Int) (W:World),W0.heap.size≤D→(SetM.list s).find? bad=some x→bad x=true→W0.grownBy W (some R)→W.heap[R]?=some (o x)→W.heap[D]?=some (.deferred (some []))→Code.ret.wpIn Fence.wide n Tryz.prog Q { a with defers:={ target:=.collected D,args:=#[] } :: a.defers } W) :
  (Code.rangeFunc g ps assign body).wpIn Fence.wide n Tryz.prog Q a W0:=by
 refine wpIn_rangeFunc_ownG rfl (by omega) (gf:=127) (lb:=#[.pointer (some ⟨Bs,0,none⟩)]) hg trivial (enters_of Tryz.func127 (by kernel_rfl) rfl)
  (each_mem _ (by omega) Bs s W0 hBs hc) Kept.trans (kept_b hBs) (Below.refl _ _) (fun _=>hps.symm)
  (fun pre W=>(∀ y ∈ pre,bad y.1=false)∧Below W0.heap.size W0 W)
  (fun c pre W=>(c=.ret∧∃ p0 x,pre=p0++[x]∧(∀ y ∈ p0,bad y.1=false)∧bad x.1=true∧W.heap[R]?=some (o x.1))∧W0.grownBy W (some R))
  (OwnFrom.and (ownFrom_pure _ _) (ownFrom_below (Nat.le_refl _) (Nat.le_refl _)))
  ?own ⟨by simp,Below.refl _ _⟩ (fun x=>a₁ x.1) (fun l x W K h=>hassign l x.1 W K h) ?body ?done ?stop
 case own =>
  rintro c pre W W' row ⟨⟨h1,p0,x,h2,h3,h4,h5⟩,hg⟩ hgr hr
  have hlt:R < W.heap.size:=(Array.getElem?_eq_some_iff.1 h5).1
  exact ⟨⟨h1,p0,x,h2,h3,h4,(hgr.block R hlt (fun e=>by have:=(hr R e.symm).1;omega)).trans h5⟩,grown_from hg hgr (fun r e=>(hr r e).1)⟩
 case body =>
  rintro l pre x W ⟨hp,hB⟩ _
  refine wpIn_mono (hbody l x.1 W x.2 hB) ?_
  intro e a' W' h
  cases e with
  | normal =>
   obtain ⟨h1,h2⟩:=h
   refine ⟨keeps_below h2,Kept.below h2 (by have:=hB.size;omega),?_,hB.trans (h2.mono hB.size)⟩
   intro y hy
   rcases List.mem_append.1 hy with hy | hy
   ·exact hp y hy
   ·obtain rfl:y=x:=by simpa using hy
    exact h1
  | ret =>
   obtain ⟨h1,h2,h3⟩:=h
   exact ⟨KeepsFrom.of_grownBy h2 (fun j e=>by cases e;exact hR),⟨rfl,pre,x,rfl,hp,h1,h3⟩,grown_trans (grown_of_below (hB.mono (Nat.le_refl _))) h2⟩
  | _=>exact h.elim
 case done =>
  rintro D xs W hD hS ⟨hp,hB⟩ hK
  refine hdone D W hD ?_ hB hK
  rw [← hS]
  intro x hx
  obtain ⟨y,hy,rfl⟩:=List.mem_map.1 hx
  exact hp y hy
 case stop =>
  rintro D c pre W hD hS ⟨⟨rfl,p0,x,rfl,h3,h4,h5⟩,hg⟩ hK
  refine hstop D x.1 W hD (find_pre (p:=p0.map Subtype.val) (by simpa using hS) ?_ h4) h4 hg h5 hK
  intro y hy
  obtain ⟨z,hz,rfl⟩:=List.mem_map.1 hy
  exact h3 z hz
end Search
namespace BdG
open Zip
open Go.ChangeShapes Go.WideShapes Go.ChangeAt
open Go.RowKit Go.Shelf
open Tab Gath OnS RefC Clear Each Search
open May (St phases_in infoP infoT row_new)
attribute [local go_sem] Oper.semAt_some
section
variable {l n:Nat} {P:Program} {Q:Exit→Act→World→Prop} {S:World→Prop}
theorem region_held {id:Nat} {a:Act} {w:World} {m:List Oper} (hQ:¬ LetsOut Q) (hd:Up.noDefer m=true) (hm:P.follows .mixedOrders=true)
  (h:wpAnyH P .any m.toArray Q S m.toArray.size (Array.replicate m.toArray.size false) a { w with drawn:=w.drawn+1 }):(Code.region id m.toArray true).wpIn (Fence.wide.inRound l) n P Q a w :=
 wpIn_region_any hm (Up.any_up hQ (by simpa using hd) _ _ _ _ (wpAny_of_held _ _ _ _ h))
end
theorem hmx:Tryz.prog.follows .mixedOrders=true:=by kernel_rfl
theorem laid3 (w:World) (o0 o1 o2:Obj):∃ W,(((w.alloc o0).alloc o1).alloc o2)=W∧W.heap.size=w.heap.size+3∧Below w.heap.size w W∧Below (w.heap.size+1) (w.alloc o0) W∧W.heap[w.heap.size+1]?=some o1∧W.heap[w.heap.size+2]?=some o2:=by
 refine ⟨_,rfl,by simp,((((Below.refl _ w).alloc (Nat.le_refl _) _).alloc (by simp) _).alloc (by simp;omega) _),?_,?_,?_⟩
 ·have:=((Below.refl (w.alloc o0).heap.size (w.alloc o0)).alloc (Nat.le_refl _) o1).alloc (by simp) o2
  simpa using this
 ·have h1:=heap_alloc_new (w.alloc o0) o1
  have h2:=Below.heap_alloc ((w.alloc o0).alloc o1) o2 (w.heap.size+1) (by simp)
  rw [World.size_alloc] at h1
  exact h2.trans h1
 ·have h1:=heap_alloc_new ((w.alloc o0).alloc o1) o2
  simpa using h1
def grS (fv:Ph→Int) (T:Tab):Int:=mosts ((SetM.list (onS T:Nat)).map (fun p=>fv (phAt T p)))
def grL (fv:Ph→Int) (T:Tab) (l:List Int):Int:=mosts (l.map (fun p=>fv (phAt T p)))
theorem grL_snoc (fv:Ph→Int) (T:Tab) (l:List Int) (p:Int):grL fv T (l++[p])=max (grL fv T l) (fv (phAt T p)):=by
 unfold grL;rw [List.map_append,List.map_cons,List.map_nil,BdM.mosts_snoc]
theorem greatest_any (F:FuncId) (fv:Ph→Int) (hE:∀ args W,Sem.run Tryz.prog (callFunc F args) W=.ok (.enter F args) W) (hF:∀ u W,Calls Tryz.prog F #[.agg u.cells.toArray] W fun e w'=>e=.returned (.int .i64 (fv u))∧Below W.heap.size W w') (T:Tab) (h:Hd) (w:World) (ht:IsTab w h T) :
  Calls Tryz.prog 67 #[.agg (T.cells h).toArray,.func (.func F) #[] #[]] w fun e w'=>e=.returned (.int .i64 (grS fv T))∧Below w.heap.size w w':=by
 have C:=hJJ (cells_ok ht)
 have hsz:=C.out.size
 have IA:Hid ((Tryz.prog.info? 32).map (·.size)=some (T.cells h).length):=hJJ (by rw [List.size_toArray] at hsz;rw [hsz];exact infoT)
 have ON:Hid (∀ W,Below w.heap.size w W→Calls Tryz.prog 96 #[.agg (T.cells h).toArray] W fun e w'=>e=.returned (.int .i64 (onS T:Nat))∧Below W.heap.size W w'):=hJJ (fun W hb=>PlanO.pon_any T h W (ht.below hb))
 have L8:=hJJ ht.ph
 have S0:=hJJ (St.box (cs:=(T.cells h).toArray) ht)
 have hs1:(w.alloc (.cells (T.cells h).toArray 32)).heap.size=w.heap.size+1:=by simp
 have HFH:=hJJ hF
 have YR:Hid (grS fv T=grL fv T (SetM.list (onS T:Nat))):=hJJ rfl
 generalize grS fv T=res at YR ⊢
 have HEH:=hJJ hE
 clear ht hF hE
 generalize T.cells h=c at *
 generalize ((onS T:Nat):Int)=os at *
 refine (callsIn_wide (n:=3)).1 ?_
 refine callsIn_of_wp_marks Tryz.func67 rfl trivial ?_ rfl
 simp only [Tryz.ntmps67,List.size_toArray,List.length_cons,List.length_nil,Nat.reduceAdd,Nat.reduceSub,Array.replicate_succ,Array.replicate_zero,List.push_toArray,List.append_toArray,List.nil_append,List.cons_append]
 refine wpIn_wide.2 ?_
 go_upto_region 2 with fail
 obtain ⟨W1,hW1,E1,E0,EB,bF,bR⟩:=laid3 w (.cells c.toArray 32) (.cells #[.func (.func F) #[] #[]] 88) (.cells #[.int .i64 0] 3)
 rw [hW1]
 have S1:=hJJ (S0.out.step (by rw [hs1];exact EB))
 have B0:=hJJ E0
 have LT:Hid (Lies W1 ⟨w.heap.size,0,none⟩ c):=hJJ (by have:=Row.lies_of_block S1.out.blk;simpa using this)
 clear hW1 EB hs1 hsz S0 E0
 go_wp2_with (refine lgZ 32 ⟨w.heap.size,0,none⟩ c rfl LT.out Tryz.underlying32 IA.out ?_)
 refine (ON.out _ B0.out).mono ?_
 rintro e W3 ⟨rfl,hb⟩
 go_wp2_with fail
 refine (callsIn_wide.1 (Each.each_in 3 _ _)).mono ?_
 rintro e w' ⟨rfl,rfl⟩
 go_wp2_with fail
 have hb4:Below W1.heap.size W1 (W3.alloc (.cells #[.int .i64 os] 3)):=hb.alloc hb.size _
 have bE:Boxed (W3.alloc (.cells #[.int .i64 os] 3)) W3.heap.size 3 (.int .i64 os):=Boxed.new _ _ _
 have hsz3:(W3.alloc (.cells #[.int .i64 os] 3)).heap.size=W3.heap.size+1:=by simp
 have hs3:=hb.size
 generalize W3.alloc (.cells #[.int .i64 os] 3)=W4 at hb4 bE hsz3 ⊢
 have bR4:Boxed W4 (w.heap.size+2) 3 (.int .i64 0):=(hb4.block _ (by omega)).trans bR
 have bF4:Boxed W4 (w.heap.size+1) 88 (.func (.func F) #[] #[]):=(hb4.block _ (by omega)).trans bF
 have S4:=hJJ (S1.out.step hb4)
 have C0:Hid (Below w.heap.size w W4):=hJJ (B0.out.trans (hb4.mono B0.out.size))
 have E4:w.heap.size+3 < W4.heap.size:=by omega
 have E5:W3.heap.size < W4.heap.size:=by omega
 have E6:w.heap.size+2 < W3.heap.size:=by omega
 clear hb hb4 bR bF LT B0 hs3 S1
 generalize W3.heap.size=be at *
 refine (wpIn_wide (n:=3)).1 ?_
 refine wpIn_rangeFunc_ownG rfl (by omega) (gf:=127) (lb:=#[.pointer (some ⟨be,0,none⟩)]) rfl trivial (enters_of Tryz.func127 (by kernel_rfl) rfl)
  (each_mem _ (by omega) be os W4 (by omega) bE.cell) Kept.trans (kept_b E5) (Below.refl _ _) (fun _=>rfl)
  (fun pre W=>Boxed W (w.heap.size+2) 3 (.int .i64 (grL fv T (pre.map Subtype.val)))∧W4.grownBy W (some (w.heap.size+2)))
  (fun _ _ _=>False)
  ?own (fun _ _ _ _ _ hs _ _=>hs) ⟨bR4,grown_of_below (Below.refl _ _)⟩
  (fun x=>{ tmps:=#[.agg c.toArray,.func (.func F) #[] #[],.pointer (some ⟨w.heap.size,0,none⟩),.pointer (some ⟨w.heap.size+1,0,none⟩),.int .i64 0,.pointer (some ⟨w.heap.size+2,0,none⟩),.int .i64 x.1,.agg c.toArray,.int .i64 os,.func (.func 127) #[] #[.pointer (some ⟨be,0,none⟩)],.int .i64 x.1,undef,undef,undef,undef,undef,undef,undef,undef,undef],defers:=[] }) ?assign ?body ?done ?stop
 case own =>
  rintro pre W W' row ⟨h1,h2⟩ hgr hr
  exact ⟨h1.kept hgr (fun e=>by have:=(hr _ e.symm).1;omega),grown_from h2 hgr (fun r e=>(hr r e).1)⟩
 case assign =>
  intro l x W K hK
  gi_wp2
  exact hK
 case body =>
  rintro l pre ⟨x,hx⟩ W ⟨hv,hg⟩ hlt
  have hx8:=SetM.list_bd _ x hx
  obtain ⟨k,rfl⟩:=Int.eq_ofNat_of_zero_le hx8.1
  have hk:k < 8:=by omega
  have hpv:T.phases[k]?=some (phAt T k):=by
   unfold phAt
   rw [Int.toNat_natCast,List.getD_eq_getElem?_getD,List.getElem?_eq_getElem (by rw [L8.out];exact hk)];rfl
  have GS:=hJJ (grL_snoc fv T (pre.map Subtype.val) k)
  generalize phAt T k=u at hpv GS
  obtain ⟨y,hy,hcc⟩:=(phases_in S4.out.blk C.out L8.out).at hpv
  obtain rfl:=Option.some.inj hy
  have HL4:=hJJ (show Lies W4 ⟨w.heap.size,k*13,none⟩ u.cells by have:=hcc;rwa [Addr.add_mid,Nat.zero_add] at this)
  have HLW:Hid (Lies W ⟨w.heap.size,k*13,none⟩ u.cells):=hJJ (fun j v hj=>by
   have h1:=HL4.out j v hj
   rw [Addr.add_mid] at h1 ⊢
   exact (Kept.cell (hg.block w.heap.size (by omega) (fun e=>by have:=Option.some.inj e;omega))).trans h1)
  have bFW:Boxed W (w.heap.size+1) 88 (.func (.func F) #[] #[]):=(hg.block _ (by omega) (fun e=>by have:=Option.some.inj e;omega)).trans bF4
  have hWs:=hg.size
  clear hpv hcc hy HL4
  have M5:Hid (∀ w',Below W.heap.size W w'→w'.cell? ⟨w.heap.size+2,0,none⟩=some (.int .i64 (grL fv T (pre.map Subtype.val)))):=hJJ (fun w' hb=>(show Boxed w' _ _ _ from (hb.block _ (by omega)).trans hv).cell)
  have M3:Hid (∀ w',W.grownBy w' (some (w.heap.size+2))→w'.cell? ⟨w.heap.size+1,0,none⟩=some (.func (.func F) #[] #[])):=hJJ (fun w' hb=>(show Boxed w' _ _ _ from (hb.block _ (by omega) (fun e=>by have:=Option.some.inj e;omega)).trans bFW).cell)
  have MP:Hid (∀ w',W.grownBy w' (some (w.heap.size+2))→Lies w' ⟨w.heap.size,k*13,none⟩ u.cells):=hJJ (fun w' hb j v hj=>by
   have h1:=HLW.out j v hj
   rw [Addr.add_mid] at h1 ⊢
   exact (Kept.cell (hb.block w.heap.size (by omega) (fun e=>by have:=Option.some.inj e;omega))).trans h1)
  clear bFW HLW
  dsimp only
  generalize grL fv T (pre.map Subtype.val)=m at *
  gi_wp2
  refine region_held (S:=fun w'=>W.grownBy w' (some (w.heap.size+2))) (fun ⟨_,_,h⟩=>h) (by kernel_rfl) hmx ?_
  have hB:Below W.heap.size W { W with drawn:=W.drawn+1 }:=(Below.refl _ _).drew
  have hS:W.grownBy { W with drawn:=W.drawn+1 } (some (w.heap.size+2)):=grown_of_below hB
  generalize ({ W with drawn:=W.drawn+1 }:World)=v at hS hB ⊢
  refine tkZ 1 12 ?_ rfl ?_ hS ?_
  rotate_left
  ·intro w' hw'
   have cf:=M3.out w' hw'
   go_simp
   try with_reducible rfl
  (try dsimp only [Act.put]);(try simp only [zA,zB,zC])
  refine tkZ 2 13 ?_ rfl ?_ hS ?_
  rotate_left
  ·intro w' hw'
   go_simp
   try with_reducible rfl
  (try dsimp only [Act.put]);(try simp only [zA,zB,zC])
  refine tkZ 3 14 ?_ rfl ?_ hS ?_
  rotate_left
  ·intro w' hw'
   go_simp
   try with_reducible rfl
  (try dsimp only [Act.put]);(try simp only [zA,zB,zC])
  refine tkZ 4 15 ?_ rfl ?_ hS ?_
  rotate_left
  ·intro w' hw'
   go_simp
   try with_reducible rfl
  (try dsimp only [Act.put]);(try simp only [zA,zB,zC])
  refine tlZ 5 16 24 (.tmp 15) ⟨w.heap.size,k*13,none⟩ u.cells rfl hS (fun w' hw'=>MP.out w' hw') Tryz.underlying24 infoP ?_
  (try dsimp only [Act.put]);(try simp only [zA,zB,zC])
  refine rd2Z 0 6 rfl rfl (fun K hK=>?_) (fun K hK=>?_)
  ·have c5:=M5.out v hB
   go_simp
   refine hK.out _ _ hS (fun hS=>?_)
   clear hK K c5
   refine rdZ 6 rfl (fun K hK=>?_)
   go_simp
   rw [HEH.out]
   go_simp
   refine (HFH.out u _).mono ?_
   rintro e w' ⟨rfl,hb⟩
   have hq:W.grownBy w' (some (w.heap.size+2)):=grown_trans hS (grown_of_below hb)
   have hB2:=hB.trans (hb.mono hB.size)
   clear hS hb hB
   have hB:=hB2
   clear hB2
   rename World=>v
   go_simp
   refine hK.out _ _ hq (fun hS=>?_)
   clear hK K hq
   generalize fv u=z at *
   refine tkZ 7 18 (.int .i64 (max m z)) rfl ?_ hS ?_
   ·intro w' hw'
    go_simp
    try (first | rfl | (simp only [Int.max_def];split <;> split <;> omega))
   (try dsimp only [Act.put]);(try simp only [zA,zB,zC])
   refine rdZ 8 rfl (fun K hK=>?_)
   have c5:=M5.out v hB
   have hv5:Boxed v (w.heap.size+2) 3 (.int .i64 m):=(hB.block _ (by omega)).trans hv
   have f5:=hv5.frozen
   have hq:W.grownBy (v.setCell ⟨w.heap.size+2,0,none⟩ (.int .i64 (max m z))) (some (w.heap.size+2)):=grown_trans hS (grownBy_setCell' _ _ _)
   have hkf:KeepsFrom W4.heap.size W (v.setCell ⟨w.heap.size+2,0,none⟩ (.int .i64 (max m z))):=KeepsFrom.of_grownBy hq (fun j e=>by cases e;omega)
   have hke:Kept be W (v.setCell ⟨w.heap.size+2,0,none⟩ (.int .i64 (max m z))):=Kept.trans (Kept.below hB (by omega)) (Kept.setCell _ _ (by omega))
   have hvz:=hv5.set (.int .i64 (max m z))
   have hgz:W4.grownBy (v.setCell ⟨w.heap.size+2,0,none⟩ (.int .i64 (max m z))) (some (w.heap.size+2)):=grown_trans hg (grown_trans (grown_of_below hB) (grownBy_setCell' _ _ _))
   clear hS
   go_simp
   refine hK.out _ _ hq (fun hS=>?_)
   clear hK K
   refine wpAnyH_done (by kernel_rfl) ?_ _
   clear hS hq c5 f5
   gi_wp2
   exact ⟨hkf,hke,by rw [List.map_append,List.map_cons,List.map_nil,GS.out];exact hvz,hgz⟩
  ·go_simp
   rw [HEH.out]
   go_simp
   refine (HFH.out u _).mono ?_
   rintro e w' ⟨rfl,hb⟩
   have hq:W.grownBy w' (some (w.heap.size+2)):=grown_trans hS (grown_of_below hb)
   have hB2:=hB.trans (hb.mono hB.size)
   clear hS hb hB
   have hB:=hB2
   clear hB2
   rename World=>v
   go_simp
   refine hK.out _ _ hq (fun hS=>?_)
   clear hK K hq
   refine rdZ 0 rfl (fun K hK=>?_)
   have c5:=M5.out v hB
   go_simp
   refine hK.out _ _ hS (fun hS=>?_)
   clear hK K c5
   generalize fv u=z at *
   refine tkZ 7 18 (.int .i64 (max m z)) rfl ?_ hS ?_
   ·intro w' hw'
    go_simp
    try (first | rfl | (simp only [Int.max_def];split <;> split <;> omega))
   (try dsimp only [Act.put]);(try simp only [zA,zB,zC])
   refine rdZ 8 rfl (fun K hK=>?_)
   have c5:=M5.out v hB
   have hv5:Boxed v (w.heap.size+2) 3 (.int .i64 m):=(hB.block _ (by omega)).trans hv
   have f5:=hv5.frozen
   have hq:W.grownBy (v.setCell ⟨w.heap.size+2,0,none⟩ (.int .i64 (max m z))) (some (w.heap.size+2)):=grown_trans hS (grownBy_setCell' _ _ _)
   have hkf:KeepsFrom W4.heap.size W (v.setCell ⟨w.heap.size+2,0,none⟩ (.int .i64 (max m z))):=KeepsFrom.of_grownBy hq (fun j e=>by cases e;omega)
   have hke:Kept be W (v.setCell ⟨w.heap.size+2,0,none⟩ (.int .i64 (max m z))):=Kept.trans (Kept.below hB (by omega)) (Kept.setCell _ _ (by omega))
   have hvz:=hv5.set (.int .i64 (max m z))
   have hgz:W4.grownBy (v.setCell ⟨w.heap.size+2,0,none⟩ (.int .i64 (max m z))) (some (w.heap.size+2)):=grown_trans hg (grown_trans (grown_of_below hB) (grownBy_setCell' _ _ _))
   clear hS
   go_simp
   refine hK.out _ _ hq (fun hS=>?_)
   clear hK K
   refine wpAnyH_done (by kernel_rfl) ?_ _
   clear hS hq c5 f5
   gi_wp2
   exact ⟨hkf,hke,by rw [List.map_append,List.map_cons,List.map_nil,GS.out];exact hvz,hgz⟩
 case done =>
  rintro D ys W hD hS ⟨hv,hg⟩ hK
  have hc:=hv.cell
  have HR:Hid (grL fv T (ys.map Subtype.val)=res):=hJJ (by rw [hS];exact YR.out.symm)
  have HB:Hid (Below w.heap.size w W):=hJJ (C0.out.grown hg (by omega) (fun k e=>by cases e;omega))
  clear hg
  go_wp2
  refine ⟨by simp,.inl ⟨_,_,rfl,run_takeDeferred hK,?_⟩⟩
  exact ⟨_,results_tmp rfl _ _ _,by rw [show res=grL fv T (SetM.list os) from YR.out];rfl,HB.out.trans (belowK_b (w:=w) (Nat.le_refl _) _ D _ _ (by omega) hK rfl rfl)⟩
 case stop =>
  rintro D c pre W hD _ h _
  exact h.elim
theorem clearance_any (T:Tab) (h:Hd) (w:World) (ht:IsTab w h T) :
  Calls Tryz.prog 65 #[.agg (T.cells h).toArray] w fun e w'=>e=.returned (.int .i64 (clearS T))∧Below w.heap.size w w':=by
 have C:=hJJ (cells_ok ht)
 have hsz:=C.out.size
 have IA:Hid ((Tryz.prog.info? 32).map (·.size)=some (T.cells h).length):=hJJ (by rw [List.size_toArray] at hsz;rw [hsz];exact infoT)
 have S0:=hJJ (St.box (cs:=(T.cells h).toArray) ht)
 have G0:Hid (∀ W,Below w.heap.size w W→Calls Tryz.prog 67 #[.agg (T.cells h).toArray,.func (.func 103) #[] #[]] W fun e w'=>e=.returned (.int .i64 (clearS T))∧Below W.heap.size W w'):=hJJ (fun W hb=>greatest_any _ BdA.clrP (fun _ _=>by first | rfl | kernel_rfl) BdA.clr_any T h W (ht.below hb))
 generalize clearS T=r at *
 clear ht
 generalize T.cells h=c at *
 go_enter Tryz.func65,Tryz.ntmps65
 go_upto_region 1 with fail
 generalize w.alloc (.cells c.toArray 32)=w1 at S0 ⊢
 clear hsz
 have LT:Hid (Lies w1 ⟨w.heap.size,0,none⟩ c):=hJJ (by have:=Row.lies_of_block S0.out.blk;simpa using this)
 go_wp2_with (refine lgZ 32 ⟨w.heap.size,0,none⟩ c rfl LT.out Tryz.underlying32 IA.out ?_)
 refine (G0.out _ S0.out.bel).mono ?_
 rintro e w2 ⟨rfl,hb⟩
 have HF:=hJJ (S0.out.step hb).bel
 clear hb S0 LT
 go_wp2
 go_ret
 exact ⟨rfl,HF.out⟩
end BdG
namespace BdE
open Zip
open Go.ChangeShapes Go.WideShapes Go.ChangeAt Go.RowKit
open Tab Gath OnS RefC Clear
open May (St phases_in infoP infoT row_new)
open EntryS
open May (infoR)
theorem mulN (n g:Int) (h0:0≤n) (h5:n≤5):cap (mul n g)=min (n*cap g) 2147483647:=by
 have a:=cap_lo g
 have b:=cap_hi g
 have c:0≤n*cap g:=Int.mul_nonneg h0 a
 unfold mul
 rw [cap_cap,cap_in (n:=n) h0 (by omega)]
 by_cases h:n*cap g≤2147483647
 ·rw [cap_in c h];omega
 ·rw [cap_big (by omega)];omega
theorem entryR_eq (T:Tab) (r:Rl):entryR T r=sums [r.delay,r.hold,mul 2 r.green,mul 3 r.foot,mul 5 (clearS T),mul 3 T.revert,60]:=by
 have e:=fun x=>mulN 2 x (by omega) (by omega)
 have e3:=fun x=>mulN 3 x (by omega) (by omega)
 have e5:=fun x=>mulN 5 x (by omega) (by omega)
 unfold entryR
 rw [BdM.sums_tot,BdM.sums_tot]
 simp only [BdM.tot_cons,BdM.tot_nil,e,e3,e5,show cap 60=60 from rfl]
 have:=cap_lo r.green
 have:=cap_lo r.foot
 have:=cap_lo (clearS T)
 have:=cap_lo T.revert
 have:=cap_lo r.delay
 have:=cap_lo r.hold
 omega
theorem pentry_any (T:Tab) (h:Hd) (k:Int) (w:World) (ht:IsTab w h T) :
  Calls Tryz.prog 31 #[.agg (T.cells h).toArray,.int .i64 k] w fun e w'=>e=.returned (.int .i64 (entryS T k))∧Below w.heap.size w w':=by
 have C:=hJJ (cells_ok ht)
 have hsz:=C.out.size
 have IA:Hid ((Tryz.prog.info? 32).map (·.size)=some (T.cells h).length):=hJJ (by rw [List.size_toArray] at hsz;rw [hsz];exact infoT)
 have CC:Hid (∀ W,Below w.heap.size w W→Calls Tryz.prog 65 #[.agg (T.cells h).toArray] W fun e w'=>e=.returned (.int .i64 (clearS T))∧Below W.heap.size W w'):=hJJ (fun W hb=>BdG.clearance_any T h W (ht.below hb))
 have S0:=hJJ (St.box (cs:=(T.cells h).toArray) ht)
 have Kr:=ht.rails.len
 unfold maxLen at Kr
 have RS:Hid (entryS T k=if k < 0 then 0 else match T.rails[k.toNat]? with
  | some r=>entryR T r
  | none=>0):=hJJ rfl
 have ER:Hid (∀ r,entryR T r=sums [r.delay,r.hold,mul 2 r.green,mul 3 r.foot,mul 5 (clearS T),mul 3 T.revert,60]):=hJJ (entryR_eq T)
 generalize entryS T k=e0 at RS ⊢
 generalize clearS T=cl at CC ER
 clear ht
 generalize T.cells h=c at *
 go_enter Tryz.func31,Tryz.ntmps31
 go_upto_region 1 with fail
 generalize w.alloc (.cells c.toArray 32)=w1 at S0 ⊢
 clear hsz
 have q114:=S0.out.cell C.out.r
 by_cases h0:k < 0
 ·have HE:Hid (0=e0):=hJJ (by rw [RS.out,if_pos h0])
  go_wp2
  go_ret
  exact ⟨RefC.ret_int HE.out,S0.out.bel⟩
 obtain ⟨m,rfl⟩:=Int.eq_ofNat_of_zero_le (show 0≤k by omega)
 by_cases h1:T.rails.length≤m
 ·have HE:Hid (0=e0):=hJJ (by rw [RS.out,if_neg h0,Int.toNat_natCast,List.getElem?_eq_none h1])
  go_wp2
  go_ret
  exact ⟨RefC.ret_int HE.out,S0.out.bel⟩
 have hlt:m < T.rails.length:=by omega
 have hv:=List.getElem?_eq_getElem hlt
 generalize T.rails[m]=r at hv
 have HE:Hid (entryR T r=e0):=hJJ (by rw [RS.out,if_neg h0,Int.toNat_natCast,hv])
 obtain ⟨x,hx,hc⟩:=S0.out.tab.rails.at hv
 have HC:=hJJ hc
 have qq:Hid (w1.cell? ⟨w.heap.size,114,none⟩=some (.slice (some x) T.rails.length h.r.cap)):=by have:=q114;simp only [Sl.val,hx] at this;exact this
 clear hv hc hx q114 h0 h1 RS
 have q114:=qq.out
 go_upto_region 3 with fail
 go_upto_region 4 with (first | (refine Row.wpList_load_g 47 _ rfl (by first | rfl | go_simp) (x.add (m*11)) rfl r.cells _ HC.out Tryz.underlying47 rfl infoR ?_) | (refine Row.wpList_store_new rfl 47 _ _ rfl w1 _ r.cells.toArray rfl rfl rfl infoR rfl (Rl.one _) ?_))
 have hb2:Below w1.heap.size w1 (w1.alloc (.cells r.cells.toArray 47)):=(Below.refl _ _).alloc (Nat.le_refl _) _
 have hg:=heap_alloc_new w1 (.cells r.cells.toArray 47)
 (try dsimp only [Act.put])
 have S1:=hJJ (S0.out.step hb2)
 clear q114 qq HC
 generalize World.alloc w1 _=w2 at hg S1 ⊢
 generalize w1.heap.size=b at hg ⊢
 have HL:Hid (Lies w2 ⟨b,0,none⟩ r.cells):=hJJ (by have:=Row.lies_of_block hg;simpa using this)
 clear hg hb2 S0
 have LT:Hid (∀ w',Below w2.heap.size w2 w'→Lies w' ⟨w.heap.size,0,none⟩ c):=hJJ (fun w' hb=>by have:=Row.lies_of_block (S1.out.step hb).blk;simpa using this)
 have M4:Hid (∀ w',Below w2.heap.size w2 w'→w'.cell? ⟨b,4,none⟩=some (I r.delay)):=hJJ (fun w' hb=>by have:=(HL.out.below hb) 4 _ rfl;rwa [Addr.add_mid,Nat.zero_add] at this)
 have M5:Hid (∀ w',Below w2.heap.size w2 w'→w'.cell? ⟨b,5,none⟩=some (I r.green)):=hJJ (fun w' hb=>by have:=(HL.out.below hb) 5 _ rfl;rwa [Addr.add_mid,Nat.zero_add] at this)
 have M6:Hid (∀ w',Below w2.heap.size w2 w'→w'.cell? ⟨b,6,none⟩=some (I r.foot)):=hJJ (fun w' hb=>by have:=(HL.out.below hb) 6 _ rfl;rwa [Addr.add_mid,Nat.zero_add] at this)
 have M7:Hid (∀ w',Below w2.heap.size w2 w'→w'.cell? ⟨b,7,none⟩=some (I r.hold)):=hJJ (fun w' hb=>by have:=(HL.out.below hb) 7 _ rfl;rwa [Addr.add_mid,Nat.zero_add] at this)
 have MR:Hid (∀ w',Below w2.heap.size w2 w'→w'.cell? ⟨w.heap.size,119,none⟩=some (I T.revert)):=hJJ (fun w' hb=>(S1.out.step hb).cell C.out.revert)
 refine wp_region_held (S:=fun w'=>Below w2.heap.size w2 w') (by kernel_rfl) ?_
 have hS:Below w2.heap.size w2 { w2 with drawn:=w2.drawn+1 }:=(Below.refl _ _).drew
 generalize ({ w2 with drawn:=w2.drawn+1 }:World)=v at hS ⊢
 refine tkZ 0 20 ?_ rfl ?_ hS ?_
 rotate_left
 ·intro w' hw'
  go_simp
  try with_reducible rfl
 (try dsimp only [Act.put]);(try simp only [zA,zB,zC])
 refine tkZ 1 21 ?_ rfl ?_ hS ?_
 rotate_left
 ·intro w' hw'
  have cf:=M4.out w' hw'
  go_simp
  try with_reducible rfl
 (try dsimp only [Act.put]);(try simp only [zA,zB,zC])
 refine tkZ 2 22 ?_ rfl ?_ hS ?_
 rotate_left
 ·intro w' hw'
  go_simp
  try with_reducible rfl
 (try dsimp only [Act.put]);(try simp only [zA,zB,zC])
 refine tkZ 3 23 ?_ rfl ?_ hS ?_
 rotate_left
 ·intro w' hw'
  have cf:=M7.out w' hw'
  go_simp
  try with_reducible rfl
 (try dsimp only [Act.put]);(try simp only [zA,zB,zC])
 refine tkZ 4 24 ?_ rfl ?_ hS ?_
 rotate_left
 ·intro w' hw'
  go_simp
  try with_reducible rfl
 (try dsimp only [Act.put]);(try simp only [zA,zB,zC])
 refine tkZ 5 25 ?_ rfl ?_ hS ?_
 rotate_left
 ·intro w' hw'
  have cf:=M5.out w' hw'
  go_simp
  try with_reducible rfl
 (try dsimp only [Act.put]);(try simp only [zA,zB,zC])
 refine tkZ 7 27 ?_ rfl ?_ hS ?_
 rotate_left
 ·intro w' hw'
  go_simp
  try with_reducible rfl
 (try dsimp only [Act.put]);(try simp only [zA,zB,zC])
 refine tkZ 8 28 ?_ rfl ?_ hS ?_
 rotate_left
 ·intro w' hw'
  have cf:=M6.out w' hw'
  go_simp
  try with_reducible rfl
 (try dsimp only [Act.put]);(try simp only [zA,zB,zC])
 refine tlZ 10 30 32 (.tmp 2) ⟨w.heap.size,0,none⟩ c rfl hS (fun w' hw'=>LT.out w' hw') Tryz.underlying32 IA.out ?_
 (try dsimp only [Act.put]);(try simp only [zA,zB,zC])
 refine tkZ 13 33 ?_ rfl ?_ hS ?_
 rotate_left
 ·intro w' hw'
  go_simp
  try with_reducible rfl
 (try dsimp only [Act.put]);(try simp only [zA,zB,zC])
 refine tkZ 14 34 ?_ rfl ?_ hS ?_
 rotate_left
 ·intro w' hw'
  have cf:=MR.out w' hw'
  go_simp
  try with_reducible rfl
 (try dsimp only [Act.put]);(try simp only [zA,zB,zC])
 refine rdZ 6 rfl (fun K hK=>?_)
 go_simp
 refine (BdS.mul_any 2 r.green _).mono ?_
 rintro e w' ⟨rfl,rfl⟩
 go_simp
 refine hK.out _ _ hS (fun hS=>?_)
 clear hK K
 refine rdZ 9 rfl (fun K hK=>?_)
 go_simp
 refine (BdS.mul_any 3 r.foot _).mono ?_
 rintro e w' ⟨rfl,rfl⟩
 go_simp
 refine hK.out _ _ hS (fun hS=>?_)
 clear hK K
 refine rdZ 11 rfl (fun K hK=>?_)
 go_simp
 refine (CC.out _ (S1.out.step hS).bel).mono ?_
 rintro e w' ⟨rfl,hb⟩
 have hq:=hS.trans (hb.mono hS.size)
 clear hS hb
 rename World=>v
 go_simp
 refine hK.out _ _ hq (fun hS=>?_)
 clear hK K hq
 refine rdZ 12 rfl (fun K hK=>?_)
 go_simp
 refine (BdS.mul_any 5 cl _).mono ?_
 rintro e w' ⟨rfl,rfl⟩
 go_simp
 refine hK.out _ _ hS (fun hS=>?_)
 clear hK K
 refine rdZ 15 rfl (fun K hK=>?_)
 go_simp
 refine (BdS.mul_any 3 T.revert _).mono ?_
 rintro e w' ⟨rfl,rfl⟩
 go_simp
 refine hK.out _ _ hS (fun hS=>?_)
 clear hK K
 refine rdZ 16 rfl (fun K hK=>?_)
 go_simp
 have R1:Hid (IntRow (v.alloc (.cells #[I r.delay,I r.hold,I (mul 2 r.green),I (mul 3 r.foot),I (mul 5 cl),I (mul 3 T.revert),I 60] 3)) ⟨some ⟨v.heap.size,0,none⟩,7⟩ [r.delay,r.hold,mul 2 r.green,mul 3 r.foot,mul 5 cl,mul 3 T.revert,60]):=hJJ (row_new v 3 [r.delay,r.hold,mul 2 r.green,mul 3 r.foot,mul 5 cl,mul 3 T.revert,60] 7 rfl (by decide) _ rfl)
 have hq:=hS.alloc hS.size (.cells #[I r.delay,I r.hold,I (mul 2 r.green),I (mul 3 r.foot),I (mul 5 cl),I (mul 3 T.revert),I 60] 3)
 clear hS
 generalize v.heap.size=b1 at R1 ⊢
 generalize World.alloc v _=v at R1 hq ⊢
 refine hK.out _ _ hq (fun hS=>?_)
 clear hK K hq
 refine rdZ 17 rfl (fun K hK=>?_)
 go_simp
 refine (BdS.sum_row (some ⟨b1,0,none⟩) 7 [r.delay,r.hold,mul 2 r.green,mul 3 r.foot,mul 5 cl,mul 3 T.revert,60] 7 rfl _ R1.out).mono ?_
 rintro e w' ⟨rfl,rfl⟩
 go_simp
 refine hK.out _ _ hS (fun hS=>?_)
 clear hK K
 rw [← ER.out r,HE.out]
 refine tkZ 18 4 ?_ rfl ?_ hS ?_
 rotate_left
 ·intro w' hw'
  go_simp
  try with_reducible rfl
 (try dsimp only [Act.put]);(try simp only [zA,zB,zC])
 refine wpAnyH_done (by kernel_rfl) ?_ _
 have HF:=hJJ (S1.out.bel.trans (hS.mono S1.out.bel.size))
 clear hS
 go_wp2
 go_ret
 exact ⟨rfl,HF.out⟩
end BdE
namespace BdO
open Zip
open Go.ChangeShapes Go.WideShapes Go.ChangeAt Go.RowKit
open Tab Gath OnS RefC Clear
open May (St phases_in infoP infoT row_new)
open EntryS OverS
open May (infoR)
theorem ovM_cap (T:Tab) (l:List Int):mosts (ovM T l)=cap (BdG.grL BdA.neededP T l):=by
 induction l with
 | nil=>rfl
 | cons p t ih =>
  have e:ovM T (p :: t)=cap (phAt T p).min :: sums [(phAt T p).walk,(phAt T p).blinks] :: ovM T t:=rfl
  have e2:BdG.grL BdA.neededP T (p :: t)=max (max 0 (BdA.neededP (phAt T p))) (BdG.grL BdA.neededP T t):=by unfold BdG.grL;rw [List.map_cons,BdM.mosts_cons]
  rw [e,e2,BdM.mosts_cons,BdM.mosts_cons,ih]
  unfold BdA.neededP
  have:=cap_lo (phAt T p).min
  have:=BdM.sums_lo [(phAt T p).walk,(phAt T p).blinks]
  simp only [BdM.cap_max,BdM.cap_sums,show cap 0=0 from rfl]
  omega
theorem overR_eq (T:Tab):overR T=sums [mosts (ovL T T.rails.length),BdG.grS BdA.neededP T,clearS T,T.revert,30]:=by
 have e:BdG.grS BdA.neededP T=BdG.grL BdA.neededP T (SetM.list (onS T:Nat)):=rfl
 unfold overR
 rw [ovM_cap,e,BdM.sums_tot,BdM.sums_tot]
 simp only [BdM.tot_cons,BdM.tot_nil,cap_cap]
theorem pover_any (T:Tab) (h:Hd) (w:World) (ht:IsTab w h T) :
  Calls Tryz.prog 33 #[.agg (T.cells h).toArray] w fun e w'=>e=.returned (.int .i64 (overS T))∧Below w.heap.size w w':=by
 have C:=hJJ (cells_ok ht)
 have hsz:=C.out.size
 have IA:Hid ((Tryz.prog.info? 32).map (·.size)=some (T.cells h).length):=hJJ (by rw [List.size_toArray] at hsz;rw [hsz];exact infoT)
 have EC:Hid (∀ (k:Nat) W,Below w.heap.size w W→Calls Tryz.prog 31 #[.agg (T.cells h).toArray,.int .i64 k] W fun e w'=>e=.returned (.int .i64 (entryS T k))∧Below W.heap.size W w'):=hJJ (fun k W hb=>BdE.pentry_any T h k W (ht.below hb))
 have GC:Hid (∀ W,Below w.heap.size w W→Calls Tryz.prog 67 #[.agg (T.cells h).toArray,.func (.func 59) #[] #[]] W fun e w'=>e=.returned (.int .i64 (BdG.grS BdA.neededP T))∧Below W.heap.size W w'):=hJJ (fun W hb=>BdG.greatest_any _ BdA.neededP (fun _ _=>by first | rfl | kernel_rfl) BdA.needed_any T h W (ht.below hb))
 have CC:Hid (∀ W,Below w.heap.size w W→Calls Tryz.prog 65 #[.agg (T.cells h).toArray] W fun e w'=>e=.returned (.int .i64 (clearS T))∧Below W.heap.size W w'):=hJJ (fun W hb=>BdG.clearance_any T h W (ht.below hb))
 have RL:=hJJ ht.rails
 have Kr:=ht.rails.len
 unfold maxLen at Kr
 have S0:=hJJ (St.box (cs:=(T.cells h).toArray) ht)
 have RS:Hid (overS T=if T.rails.length=0 then 0 else overR T):=hJJ rfl
 have RR:Hid (overR T=sums [mosts (ovL T T.rails.length),BdG.grS BdA.neededP T,clearS T,T.revert,30]):=hJJ (overR_eq T)
 generalize overS T=res at RS ⊢
 generalize clearS T=cl at CC RR
 generalize BdG.grS BdA.neededP T=gr at GC RR
 clear ht
 go_enter Tryz.func33,Tryz.ntmps33
 go_upto_region 1 with fail
 generalize w.alloc (.cells (T.cells h).toArray 32)=w1 at S0 ⊢
 have q114:=C.out.r
 have q119:=C.out.revert
 generalize hc:T.cells h=c at *
 clear hsz hc
 generalize hn:T.rails.length=n at *
 have HN:=hJJ hn
 clear hn
 obtain ⟨sg,sd,⟨ra,rcap⟩,sb⟩:=h
 have Q114:Hid (∀ W,Below w1.heap.size w1 W→W.cell? ⟨w.heap.size,114,none⟩=some (.slice ra n rcap)):=hJJ (fun W hb=>(S0.out.step hb).cell q114)
 have Q119:Hid (∀ W,Below w1.heap.size w1 W→W.cell? ⟨w.heap.size,119,none⟩=some (I T.revert)):=hJJ (fun W hb=>(S0.out.step hb).cell q119)
 have LT:Hid (∀ W,Below w1.heap.size w1 W→Lies W ⟨w.heap.size,0,none⟩ c):=hJJ (fun W hb=>by have:=Row.lies_of_block (S0.out.step hb).blk;simpa using this)
 have BB:Hid (∀ W,Below w1.heap.size w1 W→Below w.heap.size w W):=hJJ (fun W hb=>S0.out.bel.trans (hb.mono S0.out.bel.size))
 clear q114 q119
 have q114:=Q114.out _ (Below.refl _ _)
 by_cases hn0:n=0
 ·have HF:Hid (0=res):=hJJ (by rw [RS.out,if_pos hn0])
  have HB:=hJJ S0.out.bel
  subst hn0
  go_wp2
  go_ret
  exact ⟨RefC.ret_int HF.out,HB.out⟩
 have hnb:((n:Int) == 0)=false:=by
  rw [beq_eq_false_iff_ne];omega
 have HR0:Hid (sums [mosts (ovL T n),gr,cl,T.revert,30]=res):=hJJ (by rw [RS.out,if_neg hn0,RR.out])
 clear RS RR
 have NZ:=hJJ hn0
 clear hn0
 go_upto_region 4 with fail
 clear hnb
 have US:Hid (∀ q,mosts (ovL T (q+1))=max (mosts (ovL T q)) (sums [entryS T q,(T.rails.getD q default).stay])):=hJJ (fun q=>by rw [ov_succ,BdM.mosts_snoc];rfl)
 have U0:Hid (mosts (ovL T 0)=0):=hJJ rfl
 generalize hul:(fun q=>mosts (ovL T q))=ul
 have HU:Hid (∀ q,mosts (ovL T q)=ul q):=hJJ (fun q=>by rw [← hul])
 clear hul
 have US2:Hid (∀ q,ul (q+1)=max (ul q) (sums [entryS T q,(T.rails.getD q default).stay])):=hJJ (fun q=>by rw [← HU.out,← HU.out];exact US.out q)
 have U02:Hid ((0:Int)=ul 0):=hJJ (by rw [← HU.out];exact U0.out.symm)
 have HR1:Hid (sums [ul n,gr,cl,T.revert,30]=res):=hJJ (by rw [← HU.out];exact HR0.out)
 clear US U0 HU HR0
 go_wp2_with fail
 clear q114
 go_loopw [3,13] (fun v i wr=>∃ q:Nat,q≤n∧i=.int .i64 q∧v=.int .i64 (ul q)∧Below w1.heap.size w1 wr) (fun _ i _=>n - (intOf i).toNat)
 case atStart=>exact ⟨0,by omega,rfl,by rw [← U02.out],Below.refl _ _⟩
 case round =>
  obtain ⟨q,hq,rfl,rfl,hbel⟩:=hrel
  have HB:=hJJ hbel
  clear hbel
  by_cases hlt:q < n
  ·have hv0:T.rails[q]?=some (T.rails.getD q default):=by
    rw [List.getD_eq_getElem?_getD,List.getElem?_eq_getElem (by rw [HN.out];exact hlt)];rfl
   have HS:=hJJ (US2.out q)
   generalize T.rails.getD q default=u at hv0 HS
   obtain ⟨y,hy,hcc⟩:=RL.out.at hv0
   obtain rfl:ra=some y:=hy
   have HC:=hJJ (hcc.below (BB.out _ HB.out))
   clear hv0 hcc
   go_upto_region 7 with (first | (refine Row.wpList_load_g 47 _ rfl (by first | rfl | go_simp) (y.add (q*11)) rfl u.cells _ HC.out Tryz.underlying47 rfl infoR ?_) | (refine Row.wpList_store_new rfl 47 _ _ rfl wr _ u.cells.toArray rfl rfl rfl infoR rfl (Rl.one _) ?_))
   (try dsimp only [Act.put])
   have hb2:Below wr.heap.size wr (wr.alloc (.cells u.cells.toArray 47)):=(Below.refl _ _).alloc (Nat.le_refl _) _
   have hg:=heap_alloc_new wr (.cells u.cells.toArray 47)
   have B2:=hJJ (HB.out.trans (hb2.mono HB.out.size))
   clear HC hb2 HB
   generalize World.alloc wr _=w2 at hg B2 ⊢
   generalize wr.heap.size=b at hg ⊢
   have HL:Hid (Lies w2 ⟨b,0,none⟩ u.cells):=hJJ (by have:=Row.lies_of_block hg;simpa using this)
   clear hg
   have M8:Hid (∀ w',Below w2.heap.size w2 w'→w'.cell? ⟨b,8,none⟩=some (I u.stay)):=hJJ (fun w' hb=>by have:=(HL.out.below hb) 8 _ rfl;rwa [Addr.add_mid,Nat.zero_add] at this)
   have LS:Hid (∀ w',Below w2.heap.size w2 w'→Lies w' ⟨w.heap.size,0,none⟩ c):=hJJ (fun w' hb=>LT.out _ (B2.out.trans (hb.mono B2.out.size)))
   generalize u.stay=st at HS M8
   generalize ul q=m at HS ⊢
   have ECq:=hJJ (EC.out q)
   generalize entryS T q=en at HS ECq
   refine wp_region_held (S:=fun w'=>Below w2.heap.size w2 w') (by kernel_rfl) ?_
   have hS:Below w2.heap.size w2 { w2 with drawn:=w2.drawn+1 }:=(Below.refl _ _).drew
   generalize ({ w2 with drawn:=w2.drawn+1 }:World)=v at hS ⊢
   refine tkZ 0 18 ?_ rfl ?_ hS ?_
   rotate_left
   ·intro w' hw'
    go_simp
    try with_reducible rfl
   (try dsimp only [Act.put]);(try simp only [zA,zB,zC])
   refine tlZ 1 19 32 (.tmp 1) ⟨w.heap.size,0,none⟩ c rfl hS (fun w' hw'=>LS.out w' hw') Tryz.underlying32 IA.out ?_
   (try dsimp only [Act.put]);(try simp only [zA,zB,zC])
   refine tkZ 2 20 ?_ rfl ?_ hS ?_
   rotate_left
   ·intro w' hw'
    go_simp
    try with_reducible rfl
   (try dsimp only [Act.put]);(try simp only [zA,zB,zC])
   refine tkZ 4 22 ?_ rfl ?_ hS ?_
   rotate_left
   ·intro w' hw'
    go_simp
    try with_reducible rfl
   (try dsimp only [Act.put]);(try simp only [zA,zB,zC])
   refine tkZ 5 23 ?_ rfl ?_ hS ?_
   rotate_left
   ·intro w' hw'
    have cf:=M8.out w' hw'
    go_simp
    try with_reducible rfl
   (try dsimp only [Act.put]);(try simp only [zA,zB,zC])
   refine rdZ 3 rfl (fun K hK=>?_)
   go_simp
   refine (ECq.out _ (BB.out _ (B2.out.trans (hS.mono B2.out.size)))).mono ?_
   rintro e w' ⟨rfl,hb⟩
   have hq:=hS.trans (hb.mono hS.size)
   clear hS hb
   rename World=>v
   go_simp
   refine hK.out _ _ hq (fun hS=>?_)
   clear hK K hq
   refine rdZ 6 rfl (fun K hK=>?_)
   go_simp
   have R1:Hid (IntRow (v.alloc (.cells #[I en,I st] 3)) ⟨some ⟨v.heap.size,0,none⟩,2⟩ [en,st]):=hJJ (row_new v 3 [en,st] 2 rfl (by decide) _ rfl)
   have hq:=hS.alloc hS.size (.cells #[I en,I st] 3)
   clear hS
   generalize v.heap.size=b1 at R1 ⊢
   generalize World.alloc v _=v at R1 hq ⊢
   refine hK.out _ _ hq (fun hS=>?_)
   clear hK K hq
   refine rdZ 7 rfl (fun K hK=>?_)
   go_simp
   refine (BdS.sum_row (some ⟨b1,0,none⟩) 2 [en,st] 2 rfl _ R1.out).mono ?_
   rintro e w' ⟨rfl,rfl⟩
   go_simp
   refine hK.out _ _ hS (fun hS=>?_)
   clear hK K
   clear R1
   generalize sums [en,st]=z at HS ⊢
   refine tkZ 8 26 (.int .i64 (max m z)) rfl ?_ hS ?_
   ·intro w' hw'
    go_simp
    try (first | rfl | (simp only [Int.max_def];split <;> split <;> omega))
   (try dsimp only [Act.put]);(try simp only [zA,zB,zC])
   refine tkZ 9 3 ?_ rfl ?_ hS ?_
   rotate_left
   ·intro w' hw'
    go_simp
    try with_reducible rfl
   (try dsimp only [Act.put]);(try simp only [zA,zB,zC])
   refine wpAnyH_done (by kernel_rfl) ?_ _
   have HF:=hJJ (B2.out.trans (hS.mono B2.out.size))
   clear hS
   go_wp2
   go_roundw
   case rel=>exact ⟨q+1,by omega,by go_num,by rw [HS.out],HF.out⟩
   case measure=>simp [intOf];omega
  ·have HB2:=hJJ (BB.out _ HB.out)
   obtain rfl:q=n:=by omega
   go_upto_region 9 with fail
   have LS:Hid (∀ w',Below wr.heap.size wr w'→Lies w' ⟨w.heap.size,0,none⟩ c):=hJJ (fun w' hb=>LT.out _ (HB.out.trans (hb.mono HB.out.size)))
   have MR:Hid (∀ w',Below wr.heap.size wr w'→w'.cell? ⟨w.heap.size,119,none⟩=some (I T.revert)):=hJJ (fun w' hb=>Q119.out _ (HB.out.trans (hb.mono HB.out.size)))
   generalize ul q=m at HR1 ⊢
   refine wp_region_held (S:=fun w'=>Below wr.heap.size wr w') (by kernel_rfl) ?_
   have hS:Below wr.heap.size wr { wr with drawn:=wr.drawn+1 }:=(Below.refl _ _).drew
   generalize ({ wr with drawn:=wr.drawn+1 }:World)=v at hS ⊢
   refine tkZ 0 28 ?_ rfl ?_ hS ?_
   rotate_left
   ·intro w' hw'
    go_simp
    try with_reducible rfl
   (try dsimp only [Act.put]);(try simp only [zA,zB,zC])
   refine tlZ 1 29 32 (.tmp 1) ⟨w.heap.size,0,none⟩ c rfl hS (fun w' hw'=>LS.out w' hw') Tryz.underlying32 IA.out ?_
   (try dsimp only [Act.put]);(try simp only [zA,zB,zC])
   refine tlZ 3 31 32 (.tmp 1) ⟨w.heap.size,0,none⟩ c rfl hS (fun w' hw'=>LS.out w' hw') Tryz.underlying32 IA.out ?_
   (try dsimp only [Act.put]);(try simp only [zA,zB,zC])
   refine tkZ 5 33 ?_ rfl ?_ hS ?_
   rotate_left
   ·intro w' hw'
    go_simp
    try with_reducible rfl
   (try dsimp only [Act.put]);(try simp only [zA,zB,zC])
   refine tkZ 6 34 ?_ rfl ?_ hS ?_
   rotate_left
   ·intro w' hw'
    have cf:=MR.out w' hw'
    go_simp
    try with_reducible rfl
   (try dsimp only [Act.put]);(try simp only [zA,zB,zC])
   refine rdZ 2 rfl (fun K hK=>?_)
   go_simp
   refine (GC.out _ (BB.out _ (HB.out.trans (hS.mono HB.out.size)))).mono ?_
   rintro e w' ⟨rfl,hb⟩
   have hq:=hS.trans (hb.mono hS.size)
   clear hS hb
   rename World=>v
   go_simp
   refine hK.out _ _ hq (fun hS=>?_)
   clear hK K hq
   refine rdZ 4 rfl (fun K hK=>?_)
   go_simp
   refine (CC.out _ (BB.out _ (HB.out.trans (hS.mono HB.out.size)))).mono ?_
   rintro e w' ⟨rfl,hb⟩
   have hq:=hS.trans (hb.mono hS.size)
   clear hS hb
   rename World=>v
   go_simp
   refine hK.out _ _ hq (fun hS=>?_)
   clear hK K hq
   refine rdZ 7 rfl (fun K hK=>?_)
   go_simp
   have R1:Hid (IntRow (v.alloc (.cells #[I m,I gr,I cl,I T.revert,I 30] 3)) ⟨some ⟨v.heap.size,0,none⟩,5⟩ [m,gr,cl,T.revert,30]):=hJJ (row_new v 3 [m,gr,cl,T.revert,30] 5 rfl (by decide) _ rfl)
   have hq:=hS.alloc hS.size (.cells #[I m,I gr,I cl,I T.revert,I 30] 3)
   clear hS
   generalize v.heap.size=b1 at R1 ⊢
   generalize World.alloc v _=v at R1 hq ⊢
   refine hK.out _ _ hq (fun hS=>?_)
   clear hK K hq
   refine rdZ 8 rfl (fun K hK=>?_)
   go_simp
   refine (BdS.sum_row (some ⟨b1,0,none⟩) 5 [m,gr,cl,T.revert,30] 5 rfl _ R1.out).mono ?_
   rintro e w' ⟨rfl,rfl⟩
   go_simp
   refine hK.out _ _ hS (fun hS=>?_)
   clear hK K
   rw [HR1.out]
   refine tkZ 9 2 ?_ rfl ?_ hS ?_
   rotate_left
   ·intro w' hw'
    go_simp
    try with_reducible rfl
   (try dsimp only [Act.put]);(try simp only [zA,zB,zC])
   refine wpAnyH_done (by kernel_rfl) ?_ _
   have HF:=hJJ (HB2.out.trans (hS.mono HB2.out.size))
   clear hS
   go_wp2
   go_ret
   exact ⟨rfl,HF.out⟩
end BdO
namespace BdW
open Zip
open Go.ChangeShapes Go.WideShapes Go.ChangeAt Go.RowKit
open Tab Gath OnS RefC Clear
open May (St phases_in infoP infoT row_new)
open FreeS OverS WaitS
theorem pwait_any (T:Tab) (h:Hd) (p:Int) (w:World) (ht:IsTab w h T) (sm:PlaceM.Few T) :
  Calls Tryz.prog 35 #[.agg (T.cells h).toArray,.int .i64 p] w fun e w'=>e=.returned (.int .i64 (waitS T p))∧Below w.heap.size w w':=by
 have C:=hJJ (cells_ok ht)
 have hsz:=C.out.size
 have IA:Hid ((Tryz.prog.info? 32).map (·.size)=some (T.cells h).length):=hJJ (by rw [List.size_toArray] at hsz;rw [hsz];exact infoT)
 have FC:Hid (∀ W,Below w.heap.size w W→Calls Tryz.prog 29 #[.agg (T.cells h).toArray,.int .i64 p] W fun e w'=>e=.returned (.int .i64 (freeS T p))∧Below W.heap.size W w'):=hJJ (fun W hb=>BdF.pfree_any T h p W (ht.below hb) sm)
 have OC:Hid (∀ W,Below w.heap.size w W→Calls Tryz.prog 33 #[.agg (T.cells h).toArray] W fun e w'=>e=.returned (.int .i64 (overS T))∧Below W.heap.size W w'):=hJJ (fun W hb=>BdO.pover_any T h W (ht.below hb))
 have S0:=hJJ (St.box (cs:=(T.cells h).toArray) ht)
 have RS:Hid (waitS T p=if freeS T p=0∨T.rails.length=0 then freeS T p else sums [mul (sums [T.share,1]) (sums [overS T,freeS T p,2]),T.share]):=hJJ rfl
 generalize waitS T p=res at RS ⊢
 generalize freeS T p=f at RS FC
 generalize overS T=ov at RS OC
 clear ht sm
 go_enter Tryz.func35,Tryz.ntmps35
 go_upto_region 1 with fail
 generalize w.alloc (.cells (T.cells h).toArray 32)=w1 at S0 ⊢
 have q114:=C.out.r
 have q130:=C.out.share
 generalize hc:T.cells h=c at *
 clear hsz hc
 generalize T.rails.length=n at *
 obtain ⟨sg,sd,⟨ra,rcap⟩,sb⟩:=h
 have Q114:Hid (∀ W,Below w1.heap.size w1 W→W.cell? ⟨w.heap.size,114,none⟩=some (.slice ra n rcap)):=hJJ (fun W hb=>(S0.out.step hb).cell q114)
 have Q130:Hid (∀ W,Below w1.heap.size w1 W→W.cell? ⟨w.heap.size,130,none⟩=some (I T.share)):=hJJ (fun W hb=>(S0.out.step hb).cell q130)
 have LT:Hid (∀ W,Below w1.heap.size w1 W→Lies W ⟨w.heap.size,0,none⟩ c):=hJJ (fun W hb=>by have:=Row.lies_of_block (S0.out.step hb).blk;simpa using this)
 have BB:Hid (∀ W,Below w1.heap.size w1 W→Below w.heap.size w W):=hJJ (fun W hb=>S0.out.bel.trans (hb.mono S0.out.bel.size))
 clear q114 q130
 go_wp2_with (refine lgZ 32 ⟨w.heap.size,0,none⟩ c rfl (LT.out _ (Below.refl _ _)) Tryz.underlying32 IA.out ?_)
 refine (FC.out _ (BB.out _ (Below.refl _ _))).mono ?_
 rintro e wr ⟨rfl,hb⟩
 have B2:=hJJ hb
 clear hb FC
 have q114:=Q114.out _ B2.out
 generalize T.share=sh at Q130 RS
 by_cases hf0:f=0
 ·have HF:Hid (0=res):=hJJ (by rw [RS.out,if_pos (.inl hf0),hf0])
  have HB:=hJJ (BB.out _ B2.out)
  subst hf0
  go_wp2
  go_ret
  exact ⟨RefC.ret_int HF.out,HB.out⟩
 have hfb:(f == 0)=false:=by simpa using hf0
 by_cases hn0:n=0
 ·have HF:Hid (f=res):=hJJ (by rw [RS.out,if_pos (.inr hn0)])
  have HB:=hJJ (BB.out _ B2.out)
  subst hn0
  clear hf0
  go_wp2
  go_ret
  exact ⟨RefC.ret_int HF.out,HB.out⟩
 have hnb:((n:Int) == 0)=false:=by rw [beq_eq_false_iff_ne];omega
 have HR0:Hid (sums [mul (sums [sh,1]) (sums [ov,f,2]),sh]=res):=hJJ (by rw [RS.out,if_neg (fun e=>e.elim hf0 hn0)])
 clear hf0 hn0 RS
 go_wp2_with (refine lgZ 32 ⟨w.heap.size,0,none⟩ c rfl (LT.out _ B2.out) Tryz.underlying32 IA.out ?_)
 refine (OC.out _ (BB.out _ B2.out)).mono ?_
 rintro e w3 ⟨rfl,hb⟩
 have B3:=hJJ (B2.out.trans (hb.mono B2.out.size))
 clear hb B2 OC q114
 go_wp2_with fail
 have R3:Hid (IntRow (w3.alloc (.cells #[I ov,I f,I 2] 3)) ⟨some ⟨w3.heap.size,0,none⟩,3⟩ [ov,f,2]):=hJJ (row_new w3 3 [ov,f,2] 3 rfl (by decide) _ rfl)
 have hb4:Below w3.heap.size w3 (w3.alloc (.cells #[I ov,I f,I 2] 3)):=(Below.refl _ _).alloc (Nat.le_refl _) _
 have B4:=hJJ (B3.out.trans (hb4.mono B3.out.size))
 clear hb4 B3
 generalize w3.heap.size=b4 at R3 ⊢
 generalize World.alloc w3 _=w4 at R3 B4 ⊢
 refine (BdS.sum_row (some ⟨b4,0,none⟩) 3 [ov,f,2] 3 rfl _ R3.out).mono ?_
 rintro e w' ⟨rfl,rfl⟩
 clear R3
 generalize sums [ov,f,2]=on at HR0 ⊢
 go_upto_region 5 with fail
 have M:Hid (∀ w',Below w4.heap.size w4 w'→w'.cell? ⟨w.heap.size,130,none⟩=some (I sh)):=hJJ (fun w' hb=>Q130.out _ (B4.out.trans (hb.mono B4.out.size)))
 have SB:Hid (∀ w',Below w4.heap.size w4 w'→Below w.heap.size w w'):=hJJ (fun w' hb=>BB.out _ (B4.out.trans (hb.mono B4.out.size)))
 clear B4 BB LT Q130 Q114 hfb hnb
 refine wp_region_held (S:=fun w'=>Below w4.heap.size w4 w') (by kernel_rfl) ?_
 have hS:Below w4.heap.size w4 { w4 with drawn:=w4.drawn+1 }:=(Below.refl _ _).drew
 generalize ({ w4 with drawn:=w4.drawn+1 }:World)=v at hS ⊢
 refine tkZ 0 24 ?_ rfl ?_ hS ?_
 rotate_left
 ·intro w' hw'
  go_simp
  try with_reducible rfl
 (try dsimp only [Act.put]);(try simp only [zA,zB,zC])
 refine tkZ 1 25 ?_ rfl ?_ hS ?_
 rotate_left
 ·intro w' hw'
  have cf:=M.out w' hw'
  go_simp
  try with_reducible rfl
 (try dsimp only [Act.put]);(try simp only [zA,zB,zC])
 refine tkZ 4 28 ?_ rfl ?_ hS ?_
 rotate_left
 ·intro w' hw'
  go_simp
  try with_reducible rfl
 (try dsimp only [Act.put]);(try simp only [zA,zB,zC])
 refine tkZ 6 30 ?_ rfl ?_ hS ?_
 rotate_left
 ·intro w' hw'
  go_simp
  try with_reducible rfl
 (try dsimp only [Act.put]);(try simp only [zA,zB,zC])
 refine tkZ 7 31 ?_ rfl ?_ hS ?_
 rotate_left
 ·intro w' hw'
  have cf:=M.out w' hw'
  go_simp
  try with_reducible rfl
 (try dsimp only [Act.put]);(try simp only [zA,zB,zC])
 refine rdZ 2 rfl (fun K hK=>?_)
 go_simp
 have R1:Hid (IntRow (v.alloc (.cells #[I sh,I 1] 3)) ⟨some ⟨v.heap.size,0,none⟩,2⟩ [sh,1]):=hJJ (row_new v 3 [sh,1] 2 rfl (by decide) _ rfl)
 have hq:=hS.alloc hS.size (.cells #[I sh,I 1] 3)
 clear hS
 generalize v.heap.size=b1 at R1 ⊢
 generalize World.alloc v _=v at R1 hq ⊢
 refine hK.out _ _ hq (fun hS=>?_)
 clear hK K hq
 refine rdZ 3 rfl (fun K hK=>?_)
 go_simp
 refine (BdS.sum_row (some ⟨b1,0,none⟩) 2 [sh,1] 2 rfl _ R1.out).mono ?_
 rintro e w' ⟨rfl,rfl⟩
 go_simp
 refine hK.out _ _ hS (fun hS=>?_)
 clear hK K
 clear R1
 generalize sums [sh,1]=z1 at HR0 ⊢
 refine rdZ 5 rfl (fun K hK=>?_)
 go_simp
 refine (BdS.mul_any z1 on _).mono ?_
 rintro e w' ⟨rfl,rfl⟩
 go_simp
 refine hK.out _ _ hS (fun hS=>?_)
 clear hK K
 generalize mul z1 on=z2 at HR0 ⊢
 refine rdZ 8 rfl (fun K hK=>?_)
 go_simp
 have R2:Hid (IntRow (v.alloc (.cells #[I z2,I sh] 3)) ⟨some ⟨v.heap.size,0,none⟩,2⟩ [z2,sh]):=hJJ (row_new v 3 [z2,sh] 2 rfl (by decide) _ rfl)
 have hq:=hS.alloc hS.size (.cells #[I z2,I sh] 3)
 clear hS
 generalize v.heap.size=b2 at R2 ⊢
 generalize World.alloc v _=v at R2 hq ⊢
 refine hK.out _ _ hq (fun hS=>?_)
 clear hK K hq
 refine rdZ 9 rfl (fun K hK=>?_)
 go_simp
 refine (BdS.sum_row (some ⟨b2,0,none⟩) 2 [z2,sh] 2 rfl _ R2.out).mono ?_
 rintro e w' ⟨rfl,rfl⟩
 go_simp
 refine hK.out _ _ hS (fun hS=>?_)
 clear hK K
 clear R2
 rw [HR0.out]
 refine tkZ 10 4 ?_ rfl ?_ hS ?_
 rotate_left
 ·intro w' hw'
  go_simp
  try with_reducible rfl
 (try dsimp only [Act.put]);(try simp only [zA,zB,zC])
 refine wpAnyH_done (by kernel_rfl) ?_ _
 have HF:=hJJ (SB.out _ hS)
 clear hS
 go_wp2
 go_ret
 exact ⟨rfl,HF.out⟩
end BdW
namespace SetM
theorem has_of (m:Nat) (h:m < 256) (p:Int):has (m:Int) p=(decide (0≤p) && m.testBit p.toNat):=by unfold has;rw [low_nat m h]
theorem has_with (s p q:Int):has (withN s p:Nat) q=(has s q || (bit p != 0 && q == p)):=by
 rw [has_of _ (with_lt s p)]
 unfold withN
 by_cases h0:0≤q
 ·obtain ⟨k,rfl⟩:=Int.eq_ofNat_of_zero_le h0
  rw [decide_eq_true h0,Bool.true_and,Nat.testBit_or,Int.toNat_natCast,has_nat,test_bit]
  congr 1
  rw [Bool.eq_iff_iff,decide_eq_true_iff,Bool.and_eq_true,bne_iff_ne,beq_iff_eq]
  constructor
  ·rintro ⟨e,h8⟩
   rw [← e,bit_in k h8]
   exact ⟨Nat.ne_of_gt (Nat.two_pow_pos k),rfl⟩
  ·rintro ⟨h1,e⟩
   refine ⟨e,?_⟩
   by_cases h8:k < 8
   ·exact h8
   ·exact absurd (bit_out (p:=p) (by omega)) h1
 ·rw [decide_eq_false h0,Bool.false_and,has_neg s q (by omega),Bool.false_or]
  symm
  rw [Bool.and_eq_false_iff]
  by_cases e:q=p
  ·left;rw [bit_out (by omega)];rfl
  ·right;simpa using e
theorem has_without (s p q:Int):has (withoutN s p:Nat) q=(has s q && !(q == p)):=by
 have h1:has (withoutN s p:Nat) q=decide (q ∈ (list s).filter fun q=>q != p):=by
  rw [← of_without,has_of _ (of_lt _)]
  by_cases h0:0≤q
  ·obtain ⟨k,rfl⟩:=Int.eq_ofNat_of_zero_le h0
   rw [decide_eq_true h0,Bool.true_and,Int.toNat_natCast,of_test,Bool.eq_iff_iff,decide_eq_true_iff,decide_eq_true_iff]
   refine ⟨fun h=>h.1,fun h=>⟨h,?_⟩⟩
   have:=list_bd s k (List.mem_filter.1 h).1
   omega
  ·rw [decide_eq_false h0,Bool.false_and]
   symm
   rw [decide_eq_false_iff_not]
   intro h
   have:=list_bd s q (List.mem_filter.1 h).1
   omega
 rw [h1,Bool.eq_iff_iff,decide_eq_true_iff,List.mem_filter,mem_list,Bool.and_eq_true]
 rfl
theorem has_ext {m m':Nat} (h:m < 256) (h':m' < 256) (e:∀ q:Int,has (m:Int) q=has (m':Int) q):m=m':=by
 refine eq_of h h' fun k _=>?_
 have:=e (k:Int)
 rwa [has_nat,has_nat,low_nat m h,low_nat m' h'] at this
end SetM
namespace ChkM
open Go Tab PlaceM PlanM OnS May
def ons (T:Tab):List Int:=SetM.list (onS T:Nat)
def phAt (T:Tab) (p:Int):Ph:=T.phases.getD p.toNat default
def cfAt (T:Tab) (p:Int):Int:=T.conflict.getD p.toNat 0
def flAt (T:Tab) (p:Int):Int:=T.flash.getD p.toNat 0
def phBad (u:Ph):Bool:=decide (u.min < 1) || (decide (u.yellow < 10) || (decide (u.max < u.min) || (decide (u.top < u.max) || ((decide (u.step < 1) && decide (u.max < u.top)) || (((u.walk == 0) != (u.blinks == 0)) || (u.recall == 3 && u.walk == 0))))))
def phOk (u:Ph):Bool:=decide (1≤u.min) && (decide (10≤u.yellow) && (decide (u.min≤u.max) && (decide (u.max≤u.top) && ((decide (1≤u.step) || u.top == u.max) && ((decide (0 < u.walk) == decide (0 < u.blinks)) && (u.recall != 3 || decide (0 < u.walk)))))))
def allOn (T:Tab) (s:Int):Bool:=bits .andNot .i64 s (onS T:Nat) == 0
def inR (a b:Int):Bool:=bits .and .i64 (bits .andNot .i64 a b) 255 == 0
def clashC (T:Tab) (s:Int):Bool:=(SetM.list s).any fun p=>bits .and .i64 (cfAt T p) s != 0
def clashR (T:Tab) (a b:Int):Bool:=(SetM.list a).any fun p=>(SetM.list b).any fun q=>SetM.has (cfAt T p) q || SetM.has (cfAt T q) p
def abreast (T:Tab) (s:Int):Bool:=(SetM.list s).all fun p=>(SetM.list (SetM.withoutN s p:Nat)).all fun q=>beside T p q
def pairs (T:Tab) (l:List Int):Bool:=(List.range l.length).all fun i=>(List.range i).all fun k=>beside T (l.getD i 0) (l.getD k 0)
def yel (T:Tab) (p:Int):Bool:=flAt T p == 2
def yellows (T:Tab):Nat:=SetM.of ((ons T).filter (yel T))
def confBad (T:Tab) (p:Int):Bool:=SetM.has (cfAt T p) p || (ons T).any fun q=>(SetM.has (cfAt T p) q != SetM.has (cfAt T q) p) || (SetM.has (cfAt T p) q && beside T p q)
def confR (T:Tab) (p q:Int):Bool:=(SetM.has (cfAt T p) q && q == p) || ((SetM.has (cfAt T p) q != SetM.has (cfAt T q) p) || (SetM.has (cfAt T p) q && beside T p q))
def confOk (T:Tab) (p:Int):Bool:=!(ons T).any (confR T p)
def flashBad (T:Tab) (p:Int):Bool:=flAt T p == 0 || (flAt T p == 2 && bits .and .i64 (cfAt T p) (yellows T:Nat) != 0)
def flashR (T:Tab) (p q:Int):Bool:=flAt T p == 2 && (flAt T q == 2 && SetM.has (cfAt T p) q)
def flashOk (T:Tab) (p:Int):Bool:=flAt T p != 0 && !(ons T).any (flashR T p)
def gtF (a b:Nat):Bool:=decide (Go.Proofs.Fl.key b < Go.Proofs.Fl.key a)
def detBad (T:Tab) (d:Det):Bool:=gtF d.off d.on || !(phAt T d.phase).on
def detR (T:Tab) (d:Det):Bool:=gtF d.off d.on || !SetM.has (onS T:Nat) d.phase
def timesBad (r:Rl):Bool:=((r.hold == 0) != (r.clear == 0)) || (decide (r.green < 1) || (decide (r.stay < 1) || ((decide (0 < r.most) && decide (r.most < r.stay)) || decide (r.limit≤r.delay))))
def or4 (r:Rl):Int:=bits .or .i64 (bits .or .i64 (bits .or .i64 r.bars r.clear) r.dwell) r.exit
def railBad (T:Tab) (r:Rl):Bool:=!allOn T (or4 r) || (r.dwell == 0 || (r.exit == 0 || (bits .and .i64 r.dwell r.bars != 0 || (clashC T r.clear || (clashC T r.dwell || (clashC T r.exit || (!abreast T r.exit || timesBad r)))))))
def exitR (T:Tab) (s:Int):Bool:=pairs T (SetM.list s) && decide (0 < (SetM.list s).length)
def railOk (T:Tab) (r:Rl):Bool:=(inR (or4 r) (onS T:Nat) && (r.dwell != 0 && (bits .and .i64 r.dwell r.bars == 0 && exitR T r.exit))) && (!clashR T r.clear r.clear && (!clashR T r.dwell r.dwell && (!clashR T r.exit r.exit && ((decide (0 < r.hold) == (r.clear != 0)) && (decide (1≤r.green) && (decide (1≤r.stay) && ((r.most == 0 || decide (r.stay≤r.most)) && decide (r.delay < r.limit))))))))
def busBad (T:Tab) (b:Bs):Bool:=b.set == 0 || (!allOn T b.set || decide (b.lock < 1))
def busR (T:Tab) (b:Bs):Bool:=b.set == 0 || (!inR b.set (onS T:Nat) || decide (b.lock < 1))
def at0 (o:Option Spt):Nat × Nat × Nat:=match o with | some x=>(x.g,x.k,x.i) | none=>(0,0,0)
def repRow (T:Tab) (g k:Nat) (l:List Int):Bool:=(List.range l.length).any fun i=>at0 (where_ T (l.getD i 0)) != (g,k,i)
def repeats (T:Tab) (g:Nat):Bool:=repRow T g 0 (rowsAt T g).1 || repRow T g 1 (rowsAt T g).2
def groupBad (T:Tab) (g:Nat):Bool:=membS T g == 0 || (!allOn T (membS T g:Nat) || repeats T g)
def placed (T:Tab):Nat→Nat
 | 0=>0
 | g+1=>placed T g ||| membS T g
def ringsC (T:Tab):Option Int :=
 if T.groups.length=0 then some 0 else
 match (List.range T.groups.length).find? (groupBad T) with
 | some g=>some (g:Int)
 | none=>if bits .andNot .i64 (onS T:Nat) (placed T T.groups.length:Nat)=0 then none else some 0
def foldR (on:Int) (g:Nat):List Spt→Nat × Nat→Option (Nat × Nat)
 | [],s=>some s
 | x :: l,(n,s)=>if x.g=g then (if !SetM.has on x.p || SetM.has (s:Nat) x.p then none else foldR on g l (n+1,SetM.withN (s:Nat) x.p)) else foldR on g l (n,s)
def loopR (T:Tab):Nat→Nat→Nat→Option Int
 | 0,_,seen=>if seen=onS T then none else some 0
 | m+1,g,seen=>match foldR (onS T:Nat) g (spots T) (0,seen) with
  | none=>some (g:Int)
  | some (n,s)=>if n=0 then some (g:Int) else loopR T m (g+1) s
def ringsR (T:Tab):Option Int:=if T.groups.length=0 then some 0 else loopR T T.groups.length 0 0
def firstF:List (Int × Option Int)→Int × Int
 | []=>(0,0)
 | (c,some p) :: _=>(c,p)
 | (_,none) :: l=>firstF l
def idx {α:Type} (f:α→Bool) (l:List α):Option Int:=(l.findIdx? f).map Int.ofNat
def mayF (T:Tab):Option Int:=if tabMay T then none else some 0
def rulesC (T:Tab):List (Int × Option Int):=[(4,mayF T),(7,(ons T).find? fun p=>phBad (phAt T p)),(8,ringsC T),(9,(ons T).find? (confBad T)),(10,idx (detBad T) T.dets),(11,idx (railBad T) T.rails),(12,idx (busBad T) T.buses),(13,(ons T).find? (flashBad T))]
def rulesR (T:Tab):List (Int × Option Int):=[(4,mayF T),(7,(ons T).find? fun p=>!phOk (phAt T p)),(8,ringsR T),(9,(ons T).find? fun p=>!confOk T p),(10,idx (detR T) T.dets),(11,idx (fun r=>!railOk T r) T.rails),(12,idx (busR T) T.buses),(13,(ons T).find? fun p=>!flashOk T p)]
def chkC (T:Tab):Int × Int:=firstF (rulesC T)
def chkR (T:Tab):Int × Int:=firstF (rulesR T)
def fcells (x:Int × Int):Array Value:=#[I x.1,I x.2]
theorem first_hit {c p:Int}:∀ {l:List (Int × Option Int)} {q:Nat},l[q]?=some (c,some p)→(∀ j x,j < q→l[j]?=some x→x.2=none)→firstF l=(c,p)
 | [],q,h,_=>by simp at h
 | (d,o) :: l,0,h,_=>by
  obtain ⟨rfl,rfl⟩:d=c∧o=some p:=by simpa using h
  rfl
 | (d,o) :: l,q+1,h,hn=>by
  have h0:o=none:=hn 0 (d,o) (by omega) rfl
  subst h0
  exact first_hit (l:=l) (q:=q) (by simpa using h) (fun j x hj hx=>hn (j+1) x (by omega) (by simpa using hx))
theorem first_miss:∀ {l:List (Int × Option Int)},(∀ x ∈ l,x.2=none)→firstF l=(0,0)
 | [],_=>rfl
 | (d,o) :: l,h=>by
  have h0:o=none:=h (d,o) (List.mem_cons_self ..)
  subst h0
  exact first_miss (l:=l) (fun x hx=>h x (List.mem_cons_of_mem _ hx))
end ChkM
end Go.Proofs.YtjolhoilcibdfaaGreat
