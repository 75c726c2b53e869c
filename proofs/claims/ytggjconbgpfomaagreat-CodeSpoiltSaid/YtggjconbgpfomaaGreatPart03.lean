/- 15 texts in one file, in build order. -/
import Derived.Test.YtggjconbgpfomaaGreatRows
import Derived.Test.YtggjconbgpfomaaGreatPart02
import Derived.BigQuiet
import Derived.Orders
import Derived.Recover
import Derived.Laws.Tables
import Derived.Test.YtggjconbgpfomaaGreatPart01
import Derived.WalkKit
import Derived.ProofKit
import Derived.IntWalk
import Derived.Lib.Hide
import Derived.LoopTactic
import Derived.Below
import Ieee.Arith
import Derived.Laws.FloatBits
import Derived.Laws.FloatArith
import Derived.WalkLawsBesides
import Derived.Deep.QuietTactic
import Derived.Deep.WholeRow
import Derived.Laws.BitsAllLaws
import Derived.Lib.SlBytesConst
import Derived.OpenShut
import Derived.Deep.Cut
set_option linter.unusedVariables false
set_option linter.unusedSimpArgs false
set_option linter.unusedSectionVars false
set_option maxHeartbeats 8000000
set_option maxRecDepth 100000
namespace Go.Proofs.YtggjconbgpfomaaGreat
namespace Po
open Go Go.RowKit
open Tab
open Cd (puts phB detB rlB bsB rowB grB listB)
open Put (low lim)
section
variable {w0 V0:World} {wb tb:Nat} {c:Array Value} {l:List Nat} {k:Nat} {W W':World}
def stepsT (T:Tab):Nat:=8*13+((1+T.groups.length*18)+(8+((1+T.dets.length*7)+((1+T.rails.length*11)+((1+T.buses.length*2)+(5+(8+2)))))))
structure Light (T:Tab):Prop where
 g:T.groups.length≤1000
 d:T.dets.length≤1000
 r:T.rails.length≤1000
 b:T.buses.length≤1000
 row:∀ y ∈ T.groups,y.1.length≤8∧y.2.length≤8
theorem take_at {xs ys:List Value} {n o:Nat} (h:(xs.drop o).take n=ys) (hl:ys.length=n) {j:Nat} (hj:j < n):xs[o+j]?=ys[j]?:=by
 rw [← h,List.getElem?_take,if_pos hj,List.getElem?_drop]
theorem wpass {T:Tab} {hd:Hd} (ht:IsTab w0 hd T) (lt:Light T) (h:Wp w0 V0 wb tb (T.cells hd).toArray l (k+stepsT T) W) (htb:w0.heap.size≤tb) :
  Calls Tryz.prog 26 #[wif wb,.pointer (some ⟨tb,0,none⟩)] W fun e W'=>e=.returned (.tuple #[])∧Wp w0 V0 wb tb (T.cells hd).toArray (l++Cd.itemsB T) k W':=by
 have C:=cells_ok ht
 have hsz:=C.size
 generalize hcc:(T.cells hd).toArray=c at C h hsz ⊢
 obtain ⟨gs,hgd,hgl⟩:=ht.groups
 have hgn:gs.length=T.groups.length:=by rw [← hgd,List.length_map]
 have PHC:Hid (∀ q:Nat,q < 8→∀ l k V,Wp w0 V0 wb tb c l (k+13) V→Calls Tryz.prog 64 #[wif wb,.pointer (some ⟨tb,q*13,none⟩)] V fun e V'=>e=.returned (.tuple #[])∧Wp w0 V0 wb tb c (l++phB (T.phases.getD q default)) k V'):=Lib.hid (fun q hq l k V hV=>by
  have hp:=C.phase q _ (List.getElem?_eq_getElem (by rw [ht.ph];exact hq))
  rw [Nat.mul_comm] at hp
  rw [show T.phases.getD q default=T.phases[q]'(by rw [ht.ph];exact hq) by simp [List.getD,List.getElem?_eq_getElem (show q < T.phases.length by rw [ht.ph];exact hq)]]
  refine wphase hV _ (wrt_same (by show q*13+13≤_;omega) (fun j hj=>?_)) (by show q*13+13≤_;omega)
  rw [← Array.getElem?_toList]
  exact take_at hp rfl hj)
 have CELL:∀ (oc:Nat) (s:Sl) (n:Nat),c[oc]?=some (s.val n)→Hid (∀ l k V,Wp w0 V0 wb tb c l k V→V.cell? ⟨tb,oc,none⟩=some (.slice s.a n s.cap)):=fun oc s n hs=>Lib.hid (fun l k V hV=>by rw [cell_of_row _ _ _ _ _ _ hV.box];exact hs)
 have GRC:Hid (∀ l k V,Wp w0 V0 wb tb c l (k+(1+T.groups.length*18)) V→Calls Tryz.prog 65 #[wif wb,.int .i64 4,.pointer (some ⟨tb,104,none⟩),.func (.func 66) #[] #[]] V fun e V'=>e=.returned (.tuple #[])∧Wp w0 V0 wb tb c (l++listB grB T.groups) k V'):=Lib.hid (fun l k V hV=>by
  have:=wgroups 4 hgn hV htb hgl (fun g hg=>lt.row g.data (by rw [← hgd];exact List.mem_map_of_mem hg)) lt.g (CELL 104 hd.g T.groups.length C.g)
  rwa [hgd] at this)
 have DTC:Hid (∀ l k V,Wp w0 V0 wb tb c l (k+(1+T.dets.length*7)) V→Calls Tryz.prog 68 #[wif wb,.int .i64 16,.pointer (some ⟨tb,113,none⟩),.func (.func 69) #[] #[]] V fun e V'=>e=.returned (.tuple #[])∧Wp w0 V0 wb tb c (l++listB detB T.dets) k V'):=Lib.hid (fun l k V hV=>wdets 16 rfl hV htb ht.dets lt.d (CELL 113 hd.d T.dets.length C.d))
 have RLC:Hid (∀ l k V,Wp w0 V0 wb tb c l (k+(1+T.rails.length*11)) V→Calls Tryz.prog 70 #[wif wb,.int .i64 4,.pointer (some ⟨tb,114,none⟩),.func (.func 71) #[] #[]] V fun e V'=>e=.returned (.tuple #[])∧Wp w0 V0 wb tb c (l++listB rlB T.rails) k V'):=Lib.hid (fun l k V hV=>wrails 4 rfl hV htb ht.rails lt.r (CELL 114 hd.r T.rails.length C.r))
 have BSC:Hid (∀ l k V,Wp w0 V0 wb tb c l (k+(1+T.buses.length*2)) V→Calls Tryz.prog 72 #[wif wb,.int .i64 4,.pointer (some ⟨tb,115,none⟩),.func (.func 73) #[] #[]] V fun e V'=>e=.returned (.tuple #[])∧Wp w0 V0 wb tb c (l++listB bsB T.buses) k V'):=Lib.hid (fun l k V hV=>wbuses 4 rfl hV htb ht.buses lt.b (CELL 115 hd.b T.buses.length C.b))
 have SEC:Hid (∀ q:Nat,q < 8→∀ l k V,Wp w0 V0 wb tb c l (k+1) V→Calls Tryz.prog 67 #[wif wb,.slice (some ⟨V.heap.size,0,none⟩) 1 1] (V.alloc (.cells #[.pointer (some ⟨tb,105+q,none⟩)] 117)) fun e V'=>e=.returned (.tuple #[])∧Wp w0 V0 wb tb c (l++puts 1 [T.conflict.getD q 0]) k V'):=Lib.hid (fun q hq l k V hV=>by
  have hx:c[105+q]?=some (I (T.conflict.getD q 0)):=by
   rw [← Array.getElem?_toList,take_at C.conflict (by rw [List.length_map,ht.cf]) hq,List.getElem?_map,List.getElem?_eq_getElem (by rw [ht.cf];exact hq)]
   simp [List.getD,List.getElem?_eq_getElem (show q < T.conflict.length by rw [ht.cf];exact hq)]
  exact wsets (hV.mem ((Below.refl _ _).alloc (Nat.le_refl _) _)) [(105+q,T.conflict.getD q 0)] rfl (by omega) (by simpa using hx) (heap_alloc_new V _) (Nat.le_refl _))
 have FLC:Hid (∀ q:Nat,q < 8→∀ l k V,Wp w0 V0 wb tb c l (k+1) V→Calls Tryz.prog 165 #[wrv wb,.int .i64 1,.int .i64 2,.pointer (some ⟨tb,121+q,none⟩)] V fun e V'=>e=.returned (.tuple #[])∧Wp w0 V0 wb tb c (l++puts 1 [T.flash.getD q 0]) k V'):=Lib.hid (fun q hq l k V hV=>by
  have hx:c[121+q]?=some (I (T.flash.getD q 0)):=by
   rw [← Array.getElem?_toList,take_at C.flash (by rw [List.length_map,ht.fl]) hq,List.getElem?_map,List.getElem?_eq_getElem (by rw [ht.fl];exact hq)]
   simp [List.getD,List.getElem?_eq_getElem (show q < T.flash.length by rw [ht.fl];exact hq)]
  have:=wnum hV 1 2 hx
  refine this.mono fun e W' he=>⟨he.1,?_⟩
  rw [show puts 1 [T.flash.getD q 0]=low (lim 1 8) (T.flash.getD q 0) by simp [puts,show lim 1 8=1 from rfl]]
  exact he.2)
 have TMC:Hid (∀ l k V,Wp w0 V0 wb tb c l (k+5) V→Calls Tryz.prog 74 #[wif wb,.slice (some ⟨V.heap.size,0,none⟩) 5 5] (V.alloc (.cells #[.pointer (some ⟨tb,116,none⟩),.pointer (some ⟨tb,117,none⟩),.pointer (some ⟨tb,118,none⟩),.pointer (some ⟨tb,119,none⟩),.pointer (some ⟨tb,120,none⟩)] 117)) fun e V'=>e=.returned (.tuple #[])∧Wp w0 V0 wb tb c (l++puts 2 [T.extend,T.budget,T.start,T.revert,T.least]) k V'):=Lib.hid (fun l k V hV =>
  wtimes (hV.mem ((Below.refl _ _).alloc (Nat.le_refl _) _)) [(116,T.extend),(117,T.budget),(118,T.start),(119,T.revert),(120,T.least)] rfl (by omega) (by simp [C.extend,C.budget,C.start,C.revert,C.least]) (heap_alloc_new V _) (Nat.le_refl _))
 have TKC:Hid (∀ l k V,Wp w0 V0 wb tb c l (k+2) V→Calls Tryz.prog 75 #[wif wb,.slice (some ⟨V.heap.size,0,none⟩) 2 2] (V.alloc (.cells #[.pointer (some ⟨tb,129,none⟩),.pointer (some ⟨tb,130,none⟩)] 117)) fun e V'=>e=.returned (.tuple #[])∧Wp w0 V0 wb tb c (l++puts 4 [T.window,T.share]) k V'):=Lib.hid (fun l k V hV =>
  wticks (hV.mem ((Below.refl _ _).alloc (Nat.le_refl _) _)) [(129,T.window),(130,T.share)] rfl (by omega) (by simp [C.window,C.share]) (heap_alloc_new V _) (Nat.le_refl _))
 have hm:=(wport (B:=0) (wb:=wb)).mn
 have na:=(wport (B:=0) (wb:=wb)).nn
 have en:=(wport (B:=0) (wb:=wb)).en
 have hmf:∀ (nm:String) (w:World),(Instr.makeFunc (.method nm) #[wif wb] #[]).run Tryz.prog w=.ok (.func (.method nm) #[wif wb] #[]) w:=fun _ _=>rfl
 have PL8:Hid (T.phases.length=8):=Lib.hid ht.ph
 have CL8:Hid (T.conflict.length=8):=Lib.hid ht.cf
 have FL8:Hid (T.flash.length=8):=Lib.hid ht.fl
 have RES:Hid (Cd.itemsB T=T.phases.flatMap phB++(listB grB T.groups++(puts 1 T.conflict++(listB detB T.dets++(listB rlB T.rails++(listB bsB T.buses++(puts 2 [T.extend,T.budget,T.start,T.revert,T.least]++(puts 1 T.flash++puts 4 [T.window,T.share])))))))):=Lib.hid rfl
 unfold stepsT at h
 generalize Cd.itemsB T=res at RES ⊢
 generalize 1+T.groups.length*18=nG at GRC h
 generalize 1+T.dets.length*7=nD at DTC h
 generalize 1+T.rails.length*11=nR at RLC h
 generalize 1+T.buses.length*2=nS at BSC h
 have H:=Lib.hid h
 clear h C hsz hgl hgd hgn lt ht CELL
 go_enter Tryz.func26,Tryz.ntmps26
 go_wp2_with fail
 go_loopw [7] (fun i wr=>∃ q:Nat,q≤8∧i=.int .i64 (q:Int)∧Wp w0 V0 wb tb c (l++(List.range q).flatMap (fun q=>phB (T.phases.getD q default))) (k+((8 - q)*13+(nG+(8+(nD+(nR+(nS+(5+(8+2)))))))) ) wr) (fun i _=>8 - (intOf i).toNat)
 case atStart=>exact ⟨0,by omega,rfl,by have:=H.out;simpa using this⟩
 case round =>
  obtain ⟨q,hq,rfl,hw⟩:=hrel
  have HW:=Lib.hid hw
  clear hw H
  by_cases hlt:q < 8
  ·have hcall:=Lib.hid (PHC.out q hlt _ (k+((8 - (q+1))*13+(nG+(8+(nD+(nR+(nS+(5+(8+2))))))))) wr (by
    have:=HW.out
    rw [show 8 - q=8 - (q+1)+1 by omega] at this
    refine this.less (by omega)))
   go_wp2_with fail
   refine hcall.out.mono ?_
   rintro e W' ⟨rfl,h3⟩
   have H3:=Lib.hid h3
   clear h3
   go_wp2
   go_roundw
   case rel=>exact ⟨q+1,by omega,by go_num,by have:=H3.out;rw [List.range_succ,List.flatMap_append,List.flatMap_singleton];simpa only [List.append_assoc] using this⟩
   case measure=>simp [intOf];omega
  ·obtain rfl:q=8:=by omega
   have H1:Hid (Wp w0 V0 wb tb c (l++T.phases.flatMap phB) (k+(8+(nD+(nR+(nS+(5+(8+2))))))+nG) wr):=Lib.hid (by
    have:=HW.out
    rw [show (List.range 8).flatMap (fun q=>phB (T.phases.getD q default))=T.phases.flatMap phB from by rw [← PL8.out];exact range_flat phB default T.phases] at this
    exact this.less (by omega))
   clear HW PHC
   have hcall:=Lib.hid (GRC.out _ _ wr H1.out)
   go_wp2_with fail
   refine hcall.out.mono ?_
   rintro e W1 ⟨rfl,h3⟩
   obtain ⟨L2,hL2⟩:∃ x,x=l++T.phases.flatMap phB++listB grB T.groups:=⟨_,rfl⟩
   rw [← hL2] at h3
   have H2:=Lib.hid h3
   have EL2:=Lib.hid hL2
   clear h3 hcall H1 GRC hL2
   go_wp2_with fail
   go_loopw [23] (fun i wr=>∃ q:Nat,q≤8∧i=.int .i64 (q:Int)∧Wp w0 V0 wb tb c (L2++(List.range q).flatMap (fun q=>puts 1 [T.conflict.getD q 0])) (k+((8 - q)*1+(nD+(nR+(nS+(5+(8+2))))))) wr) (fun i _=>8 - (intOf i).toNat)
   case atStart=>exact ⟨0,by omega,rfl,by have:=H2.out.less (k':=k+(8+(nD+(nR+(nS+(5+(8+2))))))) (by omega);simpa using this⟩
   case round =>
    obtain ⟨q,hq,rfl,hw⟩:=hrel
    have HW:=Lib.hid hw
    clear hw H2
    by_cases hlt:q < 8
    ·have hcall:=Lib.hid (SEC.out q hlt _ (k+((8 - (q+1))*1+(nD+(nR+(nS+(5+(8+2))))))) wr (by
      have:=HW.out
      rw [show 8 - q=8 - (q+1)+1 by omega] at this
      refine this.less (by omega)))
     go_wp2_with fail
     refine hcall.out.mono ?_
     rintro e W' ⟨rfl,h3⟩
     have H3:=Lib.hid h3
     clear h3
     go_wp2
     go_roundw
     case rel=>exact ⟨q+1,by omega,by go_num,by have:=H3.out;rw [List.range_succ,List.flatMap_append,List.flatMap_singleton];simpa only [List.append_assoc] using this⟩
     case measure=>simp [intOf];omega
    ·obtain rfl:q=8:=by omega
     obtain ⟨L3,hL3⟩:∃ x,x=L2++puts 1 T.conflict:=⟨_,rfl⟩
     have H3:Hid (Wp w0 V0 wb tb c L3 (k+(nR+(nS+(5+(8+2))))+nD) wr):=Lib.hid (by
      have:=HW.out
      rw [show (List.range 8).flatMap (fun q=>puts 1 [T.conflict.getD q 0])=puts 1 T.conflict from by rw [← CL8.out,range_flat (fun x:Int=>puts 1 [x]) 0 T.conflict];simp [puts]] at this
      rw [hL3]
      exact this.less (by omega))
     have EL3:=Lib.hid hL3
     clear HW SEC hL3
     have hcall:=Lib.hid (DTC.out _ _ wr H3.out)
     go_wp2_with fail
     refine hcall.out.mono ?_
     rintro e W1 ⟨rfl,h3⟩
     obtain ⟨L4,hL4⟩:∃ x,x=L3++listB detB T.dets:=⟨_,rfl⟩
     rw [← hL4] at h3
     have EL4:=Lib.hid hL4
     have hcall2:=Lib.hid (RLC.out _ (k+(nS+(5+(8+2)))) W1 (h3.less (by omega)))
     clear h3 hcall H3 DTC hL4
     go_wp2_with fail
     refine hcall2.out.mono ?_
     rintro e W2 ⟨rfl,h3⟩
     obtain ⟨L5,hL5⟩:∃ x,x=L4++listB rlB T.rails:=⟨_,rfl⟩
     rw [← hL5] at h3
     have EL5:=Lib.hid hL5
     have hcall3:=Lib.hid (BSC.out _ (k+(5+(8+2))) W2 (h3.less (by omega)))
     clear h3 hcall2 RLC hL5
     go_wp2_with fail
     refine hcall3.out.mono ?_
     rintro e W3 ⟨rfl,h3⟩
     obtain ⟨L6,hL6⟩:∃ x,x=L5++listB bsB T.buses:=⟨_,rfl⟩
     rw [← hL6] at h3
     have EL6:=Lib.hid hL6
     have H6:=Lib.hid h3
     clear h3 hcall3 BSC hL6
     go_upto_region 14 with fail
     refine QT.region1 W3.heap.size 16 (by kernel_rfl) (by kernel_rfl) (by kernel_rfl) (by kernel_rfl) (v:=wif wb) (fun _ _ _ h=>h) (Or.inl ⟨by rfl,fun w'=>by go_simp;try rfl⟩) ?_
     dsimp only [Act.put]
     simp only [List.setIfInBounds_toArray,List.set_cons_zero,List.set_cons_succ,List.take_succ_cons,List.take_zero,List.drop_succ_cons,List.drop_zero]
     repeat (quiet_step (fail))
     refine wpQuiet_nil ?_
     intro _ hw'
     obtain ⟨p,rfl⟩:=hw'
     have HV:=Lib.hid (H6.out.mem p.below)
     clear H6
     generalize p.world=V at HV ⊢
     (try simp only [List.drop_succ_cons,List.drop_zero])
     have hcall:=Lib.hid (TMC.out _ (k+(8+2)) V (HV.out.less (by omega)))
     clear HV
     go_wp2_with fail
     refine hcall.out.mono ?_
     rintro e W4 ⟨rfl,h3⟩
     obtain ⟨L7,hL7⟩:∃ x,x=L6++puts 2 [T.extend,T.budget,T.start,T.revert,T.least]:=⟨_,rfl⟩
     rw [← hL7] at h3
     have EL7:=Lib.hid hL7
     have H7:=Lib.hid h3
     clear h3 hcall TMC hL7
     go_wp2_with fail
     go_loopw [68] (fun i wr=>∃ q:Nat,q≤8∧i=.int .i64 (q:Int)∧Wp w0 V0 wb tb c (L7++(List.range q).flatMap (fun q=>puts 1 [T.flash.getD q 0])) (k+((8 - q)*1+2)) wr) (fun i _=>8 - (intOf i).toNat)
     case atStart=>exact ⟨0,by omega,rfl,by have:=H7.out.less (k':=k+(8+2)) (by omega);simpa using this⟩
     case round =>
      obtain ⟨q,hq,rfl,hw⟩:=hrel
      have HW:=Lib.hid hw
      clear hw H7
      by_cases hlt:q < 8
      ·go_upto_region 18 with fail
       refine QB.region_tail 9 (by kernel_rfl) (by kernel_rfl) ?_
       have hcall:=Lib.hid (FLC.out q hlt _ (k+((8 - (q+1))*1+2)) wr.drew (by
        have:=HW.out.mem ((Below.refl _ _).drew:Below wr.heap.size wr wr.drew)
        rw [show 8 - q=8 - (q+1)+1 by omega] at this
        refine this.less (by omega)))
       generalize wr.drew=V at hcall ⊢
       simp only [List.take_succ_cons,List.take_zero,List.drop_succ_cons,List.drop_zero]
       repeat still_step
       refine wpStill_nil ?_
       go_wp2_with fail
       refine hcall.out.mono ?_
       rintro e W' ⟨rfl,h3⟩
       have H3:=Lib.hid h3
       clear h3
       go_wp2
       go_roundw
       case rel=>exact ⟨q+1,by omega,by go_num,by have:=H3.out;rw [List.range_succ,List.flatMap_append,List.flatMap_singleton];simpa only [List.append_assoc] using this⟩
       case measure=>simp [intOf];omega
      ·obtain rfl:q=8:=by omega
       obtain ⟨L8,hL8⟩:∃ x,x=L7++puts 1 T.flash:=⟨_,rfl⟩
       have H8:Hid (Wp w0 V0 wb tb c L8 (k+2) wr):=Lib.hid (by
        have:=HW.out
        rw [show (List.range 8).flatMap (fun q=>puts 1 [T.flash.getD q 0])=puts 1 T.flash from by rw [← FL8.out,range_flat (fun x:Int=>puts 1 [x]) 0 T.flash];simp [puts]] at this
        rw [hL8]
        exact this.less (by omega))
       have EL8:=Lib.hid hL8
       clear HW FLC hL8
       go_upto_region 20 with fail
       refine QT.region1 wr.heap.size 7 (by kernel_rfl) (by kernel_rfl) (by kernel_rfl) (by kernel_rfl) (v:=wif wb) (fun _ _ _ h=>h) (Or.inl ⟨by rfl,fun w'=>by go_simp;try rfl⟩) ?_
       dsimp only [Act.put]
       simp only [List.setIfInBounds_toArray,List.set_cons_zero,List.set_cons_succ,List.take_succ_cons,List.take_zero,List.drop_succ_cons,List.drop_zero]
       repeat (quiet_step (fail))
       refine wpQuiet_nil ?_
       intro _ hw'
       obtain ⟨p,rfl⟩:=hw'
       have HV:=Lib.hid (H8.out.mem p.below)
       clear H8
       generalize p.world=V at HV ⊢
       (try simp only [List.drop_succ_cons,List.drop_zero])
       have hcall:=Lib.hid (TKC.out _ k V HV.out)
       clear HV
       go_wp2_with fail
       refine hcall.out.mono ?_
       rintro e W9 ⟨rfl,h3⟩
       have H9:=Lib.hid h3
       clear h3 hcall TKC
       go_wp2
       go_end0
       refine ⟨rfl,?_⟩
       have:=H9.out
       rw [EL8.out,EL7.out,EL6.out,EL5.out,EL4.out,EL3.out,EL2.out] at this
       rw [RES.out]
       simpa only [List.append_assoc] using this
end
end Po
namespace Po
open Go Go.RowKit Go.ChangeShapes
open Tab
open Put (low lim)
theorem assert1 (v:Value) (w:World):(Instr.typeAssert (.iface 40 v) 20 40 false).run Tryz.prog w=.ok v w:=by
 simp [Instr.typeAssert,run_underlying Tryz.underlying40,go_sem,Result.andThen]
theorem infoF:(Tryz.prog.info? 40).map (·.size)=some 2:=by kernel_rfl
theorem caught_nil (w:World):Calls Tryz.prog 22 #[.nilIface] w fun e w'=>e=.returned (.agg #[I 0,I 0])∧Below w.heap.size w w':=by
 have hb:=(Below.refl w.heap.size w).alloc (Nat.le_refl _) (.cells #[I 0,I 0] 40)
 have hg:=heap_alloc_new w (.cells #[I 0,I 0] 40)
 have HB:=Lib.hid hb
 have HG:=Lib.hid hg
 clear hb hg
 go_enter Tryz.func22,Tryz.ntmps22
 go_upto_region 1 with fail
 generalize World.alloc w _=v at HB HG ⊢
 go_wp2_with (refine wpList_store_row rfl 40 _ _ rfl w.heap.size #[I 0,I 0] rfl rfl 40 _ HG.out infoF rfl (by simp [Value.oneCell']) ?_)
 have h2:=setRow_heap _ _ _ #[I 0,I 0] _ _ HG.out
 have h3:=below_setRow HB.out (Nat.le_refl _) #[I 0,I 0]
 generalize World.setRow v _ _=v2 at h2 h3 ⊢
 have H2:=Lib.hid h2
 have H3:=Lib.hid h3
 clear h2 h3
 go_wp2_with fail
 (try simp only [Exit.inBlock,Exit.then])
 refine bodyPost_ret (v:=.agg #[I 0,I 0]) ?_ rfl ⟨rfl,H3.out⟩
 exact results_cell_row rfl _ _ w.heap.size 40 _ (0,0) _ rfl H2.out Tryz.underlying40 rfl infoF
theorem caught_fault (x y:Int) (w:World):Calls Tryz.prog 22 #[fault (x,y)] w fun e w'=>e=.returned (.agg #[I x,I y])∧Below w.heap.size w w':=by
 have hb:=(Below.refl w.heap.size w).alloc (Nat.le_refl _) (.cells #[I 0,I 0] 40)
 have hg:=heap_alloc_new w (.cells #[I 0,I 0] 40)
 have HB:=Lib.hid hb
 have HG:=Lib.hid hg
 have ha:=assert1
 clear hb hg
 go_enter Tryz.func22,Tryz.ntmps22
 go_upto_region 1 with fail
 generalize World.alloc w _=v at HB HG ⊢
 go_wp2_with (refine wpList_store_row rfl 40 _ _ rfl w.heap.size #[I x,I y] rfl rfl 40 _ HG.out infoF rfl (by simp [Value.oneCell']) ?_)
 have h2:=setRow_heap _ _ _ #[I x,I y] _ _ HG.out
 have h3:=below_setRow HB.out (Nat.le_refl _) #[I x,I y]
 generalize World.setRow v _ _=v2 at h2 h3 ⊢
 have H2:=Lib.hid h2
 have H3:=Lib.hid h3
 clear h2 h3
 go_wp2_with fail
 (try simp only [Exit.inBlock,Exit.then])
 refine bodyPost_ret (v:=.agg #[I x,I y]) ?_ rfl ⟨rfl,H3.out⟩
 exact results_cell_row rfl _ _ w.heap.size 40 _ (0,0) _ rfl H2.out Tryz.underlying40 rfl infoF
theorem fail_any (x y:Int) (w:World):Calls Tryz.prog 24 #[I x,I y] w fun e w'=>e=.panicked [{ v:=fault (x,y),recovered:=false }]∧w=w':=by
 have hpan:∀ (u:TypeId) (v:Value) (w:World),(Instr.panic (.iface u v)).run Tryz.prog w=.halt (.panic (.iface u v)) w:=fun _ _ _=>rfl
 go_enter Tryz.func24,Tryz.ntmps24
 go_wp2
 exact ⟨rfl,rfl,rfl⟩
theorem field0 (x y:Int) (w:World):(Instr.field 40 (.agg #[I x,I y]) 0).run Tryz.prog w=.ok (I x) w:=by
 first | rfl | simp [Instr.field,run_underlying Tryz.underlying40,go_sem,Result.andThen]
theorem enc_idle (b:Nat) (z:Int) (w:World) (hc:w.heap[b]?=some (.cells #[I z] 35 (0,0))) :
  CallsD Tryz.prog 21 #[.pointer (some ⟨b,0,none⟩)] .returning w fun e u' w'=>e=.returned (.tuple #[])∧u'=.returning∧∃ w1,Below w.heap.size w w1∧w'=w1.setRow b #[I 0]:=by
 refine callsD_of_wpS Tryz.func21 rfl fun c₀ cs hu=>?_
 apply wpS_region
 simp [wpOpsS,go_sem,recoverD,hu]
 refine (caught_nil _).mono ?_
 rintro e w' ⟨rfl,hb⟩
 have hc1:=(hb.block b (Array.getElem?_eq_some_iff.1 hc).1).trans hc
 have c1:w'.cell? ⟨b,0,none⟩=some (I z):=by rw [cell_of_row _ _ _ _ _ _ hc1];rfl
 have f1:w'.frozen? ⟨b,0,none⟩=false:=frozen_of_row _ _ _ _ _ hc1
 have hs:=setCell_eq_setRow w' b 0 #[I z] 35 (0,0) (I 0) hc1
 have hf:=field0 0 0
 simp [wpOpsS,go_sem,hf,c1,f1,bodyPostS,results,Tryz.results21]
 cases c₀
 simp_all
 exact ⟨w',hb,rfl⟩
end Po
namespace May
open Go.ChangeShapes Go.WideShapes Go.ChangeAt Go.RowKit
open Tab
theorem ret_bool {a b:Bool} (h:a=b):Ending.returned (.bool a)=.returned (.bool b):=by rw [h]
def inB (m:Int) (n:Int):Bool:=decide (0≤n) && decide (n≤m)
def allIn (m:Int) (l:List Int):Bool:=l.all (inB m)
theorem take_succ' {α:Type} (l:List α) (k:Nat) (v:α) (h:l[k]?=some v):l.take (k+1)=l.take k++[v]:=by
 rw [List.take_add_one,h];rfl
theorem all_step {α:Type} {f:α→Bool} {l:List α} {k:Nat} {v:α} (h:l[k]?=some v) (hk:(l.take k).all f=true) (hv:f v=true):(l.take (k+1)).all f=true:=by
 rw [take_succ' l k v h,List.all_append,hk];simp [hv]
theorem all_break {α:Type} {f:α→Bool} {l:List α} {k:Nat} {v:α} (h:l[k]?=some v) (hv:f v=false):l.all f=false:=by
 rw [List.all_eq_false];exact ⟨v,List.mem_of_getElem? h,by simp [hv]⟩
theorem all_end {α:Type} {f:α→Bool} {l:List α} {k:Nat} (hk:(l.take k).all f=true) (h:¬ k < l.length):l.all f=true:=by
 rwa [List.take_of_length_le (by omega)] at hk
theorem within_any (m:Int) (a:Option Addr) (cap:Nat) (l:List Int) (w:World) (h:IntRow w ⟨a,cap⟩ l) :
  Calls Tryz.prog 56 #[.int .i64 m,.slice a l.length cap] w fun e w'=>e=.returned (.bool (allIn m l))∧w=w':=by
 have h1:=h.len
 unfold maxLen at h1
 have Hr:=Lib.hid h
 clear h
 go_enter Tryz.func56,Tryz.ntmps56
 go_wp2
 go_loop [9] (fun i=>∃ k:Nat,k≤l.length∧i=.int .i64 k∧(l.take k).all (inB m)=true) (fun i=>l.length - (intOf i).toNat)
 case atStart=>exact ⟨0,Nat.zero_le _,rfl,rfl⟩
 case round =>
  obtain ⟨k,hk,rfl,hall⟩:=hrel
  have Hall:=Lib.hid hall
  clear hall
  by_cases hlt:k < l.length
  ·have hv:=List.getElem?_eq_getElem hlt
   generalize l[k]=v at hv
   obtain ⟨x,hx,hcell⟩:=Hr.out.at hv
   obtain rfl:a=some x:=hx
   have HV:=Lib.hid hv
   clear hv
   by_cases h0:v < 0
   ·go_wp2
    go_ret
    exact ⟨ret_bool (all_break HV.out (by unfold inB;rw [decide_eq_false (by omega)];rfl)).symm,rfl⟩
   ·by_cases hm:m < v
    ·go_wp2
     go_ret
     exact ⟨ret_bool (all_break HV.out (by unfold inB;rw [decide_eq_false (p:=v≤m) (by omega),Bool.and_false])).symm,rfl⟩
    ·go_wp2
     go_round
     case rel=>exact ⟨k+1,by omega,by go_num,all_step HV.out Hall.out (by unfold inB;rw [decide_eq_true (by omega),decide_eq_true (by omega)];rfl)⟩
     case measure=>simp [intOf];omega
  ·go_wp2
   go_ret
   exact ⟨ret_bool (all_end Hall.out hlt).symm,rfl⟩
end May
end Go.Proofs.YtggjconbgpfomaaGreat
namespace Go.Proofs.Fl
open Ieee
abbrev D:Format:=Ieee.double
theorem lp_eq:D.leastPlace = -1074:=by decide
theorem binade_eq:D.binade=4503599627370496:=by decide
theorem inf_eq:D.infRung=9218868437227405312:=by decide
theorem sw_eq:D.signWeight=9223372036854775808:=by decide
theorem fb_eq:D.fractionBits=52:=rfl
def rhe (v d:Nat):Nat:=v / 2 ^ d+(decide (2 ^ d < 2*(v % 2 ^ d)) || (2 ^ d == 2*(v % 2 ^ d) && v / 2 ^ d % 2 == 1)).toNat
theorem bt_le (b:Bool):b.toNat≤1:=by cases b <;> decide
theorem rhe_lo (v d:Nat):v / 2 ^ d≤rhe v d:=Nat.le_add_right _ _
theorem rhe_hi (v d:Nat):rhe v d≤v / 2 ^ d+1:=Nat.add_le_add_left (bt_le _) _
theorem rhe_zero (v:Nat):rhe v 0=v:=by
 unfold rhe;simp [Nat.mod_one]
theorem rhe_exact (v d:Nat) (h:v % 2 ^ d=0):rhe v d=v / 2 ^ d:=by
 have hp:0 < 2 ^ d:=Nat.two_pow_pos d
 unfold rhe;rw [h]
 simp
theorem rhe_mono (v v' d:Nat) (h:v≤v'):rhe v d≤rhe v' d:=by
 have hp:0 < 2 ^ d:=Nat.two_pow_pos d
 have hq:v / 2 ^ d≤v' / 2 ^ d:=Nat.div_le_div_right h
 by_cases e:v / 2 ^ d=v' / 2 ^ d
 ·have h1:=Nat.div_add_mod v (2 ^ d)
  have h2:=Nat.div_add_mod v' (2 ^ d)
  have hr:v % 2 ^ d≤v' % 2 ^ d:=by rw [e] at h1;omega
  unfold rhe
  rw [e]
  refine Nat.add_le_add_left ?_ _
  generalize v % 2 ^ d=r at *
  generalize v' % 2 ^ d=r' at *
  generalize 2 ^ d=g at *
  by_cases c1:g < 2*r'
  ·rw [decide_eq_true c1];simp;exact bt_le _
  ·have c2:¬ g < 2*r:=by omega
   rw [decide_eq_false c1,decide_eq_false c2]
   by_cases c3:g=2*r
   ·have c4:g=2*r':=by omega
    have:r=r':=by omega
    subst this;exact Nat.le_refl _
   ·have c4:(g == 2*r)=false:=beq_eq_false_iff_ne.2 c3
    rw [c4];simp
 ·exact Nat.le_trans (rhe_hi v d) (Nat.le_trans (by omega) (rhe_lo v' d))
theorem rhe_scale (v d k:Nat):rhe (v*2 ^ k) (d+k)=rhe v d:=by
 have hk:0 < 2 ^ k:=Nat.two_pow_pos k
 unfold rhe
 rw [Nat.pow_add,Nat.mul_div_mul_right _ _ hk,Nat.mul_mod_mul_right]
 have e1:decide (2 ^ d*2 ^ k < 2*(v % 2 ^ d*2 ^ k))=decide (2 ^ d < 2*(v % 2 ^ d)):=by
  rw [← Nat.mul_assoc];exact decide_eq_decide.2 (Nat.mul_lt_mul_right hk)
 have e2:(2 ^ d*2 ^ k == 2*(v % 2 ^ d*2 ^ k))=(2 ^ d == 2*(v % 2 ^ d)):=by
  rw [← Nat.mul_assoc,Bool.eq_iff_iff,beq_iff_eq,beq_iff_eq]
  exact ⟨fun h=>Nat.eq_of_mul_eq_mul_right hk h,fun h=>congrArg (·*2 ^ k) h⟩
 rw [e1,e2]
theorem cut_even (neg:Bool) (n drop:Nat):Toward.even.cut neg n drop=rhe n drop:=by
 have key:∀ g,g=drop∨(g≤drop∧n.log2+2≤g)→rhe n g=rhe n drop:=by
  intro g hg
  rcases hg with rfl | ⟨h1,h2⟩
  ·rfl
  ·have small:∀ e,n.log2+2≤e→rhe n e=0:=by
    intro e he
    have hn:n < 2 ^ (n.log2+1):=Nat.lt_log2_self
    have hpe:2 ^ (n.log2+2)≤2 ^ e:=Nat.pow_le_pow_right (by decide) he
    have hs:2 ^ (n.log2+2)=2 ^ (n.log2+1)*2:=Nat.pow_succ ..
    unfold rhe
    rw [Nat.div_eq_of_lt (by omega),Nat.mod_eq_of_lt (by omega)]
    have c1:¬ 2 ^ e < 2*n:=by omega
    have c2:¬ 2 ^ e=2*n:=by omega
    simp [c1]
   rw [small g h2,small drop (by omega)]
 have h:=key (min drop (n.log2+2)) (by omega)
 rw [← h]
 unfold Toward.cut rhe
 simp only [Nat.one_shiftLeft]
theorem cut_zero (neg:Bool) (n drop:Nat):Toward.zero.cut neg n drop=n / 2 ^ drop:=by
 unfold Toward.cut
 simp only [Nat.one_shiftLeft,Bool.toNat_false,Nat.add_zero]
 by_cases h:drop≤n.log2+2
 ·rw [Nat.min_eq_left h]
 ·rw [Nat.min_eq_right (by omega)]
  have hn:n < 2 ^ (n.log2+1):=Nat.lt_log2_self
  have p1:2 ^ (n.log2+1)≤2 ^ (n.log2+2):=Nat.pow_le_pow_right (by decide) (by omega)
  have p2:2 ^ (n.log2+2)≤2 ^ drop:=Nat.pow_le_pow_right (by decide) (by omega)
  rw [Nat.div_eq_of_lt (by omega),Nat.div_eq_of_lt (by omega)]
def rungV (E v:Nat):Nat:=(max (v.log2 - 52) E - E)*4503599627370496+rhe v (max (v.log2 - 52) E)
theorem log2_mul_pow (m P:Nat) (h:m ≠ 0):(m*2 ^ P).log2=m.log2+P:=by
 have hp:m*2 ^ P ≠ 0:=Nat.mul_ne_zero h (by have:=Nat.two_pow_pos P;omega)
 rw [Nat.log2_eq_iff hp]
 have h1:=Nat.log2_self_le h
 have h2:m < 2 ^ (m.log2+1):=Nat.lt_log2_self
 have hP:=Nat.two_pow_pos P
 rw [Nat.add_right_comm,Nat.pow_add,Nat.pow_add 2 (m.log2+1)]
 exact ⟨Nat.mul_le_mul_right _ h1,(Nat.mul_lt_mul_right hP).2 h2⟩
theorem nearest_eq (neg:Bool) (m:Nat) (p:Int) (P E:Nat) (h:p+1074+E=P):D.nearest neg m p=D.word neg (min (rungV E (m*2 ^ P)) D.infRung):=by
 unfold Format.nearest
 by_cases hm:m=0
 ·subst hm
  rw [if_pos rfl,Nat.zero_mul]
  have:rungV E 0=0:=by
   unfold rungV rhe
   have e:max (Nat.log2 0 - 52) E=E:=by rw [Nat.log2_zero];omega
   rw [e,Nat.zero_div,Nat.zero_mod]
   simp
  rw [this];rfl
 rw [if_neg hm]
 dsimp only
 rw [lp_eq,binade_eq,fb_eq]
 refine congrArg (fun t=>D.word neg (min t D.infRung)) ?_
 have hl:(m*2 ^ P).log2=m.log2+P:=log2_mul_pow m P hm
 have hlast:max (p+(m.log2:Int) - ((52:Nat):Int)) (-1074)=((max ((m*2 ^ P).log2 - 52) E:Nat):Int) - 1074 - E:=by
  rw [hl];omega
 rw [hlast,cut_even]
 unfold rungV
 generalize max ((m*2 ^ P).log2 - 52) E=L at *
 have a1:((L:Int) - 1074 - (E:Int) - -1074).toNat=L - E:=by omega
 rw [a1]
 congr 1
 rw [Nat.shiftLeft_eq]
 by_cases hPL:L≤P
 ·have a2:(p - ((L:Int) - 1074 - E)).toNat=P - L:=by omega
  have a3:((L:Int) - 1074 - E - p).toNat=0:=by omega
  rw [a2,a3,rhe_zero]
  have hx:m*2 ^ P=m*2 ^ (P - L)*2 ^ L:=by rw [Nat.mul_assoc,← Nat.pow_add];congr 2;omega
  rw [hx]
  have:=rhe_scale (m*2 ^ (P - L)) 0 L
  rw [Nat.zero_add] at this
  rw [this,rhe_zero]
 ·have a2:(p - ((L:Int) - 1074 - E)).toNat=0:=by omega
  have a3:((L:Int) - 1074 - E - p).toNat=L - P:=by omega
  rw [a2,a3,Nat.pow_zero,Nat.mul_one]
  have:=rhe_scale m (L - P) P
  rw [show L - P+P=L by omega] at this
  exact this.symm
theorem log2_mono {a b:Nat} (h:a≤b):a.log2≤b.log2:=by
 by_cases ha:a=0
 ·subst ha;rw [Nat.log2_zero];exact Nat.zero_le _
 ·exact (Nat.le_log2 (by omega)).2 (Nat.le_trans (Nat.log2_self_le ha) h)
theorem rungV_mono (E:Nat) {v v':Nat} (h:v≤v'):rungV E v≤rungV E v':=by
 have hl:=log2_mono h
 unfold rungV
 by_cases e:max (v.log2 - 52) E=max (v'.log2 - 52) E
 ·rw [e];exact Nat.add_le_add_left (rhe_mono _ _ _ h) _
 ·
  have hlt:max (v.log2 - 52) E < max (v'.log2 - 52) E:=by omega
  have e':max (v'.log2 - 52) E=v'.log2 - 52:=by omega
  have h52:52 < v'.log2:=by omega
  rw [e']
  have hv0:v' ≠ 0:=by intro h0;subst h0;rw [Nat.log2_zero] at h52;omega
  have k':4503599627370496≤rhe v' (v'.log2 - 52):=by
   refine Nat.le_trans ?_ (rhe_lo _ _)
   rw [Nat.le_div_iff_mul_le (Nat.two_pow_pos _)]
   have:=Nat.log2_self_le hv0
   rw [show (4503599627370496:Nat)=2 ^ 52 by decide,← Nat.pow_add,show 52+(v'.log2 - 52)=v'.log2 by omega]
   exact this
  have k:rhe v (max (v.log2 - 52) E)≤9007199254740992:=by
   have hv:v < 2 ^ (v.log2+1):=Nat.lt_log2_self
   have:v / 2 ^ max (v.log2 - 52) E < 9007199254740992:=by
    rw [Nat.div_lt_iff_lt_mul (Nat.two_pow_pos _)]
    refine Nat.lt_of_lt_of_le hv ?_
    rw [show (9007199254740992:Nat)=2 ^ 53 by decide,← Nat.pow_add]
    exact Nat.pow_le_pow_right (by decide) (by omega)
   have:=rhe_hi v (max (v.log2 - 52) E)
   omega
  have g1:E≤max (v.log2 - 52) E:=by omega
  have g2:max (v.log2 - 52) E < v'.log2 - 52:=by omega
  clear hlt e' e
  generalize max (v.log2 - 52) E=L at *
  generalize v'.log2 - 52=L' at *
  have hm:(L - E+1)*4503599627370496≤(L' - E)*4503599627370496:=Nat.mul_le_mul_right _ (by omega)
  rw [Nat.add_mul] at hm
  omega
def val (r:Nat):Nat:=if r < 4503599627370496 then r else (4503599627370496+r % 4503599627370496)*2 ^ (r / 4503599627370496 - 1)
theorem val_lt {r r':Nat} (h:r < r'):val r < val r':=by
 unfold val
 by_cases h1:r < 4503599627370496
 ·rw [if_pos h1]
  by_cases h2:r' < 4503599627370496
  ·rw [if_pos h2];exact h
  ·rw [if_neg h2]
   have:=Nat.two_pow_pos (r' / 4503599627370496 - 1)
   have:(4503599627370496+r' % 4503599627370496)*1≤(4503599627370496+r' % 4503599627370496)*2 ^ (r' / 4503599627370496 - 1):=Nat.mul_le_mul_left _ this
   omega
 ·have h2:¬ r' < 4503599627370496:=by omega
  rw [if_neg h1,if_neg h2]
  have hq:r / 4503599627370496≤r' / 4503599627370496:=Nat.div_le_div_right (by omega)
  by_cases e:r / 4503599627370496=r' / 4503599627370496
  ·rw [e];exact (Nat.mul_lt_mul_right (Nat.two_pow_pos _)).2 (by omega)
  ·have hm:r % 4503599627370496 < 4503599627370496:=Nat.mod_lt _ (by decide)
   have hm':r' % 4503599627370496 < 4503599627370496:=Nat.mod_lt _ (by decide)
   have p1:2 ^ (r / 4503599627370496)≤2 ^ (r' / 4503599627370496 - 1):=Nat.pow_le_pow_right (by decide) (by omega)
   have p0:2 ^ (r / 4503599627370496)=2 ^ (r / 4503599627370496 - 1)*2:=by
    rw [← Nat.pow_succ];congr 1;omega
   have hpos:=Nat.two_pow_pos (r / 4503599627370496 - 1)
   have s1:(4503599627370496+r % 4503599627370496)*2 ^ (r / 4503599627370496 - 1) < 9007199254740992*2 ^ (r / 4503599627370496 - 1):=(Nat.mul_lt_mul_right hpos).2 (by omega)
   have s2:4503599627370496*2 ^ (r' / 4503599627370496 - 1)≤(4503599627370496+r' % 4503599627370496)*2 ^ (r' / 4503599627370496 - 1):=Nat.mul_le_mul_right _ (by omega)
   omega
theorem val_le {r r':Nat} (h:r≤r'):val r≤val r':=by
 rcases Nat.eq_or_lt_of_le h with rfl | h
 ·exact Nat.le_refl _
 ·exact Nat.le_of_lt (val_lt h)
theorem val_rungV (v:Nat) (h:v % 2 ^ (v.log2 - 52)=0):val (rungV 0 v)=v:=by
 unfold rungV
 rw [show max (v.log2 - 52) 0=v.log2 - 52 by omega,Nat.sub_zero,rhe_exact _ _ h]
 have hdm:=Nat.div_add_mod v (2 ^ (v.log2 - 52))
 rw [h,Nat.add_zero] at hdm
 by_cases h52:v.log2≤52
 ·rw [show v.log2 - 52=0 by omega] at hdm ⊢
  simp only [Nat.pow_zero,Nat.div_one,Nat.zero_mul,Nat.zero_add]
  have hv:v < 2 ^ (v.log2+1):=Nat.lt_log2_self
  have:2 ^ (v.log2+1)≤2 ^ 53:=Nat.pow_le_pow_right (by decide) (by omega)
  have e53:(2:Nat) ^ 53=9007199254740992:=by decide
  unfold val
  split
  ·rfl
  ·rw [show v / 4503599627370496=1 by omega];simp;omega
 ·have hv0:v ≠ 0:=by intro h0;subst h0;rw [Nat.log2_zero] at h52;omega
  have hlo:=Nat.log2_self_le hv0
  have hhi:v < 2 ^ (v.log2+1):=Nat.lt_log2_self
  have c1:4503599627370496≤v / 2 ^ (v.log2 - 52):=by
   rw [Nat.le_div_iff_mul_le (Nat.two_pow_pos _),show (4503599627370496:Nat)=2 ^ 52 by decide,← Nat.pow_add,show 52+(v.log2 - 52)=v.log2 by omega]
   exact hlo
  have c2:v / 2 ^ (v.log2 - 52) < 9007199254740992:=by
   rw [Nat.div_lt_iff_lt_mul (Nat.two_pow_pos _),show (9007199254740992:Nat)=2 ^ 53 by decide,← Nat.pow_add,show 53+(v.log2 - 52)=v.log2+1 by omega]
   exact hhi
  generalize hL:v.log2 - 52=L at *
  generalize hc:v / 2 ^ L=c at *
  unfold val
  rw [if_neg (by have:1*4503599627370496≤L*4503599627370496:=Nat.mul_le_mul_right _ (by omega);omega)]
  have e1:(L*4503599627370496+c) / 4503599627370496=L+1:=by omega
  have e2:(L*4503599627370496+c) % 4503599627370496=c - 4503599627370496:=by omega
  rw [e1,e2,show 4503599627370496+(c - 4503599627370496)=c by omega,show L+1 - 1=L by omega,Nat.mul_comm]
  exact hdm
theorem thin (c e:Nat) (h:c < 9007199254740992):(c*2 ^ e) % 2 ^ ((c*2 ^ e).log2 - 52)=0:=by
 by_cases hc:c=0
 ·subst hc;simp
 ·rw [log2_mul_pow c e hc]
  have hl:c.log2 < 53:=(Nat.log2_lt hc).2 (by rw [show (2:Nat) ^ 53=9007199254740992 by decide];exact h)
  have hd:2 ^ (c.log2+e - 52) ∣ 2 ^ e:=Nat.pow_dvd_pow 2 (by omega)
  exact Nat.mod_eq_zero_of_dvd (Nat.dvd_trans hd (Nat.dvd_mul_left _ _))
def rung (x:Nat):Nat:=x % 9223372036854775808
def sg (x:Nat):Bool:=x / 9223372036854775808 % 2 == 1
def isn (x:Nat):Bool:=decide (9218868437227405312 < rung x)
def key (x:Nat):Int:=if sg x then -(rung x:Int) else rung x
def sval (x:Nat):Int:=if sg x then -(val (rung x):Int) else val (rung x)
def fin (x:Nat):Prop:=rung x < 9218868437227405312
theorem read_nan (x:Nat) (h:isn x=true):D.read x=.nan (sg x) (rung x - 9218868437227405312):=by
 have h':9218868437227405312 < rung x:=of_decide_eq_true h
 unfold Format.read
 dsimp only
 rw [sw_eq,binade_eq,inf_eq]
 show (if rung x < _ then _ else _)=_
 rw [if_neg (by omega)]
 show (if rung x < _ then _ else _)=_
 rw [if_neg (by omega)]
 show (if rung x=_ then _ else _)=_
 rw [if_neg (by omega)]
 rfl
theorem read_inf (x:Nat) (h:rung x=9218868437227405312):D.read x=.infinity (sg x):=by
 unfold Format.read
 dsimp only
 rw [sw_eq,binade_eq,inf_eq]
 show (if rung x < _ then _ else _)=_
 rw [if_neg (by omega)]
 show (if rung x < _ then _ else _)=_
 rw [if_neg (by omega)]
 show (if rung x=_ then _ else _)=_
 rw [if_pos h]
 rfl
theorem read_fin (x:Nat) (h:fin x):∃ (m:Nat) (i:Int) (P:Nat),D.read x=.number (sg x) m i∧i+1074=P∧m*2 ^ P=val (rung x)∧m < 9007199254740992:=by
 unfold fin at h
 unfold Format.read
 dsimp only
 rw [sw_eq,binade_eq,inf_eq,lp_eq]
 by_cases h1:rung x < 4503599627370496
 ·refine ⟨rung x,-1074,0,?_,by omega,?_,by omega⟩
  ·show (if rung x < _ then _ else _)=_
   rw [if_pos h1];rfl
  ·unfold val;rw [if_pos h1];simp
 ·refine ⟨4503599627370496+rung x % 4503599627370496,-1074+((rung x / 4503599627370496 - 1:Nat):Int),rung x / 4503599627370496 - 1,?_,by omega,?_,by omega⟩
  ·show (if rung x < _ then _ else _)=_
   rw [if_neg h1]
   show (if rung x < _ then _ else _)=_
   rw [if_pos h];rfl
  ·unfold val;rw [if_neg h1]
theorem signed_scale (s:Bool) (m a k:Nat):signed s m a*(2 ^ k:Nat)=signed s m (a+k):=by
 have e:((m <<< a:Nat):Int)*(2 ^ k:Nat)=((m <<< (a+k):Nat):Int):=by
  rw [Nat.shiftLeft_eq,Nat.shiftLeft_eq,Nat.pow_add,← Nat.mul_assoc];simp
 unfold signed
 split
 ·rw [Int.neg_mul,e]
 ·exact e
theorem signed_sval (x:Nat) {m P:Nat} (h:m*2 ^ P=val (rung x)):signed (sg x) m P=sval x:=by
 unfold signed sval
 rw [Nat.shiftLeft_eq,h]
theorem cmp_congr {a b c d:Int} (h1:a < b ↔ c < d) (h2:b < a ↔ d < c):compare a b=compare c d:=by
 rw [Int.compare_eq_ite_lt,Int.compare_eq_ite_lt]
 simp only [h1,h2]
theorem cmp_lt {a b:Int} (h:a < b):compare a b=.lt:=by rw [Int.compare_eq_ite_lt,if_pos h]
theorem cmp_gt {a b:Int} (h:b < a):compare a b=.gt:=by rw [Int.compare_eq_ite_lt,if_neg (by omega),if_pos h]
theorem cmp_scale (a b:Int) (k:Nat) (hk:0 < k):compare (a*k) (b*k)=compare a b:=by
 have hk':(0:Int) < k:=by omega
 exact cmp_congr ⟨fun h=>Int.lt_of_mul_lt_mul_right h (by omega),fun h=>Int.mul_lt_mul_of_pos_right h hk'⟩ ⟨fun h=>Int.lt_of_mul_lt_mul_right h (by omega),fun h=>Int.mul_lt_mul_of_pos_right h hk'⟩
theorem sval_cmp (x y:Nat):compare (sval x) (sval y)=compare (key x) (key y):=by
 have h0:val 0=0:=by decide
 have pos:∀ r,0 < r→0 < val r:=fun r h=>by have:=val_lt h;omega
 have lt:∀ r r',r < r'→val r < val r':=fun r r' h=>val_lt h
 have hiff:∀ r r',val r < val r' ↔ r < r':=fun r r'=>⟨fun h=>Nat.lt_of_not_le fun hh=>by have:=val_le hh;omega,fun h=>val_lt h⟩
 have hz:∀ r,val r=0 ↔ r=0:=fun r=>⟨fun h=>by by_cases hr:r=0;exact hr;have:=pos r (by omega);omega,fun h=>by subst h;exact h0⟩
 have a1:=hiff (rung x) (rung y)
 have a2:=hiff (rung y) (rung x)
 have a3:=hz (rung x)
 have a4:=hz (rung y)
 apply cmp_congr
 ·unfold sval key;split <;> split <;> omega
 ·unfold sval key;split <;> split <;> omega
theorem order_nan (x y:Nat) (h:isn x=true∨isn y=true):D.order x y=none:=by
 unfold Format.order
 rcases h with h | h
 ·rw [read_nan x h];rfl
 ·rw [read_nan y h]
  cases D.read x <;> rfl
theorem order_key (x y:Nat) (hx:isn x=false) (hy:isn y=false):D.order x y=some (compare (key x) (key y)):=by
 have hx':=of_decide_eq_false hx
 have hy':=of_decide_eq_false hy
 unfold Format.order
 by_cases fx:fin x
 ·obtain ⟨m,i,P,rx,hP,vx,-⟩:=read_fin x fx
  by_cases fy:fin y
  ·obtain ⟨n,j,Q,ry,hQ,vy,-⟩:=read_fin y fy
   rw [rx,ry]
   unfold Datum.order
   dsimp only
   congr 1
   rw [← sval_cmp,← signed_sval x vx,← signed_sval y vy]
   obtain ⟨B,hB⟩:∃ B:Nat,min i j+1074=B:=⟨(min i j+1074).toNat,by omega⟩
   rw [← cmp_scale _ _ (2 ^ B) (Nat.two_pow_pos B),signed_scale,signed_scale]
   rw [show (i - min i j).toNat+B=P by omega,show (j - min i j).toNat+B=Q by omega]
  ·have hy2:rung y=9218868437227405312:=by unfold fin at fy;omega
   rw [rx,read_inf y hy2]
   unfold fin at fx
   unfold Datum.order
   dsimp only
   congr 1
   unfold key
   rw [hy2]
   cases sg y
   ·rw [cmp_lt (by cases sg x <;> simp <;> omega)];rfl
   ·rw [cmp_gt (by cases sg x <;> simp <;> omega)];rfl
 ·have hx2:rung x=9218868437227405312:=by unfold fin at fx;omega
  by_cases fy:fin y
  ·obtain ⟨n,j,Q,ry,hQ,vy,-⟩:=read_fin y fy
   rw [ry,read_inf x hx2]
   unfold fin at fy
   unfold Datum.order
   dsimp only
   congr 1
   unfold key
   rw [hx2]
   cases sg x
   ·rw [cmp_gt (by cases sg y <;> simp <;> omega)];rfl
   ·rw [cmp_lt (by cases sg y <;> simp <;> omega)];rfl
  ·have hy2:rung y=9218868437227405312:=by unfold fin at fy;omega
   rw [read_inf x hx2,read_inf y hy2]
   unfold Datum.order key
   dsimp only
   congr 1
   rw [hx2,hy2]
   cases sg x <;> cases sg y <;> decide
theorem o_eq {x y:Nat} (hx:isn x=false) (hy:isn y=false):(D.order x y == some .eq)=decide (key x=key y):=by
 rw [order_key x y hx hy,Int.compare_eq_ite_lt,Bool.eq_iff_iff]
 by_cases h:key x < key y
 ·simp [h];omega
 ·by_cases h':key y < key x
  ·simp [h,h'];omega
  ·simp [h,h'];omega
def T:Nat:=1074
theorem T_eq:T=1074:=rfl
theorem word_rung (s:Bool) (r:Nat) (h:r < 9223372036854775808):rung (D.word s r)=r:=by
 unfold rung Format.word
 rw [sw_eq]
 split <;> omega
theorem word_sg (s:Bool) (r:Nat) (h:r < 9223372036854775808):sg (D.word s r)=s:=by
 unfold sg Format.word
 rw [sw_eq]
 cases s
 ·simp;omega
 ·simp;omega
theorem toInt_zero (x:Nat) (hx:fin x) (hs:sg x=false):(D.read x).toInt .zero=some ((val (rung x) / 2 ^ T:Nat):Int):=by
 obtain ⟨m,i,P,rx,hP,vx,-⟩:=read_fin x hx
 rw [rx,hs,← vx]
 unfold Datum.toInt Datum.integral
 dsimp only
 rw [cut_zero]
 unfold signed
 simp only [Bool.false_eq_true,if_false,Nat.shiftLeft_zero]
 congr 2
 rw [Nat.shiftLeft_eq]
 by_cases h0:0≤i
 ·rw [show (-i).toNat=0 by omega,Nat.pow_zero,Nat.div_one,show P=i.toNat+T by rw [T_eq];omega,Nat.pow_add,← Nat.mul_assoc,Nat.mul_div_cancel _ (Nat.two_pow_pos T)]
 ·rw [show i.toNat=0 by omega,Nat.pow_zero,Nat.mul_one,show T=P+(-i).toNat by rw [T_eq];omega,Nat.pow_add,Nat.mul_comm (2 ^ P),Nat.mul_div_mul_right _ _ (Nat.two_pow_pos P)]
theorem integral_even (x:Nat) (hx:fin x):(D.read x).integral .even=.number (sg x) (rhe (val (rung x)) T) 0:=by
 obtain ⟨m,i,P,rx,hP,vx,-⟩:=read_fin x hx
 rw [rx,← vx]
 unfold Datum.integral
 dsimp only
 rw [cut_even,Nat.shiftLeft_eq]
 refine congrArg (fun t=>Datum.number (sg x) t 0) ?_
 by_cases h0:0≤i
 ·rw [show (-i).toNat=0 by omega,rhe_zero,show P=i.toNat+T by rw [T_eq];omega,Nat.pow_add,← Nat.mul_assoc]
  have:=rhe_scale (m*2 ^ i.toNat) 0 T
  rw [Nat.zero_add] at this
  rw [this,rhe_zero]
 ·rw [show i.toNat=0 by omega,Nat.pow_zero,Nat.mul_one,show T=(-i).toNat+P by rw [T_eq];omega,rhe_scale]
theorem lt_val_inf (v:Nat) (h:v < 2 ^ (53+T)):v < val 9218868437227405312:=by
 unfold val
 rw [if_neg (by omega)]
 generalize he:9218868437227405312 / 4503599627370496 - 1=e
 have h52:(4503599627370496+9218868437227405312 % 4503599627370496)=2 ^ 52:=by decide
 rw [h52,← Nat.pow_add]
 exact Nat.lt_of_lt_of_le h (Nat.pow_le_pow_right (by decide) (by rw [T_eq];omega))
def irung (n:Nat):Nat:=rungV 0 (n*2 ^ T)
theorem val_irung (n:Nat) (h:n < 9007199254740992):val (irung n)=n*2 ^ T:=val_rungV _ (thin n T h)
theorem irung_lt (n:Nat) (h:n < 9007199254740992):irung n < 9218868437227405312:=by
 have hv:=val_irung n h
 have:n*2 ^ T < val 9218868437227405312:=by
  apply lt_val_inf
  rw [Nat.pow_add]
  exact (Nat.mul_lt_mul_right (Nat.two_pow_pos T)).2 (by rw [show (2:Nat) ^ 53=9007199254740992 by decide];exact h)
 rw [← hv] at this
 exact Nat.lt_of_not_le fun hh=>by have:=val_le hh;omega
theorem write_int (s:Bool) (n:Nat) (h:n < 9007199254740992):D.write (.number s n 0)=D.word s (irung n):=by
 unfold Format.write
 dsimp only
 rw [nearest_eq s n 0 T 0 (by rw [T_eq];omega),inf_eq]
 have:=irung_lt n h
 rw [Nat.min_eq_left (by unfold irung at this;omega)]
 rfl
theorem irung_toInt (s:Bool) (n:Nat) (h:n < 9007199254740992) (hs:s=false):(D.read (D.word s (irung n))).toInt .zero=some (n:Int):=by
 have h1:=irung_lt n h
 have h2:=word_rung s (irung n) (by omega)
 rw [toInt_zero _ (by unfold fin;omega) (by rw [word_sg _ _ (by omega),hs]),h2,val_irung n h,Nat.mul_div_cancel _ (Nat.two_pow_pos T)]
end Go.Proofs.Fl
namespace Go.Proofs.YtggjconbgpfomaaGreat
end Go.Proofs.YtggjconbgpfomaaGreat
namespace Go.Proofs.Fl
open Ieee
abbrev ten:Nat:=4621819117588971520
def ok (s:Nat):Bool:=!isn s && decide (0≤key s) && decide (key s≤4652006429231887155)
theorem ok_iff (s:Nat):ok s=true ↔ isn s=false∧0≤key s∧key s≤4652006429231887155:=by
 unfold ok;simp [and_assoc]
theorem ok_fin {s:Nat} (h:ok s=true):fin s:=by
 obtain ⟨h1,h2,h3⟩:=(ok_iff s).1 h
 have:=of_decide_eq_false h1
 unfold fin;unfold key at h2 h3
 split at h2 <;> simp_all <;> omega
theorem ok_rung {s:Nat} (h:ok s=true):rung s≤4652006429231887155∧(sg s=true→rung s=0):=by
 obtain ⟨h1,h2,h3⟩:=(ok_iff s).1 h
 unfold key at h2 h3
 cases hs:sg s <;> simp [hs] at h2 h3 ⊢ <;> omega
def tr (s:Nat):Nat:=rungV 49 (5629499534213120*val (rung s))
theorem mul_ten (s:Nat) (h:fin s):D.mul ten s=some (D.word (sg s) (min (tr s) D.infRung)):=by
 obtain ⟨m,i,P,rx,hP,vx,-⟩:=read_fin s h
 unfold Format.mul
 rw [show D.read ten=.number false 5629499534213120 (-49) by decide,rx]
 unfold Datum.product
 dsimp only [Option.map_some]
 unfold Format.write
 dsimp only
 rw [nearest_eq _ _ _ P 49 (by omega),Nat.mul_assoc,vx,Bool.false_xor]
 rfl
theorem ten_mul (s:Nat) (h:fin s):D.mul s ten=some (D.word (sg s) (min (tr s) D.infRung)):=by
 rw [← mul_ten s h]
 obtain ⟨m,i,P,rx,hP,vx,-⟩:=read_fin s h
 unfold Format.mul
 rw [show D.read ten=.number false 5629499534213120 (-49) by decide,rx]
 unfold Datum.product
 dsimp only
 rw [Nat.mul_comm,Int.add_comm,Bool.xor_comm]
theorem tr_top:tr 4652006429231887155=4666722622711529472:=by decide +kernel
theorem tr_mono {s t:Nat} (h:rung s≤rung t):tr s≤tr t:=rungV_mono 49 (Nat.mul_le_mul_left _ (val_le h))
theorem tr_hi {s:Nat} (h:ok s=true):tr s≤4666722622711529472:=by
 rw [← tr_top]
 exact tr_mono (ok_rung h).1
def xw (s:Nat):Nat:=D.word (sg s) (tr s)
theorem mul_ok {s:Nat} (h:ok s=true):D.mul ten s=some (xw s)∧D.mul s ten=some (xw s):=by
 have e:min (tr s) D.infRung=tr s:=Nat.min_eq_left (by have:=tr_hi h;rw [inf_eq];omega)
 rw [mul_ten s (ok_fin h),ten_mul s (ok_fin h),e]
 exact ⟨rfl,rfl⟩
theorem xw_rung {s:Nat} (h:ok s=true):rung (xw s)=tr s:=word_rung _ _ (by have:=tr_hi h;omega)
theorem xw_sg {s:Nat} (h:ok s=true):sg (xw s)=sg s:=word_sg _ _ (by have:=tr_hi h;omega)
theorem xw_fin {s:Nat} (h:ok s=true):fin (xw s):=by unfold fin;rw [xw_rung h];have:=tr_hi h;omega
def tk (s:Nat):Nat:=rhe (val (tr s)) T
theorem val_9999:val 4666722622711529472=9999*2 ^ T:=by
 have:irung 9999=4666722622711529472:=by
  unfold irung;rw [T_eq];decide +kernel
 rw [← this,val_irung 9999 (by omega)]
theorem tk_hi {s:Nat} (h:ok s=true):tk s≤9999:=by
 have h1:tk s≤rhe (9999*2 ^ T) T:=rhe_mono _ _ _ (by rw [← val_9999];exact val_le (tr_hi h))
 have h2:rhe (9999*2 ^ T) T=9999:=by
  have:=rhe_scale 9999 0 T
  rw [Nat.zero_add,rhe_zero] at this
  exact this
 omega
def rw' (s:Nat):Nat:=D.word (sg s) (irung (tk s))
theorem round_ok {s:Nat} (h:ok s=true):D.write ((D.read (xw s)).integral .even)=rw' s:=by
 have hh:=tk_hi h
 rw [integral_even _ (xw_fin h),xw_rung h,xw_sg h]
 rw [write_int _ _ (by unfold tk at hh;omega)]
 rfl
theorem tr_zero {s:Nat} (h:rung s=0):tr s=0:=by unfold tr;rw [h];decide
theorem tk_zero {s:Nat} (h:rung s=0):tk s=0:=by
 unfold tk;rw [tr_zero h]
 have:=rhe_scale 0 0 T
 rw [Nat.zero_add,rhe_zero,Nat.zero_mul] at this
 exact this
theorem int_ok {s:Nat} (h:ok s=true):floatToIntVal .f64 (rw' s) .i64=some (tk s:Int):=by
 have hh:=tk_hi h
 have e:(D.read (rw' s)).toInt .zero=some (tk s:Int):=by
  by_cases hs:sg s=true
  ·have h0:=tk_zero ((ok_rung h).2 hs)
   unfold rw';rw [hs,h0]
   have:irung 0=0:=by unfold irung;rw [Nat.zero_mul];decide
   rw [this];decide
  ·exact irung_toInt _ _ (by omega) (by simpa using hs)
 unfold floatToIntVal
 have e':(FloatKind.decode .f64 (rw' s)).toInt .zero=some (tk s:Int):=e
 rw [e']
 simp only
 rw [if_pos]
 rw [show IntKind.min .i64 = -9223372036854775808 by decide,show IntKind.max .i64=9223372036854775807 by decide]
 omega
theorem float_of (n:Nat) (h:n < 9007199254740992):floatOfInt .f64 (n:Int)=irung n:=by
 show D.write (.number (decide ((n:Int) < 0)) (n:Int).natAbs 0)=_
 rw [show (n:Int).natAbs=n by omega,write_int _ n h,decide_eq_false (by omega)]
 rfl
def ofB (n:Nat):Nat:=(D.div (floatOfInt .f64 (n:Int)) ten).getD 0
end Go.Proofs.Fl
namespace Go.Proofs.YtggjconbgpfomaaGreat
namespace Secs
open Go.ChangeShapes Go.WideShapes Go.ChangeAt Go.RowKit Go.Proofs.Fl
def cap (n:Int):Int:=if n < 0 then 0 else if 2147483647 < n then 2147483647 else n
theorem cap_neg {n:Int} (h:n < 0):cap n=0:=by unfold cap;rw [if_pos h]
theorem cap_big {n:Int} (h:2147483647 < n):cap n=2147483647:=by unfold cap;rw [if_neg (by omega),if_pos h]
theorem cap_in {n:Int} (h:0≤n) (h':n≤2147483647):cap n=n:=by unfold cap;rw [if_neg (by omega),if_neg (by omega)]
theorem ret_int {k:IntKind} {a b:Int} (h:a=b):Ending.returned (.int k a)=.returned (.int k b):=by rw [h]
theorem ret_bool {a b:Bool} (h:a=b):Ending.returned (.bool a)=.returned (.bool b):=by rw [h]
theorem ret_float {k:FloatKind} {a b:Nat} (h:a=b):Ending.returned (.float k a)=.returned (.float k b):=by rw [h]
theorem limit_any (n:Int) (w:World):Calls Tryz.prog 146 #[.int .i64 n] w fun e w'=>e=.returned (.int .i64 (cap n))∧w=w':=by
 by_cases h1:n < 0
 ·go_enter Tryz.func146,Tryz.ntmps146
  go_wp2
  go_ret
  exact ⟨ret_int (cap_neg h1).symm,rfl⟩
 by_cases h2:2147483647 < n
 ·go_enter Tryz.func146,Tryz.ntmps146
  go_wp2
  go_ret
  exact ⟨ret_int (cap_big h2).symm,rfl⟩
 ·go_enter Tryz.func146,Tryz.ntmps146
  go_wp2
  go_ret
  exact ⟨ret_int (cap_in (by omega) (by omega)).symm,rfl⟩
theorem cap_any (n:Int) (w:World):Calls Tryz.prog 145 #[.int .i64 n] w fun e w'=>e=.returned (.int .i64 (cap n))∧w=w':=by
 go_enter Tryz.func145,Tryz.ntmps145
 go_wp2_with (go_at_call 146;refine (limit_any _ _).mono ?_;rintro e w' ⟨rfl,rfl⟩)
 go_ret
 exact ⟨rfl,rfl⟩
theorem o_ne_self (x:Nat):(FloatKind.f64.format.order x x != some .eq)=isn x:=by
 show (D.order x x != some .eq)=isn x
 cases h:isn x
 ·have:=o_eq h h
  rw [bne,this];simp
 ·rw [order_nan x x (.inl h)];rfl
theorem isnan_any (x:Nat) (w:World):Calls Tryz.prog 136 #[.float .f64 x] w fun e w'=>e=.returned (.bool (isn x))∧w=w':=by
 go_enter Tryz.func136,Tryz.ntmps136
 go_wp2
 go_ret
 exact ⟨ret_bool (o_ne_self x),rfl⟩
def cut (n:Int):Nat:=(if n < 0 then 0 else if 9999 < n then 9999 else n).toNat
def Quo:Prop:=∀ k:Nat,k≤9999→D.div (floatOfInt .f64 (k:Int)) ten=some (ofB k)
theorem quo_holds:Quo:=by
 intro k hk
 have hf:=float_of k (by omega)
 have hi:=irung_lt k (by omega)
 obtain ⟨m,i,P,rx,-,-,-⟩:=read_fin (irung k) (by unfold fin rung;omega)
 have:∃ s,D.div (floatOfInt .f64 (k:Int)) ten=some s:=by
  rw [hf]
  unfold Ieee.Format.div
  rw [rx,show D.read ten=.number false 5629499534213120 (-49) by decide]
  unfold Ieee.Datum.quotient
  dsimp only
  rw [if_neg (by decide)]
  exact ⟨_,rfl⟩
 obtain ⟨s,hs⟩:=this
 unfold ofB
 rw [hs]
 rfl
theorem quo_at (hQ:Quo) (k:Int) (hk0:0≤k) (hk:k≤9999):∀ t w,(binOp .quo t (.float .f64 (floatOfInt .f64 k)) (.float .f64 4621819117588971520)).run Tryz.prog w=.ok (.float .f64 (ofB k.toNat)) w:=by
 intro t w
 obtain ⟨n,rfl⟩:=Int.eq_ofNat_of_zero_le hk0
 exact run_float_arith w .quo t .f64 _ _ _ (hQ n (by omega))
theorem of_any (hQ:Quo) (n:Int) (w:World):Calls Tryz.prog 144 #[.int .i64 n] w fun e w'=>e=.returned (.float .f64 (ofB (cut n)))∧w=w':=by
 have hop:=quo_at hQ
 clear hQ
 by_cases h1:n < 0
 ·have HC:=Lib.hid (show cut n=0 by unfold cut;rw [if_pos h1];rfl)
  have hq:=hop 0 (by omega) (by omega)
  have hcap:=cap_neg h1
  clear hop
  go_enter Tryz.func144,Tryz.ntmps144
  go_wp2_with (first | (go_at_call 145;refine (cap_any _ _).mono ?_;rintro e w' ⟨rfl,rfl⟩) | simp only [hq])
  go_ret
  exact ⟨ret_float (by rw [HC.out]),rfl⟩
 by_cases h2:9999 < n
 ·have HC:=Lib.hid (show cut n=9999 by unfold cut;rw [if_neg h1,if_pos h2];rfl)
  have hq:=hop 9999 (by omega) (by omega)
  have hcap:9999 < cap n:=by unfold cap;rw [if_neg h1];split <;> omega
  clear hop
  go_enter Tryz.func144,Tryz.ntmps144
  go_wp2_with (first | (go_at_call 145;refine (cap_any _ _).mono ?_;rintro e w' ⟨rfl,rfl⟩) | simp only [hq])
  go_ret
  exact ⟨ret_float (by rw [HC.out]),rfl⟩
 ·have HC:=Lib.hid (show cut n=n.toNat by unfold cut;rw [if_neg h1,if_neg h2])
  have hq:=hop n (by omega) (by omega)
  have hcap:=cap_in (n:=n) (by omega) (by omega)
  clear hop
  go_enter Tryz.func144,Tryz.ntmps144
  go_wp2_with (first | (go_at_call 145;refine (cap_any _ _).mono ?_;rintro e w' ⟨rfl,rfl⟩) | simp only [hq])
  go_ret
  exact ⟨ret_float (by rw [HC.out]),rfl⟩
theorem of_top:ofB (cut 9999)=4652006429231887155:=by decide +kernel
theorem longest_any (hQ:Quo) (w:World):Calls Tryz.prog 137 #[] w fun e w'=>e=.returned (.float .f64 4652006429231887155)∧w=w':=by
 have HQ:=Lib.hid hQ
 clear hQ
 go_enter Tryz.func137,Tryz.ntmps137
 go_wp2_with (go_at_call 144;refine (of_any HQ.out _ _).mono ?_;rintro e w' ⟨rfl,rfl⟩)
 go_ret
 exact ⟨ret_float of_top,rfl⟩
theorem even_call {s:Nat} (h:ok s=true) (w:World):(callFunc 138 #[.float .f64 (xw s)]).run Tryz.prog w=.ok (.value (.float .f64 (rw' s))) w:=by
 rw [run_callFunc_extern (e:=Extern.MathFloor.toIntegral "math.RoundToEven" .even) Tryz.func138 (by kernel_rfl) (by kernel_rfl) (by kernel_rfl) (by kernel_rfl)]
 have hr:=round_ok h
 obtain ⟨m,i,P,rx,-,-,-⟩:=read_fin (xw s) (xw_fin h)
 have e:FloatKind.decode .f64 (xw s)=.number (sg (xw s)) m i:=rx
 have e2:FloatKind.encode .f64 (Ieee.Datum.integral .even (.number (sg (xw s)) m i))=rw' s:=by rw [← hr,← rx];rfl
 have key:Extern.MathFloor.toIntegral "math.RoundToEven" .even #[.float .f64 (xw s)]=pure (.float .f64 (rw' s)):=by
  show Extern.MathFloor.toIntegral.match_1 (fun _=>Sem Value) (FloatKind.decode .f64 (xw s)) _ _=_
  rw [e]
  show pure (Value.float .f64 (FloatKind.encode .f64 (Ieee.Datum.integral .even (.number (sg (xw s)) m i))))=_
  rw [e2]
 rw [key]
 rfl
theorem bits_call (x:Nat) (w:World):(callFunc 93 #[.float .f64 x]).run Tryz.prog w=.ok (.value (.int .u64 x)) w:=by
 rw [run_callFunc_extern (e:=Extern.MathFloatBits.float64bits) Tryz.func93 (by kernel_rfl) (by kernel_rfl) (by kernel_rfl) (by kernel_rfl)]
 rfl
theorem ord_cases (x y:Nat) (hx:isn x=false) (hy:isn y=false) :
  (key x < key y∧FloatKind.f64.format.order x y=some .lt)∨(key x=key y∧FloatKind.f64.format.order x y=some .eq)∨(key y < key x∧FloatKind.f64.format.order x y=some .gt):=by
 have h:FloatKind.f64.format.order x y=some (compare (key x) (key y)):=order_key x y hx hy
 rw [h,Int.compare_eq_ite_lt]
 rcases Int.lt_trichotomy (key x) (key y) with hl | hl | hl
 ·exact .inl ⟨hl,by rw [if_pos hl]⟩
 ·exact .inr (.inl ⟨hl,by rw [if_neg (by omega),if_neg (by omega)]⟩)
 ·exact .inr (.inr ⟨hl,by rw [if_neg (by omega),if_pos hl]⟩)
theorem ord_nan (x y:Nat) (h:isn x=true∨isn y=true):FloatKind.f64.format.order x y=none:=order_nan x y h
theorem key0:key 0=0:=by decide
theorem keyT:key 4652006429231887155=4652006429231887155:=by decide
theorem isn0:isn 0=false:=by decide
theorem isnT:isn 4652006429231887155=false:=by decide
theorem isnan_t {x:Nat} (h:isn x=true) (w:World):Calls Tryz.prog 136 #[.float .f64 x] w fun e w'=>e=.returned (.bool true)∧w=w' :=
 (isnan_any x w).mono fun _ _ ⟨a,b⟩=>⟨by rw [a,h],b⟩
theorem isnan_f {x:Nat} (h:isn x=false) (w:World):Calls Tryz.prog 136 #[.float .f64 x] w fun e w'=>e=.returned (.bool false)∧w=w' :=
 (isnan_any x w).mono fun _ _ ⟨a,b⟩=>⟨by rw [a,h],b⟩
theorem ticks_no (hQ:Quo) {s:Nat} (h:ok s=false) (w:World):Calls Tryz.prog 126 #[.float .f64 s] w fun e w'=>e=.returned (.tuple #[.int .i64 0,.bool false])∧w=w':=by
 have HQ:=Lib.hid hQ
 clear hQ
 cases hn:isn s
 ·have h0:=ord_cases s 0 hn isn0
  have hT:=ord_cases s 4652006429231887155 hn isnT
  rw [key0] at h0
  rw [keyT] at hT
  have hk:key s < 0∨0≤key s∧4652006429231887155 < key s:=by
   have:¬ ok s=true:=by rw [h];simp
   rw [ok_iff] at this
   by_cases a:key s < 0
   ·exact .inl a
   ·by_cases b:4652006429231887155 < key s
    ·exact .inr ⟨by omega,b⟩
    ·exact absurd ⟨hn,by omega,by omega⟩ this
  have HN:=Lib.hid hn
  clear hn h
  rcases hk with hk | ⟨hk0,hk⟩
  ·have ho:FloatKind.f64.format.order s 0=some .lt:=by rcases h0 with ⟨a,b⟩ | ⟨a,b⟩ | ⟨a,b⟩ <;> first | exact b | omega
   clear h0 hT
   go_enter Tryz.func126,Tryz.ntmps126
   go_wp2_with (go_at_call 136;refine (isnan_f HN.out _).mono ?_;rintro e w' ⟨rfl,rfl⟩)
   go_ret2
   exact ⟨rfl,rfl⟩
  ·have ho2:FloatKind.f64.format.order s 4652006429231887155=some .gt:=by rcases hT with ⟨a,b⟩ | ⟨a,b⟩ | ⟨a,b⟩ <;> first | exact b | omega
   clear hT
   rcases h0 with ⟨a,ho⟩ | ⟨a,ho⟩ | ⟨a,ho⟩
   ·omega
   all_goals
    clear a
    go_enter Tryz.func126,Tryz.ntmps126
    go_wp2_with (first | (go_at_call 136;refine (isnan_f HN.out _).mono ?_;rintro e w' ⟨rfl,rfl⟩) | (go_at_call 137;refine (longest_any HQ.out _).mono ?_;rintro e w' ⟨rfl,rfl⟩))
    go_ret2
    exact ⟨rfl,rfl⟩
 ·have HN:=Lib.hid hn
  clear hn h
  go_enter Tryz.func126,Tryz.ntmps126
  go_wp2_with (go_at_call 136;refine (isnan_t HN.out _).mono ?_;rintro e w' ⟨rfl,rfl⟩)
  go_ret2
  exact ⟨rfl,rfl⟩
theorem ticks_yes (hQ:Quo) {s:Nat} (h:ok s=true) (w:World):Calls Tryz.prog 126 #[.float .f64 s] w fun e w'=>e=.returned (.tuple #[.int .i64 (tk s),.bool true])∧w=w':=by
 have HQ:=Lib.hid hQ
 clear hQ
 obtain ⟨hn,hlo,hhi⟩:=(ok_iff s).1 h
 have h0:=ord_cases s 0 hn isn0
 have hT:=ord_cases s 4652006429231887155 hn isnT
 rw [key0] at h0
 rw [keyT] at hT
 have HN:=Lib.hid hn
 have hm:∀ t w,(binOp .mul t (.float .f64 4621819117588971520) (.float .f64 s)).run Tryz.prog w=.ok (.float .f64 (xw s)) w:=fun t w=>run_float_arith w .mul t .f64 _ _ _ (mul_ok h).1
 have he:=even_call h
 have hc:∀ w,(convert 78 3 (.float .f64 (rw' s))).run Tryz.prog w=.ok (.int .i64 (tk s)) w:=fun w=>run_convert_float_int w 78 3 .f64 .i64 _ _ (by rw [Tryz.underlying78];rfl) Tryz.underlying3 (int_ok h)
 clear hn h
 rcases h0 with ⟨a,ho⟩ | ⟨a,ho⟩ | ⟨a,ho⟩
 ·omega
 all_goals
  rcases hT with ⟨b,ho2⟩ | ⟨b,ho2⟩ | ⟨b,ho2⟩
  rotate_right
  ·omega
  all_goals
   clear a b hlo hhi
   go_enter Tryz.func126,Tryz.ntmps126
   go_wp2_with (first | (go_at_call 136;refine (isnan_f HN.out _).mono ?_;rintro e w' ⟨rfl,rfl⟩) | (go_at_call 137;refine (longest_any HQ.out _).mono ?_;rintro e w' ⟨rfl,rfl⟩) | simp only [hm,he,hc])
   go_ret2
   exact ⟨rfl,rfl⟩
end Secs
namespace MayF
open Go.ChangeShapes Go.WideShapes Go.ChangeAt Go.RowKit Go.Proofs.Fl
open Secs
def neg (x:Nat):Bool:=decide (wrap64 (x:Int) < 0)
theorem signbit_any (x:Nat) (w:World):Calls Tryz.prog 127 #[.float .f64 x] w fun e w'=>e=.returned (.bool (neg x))∧w=w':=by
 have hb:=bits_call x
 go_enter Tryz.func127,Tryz.ntmps127
 go_wp2_with (simp only [hb])
 go_ret
 exact ⟨rfl,rfl⟩
def level (x:Nat):Bool:=!isn x && decide (0 < key x) && decide (key x≤4696837146684686336)
theorem keyM:key 4696837146684686336=4696837146684686336:=by decide
theorem isnM:isn 4696837146684686336=false:=by decide
theorem level_any (x:Nat) (w:World):Calls Tryz.prog 104 #[.float .f64 x] w fun e w'=>e=.returned (.bool (level x))∧w=w':=by
 cases hn:isn x
 ·have h0:=ord_cases x 0 hn isn0
  have hT:=ord_cases x 4696837146684686336 hn isnM
  rw [key0] at h0
  rw [keyM] at hT
  have HN:=Lib.hid hn
  clear hn
  rcases h0 with ⟨a,ho⟩ | ⟨a,ho⟩ | ⟨a,ho⟩
  all_goals rcases hT with ⟨b,ho2⟩ | ⟨b,ho2⟩ | ⟨b,ho2⟩
  all_goals
   have HA:=Lib.hid a
   have HB:=Lib.hid b
   clear a b
   go_enter Tryz.func104,Tryz.ntmps104
   go_wp2
   go_ret
   have a:=HA.out
   have b:=HB.out
   exact ⟨ret_bool (by unfold level;rw [HN.out];first | (rw [decide_eq_true (by omega),decide_eq_true (by omega)];rfl) | (rw [decide_eq_false (by omega)];simp) | (rw [decide_eq_false (p:=key x≤_) (by omega)];simp)),rfl⟩
 ·have ho:=ord_nan x 0 (.inl hn)
  have ho2:=ord_nan x 4696837146684686336 (.inl hn)
  have HN:=Lib.hid hn
  clear hn
  go_enter Tryz.func104,Tryz.ntmps104
  go_wp2
  go_ret
  exact ⟨ret_bool (by unfold level;rw [HN.out];rfl),rfl⟩
def span (x:Nat):Bool:=ok x && !neg x
theorem span_any (x:Nat) (w:World):Calls Tryz.prog 105 #[.float .f64 x] w fun e w'=>e=.returned (.bool (span x))∧w=w':=by
 cases hk:ok x
 ·have HK:=Lib.hid hk
  clear hk
  go_enter Tryz.func105,Tryz.ntmps105
  go_wp2_with (go_at_call 126;refine (ticks_no quo_holds HK.out _).mono ?_;rintro e w' ⟨rfl,rfl⟩)
  go_ret
  exact ⟨ret_bool (by unfold span;rw [HK.out,Bool.false_and]),rfl⟩
 ·have HK:=Lib.hid hk
  clear hk
  go_enter Tryz.func105,Tryz.ntmps105
  go_wp2_with (first | (go_at_call 126;refine (ticks_yes quo_holds HK.out _).mono ?_;rintro e w' ⟨rfl,rfl⟩) | (go_at_call 127;refine (signbit_any _ _).mono ?_;rintro e w' ⟨rfl,rfl⟩))
  go_ret
  exact ⟨ret_bool (by unfold span;rw [HK.out,Bool.true_and]),rfl⟩
end MayF
namespace May
open Go.ChangeShapes Go.WideShapes Go.ChangeAt Go.RowKit
open Tab MayF
def Ph.may (p:Ph):Bool:=allIn 9999 [p.min,p.gap,p.max,p.top,p.step,p.yellow,p.red,p.walk,p.blinks] && allIn 3 [p.recall]
def rowMay (l:List Int):Bool:=decide (l.length≤8) && allIn 7 l
def groupMay (g:List Int × List Int):Bool:=rowMay g.1 && rowMay g.2
def Det.may (d:Det):Bool:=allIn 7 [d.phase] && (level d.on && (level d.off && (span d.delay && (span d.extend && allIn 9999 [d.maxOn,d.maxOff]))))
def Rl.may (r:Rl):Bool:=allIn 255 [r.bars,r.clear,r.dwell,r.exit] && (allIn 9999 [r.delay,r.green,r.foot,r.hold,r.stay,r.most] && allIn 2147483647 [r.limit])
def Bs.may (b:Bs):Bool:=allIn 255 [b.set] && allIn 9999 [b.lock]
theorem row_new (w:World) (t:TypeId) (l:List Int) (n:Nat) (hn:l.length=n) (hm:n≤maxLen) (k:Nat) (hk:w.heap.size=k):IntRow (w.alloc (.cells (l.map I).toArray t)) ⟨some ⟨k,0,none⟩,n⟩ l:=by
 subst hn hk
 refine .inr ⟨_,rfl,Nat.le_refl _,hm,fun i v hv j u hu=>?_⟩
 cases j with
 | zero =>
  obtain rfl:=Option.some.inj hu
  rw [Nat.mul_one,add_two,Nat.add_zero,Addr.add_mid,Nat.zero_add]
  rw [cell_of_row _ _ _ _ _ _ (heap_alloc_new w _)]
  simp [hv]
 | succ j=>cases hu
theorem mayPhase_any (p:Ph) (w:World) :
  Calls Tryz.prog 53 #[.agg (Ph.cells p).toArray] w fun e w'=>e=.returned (.bool (Ph.may p))∧Below w.heap.size w w':=by
 obtain ⟨on,min,gap,max,top,step,yellow,red,walk,blinks,recall,lock,rest⟩:=p
 show Calls Tryz.prog 53 #[.agg #[.bool on,I min,I gap,I max,I top,I step,I yellow,I red,I walk,I blinks,I recall,.bool lock,.bool rest]] w _
 go_enter Tryz.func53,Tryz.ntmps53
 go_wp2_with fail
 refine (within_any 9999 _ _ [min,gap,max,top,step,yellow,red,walk,blinks] _ (row_new _ _ [min,gap,max,top,step,yellow,red,walk,blinks] 9 rfl (by decide) _ (by simp))).mono ?_
 rintro e w' ⟨rfl,rfl⟩
 generalize hb1:allIn 9999 [min,gap,max,top,step,yellow,red,walk,blinks]=b1
 have HB1:=Lib.hid hb1
 clear hb1
 cases b1
 ·go_wp2
  go_ret
  exact ⟨ret_bool (by unfold Ph.may;simp only [HB1.out,Bool.true_and,Bool.false_and,Bool.and_true,Bool.and_false]),(by repeat' first | exact Below.refl _ _ | (refine Below.alloc ?_ ?_ _) | (simp;done) | (simp;omega))⟩
 go_wp2_with fail
 refine (within_any 3 _ _ [recall] _ (row_new _ _ [recall] 1 rfl (by decide) _ (by simp))).mono ?_
 rintro e w' ⟨rfl,rfl⟩
 generalize hb2:allIn 3 [recall]=b2
 have HB2:=Lib.hid hb2
 clear hb2
 go_wp2
 go_ret
 exact ⟨ret_bool (by unfold Ph.may;simp only [HB1.out,HB2.out,Bool.true_and,Bool.false_and,Bool.and_true,Bool.and_false]),(by repeat' first | exact Below.refl _ _ | (refine Below.alloc ?_ ?_ _) | (simp;done) | (simp;omega))⟩
theorem mayDetector_any (d:Det) (w:World) :
  Calls Tryz.prog 58 #[.agg (Det.cells d).toArray] w fun e w'=>e=.returned (.bool (Det.may d))∧Below w.heap.size w w':=by
 obtain ⟨phase,on,off,delay,extend,maxOn,maxOff⟩:=d
 show Calls Tryz.prog 58 #[.agg #[I phase,F on,F off,F delay,F extend,I maxOn,I maxOff]] w _
 go_enter Tryz.func58,Tryz.ntmps58
 go_wp2_with fail
 refine (within_any 7 _ _ [phase] _ (row_new _ _ [phase] 1 rfl (by decide) _ (by simp))).mono ?_
 rintro e w' ⟨rfl,rfl⟩
 generalize hb1:allIn 7 [phase]=b1
 have HB1:=Lib.hid hb1
 clear hb1
 cases b1
 ·go_wp2
  go_ret
  exact ⟨ret_bool (by unfold Det.may;simp only [HB1.out,Bool.true_and,Bool.false_and,Bool.and_true,Bool.and_false]),(by repeat' first | exact Below.refl _ _ | (refine Below.alloc ?_ ?_ _) | (simp;done) | (simp;omega))⟩
 go_wp2_with fail
 refine (level_any on _).mono ?_
 rintro e w' ⟨rfl,rfl⟩
 generalize hb2:level on=b2
 have HB2:=Lib.hid hb2
 clear hb2
 cases b2
 ·go_wp2
  go_ret
  exact ⟨ret_bool (by unfold Det.may;simp only [HB1.out,HB2.out,Bool.true_and,Bool.false_and,Bool.and_true,Bool.and_false]),(by repeat' first | exact Below.refl _ _ | (refine Below.alloc ?_ ?_ _) | (simp;done) | (simp;omega))⟩
 go_wp2_with fail
 refine (level_any off _).mono ?_
 rintro e w' ⟨rfl,rfl⟩
 generalize hb3:level off=b3
 have HB3:=Lib.hid hb3
 clear hb3
 cases b3
 ·go_wp2
  go_ret
  exact ⟨ret_bool (by unfold Det.may;simp only [HB1.out,HB2.out,HB3.out,Bool.true_and,Bool.false_and,Bool.and_true,Bool.and_false]),(by repeat' first | exact Below.refl _ _ | (refine Below.alloc ?_ ?_ _) | (simp;done) | (simp;omega))⟩
 go_wp2_with fail
 refine (span_any delay _).mono ?_
 rintro e w' ⟨rfl,rfl⟩
 generalize hb4:span delay=b4
 have HB4:=Lib.hid hb4
 clear hb4
 cases b4
 ·go_wp2
  go_ret
  exact ⟨ret_bool (by unfold Det.may;simp only [HB1.out,HB2.out,HB3.out,HB4.out,Bool.true_and,Bool.false_and,Bool.and_true,Bool.and_false]),(by repeat' first | exact Below.refl _ _ | (refine Below.alloc ?_ ?_ _) | (simp;done) | (simp;omega))⟩
 go_wp2_with fail
 refine (span_any extend _).mono ?_
 rintro e w' ⟨rfl,rfl⟩
 generalize hb5:span extend=b5
 have HB5:=Lib.hid hb5
 clear hb5
 cases b5
 ·go_wp2
  go_ret
  exact ⟨ret_bool (by unfold Det.may;simp only [HB1.out,HB2.out,HB3.out,HB4.out,HB5.out,Bool.true_and,Bool.false_and,Bool.and_true,Bool.and_false]),(by repeat' first | exact Below.refl _ _ | (refine Below.alloc ?_ ?_ _) | (simp;done) | (simp;omega))⟩
 go_wp2_with fail
 refine (within_any 9999 _ _ [maxOn,maxOff] _ (row_new _ _ [maxOn,maxOff] 2 rfl (by decide) _ (by simp))).mono ?_
 rintro e w' ⟨rfl,rfl⟩
 generalize hb6:allIn 9999 [maxOn,maxOff]=b6
 have HB6:=Lib.hid hb6
 clear hb6
 go_wp2
 go_ret
 exact ⟨ret_bool (by unfold Det.may;simp only [HB1.out,HB2.out,HB3.out,HB4.out,HB5.out,HB6.out,Bool.true_and,Bool.false_and,Bool.and_true,Bool.and_false]),(by repeat' first | exact Below.refl _ _ | (refine Below.alloc ?_ ?_ _) | (simp;done) | (simp;omega))⟩
theorem mayRail_any (r:Rl) (w:World) :
  Calls Tryz.prog 60 #[.agg (Rl.cells r).toArray] w fun e w'=>e=.returned (.bool (Rl.may r))∧Below w.heap.size w w':=by
 obtain ⟨bars,clear,dwell,exit,delay,green,foot,hold,stay,most,limit⟩:=r
 show Calls Tryz.prog 60 #[.agg #[I bars,I clear,I dwell,I exit,I delay,I green,I foot,I hold,I stay,I most,I limit]] w _
 go_enter Tryz.func60,Tryz.ntmps60
 go_wp2_with fail
 refine (within_any 255 _ _ [bars,clear,dwell,exit] _ (row_new _ _ [bars,clear,dwell,exit] 4 rfl (by decide) _ (by simp))).mono ?_
 rintro e w' ⟨rfl,rfl⟩
 generalize hb1:allIn 255 [bars,clear,dwell,exit]=b1
 have HB1:=Lib.hid hb1
 clear hb1
 cases b1
 ·go_wp2
  go_ret
  exact ⟨ret_bool (by unfold Rl.may;simp only [HB1.out,Bool.true_and,Bool.false_and,Bool.and_true,Bool.and_false]),(by repeat' first | exact Below.refl _ _ | (refine Below.alloc ?_ ?_ _) | (simp;done) | (simp;omega))⟩
 go_wp2_with fail
 refine (within_any 9999 _ _ [delay,green,foot,hold,stay,most] _ (row_new _ _ [delay,green,foot,hold,stay,most] 6 rfl (by decide) _ (by simp))).mono ?_
 rintro e w' ⟨rfl,rfl⟩
 generalize hb2:allIn 9999 [delay,green,foot,hold,stay,most]=b2
 have HB2:=Lib.hid hb2
 clear hb2
 cases b2
 ·go_wp2
  go_ret
  exact ⟨ret_bool (by unfold Rl.may;simp only [HB1.out,HB2.out,Bool.true_and,Bool.false_and,Bool.and_true,Bool.and_false]),(by repeat' first | exact Below.refl _ _ | (refine Below.alloc ?_ ?_ _) | (simp;done) | (simp;omega))⟩
 go_wp2_with fail
 refine (within_any 2147483647 _ _ [limit] _ (row_new _ _ [limit] 1 rfl (by decide) _ (by simp))).mono ?_
 rintro e w' ⟨rfl,rfl⟩
 generalize hb3:allIn 2147483647 [limit]=b3
 have HB3:=Lib.hid hb3
 clear hb3
 go_wp2
 go_ret
 exact ⟨ret_bool (by unfold Rl.may;simp only [HB1.out,HB2.out,HB3.out,Bool.true_and,Bool.false_and,Bool.and_true,Bool.and_false]),(by repeat' first | exact Below.refl _ _ | (refine Below.alloc ?_ ?_ _) | (simp;done) | (simp;omega))⟩
theorem mayBus_any (b:Bs) (w:World) :
  Calls Tryz.prog 62 #[.agg (Bs.cells b).toArray] w fun e w'=>e=.returned (.bool (Bs.may b))∧Below w.heap.size w w':=by
 obtain ⟨set,lock⟩:=b
 show Calls Tryz.prog 62 #[.agg #[I set,I lock]] w _
 go_enter Tryz.func62,Tryz.ntmps62
 go_wp2_with fail
 refine (within_any 255 _ _ [set] _ (row_new _ _ [set] 1 rfl (by decide) _ (by simp))).mono ?_
 rintro e w' ⟨rfl,rfl⟩
 generalize hb1:allIn 255 [set]=b1
 have HB1:=Lib.hid hb1
 clear hb1
 cases b1
 ·go_wp2
  go_ret
  exact ⟨ret_bool (by unfold Bs.may;simp only [HB1.out,Bool.true_and,Bool.false_and,Bool.and_true,Bool.and_false]),(by repeat' first | exact Below.refl _ _ | (refine Below.alloc ?_ ?_ _) | (simp;done) | (simp;omega))⟩
 go_wp2_with fail
 refine (within_any 9999 _ _ [lock] _ (row_new _ _ [lock] 1 rfl (by decide) _ (by simp))).mono ?_
 rintro e w' ⟨rfl,rfl⟩
 generalize hb2:allIn 9999 [lock]=b2
 have HB2:=Lib.hid hb2
 clear hb2
 go_wp2
 go_ret
 exact ⟨ret_bool (by unfold Bs.may;simp only [HB1.out,HB2.out,Bool.true_and,Bool.false_and,Bool.and_true,Bool.and_false]),(by repeat' first | exact Below.refl _ _ | (refine Below.alloc ?_ ?_ _) | (simp;done) | (simp;omega))⟩
theorem mayRow_any (a:Option Addr) (cap:Nat) (l:List Int) (w:World) (h:IntRow w ⟨a,cap⟩ l) :
  Calls Tryz.prog 103 #[.slice a l.length cap] w fun e w'=>e=.returned (.bool (rowMay l))∧w=w':=by
 have h1:=h.len
 unfold maxLen at h1
 have Hr:=Lib.hid h
 clear h
 by_cases h8:l.length≤8
 ·go_enter Tryz.func103,Tryz.ntmps103
  go_wp2_with (go_at_call 56;refine (within_any _ _ _ _ _ Hr.out).mono ?_;rintro e w' ⟨rfl,rfl⟩)
  go_ret
  exact ⟨ret_bool (by unfold rowMay;rw [decide_eq_true h8,Bool.true_and]),rfl⟩
 ·go_enter Tryz.func103,Tryz.ntmps103
  go_wp2
  go_ret
  exact ⟨ret_bool (by unfold rowMay;rw [decide_eq_false h8,Bool.false_and]),rfl⟩
theorem mayGroup_any (g:Gr) (w:World) (h:g.ok w) :
  Calls Tryz.prog 55 #[.agg g.cells.toArray] w fun e w'=>e=.returned (.bool (groupMay g.data))∧Below w.heap.size w w':=by
 obtain ⟨l0,l1,⟨a0,cap0⟩,⟨a1,cap1⟩⟩:=g
 have H0:=Lib.hid h.1
 have H1:=Lib.hid h.2
 clear h
 show Calls Tryz.prog 55 #[.agg #[.slice a0 l0.length cap0,.slice a1 l1.length cap1]] w _
 go_enter Tryz.func55,Tryz.ntmps55
 go_wp2_with fail
 refine (mayRow_any a0 cap0 l0 _ (H0.out.below ((Below.refl _ _).alloc (Nat.le_refl _) _))).mono ?_
 rintro e w' ⟨rfl,rfl⟩
 generalize hb1:rowMay l0=b1
 have HB1:=Lib.hid hb1
 clear hb1
 cases b1
 ·go_wp2
  go_ret
  exact ⟨ret_bool (by unfold groupMay;simp only [Gr.data,HB1.out,Bool.true_and,Bool.false_and,Bool.and_true,Bool.and_false]),(by repeat' first | exact Below.refl _ _ | (refine Below.alloc ?_ ?_ _) | (simp;done) | (simp;omega))⟩
 go_wp2_with fail
 refine (mayRow_any a1 cap1 l1 _ (H1.out.below ((Below.refl _ _).alloc (Nat.le_refl _) _))).mono ?_
 rintro e w' ⟨rfl,rfl⟩
 generalize hb2:rowMay l1=b2
 have HB2:=Lib.hid hb2
 clear hb2
 go_wp2
 go_ret
 exact ⟨ret_bool (by unfold groupMay;simp only [Gr.data,HB1.out,HB2.out,Bool.true_and,Bool.false_and,Bool.and_true,Bool.and_false]),(by repeat' first | exact Below.refl _ _ | (refine Below.alloc ?_ ?_ _) | (simp;done) | (simp;omega))⟩
end May
namespace May
open Go.ChangeShapes Go.WideShapes Go.ChangeAt Go.RowKit
open Tab
theorem chain {a b c:World} (h:Below a.heap.size a b) (k:Below b.heap.size b c):Below a.heap.size a c:=h.trans (k.mono h.size)
theorem infoP:(Tryz.prog.info? 23).map (·.size)=some 13:=by kernel_rfl
theorem infoG:(Tryz.prog.info? 55).map (·.size)=some 2:=by kernel_rfl
theorem infoD:(Tryz.prog.info? 80).map (·.size)=some 7:=by kernel_rfl
theorem infoR:(Tryz.prog.info? 84).map (·.size)=some 11:=by kernel_rfl
theorem infoB:(Tryz.prog.info? 86).map (·.size)=some 2:=by kernel_rfl
theorem mayAllP_any (m:Int) (a:Option Addr) (cap:Nat) (l:List Ph) (w:World) (h:RowOf 13 Ph.cells w ⟨a,cap⟩ l) :
  Calls Tryz.prog 52 #[.slice a l.length cap,.int .i64 m,.func (.func 53) #[] #[]] w fun e w'=>e=.returned (.bool (decide ((l.length:Int)≤m) && l.all Ph.may))∧Below w.heap.size w w':=by
 have h1:=h.len
 unfold maxLen at h1
 have Hr:=Lib.hid h
 clear h
 by_cases hm:(l.length:Int)≤m
 ·have hm':decide (m < (l.length:Int))=false:=decide_eq_false (by omega)
  have Hm:=Lib.hid hm
  go_enter Tryz.func52,Tryz.ntmps52
  go_wp2
  go_loopw [15] (fun i wr=>∃ k:Nat,k≤l.length∧i=.int .i64 k∧(l.take k).all Ph.may=true∧Below w.heap.size w wr) (fun i _=>l.length - (intOf i).toNat)
  case atStart=>exact ⟨0,Nat.zero_le _,rfl,rfl,Below.refl _ _⟩
  case round =>
   obtain ⟨k,hk,rfl,hall,hbel⟩:=hrel
   have Hall:=Lib.hid hall
   have Hb:=Lib.hid hbel
   clear hall hbel
   by_cases hlt:k < l.length
   ·have hv:=List.getElem?_eq_getElem hlt
    generalize l[k]=v at hv
    obtain ⟨x,hx,hcell⟩:=(Hr.out.below Hb.out).at hv
    obtain rfl:a=some x:=hx
    have HV:=Lib.hid hv
    have HC:=Lib.hid hcell
    clear hv hcell
    go_wp2_with (first | (refine Row.wpList_load_lies rfl 23 _ rfl (x.add (k*13)) rfl v.cells _ HC.out Tryz.underlying23 rfl infoP ?_) | (refine Row.wpList_store_new rfl 23 _ _ rfl _ _ v.cells.toArray rfl rfl rfl infoP rfl v.one ?_) | (refine wpList_load_row rfl 23 _ rfl _ rfl _ _ _ _ (heap_alloc_new _ _) Tryz.underlying23 rfl infoP ?_))
    refine (mayPhase_any v _).mono ?_
    rintro e w2 ⟨rfl,hb2⟩
    have B2:=Lib.hid (chain Hb.out (chain ((Below.refl _ _).alloc (Nat.le_refl _) _) hb2))
    clear hb2
    generalize hb:Ph.may v=b
    have HB:=Lib.hid hb
    clear hb
    cases b
    ·go_wp2
     go_ret
     exact ⟨ret_bool (by rw [all_break (f:=Ph.may) HV.out HB.out,Bool.and_false]),B2.out⟩
    ·go_wp2
     go_roundw
     case rel=>exact ⟨k+1,by omega,by go_num,all_step (f:=Ph.may) HV.out Hall.out HB.out,B2.out⟩
     case measure=>simp [intOf];omega
   ·go_wp2
    go_ret
    exact ⟨ret_bool (by rw [all_end Hall.out hlt,decide_eq_true (by have:=Hm.out;omega)];rfl),Hb.out⟩
 ·have Hm:=Lib.hid hm
  go_enter Tryz.func52,Tryz.ntmps52
  go_wp2
  go_ret
  exact ⟨ret_bool (by rw [decide_eq_false (by have:=Hm.out;omega)];rfl),Below.refl _ _⟩
theorem mayAllG_any (m:Int) (a:Option Addr) (cap:Nat) (l:List Gr) (w:World) (h:RowOf 2 Gr.cells w ⟨a,cap⟩ l) (h2:∀ v ∈ l,v.ok w) :
  Calls Tryz.prog 54 #[.slice a l.length cap,.int .i64 m,.func (.func 55) #[] #[]] w fun e w'=>e=.returned (.bool (decide ((l.length:Int)≤m) && l.all (fun v=>groupMay v.data)))∧Below w.heap.size w w':=by
 have h1:=h.len
 unfold maxLen at h1
 have Hr:=Lib.hid h
 clear h
 have H2:=Lib.hid h2
 clear h2
 by_cases hm:(l.length:Int)≤m
 ·have hm':decide (m < (l.length:Int))=false:=decide_eq_false (by omega)
  have Hm:=Lib.hid hm
  go_enter Tryz.func54,Tryz.ntmps54
  go_wp2
  go_loopw [15] (fun i wr=>∃ k:Nat,k≤l.length∧i=.int .i64 k∧(l.take k).all (fun v=>groupMay v.data)=true∧Below w.heap.size w wr) (fun i _=>l.length - (intOf i).toNat)
  case atStart=>exact ⟨0,Nat.zero_le _,rfl,rfl,Below.refl _ _⟩
  case round =>
   obtain ⟨k,hk,rfl,hall,hbel⟩:=hrel
   have Hall:=Lib.hid hall
   have Hb:=Lib.hid hbel
   clear hall hbel
   by_cases hlt:k < l.length
   ·have hv:=List.getElem?_eq_getElem hlt
    generalize l[k]=v at hv
    obtain ⟨x,hx,hcell⟩:=(Hr.out.below Hb.out).at hv
    obtain rfl:a=some x:=hx
    have HV:=Lib.hid hv
    have HC:=Lib.hid hcell
    clear hv hcell
    go_wp2_with (first | (refine Row.wpList_load_lies rfl 55 _ rfl (x.add (k*2)) rfl v.cells _ HC.out Tryz.underlying55 rfl infoG ?_) | (refine Row.wpList_store_new rfl 55 _ _ rfl _ _ v.cells.toArray rfl rfl rfl infoG rfl v.one ?_) | (refine wpList_load_row rfl 55 _ rfl _ rfl _ _ _ _ (heap_alloc_new _ _) Tryz.underlying55 rfl infoG ?_))
    refine (mayGroup_any v _ (((H2.out _ (List.mem_of_getElem? HV.out)).below Hb.out).below ((Below.refl _ _).alloc (Nat.le_refl _) _))).mono ?_
    rintro e w2 ⟨rfl,hb2⟩
    have B2:=Lib.hid (chain Hb.out (chain ((Below.refl _ _).alloc (Nat.le_refl _) _) hb2))
    clear hb2
    generalize hb:groupMay v.data=b
    have HB:=Lib.hid hb
    clear hb
    cases b
    ·go_wp2
     go_ret
     exact ⟨ret_bool (by rw [all_break (f:=(fun v=>groupMay v.data)) HV.out HB.out,Bool.and_false]),B2.out⟩
    ·go_wp2
     go_roundw
     case rel=>exact ⟨k+1,by omega,by go_num,all_step (f:=(fun v=>groupMay v.data)) HV.out Hall.out HB.out,B2.out⟩
     case measure=>simp [intOf];omega
   ·go_wp2
    go_ret
    exact ⟨ret_bool (by rw [all_end Hall.out hlt,decide_eq_true (by have:=Hm.out;omega)];rfl),Hb.out⟩
 ·have Hm:=Lib.hid hm
  go_enter Tryz.func54,Tryz.ntmps54
  go_wp2
  go_ret
  exact ⟨ret_bool (by rw [decide_eq_false (by have:=Hm.out;omega)];rfl),Below.refl _ _⟩
theorem mayAllD_any (m:Int) (a:Option Addr) (cap:Nat) (l:List Det) (w:World) (h:RowOf 7 Det.cells w ⟨a,cap⟩ l) :
  Calls Tryz.prog 57 #[.slice a l.length cap,.int .i64 m,.func (.func 58) #[] #[]] w fun e w'=>e=.returned (.bool (decide ((l.length:Int)≤m) && l.all Det.may))∧Below w.heap.size w w':=by
 have h1:=h.len
 unfold maxLen at h1
 have Hr:=Lib.hid h
 clear h
 by_cases hm:(l.length:Int)≤m
 ·have hm':decide (m < (l.length:Int))=false:=decide_eq_false (by omega)
  have Hm:=Lib.hid hm
  go_enter Tryz.func57,Tryz.ntmps57
  go_wp2
  go_loopw [15] (fun i wr=>∃ k:Nat,k≤l.length∧i=.int .i64 k∧(l.take k).all Det.may=true∧Below w.heap.size w wr) (fun i _=>l.length - (intOf i).toNat)
  case atStart=>exact ⟨0,Nat.zero_le _,rfl,rfl,Below.refl _ _⟩
  case round =>
   obtain ⟨k,hk,rfl,hall,hbel⟩:=hrel
   have Hall:=Lib.hid hall
   have Hb:=Lib.hid hbel
   clear hall hbel
   by_cases hlt:k < l.length
   ·have hv:=List.getElem?_eq_getElem hlt
    generalize l[k]=v at hv
    obtain ⟨x,hx,hcell⟩:=(Hr.out.below Hb.out).at hv
    obtain rfl:a=some x:=hx
    have HV:=Lib.hid hv
    have HC:=Lib.hid hcell
    clear hv hcell
    go_wp2_with (first | (refine Row.wpList_load_lies rfl 80 _ rfl (x.add (k*7)) rfl v.cells _ HC.out Tryz.underlying80 rfl infoD ?_) | (refine Row.wpList_store_new rfl 80 _ _ rfl _ _ v.cells.toArray rfl rfl rfl infoD rfl v.one ?_) | (refine wpList_load_row rfl 80 _ rfl _ rfl _ _ _ _ (heap_alloc_new _ _) Tryz.underlying80 rfl infoD ?_))
    refine (mayDetector_any v _).mono ?_
    rintro e w2 ⟨rfl,hb2⟩
    have B2:=Lib.hid (chain Hb.out (chain ((Below.refl _ _).alloc (Nat.le_refl _) _) hb2))
    clear hb2
    generalize hb:Det.may v=b
    have HB:=Lib.hid hb
    clear hb
    cases b
    ·go_wp2
     go_ret
     exact ⟨ret_bool (by rw [all_break (f:=Det.may) HV.out HB.out,Bool.and_false]),B2.out⟩
    ·go_wp2
     go_roundw
     case rel=>exact ⟨k+1,by omega,by go_num,all_step (f:=Det.may) HV.out Hall.out HB.out,B2.out⟩
     case measure=>simp [intOf];omega
   ·go_wp2
    go_ret
    exact ⟨ret_bool (by rw [all_end Hall.out hlt,decide_eq_true (by have:=Hm.out;omega)];rfl),Hb.out⟩
 ·have Hm:=Lib.hid hm
  go_enter Tryz.func57,Tryz.ntmps57
  go_wp2
  go_ret
  exact ⟨ret_bool (by rw [decide_eq_false (by have:=Hm.out;omega)];rfl),Below.refl _ _⟩
theorem mayAllR_any (m:Int) (a:Option Addr) (cap:Nat) (l:List Rl) (w:World) (h:RowOf 11 Rl.cells w ⟨a,cap⟩ l) :
  Calls Tryz.prog 59 #[.slice a l.length cap,.int .i64 m,.func (.func 60) #[] #[]] w fun e w'=>e=.returned (.bool (decide ((l.length:Int)≤m) && l.all Rl.may))∧Below w.heap.size w w':=by
 have h1:=h.len
 unfold maxLen at h1
 have Hr:=Lib.hid h
 clear h
 by_cases hm:(l.length:Int)≤m
 ·have hm':decide (m < (l.length:Int))=false:=decide_eq_false (by omega)
  have Hm:=Lib.hid hm
  go_enter Tryz.func59,Tryz.ntmps59
  go_wp2
  go_loopw [15] (fun i wr=>∃ k:Nat,k≤l.length∧i=.int .i64 k∧(l.take k).all Rl.may=true∧Below w.heap.size w wr) (fun i _=>l.length - (intOf i).toNat)
  case atStart=>exact ⟨0,Nat.zero_le _,rfl,rfl,Below.refl _ _⟩
  case round =>
   obtain ⟨k,hk,rfl,hall,hbel⟩:=hrel
   have Hall:=Lib.hid hall
   have Hb:=Lib.hid hbel
   clear hall hbel
   by_cases hlt:k < l.length
   ·have hv:=List.getElem?_eq_getElem hlt
    generalize l[k]=v at hv
    obtain ⟨x,hx,hcell⟩:=(Hr.out.below Hb.out).at hv
    obtain rfl:a=some x:=hx
    have HV:=Lib.hid hv
    have HC:=Lib.hid hcell
    clear hv hcell
    go_wp2_with (first | (refine Row.wpList_load_lies rfl 84 _ rfl (x.add (k*11)) rfl v.cells _ HC.out Tryz.underlying84 rfl infoR ?_) | (refine Row.wpList_store_new rfl 84 _ _ rfl _ _ v.cells.toArray rfl rfl rfl infoR rfl v.one ?_) | (refine wpList_load_row rfl 84 _ rfl _ rfl _ _ _ _ (heap_alloc_new _ _) Tryz.underlying84 rfl infoR ?_))
    refine (mayRail_any v _).mono ?_
    rintro e w2 ⟨rfl,hb2⟩
    have B2:=Lib.hid (chain Hb.out (chain ((Below.refl _ _).alloc (Nat.le_refl _) _) hb2))
    clear hb2
    generalize hb:Rl.may v=b
    have HB:=Lib.hid hb
    clear hb
    cases b
    ·go_wp2
     go_ret
     exact ⟨ret_bool (by rw [all_break (f:=Rl.may) HV.out HB.out,Bool.and_false]),B2.out⟩
    ·go_wp2
     go_roundw
     case rel=>exact ⟨k+1,by omega,by go_num,all_step (f:=Rl.may) HV.out Hall.out HB.out,B2.out⟩
     case measure=>simp [intOf];omega
   ·go_wp2
    go_ret
    exact ⟨ret_bool (by rw [all_end Hall.out hlt,decide_eq_true (by have:=Hm.out;omega)];rfl),Hb.out⟩
 ·have Hm:=Lib.hid hm
  go_enter Tryz.func59,Tryz.ntmps59
  go_wp2
  go_ret
  exact ⟨ret_bool (by rw [decide_eq_false (by have:=Hm.out;omega)];rfl),Below.refl _ _⟩
theorem mayAllB_any (m:Int) (a:Option Addr) (cap:Nat) (l:List Bs) (w:World) (h:RowOf 2 Bs.cells w ⟨a,cap⟩ l) :
  Calls Tryz.prog 61 #[.slice a l.length cap,.int .i64 m,.func (.func 62) #[] #[]] w fun e w'=>e=.returned (.bool (decide ((l.length:Int)≤m) && l.all Bs.may))∧Below w.heap.size w w':=by
 have h1:=h.len
 unfold maxLen at h1
 have Hr:=Lib.hid h
 clear h
 by_cases hm:(l.length:Int)≤m
 ·have hm':decide (m < (l.length:Int))=false:=decide_eq_false (by omega)
  have Hm:=Lib.hid hm
  go_enter Tryz.func61,Tryz.ntmps61
  go_wp2
  go_loopw [15] (fun i wr=>∃ k:Nat,k≤l.length∧i=.int .i64 k∧(l.take k).all Bs.may=true∧Below w.heap.size w wr) (fun i _=>l.length - (intOf i).toNat)
  case atStart=>exact ⟨0,Nat.zero_le _,rfl,rfl,Below.refl _ _⟩
  case round =>
   obtain ⟨k,hk,rfl,hall,hbel⟩:=hrel
   have Hall:=Lib.hid hall
   have Hb:=Lib.hid hbel
   clear hall hbel
   by_cases hlt:k < l.length
   ·have hv:=List.getElem?_eq_getElem hlt
    generalize l[k]=v at hv
    obtain ⟨x,hx,hcell⟩:=(Hr.out.below Hb.out).at hv
    obtain rfl:a=some x:=hx
    have HV:=Lib.hid hv
    have HC:=Lib.hid hcell
    clear hv hcell
    go_wp2_with (first | (refine Row.wpList_load_lies rfl 86 _ rfl (x.add (k*2)) rfl v.cells _ HC.out Tryz.underlying86 rfl infoB ?_) | (refine Row.wpList_store_new rfl 86 _ _ rfl _ _ v.cells.toArray rfl rfl rfl infoB rfl v.one ?_) | (refine wpList_load_row rfl 86 _ rfl _ rfl _ _ _ _ (heap_alloc_new _ _) Tryz.underlying86 rfl infoB ?_))
    refine (mayBus_any v _).mono ?_
    rintro e w2 ⟨rfl,hb2⟩
    have B2:=Lib.hid (chain Hb.out (chain ((Below.refl _ _).alloc (Nat.le_refl _) _) hb2))
    clear hb2
    generalize hb:Bs.may v=b
    have HB:=Lib.hid hb
    clear hb
    cases b
    ·go_wp2
     go_ret
     exact ⟨ret_bool (by rw [all_break (f:=Bs.may) HV.out HB.out,Bool.and_false]),B2.out⟩
    ·go_wp2
     go_roundw
     case rel=>exact ⟨k+1,by omega,by go_num,all_step (f:=Bs.may) HV.out Hall.out HB.out,B2.out⟩
     case measure=>simp [intOf];omega
   ·go_wp2
    go_ret
    exact ⟨ret_bool (by rw [all_end Hall.out hlt,decide_eq_true (by have:=Hm.out;omega)];rfl),Hb.out⟩
 ·have Hm:=Lib.hid hm
  go_enter Tryz.func61,Tryz.ntmps61
  go_wp2
  go_ret
  exact ⟨ret_bool (by rw [decide_eq_false (by have:=Hm.out;omega)];rfl),Below.refl _ _⟩
end May
namespace May
open Go.ChangeShapes Go.WideShapes Go.ChangeAt Go.RowKit
open Tab
def listMay {α:Type} (m:Int) (f:α→Bool) (l:List α):Bool:=decide ((l.length:Int)≤m) && l.all f
def tabMay (T:Tab):Bool :=
 listMay 8 Ph.may T.phases && (listMay 4 groupMay T.groups && (allIn 255 T.conflict && (listMay 16 Det.may T.dets && (listMay 4 Rl.may T.rails && (listMay 4 Bs.may T.buses &&
  (allIn 9999 [T.extend,T.budget,T.start,T.revert,T.least] && (allIn 2 T.flash && allIn 2147483647 [T.window,T.share])))))))
theorem ints_in {w:World} {g:Nat} {cs:Array Value} {t:TypeId} {fr:Nat × Nat} (hg:w.heap[g]?=some (.cells cs t fr)) (o n:Nat) (l:List Int) (h:(cs.toList.drop o).take n=l.map I) (hn:l.length=n) (hm:n≤maxLen) :
  IntRow w ⟨some ⟨g,o,none⟩,n⟩ l:=by
 subst hn
 refine .inr ⟨_,rfl,Nat.le_refl _,hm,fun i v hv j u hu=>?_⟩
 cases j with
 | zero =>
  obtain rfl:=Option.some.inj hu
  rw [Nat.mul_one,add_two,Nat.add_zero,Addr.add_mid]
  exact range_of hg o _ _ h i _ (by simp [hv])
 | succ j=>cases hu
theorem phases_in {w:World} {g:Nat} {cs:Array Value} {t:TypeId} {fr:Nat × Nat} {T:Tab} {h:Hd} (hg:w.heap[g]?=some (.cells cs t fr)) (C:CellsOk T h cs) (hn:T.phases.length=8) :
  RowOf 13 Ph.cells w ⟨some ⟨g,0,none⟩,8⟩ T.phases:=by
 refine .inr ⟨_,rfl,by rw [hn];exact Nat.le_refl _,(show 8≤maxLen by decide),fun i v hv j u hu=>?_⟩
 rw [add_two,Addr.add_mid,Nat.zero_add,Nat.mul_comm]
 exact range_of hg (13*i) 13 _ (C.phase i v hv) j u hu
structure St (w:World) (N:Nat) (cs:Array Value) (h:Hd) (T:Tab) (W:World):Prop where
 bel:Below w.heap.size w W
 blk:W.heap[N]?=some (.cells cs 31 (0,0))
 tab:IsTab W h T
 le:w.heap.size≤N
theorem St.step {w W W':World} {N:Nat} {cs:Array Value} {h:Hd} {T:Tab} (k:St w N cs h T W) (hb:Below W.heap.size W W'):St w N cs h T W' :=
 ⟨chain k.bel hb,by rw [hb.block N (Array.getElem?_eq_some_iff.1 k.blk).1];exact k.blk,k.tab.below hb,k.le⟩
theorem St.cell {w W:World} {N:Nat} {cs:Array Value} {h:Hd} {T:Tab} (k:St w N cs h T W) {o:Nat} {v:Value} (hv:cs[o]?=some v):W.cell? ⟨N,o,none⟩=some v:=by
 rw [cell_of_row _ _ _ _ _ _ k.blk];exact hv
theorem St.box {w:World} {cs:Array Value} {h:Hd} {T:Tab} (k:IsTab w h T):St w w.heap.size cs h T (w.alloc (.cells cs 31)) :=
 ⟨(Below.refl _ _).alloc (Nat.le_refl _) _,heap_alloc_new _ _,k.below ((Below.refl _ _).alloc (Nat.le_refl _) _),Nat.le_refl _⟩
theorem within_len (m:Int) (a:Option Addr) (cap:Nat) (l:List Int) (n:Nat) (hn:l.length=n) (w:World) (h:IntRow w ⟨a,cap⟩ l) :
  Calls Tryz.prog 56 #[.int .i64 m,.slice a n cap] w fun e w'=>e=.returned (.bool (allIn m l))∧w=w':=by
 subst hn;exact within_any m a cap l w h
theorem may_any (T:Tab) (h:Hd) (w:World) (k:IsTab w h T) :
  Calls Tryz.prog 23 #[.agg (T.cells h).toArray] w fun e w'=>e=.returned (.bool (tabMay T))∧Below w.heap.size w w':=by
 have C:=Lib.hid (cells_ok k)
 have L8:=Lib.hid k.ph
 have Lc:=Lib.hid k.cf
 have Lf:=Lib.hid k.fl
 generalize (T.cells h).toArray=cs at C ⊢
 have hsz:=C.out.size
 obtain ⟨gs,hgd,hgr⟩:=k.groups
 have Hgr:=Lib.hid hgr
 clear hgr
 have hw0:Below w.heap.size w (w.alloc (.cells cs 31)):=(Below.refl _ _).alloc (Nat.le_refl _) _
 have HW0:=Lib.hid hw0
 clear hw0
 have S0:=Lib.hid (St.box (cs:=cs) k)
 clear k
 have Hgd:=Lib.hid hgd
 have hgl:T.groups.length=gs.length:=by rw [← hgd,List.length_map]
 have Hgl:=Lib.hid hgl
 clear hgd hgl
 have hph:=phases_in S0.out.blk C.out L8.out
 have cP:=mayAllP_any 8 (some ⟨w.heap.size,0,none⟩) 8 T.phases _ hph
 rw [L8.out] at cP
 have CP:=Lib.hid cP
 clear cP hph
 have L8p:Hid ((8:Nat)=T.phases.length):=L8.out.symm
 go_enter Tryz.func23,Tryz.ntmps23
 go_wp2_with fail
 refine (CP.out).mono ?_
 rintro e w1 ⟨rfl,hb1⟩
 have S1:=Lib.hid (S0.out.step hb1)
 clear hb1 S0
 generalize hv:(decide (((8:Nat):Int)≤8) && T.phases.all Ph.may)=b1
 have HB1:Hid (listMay 8 Ph.may T.phases=b1):=(by unfold listMay;rw [L8.out];exact hv)
 clear hv
 cases b1
 ·go_wp2
  go_ret
  exact ⟨ret_bool (by unfold tabMay;simp only [HB1.out,Bool.true_and,Bool.false_and,Bool.and_true,Bool.and_false]),S1.out.bel⟩
 have c104:=S1.out.cell C.out.g
 rw [Hgl.out] at c104
 go_wp2_with fail
 refine (mayAllG_any 4 h.g.a h.g.cap gs _ (Hgr.out.1.below S1.out.bel) (fun v hv=>(Hgr.out.2 v hv).below S1.out.bel)).mono ?_
 rintro e w2 ⟨rfl,hb2⟩
 have S2:=Lib.hid (S1.out.step hb2)
 clear hb2 S1
 generalize hv:(decide ((gs.length:Int)≤4) && gs.all (fun v=>groupMay v.data))=b2
 have HB2:Hid (listMay 4 groupMay T.groups=b2):=(by unfold listMay;rw [← Hgd.out,List.length_map,List.all_map];exact hv)
 clear hv
 cases b2
 ·go_wp2
  go_ret
  exact ⟨ret_bool (by unfold tabMay;simp only [HB1.out,HB2.out,Bool.true_and,Bool.false_and,Bool.and_true,Bool.and_false]),S2.out.bel⟩
 go_wp2_with fail
 refine (within_len 255 (some ⟨w.heap.size,105,none⟩) 8 T.conflict 8 Lc.out _ (ints_in S2.out.blk 105 8 _ C.out.conflict Lc.out (by decide))).mono ?_
 rintro e w3 ⟨rfl,rfl⟩
 have S3:=S2
 generalize hv:allIn 255 T.conflict=b3
 have HB3:Hid (allIn 255 T.conflict=b3):=hv
 clear hv
 cases b3
 ·go_wp2
  go_ret
  exact ⟨ret_bool (by unfold tabMay;simp only [HB1.out,HB2.out,HB3.out,Bool.true_and,Bool.false_and,Bool.and_true,Bool.and_false]),S3.out.bel⟩
 have c113:=S3.out.cell C.out.d
 go_wp2_with fail
 refine (mayAllD_any 16 h.d.a h.d.cap T.dets _ S3.out.tab.dets).mono ?_
 rintro e w4 ⟨rfl,hb4⟩
 have S4:=Lib.hid (S3.out.step hb4)
 clear hb4 S3
 generalize hv:(decide ((T.dets.length:Int)≤16) && T.dets.all Det.may)=b4
 have HB4:Hid (listMay 16 Det.may T.dets=b4):=hv
 clear hv
 cases b4
 ·go_wp2
  go_ret
  exact ⟨ret_bool (by unfold tabMay;simp only [HB1.out,HB2.out,HB3.out,HB4.out,Bool.true_and,Bool.false_and,Bool.and_true,Bool.and_false]),S4.out.bel⟩
 have c114:=S4.out.cell C.out.r
 go_wp2_with fail
 refine (mayAllR_any 4 h.r.a h.r.cap T.rails _ S4.out.tab.rails).mono ?_
 rintro e w5 ⟨rfl,hb5⟩
 have S5:=Lib.hid (S4.out.step hb5)
 clear hb5 S4
 generalize hv:(decide ((T.rails.length:Int)≤4) && T.rails.all Rl.may)=b5
 have HB5:Hid (listMay 4 Rl.may T.rails=b5):=hv
 clear hv
 cases b5
 ·go_wp2
  go_ret
  exact ⟨ret_bool (by unfold tabMay;simp only [HB1.out,HB2.out,HB3.out,HB4.out,HB5.out,Bool.true_and,Bool.false_and,Bool.and_true,Bool.and_false]),S5.out.bel⟩
 have c115:=S5.out.cell C.out.b
 go_wp2_with fail
 refine (mayAllB_any 4 h.b.a h.b.cap T.buses _ S5.out.tab.buses).mono ?_
 rintro e w6 ⟨rfl,hb6⟩
 have S6:=Lib.hid (S5.out.step hb6)
 clear hb6 S5
 generalize hv:(decide ((T.buses.length:Int)≤4) && T.buses.all Bs.may)=b6
 have HB6:Hid (listMay 4 Bs.may T.buses=b6):=hv
 clear hv
 cases b6
 ·go_wp2
  go_ret
  exact ⟨ret_bool (by unfold tabMay;simp only [HB1.out,HB2.out,HB3.out,HB4.out,HB5.out,HB6.out,Bool.true_and,Bool.false_and,Bool.and_true,Bool.and_false]),S6.out.bel⟩
 have c116:=S6.out.cell C.out.extend
 have c117:=S6.out.cell C.out.budget
 have c118:=S6.out.cell C.out.start
 have c119:=S6.out.cell C.out.revert
 have c120:=S6.out.cell C.out.least
 go_wp2_with fail
 refine (within_any 9999 _ _ [T.extend,T.budget,T.start,T.revert,T.least] _ (row_new _ _ [T.extend,T.budget,T.start,T.revert,T.least] 5 rfl (by decide) _ rfl)).mono ?_
 rintro e w7 ⟨rfl,hw⟩
 have hb7:Below w6.heap.size w6 w7:=hw ▸ (Below.refl _ _).alloc (Nat.le_refl _) _
 clear hw
 have S7:=Lib.hid (S6.out.step hb7)
 clear hb7 S6
 generalize hv:allIn 9999 [T.extend,T.budget,T.start,T.revert,T.least]=b7
 have HB7:Hid (allIn 9999 [T.extend,T.budget,T.start,T.revert,T.least]=b7):=hv
 clear hv
 cases b7
 ·go_wp2
  go_ret
  exact ⟨ret_bool (by unfold tabMay;simp only [HB1.out,HB2.out,HB3.out,HB4.out,HB5.out,HB6.out,HB7.out,Bool.true_and,Bool.false_and,Bool.and_true,Bool.and_false]),S7.out.bel⟩
 go_wp2_with fail
 refine (within_len 2 (some ⟨w.heap.size,121,none⟩) 8 T.flash 8 Lf.out _ (ints_in S7.out.blk 121 8 _ C.out.flash Lf.out (by decide))).mono ?_
 rintro e w8 ⟨rfl,rfl⟩
 have S8:=S7
 generalize hv:allIn 2 T.flash=b8
 have HB8:Hid (allIn 2 T.flash=b8):=hv
 clear hv
 cases b8
 ·go_wp2
  go_ret
  exact ⟨ret_bool (by unfold tabMay;simp only [HB1.out,HB2.out,HB3.out,HB4.out,HB5.out,HB6.out,HB7.out,HB8.out,Bool.true_and,Bool.false_and,Bool.and_true,Bool.and_false]),S8.out.bel⟩
 have c129:=S8.out.cell C.out.window
 have c130:=S8.out.cell C.out.share
 go_wp2_with fail
 refine (within_any 2147483647 _ _ [T.window,T.share] _ (row_new _ _ [T.window,T.share] 2 rfl (by decide) _ rfl)).mono ?_
 rintro e w9 ⟨rfl,hw⟩
 have hb9:Below w7.heap.size w7 w9:=hw ▸ (Below.refl _ _).alloc (Nat.le_refl _) _
 clear hw
 have S9:=Lib.hid (S8.out.step hb9)
 clear hb9 S8
 generalize hv:allIn 2147483647 [T.window,T.share]=b9
 have HB9:Hid (allIn 2147483647 [T.window,T.share]=b9):=hv
 clear hv
 go_wp2
 go_ret
 exact ⟨ret_bool (by unfold tabMay;simp only [HB1.out,HB2.out,HB3.out,HB4.out,HB5.out,HB6.out,HB7.out,HB8.out,HB9.out,Bool.true_and,Bool.false_and,Bool.and_true,Bool.and_false]),S9.out.bel⟩
end May
namespace Cd
open Go Tab
open Put (low low_len low_lt)
def B8 (l:List Nat):Prop:=∀ x ∈ l,x < 256
theorem B8.app {a b:List Nat} (h:B8 a) (k:B8 b):B8 (a++b):=fun x hx=>(List.mem_append.1 hx).elim (h x) (k x)
theorem B8.low (k:Nat) (n:Int):B8 (low k n):=low_lt k n
theorem B8.puts (k:Nat) (l:List Int):B8 (puts k l):=puts_lt k l
theorem B8.flat {α:Type} {f:α→List Nat} {l:List α} (h:∀ x,B8 (f x)):B8 (l.flatMap f):=fun x hx=>by
 obtain ⟨y,_,hy⟩:=List.mem_flatMap.1 hx
 exact h y x hy
theorem B8.list {α:Type} {f:α→List Nat} {l:List α} (h:∀ x,B8 (f x)):B8 (listB f l):=(B8.low _ _).app (B8.flat h)
theorem B8.ph (p:Ph):B8 (phB p):=(B8.puts _ _).app ((B8.puts _ _).app (B8.puts _ _))
theorem B8.row (l:List Int):B8 (rowB l):=(B8.low _ _).app (B8.puts _ _)
theorem B8.gr (y:List Int × List Int):B8 (grB y):=(B8.row _).app (B8.row _)
theorem B8.det (d:Det):B8 (detB d):=(B8.low _ _).app ((B8.low _ _).app ((B8.low _ _).app ((B8.low _ _).app ((B8.low _ _).app (B8.puts _ _)))))
theorem B8.rl (r:Rl):B8 (rlB r):=(B8.puts _ _).app ((B8.puts _ _).app (B8.puts _ _))
theorem B8.bs (b:Bs):B8 (bsB b):=(B8.puts _ _).app (B8.puts _ _)
theorem B8.items (T:Tab):B8 (itemsB T):=(B8.flat B8.ph).app ((B8.list B8.gr).app ((B8.puts _ _).app ((B8.list B8.det).app ((B8.list B8.rl).app ((B8.list B8.bs).app ((B8.puts _ _).app ((B8.puts _ _).app (B8.puts _ _))))))))
theorem B8.body (T:Tab):B8 (bodyB T):=B8.app (fun x hx=>by simp at hx;omega) (B8.items T)
structure Few (T:Tab):Prop where
 p:T.phases.length=8
 c:T.conflict.length=8
 f:T.flash.length=8
 g:T.groups.length≤4
 d:T.dets.length≤16
 r:T.rails.length≤4
 b:T.buses.length≤4
 row:∀ y ∈ T.groups,y.1.length≤8∧y.2.length≤8
theorem few_of {T:Tab} {w:World} {h:Hd} (ht:IsTab w h T) (hm:May.tabMay T=true):Few T:=by
 unfold May.tabMay May.listMay at hm
 simp only [Bool.and_eq_true,decide_eq_true_eq] at hm
 obtain ⟨_,⟨h1,h2⟩,_,⟨h3,_⟩,⟨h4,_⟩,⟨h5,_⟩,_⟩:=hm
 refine ⟨ht.ph,ht.cf,ht.fl,by omega,by omega,by omega,by omega,fun y hy=>?_⟩
 have:=List.all_eq_true.1 h2 y hy
 unfold May.groupMay May.rowMay at this
 simp only [Bool.and_eq_true,decide_eq_true_eq] at this
 exact ⟨this.1.1,this.2.1⟩
theorem Few.light {T:Tab} (h:Few T):Po.Light T:=⟨by have:=h.g;omega,by have:=h.d;omega,by have:=h.r;omega,by have:=h.b;omega,h.row⟩
theorem Few.steps {T:Tab} (h:Few T):Po.stepsT T≤400:=by unfold Po.stepsT;have:=h.g;have:=h.d;have:=h.r;have:=h.b;omega
theorem Few.len {T:Tab} (h:Few T):(bodyB T).length≤2046:=by
 have h1:=flat_len T.phases (f:=phB) (n:=22) (fun x _=>by rw [phB_len];exact Nat.le_refl _)
 have h2:=listB_len T.groups (f:=grB) (n:=18) (fun y hy=>by unfold grB;rw [List.length_append,rowB_len,rowB_len];have:=h.row y hy;omega)
 have h3:=listB_len T.dets (f:=detB) (n:=37) (fun x _=>by rw [detB_len];exact Nat.le_refl _)
 have h4:=listB_len T.rails (f:=rlB) (n:=20) (fun x _=>by rw [rlB_len];exact Nat.le_refl _)
 have h5:=listB_len T.buses (f:=bsB) (n:=3) (fun x _=>by rw [bsB_len];exact Nat.le_refl _)
 unfold bodyB itemsB
 simp only [List.length_append,puts_len,List.length_cons,List.length_nil]
 have:=h.p;have:=h.c;have:=h.f;have:=h.g;have:=h.d;have:=h.r;have:=h.b
 omega
end Cd
namespace Crc
open Go.ChangeShapes Go.WideShapes Go.ChangeAt Go.RowKit
open CrcM
theorem ret_int {k:IntKind} {a b:Int} (h:a=b):Ending.returned (.int k a)=.returned (.int k b):=by rw [h]
theorem wrap16 (a:Nat):IntKind.u16.wrap (a:Int)=((a % 65536:Nat):Int):=by rw [IntKind.wrap_u16];omega
theorem xor_rule (a:Nat) (h:a < 65536):bits .xor .u16 (a:Int) 4129=((a ^^^ 4129:Nat):Int):=u16_xor_nat a 4129 h (by decide)
theorem top_bit (c:Nat) (h:c < 65536):bits .and .u16 (c:Int) 32768=if c / 32768 % 2=1 then 32768 else 0:=by
 have h1:=u16_and_nat c 32768 h (by decide)
 rw [show bits .and .u16 (c:Int) 32768=((c &&& 32768:Nat):Int) from h1]
 have h2:c &&& 32768=if c / 32768 % 2=1 then 32768 else 0:=by
  have h5:c.testBit 15=decide (c / 32768 % 2=1):=Nat.testBit_eq_decide_div_mod_eq
  apply Nat.eq_of_testBit_eq
  intro i
  rw [Nat.testBit_and,show (32768:Nat)=2 ^ 15 from rfl,Nat.testBit_two_pow]
  by_cases hi:15=i
  ·subst hi
   rw [h5]
   by_cases h4:c / 32768 % 2=1
   ·rw [if_pos h4,decide_eq_true h4];decide
   ·rw [if_neg h4,decide_eq_false h4];decide
  ·rw [decide_eq_false hi,Bool.and_false]
   split
   ·rw [Nat.testBit_two_pow,decide_eq_false hi]
   ·rw [Nat.zero_testBit]
 rw [h2];split <;> rfl
theorem dbl_hit (c:Nat) (h:c < 65536) (hc:c / 32768 % 2=1):bits .xor .u16 (IntKind.u16.wrap ((c:Int)*2)) 4129=(dbl c:Nat):=by
 rw [show (c:Int)*2=((2*c:Nat):Int) by omega,wrap16,xor_rule _ (Nat.mod_lt _ (by decide))]
 unfold dbl;rw [if_pos hc]
theorem dbl_miss (c:Nat) (h:c < 65536) (hc:¬ c / 32768 % 2=1):IntKind.u16.wrap ((c:Int)*2)=(dbl c:Nat):=by
 rw [show (c:Int)*2=((2*c:Nat):Int) by omega,wrap16]
 unfold dbl;rw [if_neg hc,Nat.xor_zero]
theorem double_any (c:Nat) (h:c < 65536) (w:World) :
  Calls Tryz.prog 129 #[.int .u16 (c:Int)] w fun e w'=>e=.returned (.int .u16 (dbl c:Nat))∧w=w':=by
 have hb:=top_bit c h
 by_cases hc:c / 32768 % 2=1
 ·rw [if_pos hc] at hb
  have HS:=Lib.hid (dbl_hit c h hc)
  clear hc
  go_enter Tryz.func129,Tryz.ntmps129
  go_wp2
  go_ret
  exact ⟨ret_int HS.out,rfl⟩
 ·rw [if_neg hc] at hb
  have HS:=Lib.hid (dbl_miss c h hc)
  clear hc
  go_enter Tryz.func129,Tryz.ntmps129
  go_wp2
  go_ret
  exact ⟨ret_int HS.out,rfl⟩
def Row (w:World) (a:Option Addr) (l:List Nat):Prop:=l.length≤maxLen∧(∀ x ∈ l,x < 256)∧(l=[]∨∃ x,a=some x∧∀ i,i < l.length→w.cell? (x.add i)=some (.int .u8 (l.getD i 0:Nat)))
theorem Row.cells {w:World} {a:Option Addr} {l:List Nat} (h:Row w a l) {k:Nat} (hk:k < l.length):∃ x,a=some x∧∀ i,i < l.length→w.cell? (x.add i)=some (.int .u8 (l.getD i 0:Nat)):=by
 rcases h.2.2 with rfl | h
 ·simp at hk
 ·exact h
theorem Row.below {w w':World} {a:Option Addr} {l:List Nat} (h:Row w a l) (hb:Below w.heap.size w w'):Row w' a l:=by
 refine ⟨h.1,h.2.1,?_⟩
 rcases h.2.2 with h | ⟨x,hx,hc⟩
 ·exact .inl h
 ·exact .inr ⟨x,hx,fun i hi=>(hb.cell (World.block_lt_of_cell? w _ (hc i hi))).trans (hc i hi)⟩
theorem Row.lt {w:World} {a:Option Addr} {l:List Nat} (h:Row w a l) (k:Nat) (hk:k < l.length):l.getD k 0 < 256:=by
 rw [List.getD_eq_getElem?_getD,List.getElem?_eq_getElem hk];exact h.2.1 _ (List.getElem_mem hk)
def cells (k:Nat):Array Value:=((List.range 256).map fun i=>if i < k then .int .u16 (tab i:Nat) else .int .u16 0).toArray
theorem cells_size (k:Nat):(cells k).size=256:=by simp [cells]
theorem cells_at (k i:Nat) (h:i < 256):(cells k)[i]?=some (if i < k then .int .u16 (tab i:Nat) else .int .u16 0):=by
 unfold cells
 rw [List.getElem?_toArray,List.getElem?_map,List.getElem?_range h];rfl
theorem cells_zero:Array.replicate 256 (.int .u16 0)=cells 0:=by
 apply Array.ext_getElem?
 intro i
 by_cases h:i < 256
 ·rw [cells_at 0 i h,Array.getElem?_replicate,if_pos h];rfl
 ·rw [Array.getElem?_eq_none (by simp;omega),Array.getElem?_eq_none (by rw [cells_size];omega)]
theorem cells_set (k:Nat) (h:k < 256):(cells k).setIfInBounds k (.int .u16 (tab k:Nat))=cells (k+1):=by
 apply Array.ext_getElem?
 intro i
 by_cases hi:i < 256
 ·by_cases e:k=i
  ·subst e
   rw [Array.getElem?_setIfInBounds_self_of_lt (by rw [cells_size];exact h),cells_at _ _ h,if_pos (Nat.lt_succ_self _)]
  ·rw [Array.getElem?_setIfInBounds_ne e,cells_at _ _ hi,cells_at _ _ hi]
   by_cases h2:i < k
   ·rw [if_pos h2,if_pos (by omega)]
   ·rw [if_neg h2,if_neg (by omega)]
 ·rw [Array.getElem?_eq_none (by rw [Array.size_setIfInBounds,cells_size];omega),Array.getElem?_eq_none (by rw [cells_size];omega)]
theorem cells_half (k:Nat) (h:k < 256):(cells k)[k / 2]?=some (.int .u16 (tab (k / 2):Nat)):=by
 rw [cells_at _ _ (by omega)]
 by_cases h2:k / 2 < k
 ·rw [if_pos h2]
 ·have:k=0:=by omega
  subst this
  rw [if_neg (by decide)]
  rw [show 0 / 2=0 from rfl,tab_zero];rfl
theorem cells_one (k:Nat):(cells k).all (·.oneCell')=true:=by
 rw [Array.all_eq_true]
 intro i hi
 rw [cells_size] at hi
 have h1:=cells_at k i hi
 rw [Array.getElem?_eq_getElem (by rw [cells_size];exact hi)] at h1
 rw [Option.some.inj h1]
 split <;> rfl
theorem store_whole (w:World) (g:Nat) (t:TypeId) (j k:Nat) (hg:w.heap[g]?=some (.cells (cells j) t (0,0))) :
  (storeCells ⟨g,0,none⟩ (cells k).toList 0).run Tryz.prog w=.ok () (w.setRow g (cells k)):=by
 have:=run_storeCells_from (P:=Tryz.prog) g t (cells k).toList 0 (cells j) w hg (by simp [cells_size]) (fun v hv=>(Array.all_eq_true_iff_forall_mem.1 (cells_one k)) v (by simpa using hv))
 simpa using this
theorem info36:(Tryz.prog.info? 165).map (fun i=>(i.zero,i.size))=some (some (.agg (Array.replicate 256 (.int .u16 0))),256):=by kernel_rfl
theorem table_any (w:World) :
  Calls Tryz.prog 111 #[] w fun e w'=>e=.returned (.agg (cells 256))∧Below w.heap.size w w':=by
 obtain ⟨hz,hi⟩:=zero_of_info info36
 rw [cells_zero] at hz
 have Hi:=Lib.hid hi
 clear hi
 go_enter Tryz.func111,Tryz.ntmps111
 go_wp2_with fail
 go_loopw [3] (fun i wr=>∃ k:Nat,k≤256∧i=.int .i64 k∧wr=(w.alloc (.cells (cells 0) 165)).alloc (.cells (cells k) 165)) (fun i _=>256 - (intOf i).toNat)
 case atStart=>exact ⟨0,by omega,rfl,rfl⟩
 case round =>
  obtain ⟨k,hk,rfl,rfl⟩:=hrel
  by_cases hlt:k < 256
  ·have hcell:=cells_half k hlt
   have hsz:=cells_size k
   have ht:=tab_lt (k / 2)
   have HS:=Lib.hid (cells_set k hlt)
   have hto:((k:Int) / 2).toNat=k / 2:=by omega
   have hd:=dbl_lt (tab (k / 2))
   by_cases ho:k % 2=1
   ·have hx:bits .xor .u16 (dbl (tab (k / 2)):Nat) 4129=(tab k:Nat):=by rw [xor_rule _ hd,← tab_odd k hlt ho]
    have ho2:((k:Int) % 2)=1:=by omega
    go_wp2_with (go_at_call 129;refine (double_any _ ht _).mono ?_;rintro e w' ⟨rfl,rfl⟩)
    go_roundw
    case rel=>exact ⟨k+1,by omega,by go_num,by rw [HS.out]⟩
    case measure=>simp [intOf];omega
   ·have hx:dbl (tab (k / 2))=tab k:=(tab_even k hlt ho).symm
    have HX:=Lib.hid hx
    clear hx
    have ho2:((k:Int) % 2)=0:=by omega
    go_wp2_with (go_at_call 129;refine (double_any _ ht _).mono ?_;rintro e w' ⟨rfl,rfl⟩;rw [HX.out])
    go_roundw
    case rel=>exact ⟨k+1,by omega,by go_num,by rw [HS.out]⟩
    case measure=>simp [intOf];omega
  ·obtain rfl:k=256:=by omega
   have hu:Tryz.prog.underlying 165=some (.array 256 64):=by kernel_rfl
   have hg1:((w.alloc (.cells (cells 0) 165)).alloc (.cells (cells 256) 165)).heap[w.heap.size+1]?=some (.cells (cells 256) 165 (0,0)):=heap_alloc2_new w _ _
   have hg0:((w.alloc (.cells (cells 0) 165)).alloc (.cells (cells 256) 165)).heap[w.heap.size]?=some (.cells (cells 0) 165 (0,0)):=heap_alloc2_old w _ _
   have hbel:Below w.heap.size w ((w.alloc (.cells (cells 0) 165)).alloc (.cells (cells 256) 165)):=((Below.refl _ _).alloc (Nat.le_refl _) _).alloc (by simp) _
   generalize (w.alloc (.cells (cells 0) 165)).alloc (.cells (cells 256) 165)=w2 at hg1 hg0 hbel ⊢
   have hst:=store_whole w2 w.heap.size _ 0 256 hg0
   have HG:=Lib.hid (And.intro hg1 hu)
   have HF:Hid (Below w.heap.size w (w2.setRow w.heap.size (cells 256))∧(w2.setRow w.heap.size (cells 256)).heap[w.heap.size]?=some (.cells (cells 256) 165 (0,0))) :=
    ⟨hbel.trans ⟨rfl,rfl,rfl,by simp [World.setRow],fun j hj=>setRow_other _ _ _ _ (by omega)⟩,setRow_heap _ _ _ _ _ _ hg0⟩
   generalize w2.setRow w.heap.size (cells 256)=w3 at HF hst
   clear hg1 hg0 hu hz hbel
   go_wp2_with fail
   refine wp_load_row 165 (.tmp 1) rfl (w.heap.size+1) rfl 165 (cells 256) (0,0) _ HG.out.1 HG.out.2 rfl (by rw [cells_size];exact Hi.out) ?_
   go_wp2_with fail
   (try simp only [Exit.inBlock,Exit.then])
   refine bodyPost_ret (v:=.agg (cells 256)) ?_ rfl ⟨rfl,HF.out.1⟩
   exact results_cell_row rfl _ _ w.heap.size 165 (cells 256) (0,0) _ rfl HF.out.2 HG.out.2 rfl (by rw [cells_size];exact Hi.out)
end Crc
namespace CrcA
open Go.ChangeShapes Go.WideShapes Go.ChangeAt Go.RowKit
open CrcM Crc
theorem idx (d y:Nat) (hd:d < 65536) (hy:y < 256):bits .xor .u8 ((d:Int) / 256) (y:Int)=((d / 256 ^^^ y:Nat):Int):=by
 rw [show (d:Int) / 256=((d / 256:Nat):Int) by omega]
 exact u8_xor_nat _ _ (by omega) hy
theorem idx_lt (d y:Nat) (hd:d < 65536) (hy:y < 256):d / 256 ^^^ y < 256:=Nat.xor_lt_two_pow (n:=8) (by omega) hy
theorem step_bits (d y:Nat):bits .xor .u16 (IntKind.u16.wrap ((d:Int)*256)) (tab (d / 256 ^^^ y):Nat)=(CrcM.step d y:Nat):=by
 rw [show (d:Int)*256=((256*d:Nat):Int) by omega,wrap16]
 exact u16_xor_nat _ _ (Nat.mod_lt _ (by decide)) (tab_lt _)
theorem add_any (c:Nat) (hc:c < 65536) (a:Option Addr) (cap:Nat) (l:List Nat) (w:World) (h:Row w a l) :
  Calls Tryz.prog 76 #[.int .u16 (c:Int),.slice a l.length cap] w fun e w'=>e=.returned (.int .u16 (crc c l:Nat))∧Below w.heap.size w w':=by
 have h1:=h.1
 unfold maxLen at h1
 obtain ⟨hz,hi⟩:=zero_of_info info36
 rw [cells_zero] at hz
 have Hr:=Lib.hid h
 have Hi:=Lib.hid hi
 clear h hi
 go_enter Tryz.func76,Tryz.ntmps76
 go_wp2_with fail
 refine (table_any _).mono ?_
 rintro e w1 ⟨rfl,hb1⟩
 have hb2:Below w.heap.size w (w1.alloc (.cells (cells 256) 165)):=hb1.alloc hb1.size _
 have hst:(storeCells ⟨w1.heap.size,0,none⟩ (cells 256).toList 0).run Tryz.prog (w1.alloc (.cells (cells 0) 165))=.ok () (w1.alloc (.cells (cells 256) 165)):=by
  rw [store_whole _ _ _ 0 256 (heap_alloc_last w1 _),World.setRow_alloc_new]
 have ht:∀ j:Nat,j < 256→(w1.alloc (.cells (cells 256) 165)).cell? ⟨w1.heap.size,j,none⟩=some (.int .u16 (tab j:Nat)):=fun j hj=>by
  rw [World.cell?_alloc_at _ _ _ _ rfl,cells_at _ _ hj,if_pos hj]
 have Ht:=Lib.hid ht
 clear ht
 go_wp2_with fail
 have Hr2:=Lib.hid (Hr.out.below hb2)
 have Hb2:=Lib.hid hb2
 generalize w1.alloc (.cells (cells 256) 165)=w2 at Ht Hr2 Hb2 ⊢
 clear Hr hst hb2
 go_loop [0,11] (fun t i=>∃ k:Nat,k≤l.length∧i=.int .i64 k∧t=.int .u16 (crc c (l.take k):Nat)) (fun _ i=>l.length - (intOf i).toNat)
 case atStart=>exact ⟨0,Nat.zero_le _,rfl,rfl⟩
 case round =>
  obtain ⟨k,hk,rfl,rfl⟩:=hrel
  by_cases hlt:k < l.length
  ·have hs:=CrcM.take_snoc l k hlt
   have hx:=Hr2.out.lt k hlt
   obtain ⟨x,rfl,hcl⟩:=Hr2.out.cells hlt
   have hcell:=hcl k hlt
   have hd:=crc_lt c (l.take k) hc
   have HS:Hid (crc c (l.take (k+1))=CrcM.step (crc c (l.take k)) (l.getD k 0)):=by
    show _=_
    rw [hs,crc_snoc]
   clear hcl hs
   generalize crc c (l.take k)=d at hd HS
   generalize l.getD k 0=y at hcell hx HS
   have hj:=idx d y hd hx
   have hjl:=idx_lt d y hd hx
   have hst:=step_bits d y
   have htc:=Ht.out _ hjl
   rw [← HS.out] at hst
   clear HS
   generalize d / 256 ^^^ y=j at hj hjl hst htc
   have hjn:(j:Int).toNat=j:=Int.toNat_natCast j
   have hj2:(j:Int) < 256:=by omega
   go_wp2
   go_round
   case rel=>exact ⟨k+1,by omega,by go_num,rfl⟩
   case measure=>simp [intOf];omega
  ·go_wp2
   go_ret
   have:k=l.length:=by omega
   subst this
   exact ⟨by rw [List.take_of_length_le (Nat.le_refl _)];rfl,Hb2.out⟩
theorem of_any (a:Option Addr) (cap:Nat) (l:List Nat) (w:World) (h:Row w a l) :
  Calls Tryz.prog 27 #[.slice a l.length cap] w fun e w'=>e=.returned (.int .u16 (crc 65535 l:Nat))∧Below w.heap.size w w':=by
 have Hr:=Lib.hid h
 clear h
 go_enter Tryz.func27,Tryz.ntmps27
 go_wp2_with fail
 refine (add_any 65535 (by decide) _ _ l _ Hr.out).mono ?_
 rintro e w1 ⟨rfl,hb⟩
 go_wp2
 go_ret
 exact ⟨rfl,hb⟩
end CrcA
namespace May
open Go.ChangeShapes Go.WideShapes Go.ChangeAt Go.RowKit
open Tab
def GAll (l:List Gr):Prop:=l.all (fun v=>groupMay v.data)=true
theorem GAll.step {l:List Gr} {k:Nat} {v:Gr} (h:l[k]?=some v) (hk:GAll (l.take k)) (hv:groupMay v.data=true):GAll (l.take (k+1)):=all_step (f:=fun v:Gr=>groupMay v.data) h hk hv
theorem GAll.fin {l:List Gr} {k:Nat} (hk:GAll (l.take k)) (h:¬ k < l.length):l.all (fun v=>groupMay v.data)=true:=all_end (f:=fun v:Gr=>groupMay v.data) hk h
theorem infoT:(Tryz.prog.info? 31).map (·.size)=some 131:=by kernel_rfl
end May
namespace Po
open Go Go.RowKit Go.ChangeShapes
open Tab
open Put (low lim)
open Go.Proofs.YtggjconbgpfomaaGreat.B (Own own_row)
theorem own_mono {B B':Nat} {w:World} {v:Value} {l:List Nat} (h:Own B' w v l) (hb:B≤B'):Own B w v l:=by
 refine ⟨h.1,?_⟩
 rcases h.2 with h0 | ⟨g,cap,cur,h1,h2,h3⟩
 ·exact .inl h0
 ·exact .inr ⟨g,cap,cur,h1,by omega,h3⟩
theorem head_low:low (lim 3 8) 5784065=[88,66,1]:=by decide +kernel
end Po
end Go.Proofs.YtggjconbgpfomaaGreat
