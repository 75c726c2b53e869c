/- 17 texts in one file, in build order. -/
import Derived.Test.YtkkfdojjecagmaaGreatPart01
import Derived.Test.YtkkfdojjecagmaaGreatRows
import Derived.LoopTactic
import Derived.Great.BuildSlice
import Derived.Deep.Cut
import Derived.OwnWalk
import Derived.Laws.CopyOwn
import Derived.OpenShut
import Derived.ChangeArms
import Derived.DeepKeys
import Derived.Deep.QuietTactic
import Derived.Below
import Derived.StillTail
import Derived.StillTailTactics
import Derived.Laws.Rows
set_option linter.unusedVariables false
set_option linter.unusedSimpArgs false
set_option linter.unusedSectionVars false
set_option maxHeartbeats 8000000
set_option maxRecDepth 100000
namespace Go.Proofs.YtkkfdojjecagmaaGreat
namespace May
open Zip
open Go.ChangeShapes Go.WideShapes Go.ChangeAt Go.RowKit
open Tab MayF
def Ph.may (p:Ph):Bool:=allIn 9999 [p.min,p.gap,p.max,p.top,p.step,p.yellow,p.red,p.walk,p.blinks] && allIn 3 [p.recall]
def rowMay (l:List Int):Bool:=decide (l.length≤8) && allIn 7 l
def groupMay (g:List Int × List Int):Bool:=rowMay g.1 && rowMay g.2
def Det.may (d:Det):Bool:=allIn 7 [d.phase] && (level d.on && (level d.off && (span d.delay && (span d.extend && allIn 9999 [d.maxOn,d.maxOff]))))
def Rl.may (r:Rl):Bool:=allIn 255 [r.bars,r.clear,r.dwell,r.exit] && (allIn 9999 [r.delay,r.green,r.foot,r.hold,r.stay,r.most] && allIn 2147483647 [r.limit])
def Bs.may (b:Bs):Bool:=allIn 255 [b.set] && allIn 9999 [b.lock]
theorem row_new (w:World) (t:TypeId) (l:List Int) (n:Nat) (hn:l.length=n) (hm:n≤maxLen) (k:Nat) (hk:w.heap.size=k):IntRow (w.alloc (.cells (l.map I).toArray t)) ⟨some ⟨k,0,none⟩,n⟩ l:=by
 subst hn hk
 refine .inr ⟨_,rfl,Nat.le_refl _,hm,fun i v hv j u hu=>?_⟩
 cases j with
 | zero =>
  obtain rfl:=Option.some.inj hu
  rw [Nat.mul_one,add_two,Nat.add_zero,Addr.add_mid,Nat.zero_add]
  rw [cell_of_row _ _ _ _ _ _ (heap_alloc_new w _)]
  simp [hv]
 | succ j=>cases hu
theorem mayPhase_any (p:Ph) (w:World) :
  Calls Tryz.prog 65 #[.agg (Ph.cells p).toArray] w fun e w'=>e=.returned (.bool (Ph.may p))∧Below w.heap.size w w':=by
 obtain ⟨on,min,gap,max,top,step,yellow,red,walk,blinks,recall,lock,rest⟩:=p
 show Calls Tryz.prog 65 #[.agg #[.bool on,I min,I gap,I max,I top,I step,I yellow,I red,I walk,I blinks,I recall,.bool lock,.bool rest]] w _
 go_enter Tryz.func65,Tryz.ntmps65
 go_wp2_with fail
 refine (within_any 9999 _ _ [min,gap,max,top,step,yellow,red,walk,blinks] _ (row_new _ _ [min,gap,max,top,step,yellow,red,walk,blinks] 9 rfl (by decide) _ (by simp))).mono ?_
 rintro e w' ⟨rfl,rfl⟩
 generalize hb1:allIn 9999 [min,gap,max,top,step,yellow,red,walk,blinks]=b1
 have HB1:=hJJ hb1
 clear hb1
 cases b1
 ·go_wp2
  go_ret
  exact ⟨ret_bool (by unfold Ph.may;simp only [HB1.out,Bool.true_and,Bool.false_and,Bool.and_true,Bool.and_false]),(by repeat' first | exact Below.refl _ _ | (refine Below.alloc ?_ ?_ _) | (simp;done) | (simp;omega))⟩
 go_wp2_with fail
 refine (within_any 3 _ _ [recall] _ (row_new _ _ [recall] 1 rfl (by decide) _ (by simp))).mono ?_
 rintro e w' ⟨rfl,rfl⟩
 generalize hb2:allIn 3 [recall]=b2
 have HB2:=hJJ hb2
 clear hb2
 go_wp2
 go_ret
 exact ⟨ret_bool (by unfold Ph.may;simp only [HB1.out,HB2.out,Bool.true_and,Bool.false_and,Bool.and_true,Bool.and_false]),(by repeat' first | exact Below.refl _ _ | (refine Below.alloc ?_ ?_ _) | (simp;done) | (simp;omega))⟩
theorem mayDetector_any (d:Det) (w:World) :
  Calls Tryz.prog 70 #[.agg (Det.cells d).toArray] w fun e w'=>e=.returned (.bool (Det.may d))∧Below w.heap.size w w':=by
 obtain ⟨phase,on,off,delay,extend,maxOn,maxOff⟩:=d
 show Calls Tryz.prog 70 #[.agg #[I phase,F on,F off,F delay,F extend,I maxOn,I maxOff]] w _
 go_enter Tryz.func70,Tryz.ntmps70
 go_wp2_with fail
 refine (within_any 7 _ _ [phase] _ (row_new _ _ [phase] 1 rfl (by decide) _ (by simp))).mono ?_
 rintro e w' ⟨rfl,rfl⟩
 generalize hb1:allIn 7 [phase]=b1
 have HB1:=hJJ hb1
 clear hb1
 cases b1
 ·go_wp2
  go_ret
  exact ⟨ret_bool (by unfold Det.may;simp only [HB1.out,Bool.true_and,Bool.false_and,Bool.and_true,Bool.and_false]),(by repeat' first | exact Below.refl _ _ | (refine Below.alloc ?_ ?_ _) | (simp;done) | (simp;omega))⟩
 go_wp2_with fail
 refine (level_any on _).mono ?_
 rintro e w' ⟨rfl,rfl⟩
 generalize hb2:level on=b2
 have HB2:=hJJ hb2
 clear hb2
 cases b2
 ·go_wp2
  go_ret
  exact ⟨ret_bool (by unfold Det.may;simp only [HB1.out,HB2.out,Bool.true_and,Bool.false_and,Bool.and_true,Bool.and_false]),(by repeat' first | exact Below.refl _ _ | (refine Below.alloc ?_ ?_ _) | (simp;done) | (simp;omega))⟩
 go_wp2_with fail
 refine (level_any off _).mono ?_
 rintro e w' ⟨rfl,rfl⟩
 generalize hb3:level off=b3
 have HB3:=hJJ hb3
 clear hb3
 cases b3
 ·go_wp2
  go_ret
  exact ⟨ret_bool (by unfold Det.may;simp only [HB1.out,HB2.out,HB3.out,Bool.true_and,Bool.false_and,Bool.and_true,Bool.and_false]),(by repeat' first | exact Below.refl _ _ | (refine Below.alloc ?_ ?_ _) | (simp;done) | (simp;omega))⟩
 go_wp2_with fail
 refine (span_any delay _).mono ?_
 rintro e w' ⟨rfl,rfl⟩
 generalize hb4:span delay=b4
 have HB4:=hJJ hb4
 clear hb4
 cases b4
 ·go_wp2
  go_ret
  exact ⟨ret_bool (by unfold Det.may;simp only [HB1.out,HB2.out,HB3.out,HB4.out,Bool.true_and,Bool.false_and,Bool.and_true,Bool.and_false]),(by repeat' first | exact Below.refl _ _ | (refine Below.alloc ?_ ?_ _) | (simp;done) | (simp;omega))⟩
 go_wp2_with fail
 refine (span_any extend _).mono ?_
 rintro e w' ⟨rfl,rfl⟩
 generalize hb5:span extend=b5
 have HB5:=hJJ hb5
 clear hb5
 cases b5
 ·go_wp2
  go_ret
  exact ⟨ret_bool (by unfold Det.may;simp only [HB1.out,HB2.out,HB3.out,HB4.out,HB5.out,Bool.true_and,Bool.false_and,Bool.and_true,Bool.and_false]),(by repeat' first | exact Below.refl _ _ | (refine Below.alloc ?_ ?_ _) | (simp;done) | (simp;omega))⟩
 go_wp2_with fail
 refine (within_any 9999 _ _ [maxOn,maxOff] _ (row_new _ _ [maxOn,maxOff] 2 rfl (by decide) _ (by simp))).mono ?_
 rintro e w' ⟨rfl,rfl⟩
 generalize hb6:allIn 9999 [maxOn,maxOff]=b6
 have HB6:=hJJ hb6
 clear hb6
 go_wp2
 go_ret
 exact ⟨ret_bool (by unfold Det.may;simp only [HB1.out,HB2.out,HB3.out,HB4.out,HB5.out,HB6.out,Bool.true_and,Bool.false_and,Bool.and_true,Bool.and_false]),(by repeat' first | exact Below.refl _ _ | (refine Below.alloc ?_ ?_ _) | (simp;done) | (simp;omega))⟩
theorem mayRail_any (r:Rl) (w:World) :
  Calls Tryz.prog 72 #[.agg (Rl.cells r).toArray] w fun e w'=>e=.returned (.bool (Rl.may r))∧Below w.heap.size w w':=by
 obtain ⟨bars,clear,dwell,exit,delay,green,foot,hold,stay,most,limit⟩:=r
 show Calls Tryz.prog 72 #[.agg #[I bars,I clear,I dwell,I exit,I delay,I green,I foot,I hold,I stay,I most,I limit]] w _
 go_enter Tryz.func72,Tryz.ntmps72
 go_wp2_with fail
 refine (within_any 255 _ _ [bars,clear,dwell,exit] _ (row_new _ _ [bars,clear,dwell,exit] 4 rfl (by decide) _ (by simp))).mono ?_
 rintro e w' ⟨rfl,rfl⟩
 generalize hb1:allIn 255 [bars,clear,dwell,exit]=b1
 have HB1:=hJJ hb1
 clear hb1
 cases b1
 ·go_wp2
  go_ret
  exact ⟨ret_bool (by unfold Rl.may;simp only [HB1.out,Bool.true_and,Bool.false_and,Bool.and_true,Bool.and_false]),(by repeat' first | exact Below.refl _ _ | (refine Below.alloc ?_ ?_ _) | (simp;done) | (simp;omega))⟩
 go_wp2_with fail
 refine (within_any 9999 _ _ [delay,green,foot,hold,stay,most] _ (row_new _ _ [delay,green,foot,hold,stay,most] 6 rfl (by decide) _ (by simp))).mono ?_
 rintro e w' ⟨rfl,rfl⟩
 generalize hb2:allIn 9999 [delay,green,foot,hold,stay,most]=b2
 have HB2:=hJJ hb2
 clear hb2
 cases b2
 ·go_wp2
  go_ret
  exact ⟨ret_bool (by unfold Rl.may;simp only [HB1.out,HB2.out,Bool.true_and,Bool.false_and,Bool.and_true,Bool.and_false]),(by repeat' first | exact Below.refl _ _ | (refine Below.alloc ?_ ?_ _) | (simp;done) | (simp;omega))⟩
 go_wp2_with fail
 refine (within_any 2147483647 _ _ [limit] _ (row_new _ _ [limit] 1 rfl (by decide) _ (by simp))).mono ?_
 rintro e w' ⟨rfl,rfl⟩
 generalize hb3:allIn 2147483647 [limit]=b3
 have HB3:=hJJ hb3
 clear hb3
 go_wp2
 go_ret
 exact ⟨ret_bool (by unfold Rl.may;simp only [HB1.out,HB2.out,HB3.out,Bool.true_and,Bool.false_and,Bool.and_true,Bool.and_false]),(by repeat' first | exact Below.refl _ _ | (refine Below.alloc ?_ ?_ _) | (simp;done) | (simp;omega))⟩
theorem mayBus_any (b:Bs) (w:World) :
  Calls Tryz.prog 74 #[.agg (Bs.cells b).toArray] w fun e w'=>e=.returned (.bool (Bs.may b))∧Below w.heap.size w w':=by
 obtain ⟨set,lock⟩:=b
 show Calls Tryz.prog 74 #[.agg #[I set,I lock]] w _
 go_enter Tryz.func74,Tryz.ntmps74
 go_wp2_with fail
 refine (within_any 255 _ _ [set] _ (row_new _ _ [set] 1 rfl (by decide) _ (by simp))).mono ?_
 rintro e w' ⟨rfl,rfl⟩
 generalize hb1:allIn 255 [set]=b1
 have HB1:=hJJ hb1
 clear hb1
 cases b1
 ·go_wp2
  go_ret
  exact ⟨ret_bool (by unfold Bs.may;simp only [HB1.out,Bool.true_and,Bool.false_and,Bool.and_true,Bool.and_false]),(by repeat' first | exact Below.refl _ _ | (refine Below.alloc ?_ ?_ _) | (simp;done) | (simp;omega))⟩
 go_wp2_with fail
 refine (within_any 9999 _ _ [lock] _ (row_new _ _ [lock] 1 rfl (by decide) _ (by simp))).mono ?_
 rintro e w' ⟨rfl,rfl⟩
 generalize hb2:allIn 9999 [lock]=b2
 have HB2:=hJJ hb2
 clear hb2
 go_wp2
 go_ret
 exact ⟨ret_bool (by unfold Bs.may;simp only [HB1.out,HB2.out,Bool.true_and,Bool.false_and,Bool.and_true,Bool.and_false]),(by repeat' first | exact Below.refl _ _ | (refine Below.alloc ?_ ?_ _) | (simp;done) | (simp;omega))⟩
theorem mayRow_any (a:Option Addr) (cap:Nat) (l:List Int) (w:World) (h:IntRow w ⟨a,cap⟩ l) :
  Calls Tryz.prog 128 #[.slice a l.length cap] w fun e w'=>e=.returned (.bool (rowMay l))∧w=w':=by
 have h1:=h.len
 unfold maxLen at h1
 have Hr:=hJJ h
 clear h
 by_cases h8:l.length≤8
 ·go_enter Tryz.func128,Tryz.ntmps128
  go_wp2_with (go_at_call 68;refine (within_any _ _ _ _ _ Hr.out).mono ?_;rintro e w' ⟨rfl,rfl⟩)
  go_ret
  exact ⟨ret_bool (by unfold rowMay;rw [decide_eq_true h8,Bool.true_and]),rfl⟩
 ·go_enter Tryz.func128,Tryz.ntmps128
  go_wp2
  go_ret
  exact ⟨ret_bool (by unfold rowMay;rw [decide_eq_false h8,Bool.false_and]),rfl⟩
theorem mayGroup_any (g:Gr) (w:World) (h:g.ok w) :
  Calls Tryz.prog 67 #[.agg g.cells.toArray] w fun e w'=>e=.returned (.bool (groupMay g.data))∧Below w.heap.size w w':=by
 obtain ⟨l0,l1,⟨a0,cap0⟩,⟨a1,cap1⟩⟩:=g
 have H0:=hJJ h.1
 have H1:=hJJ h.2
 clear h
 show Calls Tryz.prog 67 #[.agg #[.slice a0 l0.length cap0,.slice a1 l1.length cap1]] w _
 go_enter Tryz.func67,Tryz.ntmps67
 go_wp2_with fail
 refine (mayRow_any a0 cap0 l0 _ (H0.out.below ((Below.refl _ _).alloc (Nat.le_refl _) _))).mono ?_
 rintro e w' ⟨rfl,rfl⟩
 generalize hb1:rowMay l0=b1
 have HB1:=hJJ hb1
 clear hb1
 cases b1
 ·go_wp2
  go_ret
  exact ⟨ret_bool (by unfold groupMay;simp only [Gr.data,HB1.out,Bool.true_and,Bool.false_and,Bool.and_true,Bool.and_false]),(by repeat' first | exact Below.refl _ _ | (refine Below.alloc ?_ ?_ _) | (simp;done) | (simp;omega))⟩
 go_wp2_with fail
 refine (mayRow_any a1 cap1 l1 _ (H1.out.below ((Below.refl _ _).alloc (Nat.le_refl _) _))).mono ?_
 rintro e w' ⟨rfl,rfl⟩
 generalize hb2:rowMay l1=b2
 have HB2:=hJJ hb2
 clear hb2
 go_wp2
 go_ret
 exact ⟨ret_bool (by unfold groupMay;simp only [Gr.data,HB1.out,HB2.out,Bool.true_and,Bool.false_and,Bool.and_true,Bool.and_false]),(by repeat' first | exact Below.refl _ _ | (refine Below.alloc ?_ ?_ _) | (simp;done) | (simp;omega))⟩
end May
namespace May
open Zip
open Go.ChangeShapes Go.WideShapes Go.ChangeAt Go.RowKit
open Tab
theorem chain {a b c:World} (h:Below a.heap.size a b) (k:Below b.heap.size b c):Below a.heap.size a c:=h.trans (k.mono h.size)
theorem infoP:(Tryz.prog.info? 23).map (·.size)=some 13:=by kernel_rfl
theorem infoG:(Tryz.prog.info? 65).map (·.size)=some 2:=by kernel_rfl
theorem infoD:(Tryz.prog.info? 90).map (·.size)=some 7:=by kernel_rfl
theorem infoR:(Tryz.prog.info? 94).map (·.size)=some 11:=by kernel_rfl
theorem infoB:(Tryz.prog.info? 96).map (·.size)=some 2:=by kernel_rfl
theorem mayAllP_any (m:Int) (a:Option Addr) (cap:Nat) (l:List Ph) (w:World) (h:RowOf 13 Ph.cells w ⟨a,cap⟩ l) :
  Calls Tryz.prog 64 #[.slice a l.length cap,.int .i64 m,.func (.func 65) #[] #[]] w fun e w'=>e=.returned (.bool (decide ((l.length:Int)≤m) && l.all Ph.may))∧Below w.heap.size w w':=by
 have h1:=h.len
 unfold maxLen at h1
 have Hr:=hJJ h
 clear h
 by_cases hm:(l.length:Int)≤m
 ·have hm':decide (m < (l.length:Int))=false:=decide_eq_false (by omega)
  have Hm:=hJJ hm
  go_enter Tryz.func64,Tryz.ntmps64
  go_wp2
  go_loopw [15] (fun i wr=>∃ k:Nat,k≤l.length∧i=.int .i64 k∧(l.take k).all Ph.may=true∧Below w.heap.size w wr) (fun i _=>l.length - (intOf i).toNat)
  case atStart=>exact ⟨0,Nat.zero_le _,rfl,rfl,Below.refl _ _⟩
  case round =>
   obtain ⟨k,hk,rfl,hall,hbel⟩:=hrel
   have Hall:=hJJ hall
   have Hb:=hJJ hbel
   clear hall hbel
   by_cases hlt:k < l.length
   ·have hv:=List.getElem?_eq_getElem hlt
    generalize l[k]=v at hv
    obtain ⟨x,hx,hcell⟩:=(Hr.out.below Hb.out).at hv
    obtain rfl:a=some x:=hx
    have HV:=hJJ hv
    have HC:=hJJ hcell
    clear hv hcell
    go_wp2_with (first | (refine Row.wpList_load_lies rfl 23 _ rfl (x.add (k*13)) rfl v.cells _ HC.out Tryz.underlying23 rfl infoP ?_) | (refine Row.wpList_store_new rfl 23 _ _ rfl _ _ v.cells.toArray rfl rfl rfl infoP rfl v.one ?_) | (refine wpList_load_row rfl 23 _ rfl _ rfl _ _ _ _ (heap_alloc_new _ _) Tryz.underlying23 rfl infoP ?_))
    refine (mayPhase_any v _).mono ?_
    rintro e w2 ⟨rfl,hb2⟩
    have B2:=hJJ (chain Hb.out (chain ((Below.refl _ _).alloc (Nat.le_refl _) _) hb2))
    clear hb2
    generalize hb:Ph.may v=b
    have HB:=hJJ hb
    clear hb
    cases b
    ·go_wp2
     go_ret
     exact ⟨ret_bool (by rw [all_break (f:=Ph.may) HV.out HB.out,Bool.and_false]),B2.out⟩
    ·go_wp2
     go_roundw
     case rel=>exact ⟨k+1,by omega,by go_num,all_step (f:=Ph.may) HV.out Hall.out HB.out,B2.out⟩
     case measure=>simp [intOf];omega
   ·go_wp2
    go_ret
    exact ⟨ret_bool (by rw [all_end Hall.out hlt,decide_eq_true (by have:=Hm.out;omega)];rfl),Hb.out⟩
 ·have Hm:=hJJ hm
  go_enter Tryz.func64,Tryz.ntmps64
  go_wp2
  go_ret
  exact ⟨ret_bool (by rw [decide_eq_false (by have:=Hm.out;omega)];rfl),Below.refl _ _⟩
theorem mayAllG_any (m:Int) (a:Option Addr) (cap:Nat) (l:List Gr) (w:World) (h:RowOf 2 Gr.cells w ⟨a,cap⟩ l) (h2:∀ v ∈ l,v.ok w) :
  Calls Tryz.prog 66 #[.slice a l.length cap,.int .i64 m,.func (.func 67) #[] #[]] w fun e w'=>e=.returned (.bool (decide ((l.length:Int)≤m) && l.all (fun v=>groupMay v.data)))∧Below w.heap.size w w':=by
 have h1:=h.len
 unfold maxLen at h1
 have Hr:=hJJ h
 clear h
 have H2:=hJJ h2
 clear h2
 by_cases hm:(l.length:Int)≤m
 ·have hm':decide (m < (l.length:Int))=false:=decide_eq_false (by omega)
  have Hm:=hJJ hm
  go_enter Tryz.func66,Tryz.ntmps66
  go_wp2
  go_loopw [15] (fun i wr=>∃ k:Nat,k≤l.length∧i=.int .i64 k∧(l.take k).all (fun v=>groupMay v.data)=true∧Below w.heap.size w wr) (fun i _=>l.length - (intOf i).toNat)
  case atStart=>exact ⟨0,Nat.zero_le _,rfl,rfl,Below.refl _ _⟩
  case round =>
   obtain ⟨k,hk,rfl,hall,hbel⟩:=hrel
   have Hall:=hJJ hall
   have Hb:=hJJ hbel
   clear hall hbel
   by_cases hlt:k < l.length
   ·have hv:=List.getElem?_eq_getElem hlt
    generalize l[k]=v at hv
    obtain ⟨x,hx,hcell⟩:=(Hr.out.below Hb.out).at hv
    obtain rfl:a=some x:=hx
    have HV:=hJJ hv
    have HC:=hJJ hcell
    clear hv hcell
    go_wp2_with (first | (refine Row.wpList_load_lies rfl 65 _ rfl (x.add (k*2)) rfl v.cells _ HC.out Tryz.underlying65 rfl infoG ?_) | (refine Row.wpList_store_new rfl 65 _ _ rfl _ _ v.cells.toArray rfl rfl rfl infoG rfl v.one ?_) | (refine wpList_load_row rfl 65 _ rfl _ rfl _ _ _ _ (heap_alloc_new _ _) Tryz.underlying65 rfl infoG ?_))
    refine (mayGroup_any v _ (((H2.out _ (List.mem_of_getElem? HV.out)).below Hb.out).below ((Below.refl _ _).alloc (Nat.le_refl _) _))).mono ?_
    rintro e w2 ⟨rfl,hb2⟩
    have B2:=hJJ (chain Hb.out (chain ((Below.refl _ _).alloc (Nat.le_refl _) _) hb2))
    clear hb2
    generalize hb:groupMay v.data=b
    have HB:=hJJ hb
    clear hb
    cases b
    ·go_wp2
     go_ret
     exact ⟨ret_bool (by rw [all_break (f:=(fun v=>groupMay v.data)) HV.out HB.out,Bool.and_false]),B2.out⟩
    ·go_wp2
     go_roundw
     case rel=>exact ⟨k+1,by omega,by go_num,all_step (f:=(fun v=>groupMay v.data)) HV.out Hall.out HB.out,B2.out⟩
     case measure=>simp [intOf];omega
   ·go_wp2
    go_ret
    exact ⟨ret_bool (by rw [all_end Hall.out hlt,decide_eq_true (by have:=Hm.out;omega)];rfl),Hb.out⟩
 ·have Hm:=hJJ hm
  go_enter Tryz.func66,Tryz.ntmps66
  go_wp2
  go_ret
  exact ⟨ret_bool (by rw [decide_eq_false (by have:=Hm.out;omega)];rfl),Below.refl _ _⟩
theorem mayAllD_any (m:Int) (a:Option Addr) (cap:Nat) (l:List Det) (w:World) (h:RowOf 7 Det.cells w ⟨a,cap⟩ l) :
  Calls Tryz.prog 69 #[.slice a l.length cap,.int .i64 m,.func (.func 70) #[] #[]] w fun e w'=>e=.returned (.bool (decide ((l.length:Int)≤m) && l.all Det.may))∧Below w.heap.size w w':=by
 have h1:=h.len
 unfold maxLen at h1
 have Hr:=hJJ h
 clear h
 by_cases hm:(l.length:Int)≤m
 ·have hm':decide (m < (l.length:Int))=false:=decide_eq_false (by omega)
  have Hm:=hJJ hm
  go_enter Tryz.func69,Tryz.ntmps69
  go_wp2
  go_loopw [15] (fun i wr=>∃ k:Nat,k≤l.length∧i=.int .i64 k∧(l.take k).all Det.may=true∧Below w.heap.size w wr) (fun i _=>l.length - (intOf i).toNat)
  case atStart=>exact ⟨0,Nat.zero_le _,rfl,rfl,Below.refl _ _⟩
  case round =>
   obtain ⟨k,hk,rfl,hall,hbel⟩:=hrel
   have Hall:=hJJ hall
   have Hb:=hJJ hbel
   clear hall hbel
   by_cases hlt:k < l.length
   ·have hv:=List.getElem?_eq_getElem hlt
    generalize l[k]=v at hv
    obtain ⟨x,hx,hcell⟩:=(Hr.out.below Hb.out).at hv
    obtain rfl:a=some x:=hx
    have HV:=hJJ hv
    have HC:=hJJ hcell
    clear hv hcell
    go_wp2_with (first | (refine Row.wpList_load_lies rfl 90 _ rfl (x.add (k*7)) rfl v.cells _ HC.out Tryz.underlying90 rfl infoD ?_) | (refine Row.wpList_store_new rfl 90 _ _ rfl _ _ v.cells.toArray rfl rfl rfl infoD rfl v.one ?_) | (refine wpList_load_row rfl 90 _ rfl _ rfl _ _ _ _ (heap_alloc_new _ _) Tryz.underlying90 rfl infoD ?_))
    refine (mayDetector_any v _).mono ?_
    rintro e w2 ⟨rfl,hb2⟩
    have B2:=hJJ (chain Hb.out (chain ((Below.refl _ _).alloc (Nat.le_refl _) _) hb2))
    clear hb2
    generalize hb:Det.may v=b
    have HB:=hJJ hb
    clear hb
    cases b
    ·go_wp2
     go_ret
     exact ⟨ret_bool (by rw [all_break (f:=Det.may) HV.out HB.out,Bool.and_false]),B2.out⟩
    ·go_wp2
     go_roundw
     case rel=>exact ⟨k+1,by omega,by go_num,all_step (f:=Det.may) HV.out Hall.out HB.out,B2.out⟩
     case measure=>simp [intOf];omega
   ·go_wp2
    go_ret
    exact ⟨ret_bool (by rw [all_end Hall.out hlt,decide_eq_true (by have:=Hm.out;omega)];rfl),Hb.out⟩
 ·have Hm:=hJJ hm
  go_enter Tryz.func69,Tryz.ntmps69
  go_wp2
  go_ret
  exact ⟨ret_bool (by rw [decide_eq_false (by have:=Hm.out;omega)];rfl),Below.refl _ _⟩
theorem mayAllR_any (m:Int) (a:Option Addr) (cap:Nat) (l:List Rl) (w:World) (h:RowOf 11 Rl.cells w ⟨a,cap⟩ l) :
  Calls Tryz.prog 71 #[.slice a l.length cap,.int .i64 m,.func (.func 72) #[] #[]] w fun e w'=>e=.returned (.bool (decide ((l.length:Int)≤m) && l.all Rl.may))∧Below w.heap.size w w':=by
 have h1:=h.len
 unfold maxLen at h1
 have Hr:=hJJ h
 clear h
 by_cases hm:(l.length:Int)≤m
 ·have hm':decide (m < (l.length:Int))=false:=decide_eq_false (by omega)
  have Hm:=hJJ hm
  go_enter Tryz.func71,Tryz.ntmps71
  go_wp2
  go_loopw [15] (fun i wr=>∃ k:Nat,k≤l.length∧i=.int .i64 k∧(l.take k).all Rl.may=true∧Below w.heap.size w wr) (fun i _=>l.length - (intOf i).toNat)
  case atStart=>exact ⟨0,Nat.zero_le _,rfl,rfl,Below.refl _ _⟩
  case round =>
   obtain ⟨k,hk,rfl,hall,hbel⟩:=hrel
   have Hall:=hJJ hall
   have Hb:=hJJ hbel
   clear hall hbel
   by_cases hlt:k < l.length
   ·have hv:=List.getElem?_eq_getElem hlt
    generalize l[k]=v at hv
    obtain ⟨x,hx,hcell⟩:=(Hr.out.below Hb.out).at hv
    obtain rfl:a=some x:=hx
    have HV:=hJJ hv
    have HC:=hJJ hcell
    clear hv hcell
    go_wp2_with (first | (refine Row.wpList_load_lies rfl 94 _ rfl (x.add (k*11)) rfl v.cells _ HC.out Tryz.underlying94 rfl infoR ?_) | (refine Row.wpList_store_new rfl 94 _ _ rfl _ _ v.cells.toArray rfl rfl rfl infoR rfl v.one ?_) | (refine wpList_load_row rfl 94 _ rfl _ rfl _ _ _ _ (heap_alloc_new _ _) Tryz.underlying94 rfl infoR ?_))
    refine (mayRail_any v _).mono ?_
    rintro e w2 ⟨rfl,hb2⟩
    have B2:=hJJ (chain Hb.out (chain ((Below.refl _ _).alloc (Nat.le_refl _) _) hb2))
    clear hb2
    generalize hb:Rl.may v=b
    have HB:=hJJ hb
    clear hb
    cases b
    ·go_wp2
     go_ret
     exact ⟨ret_bool (by rw [all_break (f:=Rl.may) HV.out HB.out,Bool.and_false]),B2.out⟩
    ·go_wp2
     go_roundw
     case rel=>exact ⟨k+1,by omega,by go_num,all_step (f:=Rl.may) HV.out Hall.out HB.out,B2.out⟩
     case measure=>simp [intOf];omega
   ·go_wp2
    go_ret
    exact ⟨ret_bool (by rw [all_end Hall.out hlt,decide_eq_true (by have:=Hm.out;omega)];rfl),Hb.out⟩
 ·have Hm:=hJJ hm
  go_enter Tryz.func71,Tryz.ntmps71
  go_wp2
  go_ret
  exact ⟨ret_bool (by rw [decide_eq_false (by have:=Hm.out;omega)];rfl),Below.refl _ _⟩
theorem mayAllB_any (m:Int) (a:Option Addr) (cap:Nat) (l:List Bs) (w:World) (h:RowOf 2 Bs.cells w ⟨a,cap⟩ l) :
  Calls Tryz.prog 73 #[.slice a l.length cap,.int .i64 m,.func (.func 74) #[] #[]] w fun e w'=>e=.returned (.bool (decide ((l.length:Int)≤m) && l.all Bs.may))∧Below w.heap.size w w':=by
 have h1:=h.len
 unfold maxLen at h1
 have Hr:=hJJ h
 clear h
 by_cases hm:(l.length:Int)≤m
 ·have hm':decide (m < (l.length:Int))=false:=decide_eq_false (by omega)
  have Hm:=hJJ hm
  go_enter Tryz.func73,Tryz.ntmps73
  go_wp2
  go_loopw [15] (fun i wr=>∃ k:Nat,k≤l.length∧i=.int .i64 k∧(l.take k).all Bs.may=true∧Below w.heap.size w wr) (fun i _=>l.length - (intOf i).toNat)
  case atStart=>exact ⟨0,Nat.zero_le _,rfl,rfl,Below.refl _ _⟩
  case round =>
   obtain ⟨k,hk,rfl,hall,hbel⟩:=hrel
   have Hall:=hJJ hall
   have Hb:=hJJ hbel
   clear hall hbel
   by_cases hlt:k < l.length
   ·have hv:=List.getElem?_eq_getElem hlt
    generalize l[k]=v at hv
    obtain ⟨x,hx,hcell⟩:=(Hr.out.below Hb.out).at hv
    obtain rfl:a=some x:=hx
    have HV:=hJJ hv
    have HC:=hJJ hcell
    clear hv hcell
    go_wp2_with (first | (refine Row.wpList_load_lies rfl 96 _ rfl (x.add (k*2)) rfl v.cells _ HC.out Tryz.underlying96 rfl infoB ?_) | (refine Row.wpList_store_new rfl 96 _ _ rfl _ _ v.cells.toArray rfl rfl rfl infoB rfl v.one ?_) | (refine wpList_load_row rfl 96 _ rfl _ rfl _ _ _ _ (heap_alloc_new _ _) Tryz.underlying96 rfl infoB ?_))
    refine (mayBus_any v _).mono ?_
    rintro e w2 ⟨rfl,hb2⟩
    have B2:=hJJ (chain Hb.out (chain ((Below.refl _ _).alloc (Nat.le_refl _) _) hb2))
    clear hb2
    generalize hb:Bs.may v=b
    have HB:=hJJ hb
    clear hb
    cases b
    ·go_wp2
     go_ret
     exact ⟨ret_bool (by rw [all_break (f:=Bs.may) HV.out HB.out,Bool.and_false]),B2.out⟩
    ·go_wp2
     go_roundw
     case rel=>exact ⟨k+1,by omega,by go_num,all_step (f:=Bs.may) HV.out Hall.out HB.out,B2.out⟩
     case measure=>simp [intOf];omega
   ·go_wp2
    go_ret
    exact ⟨ret_bool (by rw [all_end Hall.out hlt,decide_eq_true (by have:=Hm.out;omega)];rfl),Hb.out⟩
 ·have Hm:=hJJ hm
  go_enter Tryz.func73,Tryz.ntmps73
  go_wp2
  go_ret
  exact ⟨ret_bool (by rw [decide_eq_false (by have:=Hm.out;omega)];rfl),Below.refl _ _⟩
end May
namespace GenG
open Go.ChangeShapes Go.WideShapes Go.ChangeAt Go.RowKit
open Tab Gath
open RefS (num from_any num_range ret_int)
def seg (p m:Nat):List Int:=(List.range m).map fun i=>((p+i:Nat):Int)
theorem seg_len (p m:Nat):(seg p m).length=m:=by simp [seg]
theorem seg_succ (p m:Nat):seg p (m+1)=seg p m++[((p+m:Nat):Int)]:=by unfold seg;rw [List.range_succ,List.map_append];rfl
def lim (G g:Nat):Nat:=9+g - G
def want0 (L:List Int) (g:Nat):Nat:=(num L (1+2*g) 3).toNat
def want1 (L:List Int) (g:Nat) (m:Nat):Nat:=if num L (2+2*g) 3=0∧m=0 then 1 else (num L (2+2*g) 3).toNat
def n0 (L:List Int) (G g p:Nat):Nat:=min (want0 L g) (lim G g - p)
def n1 (L:List Int) (G g p:Nat):Nat:=min (want1 L g (n0 L G g p)) (lim G g - (p+n0 L G g p))
def grpD (L:List Int) (G g p:Nat):List Int × List Int:=(seg p (n0 L G g p),seg (p+n0 L G g p) (n1 L G g p))
def upTo (L:List Int) (G:Nat):Nat→List (List Int × List Int) × Nat
 | 0=>([],0)
 | g+1=>((upTo L G g).1++[grpD L G g (upTo L G g).2],(upTo L G g).2+n0 L G g (upTo L G g).2+n1 L G g (upTo L G g).2)
def genG (L:List Int):Nat:=(1+num L 0 3).toNat
def genGs (L:List Int):List (List Int × List Int):=(upTo L (genG L) (genG L)).1
def genN (L:List Int):Nat:=(upTo L (genG L) (genG L)).2
theorem genG_range (L:List Int):1≤genG L∧genG L≤3:=by have:=num_range L 0 3 (by omega);unfold genG;omega
theorem want0_le (L:List Int) (g:Nat):want0 L g≤2:=by have:=num_range L (1+2*g) 3 (by omega);unfold want0;omega
theorem want1_le (L:List Int) (g m:Nat):want1 L g m≤2:=by have:=num_range L (2+2*g) 3 (by omega);unfold want1;split <;> omega
theorem up_le (L:List Int) (G:Nat) (hG:G≤3):∀ g,g≤G→(upTo L G g).2≤8
 | 0,_=>Nat.zero_le _
 | g+1,h=>by
  have:=up_le L G hG g (by omega)
  show (upTo L G g).2+n0 L G g (upTo L G g).2+n1 L G g (upTo L G g).2≤8
  unfold n1 n0 lim
  omega
theorem up_len (L:List Int) (G:Nat):∀ g,(upTo L G g).1.length=g
 | 0=>rfl
 | g+1=>by show ((upTo L G g).1++[_]).length=g+1;rw [List.length_append,up_len L G g];rfl
def RowI (w:World) (s:Sl) (l:List Int):Prop:=IntRow w s l∧∀ x,s.a=some x→∃ cs:Array Value,w.heap[x.block]?=some (.cells cs 3 (0,0))
theorem RowI.below {w w':World} {s:Sl} {l:List Int} (h:RowI w s l) (hb:Below w.heap.size w w'):RowI w' s l:=⟨h.1.below hb,fun x hx=>by
 obtain ⟨cs,hc⟩:=h.2 x hx
 exact ⟨cs,(hb.block _ (Array.getElem?_eq_some_iff.1 hc).1).trans hc⟩⟩
theorem add_block (x:Addr) (k:Nat):(x.add k).block=x.block:=by unfold Addr.add;split <;> rfl
theorem RowI.grown {w w':World} {s:Sl} {l:List Int} {row:Option Nat} (h:RowI w s l) (hg:w.grownBy w' row) (hne:∀ x,s.a=some x→some x.block ≠ row):RowI w' s l:=by
 refine ⟨?_,fun x hx=>?_⟩
 ·rcases h.1 with h | ⟨x,h1,h2,h3,h4⟩
  ·exact .inl h
  ·exact .inr ⟨x,h1,h2,h3,fun i v hv j u hu=>hg.cell (h4 i v hv j u hu) (by rw [add_block,add_block];exact hne x h1)⟩
 ·obtain ⟨cs,hc⟩:=h.2 x hx
  exact ⟨cs,(hg.block _ (Array.getElem?_eq_some_iff.1 hc).1 (hne x hx)).trans hc⟩
theorem RowI.ne {w:World} {s:Sl} {l:List Int} {b:Nat} {cs:Array Value} {t:TypeId} (h:RowI w s l) (hb:w.heap[b]?=some (.cells cs t (0,0))) (ht:t ≠ 3):∀ x,s.a=some x→x.block ≠ b:=by
 intro x hx e
 obtain ⟨ds,hc⟩:=h.2 x hx
 rw [e,hb] at hc
 simp at hc
 exact ht hc.2
theorem grown_set (W:World) (b i:Nat) (v:Value):W.grownBy (W.setCell ⟨b,i,none⟩ v) (some b) :=
 ⟨rfl,rfl,rfl,by simp,fun j _ hj=>heap_setCell_other _ _ _ _ (fun e=>hj (by rw [e]))⟩
theorem own_row {B:Nat} {w:World} {v:Value} {l:List Int} (h:Owns (fun n=>[I n]) 1 B w 3 v l):∃ s:Sl,v=s.val l.length∧RowI w s l:=by
 obtain ⟨s,hs,hr⟩:=Owns.row h (enc:=fun n=>[I n]) (fun _=>rfl)
 refine ⟨s,hs,hr,fun x hx=>?_⟩
 rcases h.2 with ⟨e,_⟩ | ⟨g,cap,cur,e,h1,h2,_⟩
 ·rw [hs] at e
  simp [Sl.val,hx] at e
 ·rw [hs] at e
  simp [Sl.val,hx] at e
  obtain ⟨rfl,_⟩:=e
  exact ⟨cur,h2⟩
theorem own_kept {α:Type} {enc:α→List Value} {n B:Nat} {w w':World} {t:TypeId} {v:Value} {l:List α} {row:Option Nat} (h:Owns enc n B w t v l) (hg:w.grownBy w' row) (hne:∀ m,v.ownBlock=some m→row ≠ some m):Owns enc n B w' t v l :=
 World.ownsRow.kept h hg (by
  cases e:v.ownBlock with
  | none=>exact .inl rfl
  | some m=>exact .inr (fun e'=>hne m e e'.symm))
theorem own_lt {α:Type} {enc:α→List Value} {n B:Nat} {w:World} {t:TypeId} {v:Value} {l:List α} (h:Owns enc n B w t v l):∀ m,v.ownBlock=some m→m < w.heap.size:=by
 intro m hm
 rcases h.2 with ⟨rfl,_⟩ | ⟨g,cap,cur,rfl,h1,h2,_⟩
 ·simp [Value.ownBlock] at hm
 ·simp [Value.ownBlock] at hm
  subst hm
  exact (Array.getElem?_eq_some_iff.1 h2).1
theorem own_type {α:Type} {enc:α→List Value} {n B:Nat} {w:World} {t:TypeId} {v:Value} {l:List α} (h:Owns enc n B w t v l):∀ m,v.ownBlock=some m→∃ cs:Array Value,w.heap[m]?=some (.cells cs t (0,0)):=by
 intro m hm
 rcases h.2 with ⟨rfl,_⟩ | ⟨g,cap,cur,rfl,h1,h2,_⟩
 ·simp [Value.ownBlock] at hm
 ·simp [Value.ownBlock] at hm
  subst hm
  exact ⟨cur,h2⟩
theorem own_ne {α:Type} {enc:α→List Value} {n B:Nat} {w:World} {t t':TypeId} {v:Value} {l:List α} {b:Nat} {cs:Array Value} (h:Owns enc n B w t v l) (hb:w.heap[b]?=some (.cells cs t' (0,0))) (ht:t' ≠ t):v.ownBlock ≠ some b:=by
 intro e
 obtain ⟨ds,hd⟩:=own_type h b e
 rw [hb] at hd
 simp at hd
 exact ht hd.2
theorem grown_below {w w':World} (hb:Below w.heap.size w w') (row:Option Nat):w.grownBy w' row:=⟨hb.os,hb.tape,hb.output,hb.size,fun j hj _=>hb.block j hj⟩
theorem grown_trans {w w1 w2:World} {b:Nat} {row:Option Nat} (h:w.grownBy w1 (some b)) (h2:w1.grownBy w2 row) (hr:∀ m,row=some m→m=b∨w.heap.size≤m):w.grownBy w2 (some b):=by
 refine ⟨h2.os.trans h.os,h2.tape.trans h.tape,h2.output.trans h.output,Nat.le_trans h.size h2.size,fun j hj hne=>?_⟩
 rw [h2.block j (Nat.lt_of_lt_of_le hj h.size) (fun e=>by rcases hr j e.symm with e' | e';exact hne (by rw [e']);omega),h.block j hj hne]
structure G0 (Bg:Nat) (w1:World) (a:Option Addr) (c:Nat) (p i:Nat) (W:World):Prop where
 bel:Below Bg w1 W
 box:W.heap[Bg]?=some (.cells #[.slice a i c,.slice none 0 0] 65 (0,0))
 own:Owns (fun n=>[I n]) 1 (Bg+1) W 3 (.slice a i c) (seg p i)
theorem G0.step {Bg:Nat} {w1 W W':World} {a:Option Addr} {c p i:Nat} (h:G0 Bg w1 a c p i W) (hb:Below W.heap.size W W') (hB:Bg≤W.heap.size):G0 Bg w1 a c p i W' :=
 ⟨h.bel.trans (hb.mono hB),(hb.block _ (Array.getElem?_eq_some_iff.1 h.box).1).trans h.box,h.own.below hb⟩
theorem G0.put {Bg:Nat} {w1 W W':World} {a:Option Addr} {c p i:Nat} {v':Value} (h:G0 Bg w1 a c p i W) (hB:Bg+1≤W.heap.size) (hg:W.grownBy W' (Value.slice a i c).ownBlock)
  (ho:W'.ownsRow (Bg+1) 3 1 v' (i+1) ((seg p i).flatMap (fun n=>[I n])++[I ((p+i:Nat):Int)])) :
  (W'.heap[Bg]?=some (.cells #[.slice a i c,.slice none 0 0] 65 (0,0)))∧∃ a' c',v'=.slice a' (i+1) c'∧G0 Bg w1 a' c' p (i+1) (W'.setCell ⟨Bg,0,none⟩ v'):=by
 have hne:some Bg ≠ (Value.slice a i c).ownBlock:=fun e=>by have:=h.own.blk _ e.symm;omega
 have hbx:=(hg.block Bg (by omega) hne).trans h.box
 have hO:Owns (fun n=>[I n]) 1 (Bg+1) W' 3 v' (seg p (i+1)):=by
  rw [seg_succ];refine Owns.snoc ?_;rw [seg_len];exact ho
 obtain ⟨⟨a',c'⟩,hs,hr⟩:=own_row hO
 rw [seg_len] at hs
 refine ⟨hbx,a',c',hs,?_⟩
 have hB':Bg≤W'.heap.size:=Nat.le_trans (by omega) hg.size
 refine ⟨?_,?_,?_⟩
 ·exact (h.bel.grown hg (by omega) (fun k hk=>by have:=h.own.blk k hk;omega)).setCell (p:=⟨Bg,0,none⟩) (Nat.le_refl _) v'
 ·rw [heap_setCell_same _ _ _ _ _ _ hbx,hs];rfl
 ·rw [hs] at hO ⊢
  exact own_kept hO (grown_set _ _ _ _) (fun m hm e=>by have:=hO.blk m hm;cases e;omega)
structure G1 (Bg:Nat) (w1:World) (B1:Nat) (a:Option Addr) (c:Nat) (p m:Nat) (a1:Option Addr) (c1:Nat) (i:Nat) (W:World):Prop where
 bel:Below Bg w1 W
 box:W.heap[Bg]?=some (.cells #[.slice a m c,.slice a1 i c1] 65 (0,0))
 own:Owns (fun n=>[I n]) 1 (Bg+1) W 3 (.slice a m c) (seg p m)
 lt:∀ j,(Value.slice a m c).ownBlock=some j→j < B1
 own1:Owns (fun n=>[I n]) 1 B1 W 3 (.slice a1 i c1) (seg (p+m) i)
 sz:B1≤W.heap.size
theorem G0.next {Bg:Nat} {w1 W:World} {a:Option Addr} {c p m:Nat} (h:G0 Bg w1 a c p m W):G1 Bg w1 W.heap.size a c p m none 0 0 W :=
 ⟨h.bel,h.box,h.own,own_lt h.own,Owns.nil,Nat.le_refl _⟩
theorem G1.step {Bg B1:Nat} {w1 W W':World} {a a1:Option Addr} {c p m c1 i:Nat} (h:G1 Bg w1 B1 a c p m a1 c1 i W) (hb:Below W.heap.size W W') (hB:Bg≤W.heap.size):G1 Bg w1 B1 a c p m a1 c1 i W' :=
 ⟨h.bel.trans (hb.mono hB),(hb.block _ (Array.getElem?_eq_some_iff.1 h.box).1).trans h.box,h.own.below hb,h.lt,h.own1.below hb,Nat.le_trans h.sz hb.size⟩
theorem G1.put {Bg B1:Nat} {w1 W W':World} {a a1:Option Addr} {c p m c1 i:Nat} {v':Value} (h:G1 Bg w1 B1 a c p m a1 c1 i W) (h1:Bg < B1) (hB:B1≤W.heap.size) (hg:W.grownBy W' (Value.slice a1 i c1).ownBlock)
  (ho:W'.ownsRow B1 3 1 v' (i+1) ((seg (p+m) i).flatMap (fun n=>[I n])++[I ((p+m+i:Nat):Int)])) :
  (W'.heap[Bg]?=some (.cells #[.slice a m c,.slice a1 i c1] 65 (0,0)))∧∃ a' c',v'=.slice a' (i+1) c'∧G1 Bg w1 B1 a c p m a' c' (i+1) (W'.setCell ⟨Bg,1,none⟩ v'):=by
 have hne:some Bg ≠ (Value.slice a1 i c1).ownBlock:=fun e=>by have:=h.own1.blk _ e.symm;omega
 have hbx:=(hg.block Bg (by omega) hne).trans h.box
 have hO:Owns (fun n=>[I n]) 1 B1 W' 3 v' (seg (p+m) (i+1)):=by
  rw [seg_succ];refine Owns.snoc ?_;rw [seg_len];exact ho
 have hO0:Owns (fun n=>[I n]) 1 (Bg+1) W' 3 (.slice a m c) (seg p m):=own_kept h.own hg (fun j hj e=>by have:=h.lt j hj;have:=h.own1.blk j e;omega)
 obtain ⟨⟨a',c'⟩,hs,hr⟩:=own_row hO
 rw [seg_len] at hs
 refine ⟨hbx,a',c',hs,?_⟩
 have hB':Bg≤W'.heap.size:=Nat.le_trans (by omega) hg.size
 refine ⟨?_,?_,?_,h.lt,?_,by simp;exact Nat.le_trans h.sz hg.size⟩
 ·exact (h.bel.grown hg (by omega) (fun k hk=>by have:=h.own1.blk k hk;omega)).setCell (p:=⟨Bg,1,none⟩) (Nat.le_refl _) v'
 ·rw [heap_setCell_same _ _ _ _ _ _ hbx,hs];rfl
 ·exact own_kept hO0 (grown_set _ _ _ _) (fun m hm e=>by have:=hO0.blk m hm;cases e;omega)
 ·rw [hs] at hO ⊢
  exact own_kept hO (grown_set _ _ _ _) (fun m hm e=>by have:=hO.blk m hm;cases e;omega)
structure GS (w:World) (tb:Nat) (cs:List Value) (ga:Option Addr) (gc:Nat) (g:Nat) (gs:List Gr) (W:World):Prop where
 gb:w.grownBy W (some tb)
 tbk:W.heap[tb]?=some (.cells (cs.set 104 (.slice ga g gc)).toArray 31 (0,0))
 own:Owns Gr.cells 2 w.heap.size W 65 (.slice ga g gc) gs
 len:gs.length=g
 rows:∀ x ∈ gs,RowI W x.s0 x.r0∧RowI W x.s1 x.r1
theorem GS.step {w W W':World} {tb:Nat} {cs:List Value} {ga:Option Addr} {gc g:Nat} {gs:List Gr} (h:GS w tb cs ga gc g gs W) (hb:Below W.heap.size W W'):GS w tb cs ga gc g gs W' :=
 ⟨grown_trans h.gb (grown_below hb none) (fun m e=>by cases e),(hb.block _ (Array.getElem?_eq_some_iff.1 h.tbk).1).trans h.tbk,h.own.below hb,h.len,fun x hx=>⟨(h.rows x hx).1.below hb,(h.rows x hx).2.below hb⟩⟩
theorem GS.put {w W W':World} {tb:Nat} {cs:List Value} {ga:Option Addr} {gc g:Nat} {gs:List Gr} {v':Value} (x:Gr) (h:GS w tb cs ga gc g gs W) (hx:RowI W x.s0 x.r0∧RowI W x.s1 x.r1) (hg:W.grownBy W' (Value.slice ga g gc).ownBlock) (hc:cs.length=131)
  (ho:W'.ownsRow w.heap.size 65 2 v' (g+1) (gs.flatMap Gr.cells++x.cells)) :
  (W'.heap[tb]?=some (.cells (cs.set 104 (.slice ga g gc)).toArray 31 (0,0)))∧∃ a' c',v'=.slice a' (g+1) c'∧GS w tb cs a' c' (g+1) (gs++[x]) (W'.setCell ⟨tb,104,none⟩ v'):=by
 have hne:some tb ≠ (Value.slice ga g gc).ownBlock:=fun e=>own_ne h.own h.tbk (by decide) e.symm
 have hbx:=(hg.block tb (Array.getElem?_eq_some_iff.1 h.tbk).1 hne).trans h.tbk
 have hO:Owns Gr.cells 2 w.heap.size W' 65 v' (gs++[x]):=Owns.snoc (by rw [h.len];exact ho)
 obtain ⟨⟨a',c'⟩,hs,hr⟩:=Owns.row hO (fun _=>rfl)
 have hs2:v'=.slice a' (g+1) c':=by rw [hs,List.length_append,h.len];rfl
 have hK:∀ s l,RowI W s l→RowI (W'.setCell ⟨tb,104,none⟩ v') s l:=fun s l hr=>by
  have h1:RowI W' s l:=hr.grown hg (fun y hy e=>by
   obtain ⟨ds,hd⟩:=own_type h.own _ e.symm
   exact hr.ne hd (by decide) y hy rfl)
  exact h1.grown (grown_set _ _ _ _) (fun y hy e=>h1.ne hbx (by decide) y hy (by cases e;rfl))
 refine ⟨hbx,a',c',hs2,?_,?_,?_,by rw [List.length_append,h.len];rfl,?_⟩
 ·exact grown_trans (grown_trans h.gb hg (fun m e=>.inr (h.own.blk m e))) (grown_set _ _ _ _) (fun m e=>.inl (by cases e;rfl))
 ·rw [heap_setCell_same _ _ _ _ _ _ hbx,hs2]
  simp
 ·rw [← hs2]
  exact own_kept hO (grown_set _ _ _ _) (fun m hm e=>by cases e;exact own_ne hO hbx (by decide) hm)
 ·intro y hy
  rcases List.mem_append.1 hy with hy | hy
  ·exact ⟨hK _ _ (h.rows y hy).1,hK _ _ (h.rows y hy).2⟩
  ·obtain rfl:y=x:=by simpa using hy
   exact ⟨hK _ _ hx.1,hK _ _ hx.2⟩
theorem from_at (a:Option Addr) (cap:Nat) (L:List Int) (i j n:Int) (hij:i=j) (w:World) (h:IntRow w ⟨a,cap⟩ L) (h0:0≤i) (hn:0 < n) (hn':n≤1000) :
  Calls Tryz.prog 53 #[.slice a L.length cap,.int .i64 i,.int .i64 n] w fun e w'=>e=.returned (.int .i64 (num L j n))∧w=w':=by
 subst hij;exact from_any a cap L i n w h h0 hn hn'
theorem infoGz:(Tryz.prog.info? 65).map (fun i=>(i.zero,i.size))=some (some (.agg #[.slice none 0 0,.slice none 0 0]),2):=by kernel_rfl
theorem infoG2:(Tryz.prog.info? 65).map (·.size)=some 2:=by kernel_rfl
theorem infoG3:(Tryz.prog.info? 65).map (fun i=>(i.zero,i.size,i.bytes))=some (some (.agg #[.slice none 0 0,.slice none 0 0]),2,48):=by kernel_rfl
end GenG
namespace May
open Zip
open Go.ChangeShapes Go.WideShapes Go.ChangeAt Go.RowKit
open Tab
def listMay {α:Type} (m:Int) (f:α→Bool) (l:List α):Bool:=decide ((l.length:Int)≤m) && l.all f
def tabMay (T:Tab):Bool :=
 listMay 8 Ph.may T.phases && (listMay 4 groupMay T.groups && (allIn 255 T.conflict && (listMay 16 Det.may T.dets && (listMay 4 Rl.may T.rails && (listMay 4 Bs.may T.buses &&
  (allIn 9999 [T.extend,T.budget,T.start,T.revert,T.least] && (allIn 2 T.flash && allIn 2147483647 [T.window,T.share])))))))
theorem ints_in {w:World} {g:Nat} {cs:Array Value} {t:TypeId} {fr:Nat × Nat} (hg:w.heap[g]?=some (.cells cs t fr)) (o n:Nat) (l:List Int) (h:(cs.toList.drop o).take n=l.map I) (hn:l.length=n) (hm:n≤maxLen) :
  IntRow w ⟨some ⟨g,o,none⟩,n⟩ l:=by
 subst hn
 refine .inr ⟨_,rfl,Nat.le_refl _,hm,fun i v hv j u hu=>?_⟩
 cases j with
 | zero =>
  obtain rfl:=Option.some.inj hu
  rw [Nat.mul_one,add_two,Nat.add_zero,Addr.add_mid]
  exact range_of hg o _ _ h i _ (by simp [hv])
 | succ j=>cases hu
theorem phases_in {w:World} {g:Nat} {cs:Array Value} {t:TypeId} {fr:Nat × Nat} {T:Tab} {h:Hd} (hg:w.heap[g]?=some (.cells cs t fr)) (C:CellsOk T h cs) (hn:T.phases.length=8) :
  RowOf 13 Ph.cells w ⟨some ⟨g,0,none⟩,8⟩ T.phases:=by
 refine .inr ⟨_,rfl,by rw [hn];exact Nat.le_refl _,(show 8≤maxLen by decide),fun i v hv j u hu=>?_⟩
 rw [add_two,Addr.add_mid,Nat.zero_add,Nat.mul_comm]
 exact range_of hg (13*i) 13 _ (C.phase i v hv) j u hu
structure St (w:World) (N:Nat) (cs:Array Value) (h:Hd) (T:Tab) (W:World):Prop where
 bel:Below w.heap.size w W
 blk:W.heap[N]?=some (.cells cs 31 (0,0))
 tab:IsTab W h T
 le:w.heap.size≤N
theorem St.step {w W W':World} {N:Nat} {cs:Array Value} {h:Hd} {T:Tab} (k:St w N cs h T W) (hb:Below W.heap.size W W'):St w N cs h T W' :=
 ⟨chain k.bel hb,by rw [hb.block N (Array.getElem?_eq_some_iff.1 k.blk).1];exact k.blk,k.tab.below hb,k.le⟩
theorem St.cell {w W:World} {N:Nat} {cs:Array Value} {h:Hd} {T:Tab} (k:St w N cs h T W) {o:Nat} {v:Value} (hv:cs[o]?=some v):W.cell? ⟨N,o,none⟩=some v:=by
 rw [cell_of_row _ _ _ _ _ _ k.blk];exact hv
theorem St.box {w:World} {cs:Array Value} {h:Hd} {T:Tab} (k:IsTab w h T):St w w.heap.size cs h T (w.alloc (.cells cs 31)) :=
 ⟨(Below.refl _ _).alloc (Nat.le_refl _) _,heap_alloc_new _ _,k.below ((Below.refl _ _).alloc (Nat.le_refl _) _),Nat.le_refl _⟩
theorem within_len (m:Int) (a:Option Addr) (cap:Nat) (l:List Int) (n:Nat) (hn:l.length=n) (w:World) (h:IntRow w ⟨a,cap⟩ l) :
  Calls Tryz.prog 68 #[.int .i64 m,.slice a n cap] w fun e w'=>e=.returned (.bool (allIn m l))∧w=w':=by
 subst hn;exact within_any m a cap l w h
theorem may_any (T:Tab) (h:Hd) (w:World) (k:IsTab w h T) :
  Calls Tryz.prog 32 #[.agg (T.cells h).toArray] w fun e w'=>e=.returned (.bool (tabMay T))∧Below w.heap.size w w':=by
 have C:=hJJ (cells_ok k)
 have L8:=hJJ k.ph
 have Lc:=hJJ k.cf
 have Lf:=hJJ k.fl
 generalize (T.cells h).toArray=cs at C ⊢
 have hsz:=C.out.size
 obtain ⟨gs,hgd,hgr⟩:=k.groups
 have Hgr:=hJJ hgr
 clear hgr
 have hw0:Below w.heap.size w (w.alloc (.cells cs 31)):=(Below.refl _ _).alloc (Nat.le_refl _) _
 have HW0:=hJJ hw0
 clear hw0
 have S0:=hJJ (St.box (cs:=cs) k)
 clear k
 have Hgd:=hJJ hgd
 have hgl:T.groups.length=gs.length:=by rw [← hgd,List.length_map]
 have Hgl:=hJJ hgl
 clear hgd hgl
 have hph:=phases_in S0.out.blk C.out L8.out
 have cP:=mayAllP_any 8 (some ⟨w.heap.size,0,none⟩) 8 T.phases _ hph
 rw [L8.out] at cP
 have CP:=hJJ cP
 clear cP hph
 have L8p:Hid ((8:Nat)=T.phases.length):=L8.out.symm
 go_enter Tryz.func32,Tryz.ntmps32
 go_wp2_with fail
 refine (CP.out).mono ?_
 rintro e w1 ⟨rfl,hb1⟩
 have S1:=hJJ (S0.out.step hb1)
 clear hb1 S0
 generalize hv:(decide (((8:Nat):Int)≤8) && T.phases.all Ph.may)=b1
 have HB1:Hid (listMay 8 Ph.may T.phases=b1):=(by unfold listMay;rw [L8.out];exact hv)
 clear hv
 cases b1
 ·go_wp2
  go_ret
  exact ⟨ret_bool (by unfold tabMay;simp only [HB1.out,Bool.true_and,Bool.false_and,Bool.and_true,Bool.and_false]),S1.out.bel⟩
 have c104:=S1.out.cell C.out.g
 rw [Hgl.out] at c104
 go_wp2_with fail
 refine (mayAllG_any 4 h.g.a h.g.cap gs _ (Hgr.out.1.below S1.out.bel) (fun v hv=>(Hgr.out.2 v hv).below S1.out.bel)).mono ?_
 rintro e w2 ⟨rfl,hb2⟩
 have S2:=hJJ (S1.out.step hb2)
 clear hb2 S1
 generalize hv:(decide ((gs.length:Int)≤4) && gs.all (fun v=>groupMay v.data))=b2
 have HB2:Hid (listMay 4 groupMay T.groups=b2):=(by unfold listMay;rw [← Hgd.out,List.length_map,List.all_map];exact hv)
 clear hv
 cases b2
 ·go_wp2
  go_ret
  exact ⟨ret_bool (by unfold tabMay;simp only [HB1.out,HB2.out,Bool.true_and,Bool.false_and,Bool.and_true,Bool.and_false]),S2.out.bel⟩
 go_wp2_with fail
 refine (within_len 255 (some ⟨w.heap.size,105,none⟩) 8 T.conflict 8 Lc.out _ (ints_in S2.out.blk 105 8 _ C.out.conflict Lc.out (by decide))).mono ?_
 rintro e w3 ⟨rfl,rfl⟩
 have S3:=S2
 generalize hv:allIn 255 T.conflict=b3
 have HB3:Hid (allIn 255 T.conflict=b3):=hv
 clear hv
 cases b3
 ·go_wp2
  go_ret
  exact ⟨ret_bool (by unfold tabMay;simp only [HB1.out,HB2.out,HB3.out,Bool.true_and,Bool.false_and,Bool.and_true,Bool.and_false]),S3.out.bel⟩
 have c113:=S3.out.cell C.out.d
 go_wp2_with fail
 refine (mayAllD_any 16 h.d.a h.d.cap T.dets _ S3.out.tab.dets).mono ?_
 rintro e w4 ⟨rfl,hb4⟩
 have S4:=hJJ (S3.out.step hb4)
 clear hb4 S3
 generalize hv:(decide ((T.dets.length:Int)≤16) && T.dets.all Det.may)=b4
 have HB4:Hid (listMay 16 Det.may T.dets=b4):=hv
 clear hv
 cases b4
 ·go_wp2
  go_ret
  exact ⟨ret_bool (by unfold tabMay;simp only [HB1.out,HB2.out,HB3.out,HB4.out,Bool.true_and,Bool.false_and,Bool.and_true,Bool.and_false]),S4.out.bel⟩
 have c114:=S4.out.cell C.out.r
 go_wp2_with fail
 refine (mayAllR_any 4 h.r.a h.r.cap T.rails _ S4.out.tab.rails).mono ?_
 rintro e w5 ⟨rfl,hb5⟩
 have S5:=hJJ (S4.out.step hb5)
 clear hb5 S4
 generalize hv:(decide ((T.rails.length:Int)≤4) && T.rails.all Rl.may)=b5
 have HB5:Hid (listMay 4 Rl.may T.rails=b5):=hv
 clear hv
 cases b5
 ·go_wp2
  go_ret
  exact ⟨ret_bool (by unfold tabMay;simp only [HB1.out,HB2.out,HB3.out,HB4.out,HB5.out,Bool.true_and,Bool.false_and,Bool.and_true,Bool.and_false]),S5.out.bel⟩
 have c115:=S5.out.cell C.out.b
 go_wp2_with fail
 refine (mayAllB_any 4 h.b.a h.b.cap T.buses _ S5.out.tab.buses).mono ?_
 rintro e w6 ⟨rfl,hb6⟩
 have S6:=hJJ (S5.out.step hb6)
 clear hb6 S5
 generalize hv:(decide ((T.buses.length:Int)≤4) && T.buses.all Bs.may)=b6
 have HB6:Hid (listMay 4 Bs.may T.buses=b6):=hv
 clear hv
 cases b6
 ·go_wp2
  go_ret
  exact ⟨ret_bool (by unfold tabMay;simp only [HB1.out,HB2.out,HB3.out,HB4.out,HB5.out,HB6.out,Bool.true_and,Bool.false_and,Bool.and_true,Bool.and_false]),S6.out.bel⟩
 have c116:=S6.out.cell C.out.extend
 have c117:=S6.out.cell C.out.budget
 have c118:=S6.out.cell C.out.start
 have c119:=S6.out.cell C.out.revert
 have c120:=S6.out.cell C.out.least
 go_wp2_with fail
 refine (within_any 9999 _ _ [T.extend,T.budget,T.start,T.revert,T.least] _ (row_new _ _ [T.extend,T.budget,T.start,T.revert,T.least] 5 rfl (by decide) _ rfl)).mono ?_
 rintro e w7 ⟨rfl,hw⟩
 have hb7:Below w6.heap.size w6 w7:=hw ▸ (Below.refl _ _).alloc (Nat.le_refl _) _
 clear hw
 have S7:=hJJ (S6.out.step hb7)
 clear hb7 S6
 generalize hv:allIn 9999 [T.extend,T.budget,T.start,T.revert,T.least]=b7
 have HB7:Hid (allIn 9999 [T.extend,T.budget,T.start,T.revert,T.least]=b7):=hv
 clear hv
 cases b7
 ·go_wp2
  go_ret
  exact ⟨ret_bool (by unfold tabMay;simp only [HB1.out,HB2.out,HB3.out,HB4.out,HB5.out,HB6.out,HB7.out,Bool.true_and,Bool.false_and,Bool.and_true,Bool.and_false]),S7.out.bel⟩
 go_wp2_with fail
 refine (within_len 2 (some ⟨w.heap.size,121,none⟩) 8 T.flash 8 Lf.out _ (ints_in S7.out.blk 121 8 _ C.out.flash Lf.out (by decide))).mono ?_
 rintro e w8 ⟨rfl,rfl⟩
 have S8:=S7
 generalize hv:allIn 2 T.flash=b8
 have HB8:Hid (allIn 2 T.flash=b8):=hv
 clear hv
 cases b8
 ·go_wp2
  go_ret
  exact ⟨ret_bool (by unfold tabMay;simp only [HB1.out,HB2.out,HB3.out,HB4.out,HB5.out,HB6.out,HB7.out,HB8.out,Bool.true_and,Bool.false_and,Bool.and_true,Bool.and_false]),S8.out.bel⟩
 have c129:=S8.out.cell C.out.window
 have c130:=S8.out.cell C.out.share
 go_wp2_with fail
 refine (within_any 2147483647 _ _ [T.window,T.share] _ (row_new _ _ [T.window,T.share] 2 rfl (by decide) _ rfl)).mono ?_
 rintro e w9 ⟨rfl,hw⟩
 have hb9:Below w7.heap.size w7 w9:=hw ▸ (Below.refl _ _).alloc (Nat.le_refl _) _
 clear hw
 have S9:=hJJ (S8.out.step hb9)
 clear hb9 S8
 generalize hv:allIn 2147483647 [T.window,T.share]=b9
 have HB9:Hid (allIn 2147483647 [T.window,T.share]=b9):=hv
 clear hv
 go_wp2
 go_ret
 exact ⟨ret_bool (by unfold tabMay;simp only [HB1.out,HB2.out,HB3.out,HB4.out,HB5.out,HB6.out,HB7.out,HB8.out,HB9.out,Bool.true_and,Bool.false_and,Bool.and_true,Bool.and_false]),S9.out.bel⟩
end May
namespace May
open Zip
open Go.ChangeShapes Go.WideShapes Go.ChangeAt Go.RowKit
open Tab
def GAll (l:List Gr):Prop:=l.all (fun v=>groupMay v.data)=true
theorem GAll.step {l:List Gr} {k:Nat} {v:Gr} (h:l[k]?=some v) (hk:GAll (l.take k)) (hv:groupMay v.data=true):GAll (l.take (k+1)):=all_step (f:=fun v:Gr=>groupMay v.data) h hk hv
theorem infoT:(Tryz.prog.info? 31).map (·.size)=some 131:=by kernel_rfl
end May
namespace Copy
open Go Go.RowKit
open Tab
section
variable {P:Program}
end
section
variable {α:Type} {n:Nat} {enc:α→List Value}
end
end Copy
namespace Clone
open Go.ChangeShapes Go.WideShapes Go.ChangeAt Go.RowKit
open Tab Copy
open May (chain infoP infoG infoD infoR infoB)
theorem zB:(Tryz.prog.info? 96).map (fun i=>(i.zero,i.size,i.bytes))=some (some (.agg #[.int .i64 0,.int .i64 0]),2,16):=by kernel_rfl
end Clone
namespace Owned
open Go Go.RowKit
open Tab Copy
structure Blk where
 at_:Nat
 cells:List Value
 type:TypeId
def Own (B:Nat) (w:World) (L:List Blk):Prop:=(L.map Blk.at_).Nodup∧∀ x ∈ L,B≤x.at_∧w.heap[x.at_]?=some (.cells x.cells.toArray x.type (0,0))
variable {B:Nat} {w w':World} {L M:List Blk} {x:Blk}
theorem Own.nil:Own B w []:=⟨by simp,fun x h=>by simp at h⟩
theorem Own.get (h:Own B w L) (hx:x ∈ L):w.heap[x.at_]?=some (.cells x.cells.toArray x.type (0,0)):=(h.2 x hx).2
theorem Own.base (h:Own B w L) (hx:x ∈ L):B≤x.at_:=(h.2 x hx).1
theorem Own.lt (h:Own B w L) (hx:x ∈ L):x.at_ < w.heap.size:=(Array.getElem?_eq_some_iff.1 (h.get hx)).1
theorem Own.step (h:Own B w L) (hb:Below w.heap.size w w'):Own B w' L:=⟨h.1,fun x hx=>⟨h.base hx,by rw [hb.block _ (h.lt hx)];exact h.get hx⟩⟩
theorem Own.same (h:Own B w L) (hs:w'.heap=w.heap):Own B w' L:=⟨h.1,fun x hx=>⟨h.base hx,by rw [hs];exact h.get hx⟩⟩
theorem Own.add (h:Own B w L) (hb:Below w.heap.size w w') {g:Nat} {cs:List Value} {t:TypeId} (hg:w'.heap[g]?=some (.cells cs.toArray t (0,0))) (hn:w.heap.size≤g) (hB:B≤w.heap.size):Own B w' (⟨g,cs,t⟩ :: L):=by
 refine ⟨List.nodup_cons.2 ⟨fun hm=>?_,h.1⟩,fun y hy=>?_⟩
 ·obtain ⟨y,hy,e⟩:=List.mem_map.1 hm
  have:=h.lt hy
  have e':y.at_=g:=e
  omega
 ·rcases List.mem_cons.1 hy with rfl | hy
  ·exact ⟨Nat.le_trans hB hn,hg⟩
  ·exact (h.step hb).2 y hy
theorem Own.write (h:Own B w (x :: L)) {cs:List Value} (hg:w'.heap[x.at_]?=some (.cells cs.toArray x.type (0,0))) (ho:∀ j,j ≠ x.at_→w'.heap[j]?=w.heap[j]?):Own B w' (⟨x.at_,cs,x.type⟩ :: L):=by
 have hx:=(List.nodup_cons.1 h.1).1
 refine ⟨List.nodup_cons.2 ⟨hx,(List.nodup_cons.1 h.1).2⟩,fun y hy=>?_⟩
 rcases List.mem_cons.1 hy with rfl | hy
 ·exact ⟨(h.base (x:=x) (List.mem_cons_self ..):B≤x.at_),hg⟩
 ·have hne:y.at_ ≠ x.at_:=fun e=>hx (List.mem_map.2 ⟨y,hy,e⟩)
  exact ⟨h.base (List.mem_cons_of_mem _ hy),by rw [ho _ hne];exact h.get (List.mem_cons_of_mem _ hy)⟩
theorem Own.cell (h:Own B w L) (hx:x ∈ L) (i:Nat):w.cell? ⟨x.at_,i,none⟩=x.cells[i]?:=by
 rw [cell_of_row _ _ _ _ _ _ (h.get hx)];simp
theorem Own.frozen (h:Own B w L) (hx:x ∈ L) (i:Nat):w.frozen? ⟨x.at_,i,none⟩=false:=frozen_of_row _ _ _ _ _ (h.get hx)
theorem below_write {a:World} (hb:Below B a w) {g i:Nat} (hg:B≤g) (v:Value):Below B a (w.setCell ⟨g,i,none⟩ v):=hb.setCell (p:=⟨g,i,none⟩) hg v
end Owned
namespace Clone
open Go.ChangeShapes Go.WideShapes Go.ChangeAt Go.RowKit
open Tab Copy Owned
open May (chain infoP infoG infoD infoR infoB infoT)
structure NG where
 r0:List Int
 r1:List Int
 b0:Nat
 b1:Nat
def NG.gr (g:NG):Gr:=⟨g.r0,g.r1,⟨some ⟨g.b0,0,none⟩,g.r0.length⟩,⟨some ⟨g.b1,0,none⟩,g.r1.length⟩⟩
def NG.blks (g:NG):List Blk:=[⟨g.b0,g.r0.flatMap (fun n=>[I n]),3⟩,⟨g.b1,g.r1.flatMap (fun n=>[I n]),3⟩]
abbrev at0 (g n:Nat):Sl:=⟨some ⟨g,0,none⟩,n⟩
def own (T:Tab) (ns:List NG) (G D R S:Nat):List Blk :=
 ⟨G,(ns.map NG.gr).flatMap Gr.cells,65⟩ :: ⟨D,T.dets.flatMap Det.cells,90⟩ :: ⟨R,T.rails.flatMap Rl.cells,94⟩ :: ⟨S,T.buses.flatMap Bs.cells,96⟩ :: ns.flatMap NG.blks
def hd (T:Tab) (G D R S:Nat):Hd:=⟨at0 G T.groups.length,at0 D T.dets.length,at0 R T.rails.length,at0 S T.buses.length⟩
section
variable {T:Tab} {ns:List NG} {G D R S:Nat}
end
structure Eights (T:Tab):Prop where
 p:T.phases.length=8
 c:T.conflict.length=8
 f:T.flash.length=8
theorem Eights.tab {T:Tab} (k:Eights T) (h:Hd) (w:World):CellsOk T h (T.cells h).toArray:=by
 have h0:IsTab w ⟨⟨none,0⟩,⟨none,0⟩,⟨none,0⟩,⟨none,0⟩⟩ { T with groups:=[],dets:=[],rails:=[],buses:=[] } :=
  ⟨k.p,k.c,k.f,⟨[],rfl,RowOf.nil w,fun g hg=>by simp at hg⟩,RowOf.nil w,RowOf.nil w,RowOf.nil w⟩
 have:=cells_ok h0
 obtain ⟨p0,p1,p2,p3,p4,p5,p6,p7,hp⟩:=eight k.p
 obtain ⟨c0,c1,c2,c3,c4,c5,c6,c7,hc⟩:=eight k.c
 obtain ⟨f0,f1,f2,f3,f4,f5,f6,f7,hf⟩:=eight k.f
 clear k
 obtain ⟨phases,groups,conflict,dets,rails,buses,extend,budget,start,revert,least,flash,window,share⟩:=T
 simp only at hp hc hf
 subst hp hc hf
 clear this h0
 constructor
 all_goals try rfl
 case one=>simp [Tab.cells,Ph.cells,Value.oneCell']
 intro i p hp
 match i,hp with
 | 0,hp | 1,hp | 2,hp | 3,hp | 4,hp | 5,hp | 6,hp | 7,hp =>
  obtain rfl:=Option.some.inj hp
  rfl
 | i+8,hp=>cases hp
def zPh:Ph:=⟨false,0,0,0,0,0,0,0,0,0,0,false,false⟩
def zTab:Tab:=⟨List.replicate 8 zPh,[],List.replicate 8 0,[],[],[],0,0,0,0,0,List.replicate 8 0,0,0⟩
def zHd:Hd:=⟨⟨none,0⟩,⟨none,0⟩,⟨none,0⟩,⟨none,0⟩⟩
theorem z_is (w:World):IsTab w zHd zTab:=⟨rfl,rfl,rfl,⟨[],rfl,RowOf.nil w,fun g hg=>by simp at hg⟩,RowOf.nil w,RowOf.nil w,RowOf.nil w⟩
end Clone
namespace Clone
open Go.ChangeShapes Go.WideShapes Go.ChangeAt Go.RowKit
open Tab Copy Owned
open May (chain infoP infoG infoD infoR infoB infoT take_succ')
def D5 (w:World) (B M:Nat) (L0 L1 L2 L3:List Blk) (q:Nat) (w':World):Prop :=
 Below B w w'∧match q with
  | 0=>Owned.Own B w' L0∧w'.heap.size=M+1
  | 1=>Owned.Own B w' L1∧w'.heap.size=M+1+1
  | 2=>Owned.Own B w' L2∧w'.heap.size=M+1+1+1
  | _=>Owned.Own B w' L3
theorem D5.get {w w':World} {B M q:Nat} {L0 L1 L2 L3:List Blk} {x:Blk} (h:D5 w B M L0 L1 L2 L3 q w') (h0:x ∈ L0) (h1:x ∈ L1) (h2:x ∈ L2) (h3:x ∈ L3):w'.heap[x.at_]?=some (.cells x.cells.toArray x.type (0,0)):=by
 match q,h with
 | 0,⟨_,h,_⟩=>exact h.get h0
 | 1,⟨_,h,_⟩=>exact h.get h1
 | 2,⟨_,h,_⟩=>exact h.get h2
 | _+3,⟨_,h⟩=>exact h.get h3
end Clone
namespace Flat
open Go Go.ChangeShapes Go.WideShapes
section
variable {α β:Type}
def All2 (R:α→β→Prop):List α→List β→Prop
 | [],[]=>True
 | a :: l,b :: m=>R a b∧All2 R l m
 | _,_=>False
variable {R:α→β→Prop}
theorem All2.length:∀ {a:List α} {b:List β},All2 R a b→a.length=b.length
 | [],[],_=>rfl
 | _ :: _,_ :: _,⟨_,h⟩=>by simp [All2.length h]
 | [],_ :: _,h=>h.elim
 | _ :: _,[],h=>h.elim
theorem All2.append:∀ {a:List α} {b:List β} {c:List α} {d:List β},All2 R a b→All2 R c d→All2 R (a++c) (b++d)
 | [],[],_,_,_,h=>h
 | _ :: _,_ :: _,_,_,⟨h,k⟩,h2=>⟨h,All2.append k h2⟩
 | [],_ :: _,_,_,h,_=>h.elim
 | _ :: _,[],_,_,h,_=>h.elim
theorem All2.split:∀ {a c:List α} {b:List β},All2 R (a++c) b→All2 R a (b.take a.length)∧All2 R c (b.drop a.length)
 | [],_,_,h=>⟨trivial,h⟩
 | _ :: _,_,_ :: _,⟨h,k⟩=>⟨⟨h,(All2.split k).1⟩,(All2.split k).2⟩
 | _ :: _,_,[],h=>h.elim
theorem All2.at:∀ {a:List α} {b:List β},All2 R a b→∀ {i:Nat} {x:α} {y:β},a[i]?=some x→b[i]?=some y→R x y
 | _ :: _,_ :: _,⟨h,_⟩,0,_,_,h1,h2=>by simp at h1 h2;subst h1 h2;exact h
 | _ :: _,_ :: _,⟨_,k⟩,i+1,_,_,h1,h2=>All2.at k (i:=i) (by simpa using h1) (by simpa using h2)
 | [],_,_,_,_,_,h1,_=>by simp at h1
 | _ :: _,[],h,_,_,_,_,_=>h.elim
theorem All2.mono {S:α→β→Prop} (hm:∀ x y,R x y→S x y):∀ {a:List α} {b:List β},All2 R a b→All2 S a b
 | [],[],_=>trivial
 | _ :: _,_ :: _,⟨h,k⟩=>⟨hm _ _ h,All2.mono hm k⟩
 | [],_ :: _,h=>h.elim
 | _ :: _,[],h=>h.elim
end
def rowT (P:Program) (t:TypeId):Bool:=match P.underlying t with | some (.struct _) | some (.array _ _)=>true | _=>false
def flatF (P:Program) (g:TypeId→Option (List TypeId)):Nat→List Field→Option (List TypeId)
 | _,[]=>some []
 | o,f :: fs=>if f.name ≠ "_"∧f.offset=o then
   match g f.type with
   | some r=>if r.length=P.cellsOf f.type then (flatF P g (o+r.length) fs).map (r++·) else none
   | none=>none
  else none
def flat (P:Program):Nat→TypeId→Option (List TypeId)
 | 0,_=>none
 | d+1,t=>match P.underlying t with
  | some (.struct fs)=>if P.stoodInHeld t=true then none else match flatF P (flat P d) 0 fs.toList with
   | some l=>if l.length=P.cellsOf t then some l else none
   | none=>none
  | some (.array n e)=>match flat P d e with
   | some r=>if r.length=P.cellsOf e∧n*P.cellsOf e=P.cellsOf t then some (List.replicate n r).flatten else none
   | none=>none
  | some _=>if P.cellsOf t=1 then some [t] else none
  | none=>none
theorem flatF_cons {P:Program} {g:TypeId→Option (List TypeId)} {o:Nat} {f:Field} {fs:List Field} {l:List TypeId} (h:flatF P g o (f :: fs)=some l) :
  f.name ≠ "_"∧f.offset=o∧∃ r l',g f.type=some r∧r.length=P.cellsOf f.type∧flatF P g (o+r.length) fs=some l'∧l=r++l':=by
 unfold flatF at h
 split at h
 ·rename_i h1
  split at h
  ·rename_i r hr
   split at h
   ·rename_i hl
    simp only [Option.map_eq_some_iff] at h
    obtain ⟨l',h2,rfl⟩:=h
    exact ⟨h1.1,h1.2,r,l',hr,hl,h2,rfl⟩
   ·cases h
  ·cases h
 ·cases h
theorem take_two {α:Type} (l:List α) (o a b:Nat):(l.drop o).take (a+b)=(l.drop o).take a++(l.drop (o+a)).take b:=by
 rw [List.take_add,List.drop_drop]
section
variable {P:Program} {R:TypeId→Value→Prop} {G:TypeId→List Value→Prop} {g:TypeId→Option (List TypeId)}
theorem fields_flat (hg:∀ t ts cs,g t=some ts→G t cs→All2 R ts cs) (cs:List Value):∀ (fs:List Field) (o:Nat) (l:List TypeId),flatF P g o fs=some l →
  (∀ f ∈ fs,G f.type ((cs.drop f.offset).take (P.cellsOf f.type)))→All2 R l ((cs.drop o).take l.length)
 | [],_,l,h,_=>by
  simp only [flatF,Option.some.injEq] at h
  subst h;simp [All2]
 | f :: fs,o,l,h,hall=>by
  obtain ⟨_,ho,r,l',h1,h2,h3,rfl⟩:=flatF_cons h
  have h4:=hg _ _ _ h1 (hall f (by simp))
  rw [ho,← h2] at h4
  rw [List.length_append,take_two]
  exact h4.append (fields_flat hg cs fs _ _ h3 fun f hf=>hall f (by simp [hf]))
theorem items_flat {c:Nat} {e:TypeId} {r:List TypeId} (hg:∀ cs,G e cs→All2 R r cs) (cs:List Value):∀ (n k:Nat),(∀ i,i < n→G e ((cs.drop ((k+i)*c)).take c)) →
  All2 R (List.replicate n r).flatten ((cs.drop (k*c)).take (n*c))
 | 0,_,_=>by simp [All2]
 | n+1,k,h=>by
  rw [List.replicate_succ,List.flatten_cons,Nat.add_mul,Nat.one_mul,Nat.add_comm (n*c) c,take_two]
  refine (hg _ (by simpa using h 0 (by omega))).append ?_
  have:=items_flat hg cs n (k+1) (fun i hi=>by have:=h (i+1) (by omega);rwa [show k+(i+1)=k+1+i by omega] at this)
  rwa [Nat.add_mul,Nat.one_mul] at this
end
section
variable {H:Type} {enc:TypeId × Value→H} {P:Program} {w:World} {base:Nat} {spare:Nat→Bool} {held:Bool}
theorem trod_one {t:TypeId} {n:Nat} {cs:List Value} {x:DataW H × List MemPlace} {d:TypeDesc} (hu:P.underlying t=some d) (hd:rowT P t=false) (h:DataW.trod enc P w base spare held n t cs=some x):∃ v,cs=[v]:=by
 cases n with
 | zero=>simp [DataW.trod] at h
 | succ n =>
  unfold DataW.trod at h
  unfold rowT at hd
  rw [hu] at h hd
  split at h <;> first | exact ⟨_,rfl⟩ | (simp_all;done)
theorem trod_flat:∀ (d:Nat) (t:TypeId) (ts:List TypeId),flat P d t=some ts→∀ (n:Nat) (cs:List Value) (x:DataW H × List MemPlace),DataW.trod enc P w base spare held n t cs=some x →
  All2 (fun t v=>∃ n y,DataW.trod enc P w base spare held n t [v]=some y) ts cs
 | 0,_,_,h,_,_,_,_=>by simp [flat] at h
 | d+1,t,ts,h,n,cs,x,hx=>by
  unfold flat at h
  split at h
  ·rename_i fs hu
   split at h
   ·cases h
   ·split at h
    ·rename_i l hl
     split at h
     ·rename_i hlen
      simp only [Option.some.injEq] at h;subst h
      obtain ⟨xs,m,_,_,hcl,hxl,hf⟩:=DataW.trod_struct hu hx
      have:=fields_flat (P:=P) (G:=fun t cs=>∃ n y,DataW.trod enc P w base spare held n t cs=some y) (g:=flat P d) (fun t ts cs h ⟨n,y,hy⟩=>trod_flat d t ts h n cs y hy) cs fs.toList 0 l hl (fun f hf'=>by
       obtain ⟨i,hi⟩:=List.getElem?_of_mem hf'
       have h1:=hf i f (by simpa using hi)
       have h2:i < xs.length:=by
        have:=(List.getElem?_eq_some_iff.1 hi).1
        simp at this;omega
       rw [List.getElem?_eq_getElem h2] at h1
       exact ⟨m,_,h1⟩)
      rw [List.drop_zero,hlen,← hcl,List.take_length] at this
      exact this
     ·cases h
    ·cases h
  ·rename_i k e hu
   split at h
   ·rename_i r hr
    split at h
    ·rename_i hlen
     simp only [Option.some.injEq] at h;subst h
     obtain ⟨xs,m,_,_,hcl,hxl,hf⟩:=DataW.trod_array hu hx
     have:=items_flat (c:=P.cellsOf e) (e:=e) (r:=r) (G:=fun t cs=>∃ n y,DataW.trod enc P w base spare held n t cs=some y) (fun cs ⟨n,y,hy⟩=>trod_flat d e r hr n cs y hy) cs k 0 (fun i hi=>by
      have h1:=hf i hi
      rw [List.getElem?_eq_getElem (by omega)] at h1
      exact ⟨m,_,by simpa using h1⟩)
     rw [Nat.zero_mul,List.drop_zero,hlen.2,← hcl,List.take_length] at this
     exact this
    ·cases h
   ·cases h
  ·rename_i dd hns hna hu
   split at h
   ·simp only [Option.some.injEq] at h;subst h
    obtain ⟨v,rfl⟩:=trod_one hu (by unfold rowT;rw [hu];cases dd <;> simp_all) hx
    exact ⟨⟨n,x,hx⟩,trivial⟩
   ·cases h
  ·cases h
end
section
variable {P:Program}
def vOf (P:Program) (t:TypeId) (cs:List Value):Value:=if rowT P t then .agg cs.toArray else cs.headD undef
def LeafEq (P:Program) (t:TypeId) (p:Value × Value):Prop:=∃ b:Bool,(∀ D w,(Op.equalIn (D+1) t p.1 p.2).run P w=.ok b w)∧(b=true ↔ p.1=p.2)
theorem leaf_int {t:TypeId} {k:IntKind} (h:P.underlying t=some (.int k)) (a b:Int):LeafEq P t (.int k a,.int k b):=⟨a == b,fun D w=>run_equalIn_int w D t k k a b h,by simp⟩
theorem run_part (w:World) {t:TypeId} {d:TypeDesc} (hu:P.underlying t=some d) (hc:rowT P t=false→P.cellsOf t=1) (cs:List Value) (off:Nat) (hl:off+P.cellsOf t≤cs.length) :
  (part t cs.toArray off).run P w=.ok (vOf P t ((cs.drop off).take (P.cellsOf t))) w:=by
 obtain ⟨i,hi⟩:=info_of_underlying hu
 have hagg:(isAgg t).run P w=.ok (rowT P t) w:=by
  unfold isAgg rowT
  rw [Sem.run_bind,run_underlying hu w]
  rw [hu]
  cases d <;> simp
 unfold part vOf
 rw [Sem.run_bind,hagg,Result.andThen_ok]
 cases hr:rowT P t with
 | true =>
  simp only [if_true,Sem.run_bind,run_sizeOf w hi,Result.andThen_ok,Sem.run_pure]
  congr 2
  simp [List.extract]
 | false =>
  have h1:=hc hr
  have h2:off < cs.length:=by omega
  simp only [Bool.false_eq_true,if_false,List.getElem?_toArray,List.getElem?_eq_getElem h2,Sem.run_pure,h1]
  have h3:(cs.drop off).take 1=[cs[off]]:=by rw [List.drop_eq_getElem_cons h2];rfl
  rw [h3]
  simp
theorem cells_one {d:Nat} {t:TypeId} {ts:List TypeId} (h:flat P d t=some ts):(∃ dd,P.underlying t=some dd)∧(rowT P t=false→P.cellsOf t=1):=by
 cases d with
 | zero=>simp [flat] at h
 | succ d =>
  unfold flat at h
  unfold rowT
  split at h
  ·rename_i hu;exact ⟨⟨_,hu⟩,by rw [hu];simp⟩
  ·rename_i hu;exact ⟨⟨_,hu⟩,by rw [hu];simp⟩
  ·rename_i hu
   split at h
   ·rename_i h1;exact ⟨⟨_,hu⟩,fun _=>h1⟩
   ·cases h
  ·cases h
def EqG (P:Program) (D:Nat) (g:TypeId→Option (List TypeId)):Prop:=∀ (t:TypeId) (ts:List TypeId) (zs:List (Value × Value)),g t=some ts→All2 (LeafEq P) ts zs →
 ∃ b:Bool,(∀ w,(Op.equalIn D t (vOf P t (zs.map (·.1))) (vOf P t (zs.map (·.2)))).run P w=.ok b w)∧(b=true ↔ zs.map (·.1)=zs.map (·.2))
theorem map_part {γ:Type} (f:Value × Value→γ) (zs:List (Value × Value)) (o n:Nat):((zs.map f).drop o).take n=((zs.drop o).take n).map f:=by
 rw [← List.map_drop,← List.map_take]
theorem fields_eq {D d:Nat} (hg:EqG P D (flat P d)) (zs:List (Value × Value)):∀ (fs:List Field) (o:Nat) (l:List TypeId),flatF P (flat P d) o fs=some l→o+l.length≤zs.length →
  All2 (LeafEq P) l ((zs.drop o).take l.length) →
  ∃ b:Bool,(∀ w,(Op.eqFields D (zs.map (·.1)).toArray (zs.map (·.2)).toArray fs).run P w=.ok b w)∧(b=true ↔ ((zs.drop o).take l.length).map (·.1)=((zs.drop o).take l.length).map (·.2))
 | [],_,l,h,_,_=>by
  simp only [flatF,Option.some.injEq] at h
  subst h
  exact ⟨true,fun w=>by simp [Op.eqFields],by simp⟩
 | f :: fs,o,l,h,hlen,hall=>by
  obtain ⟨hn,ho,r,l',h1,h2,h3,rfl⟩:=flatF_cons h
  obtain ⟨⟨dd,hu⟩,hone⟩:=cells_one h1
  rw [List.length_append] at hlen hall ⊢
  rw [take_two] at hall ⊢
  have hs:=hall.split
  have hlr:((zs.drop o).take r.length).length=r.length:=by simp;omega
  rw [List.take_left' hlr,List.drop_left' hlr] at hs
  obtain ⟨b,hb,hiff⟩:=hg f.type r _ h1 hs.1
  obtain ⟨b',hb',hiff'⟩:=fields_eq hg zs fs (o+r.length) l' h3 (by omega) hs.2
  have p1:=fun w=>run_part (P:=P) w hu hone (zs.map (·.1)) f.offset (by simp;omega)
  have p2:=fun w=>run_part (P:=P) w hu hone (zs.map (·.2)) f.offset (by simp;omega)
  rw [ho,← h2] at p1 p2
  simp only [map_part] at p1 p2
  refine ⟨b && b',fun w=>?_,?_⟩
  ·simp only [Op.eqFields,hn,ne_eq,not_false_eq_true,if_true,Sem.run_bind,ho,p1,p2,hb,Result.andThen_ok]
   cases b
   ·simp
   ·simpa using hb' w
  ·rw [Bool.and_eq_true,hiff,hiff',List.map_append,List.map_append]
   constructor
   ·rintro ⟨e1,e2⟩;rw [e1,e2]
   ·intro e;exact List.append_inj e (by simp)
theorem items_eq {D d:Nat} (hg:EqG P D (flat P d)) {e:TypeId} {r:List TypeId} (hr:flat P d e=some r) (hc:r.length=P.cellsOf e) (zs:List (Value × Value)):∀ (n k:Nat),(k+n)*P.cellsOf e≤zs.length →
  All2 (LeafEq P) (List.replicate n r).flatten ((zs.drop (k*P.cellsOf e)).take (n*P.cellsOf e)) →
  ∃ b:Bool,(∀ w,(Op.eqItems D e (P.cellsOf e) (zs.map (·.1)).toArray (zs.map (·.2)).toArray (List.range' k n)).run P w=.ok b w) ∧
   (b=true ↔ ((zs.drop (k*P.cellsOf e)).take (n*P.cellsOf e)).map (·.1)=((zs.drop (k*P.cellsOf e)).take (n*P.cellsOf e)).map (·.2))
 | 0,k,_,_=>⟨true,fun w=>by simp [Op.eqItems],by simp⟩
 | n+1,k,hlen,hall=>by
  obtain ⟨⟨dd,hu⟩,hone⟩:=cells_one hr
  have hlen':k*P.cellsOf e+P.cellsOf e+n*P.cellsOf e≤zs.length:=by
   have:(k+(n+1))*P.cellsOf e=k*P.cellsOf e+P.cellsOf e+n*P.cellsOf e:=by
    rw [Nat.add_mul,Nat.add_mul,Nat.one_mul];omega
   omega
  rw [List.replicate_succ,List.flatten_cons] at hall
  rw [Nat.add_mul,Nat.one_mul,Nat.add_comm (n*_),take_two] at hall ⊢
  have hs:=hall.split
  have hlr:((zs.drop (k*P.cellsOf e)).take (P.cellsOf e)).length=r.length:=by rw [hc];simp;omega
  rw [List.take_left' hlr,List.drop_left' hlr] at hs
  obtain ⟨b,hb,hiff⟩:=hg e r _ hr hs.1
  have hk:k*P.cellsOf e+P.cellsOf e=(k+1)*P.cellsOf e:=by rw [Nat.add_mul,Nat.one_mul]
  rw [hk] at hs ⊢
  obtain ⟨b',hb',hiff'⟩:=items_eq hg hr hc zs n (k+1) (by rw [Nat.add_mul,Nat.add_mul] at *;omega) hs.2
  have p1:=fun w=>run_part (P:=P) w hu hone (zs.map (·.1)) (k*P.cellsOf e) (by simp;omega)
  have p2:=fun w=>run_part (P:=P) w hu hone (zs.map (·.2)) (k*P.cellsOf e) (by simp;omega)
  simp only [map_part] at p1 p2
  refine ⟨b && b',fun w=>?_,?_⟩
  ·simp only [List.range'_succ,Op.eqItems,Sem.run_bind,p1,p2,hb,Result.andThen_ok]
   cases b
   ·simp
   ·simpa using hb' w
  ·rw [Bool.and_eq_true,hiff,hiff',List.map_append,List.map_append]
   constructor
   ·rintro ⟨e1,e2⟩;rw [e1,e2]
   ·intro e;exact List.append_inj e (by simp)
theorem eq_flat:∀ (d D:Nat),d≤D→EqG P D (flat P d)
 | 0,_,_=>fun t ts zs h _=>by simp [flat] at h
 | d+1,0,h=>absurd h (by omega)
 | d+1,D+1,hD=>fun t ts zs h hall=>by
  have IH:=eq_flat d D (by omega)
  unfold flat at h
  split at h
  ·rename_i fs hu
   split at h
   ·cases h
   ·rename_i hst
    split at h
    ·rename_i l hl
     split at h
     ·rename_i hlen
      simp only [Option.some.injEq] at h;subst h
      have hz:=hall.length
      obtain ⟨b,hb,hiff⟩:=fields_eq IH zs fs.toList 0 l hl (by omega) (by rw [List.drop_zero,hz,List.take_length];exact hall)
      rw [List.drop_zero,hz,List.take_length] at hiff
      have hfs:P.fieldsOf t=fs:=by simp [Program.fieldsOf,hu]
      refine ⟨b,fun w=>?_,hiff⟩
      have hr:rowT P t=true:=by unfold rowT;rw [hu]
      unfold vOf
      rw [if_pos hr,if_pos hr,run_equalIn_struct w D t _ _ (by rw [hfs];exact hu) (by simpa using hst),hfs]
      exact hb w
     ·cases h
    ·cases h
  ·rename_i n e hu
   split at h
   ·rename_i r hr
    split at h
    ·rename_i hlen
     simp only [Option.some.injEq] at h;subst h
     have hz:=hall.length
     have hz2:n*P.cellsOf e=zs.length:=by rw [← hz];simp [hlen.1]
     obtain ⟨b,hb,hiff⟩:=items_eq IH hr hlen.1 zs n 0 (by rw [Nat.zero_add];omega) (by rw [Nat.zero_mul,List.drop_zero,hz2,List.take_length];exact hall)
     rw [Nat.zero_mul,List.drop_zero,hz2,List.take_length] at hiff
     obtain ⟨⟨dd,hue⟩,_⟩:=cells_one hr
     obtain ⟨i,hi⟩:=info_of_underlying hue
     refine ⟨b,fun w=>?_,hiff⟩
     have hrow:rowT P t=true:=by unfold rowT;rw [hu]
     unfold vOf
     rw [if_pos hrow,if_pos hrow,run_equalIn_array w D _ _ hu hi,List.range_eq_range']
     exact hb w
    ·cases h
   ·cases h
  ·rename_i dd hns hna hu
   split at h
   ·simp only [Option.some.injEq] at h;subst h
    have hr:rowT P t=false:=by unfold rowT;rw [hu];cases dd <;> simp_all
    match zs,hall with
    | [p],⟨⟨b,hb,hiff⟩,_⟩ =>
     refine ⟨b,fun w=>?_,by simpa using hiff⟩
     unfold vOf
     rw [hr]
     simpa using hb D w
   ·cases h
  ·cases h
theorem eql_flat {d:Nat} {t:TypeId} {ts:List TypeId} (h:flat P d t=some ts) (hd:d≤10000) (hr:rowT P t=true) (zs:List (Value × Value)) (hall:All2 (LeafEq P) ts zs) :
  ∃ b:Bool,(∀ w,(Op.equalIn 10000 t (.agg (zs.map (·.1)).toArray) (.agg (zs.map (·.2)).toArray)).run P w=.ok b w)∧(b=true ↔ zs.map (·.1)=zs.map (·.2)):=by
 obtain ⟨b,hb,hiff⟩:=eq_flat d 10000 hd t ts zs h hall
 refine ⟨b,fun w=>?_,hiff⟩
 have:=hb w
 unfold vOf at this
 rwa [if_pos hr,if_pos hr] at this
end
end Flat
namespace Same
open Go.ChangeShapes Go.WideShapes Go.ChangeAt Go.RowKit
open Tab
open May (ret_bool chain take_succ' infoP infoG infoD infoR infoB row_new)
end Same
namespace Same
open Go.ChangeShapes Go.WideShapes
open Tab Flat
def Eqs (t:TypeId) (xs ys:List Value) (b:Bool):Prop:=∀ w:World,(Op.equalIn 10000 t (.agg xs.toArray) (.agg ys.toArray)).run Tryz.prog w=.ok b w
theorem eqs_of {d:Nat} {t:TypeId} {ts:List TypeId} (h:flat Tryz.prog d t=some ts) (hd:d≤10000) (hr:rowT Tryz.prog t=true) (zs:List (Value × Value)) (hall:All2 (LeafEq Tryz.prog) ts zs) {xs ys:List Value} (hx:zs.map (·.1)=xs) (hy:zs.map (·.2)=ys) {p:Prop} [Decidable p]
  (hp:xs=ys ↔ p):Eqs t xs ys (decide p):=by
 subst hx hy
 obtain ⟨b,hb,hiff⟩:=eql_flat h hd hr zs hall
 rw [hp] at hiff
 have e:b=decide p:=by
  by_cases hq:p
  ·rw [decide_eq_true hq];exact hiff.2 hq
  ·rw [decide_eq_false hq];cases b
   ·rfl
   ·exact absurd (hiff.1 rfl) hq
 intro w
 rw [hb w,e]
theorem lint (a b:Int):LeafEq Tryz.prog 3 (I a,I b):=leaf_int Tryz.underlying3 a b
def single (T:Tab):List Int:=[T.extend,T.budget,T.start,T.revert,T.least,T.window,T.share]
end Same
namespace Same
open Go.ChangeShapes Go.WideShapes Go.ChangeAt Go.RowKit
open Tab
open May (ret_bool chain take_succ' infoP infoG infoD infoR infoB row_new)
end Same
namespace QB
open Go.RowKit
structure By (B:Nat) (w:World) where
 world:World
 below:Below B w world
instance {B:Nat} {w:World}:Inhabited (By B w):=⟨⟨w,Below.refl _ _⟩⟩
theorem region_tail {P:Program} {w:World} {id:Nat} {Q:Exit→Act→World→Prop} {a:Act} {l:List Oper} (n:Nat) (hm:P.follows .mixedOrders=true) (hB:Region.lexTailB .any l.toArray n=true)
  (h:wpStill P l.toArray w.drew (fun a'=>wpList P l.toArray Q (l.drop n) a' w.drew) (l.take n) a):(Code.region id l.toArray true).wp P Q a w :=
 wp_region_still_tail n hm hB h
end QB
namespace Same
open Go.ChangeShapes Go.WideShapes Go.ChangeAt Go.RowKit
open Tab
open May (ret_bool chain take_succ' infoP infoG infoD infoR infoB row_new St)
theorem below_setRow {B:Nat} {a w:World} (h:Below B a w) {g:Nat} (hg:B≤g) (cs:Array Value):Below B a (w.setRow g cs) :=
 h.trans ⟨rfl,rfl,rfl,by simp [World.setRow],fun j hj=>setRow_other _ _ _ _ (by omega)⟩
end Same
namespace GenP
open Zip
open Go.ChangeShapes Go.WideShapes Go.ChangeAt Go.RowKit
open Tab Clone RefS
open May (infoP)
open Same (below_setRow)
theorem infoPz:(Tryz.prog.info? 23).map (fun i=>(i.zero,i.size))=some (some (.agg zPh.cells.toArray),13):=by kernel_rfl
def recall (x walk:Int):Int:=if x > 3∨x=3∧walk=0 then 0 else x
def genPh (L:List Int) (i:Int):Ph :=
 let min:=1+num L i 12
 let max:=min+num L (i+5) 25
 let walks:=num L (i+7) 2=1
 let walk:=if walks then 1+num L (i+8) 10 else 0
 ⟨true,min,num L (i+1) 9,max,max+num L (i+6) 15,1+num L (i+2) 6,10+num L (i+3) 4,num L (i+4) 5,walk,if walks then 1+num L (i+8) 97 / 10 else 0,recall (num L (i+9) 7) walk,decide (num L (i+10) 3 > 0),decide (num L (i+11) 4=1)⟩
theorem phase_any (a:Option Addr) (cap:Nat) (L:List Int) (i:Int) (w:World) (h:IntRow w ⟨a,cap⟩ L) (h0:0≤i) (h1:i≤100000) :
  Calls Tryz.prog 51 #[.slice a L.length cap,.int .i64 i] w fun e w'=>e=.returned (.agg (genPh L i).cells.toArray)∧Below w.heap.size w w':=by
 obtain ⟨x0,hx0,⟨r0,s0⟩,F0⟩:∃ x:Int,x=num L i 12∧(0≤x∧x < 12)∧Hid (∀ W,Below w.heap.size w W→Calls Tryz.prog 53 #[.slice a L.length cap,.int .i64 i,.int .i64 12] W fun e w'=>e=.returned (.int .i64 x)∧w'=W):=⟨_,rfl,num_range _ _ _ (by omega),hJJ (fun W hb=>(from_any a cap L _ _ W (h.below hb) (by omega) (by omega) (by omega)).mono fun _ _ ⟨e,q⟩=>⟨e,q.symm⟩)⟩
 obtain ⟨x1,hx1,⟨r1,s1⟩,F1⟩:∃ x:Int,x=num L (i+1) 9∧(0≤x∧x < 9)∧Hid (∀ W,Below w.heap.size w W→Calls Tryz.prog 53 #[.slice a L.length cap,.int .i64 (i+1),.int .i64 9] W fun e w'=>e=.returned (.int .i64 x)∧w'=W):=⟨_,rfl,num_range _ _ _ (by omega),hJJ (fun W hb=>(from_any a cap L _ _ W (h.below hb) (by omega) (by omega) (by omega)).mono fun _ _ ⟨e,q⟩=>⟨e,q.symm⟩)⟩
 obtain ⟨x2,hx2,⟨r2,s2⟩,F2⟩:∃ x:Int,x=num L (i+2) 6∧(0≤x∧x < 6)∧Hid (∀ W,Below w.heap.size w W→Calls Tryz.prog 53 #[.slice a L.length cap,.int .i64 (i+2),.int .i64 6] W fun e w'=>e=.returned (.int .i64 x)∧w'=W):=⟨_,rfl,num_range _ _ _ (by omega),hJJ (fun W hb=>(from_any a cap L _ _ W (h.below hb) (by omega) (by omega) (by omega)).mono fun _ _ ⟨e,q⟩=>⟨e,q.symm⟩)⟩
 obtain ⟨x3,hx3,⟨r3,s3⟩,F3⟩:∃ x:Int,x=num L (i+3) 4∧(0≤x∧x < 4)∧Hid (∀ W,Below w.heap.size w W→Calls Tryz.prog 53 #[.slice a L.length cap,.int .i64 (i+3),.int .i64 4] W fun e w'=>e=.returned (.int .i64 x)∧w'=W):=⟨_,rfl,num_range _ _ _ (by omega),hJJ (fun W hb=>(from_any a cap L _ _ W (h.below hb) (by omega) (by omega) (by omega)).mono fun _ _ ⟨e,q⟩=>⟨e,q.symm⟩)⟩
 obtain ⟨x4,hx4,⟨r4,s4⟩,F4⟩:∃ x:Int,x=num L (i+4) 5∧(0≤x∧x < 5)∧Hid (∀ W,Below w.heap.size w W→Calls Tryz.prog 53 #[.slice a L.length cap,.int .i64 (i+4),.int .i64 5] W fun e w'=>e=.returned (.int .i64 x)∧w'=W):=⟨_,rfl,num_range _ _ _ (by omega),hJJ (fun W hb=>(from_any a cap L _ _ W (h.below hb) (by omega) (by omega) (by omega)).mono fun _ _ ⟨e,q⟩=>⟨e,q.symm⟩)⟩
 obtain ⟨x5,hx5,⟨r5,s5⟩,F5⟩:∃ x:Int,x=num L (i+5) 25∧(0≤x∧x < 25)∧Hid (∀ W,Below w.heap.size w W→Calls Tryz.prog 53 #[.slice a L.length cap,.int .i64 (i+5),.int .i64 25] W fun e w'=>e=.returned (.int .i64 x)∧w'=W):=⟨_,rfl,num_range _ _ _ (by omega),hJJ (fun W hb=>(from_any a cap L _ _ W (h.below hb) (by omega) (by omega) (by omega)).mono fun _ _ ⟨e,q⟩=>⟨e,q.symm⟩)⟩
 obtain ⟨x6,hx6,⟨r6,s6⟩,F6⟩:∃ x:Int,x=num L (i+6) 15∧(0≤x∧x < 15)∧Hid (∀ W,Below w.heap.size w W→Calls Tryz.prog 53 #[.slice a L.length cap,.int .i64 (i+6),.int .i64 15] W fun e w'=>e=.returned (.int .i64 x)∧w'=W):=⟨_,rfl,num_range _ _ _ (by omega),hJJ (fun W hb=>(from_any a cap L _ _ W (h.below hb) (by omega) (by omega) (by omega)).mono fun _ _ ⟨e,q⟩=>⟨e,q.symm⟩)⟩
 obtain ⟨x7,hx7,⟨r7,s7⟩,F7⟩:∃ x:Int,x=num L (i+7) 2∧(0≤x∧x < 2)∧Hid (∀ W,Below w.heap.size w W→Calls Tryz.prog 53 #[.slice a L.length cap,.int .i64 (i+7),.int .i64 2] W fun e w'=>e=.returned (.int .i64 x)∧w'=W):=⟨_,rfl,num_range _ _ _ (by omega),hJJ (fun W hb=>(from_any a cap L _ _ W (h.below hb) (by omega) (by omega) (by omega)).mono fun _ _ ⟨e,q⟩=>⟨e,q.symm⟩)⟩
 obtain ⟨x8,hx8,⟨r8,s8⟩,F8⟩:∃ x:Int,x=num L (i+8) 10∧(0≤x∧x < 10)∧Hid (∀ W,Below w.heap.size w W→Calls Tryz.prog 53 #[.slice a L.length cap,.int .i64 (i+8),.int .i64 10] W fun e w'=>e=.returned (.int .i64 x)∧w'=W):=⟨_,rfl,num_range _ _ _ (by omega),hJJ (fun W hb=>(from_any a cap L _ _ W (h.below hb) (by omega) (by omega) (by omega)).mono fun _ _ ⟨e,q⟩=>⟨e,q.symm⟩)⟩
 obtain ⟨xb,hxb,⟨rb,sb⟩,Fb⟩:∃ x:Int,x=num L (i+8) 97∧(0≤x∧x < 97)∧Hid (∀ W,Below w.heap.size w W→Calls Tryz.prog 53 #[.slice a L.length cap,.int .i64 (i+8),.int .i64 97] W fun e w'=>e=.returned (.int .i64 x)∧w'=W):=⟨_,rfl,num_range _ _ _ (by omega),hJJ (fun W hb=>(from_any a cap L _ _ W (h.below hb) (by omega) (by omega) (by omega)).mono fun _ _ ⟨e,q⟩=>⟨e,q.symm⟩)⟩
 obtain ⟨x9,hx9,⟨r9,s9⟩,F9⟩:∃ x:Int,x=num L (i+9) 7∧(0≤x∧x < 7)∧Hid (∀ W,Below w.heap.size w W→Calls Tryz.prog 53 #[.slice a L.length cap,.int .i64 (i+9),.int .i64 7] W fun e w'=>e=.returned (.int .i64 x)∧w'=W):=⟨_,rfl,num_range _ _ _ (by omega),hJJ (fun W hb=>(from_any a cap L _ _ W (h.below hb) (by omega) (by omega) (by omega)).mono fun _ _ ⟨e,q⟩=>⟨e,q.symm⟩)⟩
 obtain ⟨xt,hxt,⟨rt,st⟩,Ft⟩:∃ x:Int,x=num L (i+10) 3∧(0≤x∧x < 3)∧Hid (∀ W,Below w.heap.size w W→Calls Tryz.prog 53 #[.slice a L.length cap,.int .i64 (i+10),.int .i64 3] W fun e w'=>e=.returned (.int .i64 x)∧w'=W):=⟨_,rfl,num_range _ _ _ (by omega),hJJ (fun W hb=>(from_any a cap L _ _ W (h.below hb) (by omega) (by omega) (by omega)).mono fun _ _ ⟨e,q⟩=>⟨e,q.symm⟩)⟩
 obtain ⟨xe,hxe,⟨re,se⟩,Fe⟩:∃ x:Int,x=num L (i+11) 4∧(0≤x∧x < 4)∧Hid (∀ W,Below w.heap.size w W→Calls Tryz.prog 53 #[.slice a L.length cap,.int .i64 (i+11),.int .i64 4] W fun e w'=>e=.returned (.int .i64 x)∧w'=W):=⟨_,rfl,num_range _ _ _ (by omega),hJJ (fun W hb=>(from_any a cap L _ _ W (h.below hb) (by omega) (by omega) (by omega)).mono fun _ _ ⟨e,q⟩=>⟨e,q.symm⟩)⟩
 have RES:Hid (genPh L i=⟨true,1+x0,x1,1+x0+x5,1+x0+x5+x6,1+x2,10+x3,x4,if x7=1 then 1+x8 else 0,if x7=1 then 1+xb / 10 else 0,recall x9 (if x7=1 then 1+x8 else 0),decide (xt > 0),decide (xe=1)⟩):=hJJ (by subst hx0 hx1 hx2 hx3 hx4 hx5 hx6 hx7 hx8 hxb hx9 hxt hxe;rfl)
 generalize genPh L i=R at RES ⊢
 clear hx0 hx1 hx2 hx3 hx4 hx5 hx6 hx7 hx8 hxb hx9 hxt hxe h
 have hz:=(zero_of_info infoPz).1
 have HB:Hid (Below w.heap.size w (w.alloc (.cells zPh.cells.toArray 23))):=hJJ ((Below.refl _ _).alloc (Nat.le_refl _) _)
 have hg:=heap_alloc_new w (.cells zPh.cells.toArray 23)
 have hs:(w.alloc (.cells zPh.cells.toArray 23)).heap.size=w.heap.size+1:=by simp
 have HG:=hJJ hg
 have HS:=hJJ hs
 clear hg hs
 simp only [zPh,Ph.cells] at hz HB HG HS
 go_enter Tryz.func51,Tryz.ntmps51
 go_upto_region 1 with fail
 generalize (World.alloc w _)=u at HB HG HS ⊢
 go_wp2_with fail
 refine (F0.out _ HB.out).mono ?_
 rintro e w' ⟨rfl,hq⟩
 subst w'
 go_wp2_with fail
 refine (F1.out _ HB.out).mono ?_
 rintro e w' ⟨rfl,hq⟩
 subst w'
 go_wp2_with fail
 refine (F2.out _ HB.out).mono ?_
 rintro e w' ⟨rfl,hq⟩
 subst w'
 go_wp2_with fail
 refine (F3.out _ HB.out).mono ?_
 rintro e w' ⟨rfl,hq⟩
 subst w'
 go_wp2_with fail
 refine (F4.out _ HB.out).mono ?_
 rintro e w' ⟨rfl,hq⟩
 subst w'
 go_upto_region 2 with (refine Row.wpList_store_new rfl 23 _ _ rfl u _ #[.bool true,I (1+x0),I x1,I 0,I 0,I (1+x2),I (10+x3),I x4,I 0,I 0,I 0,.bool false,.bool false] rfl rfl rfl infoP rfl (by simp [Value.oneCell']) ?_)
 (try dsimp only [Act.put])
 have hb:=HB.out.alloc HB.out.size (.cells #[.bool true,I (1+x0),I x1,I 0,I 0,I (1+x2),I (10+x3),I x4,I 0,I 0,I 0,.bool false,.bool false] 23)
 have g5:=heap_alloc_new u (.cells #[.bool true,I (1+x0),I x1,I 0,I 0,I (1+x2),I (10+x3),I x4,I 0,I 0,I 0,.bool false,.bool false] 23)
 have g4:=(Below.heap_alloc u (.cells #[.bool true,I (1+x0),I x1,I 0,I 0,I (1+x2),I (10+x3),I x4,I 0,I 0,I 0,.bool false,.bool false] 23) w.heap.size (by have:=HS.out;omega)).trans HG.out
 have b5lt:w.heap.size < u.heap.size:=by have:=HS.out;omega
 clear HB HG HS
 generalize World.alloc u _=u0 at g4 g5 hb ⊢
 generalize u.heap.size=b5 at g5 b5lt ⊢
 have G4:=hJJ g4
 have G5:=hJJ g5
 have HB:=hJJ hb
 clear g4 g5 hb
 have e0:IntKind.i64.wrap (i+5)=i+5:=by rw [IntKind.wrap_i64];omega
 have e1:IntKind.i64.wrap (1+x0+x5)=1+x0+x5:=by rw [IntKind.wrap_i64];omega
 have g4:u0.drew.heap[w.heap.size]?=some (.cells #[.bool false,.int .i64 0,.int .i64 0,.int .i64 0,.int .i64 0,.int .i64 0,.int .i64 0,.int .i64 0,.int .i64 0,.int .i64 0,.int .i64 0,.bool false,.bool false] 23 (0,0)):=G4.out
 have g5:u0.drew.heap[b5]?=some (.cells #[.bool true,I (1+x0),I x1,I 0,I 0,I (1+x2),I (10+x3),I x4,I 0,I 0,I 0,.bool false,.bool false] 23 (0,0)):=G5.out
 have hb:Below w.heap.size w u0.drew:=HB.out.drew
 clear G4 G5 HB
 refine QB.region_tail 8 (by kernel_rfl) (by kernel_rfl) ?_
 generalize World.drew u0=u1 at g4 g5 hb ⊢
 have G4:=hJJ g4
 have G5:=hJJ g5
 have HB:=hJJ hb
 clear g4 g5 hb
 have c1:u1.cell? ⟨b5,1,none⟩=some (I (1+x0)):=by rw [cell_of_row _ _ _ _ _ _ G5.out];rfl
 have c3:u1.cell? ⟨b5,3,none⟩=some (I 0):=by rw [cell_of_row _ _ _ _ _ _ G5.out];rfl
 have f3:u1.frozen? ⟨b5,3,none⟩=false:=frozen_of_row _ _ _ _ _ G5.out
 simp only [List.take_succ_cons,List.take_zero,List.drop_succ_cons,List.drop_zero]
 repeat still_step
 still_call (F5.out _ HB.out)
 repeat still_step
 refine wpStill_nil ?_
 go_upto_region 3 with fail
 clear e0 e1
 have g5:=heap_setCell_same u1 b5 3 _ _ (I (1+x0+x5)) G5.out
 simp only [List.setIfInBounds_toArray,List.set_cons_succ,List.set_cons_zero] at g5
 have g4:=(Below.heap_setCell u1 ⟨b5,3,none⟩ (I (1+x0+x5)) w.heap.size (by simp;omega)).trans G4.out
 have hb:=Owned.below_write HB.out (g:=b5) (i:=3) (by omega) (I (1+x0+x5))
 clear c1 c3 f3 G4 G5 HB
 generalize World.setCell u1 ⟨b5,3,none⟩ (I (1+x0+x5))=u2 at g4 g5 hb ⊢
 have G4:=hJJ g4
 have G5:=hJJ g5
 have HB:=hJJ hb
 clear g4 g5 hb
 have e0:IntKind.i64.wrap (i+6)=i+6:=by rw [IntKind.wrap_i64];omega
 have e1:IntKind.i64.wrap (1+x0+x5+x6)=1+x0+x5+x6:=by rw [IntKind.wrap_i64];omega
 have g4:u2.drew.heap[w.heap.size]?=some (.cells #[.bool false,.int .i64 0,.int .i64 0,.int .i64 0,.int .i64 0,.int .i64 0,.int .i64 0,.int .i64 0,.int .i64 0,.int .i64 0,.int .i64 0,.bool false,.bool false] 23 (0,0)):=G4.out
 have g5:u2.drew.heap[b5]?=some (.cells #[.bool true,I (1+x0),I x1,I (1+x0+x5),I 0,I (1+x2),I (10+x3),I x4,I 0,I 0,I 0,.bool false,.bool false] 23 (0,0)):=G5.out
 have hb:Below w.heap.size w u2.drew:=HB.out.drew
 clear G4 G5 HB
 refine QB.region_tail 8 (by kernel_rfl) (by kernel_rfl) ?_
 generalize World.drew u2=u3 at g4 g5 hb ⊢
 have G4:=hJJ g4
 have G5:=hJJ g5
 have HB:=hJJ hb
 clear g4 g5 hb
 have c3:u3.cell? ⟨b5,3,none⟩=some (I (1+x0+x5)):=by rw [cell_of_row _ _ _ _ _ _ G5.out];rfl
 have c4:u3.cell? ⟨b5,4,none⟩=some (I 0):=by rw [cell_of_row _ _ _ _ _ _ G5.out];rfl
 have f4:u3.frozen? ⟨b5,4,none⟩=false:=frozen_of_row _ _ _ _ _ G5.out
 simp only [List.take_succ_cons,List.take_zero,List.drop_succ_cons,List.drop_zero]
 repeat still_step
 still_call (F6.out _ HB.out)
 repeat still_step
 refine wpStill_nil ?_
 go_upto_region 4 with fail
 clear e0 e1
 have g5:=heap_setCell_same u3 b5 4 _ _ (I (1+x0+x5+x6)) G5.out
 simp only [List.setIfInBounds_toArray,List.set_cons_succ,List.set_cons_zero] at g5
 have g4:=(Below.heap_setCell u3 ⟨b5,4,none⟩ (I (1+x0+x5+x6)) w.heap.size (by simp;omega)).trans G4.out
 have hb:=Owned.below_write HB.out (g:=b5) (i:=4) (by omega) (I (1+x0+x5+x6))
 clear c3 c4 f4 G4 G5 HB
 generalize World.setCell u3 ⟨b5,4,none⟩ (I (1+x0+x5+x6))=u4 at g4 g5 hb ⊢
 have G4:=hJJ g4
 have G5:=hJJ g5
 have HB:=hJJ hb
 clear g4 g5 hb
 go_wp2_with fail
 refine (F7.out _ HB.out).mono ?_
 rintro e w' ⟨rfl,hq⟩
 subst w'
 by_cases h7:x7=1
 ·have H7:=hJJ h7
  have e7:(x7 == 1)=true:=by simpa using h7
  clear h7
  go_upto_region 5 with fail
  have c8:u4.cell? ⟨b5,8,none⟩=some (I 0):=by rw [cell_of_row _ _ _ _ _ _ G5.out];rfl
  have f8:u4.frozen? ⟨b5,8,none⟩=false:=frozen_of_row _ _ _ _ _ G5.out
  go_wp2_with fail
  refine (F8.out _ HB.out).mono ?_
  rintro e w' ⟨rfl,hq⟩
  subst w'
  go_upto_region 6 with fail
  have g5:=heap_setCell_same u4 b5 8 _ _ (I (1+x8)) G5.out
  simp only [List.setIfInBounds_toArray,List.set_cons_succ,List.set_cons_zero] at g5
  have g4:=(Below.heap_setCell u4 ⟨b5,8,none⟩ (I (1+x8)) w.heap.size (by simp;omega)).trans G4.out
  have hb:=Owned.below_write HB.out (g:=b5) (i:=8) (by omega) (I (1+x8))
  clear c8 f8 G4 G5 HB
  generalize World.setCell u4 ⟨b5,8,none⟩ (I (1+x8))=u5 at g4 g5 hb ⊢
  have G4:=hJJ g4
  have G5:=hJJ g5
  have HB:=hJJ hb
  clear g4 g5 hb
  have c9:u5.cell? ⟨b5,9,none⟩=some (I 0):=by rw [cell_of_row _ _ _ _ _ _ G5.out];rfl
  have f9:u5.frozen? ⟨b5,9,none⟩=false:=frozen_of_row _ _ _ _ _ G5.out
  go_wp2_with fail
  refine (Fb.out _ HB.out).mono ?_
  rintro e w' ⟨rfl,hq⟩
  subst w'
  go_upto_region 7 with fail
  have g5:=heap_setCell_same u5 b5 9 _ _ (I (1+xb / 10)) G5.out
  simp only [List.setIfInBounds_toArray,List.set_cons_succ,List.set_cons_zero] at g5
  have g4:=(Below.heap_setCell u5 ⟨b5,9,none⟩ (I (1+xb / 10)) w.heap.size (by simp;omega)).trans G4.out
  have hb:=Owned.below_write HB.out (g:=b5) (i:=9) (by omega) (I (1+xb / 10))
  clear c9 f9 G4 G5 HB
  generalize World.setCell u5 ⟨b5,9,none⟩ (I (1+xb / 10))=u6 at g4 g5 hb ⊢
  have G4:=hJJ g4
  have G5:=hJJ g5
  have HB:=hJJ hb
  clear g4 g5 hb
  have c10:u6.cell? ⟨b5,10,none⟩=some (I 0):=by rw [cell_of_row _ _ _ _ _ _ G5.out];rfl
  have f10:u6.frozen? ⟨b5,10,none⟩=false:=frozen_of_row _ _ _ _ _ G5.out
  go_wp2_with fail
  refine (F9.out _ HB.out).mono ?_
  rintro e w' ⟨rfl,hq⟩
  subst w'
  go_upto_region 8 with fail
  have g5:=heap_setCell_same u6 b5 10 _ _ (I x9) G5.out
  simp only [List.setIfInBounds_toArray,List.set_cons_succ,List.set_cons_zero] at g5
  have g4:=(Below.heap_setCell u6 ⟨b5,10,none⟩ (I x9) w.heap.size (by simp;omega)).trans G4.out
  have hb:=Owned.below_write HB.out (g:=b5) (i:=10) (by omega) (I x9)
  clear c10 f10 G4 G5 HB
  generalize World.setCell u6 ⟨b5,10,none⟩ (I x9)=u7 at g4 g5 hb ⊢
  have G4:=hJJ g4
  have G5:=hJJ g5
  have HB:=hJJ hb
  clear g4 g5 hb
  have c8:u7.cell? ⟨b5,8,none⟩=some (I (1+x8)):=by rw [cell_of_row _ _ _ _ _ _ G5.out];rfl
  have c10:u7.cell? ⟨b5,10,none⟩=some (I x9):=by rw [cell_of_row _ _ _ _ _ _ G5.out];rfl
  have f10:u7.frozen? ⟨b5,10,none⟩=false:=frozen_of_row _ _ _ _ _ G5.out
  by_cases h9:x9 > 3
  ·have RC:Hid (recall x9 (1+x8)=0):=hJJ (by unfold recall;rw [if_pos (by omega)])
   have H9:=hJJ h9
   have q9:¬ (x9≤3):=by omega
   go_upto_region 10 with fail
   have g5:=heap_setCell_same u7 b5 10 _ _ (I 0) G5.out
   simp only [List.setIfInBounds_toArray,List.set_cons_succ,List.set_cons_zero] at g5
   have g4:=(Below.heap_setCell u7 ⟨b5,10,none⟩ (I 0) w.heap.size (by simp;omega)).trans G4.out
   have hb:=Owned.below_write HB.out (g:=b5) (i:=10) (by omega) (I 0)
   clear c8 c10 f10 G4 G5 HB
   generalize World.setCell u7 ⟨b5,10,none⟩ (I 0)=u8 at g4 g5 hb ⊢
   have G4:=hJJ g4
   have G5:=hJJ g5
   have HB:=hJJ hb
   clear g4 g5 hb
   have c11:u8.cell? ⟨b5,11,none⟩=some (.bool false):=by rw [cell_of_row _ _ _ _ _ _ G5.out];rfl
   have f11:u8.frozen? ⟨b5,11,none⟩=false:=frozen_of_row _ _ _ _ _ G5.out
   go_wp2_with fail
   refine (Ft.out _ HB.out).mono ?_
   rintro e w' ⟨rfl,hq⟩
   subst w'
   go_upto_region 11 with fail
   have g5:=heap_setCell_same u8 b5 11 _ _ (.bool (decide (xt > 0))) G5.out
   simp only [List.setIfInBounds_toArray,List.set_cons_succ,List.set_cons_zero] at g5
   have g4:=(Below.heap_setCell u8 ⟨b5,11,none⟩ (.bool (decide (xt > 0))) w.heap.size (by simp;omega)).trans G4.out
   have hb:=Owned.below_write HB.out (g:=b5) (i:=11) (by omega) (.bool (decide (xt > 0)))
   clear c11 f11 G4 G5 HB
   generalize World.setCell u8 ⟨b5,11,none⟩ (.bool (decide (xt > 0)))=u9 at g4 g5 hb ⊢
   have G4:=hJJ g4
   have G5:=hJJ g5
   have HB:=hJJ hb
   clear g4 g5 hb
   have c12:u9.cell? ⟨b5,12,none⟩=some (.bool false):=by rw [cell_of_row _ _ _ _ _ _ G5.out];rfl
   have f12:u9.frozen? ⟨b5,12,none⟩=false:=frozen_of_row _ _ _ _ _ G5.out
   go_wp2_with fail
   refine (Fe.out _ HB.out).mono ?_
   rintro e w' ⟨rfl,hq⟩
   subst w'
   go_upto_region 12 with fail
   have g5:=heap_setCell_same u9 b5 12 _ _ (.bool (decide (xe=1))) G5.out
   simp only [List.setIfInBounds_toArray,List.set_cons_succ,List.set_cons_zero] at g5
   have g4:=(Below.heap_setCell u9 ⟨b5,12,none⟩ (.bool (decide (xe=1))) w.heap.size (by simp;omega)).trans G4.out
   have hb:=Owned.below_write HB.out (g:=b5) (i:=12) (by omega) (.bool (decide (xe=1)))
   clear c12 f12 G4 G5 HB
   generalize World.setCell u9 ⟨b5,12,none⟩ (.bool (decide (xe=1)))=u10 at g4 g5 hb ⊢
   have G4:=hJJ g4
   have G5:=hJJ g5
   have HB:=hJJ hb
   clear g4 g5 hb
   have FIN:Hid (R.cells.toArray=#[.bool true,I (1+x0),I x1,I (1+x0+x5),I (1+x0+x5+x6),I (1+x2),I (10+x3),I x4,I (1+x8),I (1+xb / 10),I 0,.bool (decide (xt > 0)),.bool (decide (xe=1))]):=hJJ (by rw [RES.out];simp only [Ph.cells,if_pos H7.out,RC.out])
   have LV:Hid (Lies u10 ⟨b5,0,none⟩ #[.bool true,I (1+x0),I x1,I (1+x0+x5),I (1+x0+x5+x6),I (1+x2),I (10+x3),I x4,I (1+x8),I (1+xb / 10),I 0,.bool (decide (xt > 0)),.bool (decide (xe=1))].toList):=hJJ (Row.lies_of_block G5.out)
   have HG:=hJJ (below_setRow HB.out (g:=w.heap.size) (Nat.le_refl _) #[.bool true,I (1+x0),I x1,I (1+x0+x5),I (1+x0+x5+x6),I (1+x2),I (10+x3),I x4,I (1+x8),I (1+xb / 10),I 0,.bool (decide (xt > 0)),.bool (decide (xe=1))])
   have HK:=hJJ (setRow_heap u10 w.heap.size _ #[.bool true,I (1+x0),I x1,I (1+x0+x5),I (1+x0+x5+x6),I (1+x2),I (10+x3),I x4,I (1+x8),I (1+xb / 10),I 0,.bool (decide (xt > 0)),.bool (decide (xe=1))] _ _ G4.out)
   go_wp2_with (first | (refine Row.wpList_load_g 23 _ rfl (by first | rfl | go_simp) ⟨b5,0,none⟩ rfl #[.bool true,I (1+x0),I x1,I (1+x0+x5),I (1+x0+x5+x6),I (1+x2),I (10+x3),I x4,I (1+x8),I (1+xb / 10),I 0,.bool (decide (xt > 0)),.bool (decide (xe=1))].toList _ LV.out Tryz.underlying23 rfl infoP ?_) | (refine wpList_store_row rfl 23 _ _ rfl w.heap.size #[.bool true,I (1+x0),I x1,I (1+x0+x5),I (1+x0+x5+x6),I (1+x2),I (10+x3),I x4,I (1+x8),I (1+xb / 10),I 0,.bool (decide (xt > 0)),.bool (decide (xe=1))] rfl rfl 23 _ G4.out infoP rfl (by simp [Value.oneCell']) ?_))
   generalize u10.setRow w.heap.size #[.bool true,I (1+x0),I x1,I (1+x0+x5),I (1+x0+x5+x6),I (1+x2),I (10+x3),I x4,I (1+x8),I (1+xb / 10),I 0,.bool (decide (xt > 0)),.bool (decide (xe=1))]=uz at HG HK ⊢
   go_wp2_with fail
   (try simp only [Exit.inBlock,Exit.then])
   refine bodyPost_ret (v:=.agg #[.bool true,I (1+x0),I x1,I (1+x0+x5),I (1+x0+x5+x6),I (1+x2),I (10+x3),I x4,I (1+x8),I (1+xb / 10),I 0,.bool (decide (xt > 0)),.bool (decide (xe=1))]) ?_ rfl ⟨by rw [FIN.out],HG.out⟩
   exact results_cell_row rfl _ _ w.heap.size 23 _ (0,0) _ rfl HK.out Tryz.underlying23 rfl infoP
  ·have RC:Hid (recall x9 (1+x8)=x9):=hJJ (by unfold recall;rw [if_neg (by omega)])
   have H9:=hJJ h9
   have q9:x9≤3:=by omega
   have q8:(1+x8 == 0)=false:=by rw [beq_eq_false_iff_ne];omega
   have Q8:=hJJ (show ¬ (1+x8=0) from by omega)
   by_cases h3:x9=3
   ·have e3:(x9 == 3)=true:=by simpa using h3
    clear h3 h9
    go_upto_region 10 with fail
    clear c8 c10 f10 e3 q8
    have c11:u7.cell? ⟨b5,11,none⟩=some (.bool false):=by rw [cell_of_row _ _ _ _ _ _ G5.out];rfl
    have f11:u7.frozen? ⟨b5,11,none⟩=false:=frozen_of_row _ _ _ _ _ G5.out
    go_wp2_with fail
    refine (Ft.out _ HB.out).mono ?_
    rintro e w' ⟨rfl,hq⟩
    subst w'
    go_upto_region 11 with fail
    have g5:=heap_setCell_same u7 b5 11 _ _ (.bool (decide (xt > 0))) G5.out
    simp only [List.setIfInBounds_toArray,List.set_cons_succ,List.set_cons_zero] at g5
    have g4:=(Below.heap_setCell u7 ⟨b5,11,none⟩ (.bool (decide (xt > 0))) w.heap.size (by simp;omega)).trans G4.out
    have hb:=Owned.below_write HB.out (g:=b5) (i:=11) (by omega) (.bool (decide (xt > 0)))
    clear c11 f11 G4 G5 HB
    generalize World.setCell u7 ⟨b5,11,none⟩ (.bool (decide (xt > 0)))=u8 at g4 g5 hb ⊢
    have G4:=hJJ g4
    have G5:=hJJ g5
    have HB:=hJJ hb
    clear g4 g5 hb
    have c12:u8.cell? ⟨b5,12,none⟩=some (.bool false):=by rw [cell_of_row _ _ _ _ _ _ G5.out];rfl
    have f12:u8.frozen? ⟨b5,12,none⟩=false:=frozen_of_row _ _ _ _ _ G5.out
    go_wp2_with fail
    refine (Fe.out _ HB.out).mono ?_
    rintro e w' ⟨rfl,hq⟩
    subst w'
    go_upto_region 12 with fail
    have g5:=heap_setCell_same u8 b5 12 _ _ (.bool (decide (xe=1))) G5.out
    simp only [List.setIfInBounds_toArray,List.set_cons_succ,List.set_cons_zero] at g5
    have g4:=(Below.heap_setCell u8 ⟨b5,12,none⟩ (.bool (decide (xe=1))) w.heap.size (by simp;omega)).trans G4.out
    have hb:=Owned.below_write HB.out (g:=b5) (i:=12) (by omega) (.bool (decide (xe=1)))
    clear c12 f12 G4 G5 HB
    generalize World.setCell u8 ⟨b5,12,none⟩ (.bool (decide (xe=1)))=u9 at g4 g5 hb ⊢
    have G4:=hJJ g4
    have G5:=hJJ g5
    have HB:=hJJ hb
    clear g4 g5 hb
    have FIN:Hid (R.cells.toArray=#[.bool true,I (1+x0),I x1,I (1+x0+x5),I (1+x0+x5+x6),I (1+x2),I (10+x3),I x4,I (1+x8),I (1+xb / 10),I x9,.bool (decide (xt > 0)),.bool (decide (xe=1))]):=hJJ (by rw [RES.out];simp only [Ph.cells,if_pos H7.out,RC.out])
    have LV:Hid (Lies u9 ⟨b5,0,none⟩ #[.bool true,I (1+x0),I x1,I (1+x0+x5),I (1+x0+x5+x6),I (1+x2),I (10+x3),I x4,I (1+x8),I (1+xb / 10),I x9,.bool (decide (xt > 0)),.bool (decide (xe=1))].toList):=hJJ (Row.lies_of_block G5.out)
    have HG:=hJJ (below_setRow HB.out (g:=w.heap.size) (Nat.le_refl _) #[.bool true,I (1+x0),I x1,I (1+x0+x5),I (1+x0+x5+x6),I (1+x2),I (10+x3),I x4,I (1+x8),I (1+xb / 10),I x9,.bool (decide (xt > 0)),.bool (decide (xe=1))])
    have HK:=hJJ (setRow_heap u9 w.heap.size _ #[.bool true,I (1+x0),I x1,I (1+x0+x5),I (1+x0+x5+x6),I (1+x2),I (10+x3),I x4,I (1+x8),I (1+xb / 10),I x9,.bool (decide (xt > 0)),.bool (decide (xe=1))] _ _ G4.out)
    go_wp2_with (first | (refine Row.wpList_load_g 23 _ rfl (by first | rfl | go_simp) ⟨b5,0,none⟩ rfl #[.bool true,I (1+x0),I x1,I (1+x0+x5),I (1+x0+x5+x6),I (1+x2),I (10+x3),I x4,I (1+x8),I (1+xb / 10),I x9,.bool (decide (xt > 0)),.bool (decide (xe=1))].toList _ LV.out Tryz.underlying23 rfl infoP ?_) | (refine wpList_store_row rfl 23 _ _ rfl w.heap.size #[.bool true,I (1+x0),I x1,I (1+x0+x5),I (1+x0+x5+x6),I (1+x2),I (10+x3),I x4,I (1+x8),I (1+xb / 10),I x9,.bool (decide (xt > 0)),.bool (decide (xe=1))] rfl rfl 23 _ G4.out infoP rfl (by simp [Value.oneCell']) ?_))
    generalize u9.setRow w.heap.size #[.bool true,I (1+x0),I x1,I (1+x0+x5),I (1+x0+x5+x6),I (1+x2),I (10+x3),I x4,I (1+x8),I (1+xb / 10),I x9,.bool (decide (xt > 0)),.bool (decide (xe=1))]=uz at HG HK ⊢
    go_wp2_with fail
    (try simp only [Exit.inBlock,Exit.then])
    refine bodyPost_ret (v:=.agg #[.bool true,I (1+x0),I x1,I (1+x0+x5),I (1+x0+x5+x6),I (1+x2),I (10+x3),I x4,I (1+x8),I (1+xb / 10),I x9,.bool (decide (xt > 0)),.bool (decide (xe=1))]) ?_ rfl ⟨by rw [FIN.out],HG.out⟩
    exact results_cell_row rfl _ _ w.heap.size 23 _ (0,0) _ rfl HK.out Tryz.underlying23 rfl infoP
   ·have e3:(x9 == 3)=false:=by simpa using h3
    clear h3 h9
    go_upto_region 10 with fail
    clear c8 c10 f10 e3 q8
    have c11:u7.cell? ⟨b5,11,none⟩=some (.bool false):=by rw [cell_of_row _ _ _ _ _ _ G5.out];rfl
    have f11:u7.frozen? ⟨b5,11,none⟩=false:=frozen_of_row _ _ _ _ _ G5.out
    go_wp2_with fail
    refine (Ft.out _ HB.out).mono ?_
    rintro e w' ⟨rfl,hq⟩
    subst w'
    go_upto_region 11 with fail
    have g5:=heap_setCell_same u7 b5 11 _ _ (.bool (decide (xt > 0))) G5.out
    simp only [List.setIfInBounds_toArray,List.set_cons_succ,List.set_cons_zero] at g5
    have g4:=(Below.heap_setCell u7 ⟨b5,11,none⟩ (.bool (decide (xt > 0))) w.heap.size (by simp;omega)).trans G4.out
    have hb:=Owned.below_write HB.out (g:=b5) (i:=11) (by omega) (.bool (decide (xt > 0)))
    clear c11 f11 G4 G5 HB
    generalize World.setCell u7 ⟨b5,11,none⟩ (.bool (decide (xt > 0)))=u8 at g4 g5 hb ⊢
    have G4:=hJJ g4
    have G5:=hJJ g5
    have HB:=hJJ hb
    clear g4 g5 hb
    have c12:u8.cell? ⟨b5,12,none⟩=some (.bool false):=by rw [cell_of_row _ _ _ _ _ _ G5.out];rfl
    have f12:u8.frozen? ⟨b5,12,none⟩=false:=frozen_of_row _ _ _ _ _ G5.out
    go_wp2_with fail
    refine (Fe.out _ HB.out).mono ?_
    rintro e w' ⟨rfl,hq⟩
    subst w'
    go_upto_region 12 with fail
    have g5:=heap_setCell_same u8 b5 12 _ _ (.bool (decide (xe=1))) G5.out
    simp only [List.setIfInBounds_toArray,List.set_cons_succ,List.set_cons_zero] at g5
    have g4:=(Below.heap_setCell u8 ⟨b5,12,none⟩ (.bool (decide (xe=1))) w.heap.size (by simp;omega)).trans G4.out
    have hb:=Owned.below_write HB.out (g:=b5) (i:=12) (by omega) (.bool (decide (xe=1)))
    clear c12 f12 G4 G5 HB
    generalize World.setCell u8 ⟨b5,12,none⟩ (.bool (decide (xe=1)))=u9 at g4 g5 hb ⊢
    have G4:=hJJ g4
    have G5:=hJJ g5
    have HB:=hJJ hb
    clear g4 g5 hb
    have FIN:Hid (R.cells.toArray=#[.bool true,I (1+x0),I x1,I (1+x0+x5),I (1+x0+x5+x6),I (1+x2),I (10+x3),I x4,I (1+x8),I (1+xb / 10),I x9,.bool (decide (xt > 0)),.bool (decide (xe=1))]):=hJJ (by rw [RES.out];simp only [Ph.cells,if_pos H7.out,RC.out])
    have LV:Hid (Lies u9 ⟨b5,0,none⟩ #[.bool true,I (1+x0),I x1,I (1+x0+x5),I (1+x0+x5+x6),I (1+x2),I (10+x3),I x4,I (1+x8),I (1+xb / 10),I x9,.bool (decide (xt > 0)),.bool (decide (xe=1))].toList):=hJJ (Row.lies_of_block G5.out)
    have HG:=hJJ (below_setRow HB.out (g:=w.heap.size) (Nat.le_refl _) #[.bool true,I (1+x0),I x1,I (1+x0+x5),I (1+x0+x5+x6),I (1+x2),I (10+x3),I x4,I (1+x8),I (1+xb / 10),I x9,.bool (decide (xt > 0)),.bool (decide (xe=1))])
    have HK:=hJJ (setRow_heap u9 w.heap.size _ #[.bool true,I (1+x0),I x1,I (1+x0+x5),I (1+x0+x5+x6),I (1+x2),I (10+x3),I x4,I (1+x8),I (1+xb / 10),I x9,.bool (decide (xt > 0)),.bool (decide (xe=1))] _ _ G4.out)
    go_wp2_with (first | (refine Row.wpList_load_g 23 _ rfl (by first | rfl | go_simp) ⟨b5,0,none⟩ rfl #[.bool true,I (1+x0),I x1,I (1+x0+x5),I (1+x0+x5+x6),I (1+x2),I (10+x3),I x4,I (1+x8),I (1+xb / 10),I x9,.bool (decide (xt > 0)),.bool (decide (xe=1))].toList _ LV.out Tryz.underlying23 rfl infoP ?_) | (refine wpList_store_row rfl 23 _ _ rfl w.heap.size #[.bool true,I (1+x0),I x1,I (1+x0+x5),I (1+x0+x5+x6),I (1+x2),I (10+x3),I x4,I (1+x8),I (1+xb / 10),I x9,.bool (decide (xt > 0)),.bool (decide (xe=1))] rfl rfl 23 _ G4.out infoP rfl (by simp [Value.oneCell']) ?_))
    generalize u9.setRow w.heap.size #[.bool true,I (1+x0),I x1,I (1+x0+x5),I (1+x0+x5+x6),I (1+x2),I (10+x3),I x4,I (1+x8),I (1+xb / 10),I x9,.bool (decide (xt > 0)),.bool (decide (xe=1))]=uz at HG HK ⊢
    go_wp2_with fail
    (try simp only [Exit.inBlock,Exit.then])
    refine bodyPost_ret (v:=.agg #[.bool true,I (1+x0),I x1,I (1+x0+x5),I (1+x0+x5+x6),I (1+x2),I (10+x3),I x4,I (1+x8),I (1+xb / 10),I x9,.bool (decide (xt > 0)),.bool (decide (xe=1))]) ?_ rfl ⟨by rw [FIN.out],HG.out⟩
    exact results_cell_row rfl _ _ w.heap.size 23 _ (0,0) _ rfl HK.out Tryz.underlying23 rfl infoP
 ·have H7:=hJJ h7
  have e7:(x7 == 1)=false:=by simpa using h7
  clear h7
  go_upto_region 7 with fail
  have c10:u4.cell? ⟨b5,10,none⟩=some (I 0):=by rw [cell_of_row _ _ _ _ _ _ G5.out];rfl
  have f10:u4.frozen? ⟨b5,10,none⟩=false:=frozen_of_row _ _ _ _ _ G5.out
  go_wp2_with fail
  refine (F9.out _ HB.out).mono ?_
  rintro e w' ⟨rfl,hq⟩
  subst w'
  go_upto_region 8 with fail
  have g5:=heap_setCell_same u4 b5 10 _ _ (I x9) G5.out
  simp only [List.setIfInBounds_toArray,List.set_cons_succ,List.set_cons_zero] at g5
  have g4:=(Below.heap_setCell u4 ⟨b5,10,none⟩ (I x9) w.heap.size (by simp;omega)).trans G4.out
  have hb:=Owned.below_write HB.out (g:=b5) (i:=10) (by omega) (I x9)
  clear c10 f10 G4 G5 HB
  generalize World.setCell u4 ⟨b5,10,none⟩ (I x9)=u5 at g4 g5 hb ⊢
  have G4:=hJJ g4
  have G5:=hJJ g5
  have HB:=hJJ hb
  clear g4 g5 hb
  have c8:u5.cell? ⟨b5,8,none⟩=some (I 0):=by rw [cell_of_row _ _ _ _ _ _ G5.out];rfl
  have c10:u5.cell? ⟨b5,10,none⟩=some (I x9):=by rw [cell_of_row _ _ _ _ _ _ G5.out];rfl
  have f10:u5.frozen? ⟨b5,10,none⟩=false:=frozen_of_row _ _ _ _ _ G5.out
  by_cases h9:x9 > 3
  ·have RC:Hid (recall x9 (0)=0):=hJJ (by unfold recall;rw [if_pos (by omega)])
   have H9:=hJJ h9
   have q9:¬ (x9≤3):=by omega
   go_upto_region 10 with fail
   have g5:=heap_setCell_same u5 b5 10 _ _ (I 0) G5.out
   simp only [List.setIfInBounds_toArray,List.set_cons_succ,List.set_cons_zero] at g5
   have g4:=(Below.heap_setCell u5 ⟨b5,10,none⟩ (I 0) w.heap.size (by simp;omega)).trans G4.out
   have hb:=Owned.below_write HB.out (g:=b5) (i:=10) (by omega) (I 0)
   clear c8 c10 f10 G4 G5 HB
   generalize World.setCell u5 ⟨b5,10,none⟩ (I 0)=u6 at g4 g5 hb ⊢
   have G4:=hJJ g4
   have G5:=hJJ g5
   have HB:=hJJ hb
   clear g4 g5 hb
   have c11:u6.cell? ⟨b5,11,none⟩=some (.bool false):=by rw [cell_of_row _ _ _ _ _ _ G5.out];rfl
   have f11:u6.frozen? ⟨b5,11,none⟩=false:=frozen_of_row _ _ _ _ _ G5.out
   go_wp2_with fail
   refine (Ft.out _ HB.out).mono ?_
   rintro e w' ⟨rfl,hq⟩
   subst w'
   go_upto_region 11 with fail
   have g5:=heap_setCell_same u6 b5 11 _ _ (.bool (decide (xt > 0))) G5.out
   simp only [List.setIfInBounds_toArray,List.set_cons_succ,List.set_cons_zero] at g5
   have g4:=(Below.heap_setCell u6 ⟨b5,11,none⟩ (.bool (decide (xt > 0))) w.heap.size (by simp;omega)).trans G4.out
   have hb:=Owned.below_write HB.out (g:=b5) (i:=11) (by omega) (.bool (decide (xt > 0)))
   clear c11 f11 G4 G5 HB
   generalize World.setCell u6 ⟨b5,11,none⟩ (.bool (decide (xt > 0)))=u7 at g4 g5 hb ⊢
   have G4:=hJJ g4
   have G5:=hJJ g5
   have HB:=hJJ hb
   clear g4 g5 hb
   have c12:u7.cell? ⟨b5,12,none⟩=some (.bool false):=by rw [cell_of_row _ _ _ _ _ _ G5.out];rfl
   have f12:u7.frozen? ⟨b5,12,none⟩=false:=frozen_of_row _ _ _ _ _ G5.out
   go_wp2_with fail
   refine (Fe.out _ HB.out).mono ?_
   rintro e w' ⟨rfl,hq⟩
   subst w'
   go_upto_region 12 with fail
   have g5:=heap_setCell_same u7 b5 12 _ _ (.bool (decide (xe=1))) G5.out
   simp only [List.setIfInBounds_toArray,List.set_cons_succ,List.set_cons_zero] at g5
   have g4:=(Below.heap_setCell u7 ⟨b5,12,none⟩ (.bool (decide (xe=1))) w.heap.size (by simp;omega)).trans G4.out
   have hb:=Owned.below_write HB.out (g:=b5) (i:=12) (by omega) (.bool (decide (xe=1)))
   clear c12 f12 G4 G5 HB
   generalize World.setCell u7 ⟨b5,12,none⟩ (.bool (decide (xe=1)))=u8 at g4 g5 hb ⊢
   have G4:=hJJ g4
   have G5:=hJJ g5
   have HB:=hJJ hb
   clear g4 g5 hb
   have FIN:Hid (R.cells.toArray=#[.bool true,I (1+x0),I x1,I (1+x0+x5),I (1+x0+x5+x6),I (1+x2),I (10+x3),I x4,I 0,I 0,I 0,.bool (decide (xt > 0)),.bool (decide (xe=1))]):=hJJ (by rw [RES.out];simp only [Ph.cells,if_neg H7.out,RC.out])
   have LV:Hid (Lies u8 ⟨b5,0,none⟩ #[.bool true,I (1+x0),I x1,I (1+x0+x5),I (1+x0+x5+x6),I (1+x2),I (10+x3),I x4,I 0,I 0,I 0,.bool (decide (xt > 0)),.bool (decide (xe=1))].toList):=hJJ (Row.lies_of_block G5.out)
   have HG:=hJJ (below_setRow HB.out (g:=w.heap.size) (Nat.le_refl _) #[.bool true,I (1+x0),I x1,I (1+x0+x5),I (1+x0+x5+x6),I (1+x2),I (10+x3),I x4,I 0,I 0,I 0,.bool (decide (xt > 0)),.bool (decide (xe=1))])
   have HK:=hJJ (setRow_heap u8 w.heap.size _ #[.bool true,I (1+x0),I x1,I (1+x0+x5),I (1+x0+x5+x6),I (1+x2),I (10+x3),I x4,I 0,I 0,I 0,.bool (decide (xt > 0)),.bool (decide (xe=1))] _ _ G4.out)
   go_wp2_with (first | (refine Row.wpList_load_g 23 _ rfl (by first | rfl | go_simp) ⟨b5,0,none⟩ rfl #[.bool true,I (1+x0),I x1,I (1+x0+x5),I (1+x0+x5+x6),I (1+x2),I (10+x3),I x4,I 0,I 0,I 0,.bool (decide (xt > 0)),.bool (decide (xe=1))].toList _ LV.out Tryz.underlying23 rfl infoP ?_) | (refine wpList_store_row rfl 23 _ _ rfl w.heap.size #[.bool true,I (1+x0),I x1,I (1+x0+x5),I (1+x0+x5+x6),I (1+x2),I (10+x3),I x4,I 0,I 0,I 0,.bool (decide (xt > 0)),.bool (decide (xe=1))] rfl rfl 23 _ G4.out infoP rfl (by simp [Value.oneCell']) ?_))
   generalize u8.setRow w.heap.size #[.bool true,I (1+x0),I x1,I (1+x0+x5),I (1+x0+x5+x6),I (1+x2),I (10+x3),I x4,I 0,I 0,I 0,.bool (decide (xt > 0)),.bool (decide (xe=1))]=uz at HG HK ⊢
   go_wp2_with fail
   (try simp only [Exit.inBlock,Exit.then])
   refine bodyPost_ret (v:=.agg #[.bool true,I (1+x0),I x1,I (1+x0+x5),I (1+x0+x5+x6),I (1+x2),I (10+x3),I x4,I 0,I 0,I 0,.bool (decide (xt > 0)),.bool (decide (xe=1))]) ?_ rfl ⟨by rw [FIN.out],HG.out⟩
   exact results_cell_row rfl _ _ w.heap.size 23 _ (0,0) _ rfl HK.out Tryz.underlying23 rfl infoP
  ·have H9:=hJJ h9
   have q9:x9≤3:=by omega
   by_cases h3:x9=3
   ·have RC:Hid (recall x9 (0)=0):=hJJ (by unfold recall;rw [if_pos (by omega)])
    have H3:=hJJ h3
    have e3:(x9 == 3)=true:=by simpa using h3
    clear h3 h9
    go_upto_region 10 with fail
    have g5:=heap_setCell_same u5 b5 10 _ _ (I 0) G5.out
    simp only [List.setIfInBounds_toArray,List.set_cons_succ,List.set_cons_zero] at g5
    have g4:=(Below.heap_setCell u5 ⟨b5,10,none⟩ (I 0) w.heap.size (by simp;omega)).trans G4.out
    have hb:=Owned.below_write HB.out (g:=b5) (i:=10) (by omega) (I 0)
    clear c8 c10 f10 G4 G5 HB
    generalize World.setCell u5 ⟨b5,10,none⟩ (I 0)=u6 at g4 g5 hb ⊢
    have G4:=hJJ g4
    have G5:=hJJ g5
    have HB:=hJJ hb
    clear g4 g5 hb
    clear e3
    have c11:u6.cell? ⟨b5,11,none⟩=some (.bool false):=by rw [cell_of_row _ _ _ _ _ _ G5.out];rfl
    have f11:u6.frozen? ⟨b5,11,none⟩=false:=frozen_of_row _ _ _ _ _ G5.out
    go_wp2_with fail
    refine (Ft.out _ HB.out).mono ?_
    rintro e w' ⟨rfl,hq⟩
    subst w'
    go_upto_region 11 with fail
    have g5:=heap_setCell_same u6 b5 11 _ _ (.bool (decide (xt > 0))) G5.out
    simp only [List.setIfInBounds_toArray,List.set_cons_succ,List.set_cons_zero] at g5
    have g4:=(Below.heap_setCell u6 ⟨b5,11,none⟩ (.bool (decide (xt > 0))) w.heap.size (by simp;omega)).trans G4.out
    have hb:=Owned.below_write HB.out (g:=b5) (i:=11) (by omega) (.bool (decide (xt > 0)))
    clear c11 f11 G4 G5 HB
    generalize World.setCell u6 ⟨b5,11,none⟩ (.bool (decide (xt > 0)))=u7 at g4 g5 hb ⊢
    have G4:=hJJ g4
    have G5:=hJJ g5
    have HB:=hJJ hb
    clear g4 g5 hb
    have c12:u7.cell? ⟨b5,12,none⟩=some (.bool false):=by rw [cell_of_row _ _ _ _ _ _ G5.out];rfl
    have f12:u7.frozen? ⟨b5,12,none⟩=false:=frozen_of_row _ _ _ _ _ G5.out
    go_wp2_with fail
    refine (Fe.out _ HB.out).mono ?_
    rintro e w' ⟨rfl,hq⟩
    subst w'
    go_upto_region 12 with fail
    have g5:=heap_setCell_same u7 b5 12 _ _ (.bool (decide (xe=1))) G5.out
    simp only [List.setIfInBounds_toArray,List.set_cons_succ,List.set_cons_zero] at g5
    have g4:=(Below.heap_setCell u7 ⟨b5,12,none⟩ (.bool (decide (xe=1))) w.heap.size (by simp;omega)).trans G4.out
    have hb:=Owned.below_write HB.out (g:=b5) (i:=12) (by omega) (.bool (decide (xe=1)))
    clear c12 f12 G4 G5 HB
    generalize World.setCell u7 ⟨b5,12,none⟩ (.bool (decide (xe=1)))=u8 at g4 g5 hb ⊢
    have G4:=hJJ g4
    have G5:=hJJ g5
    have HB:=hJJ hb
    clear g4 g5 hb
    have FIN:Hid (R.cells.toArray=#[.bool true,I (1+x0),I x1,I (1+x0+x5),I (1+x0+x5+x6),I (1+x2),I (10+x3),I x4,I 0,I 0,I 0,.bool (decide (xt > 0)),.bool (decide (xe=1))]):=hJJ (by rw [RES.out];simp only [Ph.cells,if_neg H7.out,RC.out])
    have LV:Hid (Lies u8 ⟨b5,0,none⟩ #[.bool true,I (1+x0),I x1,I (1+x0+x5),I (1+x0+x5+x6),I (1+x2),I (10+x3),I x4,I 0,I 0,I 0,.bool (decide (xt > 0)),.bool (decide (xe=1))].toList):=hJJ (Row.lies_of_block G5.out)
    have HG:=hJJ (below_setRow HB.out (g:=w.heap.size) (Nat.le_refl _) #[.bool true,I (1+x0),I x1,I (1+x0+x5),I (1+x0+x5+x6),I (1+x2),I (10+x3),I x4,I 0,I 0,I 0,.bool (decide (xt > 0)),.bool (decide (xe=1))])
    have HK:=hJJ (setRow_heap u8 w.heap.size _ #[.bool true,I (1+x0),I x1,I (1+x0+x5),I (1+x0+x5+x6),I (1+x2),I (10+x3),I x4,I 0,I 0,I 0,.bool (decide (xt > 0)),.bool (decide (xe=1))] _ _ G4.out)
    go_wp2_with (first | (refine Row.wpList_load_g 23 _ rfl (by first | rfl | go_simp) ⟨b5,0,none⟩ rfl #[.bool true,I (1+x0),I x1,I (1+x0+x5),I (1+x0+x5+x6),I (1+x2),I (10+x3),I x4,I 0,I 0,I 0,.bool (decide (xt > 0)),.bool (decide (xe=1))].toList _ LV.out Tryz.underlying23 rfl infoP ?_) | (refine wpList_store_row rfl 23 _ _ rfl w.heap.size #[.bool true,I (1+x0),I x1,I (1+x0+x5),I (1+x0+x5+x6),I (1+x2),I (10+x3),I x4,I 0,I 0,I 0,.bool (decide (xt > 0)),.bool (decide (xe=1))] rfl rfl 23 _ G4.out infoP rfl (by simp [Value.oneCell']) ?_))
    generalize u8.setRow w.heap.size #[.bool true,I (1+x0),I x1,I (1+x0+x5),I (1+x0+x5+x6),I (1+x2),I (10+x3),I x4,I 0,I 0,I 0,.bool (decide (xt > 0)),.bool (decide (xe=1))]=uz at HG HK ⊢
    go_wp2_with fail
    (try simp only [Exit.inBlock,Exit.then])
    refine bodyPost_ret (v:=.agg #[.bool true,I (1+x0),I x1,I (1+x0+x5),I (1+x0+x5+x6),I (1+x2),I (10+x3),I x4,I 0,I 0,I 0,.bool (decide (xt > 0)),.bool (decide (xe=1))]) ?_ rfl ⟨by rw [FIN.out],HG.out⟩
    exact results_cell_row rfl _ _ w.heap.size 23 _ (0,0) _ rfl HK.out Tryz.underlying23 rfl infoP
   ·have RC:Hid (recall x9 (0)=x9):=hJJ (by unfold recall;rw [if_neg (by omega)])
    have H3:=hJJ h3
    have e3:(x9 == 3)=false:=by simpa using h3
    clear h3 h9
    go_upto_region 10 with fail
    clear c8 c10 f10 e3
    have c11:u5.cell? ⟨b5,11,none⟩=some (.bool false):=by rw [cell_of_row _ _ _ _ _ _ G5.out];rfl
    have f11:u5.frozen? ⟨b5,11,none⟩=false:=frozen_of_row _ _ _ _ _ G5.out
    go_wp2_with fail
    refine (Ft.out _ HB.out).mono ?_
    rintro e w' ⟨rfl,hq⟩
    subst w'
    go_upto_region 11 with fail
    have g5:=heap_setCell_same u5 b5 11 _ _ (.bool (decide (xt > 0))) G5.out
    simp only [List.setIfInBounds_toArray,List.set_cons_succ,List.set_cons_zero] at g5
    have g4:=(Below.heap_setCell u5 ⟨b5,11,none⟩ (.bool (decide (xt > 0))) w.heap.size (by simp;omega)).trans G4.out
    have hb:=Owned.below_write HB.out (g:=b5) (i:=11) (by omega) (.bool (decide (xt > 0)))
    clear c11 f11 G4 G5 HB
    generalize World.setCell u5 ⟨b5,11,none⟩ (.bool (decide (xt > 0)))=u6 at g4 g5 hb ⊢
    have G4:=hJJ g4
    have G5:=hJJ g5
    have HB:=hJJ hb
    clear g4 g5 hb
    have c12:u6.cell? ⟨b5,12,none⟩=some (.bool false):=by rw [cell_of_row _ _ _ _ _ _ G5.out];rfl
    have f12:u6.frozen? ⟨b5,12,none⟩=false:=frozen_of_row _ _ _ _ _ G5.out
    go_wp2_with fail
    refine (Fe.out _ HB.out).mono ?_
    rintro e w' ⟨rfl,hq⟩
    subst w'
    go_upto_region 12 with fail
    have g5:=heap_setCell_same u6 b5 12 _ _ (.bool (decide (xe=1))) G5.out
    simp only [List.setIfInBounds_toArray,List.set_cons_succ,List.set_cons_zero] at g5
    have g4:=(Below.heap_setCell u6 ⟨b5,12,none⟩ (.bool (decide (xe=1))) w.heap.size (by simp;omega)).trans G4.out
    have hb:=Owned.below_write HB.out (g:=b5) (i:=12) (by omega) (.bool (decide (xe=1)))
    clear c12 f12 G4 G5 HB
    generalize World.setCell u6 ⟨b5,12,none⟩ (.bool (decide (xe=1)))=u7 at g4 g5 hb ⊢
    have G4:=hJJ g4
    have G5:=hJJ g5
    have HB:=hJJ hb
    clear g4 g5 hb
    have FIN:Hid (R.cells.toArray=#[.bool true,I (1+x0),I x1,I (1+x0+x5),I (1+x0+x5+x6),I (1+x2),I (10+x3),I x4,I 0,I 0,I x9,.bool (decide (xt > 0)),.bool (decide (xe=1))]):=hJJ (by rw [RES.out];simp only [Ph.cells,if_neg H7.out,RC.out])
    have LV:Hid (Lies u7 ⟨b5,0,none⟩ #[.bool true,I (1+x0),I x1,I (1+x0+x5),I (1+x0+x5+x6),I (1+x2),I (10+x3),I x4,I 0,I 0,I x9,.bool (decide (xt > 0)),.bool (decide (xe=1))].toList):=hJJ (Row.lies_of_block G5.out)
    have HG:=hJJ (below_setRow HB.out (g:=w.heap.size) (Nat.le_refl _) #[.bool true,I (1+x0),I x1,I (1+x0+x5),I (1+x0+x5+x6),I (1+x2),I (10+x3),I x4,I 0,I 0,I x9,.bool (decide (xt > 0)),.bool (decide (xe=1))])
    have HK:=hJJ (setRow_heap u7 w.heap.size _ #[.bool true,I (1+x0),I x1,I (1+x0+x5),I (1+x0+x5+x6),I (1+x2),I (10+x3),I x4,I 0,I 0,I x9,.bool (decide (xt > 0)),.bool (decide (xe=1))] _ _ G4.out)
    go_wp2_with (first | (refine Row.wpList_load_g 23 _ rfl (by first | rfl | go_simp) ⟨b5,0,none⟩ rfl #[.bool true,I (1+x0),I x1,I (1+x0+x5),I (1+x0+x5+x6),I (1+x2),I (10+x3),I x4,I 0,I 0,I x9,.bool (decide (xt > 0)),.bool (decide (xe=1))].toList _ LV.out Tryz.underlying23 rfl infoP ?_) | (refine wpList_store_row rfl 23 _ _ rfl w.heap.size #[.bool true,I (1+x0),I x1,I (1+x0+x5),I (1+x0+x5+x6),I (1+x2),I (10+x3),I x4,I 0,I 0,I x9,.bool (decide (xt > 0)),.bool (decide (xe=1))] rfl rfl 23 _ G4.out infoP rfl (by simp [Value.oneCell']) ?_))
    generalize u7.setRow w.heap.size #[.bool true,I (1+x0),I x1,I (1+x0+x5),I (1+x0+x5+x6),I (1+x2),I (10+x3),I x4,I 0,I 0,I x9,.bool (decide (xt > 0)),.bool (decide (xe=1))]=uz at HG HK ⊢
    go_wp2_with fail
    (try simp only [Exit.inBlock,Exit.then])
    refine bodyPost_ret (v:=.agg #[.bool true,I (1+x0),I x1,I (1+x0+x5),I (1+x0+x5+x6),I (1+x2),I (10+x3),I x4,I 0,I 0,I x9,.bool (decide (xt > 0)),.bool (decide (xe=1))]) ?_ rfl ⟨by rw [FIN.out],HG.out⟩
    exact results_cell_row rfl _ _ w.heap.size 23 _ (0,0) _ rfl HK.out Tryz.underlying23 rfl infoP
end GenP
end Go.Proofs.YtkkfdojjecagmaaGreat
