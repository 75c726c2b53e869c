/- 8 texts in one file, in build order. -/
import Derived.Test.YtjdeemmaaiecnaaGreatRows
import Derived.Test.YtjdeemmaaiecnaaGreatPart09
import Derived.Test.YtjdeemmaaiecnaaGreatPart04
import Derived.Test.YtjdeemmaaiecnaaGreatPart02
import Derived.Deep.Cut
import Derived.LoopTactic
import Derived.Test.YtjdeemmaaiecnaaGreatPart08
import Derived.Test.YtjdeemmaaiecnaaGreatPart10
import Derived.Test.YtjdeemmaaiecnaaGreatPart01
import Derived.StillTailTactics
import Derived.Laws.Rows
import Derived.Test.YtjdeemmaaiecnaaGreatPart03
import Derived.Laws.FloatArith
import Derived.Laws.ResultCell
import Derived.Great.BuildSlice
set_option linter.unusedVariables false
set_option linter.unusedSimpArgs false
set_option linter.unusedSectionVars false
set_option maxHeartbeats 8000000
set_option maxRecDepth 100000
namespace Go.Proofs.YtjdeemmaaiecnaaGreat
namespace By
open Go Go.RowKit
open Tab Po
open Rr (decR EndsDec dec_is)
open Cd (bodyB sealB B8)
open May (tabMay)
theorem own_slice {n:Nat} {W:World} {v:Value} {l:List Nat} (h:B.Own n W v l) (hl:∀ x ∈ l,x < 256):∃ a cap,v=.slice a l.length cap∧B.Row W a l∧l.length≤cap∧(a=none→cap=0):=by
 obtain ⟨a,c,e,hr⟩:=B.own_row h hl
 rcases h.2 with ⟨h1,h2⟩ | ⟨g,cap,cur,h1,h2,h3,h4,h5⟩
 ·rw [e] at h1
  injection h1 with q1 q2 q3
  exact ⟨_,_,e,hr,by omega,fun _=>q3⟩
 ·rw [e] at h1
  injection h1 with q1 q2 q3
  subst q1 q3
  exact ⟨_,_,e,hr,h4,fun h=>by cases h⟩
theorem seal_lt (T:Tab):∀ x ∈ sealB (bodyB T),x < 256:=(B8.body T).app (B8.low _ _)
theorem enc_bytes {T:Tab} {hd:Hd} {w:World} (ht:IsTab w hd T) (hm:tabMay T=true):Calls Tryz.prog 13 #[.agg (T.cells hd).toArray] w fun e w'=>∃ a cap,e=.returned (.tuple #[.slice a (sealB (bodyB T)).length cap,I 0])∧B.Row w' a (sealB (bodyB T))∧(sealB (bodyB T)).length≤cap∧(a=none→cap=0)∧Below w.heap.size w w' :=
 (Po.enc_good ht hm).mono fun e w' ⟨v,h1,h2,h3⟩=>by
  obtain ⟨a,cap,rfl,hr,hc,hn⟩:=own_slice h2 (seal_lt T)
  exact ⟨a,cap,h1,hr,hc,hn,h3⟩
end By
namespace Clone
open Go.ChangeShapes Go.WideShapes Go.ChangeAt Go.RowKit
open Tab Copy Owned
open May (chain infoP infoG infoD infoR infoB infoT take_succ')
def D5 (w:World) (B M:Nat) (L0 L1 L2 L3:List Blk) (q:Nat) (w':World):Prop :=
 Below B w w'∧match q with
  | 0=>Owned.Own B w' L0∧w'.heap.size=M+1
  | 1=>Owned.Own B w' L1∧w'.heap.size=M+1+1
  | 2=>Owned.Own B w' L2∧w'.heap.size=M+1+1+1
  | _=>Owned.Own B w' L3
theorem D5.get {w w':World} {B M q:Nat} {L0 L1 L2 L3:List Blk} {x:Blk} (h:D5 w B M L0 L1 L2 L3 q w') (h0:x ∈ L0) (h1:x ∈ L1) (h2:x ∈ L2) (h3:x ∈ L3):w'.heap[x.at_]?=some (.cells x.cells.toArray x.type (0,0)):=by
 match q,h with
 | 0,⟨_,h,_⟩=>exact h.get h0
 | 1,⟨_,h,_⟩=>exact h.get h1
 | 2,⟨_,h,_⟩=>exact h.get h2
 | _+3,⟨_,h⟩=>exact h.get h3
end Clone
namespace GenP
open Go.ChangeShapes Go.WideShapes Go.ChangeAt Go.RowKit
open Tab Clone RefS
open May (infoP)
open Same (below_setRow)
theorem infoPz:(Tryz.prog.info? 25).map (fun i=>(i.zero,i.size))=some (some (.agg zPh.cells.toArray),13):=by kernel_rfl
def recall (x walk:Int):Int:=if x > 3∨x=3∧walk=0 then 0 else x
def genPh (L:List Int) (i:Int):Ph :=
 let min:=1+num L i 12
 let max:=min+num L (i+5) 25
 let walks:=num L (i+7) 2=1
 let walk:=if walks then 1+num L (i+8) 10 else 0
 ⟨true,min,num L (i+1) 9,max,max+num L (i+6) 15,1+num L (i+2) 6,10+num L (i+3) 4,num L (i+4) 5,walk,if walks then 1+num L (i+8) 97 / 10 else 0,recall (num L (i+9) 7) walk,decide (num L (i+10) 3 > 0),decide (num L (i+11) 4=1)⟩
theorem phase_any (a:Option Addr) (cap:Nat) (L:List Int) (i:Int) (w:World) (h:IntRow w ⟨a,cap⟩ L) (h0:0≤i) (h1:i≤100000) :
  Calls Tryz.prog 34 #[.slice a L.length cap,.int .i64 i] w fun e w'=>e=.returned (.agg (genPh L i).cells.toArray)∧Below w.heap.size w w':=by
 obtain ⟨x0,hx0,⟨r0,s0⟩,F0⟩:∃ x:Int,x=num L i 12∧(0≤x∧x < 12)∧Hid (∀ W,Below w.heap.size w W→Calls Tryz.prog 36 #[.slice a L.length cap,.int .i64 i,.int .i64 12] W fun e w'=>e=.returned (.int .i64 x)∧w'=W):=⟨_,rfl,num_range _ _ _ (by omega),Lib.hid (fun W hb=>(from_any a cap L _ _ W (h.below hb) (by omega) (by omega) (by omega)).mono fun _ _ ⟨e,q⟩=>⟨e,q.symm⟩)⟩
 obtain ⟨x1,hx1,⟨r1,s1⟩,F1⟩:∃ x:Int,x=num L (i+1) 9∧(0≤x∧x < 9)∧Hid (∀ W,Below w.heap.size w W→Calls Tryz.prog 36 #[.slice a L.length cap,.int .i64 (i+1),.int .i64 9] W fun e w'=>e=.returned (.int .i64 x)∧w'=W):=⟨_,rfl,num_range _ _ _ (by omega),Lib.hid (fun W hb=>(from_any a cap L _ _ W (h.below hb) (by omega) (by omega) (by omega)).mono fun _ _ ⟨e,q⟩=>⟨e,q.symm⟩)⟩
 obtain ⟨x2,hx2,⟨r2,s2⟩,F2⟩:∃ x:Int,x=num L (i+2) 6∧(0≤x∧x < 6)∧Hid (∀ W,Below w.heap.size w W→Calls Tryz.prog 36 #[.slice a L.length cap,.int .i64 (i+2),.int .i64 6] W fun e w'=>e=.returned (.int .i64 x)∧w'=W):=⟨_,rfl,num_range _ _ _ (by omega),Lib.hid (fun W hb=>(from_any a cap L _ _ W (h.below hb) (by omega) (by omega) (by omega)).mono fun _ _ ⟨e,q⟩=>⟨e,q.symm⟩)⟩
 obtain ⟨x3,hx3,⟨r3,s3⟩,F3⟩:∃ x:Int,x=num L (i+3) 4∧(0≤x∧x < 4)∧Hid (∀ W,Below w.heap.size w W→Calls Tryz.prog 36 #[.slice a L.length cap,.int .i64 (i+3),.int .i64 4] W fun e w'=>e=.returned (.int .i64 x)∧w'=W):=⟨_,rfl,num_range _ _ _ (by omega),Lib.hid (fun W hb=>(from_any a cap L _ _ W (h.below hb) (by omega) (by omega) (by omega)).mono fun _ _ ⟨e,q⟩=>⟨e,q.symm⟩)⟩
 obtain ⟨x4,hx4,⟨r4,s4⟩,F4⟩:∃ x:Int,x=num L (i+4) 5∧(0≤x∧x < 5)∧Hid (∀ W,Below w.heap.size w W→Calls Tryz.prog 36 #[.slice a L.length cap,.int .i64 (i+4),.int .i64 5] W fun e w'=>e=.returned (.int .i64 x)∧w'=W):=⟨_,rfl,num_range _ _ _ (by omega),Lib.hid (fun W hb=>(from_any a cap L _ _ W (h.below hb) (by omega) (by omega) (by omega)).mono fun _ _ ⟨e,q⟩=>⟨e,q.symm⟩)⟩
 obtain ⟨x5,hx5,⟨r5,s5⟩,F5⟩:∃ x:Int,x=num L (i+5) 25∧(0≤x∧x < 25)∧Hid (∀ W,Below w.heap.size w W→Calls Tryz.prog 36 #[.slice a L.length cap,.int .i64 (i+5),.int .i64 25] W fun e w'=>e=.returned (.int .i64 x)∧w'=W):=⟨_,rfl,num_range _ _ _ (by omega),Lib.hid (fun W hb=>(from_any a cap L _ _ W (h.below hb) (by omega) (by omega) (by omega)).mono fun _ _ ⟨e,q⟩=>⟨e,q.symm⟩)⟩
 obtain ⟨x6,hx6,⟨r6,s6⟩,F6⟩:∃ x:Int,x=num L (i+6) 15∧(0≤x∧x < 15)∧Hid (∀ W,Below w.heap.size w W→Calls Tryz.prog 36 #[.slice a L.length cap,.int .i64 (i+6),.int .i64 15] W fun e w'=>e=.returned (.int .i64 x)∧w'=W):=⟨_,rfl,num_range _ _ _ (by omega),Lib.hid (fun W hb=>(from_any a cap L _ _ W (h.below hb) (by omega) (by omega) (by omega)).mono fun _ _ ⟨e,q⟩=>⟨e,q.symm⟩)⟩
 obtain ⟨x7,hx7,⟨r7,s7⟩,F7⟩:∃ x:Int,x=num L (i+7) 2∧(0≤x∧x < 2)∧Hid (∀ W,Below w.heap.size w W→Calls Tryz.prog 36 #[.slice a L.length cap,.int .i64 (i+7),.int .i64 2] W fun e w'=>e=.returned (.int .i64 x)∧w'=W):=⟨_,rfl,num_range _ _ _ (by omega),Lib.hid (fun W hb=>(from_any a cap L _ _ W (h.below hb) (by omega) (by omega) (by omega)).mono fun _ _ ⟨e,q⟩=>⟨e,q.symm⟩)⟩
 obtain ⟨x8,hx8,⟨r8,s8⟩,F8⟩:∃ x:Int,x=num L (i+8) 10∧(0≤x∧x < 10)∧Hid (∀ W,Below w.heap.size w W→Calls Tryz.prog 36 #[.slice a L.length cap,.int .i64 (i+8),.int .i64 10] W fun e w'=>e=.returned (.int .i64 x)∧w'=W):=⟨_,rfl,num_range _ _ _ (by omega),Lib.hid (fun W hb=>(from_any a cap L _ _ W (h.below hb) (by omega) (by omega) (by omega)).mono fun _ _ ⟨e,q⟩=>⟨e,q.symm⟩)⟩
 obtain ⟨xb,hxb,⟨rb,sb⟩,Fb⟩:∃ x:Int,x=num L (i+8) 97∧(0≤x∧x < 97)∧Hid (∀ W,Below w.heap.size w W→Calls Tryz.prog 36 #[.slice a L.length cap,.int .i64 (i+8),.int .i64 97] W fun e w'=>e=.returned (.int .i64 x)∧w'=W):=⟨_,rfl,num_range _ _ _ (by omega),Lib.hid (fun W hb=>(from_any a cap L _ _ W (h.below hb) (by omega) (by omega) (by omega)).mono fun _ _ ⟨e,q⟩=>⟨e,q.symm⟩)⟩
 obtain ⟨x9,hx9,⟨r9,s9⟩,F9⟩:∃ x:Int,x=num L (i+9) 7∧(0≤x∧x < 7)∧Hid (∀ W,Below w.heap.size w W→Calls Tryz.prog 36 #[.slice a L.length cap,.int .i64 (i+9),.int .i64 7] W fun e w'=>e=.returned (.int .i64 x)∧w'=W):=⟨_,rfl,num_range _ _ _ (by omega),Lib.hid (fun W hb=>(from_any a cap L _ _ W (h.below hb) (by omega) (by omega) (by omega)).mono fun _ _ ⟨e,q⟩=>⟨e,q.symm⟩)⟩
 obtain ⟨xt,hxt,⟨rt,st⟩,Ft⟩:∃ x:Int,x=num L (i+10) 3∧(0≤x∧x < 3)∧Hid (∀ W,Below w.heap.size w W→Calls Tryz.prog 36 #[.slice a L.length cap,.int .i64 (i+10),.int .i64 3] W fun e w'=>e=.returned (.int .i64 x)∧w'=W):=⟨_,rfl,num_range _ _ _ (by omega),Lib.hid (fun W hb=>(from_any a cap L _ _ W (h.below hb) (by omega) (by omega) (by omega)).mono fun _ _ ⟨e,q⟩=>⟨e,q.symm⟩)⟩
 obtain ⟨xe,hxe,⟨re,se⟩,Fe⟩:∃ x:Int,x=num L (i+11) 4∧(0≤x∧x < 4)∧Hid (∀ W,Below w.heap.size w W→Calls Tryz.prog 36 #[.slice a L.length cap,.int .i64 (i+11),.int .i64 4] W fun e w'=>e=.returned (.int .i64 x)∧w'=W):=⟨_,rfl,num_range _ _ _ (by omega),Lib.hid (fun W hb=>(from_any a cap L _ _ W (h.below hb) (by omega) (by omega) (by omega)).mono fun _ _ ⟨e,q⟩=>⟨e,q.symm⟩)⟩
 have RES:Hid (genPh L i=⟨true,1+x0,x1,1+x0+x5,1+x0+x5+x6,1+x2,10+x3,x4,if x7=1 then 1+x8 else 0,if x7=1 then 1+xb / 10 else 0,recall x9 (if x7=1 then 1+x8 else 0),decide (xt > 0),decide (xe=1)⟩):=Lib.hid (by subst hx0 hx1 hx2 hx3 hx4 hx5 hx6 hx7 hx8 hxb hx9 hxt hxe;rfl)
 generalize genPh L i=R at RES ⊢
 clear hx0 hx1 hx2 hx3 hx4 hx5 hx6 hx7 hx8 hxb hx9 hxt hxe h
 have hz:=(zero_of_info infoPz).1
 have HB:Hid (Below w.heap.size w (w.alloc (.cells zPh.cells.toArray 25))):=Lib.hid ((Below.refl _ _).alloc (Nat.le_refl _) _)
 have hg:=heap_alloc_new w (.cells zPh.cells.toArray 25)
 have hs:(w.alloc (.cells zPh.cells.toArray 25)).heap.size=w.heap.size+1:=by simp
 have HG:=Lib.hid hg
 have HS:=Lib.hid hs
 clear hg hs
 simp only [zPh,Ph.cells] at hz HB HG HS
 go_enter Tryz.func34,Tryz.ntmps34
 go_upto_region 1 with fail
 generalize (World.alloc w _)=u at HB HG HS ⊢
 go_wp2_with fail
 refine (F0.out _ HB.out).mono ?_
 rintro e w' ⟨rfl,hq⟩
 subst w'
 go_wp2_with fail
 refine (F1.out _ HB.out).mono ?_
 rintro e w' ⟨rfl,hq⟩
 subst w'
 go_wp2_with fail
 refine (F2.out _ HB.out).mono ?_
 rintro e w' ⟨rfl,hq⟩
 subst w'
 go_wp2_with fail
 refine (F3.out _ HB.out).mono ?_
 rintro e w' ⟨rfl,hq⟩
 subst w'
 go_wp2_with fail
 refine (F4.out _ HB.out).mono ?_
 rintro e w' ⟨rfl,hq⟩
 subst w'
 go_upto_region 2 with (refine Row.wpList_store_new rfl 25 _ _ rfl u _ #[.bool true,I (1+x0),I x1,I 0,I 0,I (1+x2),I (10+x3),I x4,I 0,I 0,I 0,.bool false,.bool false] rfl rfl rfl infoP rfl (by simp [Value.oneCell']) ?_)
 (try dsimp only [Act.put])
 have hb:=HB.out.alloc HB.out.size (.cells #[.bool true,I (1+x0),I x1,I 0,I 0,I (1+x2),I (10+x3),I x4,I 0,I 0,I 0,.bool false,.bool false] 25)
 have g5:=heap_alloc_new u (.cells #[.bool true,I (1+x0),I x1,I 0,I 0,I (1+x2),I (10+x3),I x4,I 0,I 0,I 0,.bool false,.bool false] 25)
 have g4:=(Below.heap_alloc u (.cells #[.bool true,I (1+x0),I x1,I 0,I 0,I (1+x2),I (10+x3),I x4,I 0,I 0,I 0,.bool false,.bool false] 25) w.heap.size (by have:=HS.out;omega)).trans HG.out
 have b5lt:w.heap.size < u.heap.size:=by have:=HS.out;omega
 clear HB HG HS
 generalize World.alloc u _=u0 at g4 g5 hb ⊢
 generalize u.heap.size=b5 at g5 b5lt ⊢
 have G4:=Lib.hid g4
 have G5:=Lib.hid g5
 have HB:=Lib.hid hb
 clear g4 g5 hb
 have e0:IntKind.i64.wrap (i+5)=i+5:=by rw [IntKind.wrap_i64];omega
 have e1:IntKind.i64.wrap (1+x0+x5)=1+x0+x5:=by rw [IntKind.wrap_i64];omega
 have g4:u0.drew.heap[w.heap.size]?=some (.cells #[.bool false,.int .i64 0,.int .i64 0,.int .i64 0,.int .i64 0,.int .i64 0,.int .i64 0,.int .i64 0,.int .i64 0,.int .i64 0,.int .i64 0,.bool false,.bool false] 25 (0,0)):=G4.out
 have g5:u0.drew.heap[b5]?=some (.cells #[.bool true,I (1+x0),I x1,I 0,I 0,I (1+x2),I (10+x3),I x4,I 0,I 0,I 0,.bool false,.bool false] 25 (0,0)):=G5.out
 have hb:Below w.heap.size w u0.drew:=HB.out.drew
 clear G4 G5 HB
 refine QB.region_tail 8 (by kernel_rfl) (by kernel_rfl) ?_
 generalize World.drew u0=u1 at g4 g5 hb ⊢
 have G4:=Lib.hid g4
 have G5:=Lib.hid g5
 have HB:=Lib.hid hb
 clear g4 g5 hb
 have c1:u1.cell? ⟨b5,1,none⟩=some (I (1+x0)):=by rw [cell_of_row _ _ _ _ _ _ G5.out];rfl
 have c3:u1.cell? ⟨b5,3,none⟩=some (I 0):=by rw [cell_of_row _ _ _ _ _ _ G5.out];rfl
 have f3:u1.frozen? ⟨b5,3,none⟩=false:=frozen_of_row _ _ _ _ _ G5.out
 simp only [List.take_succ_cons,List.take_zero,List.drop_succ_cons,List.drop_zero]
 repeat still_step
 still_call (F5.out _ HB.out)
 repeat still_step
 refine wpStill_nil ?_
 go_upto_region 3 with fail
 clear e0 e1
 have g5:=heap_setCell_same u1 b5 3 _ _ (I (1+x0+x5)) G5.out
 simp only [List.setIfInBounds_toArray,List.set_cons_succ,List.set_cons_zero] at g5
 have g4:=(Below.heap_setCell u1 ⟨b5,3,none⟩ (I (1+x0+x5)) w.heap.size (by simp;omega)).trans G4.out
 have hb:=Owned.below_write HB.out (g:=b5) (i:=3) (by omega) (I (1+x0+x5))
 clear c1 c3 f3 G4 G5 HB
 generalize World.setCell u1 ⟨b5,3,none⟩ (I (1+x0+x5))=u2 at g4 g5 hb ⊢
 have G4:=Lib.hid g4
 have G5:=Lib.hid g5
 have HB:=Lib.hid hb
 clear g4 g5 hb
 have e0:IntKind.i64.wrap (i+6)=i+6:=by rw [IntKind.wrap_i64];omega
 have e1:IntKind.i64.wrap (1+x0+x5+x6)=1+x0+x5+x6:=by rw [IntKind.wrap_i64];omega
 have g4:u2.drew.heap[w.heap.size]?=some (.cells #[.bool false,.int .i64 0,.int .i64 0,.int .i64 0,.int .i64 0,.int .i64 0,.int .i64 0,.int .i64 0,.int .i64 0,.int .i64 0,.int .i64 0,.bool false,.bool false] 25 (0,0)):=G4.out
 have g5:u2.drew.heap[b5]?=some (.cells #[.bool true,I (1+x0),I x1,I (1+x0+x5),I 0,I (1+x2),I (10+x3),I x4,I 0,I 0,I 0,.bool false,.bool false] 25 (0,0)):=G5.out
 have hb:Below w.heap.size w u2.drew:=HB.out.drew
 clear G4 G5 HB
 refine QB.region_tail 8 (by kernel_rfl) (by kernel_rfl) ?_
 generalize World.drew u2=u3 at g4 g5 hb ⊢
 have G4:=Lib.hid g4
 have G5:=Lib.hid g5
 have HB:=Lib.hid hb
 clear g4 g5 hb
 have c3:u3.cell? ⟨b5,3,none⟩=some (I (1+x0+x5)):=by rw [cell_of_row _ _ _ _ _ _ G5.out];rfl
 have c4:u3.cell? ⟨b5,4,none⟩=some (I 0):=by rw [cell_of_row _ _ _ _ _ _ G5.out];rfl
 have f4:u3.frozen? ⟨b5,4,none⟩=false:=frozen_of_row _ _ _ _ _ G5.out
 simp only [List.take_succ_cons,List.take_zero,List.drop_succ_cons,List.drop_zero]
 repeat still_step
 still_call (F6.out _ HB.out)
 repeat still_step
 refine wpStill_nil ?_
 go_upto_region 4 with fail
 clear e0 e1
 have g5:=heap_setCell_same u3 b5 4 _ _ (I (1+x0+x5+x6)) G5.out
 simp only [List.setIfInBounds_toArray,List.set_cons_succ,List.set_cons_zero] at g5
 have g4:=(Below.heap_setCell u3 ⟨b5,4,none⟩ (I (1+x0+x5+x6)) w.heap.size (by simp;omega)).trans G4.out
 have hb:=Owned.below_write HB.out (g:=b5) (i:=4) (by omega) (I (1+x0+x5+x6))
 clear c3 c4 f4 G4 G5 HB
 generalize World.setCell u3 ⟨b5,4,none⟩ (I (1+x0+x5+x6))=u4 at g4 g5 hb ⊢
 have G4:=Lib.hid g4
 have G5:=Lib.hid g5
 have HB:=Lib.hid hb
 clear g4 g5 hb
 go_wp2_with fail
 refine (F7.out _ HB.out).mono ?_
 rintro e w' ⟨rfl,hq⟩
 subst w'
 by_cases h7:x7=1
 ·have H7:=Lib.hid h7
  have e7:(x7 == 1)=true:=by simpa using h7
  clear h7
  go_upto_region 5 with fail
  have c8:u4.cell? ⟨b5,8,none⟩=some (I 0):=by rw [cell_of_row _ _ _ _ _ _ G5.out];rfl
  have f8:u4.frozen? ⟨b5,8,none⟩=false:=frozen_of_row _ _ _ _ _ G5.out
  go_wp2_with fail
  refine (F8.out _ HB.out).mono ?_
  rintro e w' ⟨rfl,hq⟩
  subst w'
  go_upto_region 6 with fail
  have g5:=heap_setCell_same u4 b5 8 _ _ (I (1+x8)) G5.out
  simp only [List.setIfInBounds_toArray,List.set_cons_succ,List.set_cons_zero] at g5
  have g4:=(Below.heap_setCell u4 ⟨b5,8,none⟩ (I (1+x8)) w.heap.size (by simp;omega)).trans G4.out
  have hb:=Owned.below_write HB.out (g:=b5) (i:=8) (by omega) (I (1+x8))
  clear c8 f8 G4 G5 HB
  generalize World.setCell u4 ⟨b5,8,none⟩ (I (1+x8))=u5 at g4 g5 hb ⊢
  have G4:=Lib.hid g4
  have G5:=Lib.hid g5
  have HB:=Lib.hid hb
  clear g4 g5 hb
  have c9:u5.cell? ⟨b5,9,none⟩=some (I 0):=by rw [cell_of_row _ _ _ _ _ _ G5.out];rfl
  have f9:u5.frozen? ⟨b5,9,none⟩=false:=frozen_of_row _ _ _ _ _ G5.out
  go_wp2_with fail
  refine (Fb.out _ HB.out).mono ?_
  rintro e w' ⟨rfl,hq⟩
  subst w'
  go_upto_region 7 with fail
  have g5:=heap_setCell_same u5 b5 9 _ _ (I (1+xb / 10)) G5.out
  simp only [List.setIfInBounds_toArray,List.set_cons_succ,List.set_cons_zero] at g5
  have g4:=(Below.heap_setCell u5 ⟨b5,9,none⟩ (I (1+xb / 10)) w.heap.size (by simp;omega)).trans G4.out
  have hb:=Owned.below_write HB.out (g:=b5) (i:=9) (by omega) (I (1+xb / 10))
  clear c9 f9 G4 G5 HB
  generalize World.setCell u5 ⟨b5,9,none⟩ (I (1+xb / 10))=u6 at g4 g5 hb ⊢
  have G4:=Lib.hid g4
  have G5:=Lib.hid g5
  have HB:=Lib.hid hb
  clear g4 g5 hb
  have c10:u6.cell? ⟨b5,10,none⟩=some (I 0):=by rw [cell_of_row _ _ _ _ _ _ G5.out];rfl
  have f10:u6.frozen? ⟨b5,10,none⟩=false:=frozen_of_row _ _ _ _ _ G5.out
  go_wp2_with fail
  refine (F9.out _ HB.out).mono ?_
  rintro e w' ⟨rfl,hq⟩
  subst w'
  go_upto_region 8 with fail
  have g5:=heap_setCell_same u6 b5 10 _ _ (I x9) G5.out
  simp only [List.setIfInBounds_toArray,List.set_cons_succ,List.set_cons_zero] at g5
  have g4:=(Below.heap_setCell u6 ⟨b5,10,none⟩ (I x9) w.heap.size (by simp;omega)).trans G4.out
  have hb:=Owned.below_write HB.out (g:=b5) (i:=10) (by omega) (I x9)
  clear c10 f10 G4 G5 HB
  generalize World.setCell u6 ⟨b5,10,none⟩ (I x9)=u7 at g4 g5 hb ⊢
  have G4:=Lib.hid g4
  have G5:=Lib.hid g5
  have HB:=Lib.hid hb
  clear g4 g5 hb
  have c8:u7.cell? ⟨b5,8,none⟩=some (I (1+x8)):=by rw [cell_of_row _ _ _ _ _ _ G5.out];rfl
  have c10:u7.cell? ⟨b5,10,none⟩=some (I x9):=by rw [cell_of_row _ _ _ _ _ _ G5.out];rfl
  have f10:u7.frozen? ⟨b5,10,none⟩=false:=frozen_of_row _ _ _ _ _ G5.out
  by_cases h9:x9 > 3
  ·have RC:Hid (recall x9 (1+x8)=0):=Lib.hid (by unfold recall;rw [if_pos (by omega)])
   have H9:=Lib.hid h9
   have q9:¬ (x9≤3):=by omega
   go_upto_region 10 with fail
   have g5:=heap_setCell_same u7 b5 10 _ _ (I 0) G5.out
   simp only [List.setIfInBounds_toArray,List.set_cons_succ,List.set_cons_zero] at g5
   have g4:=(Below.heap_setCell u7 ⟨b5,10,none⟩ (I 0) w.heap.size (by simp;omega)).trans G4.out
   have hb:=Owned.below_write HB.out (g:=b5) (i:=10) (by omega) (I 0)
   clear c8 c10 f10 G4 G5 HB
   generalize World.setCell u7 ⟨b5,10,none⟩ (I 0)=u8 at g4 g5 hb ⊢
   have G4:=Lib.hid g4
   have G5:=Lib.hid g5
   have HB:=Lib.hid hb
   clear g4 g5 hb
   have c11:u8.cell? ⟨b5,11,none⟩=some (.bool false):=by rw [cell_of_row _ _ _ _ _ _ G5.out];rfl
   have f11:u8.frozen? ⟨b5,11,none⟩=false:=frozen_of_row _ _ _ _ _ G5.out
   go_wp2_with fail
   refine (Ft.out _ HB.out).mono ?_
   rintro e w' ⟨rfl,hq⟩
   subst w'
   go_upto_region 11 with fail
   have g5:=heap_setCell_same u8 b5 11 _ _ (.bool (decide (xt > 0))) G5.out
   simp only [List.setIfInBounds_toArray,List.set_cons_succ,List.set_cons_zero] at g5
   have g4:=(Below.heap_setCell u8 ⟨b5,11,none⟩ (.bool (decide (xt > 0))) w.heap.size (by simp;omega)).trans G4.out
   have hb:=Owned.below_write HB.out (g:=b5) (i:=11) (by omega) (.bool (decide (xt > 0)))
   clear c11 f11 G4 G5 HB
   generalize World.setCell u8 ⟨b5,11,none⟩ (.bool (decide (xt > 0)))=u9 at g4 g5 hb ⊢
   have G4:=Lib.hid g4
   have G5:=Lib.hid g5
   have HB:=Lib.hid hb
   clear g4 g5 hb
   have c12:u9.cell? ⟨b5,12,none⟩=some (.bool false):=by rw [cell_of_row _ _ _ _ _ _ G5.out];rfl
   have f12:u9.frozen? ⟨b5,12,none⟩=false:=frozen_of_row _ _ _ _ _ G5.out
   go_wp2_with fail
   refine (Fe.out _ HB.out).mono ?_
   rintro e w' ⟨rfl,hq⟩
   subst w'
   go_upto_region 12 with fail
   have g5:=heap_setCell_same u9 b5 12 _ _ (.bool (decide (xe=1))) G5.out
   simp only [List.setIfInBounds_toArray,List.set_cons_succ,List.set_cons_zero] at g5
   have g4:=(Below.heap_setCell u9 ⟨b5,12,none⟩ (.bool (decide (xe=1))) w.heap.size (by simp;omega)).trans G4.out
   have hb:=Owned.below_write HB.out (g:=b5) (i:=12) (by omega) (.bool (decide (xe=1)))
   clear c12 f12 G4 G5 HB
   generalize World.setCell u9 ⟨b5,12,none⟩ (.bool (decide (xe=1)))=u10 at g4 g5 hb ⊢
   have G4:=Lib.hid g4
   have G5:=Lib.hid g5
   have HB:=Lib.hid hb
   clear g4 g5 hb
   have FIN:Hid (R.cells.toArray=#[.bool true,I (1+x0),I x1,I (1+x0+x5),I (1+x0+x5+x6),I (1+x2),I (10+x3),I x4,I (1+x8),I (1+xb / 10),I 0,.bool (decide (xt > 0)),.bool (decide (xe=1))]):=Lib.hid (by rw [RES.out];simp only [Ph.cells,if_pos H7.out,RC.out])
   have LV:Hid (Lies u10 ⟨b5,0,none⟩ #[.bool true,I (1+x0),I x1,I (1+x0+x5),I (1+x0+x5+x6),I (1+x2),I (10+x3),I x4,I (1+x8),I (1+xb / 10),I 0,.bool (decide (xt > 0)),.bool (decide (xe=1))].toList):=Lib.hid (Row.lies_of_block G5.out)
   have HG:=Lib.hid (below_setRow HB.out (g:=w.heap.size) (Nat.le_refl _) #[.bool true,I (1+x0),I x1,I (1+x0+x5),I (1+x0+x5+x6),I (1+x2),I (10+x3),I x4,I (1+x8),I (1+xb / 10),I 0,.bool (decide (xt > 0)),.bool (decide (xe=1))])
   have HK:=Lib.hid (setRow_heap u10 w.heap.size _ #[.bool true,I (1+x0),I x1,I (1+x0+x5),I (1+x0+x5+x6),I (1+x2),I (10+x3),I x4,I (1+x8),I (1+xb / 10),I 0,.bool (decide (xt > 0)),.bool (decide (xe=1))] _ _ G4.out)
   go_wp2_with (first | (refine Row.wpList_load_g 25 _ rfl (by first | rfl | go_simp) ⟨b5,0,none⟩ rfl #[.bool true,I (1+x0),I x1,I (1+x0+x5),I (1+x0+x5+x6),I (1+x2),I (10+x3),I x4,I (1+x8),I (1+xb / 10),I 0,.bool (decide (xt > 0)),.bool (decide (xe=1))].toList _ LV.out Tryz.underlying25 rfl infoP ?_) | (refine wpList_store_row rfl 25 _ _ rfl w.heap.size #[.bool true,I (1+x0),I x1,I (1+x0+x5),I (1+x0+x5+x6),I (1+x2),I (10+x3),I x4,I (1+x8),I (1+xb / 10),I 0,.bool (decide (xt > 0)),.bool (decide (xe=1))] rfl rfl 25 _ G4.out infoP rfl (by simp [Value.oneCell']) ?_))
   generalize u10.setRow w.heap.size #[.bool true,I (1+x0),I x1,I (1+x0+x5),I (1+x0+x5+x6),I (1+x2),I (10+x3),I x4,I (1+x8),I (1+xb / 10),I 0,.bool (decide (xt > 0)),.bool (decide (xe=1))]=uz at HG HK ⊢
   go_wp2_with fail
   (try simp only [Exit.inBlock,Exit.then])
   refine bodyPost_ret (v:=.agg #[.bool true,I (1+x0),I x1,I (1+x0+x5),I (1+x0+x5+x6),I (1+x2),I (10+x3),I x4,I (1+x8),I (1+xb / 10),I 0,.bool (decide (xt > 0)),.bool (decide (xe=1))]) ?_ rfl ⟨by rw [FIN.out],HG.out⟩
   exact results_cell_row rfl _ _ w.heap.size 25 _ (0,0) _ rfl HK.out Tryz.underlying25 rfl infoP
  ·have RC:Hid (recall x9 (1+x8)=x9):=Lib.hid (by unfold recall;rw [if_neg (by omega)])
   have H9:=Lib.hid h9
   have q9:x9≤3:=by omega
   have q8:(1+x8 == 0)=false:=by rw [beq_eq_false_iff_ne];omega
   have Q8:=Lib.hid (show ¬ (1+x8=0) from by omega)
   by_cases h3:x9=3
   ·have e3:(x9 == 3)=true:=by simpa using h3
    clear h3 h9
    go_upto_region 10 with fail
    clear c8 c10 f10 e3 q8
    have c11:u7.cell? ⟨b5,11,none⟩=some (.bool false):=by rw [cell_of_row _ _ _ _ _ _ G5.out];rfl
    have f11:u7.frozen? ⟨b5,11,none⟩=false:=frozen_of_row _ _ _ _ _ G5.out
    go_wp2_with fail
    refine (Ft.out _ HB.out).mono ?_
    rintro e w' ⟨rfl,hq⟩
    subst w'
    go_upto_region 11 with fail
    have g5:=heap_setCell_same u7 b5 11 _ _ (.bool (decide (xt > 0))) G5.out
    simp only [List.setIfInBounds_toArray,List.set_cons_succ,List.set_cons_zero] at g5
    have g4:=(Below.heap_setCell u7 ⟨b5,11,none⟩ (.bool (decide (xt > 0))) w.heap.size (by simp;omega)).trans G4.out
    have hb:=Owned.below_write HB.out (g:=b5) (i:=11) (by omega) (.bool (decide (xt > 0)))
    clear c11 f11 G4 G5 HB
    generalize World.setCell u7 ⟨b5,11,none⟩ (.bool (decide (xt > 0)))=u8 at g4 g5 hb ⊢
    have G4:=Lib.hid g4
    have G5:=Lib.hid g5
    have HB:=Lib.hid hb
    clear g4 g5 hb
    have c12:u8.cell? ⟨b5,12,none⟩=some (.bool false):=by rw [cell_of_row _ _ _ _ _ _ G5.out];rfl
    have f12:u8.frozen? ⟨b5,12,none⟩=false:=frozen_of_row _ _ _ _ _ G5.out
    go_wp2_with fail
    refine (Fe.out _ HB.out).mono ?_
    rintro e w' ⟨rfl,hq⟩
    subst w'
    go_upto_region 12 with fail
    have g5:=heap_setCell_same u8 b5 12 _ _ (.bool (decide (xe=1))) G5.out
    simp only [List.setIfInBounds_toArray,List.set_cons_succ,List.set_cons_zero] at g5
    have g4:=(Below.heap_setCell u8 ⟨b5,12,none⟩ (.bool (decide (xe=1))) w.heap.size (by simp;omega)).trans G4.out
    have hb:=Owned.below_write HB.out (g:=b5) (i:=12) (by omega) (.bool (decide (xe=1)))
    clear c12 f12 G4 G5 HB
    generalize World.setCell u8 ⟨b5,12,none⟩ (.bool (decide (xe=1)))=u9 at g4 g5 hb ⊢
    have G4:=Lib.hid g4
    have G5:=Lib.hid g5
    have HB:=Lib.hid hb
    clear g4 g5 hb
    have FIN:Hid (R.cells.toArray=#[.bool true,I (1+x0),I x1,I (1+x0+x5),I (1+x0+x5+x6),I (1+x2),I (10+x3),I x4,I (1+x8),I (1+xb / 10),I x9,.bool (decide (xt > 0)),.bool (decide (xe=1))]):=Lib.hid (by rw [RES.out];simp only [Ph.cells,if_pos H7.out,RC.out])
    have LV:Hid (Lies u9 ⟨b5,0,none⟩ #[.bool true,I (1+x0),I x1,I (1+x0+x5),I (1+x0+x5+x6),I (1+x2),I (10+x3),I x4,I (1+x8),I (1+xb / 10),I x9,.bool (decide (xt > 0)),.bool (decide (xe=1))].toList):=Lib.hid (Row.lies_of_block G5.out)
    have HG:=Lib.hid (below_setRow HB.out (g:=w.heap.size) (Nat.le_refl _) #[.bool true,I (1+x0),I x1,I (1+x0+x5),I (1+x0+x5+x6),I (1+x2),I (10+x3),I x4,I (1+x8),I (1+xb / 10),I x9,.bool (decide (xt > 0)),.bool (decide (xe=1))])
    have HK:=Lib.hid (setRow_heap u9 w.heap.size _ #[.bool true,I (1+x0),I x1,I (1+x0+x5),I (1+x0+x5+x6),I (1+x2),I (10+x3),I x4,I (1+x8),I (1+xb / 10),I x9,.bool (decide (xt > 0)),.bool (decide (xe=1))] _ _ G4.out)
    go_wp2_with (first | (refine Row.wpList_load_g 25 _ rfl (by first | rfl | go_simp) ⟨b5,0,none⟩ rfl #[.bool true,I (1+x0),I x1,I (1+x0+x5),I (1+x0+x5+x6),I (1+x2),I (10+x3),I x4,I (1+x8),I (1+xb / 10),I x9,.bool (decide (xt > 0)),.bool (decide (xe=1))].toList _ LV.out Tryz.underlying25 rfl infoP ?_) | (refine wpList_store_row rfl 25 _ _ rfl w.heap.size #[.bool true,I (1+x0),I x1,I (1+x0+x5),I (1+x0+x5+x6),I (1+x2),I (10+x3),I x4,I (1+x8),I (1+xb / 10),I x9,.bool (decide (xt > 0)),.bool (decide (xe=1))] rfl rfl 25 _ G4.out infoP rfl (by simp [Value.oneCell']) ?_))
    generalize u9.setRow w.heap.size #[.bool true,I (1+x0),I x1,I (1+x0+x5),I (1+x0+x5+x6),I (1+x2),I (10+x3),I x4,I (1+x8),I (1+xb / 10),I x9,.bool (decide (xt > 0)),.bool (decide (xe=1))]=uz at HG HK ⊢
    go_wp2_with fail
    (try simp only [Exit.inBlock,Exit.then])
    refine bodyPost_ret (v:=.agg #[.bool true,I (1+x0),I x1,I (1+x0+x5),I (1+x0+x5+x6),I (1+x2),I (10+x3),I x4,I (1+x8),I (1+xb / 10),I x9,.bool (decide (xt > 0)),.bool (decide (xe=1))]) ?_ rfl ⟨by rw [FIN.out],HG.out⟩
    exact results_cell_row rfl _ _ w.heap.size 25 _ (0,0) _ rfl HK.out Tryz.underlying25 rfl infoP
   ·have e3:(x9 == 3)=false:=by simpa using h3
    clear h3 h9
    go_upto_region 10 with fail
    clear c8 c10 f10 e3 q8
    have c11:u7.cell? ⟨b5,11,none⟩=some (.bool false):=by rw [cell_of_row _ _ _ _ _ _ G5.out];rfl
    have f11:u7.frozen? ⟨b5,11,none⟩=false:=frozen_of_row _ _ _ _ _ G5.out
    go_wp2_with fail
    refine (Ft.out _ HB.out).mono ?_
    rintro e w' ⟨rfl,hq⟩
    subst w'
    go_upto_region 11 with fail
    have g5:=heap_setCell_same u7 b5 11 _ _ (.bool (decide (xt > 0))) G5.out
    simp only [List.setIfInBounds_toArray,List.set_cons_succ,List.set_cons_zero] at g5
    have g4:=(Below.heap_setCell u7 ⟨b5,11,none⟩ (.bool (decide (xt > 0))) w.heap.size (by simp;omega)).trans G4.out
    have hb:=Owned.below_write HB.out (g:=b5) (i:=11) (by omega) (.bool (decide (xt > 0)))
    clear c11 f11 G4 G5 HB
    generalize World.setCell u7 ⟨b5,11,none⟩ (.bool (decide (xt > 0)))=u8 at g4 g5 hb ⊢
    have G4:=Lib.hid g4
    have G5:=Lib.hid g5
    have HB:=Lib.hid hb
    clear g4 g5 hb
    have c12:u8.cell? ⟨b5,12,none⟩=some (.bool false):=by rw [cell_of_row _ _ _ _ _ _ G5.out];rfl
    have f12:u8.frozen? ⟨b5,12,none⟩=false:=frozen_of_row _ _ _ _ _ G5.out
    go_wp2_with fail
    refine (Fe.out _ HB.out).mono ?_
    rintro e w' ⟨rfl,hq⟩
    subst w'
    go_upto_region 12 with fail
    have g5:=heap_setCell_same u8 b5 12 _ _ (.bool (decide (xe=1))) G5.out
    simp only [List.setIfInBounds_toArray,List.set_cons_succ,List.set_cons_zero] at g5
    have g4:=(Below.heap_setCell u8 ⟨b5,12,none⟩ (.bool (decide (xe=1))) w.heap.size (by simp;omega)).trans G4.out
    have hb:=Owned.below_write HB.out (g:=b5) (i:=12) (by omega) (.bool (decide (xe=1)))
    clear c12 f12 G4 G5 HB
    generalize World.setCell u8 ⟨b5,12,none⟩ (.bool (decide (xe=1)))=u9 at g4 g5 hb ⊢
    have G4:=Lib.hid g4
    have G5:=Lib.hid g5
    have HB:=Lib.hid hb
    clear g4 g5 hb
    have FIN:Hid (R.cells.toArray=#[.bool true,I (1+x0),I x1,I (1+x0+x5),I (1+x0+x5+x6),I (1+x2),I (10+x3),I x4,I (1+x8),I (1+xb / 10),I x9,.bool (decide (xt > 0)),.bool (decide (xe=1))]):=Lib.hid (by rw [RES.out];simp only [Ph.cells,if_pos H7.out,RC.out])
    have LV:Hid (Lies u9 ⟨b5,0,none⟩ #[.bool true,I (1+x0),I x1,I (1+x0+x5),I (1+x0+x5+x6),I (1+x2),I (10+x3),I x4,I (1+x8),I (1+xb / 10),I x9,.bool (decide (xt > 0)),.bool (decide (xe=1))].toList):=Lib.hid (Row.lies_of_block G5.out)
    have HG:=Lib.hid (below_setRow HB.out (g:=w.heap.size) (Nat.le_refl _) #[.bool true,I (1+x0),I x1,I (1+x0+x5),I (1+x0+x5+x6),I (1+x2),I (10+x3),I x4,I (1+x8),I (1+xb / 10),I x9,.bool (decide (xt > 0)),.bool (decide (xe=1))])
    have HK:=Lib.hid (setRow_heap u9 w.heap.size _ #[.bool true,I (1+x0),I x1,I (1+x0+x5),I (1+x0+x5+x6),I (1+x2),I (10+x3),I x4,I (1+x8),I (1+xb / 10),I x9,.bool (decide (xt > 0)),.bool (decide (xe=1))] _ _ G4.out)
    go_wp2_with (first | (refine Row.wpList_load_g 25 _ rfl (by first | rfl | go_simp) ⟨b5,0,none⟩ rfl #[.bool true,I (1+x0),I x1,I (1+x0+x5),I (1+x0+x5+x6),I (1+x2),I (10+x3),I x4,I (1+x8),I (1+xb / 10),I x9,.bool (decide (xt > 0)),.bool (decide (xe=1))].toList _ LV.out Tryz.underlying25 rfl infoP ?_) | (refine wpList_store_row rfl 25 _ _ rfl w.heap.size #[.bool true,I (1+x0),I x1,I (1+x0+x5),I (1+x0+x5+x6),I (1+x2),I (10+x3),I x4,I (1+x8),I (1+xb / 10),I x9,.bool (decide (xt > 0)),.bool (decide (xe=1))] rfl rfl 25 _ G4.out infoP rfl (by simp [Value.oneCell']) ?_))
    generalize u9.setRow w.heap.size #[.bool true,I (1+x0),I x1,I (1+x0+x5),I (1+x0+x5+x6),I (1+x2),I (10+x3),I x4,I (1+x8),I (1+xb / 10),I x9,.bool (decide (xt > 0)),.bool (decide (xe=1))]=uz at HG HK ⊢
    go_wp2_with fail
    (try simp only [Exit.inBlock,Exit.then])
    refine bodyPost_ret (v:=.agg #[.bool true,I (1+x0),I x1,I (1+x0+x5),I (1+x0+x5+x6),I (1+x2),I (10+x3),I x4,I (1+x8),I (1+xb / 10),I x9,.bool (decide (xt > 0)),.bool (decide (xe=1))]) ?_ rfl ⟨by rw [FIN.out],HG.out⟩
    exact results_cell_row rfl _ _ w.heap.size 25 _ (0,0) _ rfl HK.out Tryz.underlying25 rfl infoP
 ·have H7:=Lib.hid h7
  have e7:(x7 == 1)=false:=by simpa using h7
  clear h7
  go_upto_region 7 with fail
  have c10:u4.cell? ⟨b5,10,none⟩=some (I 0):=by rw [cell_of_row _ _ _ _ _ _ G5.out];rfl
  have f10:u4.frozen? ⟨b5,10,none⟩=false:=frozen_of_row _ _ _ _ _ G5.out
  go_wp2_with fail
  refine (F9.out _ HB.out).mono ?_
  rintro e w' ⟨rfl,hq⟩
  subst w'
  go_upto_region 8 with fail
  have g5:=heap_setCell_same u4 b5 10 _ _ (I x9) G5.out
  simp only [List.setIfInBounds_toArray,List.set_cons_succ,List.set_cons_zero] at g5
  have g4:=(Below.heap_setCell u4 ⟨b5,10,none⟩ (I x9) w.heap.size (by simp;omega)).trans G4.out
  have hb:=Owned.below_write HB.out (g:=b5) (i:=10) (by omega) (I x9)
  clear c10 f10 G4 G5 HB
  generalize World.setCell u4 ⟨b5,10,none⟩ (I x9)=u5 at g4 g5 hb ⊢
  have G4:=Lib.hid g4
  have G5:=Lib.hid g5
  have HB:=Lib.hid hb
  clear g4 g5 hb
  have c8:u5.cell? ⟨b5,8,none⟩=some (I 0):=by rw [cell_of_row _ _ _ _ _ _ G5.out];rfl
  have c10:u5.cell? ⟨b5,10,none⟩=some (I x9):=by rw [cell_of_row _ _ _ _ _ _ G5.out];rfl
  have f10:u5.frozen? ⟨b5,10,none⟩=false:=frozen_of_row _ _ _ _ _ G5.out
  by_cases h9:x9 > 3
  ·have RC:Hid (recall x9 (0)=0):=Lib.hid (by unfold recall;rw [if_pos (by omega)])
   have H9:=Lib.hid h9
   have q9:¬ (x9≤3):=by omega
   go_upto_region 10 with fail
   have g5:=heap_setCell_same u5 b5 10 _ _ (I 0) G5.out
   simp only [List.setIfInBounds_toArray,List.set_cons_succ,List.set_cons_zero] at g5
   have g4:=(Below.heap_setCell u5 ⟨b5,10,none⟩ (I 0) w.heap.size (by simp;omega)).trans G4.out
   have hb:=Owned.below_write HB.out (g:=b5) (i:=10) (by omega) (I 0)
   clear c8 c10 f10 G4 G5 HB
   generalize World.setCell u5 ⟨b5,10,none⟩ (I 0)=u6 at g4 g5 hb ⊢
   have G4:=Lib.hid g4
   have G5:=Lib.hid g5
   have HB:=Lib.hid hb
   clear g4 g5 hb
   have c11:u6.cell? ⟨b5,11,none⟩=some (.bool false):=by rw [cell_of_row _ _ _ _ _ _ G5.out];rfl
   have f11:u6.frozen? ⟨b5,11,none⟩=false:=frozen_of_row _ _ _ _ _ G5.out
   go_wp2_with fail
   refine (Ft.out _ HB.out).mono ?_
   rintro e w' ⟨rfl,hq⟩
   subst w'
   go_upto_region 11 with fail
   have g5:=heap_setCell_same u6 b5 11 _ _ (.bool (decide (xt > 0))) G5.out
   simp only [List.setIfInBounds_toArray,List.set_cons_succ,List.set_cons_zero] at g5
   have g4:=(Below.heap_setCell u6 ⟨b5,11,none⟩ (.bool (decide (xt > 0))) w.heap.size (by simp;omega)).trans G4.out
   have hb:=Owned.below_write HB.out (g:=b5) (i:=11) (by omega) (.bool (decide (xt > 0)))
   clear c11 f11 G4 G5 HB
   generalize World.setCell u6 ⟨b5,11,none⟩ (.bool (decide (xt > 0)))=u7 at g4 g5 hb ⊢
   have G4:=Lib.hid g4
   have G5:=Lib.hid g5
   have HB:=Lib.hid hb
   clear g4 g5 hb
   have c12:u7.cell? ⟨b5,12,none⟩=some (.bool false):=by rw [cell_of_row _ _ _ _ _ _ G5.out];rfl
   have f12:u7.frozen? ⟨b5,12,none⟩=false:=frozen_of_row _ _ _ _ _ G5.out
   go_wp2_with fail
   refine (Fe.out _ HB.out).mono ?_
   rintro e w' ⟨rfl,hq⟩
   subst w'
   go_upto_region 12 with fail
   have g5:=heap_setCell_same u7 b5 12 _ _ (.bool (decide (xe=1))) G5.out
   simp only [List.setIfInBounds_toArray,List.set_cons_succ,List.set_cons_zero] at g5
   have g4:=(Below.heap_setCell u7 ⟨b5,12,none⟩ (.bool (decide (xe=1))) w.heap.size (by simp;omega)).trans G4.out
   have hb:=Owned.below_write HB.out (g:=b5) (i:=12) (by omega) (.bool (decide (xe=1)))
   clear c12 f12 G4 G5 HB
   generalize World.setCell u7 ⟨b5,12,none⟩ (.bool (decide (xe=1)))=u8 at g4 g5 hb ⊢
   have G4:=Lib.hid g4
   have G5:=Lib.hid g5
   have HB:=Lib.hid hb
   clear g4 g5 hb
   have FIN:Hid (R.cells.toArray=#[.bool true,I (1+x0),I x1,I (1+x0+x5),I (1+x0+x5+x6),I (1+x2),I (10+x3),I x4,I 0,I 0,I 0,.bool (decide (xt > 0)),.bool (decide (xe=1))]):=Lib.hid (by rw [RES.out];simp only [Ph.cells,if_neg H7.out,RC.out])
   have LV:Hid (Lies u8 ⟨b5,0,none⟩ #[.bool true,I (1+x0),I x1,I (1+x0+x5),I (1+x0+x5+x6),I (1+x2),I (10+x3),I x4,I 0,I 0,I 0,.bool (decide (xt > 0)),.bool (decide (xe=1))].toList):=Lib.hid (Row.lies_of_block G5.out)
   have HG:=Lib.hid (below_setRow HB.out (g:=w.heap.size) (Nat.le_refl _) #[.bool true,I (1+x0),I x1,I (1+x0+x5),I (1+x0+x5+x6),I (1+x2),I (10+x3),I x4,I 0,I 0,I 0,.bool (decide (xt > 0)),.bool (decide (xe=1))])
   have HK:=Lib.hid (setRow_heap u8 w.heap.size _ #[.bool true,I (1+x0),I x1,I (1+x0+x5),I (1+x0+x5+x6),I (1+x2),I (10+x3),I x4,I 0,I 0,I 0,.bool (decide (xt > 0)),.bool (decide (xe=1))] _ _ G4.out)
   go_wp2_with (first | (refine Row.wpList_load_g 25 _ rfl (by first | rfl | go_simp) ⟨b5,0,none⟩ rfl #[.bool true,I (1+x0),I x1,I (1+x0+x5),I (1+x0+x5+x6),I (1+x2),I (10+x3),I x4,I 0,I 0,I 0,.bool (decide (xt > 0)),.bool (decide (xe=1))].toList _ LV.out Tryz.underlying25 rfl infoP ?_) | (refine wpList_store_row rfl 25 _ _ rfl w.heap.size #[.bool true,I (1+x0),I x1,I (1+x0+x5),I (1+x0+x5+x6),I (1+x2),I (10+x3),I x4,I 0,I 0,I 0,.bool (decide (xt > 0)),.bool (decide (xe=1))] rfl rfl 25 _ G4.out infoP rfl (by simp [Value.oneCell']) ?_))
   generalize u8.setRow w.heap.size #[.bool true,I (1+x0),I x1,I (1+x0+x5),I (1+x0+x5+x6),I (1+x2),I (10+x3),I x4,I 0,I 0,I 0,.bool (decide (xt > 0)),.bool (decide (xe=1))]=uz at HG HK ⊢
   go_wp2_with fail
   (try simp only [Exit.inBlock,Exit.then])
   refine bodyPost_ret (v:=.agg #[.bool true,I (1+x0),I x1,I (1+x0+x5),I (1+x0+x5+x6),I (1+x2),I (10+x3),I x4,I 0,I 0,I 0,.bool (decide (xt > 0)),.bool (decide (xe=1))]) ?_ rfl ⟨by rw [FIN.out],HG.out⟩
   exact results_cell_row rfl _ _ w.heap.size 25 _ (0,0) _ rfl HK.out Tryz.underlying25 rfl infoP
  ·have H9:=Lib.hid h9
   have q9:x9≤3:=by omega
   by_cases h3:x9=3
   ·have RC:Hid (recall x9 (0)=0):=Lib.hid (by unfold recall;rw [if_pos (by omega)])
    have H3:=Lib.hid h3
    have e3:(x9 == 3)=true:=by simpa using h3
    clear h3 h9
    go_upto_region 10 with fail
    have g5:=heap_setCell_same u5 b5 10 _ _ (I 0) G5.out
    simp only [List.setIfInBounds_toArray,List.set_cons_succ,List.set_cons_zero] at g5
    have g4:=(Below.heap_setCell u5 ⟨b5,10,none⟩ (I 0) w.heap.size (by simp;omega)).trans G4.out
    have hb:=Owned.below_write HB.out (g:=b5) (i:=10) (by omega) (I 0)
    clear c8 c10 f10 G4 G5 HB
    generalize World.setCell u5 ⟨b5,10,none⟩ (I 0)=u6 at g4 g5 hb ⊢
    have G4:=Lib.hid g4
    have G5:=Lib.hid g5
    have HB:=Lib.hid hb
    clear g4 g5 hb
    clear e3
    have c11:u6.cell? ⟨b5,11,none⟩=some (.bool false):=by rw [cell_of_row _ _ _ _ _ _ G5.out];rfl
    have f11:u6.frozen? ⟨b5,11,none⟩=false:=frozen_of_row _ _ _ _ _ G5.out
    go_wp2_with fail
    refine (Ft.out _ HB.out).mono ?_
    rintro e w' ⟨rfl,hq⟩
    subst w'
    go_upto_region 11 with fail
    have g5:=heap_setCell_same u6 b5 11 _ _ (.bool (decide (xt > 0))) G5.out
    simp only [List.setIfInBounds_toArray,List.set_cons_succ,List.set_cons_zero] at g5
    have g4:=(Below.heap_setCell u6 ⟨b5,11,none⟩ (.bool (decide (xt > 0))) w.heap.size (by simp;omega)).trans G4.out
    have hb:=Owned.below_write HB.out (g:=b5) (i:=11) (by omega) (.bool (decide (xt > 0)))
    clear c11 f11 G4 G5 HB
    generalize World.setCell u6 ⟨b5,11,none⟩ (.bool (decide (xt > 0)))=u7 at g4 g5 hb ⊢
    have G4:=Lib.hid g4
    have G5:=Lib.hid g5
    have HB:=Lib.hid hb
    clear g4 g5 hb
    have c12:u7.cell? ⟨b5,12,none⟩=some (.bool false):=by rw [cell_of_row _ _ _ _ _ _ G5.out];rfl
    have f12:u7.frozen? ⟨b5,12,none⟩=false:=frozen_of_row _ _ _ _ _ G5.out
    go_wp2_with fail
    refine (Fe.out _ HB.out).mono ?_
    rintro e w' ⟨rfl,hq⟩
    subst w'
    go_upto_region 12 with fail
    have g5:=heap_setCell_same u7 b5 12 _ _ (.bool (decide (xe=1))) G5.out
    simp only [List.setIfInBounds_toArray,List.set_cons_succ,List.set_cons_zero] at g5
    have g4:=(Below.heap_setCell u7 ⟨b5,12,none⟩ (.bool (decide (xe=1))) w.heap.size (by simp;omega)).trans G4.out
    have hb:=Owned.below_write HB.out (g:=b5) (i:=12) (by omega) (.bool (decide (xe=1)))
    clear c12 f12 G4 G5 HB
    generalize World.setCell u7 ⟨b5,12,none⟩ (.bool (decide (xe=1)))=u8 at g4 g5 hb ⊢
    have G4:=Lib.hid g4
    have G5:=Lib.hid g5
    have HB:=Lib.hid hb
    clear g4 g5 hb
    have FIN:Hid (R.cells.toArray=#[.bool true,I (1+x0),I x1,I (1+x0+x5),I (1+x0+x5+x6),I (1+x2),I (10+x3),I x4,I 0,I 0,I 0,.bool (decide (xt > 0)),.bool (decide (xe=1))]):=Lib.hid (by rw [RES.out];simp only [Ph.cells,if_neg H7.out,RC.out])
    have LV:Hid (Lies u8 ⟨b5,0,none⟩ #[.bool true,I (1+x0),I x1,I (1+x0+x5),I (1+x0+x5+x6),I (1+x2),I (10+x3),I x4,I 0,I 0,I 0,.bool (decide (xt > 0)),.bool (decide (xe=1))].toList):=Lib.hid (Row.lies_of_block G5.out)
    have HG:=Lib.hid (below_setRow HB.out (g:=w.heap.size) (Nat.le_refl _) #[.bool true,I (1+x0),I x1,I (1+x0+x5),I (1+x0+x5+x6),I (1+x2),I (10+x3),I x4,I 0,I 0,I 0,.bool (decide (xt > 0)),.bool (decide (xe=1))])
    have HK:=Lib.hid (setRow_heap u8 w.heap.size _ #[.bool true,I (1+x0),I x1,I (1+x0+x5),I (1+x0+x5+x6),I (1+x2),I (10+x3),I x4,I 0,I 0,I 0,.bool (decide (xt > 0)),.bool (decide (xe=1))] _ _ G4.out)
    go_wp2_with (first | (refine Row.wpList_load_g 25 _ rfl (by first | rfl | go_simp) ⟨b5,0,none⟩ rfl #[.bool true,I (1+x0),I x1,I (1+x0+x5),I (1+x0+x5+x6),I (1+x2),I (10+x3),I x4,I 0,I 0,I 0,.bool (decide (xt > 0)),.bool (decide (xe=1))].toList _ LV.out Tryz.underlying25 rfl infoP ?_) | (refine wpList_store_row rfl 25 _ _ rfl w.heap.size #[.bool true,I (1+x0),I x1,I (1+x0+x5),I (1+x0+x5+x6),I (1+x2),I (10+x3),I x4,I 0,I 0,I 0,.bool (decide (xt > 0)),.bool (decide (xe=1))] rfl rfl 25 _ G4.out infoP rfl (by simp [Value.oneCell']) ?_))
    generalize u8.setRow w.heap.size #[.bool true,I (1+x0),I x1,I (1+x0+x5),I (1+x0+x5+x6),I (1+x2),I (10+x3),I x4,I 0,I 0,I 0,.bool (decide (xt > 0)),.bool (decide (xe=1))]=uz at HG HK ⊢
    go_wp2_with fail
    (try simp only [Exit.inBlock,Exit.then])
    refine bodyPost_ret (v:=.agg #[.bool true,I (1+x0),I x1,I (1+x0+x5),I (1+x0+x5+x6),I (1+x2),I (10+x3),I x4,I 0,I 0,I 0,.bool (decide (xt > 0)),.bool (decide (xe=1))]) ?_ rfl ⟨by rw [FIN.out],HG.out⟩
    exact results_cell_row rfl _ _ w.heap.size 25 _ (0,0) _ rfl HK.out Tryz.underlying25 rfl infoP
   ·have RC:Hid (recall x9 (0)=x9):=Lib.hid (by unfold recall;rw [if_neg (by omega)])
    have H3:=Lib.hid h3
    have e3:(x9 == 3)=false:=by simpa using h3
    clear h3 h9
    go_upto_region 10 with fail
    clear c8 c10 f10 e3
    have c11:u5.cell? ⟨b5,11,none⟩=some (.bool false):=by rw [cell_of_row _ _ _ _ _ _ G5.out];rfl
    have f11:u5.frozen? ⟨b5,11,none⟩=false:=frozen_of_row _ _ _ _ _ G5.out
    go_wp2_with fail
    refine (Ft.out _ HB.out).mono ?_
    rintro e w' ⟨rfl,hq⟩
    subst w'
    go_upto_region 11 with fail
    have g5:=heap_setCell_same u5 b5 11 _ _ (.bool (decide (xt > 0))) G5.out
    simp only [List.setIfInBounds_toArray,List.set_cons_succ,List.set_cons_zero] at g5
    have g4:=(Below.heap_setCell u5 ⟨b5,11,none⟩ (.bool (decide (xt > 0))) w.heap.size (by simp;omega)).trans G4.out
    have hb:=Owned.below_write HB.out (g:=b5) (i:=11) (by omega) (.bool (decide (xt > 0)))
    clear c11 f11 G4 G5 HB
    generalize World.setCell u5 ⟨b5,11,none⟩ (.bool (decide (xt > 0)))=u6 at g4 g5 hb ⊢
    have G4:=Lib.hid g4
    have G5:=Lib.hid g5
    have HB:=Lib.hid hb
    clear g4 g5 hb
    have c12:u6.cell? ⟨b5,12,none⟩=some (.bool false):=by rw [cell_of_row _ _ _ _ _ _ G5.out];rfl
    have f12:u6.frozen? ⟨b5,12,none⟩=false:=frozen_of_row _ _ _ _ _ G5.out
    go_wp2_with fail
    refine (Fe.out _ HB.out).mono ?_
    rintro e w' ⟨rfl,hq⟩
    subst w'
    go_upto_region 12 with fail
    have g5:=heap_setCell_same u6 b5 12 _ _ (.bool (decide (xe=1))) G5.out
    simp only [List.setIfInBounds_toArray,List.set_cons_succ,List.set_cons_zero] at g5
    have g4:=(Below.heap_setCell u6 ⟨b5,12,none⟩ (.bool (decide (xe=1))) w.heap.size (by simp;omega)).trans G4.out
    have hb:=Owned.below_write HB.out (g:=b5) (i:=12) (by omega) (.bool (decide (xe=1)))
    clear c12 f12 G4 G5 HB
    generalize World.setCell u6 ⟨b5,12,none⟩ (.bool (decide (xe=1)))=u7 at g4 g5 hb ⊢
    have G4:=Lib.hid g4
    have G5:=Lib.hid g5
    have HB:=Lib.hid hb
    clear g4 g5 hb
    have FIN:Hid (R.cells.toArray=#[.bool true,I (1+x0),I x1,I (1+x0+x5),I (1+x0+x5+x6),I (1+x2),I (10+x3),I x4,I 0,I 0,I x9,.bool (decide (xt > 0)),.bool (decide (xe=1))]):=Lib.hid (by rw [RES.out];simp only [Ph.cells,if_neg H7.out,RC.out])
    have LV:Hid (Lies u7 ⟨b5,0,none⟩ #[.bool true,I (1+x0),I x1,I (1+x0+x5),I (1+x0+x5+x6),I (1+x2),I (10+x3),I x4,I 0,I 0,I x9,.bool (decide (xt > 0)),.bool (decide (xe=1))].toList):=Lib.hid (Row.lies_of_block G5.out)
    have HG:=Lib.hid (below_setRow HB.out (g:=w.heap.size) (Nat.le_refl _) #[.bool true,I (1+x0),I x1,I (1+x0+x5),I (1+x0+x5+x6),I (1+x2),I (10+x3),I x4,I 0,I 0,I x9,.bool (decide (xt > 0)),.bool (decide (xe=1))])
    have HK:=Lib.hid (setRow_heap u7 w.heap.size _ #[.bool true,I (1+x0),I x1,I (1+x0+x5),I (1+x0+x5+x6),I (1+x2),I (10+x3),I x4,I 0,I 0,I x9,.bool (decide (xt > 0)),.bool (decide (xe=1))] _ _ G4.out)
    go_wp2_with (first | (refine Row.wpList_load_g 25 _ rfl (by first | rfl | go_simp) ⟨b5,0,none⟩ rfl #[.bool true,I (1+x0),I x1,I (1+x0+x5),I (1+x0+x5+x6),I (1+x2),I (10+x3),I x4,I 0,I 0,I x9,.bool (decide (xt > 0)),.bool (decide (xe=1))].toList _ LV.out Tryz.underlying25 rfl infoP ?_) | (refine wpList_store_row rfl 25 _ _ rfl w.heap.size #[.bool true,I (1+x0),I x1,I (1+x0+x5),I (1+x0+x5+x6),I (1+x2),I (10+x3),I x4,I 0,I 0,I x9,.bool (decide (xt > 0)),.bool (decide (xe=1))] rfl rfl 25 _ G4.out infoP rfl (by simp [Value.oneCell']) ?_))
    generalize u7.setRow w.heap.size #[.bool true,I (1+x0),I x1,I (1+x0+x5),I (1+x0+x5+x6),I (1+x2),I (10+x3),I x4,I 0,I 0,I x9,.bool (decide (xt > 0)),.bool (decide (xe=1))]=uz at HG HK ⊢
    go_wp2_with fail
    (try simp only [Exit.inBlock,Exit.then])
    refine bodyPost_ret (v:=.agg #[.bool true,I (1+x0),I x1,I (1+x0+x5),I (1+x0+x5+x6),I (1+x2),I (10+x3),I x4,I 0,I 0,I x9,.bool (decide (xt > 0)),.bool (decide (xe=1))]) ?_ rfl ⟨by rw [FIN.out],HG.out⟩
    exact results_cell_row rfl _ _ w.heap.size 25 _ (0,0) _ rfl HK.out Tryz.underlying25 rfl infoP
end GenP
namespace GenD
open Go.ChangeShapes Go.WideShapes Go.ChangeAt Go.RowKit
open Tab Clone RefS
open May (infoD)
open Same (below_setRow)
theorem run_store_float {P:Program} {w:World} {a:Addr} {u:Value} {k:FloatKind} {v:Nat} (h:w.cell? a=some u) (hf:w.frozen? a=false):Sem.run P (store a (.float k v)) w=.ok () (w.setCell a (.float k v)):=by
 rw [run_store P w a _ _ rfl]
 simp [stored,h,hf]
theorem infoDz:(Tryz.prog.info? 71).map (fun i=>(i.zero,i.size))=some (some (.agg #[I 0,F 0,F 0,F 0,F 0,I 0,I 0]),7):=by kernel_rfl
def onTab (x:Int):Nat:=[4617315517961601024,4621819117588971520,4607182418800017408,4602678819172646912].getD x.toNat 0
def facTab (x:Int):Nat:=[4602678819172646912,4607182418800017408,4598175219545276416].getD x.toNat 0
theorem idx4_0 (w:World):Sem.run Tryz.prog (Instr.index 129 (.agg #[F 4617315517961601024,F 4621819117588971520,F 4607182418800017408,F 4602678819172646912]) (.int .i64 0)) w=.ok (F (onTab 0)) w:=by kernel_rfl
theorem idx4_1 (w:World):Sem.run Tryz.prog (Instr.index 129 (.agg #[F 4617315517961601024,F 4621819117588971520,F 4607182418800017408,F 4602678819172646912]) (.int .i64 1)) w=.ok (F (onTab 1)) w:=by kernel_rfl
theorem idx4_2 (w:World):Sem.run Tryz.prog (Instr.index 129 (.agg #[F 4617315517961601024,F 4621819117588971520,F 4607182418800017408,F 4602678819172646912]) (.int .i64 2)) w=.ok (F (onTab 2)) w:=by kernel_rfl
theorem idx4_3 (w:World):Sem.run Tryz.prog (Instr.index 129 (.agg #[F 4617315517961601024,F 4621819117588971520,F 4607182418800017408,F 4602678819172646912]) (.int .i64 3)) w=.ok (F (onTab 3)) w:=by kernel_rfl
theorem idx4 (x:Int) (h0:0≤x) (h1:x < 4) (w:World):Sem.run Tryz.prog (Instr.index 129 (.agg #[F 4617315517961601024,F 4621819117588971520,F 4607182418800017408,F 4602678819172646912]) (.int .i64 x)) w=.ok (F (onTab x)) w:=by
 have:x=0∨x=1∨x=2∨x=3:=by omega
 rcases this with rfl | rfl | rfl | rfl
 ·exact idx4_0 w
 ·exact idx4_1 w
 ·exact idx4_2 w
 ·exact idx4_3 w
theorem idx3_0 (w:World):Sem.run Tryz.prog (Instr.index 130 (.agg #[F 4602678819172646912,F 4607182418800017408,F 4598175219545276416]) (.int .i64 0)) w=.ok (F (facTab 0)) w:=by kernel_rfl
theorem idx3_1 (w:World):Sem.run Tryz.prog (Instr.index 130 (.agg #[F 4602678819172646912,F 4607182418800017408,F 4598175219545276416]) (.int .i64 1)) w=.ok (F (facTab 1)) w:=by kernel_rfl
theorem idx3_2 (w:World):Sem.run Tryz.prog (Instr.index 130 (.agg #[F 4602678819172646912,F 4607182418800017408,F 4598175219545276416]) (.int .i64 2)) w=.ok (F (facTab 2)) w:=by kernel_rfl
theorem idx3 (x:Int) (h0:0≤x) (h1:x < 3) (w:World):Sem.run Tryz.prog (Instr.index 130 (.agg #[F 4602678819172646912,F 4607182418800017408,F 4598175219545276416]) (.int .i64 x)) w=.ok (F (facTab x)) w:=by
 have:x=0∨x=1∨x=2:=by omega
 rcases this with rfl | rfl | rfl
 ·exact idx3_0 w
 ·exact idx3_1 w
 ·exact idx3_2 w
def mulTab (x y:Int):Nat:=(floatBits .mul .f64 (onTab x) (facTab y)).getD 0
theorem mul_ok (x y:Int) (h0:0≤x) (h1:x < 4) (k0:0≤y) (k1:y < 3) (t:TypeId) (w:World):(binOp .mul t (F (onTab x)) (F (facTab y))).run Tryz.prog w=.ok (F (mulTab x y)) w:=by
 refine run_float_arith w .mul t .f64 _ _ _ ?_
 have h:∀ a:Nat,a < 4→∀ b:Nat,b < 3→floatBits .mul .f64 (onTab a) (facTab b)=some (mulTab a b):=by decide +kernel
 have:=h x.toNat (by omega) y.toNat (by omega)
 rwa [Int.toNat_of_nonneg h0,Int.toNat_of_nonneg k0] at this
def genDet (L:List Int) (i n:Int):Det :=
 ⟨num L i n,onTab (num L (i+1) 4),mulTab (num L (i+1) 4) (num L (i+2) 3),Fl.ofB (num L (i+3) 4).toNat,Fl.ofB (num L (i+4) 6).toNat,
  if num L (i+5) 3=1 then 20+num L (i+6) 60 else 0,if num L (i+5) 9=2 then 60+num L (i+7) 300 else 0⟩
theorem detector_any (a:Option Addr) (cap:Nat) (L:List Int) (i n:Int) (w:World) (h:IntRow w ⟨a,cap⟩ L) (h0:0≤i) (h1:i≤100000) (n0:0 < n) (n8:n≤8) :
  Calls Tryz.prog 38 #[.slice a L.length cap,.int .i64 i,.int .i64 n] w fun e w'=>e=.returned (.agg (genDet L i n).cells.toArray)∧Below w.heap.size w w':=by
 obtain ⟨x0,hx0,⟨r0,s0⟩,F0⟩:∃ x:Int,x=num L i n∧(0≤x∧x < n)∧Hid (∀ W,Below w.heap.size w W→Calls Tryz.prog 36 #[.slice a L.length cap,.int .i64 i,.int .i64 n] W fun e w'=>e=.returned (.int .i64 x)∧w'=W):=⟨_,rfl,num_range _ _ _ (by omega),Lib.hid (fun W hb=>(from_any a cap L _ _ W (h.below hb) (by omega) (by omega) (by omega)).mono fun _ _ ⟨e,q⟩=>⟨e,q.symm⟩)⟩
 obtain ⟨x1,hx1,⟨r1,s1⟩,F1⟩:∃ x:Int,x=num L (i+1) 4∧(0≤x∧x < 4)∧Hid (∀ W,Below w.heap.size w W→Calls Tryz.prog 36 #[.slice a L.length cap,.int .i64 (i+1),.int .i64 4] W fun e w'=>e=.returned (.int .i64 x)∧w'=W):=⟨_,rfl,num_range _ _ _ (by omega),Lib.hid (fun W hb=>(from_any a cap L _ _ W (h.below hb) (by omega) (by omega) (by omega)).mono fun _ _ ⟨e,q⟩=>⟨e,q.symm⟩)⟩
 obtain ⟨x2,hx2,⟨r2,s2⟩,F2⟩:∃ x:Int,x=num L (i+2) 3∧(0≤x∧x < 3)∧Hid (∀ W,Below w.heap.size w W→Calls Tryz.prog 36 #[.slice a L.length cap,.int .i64 (i+2),.int .i64 3] W fun e w'=>e=.returned (.int .i64 x)∧w'=W):=⟨_,rfl,num_range _ _ _ (by omega),Lib.hid (fun W hb=>(from_any a cap L _ _ W (h.below hb) (by omega) (by omega) (by omega)).mono fun _ _ ⟨e,q⟩=>⟨e,q.symm⟩)⟩
 obtain ⟨x3,hx3,⟨r3,s3⟩,F3⟩:∃ x:Int,x=num L (i+3) 4∧(0≤x∧x < 4)∧Hid (∀ W,Below w.heap.size w W→Calls Tryz.prog 36 #[.slice a L.length cap,.int .i64 (i+3),.int .i64 4] W fun e w'=>e=.returned (.int .i64 x)∧w'=W):=⟨_,rfl,num_range _ _ _ (by omega),Lib.hid (fun W hb=>(from_any a cap L _ _ W (h.below hb) (by omega) (by omega) (by omega)).mono fun _ _ ⟨e,q⟩=>⟨e,q.symm⟩)⟩
 obtain ⟨x4,hx4,⟨r4,s4⟩,F4⟩:∃ x:Int,x=num L (i+4) 6∧(0≤x∧x < 6)∧Hid (∀ W,Below w.heap.size w W→Calls Tryz.prog 36 #[.slice a L.length cap,.int .i64 (i+4),.int .i64 6] W fun e w'=>e=.returned (.int .i64 x)∧w'=W):=⟨_,rfl,num_range _ _ _ (by omega),Lib.hid (fun W hb=>(from_any a cap L _ _ W (h.below hb) (by omega) (by omega) (by omega)).mono fun _ _ ⟨e,q⟩=>⟨e,q.symm⟩)⟩
 obtain ⟨x5,hx5,⟨r5,s5⟩,F5⟩:∃ x:Int,x=num L (i+5) 3∧(0≤x∧x < 3)∧Hid (∀ W,Below w.heap.size w W→Calls Tryz.prog 36 #[.slice a L.length cap,.int .i64 (i+5),.int .i64 3] W fun e w'=>e=.returned (.int .i64 x)∧w'=W):=⟨_,rfl,num_range _ _ _ (by omega),Lib.hid (fun W hb=>(from_any a cap L _ _ W (h.below hb) (by omega) (by omega) (by omega)).mono fun _ _ ⟨e,q⟩=>⟨e,q.symm⟩)⟩
 obtain ⟨x6,hx6,⟨r6,s6⟩,F6⟩:∃ x:Int,x=num L (i+6) 60∧(0≤x∧x < 60)∧Hid (∀ W,Below w.heap.size w W→Calls Tryz.prog 36 #[.slice a L.length cap,.int .i64 (i+6),.int .i64 60] W fun e w'=>e=.returned (.int .i64 x)∧w'=W):=⟨_,rfl,num_range _ _ _ (by omega),Lib.hid (fun W hb=>(from_any a cap L _ _ W (h.below hb) (by omega) (by omega) (by omega)).mono fun _ _ ⟨e,q⟩=>⟨e,q.symm⟩)⟩
 obtain ⟨xz,hxz,⟨rz,sz⟩,Fz⟩:∃ x:Int,x=num L (i+5) 9∧(0≤x∧x < 9)∧Hid (∀ W,Below w.heap.size w W→Calls Tryz.prog 36 #[.slice a L.length cap,.int .i64 (i+5),.int .i64 9] W fun e w'=>e=.returned (.int .i64 x)∧w'=W):=⟨_,rfl,num_range _ _ _ (by omega),Lib.hid (fun W hb=>(from_any a cap L _ _ W (h.below hb) (by omega) (by omega) (by omega)).mono fun _ _ ⟨e,q⟩=>⟨e,q.symm⟩)⟩
 obtain ⟨x7,hx7,⟨r7,s7⟩,F7⟩:∃ x:Int,x=num L (i+7) 300∧(0≤x∧x < 300)∧Hid (∀ W,Below w.heap.size w W→Calls Tryz.prog 36 #[.slice a L.length cap,.int .i64 (i+7),.int .i64 300] W fun e w'=>e=.returned (.int .i64 x)∧w'=W):=⟨_,rfl,num_range _ _ _ (by omega),Lib.hid (fun W hb=>(from_any a cap L _ _ W (h.below hb) (by omega) (by omega) (by omega)).mono fun _ _ ⟨e,q⟩=>⟨e,q.symm⟩)⟩
 obtain ⟨v1,hv1,I1⟩:∃ v:Nat,v=onTab x1∧Hid (∀ w,Sem.run Tryz.prog (Instr.index 129 (.agg #[F 4617315517961601024,F 4621819117588971520,F 4607182418800017408,F 4602678819172646912]) (.int .i64 x1)) w=.ok (F v) w):=⟨_,rfl,Lib.hid (fun w=>idx4 x1 r1 s1 w)⟩
 obtain ⟨v2,hv2,I2⟩:∃ v:Nat,v=facTab x2∧Hid (∀ w,Sem.run Tryz.prog (Instr.index 130 (.agg #[F 4602678819172646912,F 4607182418800017408,F 4598175219545276416]) (.int .i64 x2)) w=.ok (F v) w):=⟨_,rfl,Lib.hid (fun w=>idx3 x2 r2 s2 w)⟩
 obtain ⟨v3,hv3,I3⟩:∃ v:Nat,v=mulTab x1 x2∧Hid (∀ t w,(binOp .mul t (F v1) (F v2)).run Tryz.prog w=.ok (.float .f64 v) w):=⟨_,rfl,Lib.hid (fun t w=>by rw [hv1,hv2];exact mul_ok x1 x2 r1 s1 r2 s2 t w)⟩
 obtain ⟨v4,hv4,I4⟩:∃ v:Nat,v=Fl.ofB x3.toNat∧Hid (∀ t w,(binOp .quo t (.float .f64 (floatOfInt .f64 x3)) (.float .f64 4621819117588971520)).run Tryz.prog w=.ok (.float .f64 v) w):=⟨_,rfl,Lib.hid (Secs.quo_at Secs.quo_holds x3 r3 (by omega))⟩
 obtain ⟨v5,hv5,I5⟩:∃ v:Nat,v=Fl.ofB x4.toNat∧Hid (∀ t w,(binOp .quo t (.float .f64 (floatOfInt .f64 x4)) (.float .f64 4621819117588971520)).run Tryz.prog w=.ok (.float .f64 v) w):=⟨_,rfl,Lib.hid (Secs.quo_at Secs.quo_holds x4 r4 (by omega))⟩
 have RES:Hid (genDet L i n=⟨x0,v1,v3,v4,v5,if x5=1 then 20+x6 else 0,if xz=2 then 60+x7 else 0⟩):=Lib.hid (by subst hv1 hv3 hv4 hv5 hx0 hx1 hx2 hx3 hx4 hx5 hx6 hxz hx7;rfl)
 generalize genDet L i n=R at RES ⊢
 have i1:=I1.out
 have i2:=I2.out
 have i3:=I3.out
 have i4:=I4.out
 have i5:=I5.out
 clear h hx0 hx1 hx2 hx3 hx4 hx5 hx6 hxz hx7 hv1 hv2 hv3 hv4 hv5
 have hz:=(zero_of_info infoDz).1
 have HB:Hid (Below w.heap.size w (w.alloc (.cells #[I 0,F 0,F 0,F 0,F 0,I 0,I 0] 71))):=Lib.hid ((Below.refl _ _).alloc (Nat.le_refl _) _)
 have hg:=heap_alloc_new w (.cells #[I 0,F 0,F 0,F 0,F 0,I 0,I 0] 71)
 have hs:(w.alloc (.cells #[I 0,F 0,F 0,F 0,F 0,I 0,I 0] 71)).heap.size=w.heap.size+1:=by simp
 have HG:=Lib.hid hg
 have HS:=Lib.hid hs
 clear hg hs
 go_enter Tryz.func38,Tryz.ntmps38
 go_upto_region 1 with fail
 generalize (World.alloc w _)=u at HB HG HS ⊢
 go_wp2_with fail
 refine (F0.out _ HB.out).mono ?_
 rintro e w' ⟨rfl,hq⟩
 subst w'
 go_wp2_with fail
 refine (F1.out _ HB.out).mono ?_
 rintro e w' ⟨rfl,hq⟩
 subst w'
 go_upto_region 2 with (refine Row.wpList_store_new rfl 71 _ _ rfl u _ #[I x0,F v1,F 0,F 0,F 0,I 0,I 0] rfl rfl rfl infoD rfl (by simp [Value.oneCell']) ?_)
 (try dsimp only [Act.put])
 have hb:=HB.out.alloc HB.out.size (.cells #[I x0,F v1,F 0,F 0,F 0,I 0,I 0] 71)
 have g5:=heap_alloc_new u (.cells #[I x0,F v1,F 0,F 0,F 0,I 0,I 0] 71)
 have g4:=(Below.heap_alloc u (.cells #[I x0,F v1,F 0,F 0,F 0,I 0,I 0] 71) w.heap.size (by have:=HS.out;omega)).trans HG.out
 have b5lt:w.heap.size < u.heap.size:=by have:=HS.out;omega
 clear HB HG HS
 generalize World.alloc u _=u0 at g4 g5 hb ⊢
 generalize u.heap.size=b5 at g5 b5lt ⊢
 have G4:=Lib.hid g4
 have G5:=Lib.hid g5
 have HB:=Lib.hid hb
 clear g4 g5 hb
 have e0:IntKind.i64.wrap (i+2)=i+2:=by rw [IntKind.wrap_i64];omega
 have g4:u0.drew.heap[w.heap.size]?=some (.cells #[I 0,F 0,F 0,F 0,F 0,I 0,I 0] 71 (0,0)):=G4.out
 have g5:u0.drew.heap[b5]?=some (.cells #[I x0,F v1,F 0,F 0,F 0,I 0,I 0] 71 (0,0)):=G5.out
 have hb:Below w.heap.size w u0.drew:=HB.out.drew
 clear G4 G5 HB
 refine QB.region_tail 10 (by kernel_rfl) (by kernel_rfl) ?_
 generalize World.drew u0=u1 at g4 g5 hb ⊢
 have G4:=Lib.hid g4
 have G5:=Lib.hid g5
 have HB:=Lib.hid hb
 clear g4 g5 hb
 have c1:u1.cell? ⟨b5,1,none⟩=some (F v1):=by rw [cell_of_row _ _ _ _ _ _ G5.out];rfl
 have c2:u1.cell? ⟨b5,2,none⟩=some (F 0):=by rw [cell_of_row _ _ _ _ _ _ G5.out];rfl
 have f2:u1.frozen? ⟨b5,2,none⟩=false:=frozen_of_row _ _ _ _ _ G5.out
 have st:Sem.run Tryz.prog (store ⟨b5,2,none⟩ (.float .f64 v3)) u1=.ok () (u1.setCell ⟨b5,2,none⟩ (.float .f64 v3)):=run_store_float c2 f2
 simp only [List.take_succ_cons,List.take_zero,List.drop_succ_cons,List.drop_zero]
 repeat still_step
 still_call (F2.out _ HB.out)
 repeat still_step
 refine wpStill_nil ?_
 go_upto_region 3 with fail
 clear e0
 have g5:=heap_setCell_same u1 b5 2 _ _ (.float .f64 v3) G5.out
 simp only [List.setIfInBounds_toArray,List.set_cons_succ,List.set_cons_zero] at g5
 have g4:=(Below.heap_setCell u1 ⟨b5,2,none⟩ (.float .f64 v3) w.heap.size (by simp;omega)).trans G4.out
 have hb:=Owned.below_write HB.out (g:=b5) (i:=2) (by omega) (.float .f64 v3)
 clear st c1 c2 f2 G4 G5 HB
 generalize World.setCell u1 ⟨b5,2,none⟩ (.float .f64 v3)=u2 at g4 g5 hb ⊢
 have G4:=Lib.hid g4
 have G5:=Lib.hid g5
 have HB:=Lib.hid hb
 clear g4 g5 hb
 have c3:u2.cell? ⟨b5,3,none⟩=some (F 0):=by rw [cell_of_row _ _ _ _ _ _ G5.out];rfl
 have f3:u2.frozen? ⟨b5,3,none⟩=false:=frozen_of_row _ _ _ _ _ G5.out
 have st:Sem.run Tryz.prog (store ⟨b5,3,none⟩ (.float .f64 v4)) u2=.ok () (u2.setCell ⟨b5,3,none⟩ (.float .f64 v4)):=run_store_float c3 f3
 go_wp2_with fail
 refine (F3.out _ HB.out).mono ?_
 rintro e w' ⟨rfl,hq⟩
 subst w'
 go_upto_region 4 with fail
 have g5:=heap_setCell_same u2 b5 3 _ _ (.float .f64 v4) G5.out
 simp only [List.setIfInBounds_toArray,List.set_cons_succ,List.set_cons_zero] at g5
 have g4:=(Below.heap_setCell u2 ⟨b5,3,none⟩ (.float .f64 v4) w.heap.size (by simp;omega)).trans G4.out
 have hb:=Owned.below_write HB.out (g:=b5) (i:=3) (by omega) (.float .f64 v4)
 clear st c3 f3 G4 G5 HB
 generalize World.setCell u2 ⟨b5,3,none⟩ (.float .f64 v4)=u3 at g4 g5 hb ⊢
 have G4:=Lib.hid g4
 have G5:=Lib.hid g5
 have HB:=Lib.hid hb
 clear g4 g5 hb
 have c4:u3.cell? ⟨b5,4,none⟩=some (F 0):=by rw [cell_of_row _ _ _ _ _ _ G5.out];rfl
 have f4:u3.frozen? ⟨b5,4,none⟩=false:=frozen_of_row _ _ _ _ _ G5.out
 have st:Sem.run Tryz.prog (store ⟨b5,4,none⟩ (.float .f64 v5)) u3=.ok () (u3.setCell ⟨b5,4,none⟩ (.float .f64 v5)):=run_store_float c4 f4
 go_wp2_with fail
 refine (F4.out _ HB.out).mono ?_
 rintro e w' ⟨rfl,hq⟩
 subst w'
 go_upto_region 5 with fail
 have g5:=heap_setCell_same u3 b5 4 _ _ (.float .f64 v5) G5.out
 simp only [List.setIfInBounds_toArray,List.set_cons_succ,List.set_cons_zero] at g5
 have g4:=(Below.heap_setCell u3 ⟨b5,4,none⟩ (.float .f64 v5) w.heap.size (by simp;omega)).trans G4.out
 have hb:=Owned.below_write HB.out (g:=b5) (i:=4) (by omega) (.float .f64 v5)
 clear st c4 f4 G4 G5 HB
 generalize World.setCell u3 ⟨b5,4,none⟩ (.float .f64 v5)=u4 at g4 g5 hb ⊢
 have G4:=Lib.hid g4
 have G5:=Lib.hid g5
 have HB:=Lib.hid hb
 clear g4 g5 hb
 go_wp2_with fail
 refine (F5.out _ HB.out).mono ?_
 rintro e w' ⟨rfl,hq⟩
 subst w'
 by_cases h5:x5=1
 ·have H5:=Lib.hid h5
  have e5:(x5 == 1)=true:=by simpa using h5
  clear h5
  go_upto_region 6 with fail
  have c5:u4.cell? ⟨b5,5,none⟩=some (I 0):=by rw [cell_of_row _ _ _ _ _ _ G5.out];rfl
  have f5:u4.frozen? ⟨b5,5,none⟩=false:=frozen_of_row _ _ _ _ _ G5.out
  go_wp2_with fail
  refine (F6.out _ HB.out).mono ?_
  rintro e w' ⟨rfl,hq⟩
  subst w'
  go_upto_region 7 with fail
  have g5:=heap_setCell_same u4 b5 5 _ _ (I (20+x6)) G5.out
  simp only [List.setIfInBounds_toArray,List.set_cons_succ,List.set_cons_zero] at g5
  have g4:=(Below.heap_setCell u4 ⟨b5,5,none⟩ (I (20+x6)) w.heap.size (by simp;omega)).trans G4.out
  have hb:=Owned.below_write HB.out (g:=b5) (i:=5) (by omega) (I (20+x6))
  clear c5 f5 G4 G5 HB
  generalize World.setCell u4 ⟨b5,5,none⟩ (I (20+x6))=u5 at g4 g5 hb ⊢
  have G4:=Lib.hid g4
  have G5:=Lib.hid g5
  have HB:=Lib.hid hb
  clear g4 g5 hb
  go_wp2_with fail
  refine (Fz.out _ HB.out).mono ?_
  rintro e w' ⟨rfl,hq⟩
  subst w'
  by_cases hz:xz=2
  ·have HZ:=Lib.hid hz
   have ez:(xz == 2)=true:=by simpa using hz
   clear hz
   go_upto_region 8 with fail
   have c6:u5.cell? ⟨b5,6,none⟩=some (I 0):=by rw [cell_of_row _ _ _ _ _ _ G5.out];rfl
   have f6:u5.frozen? ⟨b5,6,none⟩=false:=frozen_of_row _ _ _ _ _ G5.out
   go_wp2_with fail
   refine (F7.out _ HB.out).mono ?_
   rintro e w' ⟨rfl,hq⟩
   subst w'
   go_upto_region 9 with fail
   have g5:=heap_setCell_same u5 b5 6 _ _ (I (60+x7)) G5.out
   simp only [List.setIfInBounds_toArray,List.set_cons_succ,List.set_cons_zero] at g5
   have g4:=(Below.heap_setCell u5 ⟨b5,6,none⟩ (I (60+x7)) w.heap.size (by simp;omega)).trans G4.out
   have hb:=Owned.below_write HB.out (g:=b5) (i:=6) (by omega) (I (60+x7))
   clear c6 f6 G4 G5 HB
   generalize World.setCell u5 ⟨b5,6,none⟩ (I (60+x7))=u6 at g4 g5 hb ⊢
   have G4:=Lib.hid g4
   have G5:=Lib.hid g5
   have HB:=Lib.hid hb
   clear g4 g5 hb
   have FIN:Hid (R.cells.toArray=#[I x0,F v1,.float .f64 v3,.float .f64 v4,.float .f64 v5,I (20+x6),I (60+x7)]):=Lib.hid (by rw [RES.out];simp only [Det.cells,if_pos H5.out,if_pos HZ.out])
   have LV:Hid (Lies u6 ⟨b5,0,none⟩ #[I x0,F v1,.float .f64 v3,.float .f64 v4,.float .f64 v5,I (20+x6),I (60+x7)].toList):=Lib.hid (Row.lies_of_block G5.out)
   have HG:=Lib.hid (below_setRow HB.out (g:=w.heap.size) (Nat.le_refl _) #[I x0,F v1,.float .f64 v3,.float .f64 v4,.float .f64 v5,I (20+x6),I (60+x7)])
   have HK:=Lib.hid (setRow_heap u6 w.heap.size _ #[I x0,F v1,.float .f64 v3,.float .f64 v4,.float .f64 v5,I (20+x6),I (60+x7)] _ _ G4.out)
   go_wp2_with (first | (refine Row.wpList_load_g 71 _ rfl (by first | rfl | go_simp) ⟨b5,0,none⟩ rfl #[I x0,F v1,.float .f64 v3,.float .f64 v4,.float .f64 v5,I (20+x6),I (60+x7)].toList _ LV.out Tryz.underlying71 rfl infoD ?_) | (refine wpList_store_row rfl 71 _ _ rfl w.heap.size #[I x0,F v1,.float .f64 v3,.float .f64 v4,.float .f64 v5,I (20+x6),I (60+x7)] rfl rfl 71 _ G4.out infoD rfl (by simp [Value.oneCell']) ?_))
   generalize u6.setRow w.heap.size #[I x0,F v1,.float .f64 v3,.float .f64 v4,.float .f64 v5,I (20+x6),I (60+x7)]=uz at HG HK ⊢
   go_wp2_with fail
   (try simp only [Exit.inBlock,Exit.then])
   refine bodyPost_ret (v:=.agg #[I x0,F v1,.float .f64 v3,.float .f64 v4,.float .f64 v5,I (20+x6),I (60+x7)]) ?_ rfl ⟨by rw [FIN.out],HG.out⟩
   exact results_cell_row rfl _ _ w.heap.size 71 _ (0,0) _ rfl HK.out Tryz.underlying71 rfl infoD
  ·have HZ:=Lib.hid hz
   have ez:(xz == 2)=false:=by simpa using hz
   clear hz
   go_upto_region 9 with fail
   have FIN:Hid (R.cells.toArray=#[I x0,F v1,.float .f64 v3,.float .f64 v4,.float .f64 v5,I (20+x6),I 0]):=Lib.hid (by rw [RES.out];simp only [Det.cells,if_pos H5.out,if_neg HZ.out])
   have LV:Hid (Lies u5 ⟨b5,0,none⟩ #[I x0,F v1,.float .f64 v3,.float .f64 v4,.float .f64 v5,I (20+x6),I 0].toList):=Lib.hid (Row.lies_of_block G5.out)
   have HG:=Lib.hid (below_setRow HB.out (g:=w.heap.size) (Nat.le_refl _) #[I x0,F v1,.float .f64 v3,.float .f64 v4,.float .f64 v5,I (20+x6),I 0])
   have HK:=Lib.hid (setRow_heap u5 w.heap.size _ #[I x0,F v1,.float .f64 v3,.float .f64 v4,.float .f64 v5,I (20+x6),I 0] _ _ G4.out)
   go_wp2_with (first | (refine Row.wpList_load_g 71 _ rfl (by first | rfl | go_simp) ⟨b5,0,none⟩ rfl #[I x0,F v1,.float .f64 v3,.float .f64 v4,.float .f64 v5,I (20+x6),I 0].toList _ LV.out Tryz.underlying71 rfl infoD ?_) | (refine wpList_store_row rfl 71 _ _ rfl w.heap.size #[I x0,F v1,.float .f64 v3,.float .f64 v4,.float .f64 v5,I (20+x6),I 0] rfl rfl 71 _ G4.out infoD rfl (by simp [Value.oneCell']) ?_))
   generalize u5.setRow w.heap.size #[I x0,F v1,.float .f64 v3,.float .f64 v4,.float .f64 v5,I (20+x6),I 0]=uz at HG HK ⊢
   go_wp2_with fail
   (try simp only [Exit.inBlock,Exit.then])
   refine bodyPost_ret (v:=.agg #[I x0,F v1,.float .f64 v3,.float .f64 v4,.float .f64 v5,I (20+x6),I 0]) ?_ rfl ⟨by rw [FIN.out],HG.out⟩
   exact results_cell_row rfl _ _ w.heap.size 71 _ (0,0) _ rfl HK.out Tryz.underlying71 rfl infoD
 ·have H5:=Lib.hid h5
  have e5:(x5 == 1)=false:=by simpa using h5
  clear h5
  go_upto_region 7 with fail
  go_wp2_with fail
  refine (Fz.out _ HB.out).mono ?_
  rintro e w' ⟨rfl,hq⟩
  subst w'
  by_cases hz:xz=2
  ·have HZ:=Lib.hid hz
   have ez:(xz == 2)=true:=by simpa using hz
   clear hz
   go_upto_region 8 with fail
   have c6:u4.cell? ⟨b5,6,none⟩=some (I 0):=by rw [cell_of_row _ _ _ _ _ _ G5.out];rfl
   have f6:u4.frozen? ⟨b5,6,none⟩=false:=frozen_of_row _ _ _ _ _ G5.out
   go_wp2_with fail
   refine (F7.out _ HB.out).mono ?_
   rintro e w' ⟨rfl,hq⟩
   subst w'
   go_upto_region 9 with fail
   have g5:=heap_setCell_same u4 b5 6 _ _ (I (60+x7)) G5.out
   simp only [List.setIfInBounds_toArray,List.set_cons_succ,List.set_cons_zero] at g5
   have g4:=(Below.heap_setCell u4 ⟨b5,6,none⟩ (I (60+x7)) w.heap.size (by simp;omega)).trans G4.out
   have hb:=Owned.below_write HB.out (g:=b5) (i:=6) (by omega) (I (60+x7))
   clear c6 f6 G4 G5 HB
   generalize World.setCell u4 ⟨b5,6,none⟩ (I (60+x7))=u5 at g4 g5 hb ⊢
   have G4:=Lib.hid g4
   have G5:=Lib.hid g5
   have HB:=Lib.hid hb
   clear g4 g5 hb
   have FIN:Hid (R.cells.toArray=#[I x0,F v1,.float .f64 v3,.float .f64 v4,.float .f64 v5,I 0,I (60+x7)]):=Lib.hid (by rw [RES.out];simp only [Det.cells,if_neg H5.out,if_pos HZ.out])
   have LV:Hid (Lies u5 ⟨b5,0,none⟩ #[I x0,F v1,.float .f64 v3,.float .f64 v4,.float .f64 v5,I 0,I (60+x7)].toList):=Lib.hid (Row.lies_of_block G5.out)
   have HG:=Lib.hid (below_setRow HB.out (g:=w.heap.size) (Nat.le_refl _) #[I x0,F v1,.float .f64 v3,.float .f64 v4,.float .f64 v5,I 0,I (60+x7)])
   have HK:=Lib.hid (setRow_heap u5 w.heap.size _ #[I x0,F v1,.float .f64 v3,.float .f64 v4,.float .f64 v5,I 0,I (60+x7)] _ _ G4.out)
   go_wp2_with (first | (refine Row.wpList_load_g 71 _ rfl (by first | rfl | go_simp) ⟨b5,0,none⟩ rfl #[I x0,F v1,.float .f64 v3,.float .f64 v4,.float .f64 v5,I 0,I (60+x7)].toList _ LV.out Tryz.underlying71 rfl infoD ?_) | (refine wpList_store_row rfl 71 _ _ rfl w.heap.size #[I x0,F v1,.float .f64 v3,.float .f64 v4,.float .f64 v5,I 0,I (60+x7)] rfl rfl 71 _ G4.out infoD rfl (by simp [Value.oneCell']) ?_))
   generalize u5.setRow w.heap.size #[I x0,F v1,.float .f64 v3,.float .f64 v4,.float .f64 v5,I 0,I (60+x7)]=uz at HG HK ⊢
   go_wp2_with fail
   (try simp only [Exit.inBlock,Exit.then])
   refine bodyPost_ret (v:=.agg #[I x0,F v1,.float .f64 v3,.float .f64 v4,.float .f64 v5,I 0,I (60+x7)]) ?_ rfl ⟨by rw [FIN.out],HG.out⟩
   exact results_cell_row rfl _ _ w.heap.size 71 _ (0,0) _ rfl HK.out Tryz.underlying71 rfl infoD
  ·have HZ:=Lib.hid hz
   have ez:(xz == 2)=false:=by simpa using hz
   clear hz
   go_upto_region 9 with fail
   have FIN:Hid (R.cells.toArray=#[I x0,F v1,.float .f64 v3,.float .f64 v4,.float .f64 v5,I 0,I 0]):=Lib.hid (by rw [RES.out];simp only [Det.cells,if_neg H5.out,if_neg HZ.out])
   have LV:Hid (Lies u4 ⟨b5,0,none⟩ #[I x0,F v1,.float .f64 v3,.float .f64 v4,.float .f64 v5,I 0,I 0].toList):=Lib.hid (Row.lies_of_block G5.out)
   have HG:=Lib.hid (below_setRow HB.out (g:=w.heap.size) (Nat.le_refl _) #[I x0,F v1,.float .f64 v3,.float .f64 v4,.float .f64 v5,I 0,I 0])
   have HK:=Lib.hid (setRow_heap u4 w.heap.size _ #[I x0,F v1,.float .f64 v3,.float .f64 v4,.float .f64 v5,I 0,I 0] _ _ G4.out)
   go_wp2_with (first | (refine Row.wpList_load_g 71 _ rfl (by first | rfl | go_simp) ⟨b5,0,none⟩ rfl #[I x0,F v1,.float .f64 v3,.float .f64 v4,.float .f64 v5,I 0,I 0].toList _ LV.out Tryz.underlying71 rfl infoD ?_) | (refine wpList_store_row rfl 71 _ _ rfl w.heap.size #[I x0,F v1,.float .f64 v3,.float .f64 v4,.float .f64 v5,I 0,I 0] rfl rfl 71 _ G4.out infoD rfl (by simp [Value.oneCell']) ?_))
   generalize u4.setRow w.heap.size #[I x0,F v1,.float .f64 v3,.float .f64 v4,.float .f64 v5,I 0,I 0]=uz at HG HK ⊢
   go_wp2_with fail
   (try simp only [Exit.inBlock,Exit.then])
   refine bodyPost_ret (v:=.agg #[I x0,F v1,.float .f64 v3,.float .f64 v4,.float .f64 v5,I 0,I 0]) ?_ rfl ⟨by rw [FIN.out],HG.out⟩
   exact results_cell_row rfl _ _ w.heap.size 71 _ (0,0) _ rfl HK.out Tryz.underlying71 rfl infoD
end GenD
namespace PlaceM
open Go Tab
structure Spt where
 g:Nat
 k:Nat
 i:Nat
 p:Int
 deriving DecidableEq,Inhabited
structure Few (T:Tab):Prop where
 groups:T.groups.length≤1000
 rows:∀ g ∈ T.groups,g.1.length≤1000∧g.2.length≤1000
def Spt.cells (x:Spt):List Value:=[I x.g,I x.k,I x.i,I x.p]
theorem Spt.one (x:Spt):x.cells.toArray.all (·.oneCell')=true:=by simp [Spt.cells,Value.oneCell']
def one (g k i:Nat) (p:Int):List Spt:=if 0≤p∧p < 8 then [⟨g,k,i,p⟩] else []
def rowS (g k:Nat):Nat→List Int→List Spt
 | _,[]=>[]
 | i,p :: l=>one g k i p++rowS g k (i+1) l
def grpS (g:Nat) (x:List Int × List Int):List Spt:=rowS g 0 0 x.1++rowS g 1 0 x.2
def allS:Nat→List (List Int × List Int)→List Spt
 | _,[]=>[]
 | g,x :: l=>grpS g x++allS (g+1) l
def spots (T:Tab):List Spt:=allS 0 T.groups
theorem rowS_append (g k:Nat):∀ (i:Nat) (l m:List Int),rowS g k i (l++m)=rowS g k i l++rowS g k (i+l.length) m
 | i,[],m=>rfl
 | i,p :: l,m=>by
  rw [List.cons_append,rowS,rowS,rowS_append g k (i+1) l m,List.append_assoc,List.length_cons,show i+1+l.length=i+(l.length+1) by omega]
theorem allS_append:∀ (g:Nat) (l m:List (List Int × List Int)),allS g (l++m)=allS g l++allS (g+l.length) m
 | g,[],m=>rfl
 | g,x :: l,m=>by
  rw [List.cons_append,allS,allS,allS_append (g+1) l m,List.append_assoc,List.length_cons,show g+1+l.length=g+(l.length+1) by omega]
theorem take_succ {α:Type} {l:List α} {k:Nat} {v:α} (h:l[k]?=some v):l.take (k+1)=l.take k++[v]:=by
 obtain ⟨hk,rfl⟩:=List.getElem?_eq_some_iff.1 h
 exact List.take_succ_eq_append_getElem hk
theorem row_step {g k i:Nat} {l:List Int} {p:Int} (h:l[i]?=some p):rowS g k 0 (l.take (i+1))=rowS g k 0 (l.take i)++one g k i p:=by
 have hi:i < l.length:=(List.getElem?_eq_some_iff.1 h).1
 rw [take_succ h,rowS_append,List.length_take,Nat.min_eq_left (by omega),Nat.zero_add]
 simp [rowS]
theorem row_hit {g k i:Nat} {l:List Int} {p:Int} (h:l[i]?=some p) (h0:0≤p) (h8:p < 8):rowS g k 0 (l.take (i+1))=rowS g k 0 (l.take i)++[⟨g,k,i,p⟩]:=by
 rw [row_step h,one,if_pos ⟨h0,h8⟩]
theorem row_miss {g k i:Nat} {l:List Int} {p:Int} (h:l[i]?=some p) (h0:¬ (0≤p∧p < 8)):rowS g k 0 (l.take (i+1))=rowS g k 0 (l.take i):=by
 rw [row_step h,one,if_neg h0,List.append_nil]
theorem all_step {g:Nat} {l:List (List Int × List Int)} {x:List Int × List Int} (h:l[g]?=some x):allS 0 (l.take (g+1))=allS 0 (l.take g)++(rowS g 0 0 x.1++rowS g 1 0 x.2):=by
 have hi:g < l.length:=(List.getElem?_eq_some_iff.1 h).1
 rw [take_succ h,allS_append,List.length_take,Nat.min_eq_left (by omega),Nat.zero_add]
 simp [allS,grpS]
theorem one_len (g k i:Nat) (p:Int):(one g k i p).length≤1:=by unfold one;split <;> simp
theorem rowS_len (g k:Nat):∀ (i:Nat) (l:List Int),(rowS g k i l).length≤l.length
 | i,[]=>Nat.le_refl _
 | i,p :: l=>by
  rw [rowS,List.length_append,List.length_cons]
  have:=one_len g k i p
  have:=rowS_len g k (i+1) l
  omega
theorem allS_len:∀ (g:Nat) (l:List (List Int × List Int)),(∀ x ∈ l,x.1.length≤1000∧x.2.length≤1000)→(allS g l).length≤l.length*2000
 | g,[],_=>by simp [allS]
 | g,x :: l,h=>by
  rw [allS,List.length_append,List.length_cons,Nat.add_mul]
  have h1:=h x (by simp)
  have h2:=allS_len (g+1) l (fun y hy=>h y (by simp [hy]))
  have h3:=rowS_len g 0 0 x.1
  have h4:=rowS_len g 1 0 x.2
  rw [grpS,List.length_append]
  omega
theorem small_len {g:Nat} {l:List (List Int × List Int)} (hl:l.length≤1000) (h:∀ x ∈ l,x.1.length≤1000∧x.2.length≤1000):(allS g l).length≤2000000:=by
 have:=allS_len g l h
 omega
def find (p:Int) (l:List Spt):Option Spt:=l.find? (fun x=>x.p == p)
theorem find_none {p:Int} {l:List Spt} (h:∀ x ∈ l,x.p ≠ p):find p l=none:=by
 unfold find
 rw [List.find?_eq_none]
 intro x hx
 simpa using h x hx
def where_ (T:Tab) (p:Int):Option Spt:=find p (spots T)
def beside (T:Tab) (p q:Int):Bool:=match where_ T p,where_ T q with
 | some a,some b=>a.g == b.g && a.k != b.k
 | _,_=>false
end PlaceM
namespace Spots
open Go.ChangeShapes Go.WideShapes Go.ChangeAt Go.RowKit
open Tab Clone PlaceM Gath
open May (ret_bool chain infoP infoG infoD infoR infoB infoT St)
theorem info4:(Tryz.prog.info? 123).map (fun i=>(i.zero,i.size,i.bytes))=some (some (.agg #[I 0,I 0,I 0,I 0]),4,32):=by kernel_rfl
abbrev OwnsS (B:Nat) (w:World) (v:Value) (l:List Spt):Prop:=Owns Spt.cells 4 B w 123 v l
def Typed (w:World) (s:Sl):Prop:=∀ x,s.a=some x→∃ cs:Array Value,w.heap[x.block]?=some (.cells cs 123 (0,0))
theorem Typed.below {w w':World} {s:Sl} (h:Typed w s) (hb:Below w.heap.size w w'):Typed w' s:=fun x hx=>by
 obtain ⟨cs,hc⟩:=h x hx
 exact ⟨cs,(hb.block _ (Array.getElem?_eq_some_iff.1 hc).1).trans hc⟩
theorem own_row_t {B:Nat} {w:World} {v:Value} {l:List Spt} (h:OwnsS B w v l):∃ s:Sl,v=s.val l.length∧RowOf 4 Spt.cells w s l∧Typed w s:=by
 obtain ⟨s,hs,hr⟩:=Owns.row h (enc:=Spt.cells) (fun _=>rfl)
 refine ⟨s,hs,hr,fun x hx=>?_⟩
 rcases h.2 with ⟨e,_⟩ | ⟨g,cap,cur,e,h1,h2,_⟩
 ·rw [hs] at e
  simp [Sl.val,hx] at e
 ·rw [hs] at e
  simp [Sl.val,hx] at e
  obtain ⟨rfl,_⟩:=e
  exact ⟨cur,h2⟩
theorem spots_typed (T:Tab) (h:Hd) (w:World) (ht:IsTab w h T) (sm:Few T) :
  Calls Tryz.prog 99 #[.agg (T.cells h).toArray] w fun e w'=>∃ s:Sl,e=.returned (s.val (spots T).length)∧RowOf 4 Spt.cells w' s (spots T)∧Typed w' s∧Below w.heap.size w w':=by
 have C:=Lib.hid (cells_ok ht)
 generalize (T.cells h).toArray=cs at C ⊢
 obtain ⟨gs,hgd,hgr⟩:=ht.groups
 have Hgr:=Lib.hid hgr
 have Hgd:=Lib.hid hgd
 have SM:=Lib.hid sm
 have hsz:=C.out.size
 have S0:=Lib.hid (St.box (cs:=cs) ht)
 have HZ:Hid ((w.alloc (.cells cs 33)).heap.size=w.heap.size+1):=Lib.hid (by simp)
 have Hgl:=Lib.hid (show T.groups.length=gs.length by rw [← hgd,List.length_map])
 have Kg:=hgr.1.len
 unfold maxLen at Kg
 obtain ⟨i0,hi,hz0,hz1,hz2⟩:=info_parts info4
 have LEN:Hid (∀ n,(allS 0 (T.groups.take n)).length≤2000000):=Lib.hid (fun n=>small_len (by have:=sm.groups;rw [List.length_take];omega) (fun x hx=>sm.rows x (List.mem_of_mem_take hx)))
 clear ht hgr hgd sm
 go_enter Tryz.func99,Tryz.ntmps99
 go_upto_region 1 with fail
 generalize w.alloc (.cells cs 33)=w1 at S0 HZ ⊢
 clear hsz
 have q104:=S0.out.cell C.out.g
 rw [Hgl.out] at q104
 have Q104:=Lib.hid q104
 clear q104
 have LIFT:Hid (∀ W,Below w1.heap.size w1 W→∀ (z:Addr) (c:Value),w1.cell? z=some c→W.cell? z=some c):=Lib.hid (fun W hb z c hc=>(hb.cell (World.block_lt_of_cell? w1 _ hc)).trans hc)
 go_wp2_with fail
 go_loopw [3,4] (fun v g wr=>∃ q:Nat,q≤gs.length∧g=.int .i64 q∧OwnsS w1.heap.size wr v (allS 0 (T.groups.take q))∧Below w1.heap.size w1 wr) (fun _ g _=>gs.length - (intOf g).toNat)
 case atStart=>exact ⟨0,by omega,rfl,Owns.nil,Below.refl _ _⟩
 case round =>
  obtain ⟨q,hq,rfl,hown,hbel⟩:=hrel
  have HO:=Lib.hid hown
  have HB:=Lib.hid hbel
  clear hown hbel
  have p104:=LIFT.out _ HB.out _ _ Q104.out
  by_cases hlt:q < gs.length
  ·have hv:=List.getElem?_eq_getElem hlt
   generalize gs[q]=u at hv
   obtain ⟨x,hx,hc⟩:=(Hgr.out.1.below S0.out.bel).at hv
   have hok:=(Hgr.out.2 u (List.mem_of_getElem? hv)).below S0.out.bel
   have HD:Hid (T.groups[q]?=some u.data):=Lib.hid (by rw [← Hgd.out,List.getElem?_map,hv];rfl)
   have hsm:=SM.out.rows u.data (by rw [← Hgd.out];exact List.mem_map.2 ⟨u,List.mem_of_getElem? hv,rfl⟩)
   obtain ⟨l0,l1,⟨a0,cap0⟩,⟨a1,cap1⟩⟩:=u
   have hl0:l0.length≤1000:=hsm.1
   have hl1:l1.length≤1000:=hsm.2
   have K0:=hok.1.len
   have K1:=hok.2.len
   unfold maxLen at K0 K1
   have H0:=Lib.hid hok.1
   have H1:=Lib.hid hok.2
   have QQ:Hid (w1.cell? ⟨w.heap.size,104,none⟩=some (.slice (some x) gs.length h.g.cap)):=by have:=Q104.out;simp only [Sl.val,hx] at this;exact this
   have c0:=hc 0 _ rfl
   have c1:=hc 1 _ rfl
   rw [add_zero] at c0
   rw [add_one] at c1
   have HC0:=Lib.hid c0
   have HC1:=Lib.hid c1
   clear hv hc hok hx c0 c1 hsm
   go_wp2_with fail
   clear p104
   go_loopw [3,5] (fun v k wk=>∃ r:Nat,r≤2∧k=.int .i64 r∧OwnsS w1.heap.size wk v (allS 0 (T.groups.take q)++((if 0 < r then rowS q 0 0 l0 else [])++(if 1 < r then rowS q 1 0 l1 else [])))∧Below w1.heap.size w1 wk) (fun _ k _=>2 - (intOf k).toNat)
   case atStart=>exact ⟨0,by omega,rfl,by simpa using HO.out,HB.out⟩
   case round =>
    obtain ⟨r,hr,rfl,hown,hbel⟩:=hrel
    have HOr:=Lib.hid hown
    have HBr:=Lib.hid hbel
    clear hown hbel
    have hr2:r=0∨r=1∨r=2:=by omega
    rcases hr2 with rfl | rfl | rfl
    ·rw [show ((0:Nat):Int)=(0:Int) from rfl]
     have HO1:Hid (OwnsS w1.heap.size wr u3 (allS 0 (T.groups.take q))):=Lib.hid (by simpa using HOr.out)
     clear HOr
     have LN:Hid ((allS 0 (T.groups.take q)).length≤2002000):=Lib.hid (by have:=LEN.out q;have h2:=rowS_len q 0 0 l0;(try rw [List.length_append]);omega)
     go_wp2_with fail
     go_loopw [3,6] (fun v i wj=>∃ j:Nat,j≤l0.length∧i=.int .i64 j∧OwnsS w1.heap.size wj v (allS 0 (T.groups.take q)++rowS q 0 0 (l0.take j))∧Below w1.heap.size w1 wj) (fun _ i _=>l0.length - (intOf i).toNat)
     case atStart=>exact ⟨0,by omega,rfl,by simpa [rowS] using HO1.out,HBr.out⟩
     case round =>
      obtain ⟨j,hj,rfl,hown,hbel⟩:=hrel
      have HOj:=Lib.hid hown
      have HBj:=Lib.hid hbel
      clear hown hbel
      have p104:=LIFT.out _ HBj.out _ _ QQ.out
      by_cases hjl:j < l0.length
      ·have hv:=List.getElem?_eq_getElem hjl
       generalize l0[j]=p at hv
       obtain ⟨y,hy,hp⟩:=IntRow.at (H0.out.below HBj.out) hv
       obtain rfl:a0=some y:=hy
       have p0:wr.cell? _=some (.slice (some y) l0.length cap0):=LIFT.out _ HBj.out _ _ HC0.out
       have HV:=Lib.hid hv
       clear hv
       have hsz:=HBj.out.size
       by_cases hp8:0≤p∧p < 8
       ·obtain ⟨hp0,hp1⟩:=hp8
        have HS:Hid (allS 0 (T.groups.take q)++rowS q 0 0 (l0.take (j+1))=(allS 0 (T.groups.take q)++rowS q 0 0 (l0.take j))++[⟨q,0,j,p⟩]):=Lib.hid (by rw [row_hit HV.out hp0 hp1,← List.append_assoc])
        have hlen:(allS 0 (T.groups.take q)++rowS q 0 0 (l0.take j)).length≤2003000:=by have:=LN.out;have h2:=rowS_len q 0 0 (l0.take j);rw [List.length_append];rw [List.length_take] at h2;omega
        have hown:=HOj.out
        generalize allS 0 (T.groups.take q)++rowS q 0 0 (l0.take j)=P1 at hown hlen HS
        have hown2:wr.ownsRow w1.heap.size 123 4 u3 P1.length (P1.flatMap Spt.cells):=hown
        clear hown HOj
        go_wp2_with (at_builtin;refine wpList_append_own _ rfl _ _ 162 rfl w1.heap.size 123 i0 (.agg #[I 0,I 0,I 0,I 0]) 4 32 Tryz.underlying162 hi hz0 hz1 hz2 rfl (by decide) _ _ _ rfl (hown2.alloc _) ⟨wr.heap.size,0,none⟩ 1 1 (Spt.cells ⟨q,0,j,p⟩) rfl rfl ?c1 ?c2 ?c3 ?c4 ?c5 ?_)
        case c1 =>
         intro m u hm
         match m,hm with
         | 0,hm | 1,hm | 2,hm | 3,hm=>simp [Spt.cells] at hm;subst hm;simp [Addr.add]
        case c2=>intro u hu;simp [Spt.cells] at hu;rcases hu with rfl | rfl | rfl | rfl <;> rfl
        case c3=>unfold maxLen;omega
        case c4=>omega
        case c5=>simp;omega
        intro v' w2 hown' hgrow hnil'
        have HB2:Hid (Below w1.heap.size w1 w2):=Lib.hid ((HBj.out.alloc hsz _).grown hgrow (by simp;omega) fun m hm=>(show OwnsS w1.heap.size wr u3 P1 from hown2).blk m hm)
        have HO2:Hid (OwnsS w1.heap.size w2 v' (P1++[⟨q,0,j,p⟩])):=Lib.hid (Owns.snoc hown')
        clear hown' hgrow hown2 hnil'
        go_wp2
        go_roundw
        case rel=>exact ⟨j+1,by omega,by go_num,by rw [HS.out];exact HO2.out,HB2.out⟩
        case measure=>simp [intOf];omega
       ·have HS:Hid (allS 0 (T.groups.take q)++rowS q 0 0 (l0.take (j+1))=allS 0 (T.groups.take q)++rowS q 0 0 (l0.take j)):=Lib.hid (by rw [row_miss HV.out hp8])
        by_cases hp0:0≤p
        ·have hp1:¬ p < 8:=fun h=>hp8 ⟨hp0,h⟩
         clear hp8
         go_wp2
         go_roundw
         case rel=>exact ⟨j+1,by omega,by go_num,by rw [HS.out];exact HOj.out,HBj.out⟩
         case measure=>simp [intOf];omega
        ·clear hp8
         go_wp2
         go_roundw
         case rel=>exact ⟨j+1,by omega,by go_num,by rw [HS.out];exact HOj.out,HBj.out⟩
         case measure=>simp [intOf];omega
      ·have p0:wr.cell? _=some (.slice a0 l0.length cap0):=LIFT.out _ HBj.out _ _ HC0.out
       have HE:Hid (rowS q 0 0 (l0.take j)=rowS q 0 0 l0):=Lib.hid (by rw [List.take_of_length_le (by omega)])
       go_wp2
       go_roundw
       case rel=>exact ⟨0+1,by omega,by go_num,by have:=HOj.out;rw [HE.out] at this;simpa using this,HBj.out⟩
       case measure=>simp [intOf]
    ·rw [show ((1:Nat):Int)=(1:Int) from rfl]
     have HO1:Hid (OwnsS w1.heap.size wr u3 (allS 0 (T.groups.take q)++rowS q 0 0 l0)):=Lib.hid (by simpa using HOr.out)
     clear HOr
     have LN:Hid ((allS 0 (T.groups.take q)++rowS q 0 0 l0).length≤2002000):=Lib.hid (by have:=LEN.out q;have h2:=rowS_len q 0 0 l0;(try rw [List.length_append]);omega)
     go_wp2_with fail
     go_loopw [3,6] (fun v i wj=>∃ j:Nat,j≤l1.length∧i=.int .i64 j∧OwnsS w1.heap.size wj v (allS 0 (T.groups.take q)++rowS q 0 0 l0++rowS q 1 0 (l1.take j))∧Below w1.heap.size w1 wj) (fun _ i _=>l1.length - (intOf i).toNat)
     case atStart=>exact ⟨0,by omega,rfl,by simpa [rowS] using HO1.out,HBr.out⟩
     case round =>
      obtain ⟨j,hj,rfl,hown,hbel⟩:=hrel
      have HOj:=Lib.hid hown
      have HBj:=Lib.hid hbel
      clear hown hbel
      have p104:=LIFT.out _ HBj.out _ _ QQ.out
      by_cases hjl:j < l1.length
      ·have hv:=List.getElem?_eq_getElem hjl
       generalize l1[j]=p at hv
       obtain ⟨y,hy,hp⟩:=IntRow.at (H1.out.below HBj.out) hv
       obtain rfl:a1=some y:=hy
       have p0:wr.cell? _=some (.slice (some y) l1.length cap1):=LIFT.out _ HBj.out _ _ HC1.out
       have HV:=Lib.hid hv
       clear hv
       have hsz:=HBj.out.size
       by_cases hp8:0≤p∧p < 8
       ·obtain ⟨hp0,hp1⟩:=hp8
        have HS:Hid (allS 0 (T.groups.take q)++rowS q 0 0 l0++rowS q 1 0 (l1.take (j+1))=(allS 0 (T.groups.take q)++rowS q 0 0 l0++rowS q 1 0 (l1.take j))++[⟨q,1,j,p⟩]):=Lib.hid (by rw [row_hit HV.out hp0 hp1,← List.append_assoc])
        have hlen:(allS 0 (T.groups.take q)++rowS q 0 0 l0++rowS q 1 0 (l1.take j)).length≤2003000:=by have:=LN.out;have h2:=rowS_len q 1 0 (l1.take j);rw [List.length_append];rw [List.length_take] at h2;omega
        have hown:=HOj.out
        generalize allS 0 (T.groups.take q)++rowS q 0 0 l0++rowS q 1 0 (l1.take j)=P1 at hown hlen HS
        have hown2:wr.ownsRow w1.heap.size 123 4 u3 P1.length (P1.flatMap Spt.cells):=hown
        clear hown HOj
        go_wp2_with (at_builtin;refine wpList_append_own _ rfl _ _ 162 rfl w1.heap.size 123 i0 (.agg #[I 0,I 0,I 0,I 0]) 4 32 Tryz.underlying162 hi hz0 hz1 hz2 rfl (by decide) _ _ _ rfl (hown2.alloc _) ⟨wr.heap.size,0,none⟩ 1 1 (Spt.cells ⟨q,1,j,p⟩) rfl rfl ?c1 ?c2 ?c3 ?c4 ?c5 ?_)
        case c1 =>
         intro m u hm
         match m,hm with
         | 0,hm | 1,hm | 2,hm | 3,hm=>simp [Spt.cells] at hm;subst hm;simp [Addr.add]
        case c2=>intro u hu;simp [Spt.cells] at hu;rcases hu with rfl | rfl | rfl | rfl <;> rfl
        case c3=>unfold maxLen;omega
        case c4=>omega
        case c5=>simp;omega
        intro v' w2 hown' hgrow hnil'
        have HB2:Hid (Below w1.heap.size w1 w2):=Lib.hid ((HBj.out.alloc hsz _).grown hgrow (by simp;omega) fun m hm=>(show OwnsS w1.heap.size wr u3 P1 from hown2).blk m hm)
        have HO2:Hid (OwnsS w1.heap.size w2 v' (P1++[⟨q,1,j,p⟩])):=Lib.hid (Owns.snoc hown')
        clear hown' hgrow hown2 hnil'
        go_wp2
        go_roundw
        case rel=>exact ⟨j+1,by omega,by go_num,by rw [HS.out];exact HO2.out,HB2.out⟩
        case measure=>simp [intOf];omega
       ·have HS:Hid (allS 0 (T.groups.take q)++rowS q 0 0 l0++rowS q 1 0 (l1.take (j+1))=allS 0 (T.groups.take q)++rowS q 0 0 l0++rowS q 1 0 (l1.take j)):=Lib.hid (by rw [row_miss HV.out hp8])
        by_cases hp0:0≤p
        ·have hp1:¬ p < 8:=fun h=>hp8 ⟨hp0,h⟩
         clear hp8
         go_wp2
         go_roundw
         case rel=>exact ⟨j+1,by omega,by go_num,by rw [HS.out];exact HOj.out,HBj.out⟩
         case measure=>simp [intOf];omega
        ·clear hp8
         go_wp2
         go_roundw
         case rel=>exact ⟨j+1,by omega,by go_num,by rw [HS.out];exact HOj.out,HBj.out⟩
         case measure=>simp [intOf];omega
      ·have p0:wr.cell? _=some (.slice a1 l1.length cap1):=LIFT.out _ HBj.out _ _ HC1.out
       have HE:Hid (rowS q 1 0 (l1.take j)=rowS q 1 0 l1):=Lib.hid (by rw [List.take_of_length_le (by omega)])
       go_wp2
       go_roundw
       case rel=>exact ⟨1+1,by omega,by go_num,by have:=HOj.out;rw [HE.out] at this;simpa using this,HBj.out⟩
       case measure=>simp [intOf]
    ·have HN:Hid (allS 0 (T.groups.take (q+1))=allS 0 (T.groups.take q)++(rowS q 0 0 l0++rowS q 1 0 l1)):=Lib.hid (all_step HD.out)
     go_wp2
     go_roundw
     case rel=>exact ⟨q+1,by omega,by go_num,by rw [HN.out];simpa using HOr.out,HBr.out⟩
     case measure=>simp [intOf];omega
  ·have HE:Hid (allS 0 (T.groups.take q)=spots T):=Lib.hid (by rw [List.take_of_length_le (by rw [Hgl.out];omega)];rfl)
   obtain ⟨s,hs,hrow,hty⟩:=own_row_t HO.out
   rw [HE.out] at hs hrow
   have HR:=Lib.hid hrow
   have HT:=Lib.hid hty
   have HF:Hid (Below w.heap.size w wr):=Lib.hid (S0.out.bel.trans (HB.out.mono S0.out.bel.size))
   clear hrow hty HE
   subst hs
   go_wp2
   go_ret
   exact ⟨s,rfl,HR.out,HT.out,HF.out⟩
theorem spots_any (T:Tab) (h:Hd) (w:World) (ht:IsTab w h T) (sm:Few T) :
  Calls Tryz.prog 99 #[.agg (T.cells h).toArray] w fun e w'=>∃ s:Sl,e=.returned (s.val (spots T).length)∧RowOf 4 Spt.cells w' s (spots T)∧Below w.heap.size w w':=by
 refine (spots_typed T h w ht sm).mono ?_
 rintro e w' ⟨s,h1,h2,_,h3⟩
 exact ⟨s,h1,h2,h3⟩
end Spots
namespace Where
open Go.ChangeShapes Go.WideShapes Go.ChangeAt Go.RowKit
open Tab Clone PlaceM
open May (ret_bool chain infoP infoG infoD infoR infoB infoT St)
open Same (below_setRow)
theorem infoS:(Tryz.prog.info? 123).map (·.size)=some 4:=by kernel_rfl
theorem infoZ:(Tryz.prog.info? 123).map (fun i=>(i.zero,i.size))=some (some (.agg #[I 0,I 0,I 0,I 0]),4):=by kernel_rfl
theorem results_row_tmp {P:Program} {fn:Func} {p u:Tmp} {ty:TypeId} (h:fn.results=#[.cell p ty,.tmp u]) (tmps:Array Value) (w:World) (g:Nat) (t:TypeId) (cs:Array Value) (fr:Nat × Nat) (d:TypeDesc)
  (hp:tmps.getD p undef=.pointer (some ⟨g,0,none⟩)) (hg:w.heap[g]?=some (.cells cs t fr))
  (hu:P.underlying ty=some d) (hd:(match d with | .struct _ | .array _ _=>true | _=>false)=true) (hi:(P.info? ty).map (·.size)=some cs.size) :
  (results fn tmps).run P w=.ok (.tuple #[.agg cs,tmps.getD u undef]) w:=by
 rw [results_cell_tmp h,hp]
 simp [asAddr,run_loadVar_row w g t ty cs fr d hg hu hd hi]
def oCells:Option Spt→List Value
 | some x=>x.cells
 | none=>[I 0,I 0,I 0,I 0]
theorem find_some {p:Int} {l:List Spt} {j:Nat} {x:Spt} (h:∀ y ∈ l.take j,y.p ≠ p) (hx:l[j]?=some x) (hp:x.p=p):find p l=some x:=by
 have hj:j < l.length:=(List.getElem?_eq_some_iff.1 hx).1
 have e:l=l.take j++x :: l.drop (j+1):=by
  have h2:l.drop j=x :: l.drop (j+1):=by
   rw [List.drop_eq_getElem_cons hj];congr 1;exact (List.getElem?_eq_some_iff.1 hx).2
  rw [← h2,List.take_append_drop]
 have h1:=find_none h
 unfold find at h1 ⊢
 rw [e,List.find?_append,h1]
 simp [hp]
theorem where_any (T:Tab) (h:Hd) (p:Int) (w:World) (ht:IsTab w h T) (sm:Few T) :
  Calls Tryz.prog 69 #[.agg (T.cells h).toArray,.int .i64 p] w fun e w'=>e=.returned (.tuple #[.agg (oCells (where_ T p)).toArray,.bool (where_ T p).isSome])∧Below w.heap.size w w':=by
 have hsz:=(cells_ok ht).size
 have IA:Hid ((Tryz.prog.info? 33).map (·.size)=some (T.cells h).length):=Lib.hid (by rw [List.size_toArray] at hsz;rw [hsz];exact infoT)
 have SPC:Hid (∀ W,Below w.heap.size w W→Calls Tryz.prog 99 #[.agg (T.cells h).toArray] W fun e w'=>∃ s:Sl,e=.returned (s.val (spots T).length)∧RowOf 4 Spt.cells w' s (spots T)∧Below W.heap.size W w'):=Lib.hid (fun W hb=>Spots.spots_any T h W (ht.below hb) sm)
 have A0:Hid (Below w.heap.size w ((w.alloc (.cells (T.cells h).toArray 33)).alloc (.cells #[I 0,I 0,I 0,I 0] 123))):=Lib.hid (((Below.refl _ _).alloc (Nat.le_refl _) _).alloc (by simp) _)
 have A1:Hid (Lies ((w.alloc (.cells (T.cells h).toArray 33)).alloc (.cells #[I 0,I 0,I 0,I 0] 123)) ⟨w.heap.size,0,none⟩ (T.cells h)):=Lib.hid (Row.lies_of_block (heap_alloc2_old w _ _))
 have A2:Hid (((w.alloc (.cells (T.cells h).toArray 33)).alloc (.cells #[I 0,I 0,I 0,I 0] 123)).heap[w.heap.size+1]?=some (.cells #[I 0,I 0,I 0,I 0] 123 (0,0))):=Lib.hid (heap_alloc2_new w _ _)
 have hz:=(zero_of_info infoZ).1
 have W0:Hid (where_ T p=find p (spots T)):=Lib.hid rfl
 generalize where_ T p=o at W0 ⊢
 clear ht sm
 generalize T.cells h=c at *
 go_enter Tryz.func69,Tryz.ntmps69
 go_upto_region 1 with fail
 generalize ((w.alloc (.cells c.toArray 33)).alloc (.cells #[I 0,I 0,I 0,I 0] 123))=u at A0 A1 A2 ⊢
 clear hsz hz
 go_wp2_with (refine Row.wpList_load_g 33 _ rfl (by first | rfl | go_simp) ⟨w.heap.size,0,none⟩ rfl c _ A1.out Tryz.underlying33 rfl IA.out ?_)
 refine (SPC.out _ A0.out).mono ?_
 rintro e u1 ⟨⟨sa,scap⟩,rfl,hrow,hb⟩
 rw [show (Sl.val ⟨sa,scap⟩ (spots T).length)=.slice sa (spots T).length scap from rfl]
 have B0:Hid (Below w.heap.size w u1):=Lib.hid (A0.out.trans (hb.mono A0.out.size))
 have B2:Hid (u1.heap[w.heap.size+1]?=some (.cells #[I 0,I 0,I 0,I 0] 123 (0,0))):=Lib.hid ((hb.block _ (Array.getElem?_eq_some_iff.1 A2.out).1).trans A2.out)
 have HR:=Lib.hid hrow
 have K:=hrow.len
 unfold maxLen at K
 clear hrow hb A0 A1 A2 SPC IA
 generalize spots T=S at HR K W0 ⊢
 go_wp2_with fail
 go_loopw [7] (fun i wr=>∃ j:Nat,j≤S.length∧i=.int .i64 j∧(∀ x ∈ S.take j,x.p ≠ p)∧wr=u1) (fun i _=>S.length - (intOf i).toNat)
 case atStart=>exact ⟨0,by omega,rfl,(fun x hx=>by simp at hx),rfl⟩
 case round =>
  obtain ⟨j,hj,rfl,hall,rfl⟩:=hrel
  have Hall:=Lib.hid hall
  clear hall
  by_cases hlt:j < S.length
  ·have hv:=List.getElem?_eq_getElem hlt
   generalize S[j]=x at hv
   obtain ⟨y,hy,hc⟩:=HR.out.at hv
   obtain rfl:sa=some y:=hy
   have HV:=Lib.hid hv
   have HC:=Lib.hid hc
   have c3:=hc 3 _ rfl
   have c3':wr.cell? ⟨(y.add (j*4)).block,(y.add (j*4)).off+3,none⟩=some (I x.p):=by simpa [Addr.add] using c3
   clear hv hc c3
   by_cases hp:x.p=p
   ·have HF:Hid (o=some x):=Lib.hid (by rw [W0.out];exact find_some Hall.out HV.out hp)
    have hb:(x.p == p)=true:=by simpa using hp
    have HG:=Lib.hid (below_setRow B0.out (g:=w.heap.size+1) (by omega) x.cells.toArray)
    have HK:=Lib.hid (setRow_heap wr (w.heap.size+1) _ x.cells.toArray _ _ B2.out)
    clear hp
    go_wp2_with (first | (refine Row.wpList_load_g 123 _ rfl (by first | rfl | go_simp) (y.add (j*4)) rfl x.cells _ HC.out Tryz.underlying123 rfl infoS ?_) | (refine wpList_store_row rfl 123 _ _ rfl (w.heap.size+1) x.cells.toArray rfl rfl 123 _ B2.out infoS rfl (Spt.one _) ?_))
    generalize wr.setRow (w.heap.size+1) x.cells.toArray=w5 at HG HK ⊢
    go_wp2_with fail
    (try simp only [Exit.inBlock,Exit.then])
    refine bodyPost_ret (v:=.tuple #[.agg x.cells.toArray,.bool true]) ?_ rfl ⟨?_,HG.out⟩
    ·exact results_row_tmp (fn:=Tryz.f69) (p:=4) (u:=5) (ty:=123) rfl _ _ (w.heap.size+1) 123 _ (0,0) _ rfl HK.out Tryz.underlying123 rfl infoS
    ·rw [HF.out];rfl
   ·have HN:Hid (∀ y ∈ S.take (j+1),y.p ≠ p):=Lib.hid (by
     intro y hy
     rw [take_succ HV.out] at hy
     rcases List.mem_append.1 hy with hy | hy
     ·exact Hall.out y hy
     ·obtain rfl:y=x:=by simpa using hy
      exact hp)
    have hb:(x.p == p)=false:=by simpa using hp
    clear hp
    go_wp2
    go_roundw
    case rel=>exact ⟨j+1,by omega,by go_num,HN.out,trivial⟩
    case measure=>simp [intOf];omega
  ·have HF:Hid (o=none):=Lib.hid (by
    rw [W0.out];refine find_none ?_
    have:=Hall.out
    rwa [List.take_of_length_le (by omega)] at this)
   have HG:=Lib.hid (below_setRow B0.out (g:=w.heap.size+1) (by omega) #[I 0,I 0,I 0,I 0])
   have HK:=Lib.hid (setRow_heap wr (w.heap.size+1) _ #[I 0,I 0,I 0,I 0] _ _ B2.out)
   go_wp2_with (first | (refine wpList_store_row rfl 123 _ _ rfl (w.heap.size+1) #[I 0,I 0,I 0,I 0] rfl rfl 123 _ B2.out infoS rfl (by simp [Value.oneCell']) ?_))
   generalize wr.setRow (w.heap.size+1) #[I 0,I 0,I 0,I 0]=w5 at HG HK ⊢
   go_wp2_with fail
   (try simp only [Exit.inBlock,Exit.then])
   refine bodyPost_ret (v:=.tuple #[.agg #[I 0,I 0,I 0,I 0],.bool false]) ?_ rfl ⟨?_,HG.out⟩
   ·exact results_row_tmp (fn:=Tryz.f69) (p:=4) (u:=5) (ty:=123) rfl _ _ (w.heap.size+1) 123 _ (0,0) _ rfl HK.out Tryz.underlying123 rfl infoS
   ·rw [HF.out];rfl
theorem lies4 {w:World} {b:Nat} {g k i p:Int} {t:TypeId} (h:w.heap[b]?=some (.cells #[I g,I k,I i,I p] t (0,0))):w.cell? ⟨b,0,none⟩=some (I g)∧w.cell? ⟨b,1,none⟩=some (I k):=⟨by rw [cell_of_row _ _ _ _ _ _ h];rfl,by rw [cell_of_row _ _ _ _ _ _ h];rfl⟩
theorem beside_raw (c:List Value) (p q g1 k1 i1 p1 g2 k2 i2 p2:Int) (ok1 ok2:Bool) (w:World) (hc:c.length=131) (hone:c.toArray.all (·.oneCell')=true)
  (V1:Hid (∀ W,Below w.heap.size w W→Calls Tryz.prog 69 #[.agg c.toArray,.int .i64 p] W fun e w'=>e=.returned (.tuple #[.agg #[I g1,I k1,I i1,I p1],.bool ok1])∧Below W.heap.size W w'))
  (V2:Hid (∀ W,Below w.heap.size w W→Calls Tryz.prog 69 #[.agg c.toArray,.int .i64 q] W fun e w'=>e=.returned (.tuple #[.agg #[I g2,I k2,I i2,I p2],.bool ok2])∧Below W.heap.size W w')) :
  Calls Tryz.prog 35 #[.agg c.toArray,.int .i64 p,.int .i64 q] w fun e w'=>e=.returned (.bool (ok1 && ok2 && g1 == g2 && k1 != k2))∧Below w.heap.size w w':=by
 have hsz:c.toArray.size=131:=by simpa using hc
 have IA:Hid ((Tryz.prog.info? 33).map (·.size)=some c.length):=Lib.hid (by rw [hc];exact infoT)
 have A0:Hid (Below w.heap.size w (w.alloc (.cells c.toArray 33))):=Lib.hid ((Below.refl _ _).alloc (Nat.le_refl _) _)
 have A1:Hid (Lies (w.alloc (.cells c.toArray 33)) ⟨w.heap.size,0,none⟩ c):=Lib.hid (Row.lies_new w _ _)
 generalize hr:(ok1 && ok2 && g1 == g2 && k1 != k2)=r
 have HR:=Lib.hid hr
 clear hr hc hone
 go_enter Tryz.func35,Tryz.ntmps35
 go_upto_region 1 with fail
 generalize w.alloc (.cells c.toArray 33)=u at A0 A1 ⊢
 clear hsz
 go_wp2_with (refine Row.wpList_load_g 33 _ rfl (by first | rfl | go_simp) ⟨w.heap.size,0,none⟩ rfl c _ A1.out Tryz.underlying33 rfl IA.out ?_)
 refine (V1.out _ A0.out).mono ?_
 rintro e u1 ⟨rfl,hb⟩
 have B0:Hid (Below w.heap.size w u1):=Lib.hid (A0.out.trans (hb.mono A0.out.size))
 have B1:=Lib.hid (A1.out.below hb)
 clear hb A0 A1 V1
 go_upto_region 2 with (refine Row.wpList_store_new rfl 123 _ _ rfl u1 #[I 0,I 0,I 0,I 0] #[I g1,I k1,I i1,I p1] rfl rfl rfl infoS rfl (by simp [Value.oneCell']) ?_)
 have hb2:Below u1.heap.size u1 (u1.alloc (.cells #[I g1,I k1,I i1,I p1] 123)):=(Below.refl _ _).alloc (Nat.le_refl _) _
 have hg1:=heap_alloc_new u1 (.cells #[I g1,I k1,I i1,I p1] 123)
 generalize u1.alloc (.cells #[I g1,I k1,I i1,I p1] 123)=u2 at hb2 hg1 ⊢
 generalize u1.heap.size=b1 at hg1 ⊢
 have A0:Hid (Below w.heap.size w u2):=Lib.hid (B0.out.trans (hb2.mono B0.out.size))
 have A1:=Lib.hid (B1.out.below hb2)
 have G1:=Lib.hid hg1
 clear hb2 hg1 B0 B1
 go_wp2_with (refine Row.wpList_load_g 33 _ rfl (by first | rfl | go_simp) ⟨w.heap.size,0,none⟩ rfl c _ A1.out Tryz.underlying33 rfl IA.out ?_)
 refine (V2.out _ A0.out).mono ?_
 rintro e u3 ⟨rfl,hb⟩
 have B0:Hid (Below w.heap.size w u3):=Lib.hid (A0.out.trans (hb.mono A0.out.size))
 have G2:=Lib.hid ((hb.block _ (Array.getElem?_eq_some_iff.1 G1.out).1).trans G1.out)
 clear hb A0 A1 V2 G1
 go_upto_region 3 with (refine Row.wpList_store_new rfl 123 _ _ rfl u3 #[I 0,I 0,I 0,I 0] #[I g2,I k2,I i2,I p2] rfl rfl rfl infoS rfl (by simp [Value.oneCell']) ?_)
 have hb2:Below u3.heap.size u3 (u3.alloc (.cells #[I g2,I k2,I i2,I p2] 123)):=(Below.refl _ _).alloc (Nat.le_refl _) _
 have hg2:=heap_alloc_new u3 (.cells #[I g2,I k2,I i2,I p2] 123)
 have hg1:=(hb2.block _ (Array.getElem?_eq_some_iff.1 G2.out).1).trans G2.out
 generalize u3.alloc (.cells #[I g2,I k2,I i2,I p2] 123)=u4 at hb2 hg1 hg2 ⊢
 generalize u3.heap.size=b2 at hg2 ⊢
 have HF:Hid (Below w.heap.size w u4):=Lib.hid (B0.out.trans (hb2.mono B0.out.size))
 obtain ⟨q0,q1⟩:=lies4 hg1
 obtain ⟨r0,r1⟩:=lies4 hg2
 clear hb2 hg1 hg2 B0 G2 IA
 cases ok1
 ·go_wp2
  go_ret
  exact ⟨ret_bool (by rw [← HR.out];simp),HF.out⟩
 cases ok2
 ·go_wp2
  go_ret
  exact ⟨ret_bool (by rw [← HR.out];simp),HF.out⟩
 by_cases hg:g1=g2
 ·have e1:(g1 == g2)=true:=by simpa using hg
  have E1:=Lib.hid e1
  clear hg
  go_wp2
  go_ret
  exact ⟨ret_bool (by rw [← HR.out,E1.out];simp),HF.out⟩
 ·have e1:(g1 == g2)=false:=by simpa using hg
  have E1:=Lib.hid e1
  clear hg
  go_wp2
  go_ret
  exact ⟨ret_bool (by rw [← HR.out,E1.out];simp),HF.out⟩
theorem beside_any (T:Tab) (h:Hd) (p q:Int) (w:World) (ht:IsTab w h T) (sm:Few T) :
  Calls Tryz.prog 35 #[.agg (T.cells h).toArray,.int .i64 p,.int .i64 q] w fun e w'=>e=.returned (.bool (beside T p q))∧Below w.heap.size w w':=by
 have hsz:=(cells_ok ht).size
 rw [List.size_toArray] at hsz
 have hone:=(cells_ok ht).one
 have V:∀ r W,Below w.heap.size w W→Calls Tryz.prog 69 #[.agg (T.cells h).toArray,.int .i64 r] W fun e w'=>e=.returned (.tuple #[.agg (oCells (where_ T r)).toArray,.bool (where_ T r).isSome])∧Below W.heap.size W w':=fun r W hb=>where_any T h r W (ht.below hb) sm
 have V1:=V p
 have V2:=V q
 have hB:beside T p q=match where_ T p,where_ T q with
  | some a,some b=>a.g == b.g && a.k != b.k
  | _,_=>false:=rfl
 rw [hB]
 generalize where_ T p=o1 at V1 ⊢
 generalize where_ T q=o2 at V2 ⊢
 have e0:∀ a b:Nat,((a:Int) == (b:Int))=(a == b):=fun a b=>by
  by_cases h:a=b
  ·subst h;simp
  ·rw [beq_eq_false_iff_ne.2 h,beq_eq_false_iff_ne.2 (by omega)]
 have e1:∀ a b:Nat,((a:Int) != (b:Int))=(a != b):=fun a b=>by unfold bne;rw [e0]
 cases o1 with
 | none =>
  cases o2 with
  | none=>exact beside_raw _ p q 0 0 0 0 0 0 0 0 false false w hsz hone (Lib.hid V1) (Lib.hid V2)
  | some b=>exact beside_raw _ p q 0 0 0 0 b.g b.k b.i b.p false true w hsz hone (Lib.hid V1) (Lib.hid V2)
 | some a =>
  cases o2 with
  | none=>exact beside_raw _ p q a.g a.k a.i a.p 0 0 0 0 true false w hsz hone (Lib.hid V1) (Lib.hid V2)
  | some b =>
   have:=beside_raw _ p q a.g a.k a.i a.p b.g b.k b.i b.p true true w hsz hone (Lib.hid V1) (Lib.hid V2)
   rw [e0,e1] at this
   simpa using this
end Where
namespace GenW
open Go.ChangeShapes Go.WideShapes Go.ChangeAt Go.RowKit
open Tab Clone RefS Where
open PlaceM (where_ beside)
open May (infoT)
def withS (T:Tab) (p q:Int):Int:=if beside T p q then ((SetM.withN (SetM.of [p]:Nat) q:Nat):Int) else ((SetM.of [p]:Nat):Int)
theorem row_one (w:World) (p:Int) (t:TypeId) (b:Nat) (hb:w.heap.size=b):RefS.Row (w.alloc (.cells #[.int .i64 p] t)) (some ⟨b,0,none⟩) [p]:=by
 subst hb
 refine ⟨by simp [maxLen],.inr ⟨_,rfl,fun i hi=>?_⟩⟩
 obtain rfl:i=0:=by simpa using hi
 rw [RefS.add_zero,cell_of_row _ _ _ _ _ _ (heap_alloc_new w _)]
 rfl
theorem with_any (T:Tab) (h:Hd) (p q:Int) (w:World) (ht:IsTab w h T) (sm:PlaceM.Few T) :
  Calls Tryz.prog 73 #[.agg (T.cells h).toArray,.int .i64 p,.int .i64 q] w fun e w'=>e=.returned (.int .i64 (withS T p q))∧Below w.heap.size w w':=by
 have hsz:=(cells_ok ht).size
 have IA:Hid ((Tryz.prog.info? 33).map (·.size)=some (T.cells h).length):=Lib.hid (by rw [List.size_toArray] at hsz;rw [hsz];exact infoT)
 have A0:Hid (Below w.heap.size w (w.alloc (.cells (T.cells h).toArray 33))):=Lib.hid ((Below.refl _ _).alloc (Nat.le_refl _) _)
 have A1:Hid (Lies (w.alloc (.cells (T.cells h).toArray 33)) ⟨w.heap.size,0,none⟩ (T.cells h)):=Lib.hid (Row.lies_new w _ _)
 have BC:Hid (∀ W,Below w.heap.size w W→Calls Tryz.prog 35 #[.agg (T.cells h).toArray,.int .i64 p,.int .i64 q] W fun e w'=>e=.returned (.bool (beside T p q))∧Below W.heap.size W w'):=Lib.hid (fun W hb=>beside_any T h p q W (ht.below hb) sm)
 have RS:Hid (withS T p q=if beside T p q then ((SetM.withN (SetM.of [p]:Nat) q:Nat):Int) else ((SetM.of [p]:Nat):Int)):=Lib.hid rfl
 generalize withS T p q=r at RS ⊢
 generalize beside T p q=b at RS BC
 clear ht sm
 generalize T.cells h=c at *
 go_enter Tryz.func73,Tryz.ntmps73
 go_upto_region 1 with fail
 generalize w.alloc (.cells c.toArray 33)=u at A0 A1 ⊢
 clear hsz
 go_wp2_with fail
 have hb1:Below u.heap.size u (u.alloc (.cells #[.int .i64 p] 3)):=(Below.refl _ _).alloc (Nat.le_refl _) _
 have hr:=row_one u p 3 _ rfl
 have B0:Hid (Below w.heap.size w (u.alloc (.cells #[.int .i64 p] 3))):=Lib.hid (A0.out.trans (hb1.mono A0.out.size))
 have B1:=Lib.hid (A1.out.below hb1)
 have HR:=Lib.hid hr
 clear hb1 hr A0 A1
 generalize u.alloc (.cells #[.int .i64 p] 3)=u1 at B0 B1 HR ⊢
 refine (rof_any _ _ [p] _ HR.out).mono ?_
 rintro e w' ⟨rfl,rfl⟩
 generalize hs:((SetM.of [p]:Nat):Int)=s0 at RS ⊢
 have HS:=Lib.hid hs
 clear hs HR
 go_wp2_with (refine Row.wpList_load_g 33 _ rfl (by first | rfl | go_simp) ⟨w.heap.size,0,none⟩ rfl c _ B1.out Tryz.underlying33 rfl IA.out ?_)
 refine (BC.out _ B0.out).mono ?_
 rintro e u2 ⟨rfl,hb⟩
 have A0:Hid (Below w.heap.size w u2):=Lib.hid (B0.out.trans (hb.mono B0.out.size))
 clear hb B0 B1 BC
 cases b
 ·have HF:Hid (s0=r):=Lib.hid (by rw [RS.out];simp)
  go_wp2
  go_ret
  exact ⟨ret_int HF.out,A0.out⟩
 ·go_wp2_with fail
  refine (rwith_any s0 q _).mono ?_
  rintro e u3 ⟨rfl,hb⟩
  have HF:Hid (((SetM.withN s0 q:Nat):Int)=r):=Lib.hid (by rw [RS.out];simp)
  have E:=Lib.hid (A0.out.trans (hb.mono A0.out.size))
  clear hb
  generalize ((SetM.withN s0 q:Nat):Int)=r2 at HF ⊢
  go_wp2
  go_ret
  exact ⟨ret_int HF.out,E.out⟩
end GenW
end Go.Proofs.YtjdeemmaaiecnaaGreat
