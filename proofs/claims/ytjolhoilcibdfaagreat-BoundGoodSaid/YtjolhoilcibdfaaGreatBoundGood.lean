/- BoundGood returns true at any numbers: a table by numbers is accepted; with rails and a smaller window it is not; with other numbers package bound's All returns what the document's own returns. No condition. -/
import Derived.Test.YtjolhoilcibdfaaGreatPart01
import Derived.Test.YtjolhoilcibdfaaGreatRows
import Derived.Test.YtjolhoilcibdfaaGreatPart07
import Derived.Test.YtjolhoilcibdfaaGreatPart11
import Derived.Test.YtjolhoilcibdfaaGreatPart12
import Derived.Test.YtjolhoilcibdfaaGreatPart08
import Derived.Deep.Cut
import Derived.LoopTactic
import Derived.Test.YtjolhoilcibdfaaGreatPart14
import Derived.WalkKit
import Derived.WalkLawsBesides
import Derived.ProofKit
import Derived.OpenShut
import Derived.ShutString
import Derived.ChangeOld
import Derived.Below
set_option linter.unusedVariables false
set_option linter.unusedSimpArgs false
set_option linter.unusedSectionVars false
set_option maxHeartbeats 8000000
set_option maxRecDepth 100000
namespace Go.Proofs.YtjolhoilcibdfaaGreat
namespace boundGood
open Zip
open Go.ChangeShapes Go.WideShapes Go.ChangeAt Go.RowKit
open Tab PlaceM PlanM OnS GenT GenG WaitS FreeS EntryS OverS PassS ServeS BdQ
open May (infoT)
theorem own:ownKnob Tryz.prog.godebug=none:=by kernel_rfl
theorem laidOut:laidOutB Tryz.prog=true:=by kernel_rfl
def IsRow (k:IntKind) (w:World) (a:Option Addr) (len cap:Nat) (zs:List Int):Prop :=
 (a=none∧len=0∧cap=0∧zs=[]) ∨
 ∃ x,a=some x∧len≤cap∧cap≤maxLen∧zs.length=cap∧(∀ i,i < zs.length→w.cell? (x.add i)=some (.int k (zs.getD i 0)))∧∀ n ∈ zs,(Lit.int k n).wf=true
theorem isRow_int {w:World} {a:Option Addr} {len cap:Nat} {zs:List Int} (h:IsRow .i64 w a len cap zs):(zs.take len).length=len∧Tab.IntRow w ⟨a,cap⟩ (zs.take len):=by
 rcases h with ⟨rfl,rfl,rfl,rfl⟩ | ⟨x,rfl,h1,h2,h3,h4,_⟩
 ·exact ⟨rfl,.inl ⟨rfl,rfl,rfl⟩⟩
 ·have hl:(zs.take len).length=len:=by rw [List.length_take];omega
  refine ⟨hl,.inr ⟨x,rfl,by rw [hl];exact h1,h2,fun i v hv j u hu=>?_⟩⟩
  have hi:i < len:=by have:=(List.getElem?_eq_some_iff.1 hv).1;omega
  match j,hu with
  | 0,hu =>
   simp at hu
   subst hu
   rw [List.getElem?_take,if_pos hi] at hv
   have:=h4 i (by omega)
   rw [List.getD_eq_getElem?_getD,hv] at this
   rw [Nat.mul_one,Tab.add_two,Nat.add_zero]
   exact this
  | j+1,hu=>simp at hu
theorem flatB:Flat.flat Tryz.prog 4 65=some (List.replicate 12 3):=by kernel_rfl
theorem guardB:Tryz.prog.eqGuardType Tryz.prog.depth 65=false:=by kernel_rfl
theorem bounds_eqs (L M:List Int) (h:L.length=12) (k:M.length=12):Same.Eqs 65 (L.map I) (M.map I) (decide (L=M)):=by
 match L,h with
 | [a0,a1,a2,a3,a4,a5,a6,a7,a8,a9,a10,a11],_ =>
  match M,k with
  | [b0,b1,b2,b3,b4,b5,b6,b7,b8,b9,b10,b11],_ =>
   refine Same.eqs_of flatB (by decide) (by kernel_rfl) [(I a0,I b0),(I a1,I b1),(I a2,I b2),(I a3,I b3),(I a4,I b4),(I a5,I b5),(I a6,I b6),(I a7,I b7),(I a8,I b8),(I a9,I b9),(I a10,I b10),(I a11,I b11)] ⟨Same.lint _ _,Same.lint _ _,Same.lint _ _,Same.lint _ _,Same.lint _ _,Same.lint _ _,Same.lint _ _,Same.lint _ _,Same.lint _ _,Same.lint _ _,Same.lint _ _,Same.lint _ _,trivial⟩ rfl rfl ?_
   simp
theorem allB_len (T:Tab):(BdB.allB T).length=12:=by
 unfold BdB.allB
 split
 ·rw [List.length_append,BdB.waits_len,BdB.ents_len]
 ·simp
theorem window_in (L:List Int):0≤(genTab L).window∧(genTab L).window≤2147483647:=by
 have h2:=gen_may L
 unfold May.tabMay at h2
 simp only [Bool.and_eq_true] at h2
 exact allIn_iff.1 h2.2.2.2.2.2.2.2.2 _ (by simp)
theorem walk (a0:Option Addr) (len0 cap0:Nat) (z0:List Int) (a1:Int) (a2:Int) (a3:Int) (w:World) (w0:IsRow .i64 w a0 len0 cap0 z0) (w1:(Lit.int .i64 a1).wf=true) (w2:(Lit.int .i64 a2).wf=true) (w3:(Lit.int .i64 a3).wf=true) :
  Calls Tryz.prog 9 #[.slice a0 len0 cap0,.int .i64 a1,.int .i64 a2,.int .i64 a3] w fun e w'=>e=.returned (.bool true)∧Below w.heap.size w w':=by
 obtain ⟨hlen,hrow⟩:=isRow_int w0
 obtain ⟨L,hL⟩:∃ L,L=z0.take len0:=⟨_,rfl⟩
 rw [← hL] at hlen hrow
 clear hL w0
 subst hlen
 have hz:=(zero_of_info GenT.infoTz).1
 have hZs:(Clone.zTab.cells Clone.zHd).length=131:=rfl
 generalize hZ:GenT.zTab.cells GenT.zHd=Z at *
 have ZS:Z.toArray.size=131:=by rw [← hZ];rfl
 clear hZ hZs
 have G8:=hJJ (GenT.genTab_few L)
 have GL:=hJJ (BdX.gen_lo L)
 have A0:Hid (Below w.heap.size w w):=hJJ (Below.refl _ _)
 go_enter Tryz.func9,Tryz.ntmps9
 go_wp2_with fail
 refine (GenT.table_any a0 cap0 L w hrow).mono ?_
 rintro e u0 ⟨hd,rfl,ht,hb⟩
 have CS:=GenT.cells_cut hd ht.ph ht.cf ht.fl
 have ON:=(cells_ok ht).one
 have HT0:=hJJ ht
 have B0:Hid (Below w.heap.size w u0):=hJJ (A0.out.trans (hb.mono A0.out.size))
 have IA:Hid ((Tryz.prog.info? 32).map (·.size)=some ((genTab L).cells hd).length):=hJJ (by rw [CS];exact infoT)
 clear hb ht
 generalize hc:(genTab L).cells hd=c at *
 have HC:=hJJ hc
 clear hc
 go_upto_region 2 with (refine Row.wpList_store_new rfl 32 _ _ rfl u0 Z.toArray c.toArray rfl rfl rfl (by rw [List.size_toArray];exact IA.out) (by rw [ZS,List.size_toArray,CS]) ON ?_)
 have hb2:Hid (Below u0.heap.size u0 (u0.alloc (.cells c.toArray 32))):=hJJ ((Below.refl _ _).alloc (Nat.le_refl _) _)
 have KX:Hid (Kx.Kx u0 u0.heap.size hd (genTab L) (u0.alloc (.cells c.toArray 32))):=hJJ ⟨hb2.out,Nat.le_refl _,by rw [HC.out];exact heap_alloc_new u0 _,HT0.out⟩
 generalize u0.alloc (.cells c.toArray 32)=u at hb2 KX ⊢
 clear HT0 hrow A0 hb2
 have C0:Hid (Below w.heap.size w u):=hJJ (B0.out.trans (KX.out.bel.mono B0.out.size))
 clear B0
 have AG:=BdX.all_gen L
 have AL0:=hJJ (BdX.all_less L)
 have WB:Hid (0≤(genTab L).window∧(genTab L).window≤2147483647):=hJJ (window_in L)
 generalize genTab L=T at *
 generalize u0.heap.size=tb at *
 have LTU:Hid (∀ W,Below u.heap.size u W→Lies W ⟨tb,0,none⟩ c):=hJJ (fun W hb=>by have:=(KX.out.step hb).lies;rwa [HC.out] at this)
 obtain ⟨b,BZs,HO,BE,PA,RA⟩:∃ b:List Value,Hid (b.toArray.size=12)∧Hid (b.toArray.all (·.oneCell')=true)∧Hid (Same.Eqs 65 b b true)∧Hid (∀ W,Below u.heap.size u W→Calls Tryz.prog 37 #[.agg c.toArray] W fun e w'=>e=.returned (.tuple #[.agg b.toArray,.agg #[I 0,I 0]])∧Below W.heap.size W w')∧Hid (∀ W,Below u.heap.size u W→Calls Tryz.prog 38 #[.agg c.toArray] W fun e w'=>e=.returned (.tuple #[.agg b.toArray,.agg #[I 0,I 0]])∧Below W.heap.size W w') :=
  ⟨(BdB.allB T).map I,hJJ (by rw [List.size_toArray,List.length_map,allB_len]),hJJ (by simp [Value.oneCell']),hJJ (by have:=bounds_eqs (BdB.allB T) (BdB.allB T) (allB_len T) (allB_len T);rwa [decide_eq_true rfl] at this),
   hJJ (fun W hb=>by have:=BdL.pall_any T hd W (KX.out.step hb).isTab G8.out;rw [AG,HC.out] at this;exact this),hJJ (fun W hb=>by have:=BdR.rall_any T hd W (KX.out.step hb).isTab G8.out;rw [AG,HC.out] at this;exact this)⟩
 clear AG
 have hzb:=(zero_of_info BdN.infoBz).1
 have ZBs:Hid ((BdB.bcells (BdB.zeros 8) (BdB.zeros 4)).size=12):=hJJ rfl
 generalize BdB.bcells (BdB.zeros 8) (BdB.zeros 4)=zb at hzb ZBs
 have IB:Hid ((Tryz.prog.info? 65).map (·.size)=some b.length):=hJJ (by have:=BZs.out;rw [List.size_toArray] at this;rw [this];exact BdB.infoB)
 go_wp2_with (refine lgZ 32 ⟨tb,0,none⟩ c rfl (LTU.out _ (Below.refl _ _)) Tryz.underlying32 IA.out ?_)
 refine (PA.out _ (Below.refl _ _)).mono ?_
 rintro e u2 ⟨rfl,hb⟩
 have C1:=hJJ (C0.out.trans (hb.mono C0.out.size))
 have D1:=hJJ hb
 clear hb PA
 have KB:=hJJ (heap_alloc2_old u2 (.cells zb 65) (.cells #[I 0,I 0] 37))
 have KF:=hJJ ((setRow_other ((u2.alloc (.cells zb 65)).alloc (.cells #[I 0,I 0] 37)) u2.heap.size (u2.heap.size+1) b.toArray (by omega)).trans (heap_alloc2_new u2 (.cells zb 65) (.cells #[I 0,I 0] 37)))
 have pD:Hid (Below u2.heap.size u2 ((((u2.alloc (.cells zb 65)).alloc (.cells #[I 0,I 0] 37)).setRow u2.heap.size b.toArray).setRow (u2.heap.size+1) #[I 0,I 0])):=hJJ (Same.below_setRow (Same.below_setRow (((Below.refl _ _).alloc (Nat.le_refl _) _).alloc (by simp) _) (Nat.le_refl _) _) (by omega) _)
 have pKF:=hJJ (setRow_heap _ (u2.heap.size+1) _ #[I 0,I 0] _ _ KF.out)
 have pKB:=hJJ ((setRow_other (((u2.alloc (.cells zb 65)).alloc (.cells #[I 0,I 0] 37)).setRow u2.heap.size b.toArray) (u2.heap.size+1) u2.heap.size #[I 0,I 0] (by omega)).trans (setRow_heap _ u2.heap.size _ b.toArray _ _ KB.out))
 go_upto_region 3 with (first | (refine wpList_store_row rfl 65 _ _ rfl u2.heap.size b.toArray rfl rfl 65 _ KB.out (by rw [BZs.out];exact BdB.infoB) (by rw [ZBs.out,BZs.out]) HO.out ?_) | (refine wpList_store_row rfl 37 _ _ rfl (u2.heap.size+1) #[I 0,I 0] rfl rfl 37 _ KF.out BdB.infoF rfl (by simp [Value.oneCell']) ?_))
 generalize (((u2.alloc (.cells zb 65)).alloc (.cells #[I 0,I 0] 37)).setRow u2.heap.size b.toArray).setRow (u2.heap.size+1) #[I 0,I 0]=pu at pD pKB pKF ⊢
 have pB:=hJJ (C1.out.trans (pD.out.mono C1.out.size))
 clear KB KF
 have DU:Hid (Below u.heap.size u pu):=hJJ (D1.out.trans (pD.out.mono D1.out.size))
 clear D1 C1 pD
 go_wp2_with (refine lgZ 32 ⟨tb,0,none⟩ c rfl (LTU.out _ DU.out) Tryz.underlying32 IA.out ?_)
 refine (RA.out _ DU.out).mono ?_
 rintro e u3 ⟨rfl,hb⟩
 have C1:=hJJ (pB.out.trans (hb.mono pB.out.size))
 have D1:=hJJ (DU.out.trans (hb.mono DU.out.size))
 have KB1:=hJJ ((hb.block _ (Array.getElem?_eq_some_iff.1 pKB.out).1).trans pKB.out)
 have KF1:=hJJ ((hb.block _ (Array.getElem?_eq_some_iff.1 pKF.out).1).trans pKF.out)
 clear hb RA pB pKB pKF DU
 have KB:=hJJ (heap_alloc2_old u3 (.cells zb 65) (.cells #[I 0,I 0] 37))
 have KF:=hJJ ((setRow_other ((u3.alloc (.cells zb 65)).alloc (.cells #[I 0,I 0] 37)) u3.heap.size (u3.heap.size+1) b.toArray (by omega)).trans (heap_alloc2_new u3 (.cells zb 65) (.cells #[I 0,I 0] 37)))
 have qD:Hid (Below u3.heap.size u3 ((((u3.alloc (.cells zb 65)).alloc (.cells #[I 0,I 0] 37)).setRow u3.heap.size b.toArray).setRow (u3.heap.size+1) #[I 0,I 0])):=hJJ (Same.below_setRow (Same.below_setRow (((Below.refl _ _).alloc (Nat.le_refl _) _).alloc (by simp) _) (Nat.le_refl _) _) (by omega) _)
 have qKF:=hJJ (setRow_heap _ (u3.heap.size+1) _ #[I 0,I 0] _ _ KF.out)
 have qKB:=hJJ ((setRow_other (((u3.alloc (.cells zb 65)).alloc (.cells #[I 0,I 0] 37)).setRow u3.heap.size b.toArray) (u3.heap.size+1) u3.heap.size #[I 0,I 0] (by omega)).trans (setRow_heap _ u3.heap.size _ b.toArray _ _ KB.out))
 go_upto_region 4 with (first | (refine wpList_store_row rfl 65 _ _ rfl u3.heap.size b.toArray rfl rfl 65 _ KB.out (by rw [BZs.out];exact BdB.infoB) (by rw [ZBs.out,BZs.out]) HO.out ?_) | (refine wpList_store_row rfl 37 _ _ rfl (u3.heap.size+1) #[I 0,I 0] rfl rfl 37 _ KF.out BdB.infoF rfl (by simp [Value.oneCell']) ?_))
 generalize (((u3.alloc (.cells zb 65)).alloc (.cells #[I 0,I 0] 37)).setRow u3.heap.size b.toArray).setRow (u3.heap.size+1) #[I 0,I 0]=qu at qD qKB qKF ⊢
 have qB:=hJJ (C1.out.trans (qD.out.mono C1.out.size))
 clear KB KF
 have DU:Hid (Below u.heap.size u qu):=hJJ (D1.out.trans (qD.out.mono D1.out.size))
 have L1:Hid (Lies qu ⟨u2.heap.size,0,none⟩ b):=hJJ (by have:=Row.lies_of_block ((qD.out.block _ (Array.getElem?_eq_some_iff.1 KB1.out).1).trans KB1.out);simpa using this)
 have L3:Hid (Lies qu ⟨u3.heap.size,0,none⟩ b):=hJJ (by have:=Row.lies_of_block qKB.out;simpa using this)
 have cf:qu.cell? ⟨u2.heap.size+1,0,none⟩=some (I 0):=by rw [cell_of_row _ _ _ _ _ _ ((qD.out.block _ (Array.getElem?_eq_some_iff.1 KF1.out).1).trans KF1.out)];rfl
 clear KB1 KF1 qKB qKF D1 C1 qD
 generalize u2.heap.size=s2 at *
 generalize u3.heap.size=s3 at *
 have KX2:=hJJ (KX.out.step DU.out)
 clear KX
 go_upto_region 6 with (first | (refine lgZ 65 ⟨s2,0,none⟩ b rfl L1.out Tryz.underlying65 IB.out ?_) | (refine lgZ 65 ⟨s3,0,none⟩ b rfl L3.out Tryz.underlying65 IB.out ?_) | (refine Row.wpList_neq 65 _ _ _ rfl (by rfl) b.toArray b.toArray rfl rfl guardB true BE.out ?_))
 clear cf L1 L3 BE IB
 have hb3:Below qu.heap.size qu (qu.alloc (.cells c.toArray 32)):=(Below.refl _ _).alloc (Nat.le_refl _) _
 have LT0:=hJJ (LTU.out _ DU.out)
 have KT:Hid (Kx.Kx u0 tb hd T (qu.alloc (.cells c.toArray 32))):=hJJ (KX2.out.step hb3)
 have KU:Hid (Kx.Kx u0 qu.heap.size hd T (qu.alloc (.cells c.toArray 32))):=hJJ (by have:=Ky.copy KX2.out;rwa [HC.out] at this)
 have NE:Hid (qu.heap.size ≠ tb):=hJJ (by have:=KX2.out.size;omega)
 have C2:Hid (Below w.heap.size w (qu.alloc (.cells c.toArray 32))):=hJJ (qB.out.trans (hb3.mono qB.out.size))
 have WQ:Hid (w.heap.size≤qu.heap.size):=hJJ qB.out.size
 go_upto_region 7 with (first | (refine lgZ 32 ⟨tb,0,none⟩ c rfl LT0.out Tryz.underlying32 IA.out ?_) | (refine Row.wpList_store_new rfl 32 _ _ rfl qu Z.toArray c.toArray rfl rfl rfl (by rw [List.size_toArray];exact IA.out) (by rw [ZS,List.size_toArray,CS]) ON ?_))
 generalize qu.alloc (.cells c.toArray 32)=v1 at KT KU C2 ⊢
 generalize qu.heap.size=ub at KU NE WQ ⊢
 clear hb3 LT0 KX2 DU LTU qB hz
 have ct:=Ky.at_window KT.out
 have cu:=Ky.at_window KU.out
 have fu:=KU.out.frozen 129
 have KU2:=hJJ (Ky.put_window KU.out (T.window - 1))
 have KT2:=hJJ (Ky.other KT.out NE.out KU.out.tbB 129 (I (T.window - 1)))
 have C3:=hJJ (Owned.below_write C2.out (g:=ub) (i:=129) WQ.out (I (T.window - 1)))
 generalize T.window=wd at ct cu AL0 KU2 KT2 C3 WB
 have ew:IntKind.i64.wrap (wd - 1)=wd - 1:=by have:=WB.out;rw [IntKind.wrap_i64];omega
 go_upto_region 8 with fail
 generalize v1.setCell ⟨ub,129,none⟩ (I (wd - 1))=v2 at KU2 KT2 C3 ⊢
 clear ct cu fu ew KU KT WB C2
 have SM1:Hid (Few { T with window:=wd - 1 }):=hJJ ⟨G8.out.groups,G8.out.rows⟩
 obtain ⟨U,hU⟩:∃ U:Tab,U={ T with window:=wd - 1 }:=⟨_,rfl⟩
 rw [← hU] at KU2 SM1 AL0
 clear hU
 obtain ⟨b2,g1,g2,BZs2,HO2,G15,PU⟩:∃ (b2:List Value) (g1 g2:Int),Hid (b2.toArray.size=12)∧Hid (b2.toArray.all (·.oneCell')=true)∧Hid (T.rails.length ≠ 0→g1=15)∧Hid (∀ W,Below v2.heap.size v2 W→Calls Tryz.prog 37 #[.agg (U.cells hd).toArray] W fun e w'=>e=.returned (.tuple #[.agg b2.toArray,.agg #[I g1,I g2]])∧Below W.heap.size W w') :=
  ⟨(BdB.allB U).map I,(BdB.allF U).1,(BdB.allF U).2,hJJ (by rw [List.size_toArray,List.length_map,allB_len]),hJJ (by simp [Value.oneCell']),hJJ (fun h=>by rw [AL0.out h]),hJJ (fun W hb=>BdL.pall_any U hd W (KU2.out.step hb).isTab SM1.out)⟩
 clear AL0
 have LU:Hid (Lies v2 ⟨ub,0,none⟩ (U.cells hd)):=hJJ KU2.out.lies
 have IU:Hid ((Tryz.prog.info? 32).map (·.size)=some (U.cells hd).length):=hJJ (by rw [cells_cut hd KU2.out.tab.ph KU2.out.tab.cf KU2.out.tab.fl];exact infoT)
 have CU:(U.cells hd).length=131:=cells_cut hd KU2.out.tab.ph KU2.out.tab.cf KU2.out.tab.fl
 generalize hcu:U.cells hd=cu at *
 go_wp2_with (refine lgZ 32 ⟨ub,0,none⟩ cu rfl LU.out Tryz.underlying32 IU.out ?_)
 refine (PU.out _ (Below.refl _ _)).mono ?_
 rintro e u4 ⟨rfl,hb⟩
 have C4:=hJJ (C3.out.trans (hb.mono C3.out.size))
 have D4:=hJJ hb
 clear hb PU LU C3
 have KB:=hJJ (heap_alloc2_old u4 (.cells zb 65) (.cells #[I 0,I 0] 37))
 have KF:=hJJ ((setRow_other ((u4.alloc (.cells zb 65)).alloc (.cells #[I 0,I 0] 37)) u4.heap.size (u4.heap.size+1) b2.toArray (by omega)).trans (heap_alloc2_new u4 (.cells zb 65) (.cells #[I 0,I 0] 37)))
 have rD:Hid (Below u4.heap.size u4 ((((u4.alloc (.cells zb 65)).alloc (.cells #[I 0,I 0] 37)).setRow u4.heap.size b2.toArray).setRow (u4.heap.size+1) #[I g1,I g2])):=hJJ (Same.below_setRow (Same.below_setRow (((Below.refl _ _).alloc (Nat.le_refl _) _).alloc (by simp) _) (Nat.le_refl _) _) (by omega) _)
 have rKF:=hJJ (setRow_heap _ (u4.heap.size+1) _ #[I g1,I g2] _ _ KF.out)
 have rKB:=hJJ ((setRow_other (((u4.alloc (.cells zb 65)).alloc (.cells #[I 0,I 0] 37)).setRow u4.heap.size b2.toArray) (u4.heap.size+1) u4.heap.size #[I g1,I g2] (by omega)).trans (setRow_heap _ u4.heap.size _ b2.toArray _ _ KB.out))
 go_upto_region 9 with (first | (refine wpList_store_row rfl 65 _ _ rfl u4.heap.size b2.toArray rfl rfl 65 _ KB.out (by rw [BZs2.out];exact BdB.infoB) (by rw [ZBs.out,BZs2.out]) HO2.out ?_) | (refine wpList_store_row rfl 37 _ _ rfl (u4.heap.size+1) #[I g1,I g2] rfl rfl 37 _ KF.out BdB.infoF rfl (by simp [Value.oneCell']) ?_))
 generalize (((u4.alloc (.cells zb 65)).alloc (.cells #[I 0,I 0] 37)).setRow u4.heap.size b2.toArray).setRow (u4.heap.size+1) #[I g1,I g2]=ru at rD rKB rKF ⊢
 have rB:=hJJ (C4.out.trans (rD.out.mono C4.out.size))
 clear KB KF
 have DV:Hid (Below v2.heap.size v2 ru):=hJJ (D4.out.trans (rD.out.mono D4.out.size))
 have KT3:=hJJ (KT2.out.step DV.out)
 have KU3:=hJJ (KU2.out.step DV.out)
 clear D4 C4 rD DV KT2 KU2 rKB BZs2 HO2 SM1
 have HCU:=hJJ hcu
 clear hcu
 have cg:ru.cell? ⟨u4.heap.size+1,0,none⟩=some (I g1):=by rw [cell_of_row _ _ _ _ _ _ rKF.out];rfl
 generalize u4.heap.size=s4 at *
 clear rKF
 obtain ⟨⟨ra,rcap⟩,hr⟩:∃ x,x=hd.r:=⟨_,rfl⟩
 have c114:ru.cell? ⟨tb,114,none⟩=some (.slice ra T.rails.length rcap):=by rw [KT3.out.cell,← List.getElem?_toArray,(cells_ok KT3.out.tab).r,← hr]
 clear hr
 generalize hn:T.rails.length=n at c114 G15
 have LT3:Hid (Lies ru ⟨tb,0,none⟩ c):=hJJ (by have:=KT3.out.lies;rwa [HC.out] at this)
 have KB:=hJJ KU3.out.blk
 have KU4:=hJJ (Ky.back KU3.out KT3.out.tab)
 have C5:Hid (Below w.heap.size w (ru.setRow ub c.toArray)):=hJJ (Same.below_setRow rB.out WQ.out _)
 rw [HC.out] at KU4
 rw [HCU.out] at KB
 clear KT3 KU3 hn
 by_cases hn0:n=0
 ·subst hn0
  clear G15
  go_upto_region 11 with fail
  go_upto_region 12 with (first | (refine lgZ 32 ⟨tb,0,none⟩ c rfl LT3.out Tryz.underlying32 IA.out ?_) | (refine wpList_store_row rfl 32 _ _ rfl ub c.toArray rfl rfl 32 _ KB.out (by rw [List.size_toArray];exact IA.out) (by rw [List.size_toArray,List.size_toArray,CS,CU]) ON ?_))
  clear cg c114 LT3 KB rB
  generalize ru.setRow ub c.toArray=v3 at KU4 C5 ⊢
  have cs:=Ky.at_share KU4.out
  have fs:=KU4.out.frozen 130
  have KU5:=hJJ (Ky.put_share KU4.out (bits .and .i64 a1 2147483647))
  have C6:=hJJ (Owned.below_write C5.out (g:=ub) (i:=130) WQ.out (I (bits .and .i64 a1 2147483647)))
  go_upto_region 13 with fail
  generalize v3.setCell ⟨ub,130,none⟩ (I (bits .and .i64 a1 2147483647))=v4 at KU5 C6 ⊢
  generalize bits .and .i64 a1 2147483647=sh at KU5
  clear cs fs KU4 C5
  have cs:=Ky.at_window KU5.out
  have fs:=KU5.out.frozen 129
  have KU6:=hJJ (Ky.put_window KU5.out 2147483647)
  have C7:=hJJ (Owned.below_write C6.out (g:=ub) (i:=129) WQ.out (I 2147483647))
  go_upto_region 14 with fail
  generalize v4.setCell ⟨ub,129,none⟩ (I 2147483647)=v5 at KU6 C7 ⊢
  clear cs fs KU5 C6
  go_wp2_with fail
  refine (RefS.place_any a3 8 _ (by decide) (by decide)).mono ?_
  rintro e w' ⟨rfl,rfl⟩
  obtain ⟨k,ek,k8⟩:∃ k:Nat,a3 % 8=(k:Int)∧k < 8:=⟨(a3 % 8).toNat,by omega,by omega⟩
  rw [ek]
  clear ek
  clear w3
  obtain ⟨u,hu⟩:∃ x,T.phases[k]?=some x:=⟨_,List.getElem?_eq_getElem (by rw [GL.out.h8];exact k8)⟩
  have HU:Hid (({ { T with share:=sh } with window:=2147483647 }:Tab).phases[k]?=some u):=hJJ hu
  have ki:(k:Int) < 8:=by omega
  clear hu
  go_upto_region 15 with fail
  have PL:Hid (∀ W,Calls Tryz.prog 13 #[.int .i64 a2,.int .i64 10000] W fun e w'=>e=.returned (.int .i64 (a2 % 10000))∧w'=W):=hJJ (fun W=>(RefS.place_any a2 10000 W (by decide) (by decide)).mono (by rintro e w' ⟨rfl,rfl⟩;exact ⟨rfl,rfl⟩))
  generalize a2 % 10000=d4 at PL
  refine QB.region_tail 12 (by kernel_rfl) (by kernel_rfl) ?_
  have KU7:=hJJ (KU6.out.step (Below.refl _ _).drew)
  have C8:=hJJ C7.out.drew
  generalize World.drew v5=v6 at KU7 C8 ⊢
  clear KU6 C7
  have c3:v6.cell? ⟨ub,k*13+3,none⟩=some (I u.max):=by rw [Ky.cell_at KU7.out HU.out (by omega)];rfl
  have c4:v6.cell? ⟨ub,k*13+4,none⟩=some (I u.top):=by rw [Ky.cell_at KU7.out HU.out (by omega)];rfl
  have ff:v6.frozen? ⟨ub,k*13+4,none⟩=false:=KU7.out.frozen _
  simp only [List.take_succ_cons,List.take_zero,List.drop_succ_cons,List.drop_zero]
  repeat still_step
  still_call (PL.out _)
  repeat still_step
  refine wpStill_nil ?_
  go_upto_region 16 with fail
  obtain ⟨tv,htv⟩:∃ x,x=(if u.max < d4 then d4 else u.max):=⟨_,rfl⟩
  rw [← htv]
  clear htv
  have KU8:=hJJ (Ky.put KU7.out HU.out (j:=4) (by omega) (v:=I tv) (x:={ u with top:=tv }) rfl)
  have C9:=hJJ (Owned.below_write C8.out (g:=ub) (i:=k*13+4) WQ.out (I tv))
  generalize v6.setCell ⟨ub,k*13+4,none⟩ (I tv)=v7 at KU8 C9 ⊢
  clear KU7 C8 c3 c4 ff PL ki k8 HU GL
  have SM2:Hid (Few { { { T with share:=sh } with window:=2147483647 } with phases:=T.phases.set k { u with top:=tv } }):=hJJ ⟨G8.out.groups,G8.out.rows⟩
  have KU9:Hid (Kx.Kx u0 ub hd { { { T with share:=sh } with window:=2147483647 } with phases:=T.phases.set k { u with top:=tv } } v7):=hJJ KU8.out
  clear KU8
  generalize ({ { { T with share:=sh } with window:=2147483647 } with phases:=T.phases.set k { u with top:=tv } }:Tab)=V at SM2 KU9
  obtain ⟨b3,f1,f2,BZs,HO,BE,FE,PV,RV⟩:∃ (b3:List Value) (f1 f2:Int),Hid (b3.toArray.size=12)∧Hid (b3.toArray.all (·.oneCell')=true)∧Hid (Same.Eqs 65 b3 b3 true)∧Hid (Same.Eqs 37 [I f1,I f2] [I f1,I f2] true)∧Hid (∀ W,Below v7.heap.size v7 W→Calls Tryz.prog 37 #[.agg (V.cells hd).toArray] W fun e w'=>e=.returned (.tuple #[.agg b3.toArray,.agg #[I f1,I f2]])∧Below W.heap.size W w')∧Hid (∀ W,Below v7.heap.size v7 W→Calls Tryz.prog 38 #[.agg (V.cells hd).toArray] W fun e w'=>e=.returned (.tuple #[.agg b3.toArray,.agg #[I f1,I f2]])∧Below W.heap.size W w') :=
   ⟨(BdB.allB V).map I,(BdB.allF V).1,(BdB.allF V).2,hJJ (by rw [List.size_toArray,List.length_map,allB_len]),hJJ (by simp [Value.oneCell']),hJJ (by have:=bounds_eqs (BdB.allB V) (BdB.allB V) (allB_len V) (allB_len V);rwa [decide_eq_true rfl] at this),hJJ (by have:=ChkK.fault_eqs (BdB.allF V).1 (BdB.allF V).2 (BdB.allF V).1 (BdB.allF V).2;rwa [decide_eq_true (by simp)] at this),
    hJJ (fun W hb=>BdL.pall_any V hd W (KU9.out.step hb).isTab SM2.out),hJJ (fun W hb=>BdR.rall_any V hd W (KU9.out.step hb).isTab SM2.out)⟩
  have LV:Hid (∀ W,Below v7.heap.size v7 W→Lies W ⟨ub,0,none⟩ (V.cells hd)):=hJJ (fun W hb=>(KU9.out.step hb).lies)
  have IV:Hid ((Tryz.prog.info? 32).map (·.size)=some (V.cells hd).length):=hJJ (by rw [cells_cut hd KU9.out.tab.ph KU9.out.tab.cf KU9.out.tab.fl];exact infoT)
  clear KU9 SM2
  generalize V.cells hd=cv at *
  have IB:Hid ((Tryz.prog.info? 65).map (·.size)=some b3.length):=hJJ (by have:=BZs.out;rw [List.size_toArray] at this;rw [this];exact BdB.infoB)
  go_wp2_with (refine lgZ 32 ⟨ub,0,none⟩ cv rfl (LV.out _ (Below.refl _ _)) Tryz.underlying32 IV.out ?_)
  refine (PV.out _ (Below.refl _ _)).mono ?_
  rintro e u5 ⟨rfl,hb⟩
  have C1:=hJJ (C9.out.trans (hb.mono C9.out.size))
  have D1:=hJJ hb
  clear hb PV C9
  have KB:=hJJ (heap_alloc2_old u5 (.cells zb 65) (.cells #[I 0,I 0] 37))
  have KF:=hJJ ((setRow_other ((u5.alloc (.cells zb 65)).alloc (.cells #[I 0,I 0] 37)) u5.heap.size (u5.heap.size+1) b3.toArray (by omega)).trans (heap_alloc2_new u5 (.cells zb 65) (.cells #[I 0,I 0] 37)))
  have pD:Hid (Below u5.heap.size u5 ((((u5.alloc (.cells zb 65)).alloc (.cells #[I 0,I 0] 37)).setRow u5.heap.size b3.toArray).setRow (u5.heap.size+1) #[I f1,I f2])):=hJJ (Same.below_setRow (Same.below_setRow (((Below.refl _ _).alloc (Nat.le_refl _) _).alloc (by simp) _) (Nat.le_refl _) _) (by omega) _)
  have pKF:=hJJ (setRow_heap _ (u5.heap.size+1) _ #[I f1,I f2] _ _ KF.out)
  have pKB:=hJJ ((setRow_other (((u5.alloc (.cells zb 65)).alloc (.cells #[I 0,I 0] 37)).setRow u5.heap.size b3.toArray) (u5.heap.size+1) u5.heap.size #[I f1,I f2] (by omega)).trans (setRow_heap _ u5.heap.size _ b3.toArray _ _ KB.out))
  go_upto_region 17 with (first | (refine wpList_store_row rfl 65 _ _ rfl u5.heap.size b3.toArray rfl rfl 65 _ KB.out (by rw [BZs.out];exact BdB.infoB) (by rw [ZBs.out,BZs.out]) HO.out ?_) | (refine wpList_store_row rfl 37 _ _ rfl (u5.heap.size+1) #[I f1,I f2] rfl rfl 37 _ KF.out BdB.infoF rfl (by simp [Value.oneCell']) ?_))
  generalize (((u5.alloc (.cells zb 65)).alloc (.cells #[I 0,I 0] 37)).setRow u5.heap.size b3.toArray).setRow (u5.heap.size+1) #[I f1,I f2]=pu at pD pKB pKF ⊢
  have pB:=hJJ (C1.out.trans (pD.out.mono C1.out.size))
  clear KB KF
  have DU:Hid (Below v7.heap.size v7 pu):=hJJ (D1.out.trans (pD.out.mono D1.out.size))
  clear D1 C1 pD
  go_wp2_with (refine lgZ 32 ⟨ub,0,none⟩ cv rfl (LV.out _ DU.out) Tryz.underlying32 IV.out ?_)
  refine (RV.out _ DU.out).mono ?_
  rintro e u6 ⟨rfl,hb⟩
  have C1:=hJJ (pB.out.trans (hb.mono pB.out.size))
  have KB1:=hJJ ((hb.block _ (Array.getElem?_eq_some_iff.1 pKB.out).1).trans pKB.out)
  have KF1:=hJJ ((hb.block _ (Array.getElem?_eq_some_iff.1 pKF.out).1).trans pKF.out)
  clear hb RV pB pKB pKF DU LV
  have KB:=hJJ (heap_alloc2_old u6 (.cells zb 65) (.cells #[I 0,I 0] 37))
  have KF:=hJJ ((setRow_other ((u6.alloc (.cells zb 65)).alloc (.cells #[I 0,I 0] 37)) u6.heap.size (u6.heap.size+1) b3.toArray (by omega)).trans (heap_alloc2_new u6 (.cells zb 65) (.cells #[I 0,I 0] 37)))
  have qD:Hid (Below u6.heap.size u6 ((((u6.alloc (.cells zb 65)).alloc (.cells #[I 0,I 0] 37)).setRow u6.heap.size b3.toArray).setRow (u6.heap.size+1) #[I f1,I f2])):=hJJ (Same.below_setRow (Same.below_setRow (((Below.refl _ _).alloc (Nat.le_refl _) _).alloc (by simp) _) (Nat.le_refl _) _) (by omega) _)
  have qKF:=hJJ (setRow_heap _ (u6.heap.size+1) _ #[I f1,I f2] _ _ KF.out)
  have qKB:=hJJ ((setRow_other (((u6.alloc (.cells zb 65)).alloc (.cells #[I 0,I 0] 37)).setRow u6.heap.size b3.toArray) (u6.heap.size+1) u6.heap.size #[I f1,I f2] (by omega)).trans (setRow_heap _ u6.heap.size _ b3.toArray _ _ KB.out))
  go_upto_region 18 with (first | (refine wpList_store_row rfl 65 _ _ rfl u6.heap.size b3.toArray rfl rfl 65 _ KB.out (by rw [BZs.out];exact BdB.infoB) (by rw [ZBs.out,BZs.out]) HO.out ?_) | (refine wpList_store_row rfl 37 _ _ rfl (u6.heap.size+1) #[I f1,I f2] rfl rfl 37 _ KF.out BdB.infoF rfl (by simp [Value.oneCell']) ?_))
  generalize (((u6.alloc (.cells zb 65)).alloc (.cells #[I 0,I 0] 37)).setRow u6.heap.size b3.toArray).setRow (u6.heap.size+1) #[I f1,I f2]=qu at qD qKB qKF ⊢
  have qB:=hJJ (C1.out.trans (qD.out.mono C1.out.size))
  clear KB KF
  have L1:Hid (Lies qu ⟨u5.heap.size,0,none⟩ b3):=hJJ (by have:=Row.lies_of_block ((qD.out.block _ (Array.getElem?_eq_some_iff.1 KB1.out).1).trans KB1.out);simpa using this)
  have L2:Hid (Lies qu ⟨(u5.heap.size+1),0,none⟩ [I f1,I f2]):=hJJ (by have:=Row.lies_of_block ((qD.out.block _ (Array.getElem?_eq_some_iff.1 KF1.out).1).trans KF1.out);simpa using this)
  have L3:Hid (Lies qu ⟨u6.heap.size,0,none⟩ b3):=hJJ (by have:=Row.lies_of_block qKB.out;simpa using this)
  have L4:Hid (Lies qu ⟨(u6.heap.size+1),0,none⟩ [I f1,I f2]):=hJJ (by have:=Row.lies_of_block qKF.out;simpa using this)
  clear KB1 KF1 qKB qKF C1 qD hzb
  generalize u5.heap.size=s5 at *
  generalize u6.heap.size=s6 at *
  go_wp2_with (first | (refine lgZ 65 ⟨s5,0,none⟩ b3 rfl L1.out Tryz.underlying65 IB.out ?_) | (refine lgZ 65 ⟨s6,0,none⟩ b3 rfl L3.out Tryz.underlying65 IB.out ?_) | (refine lgZ 37 ⟨s5+1,0,none⟩ [I f1,I f2] rfl L2.out Tryz.underlying37 BdB.infoF ?_) | (refine lgZ 37 ⟨s6+1,0,none⟩ [I f1,I f2] rfl L4.out Tryz.underlying37 BdB.infoF ?_) | (refine Row.wpList_eql 65 _ _ _ rfl (by rfl) b3.toArray b3.toArray rfl rfl guardB true BE.out ?_) | (refine Row.wpList_eql 37 _ _ _ rfl (by rfl) #[I f1,I f2] #[I f1,I f2] rfl rfl ChkK.guardF true FE.out ?_))
  refine (Wa10.awake_any _).mono ?_
  rintro e u9 ⟨rfl,hb⟩
  have E:=hJJ (qB.out.trans (hb.mono qB.out.size))
  clear hb
  go_wp2
  go_ret
  exact ⟨rfl,E.out⟩
 ·have h15:=G15.out hn0
  have hg:(decide ((n:Int) > 0))=true:=by simp;omega
  have hp:0 < n:=Nat.pos_of_ne_zero hn0
  subst h15
  clear G15 hn0
  go_upto_region 11 with fail
  clear hg hp
  go_upto_region 12 with (first | (refine lgZ 32 ⟨tb,0,none⟩ c rfl LT3.out Tryz.underlying32 IA.out ?_) | (refine wpList_store_row rfl 32 _ _ rfl ub c.toArray rfl rfl 32 _ KB.out (by rw [List.size_toArray];exact IA.out) (by rw [List.size_toArray,List.size_toArray,CS,CU]) ON ?_))
  clear cg c114 LT3 KB rB
  generalize ru.setRow ub c.toArray=v3 at KU4 C5 ⊢
  have cs:=Ky.at_share KU4.out
  have fs:=KU4.out.frozen 130
  have KU5:=hJJ (Ky.put_share KU4.out (bits .and .i64 a1 2147483647))
  have C6:=hJJ (Owned.below_write C5.out (g:=ub) (i:=130) WQ.out (I (bits .and .i64 a1 2147483647)))
  go_upto_region 13 with fail
  generalize v3.setCell ⟨ub,130,none⟩ (I (bits .and .i64 a1 2147483647))=v4 at KU5 C6 ⊢
  generalize bits .and .i64 a1 2147483647=sh at KU5
  clear cs fs KU4 C5
  have cs:=Ky.at_window KU5.out
  have fs:=KU5.out.frozen 129
  have KU6:=hJJ (Ky.put_window KU5.out 2147483647)
  have C7:=hJJ (Owned.below_write C6.out (g:=ub) (i:=129) WQ.out (I 2147483647))
  go_upto_region 14 with fail
  generalize v4.setCell ⟨ub,129,none⟩ (I 2147483647)=v5 at KU6 C7 ⊢
  clear cs fs KU5 C6
  go_wp2_with fail
  refine (RefS.place_any a3 8 _ (by decide) (by decide)).mono ?_
  rintro e w' ⟨rfl,rfl⟩
  obtain ⟨k,ek,k8⟩:∃ k:Nat,a3 % 8=(k:Int)∧k < 8:=⟨(a3 % 8).toNat,by omega,by omega⟩
  rw [ek]
  clear ek
  clear w3
  obtain ⟨u,hu⟩:∃ x,T.phases[k]?=some x:=⟨_,List.getElem?_eq_getElem (by rw [GL.out.h8];exact k8)⟩
  have HU:Hid (({ { T with share:=sh } with window:=2147483647 }:Tab).phases[k]?=some u):=hJJ hu
  have ki:(k:Int) < 8:=by omega
  clear hu
  go_upto_region 15 with fail
  have PL:Hid (∀ W,Calls Tryz.prog 13 #[.int .i64 a2,.int .i64 10000] W fun e w'=>e=.returned (.int .i64 (a2 % 10000))∧w'=W):=hJJ (fun W=>(RefS.place_any a2 10000 W (by decide) (by decide)).mono (by rintro e w' ⟨rfl,rfl⟩;exact ⟨rfl,rfl⟩))
  generalize a2 % 10000=d4 at PL
  refine QB.region_tail 12 (by kernel_rfl) (by kernel_rfl) ?_
  have KU7:=hJJ (KU6.out.step (Below.refl _ _).drew)
  have C8:=hJJ C7.out.drew
  generalize World.drew v5=v6 at KU7 C8 ⊢
  clear KU6 C7
  have c3:v6.cell? ⟨ub,k*13+3,none⟩=some (I u.max):=by rw [Ky.cell_at KU7.out HU.out (by omega)];rfl
  have c4:v6.cell? ⟨ub,k*13+4,none⟩=some (I u.top):=by rw [Ky.cell_at KU7.out HU.out (by omega)];rfl
  have ff:v6.frozen? ⟨ub,k*13+4,none⟩=false:=KU7.out.frozen _
  simp only [List.take_succ_cons,List.take_zero,List.drop_succ_cons,List.drop_zero]
  repeat still_step
  still_call (PL.out _)
  repeat still_step
  refine wpStill_nil ?_
  go_upto_region 16 with fail
  obtain ⟨tv,htv⟩:∃ x,x=(if u.max < d4 then d4 else u.max):=⟨_,rfl⟩
  rw [← htv]
  clear htv
  have KU8:=hJJ (Ky.put KU7.out HU.out (j:=4) (by omega) (v:=I tv) (x:={ u with top:=tv }) rfl)
  have C9:=hJJ (Owned.below_write C8.out (g:=ub) (i:=k*13+4) WQ.out (I tv))
  generalize v6.setCell ⟨ub,k*13+4,none⟩ (I tv)=v7 at KU8 C9 ⊢
  clear KU7 C8 c3 c4 ff PL ki k8 HU GL
  have SM2:Hid (Few { { { T with share:=sh } with window:=2147483647 } with phases:=T.phases.set k { u with top:=tv } }):=hJJ ⟨G8.out.groups,G8.out.rows⟩
  have KU9:Hid (Kx.Kx u0 ub hd { { { T with share:=sh } with window:=2147483647 } with phases:=T.phases.set k { u with top:=tv } } v7):=hJJ KU8.out
  clear KU8
  generalize ({ { { T with share:=sh } with window:=2147483647 } with phases:=T.phases.set k { u with top:=tv } }:Tab)=V at SM2 KU9
  obtain ⟨b3,f1,f2,BZs,HO,BE,FE,PV,RV⟩:∃ (b3:List Value) (f1 f2:Int),Hid (b3.toArray.size=12)∧Hid (b3.toArray.all (·.oneCell')=true)∧Hid (Same.Eqs 65 b3 b3 true)∧Hid (Same.Eqs 37 [I f1,I f2] [I f1,I f2] true)∧Hid (∀ W,Below v7.heap.size v7 W→Calls Tryz.prog 37 #[.agg (V.cells hd).toArray] W fun e w'=>e=.returned (.tuple #[.agg b3.toArray,.agg #[I f1,I f2]])∧Below W.heap.size W w')∧Hid (∀ W,Below v7.heap.size v7 W→Calls Tryz.prog 38 #[.agg (V.cells hd).toArray] W fun e w'=>e=.returned (.tuple #[.agg b3.toArray,.agg #[I f1,I f2]])∧Below W.heap.size W w') :=
   ⟨(BdB.allB V).map I,(BdB.allF V).1,(BdB.allF V).2,hJJ (by rw [List.size_toArray,List.length_map,allB_len]),hJJ (by simp [Value.oneCell']),hJJ (by have:=bounds_eqs (BdB.allB V) (BdB.allB V) (allB_len V) (allB_len V);rwa [decide_eq_true rfl] at this),hJJ (by have:=ChkK.fault_eqs (BdB.allF V).1 (BdB.allF V).2 (BdB.allF V).1 (BdB.allF V).2;rwa [decide_eq_true (by simp)] at this),
    hJJ (fun W hb=>BdL.pall_any V hd W (KU9.out.step hb).isTab SM2.out),hJJ (fun W hb=>BdR.rall_any V hd W (KU9.out.step hb).isTab SM2.out)⟩
  have LV:Hid (∀ W,Below v7.heap.size v7 W→Lies W ⟨ub,0,none⟩ (V.cells hd)):=hJJ (fun W hb=>(KU9.out.step hb).lies)
  have IV:Hid ((Tryz.prog.info? 32).map (·.size)=some (V.cells hd).length):=hJJ (by rw [cells_cut hd KU9.out.tab.ph KU9.out.tab.cf KU9.out.tab.fl];exact infoT)
  clear KU9 SM2
  generalize V.cells hd=cv at *
  have IB:Hid ((Tryz.prog.info? 65).map (·.size)=some b3.length):=hJJ (by have:=BZs.out;rw [List.size_toArray] at this;rw [this];exact BdB.infoB)
  go_wp2_with (refine lgZ 32 ⟨ub,0,none⟩ cv rfl (LV.out _ (Below.refl _ _)) Tryz.underlying32 IV.out ?_)
  refine (PV.out _ (Below.refl _ _)).mono ?_
  rintro e u5 ⟨rfl,hb⟩
  have C1:=hJJ (C9.out.trans (hb.mono C9.out.size))
  have D1:=hJJ hb
  clear hb PV C9
  have KB:=hJJ (heap_alloc2_old u5 (.cells zb 65) (.cells #[I 0,I 0] 37))
  have KF:=hJJ ((setRow_other ((u5.alloc (.cells zb 65)).alloc (.cells #[I 0,I 0] 37)) u5.heap.size (u5.heap.size+1) b3.toArray (by omega)).trans (heap_alloc2_new u5 (.cells zb 65) (.cells #[I 0,I 0] 37)))
  have pD:Hid (Below u5.heap.size u5 ((((u5.alloc (.cells zb 65)).alloc (.cells #[I 0,I 0] 37)).setRow u5.heap.size b3.toArray).setRow (u5.heap.size+1) #[I f1,I f2])):=hJJ (Same.below_setRow (Same.below_setRow (((Below.refl _ _).alloc (Nat.le_refl _) _).alloc (by simp) _) (Nat.le_refl _) _) (by omega) _)
  have pKF:=hJJ (setRow_heap _ (u5.heap.size+1) _ #[I f1,I f2] _ _ KF.out)
  have pKB:=hJJ ((setRow_other (((u5.alloc (.cells zb 65)).alloc (.cells #[I 0,I 0] 37)).setRow u5.heap.size b3.toArray) (u5.heap.size+1) u5.heap.size #[I f1,I f2] (by omega)).trans (setRow_heap _ u5.heap.size _ b3.toArray _ _ KB.out))
  go_upto_region 17 with (first | (refine wpList_store_row rfl 65 _ _ rfl u5.heap.size b3.toArray rfl rfl 65 _ KB.out (by rw [BZs.out];exact BdB.infoB) (by rw [ZBs.out,BZs.out]) HO.out ?_) | (refine wpList_store_row rfl 37 _ _ rfl (u5.heap.size+1) #[I f1,I f2] rfl rfl 37 _ KF.out BdB.infoF rfl (by simp [Value.oneCell']) ?_))
  generalize (((u5.alloc (.cells zb 65)).alloc (.cells #[I 0,I 0] 37)).setRow u5.heap.size b3.toArray).setRow (u5.heap.size+1) #[I f1,I f2]=pu at pD pKB pKF ⊢
  have pB:=hJJ (C1.out.trans (pD.out.mono C1.out.size))
  clear KB KF
  have DU:Hid (Below v7.heap.size v7 pu):=hJJ (D1.out.trans (pD.out.mono D1.out.size))
  clear D1 C1 pD
  go_wp2_with (refine lgZ 32 ⟨ub,0,none⟩ cv rfl (LV.out _ DU.out) Tryz.underlying32 IV.out ?_)
  refine (RV.out _ DU.out).mono ?_
  rintro e u6 ⟨rfl,hb⟩
  have C1:=hJJ (pB.out.trans (hb.mono pB.out.size))
  have KB1:=hJJ ((hb.block _ (Array.getElem?_eq_some_iff.1 pKB.out).1).trans pKB.out)
  have KF1:=hJJ ((hb.block _ (Array.getElem?_eq_some_iff.1 pKF.out).1).trans pKF.out)
  clear hb RV pB pKB pKF DU LV
  have KB:=hJJ (heap_alloc2_old u6 (.cells zb 65) (.cells #[I 0,I 0] 37))
  have KF:=hJJ ((setRow_other ((u6.alloc (.cells zb 65)).alloc (.cells #[I 0,I 0] 37)) u6.heap.size (u6.heap.size+1) b3.toArray (by omega)).trans (heap_alloc2_new u6 (.cells zb 65) (.cells #[I 0,I 0] 37)))
  have qD:Hid (Below u6.heap.size u6 ((((u6.alloc (.cells zb 65)).alloc (.cells #[I 0,I 0] 37)).setRow u6.heap.size b3.toArray).setRow (u6.heap.size+1) #[I f1,I f2])):=hJJ (Same.below_setRow (Same.below_setRow (((Below.refl _ _).alloc (Nat.le_refl _) _).alloc (by simp) _) (Nat.le_refl _) _) (by omega) _)
  have qKF:=hJJ (setRow_heap _ (u6.heap.size+1) _ #[I f1,I f2] _ _ KF.out)
  have qKB:=hJJ ((setRow_other (((u6.alloc (.cells zb 65)).alloc (.cells #[I 0,I 0] 37)).setRow u6.heap.size b3.toArray) (u6.heap.size+1) u6.heap.size #[I f1,I f2] (by omega)).trans (setRow_heap _ u6.heap.size _ b3.toArray _ _ KB.out))
  go_upto_region 18 with (first | (refine wpList_store_row rfl 65 _ _ rfl u6.heap.size b3.toArray rfl rfl 65 _ KB.out (by rw [BZs.out];exact BdB.infoB) (by rw [ZBs.out,BZs.out]) HO.out ?_) | (refine wpList_store_row rfl 37 _ _ rfl (u6.heap.size+1) #[I f1,I f2] rfl rfl 37 _ KF.out BdB.infoF rfl (by simp [Value.oneCell']) ?_))
  generalize (((u6.alloc (.cells zb 65)).alloc (.cells #[I 0,I 0] 37)).setRow u6.heap.size b3.toArray).setRow (u6.heap.size+1) #[I f1,I f2]=qu at qD qKB qKF ⊢
  have qB:=hJJ (C1.out.trans (qD.out.mono C1.out.size))
  clear KB KF
  have L1:Hid (Lies qu ⟨u5.heap.size,0,none⟩ b3):=hJJ (by have:=Row.lies_of_block ((qD.out.block _ (Array.getElem?_eq_some_iff.1 KB1.out).1).trans KB1.out);simpa using this)
  have L2:Hid (Lies qu ⟨(u5.heap.size+1),0,none⟩ [I f1,I f2]):=hJJ (by have:=Row.lies_of_block ((qD.out.block _ (Array.getElem?_eq_some_iff.1 KF1.out).1).trans KF1.out);simpa using this)
  have L3:Hid (Lies qu ⟨u6.heap.size,0,none⟩ b3):=hJJ (by have:=Row.lies_of_block qKB.out;simpa using this)
  have L4:Hid (Lies qu ⟨(u6.heap.size+1),0,none⟩ [I f1,I f2]):=hJJ (by have:=Row.lies_of_block qKF.out;simpa using this)
  clear KB1 KF1 qKB qKF C1 qD hzb
  generalize u5.heap.size=s5 at *
  generalize u6.heap.size=s6 at *
  go_wp2_with (first | (refine lgZ 65 ⟨s5,0,none⟩ b3 rfl L1.out Tryz.underlying65 IB.out ?_) | (refine lgZ 65 ⟨s6,0,none⟩ b3 rfl L3.out Tryz.underlying65 IB.out ?_) | (refine lgZ 37 ⟨s5+1,0,none⟩ [I f1,I f2] rfl L2.out Tryz.underlying37 BdB.infoF ?_) | (refine lgZ 37 ⟨s6+1,0,none⟩ [I f1,I f2] rfl L4.out Tryz.underlying37 BdB.infoF ?_) | (refine Row.wpList_eql 65 _ _ _ rfl (by rfl) b3.toArray b3.toArray rfl rfl guardB true BE.out ?_) | (refine Row.wpList_eql 37 _ _ _ rfl (by rfl) #[I f1,I f2] #[I f1,I f2] rfl rfl ChkK.guardF true FE.out ?_))
  refine (Wa10.awake_any _).mono ?_
  rintro e u9 ⟨rfl,hb⟩
  have E:=hJJ (qB.out.trans (hb.mono qB.out.size))
  clear hb
  go_wp2
  go_ret
  exact ⟨rfl,E.out⟩
theorem lifted (os:Os) (started:os.Started) (H:Type) (enc:TypeId × Value→H) :
  ReturnsInHanded {} Tryz.checked os 9 .any (Rows.boundGoodSpec.pre6 enc Tryz.prog Tryz.f9 Rows.boundGoodRow.domain false) (Rows.boundGoodSpec.post enc Tryz.prog Tryz.f9 false true false false):=by
 refine returnsInHanded_of_change (C:=Tryz.checked) own started (by kernel_rfl) Tryz.func9
  (ChangeSpec.witness6 (enc:=enc) (C:=Tryz.checked) false ⟨#[],#[.slice none 0 0,.int .i64 0,.int .i64 0,.int .i64 0],[]⟩ 8 (by kernel_rfl) (by kernel_rfl) (by kernel_rfl) (by kernel_rfl)) ?_
 intro W base args ds gs before hval0 hW hcnd _
 have hval:∀ (j:Nat) t v,Tryz.f9.params[j]?=some t→args[j]?=some v→Value.okWide Tryz.prog W .any base t v:=hval0
 have hW':=hW
 obtain ⟨p,q,hA0,hV,rfl,hfz,hnd⟩:=hW
 have hA:DataW.TrodAll enc Tryz.prog W 0 (fun _=>true) true Tryz.f9.params.toList args.toList ds p:=hA0
 rw [Tryz.params9] at hA hval
 obtain ⟨v0,vs0,d0,ds0,p0,q0,hargs,rfl,rfl,h0,r0⟩:=trodAll_cons hA
 obtain ⟨v1,vs1,d1,ds1,p1,q1,rfl,rfl,rfl,h1,r1⟩:=trodAll_cons r0
 obtain ⟨v2,vs2,d2,ds2,p2,q2,rfl,rfl,rfl,h2,r2⟩:=trodAll_cons r1
 obtain ⟨v3,vs3,d3,ds3,p3,q3,rfl,rfl,rfl,h3,r3⟩:=trodAll_cons r2
 obtain ⟨rfl,rfl,rfl⟩:=trodAll_nil r3
 obtain rfl:args=#[v0,v1,v2,v3]:=by cases args;simp_all
 obtain ⟨rfl,rfl⟩:=trodVars_none hV
 obtain ⟨a0,len0,cap0,rfl⟩:=okWide_slice Tryz.underlying22 (hval 0 22 v0 rfl rfl)
 have k0:=h0
 have lt0:∀ x ∈ p0,x.block < W.heap.size:=by obtain ⟨m,hm⟩:=k0;exact DataW.trod_lt m _ _ _ hm
 obtain ⟨z0,w0⟩:∃ zs,IsRow .i64 W a0 len0 cap0 zs:=by
  obtain ⟨fuel,hf⟩:=h0
  rcases open_ints Tryz.underlying22 Tryz.underlying3 (by kernel_rfl) hf with ⟨hcs,_⟩ | ⟨x,l,c,zs,hcs,_,hl,hm,hz,_,hcell,hwz⟩
  ·simp [Value.cells] at hcs
   obtain ⟨rfl,rfl,rfl⟩:=hcs
   exact ⟨[],.inl ⟨rfl,rfl,rfl,rfl⟩⟩
  ·simp [Value.cells] at hcs
   obtain ⟨rfl,rfl,rfl⟩:=hcs
   exact ⟨zs,.inr ⟨_,rfl,hl,hm,by simpa using hz,hcell,hwz⟩⟩
 obtain ⟨a1,rfl,rfl,rfl,w1⟩:=open_int Tryz.underlying3 (hval 1 3 v1 rfl rfl) h1
 obtain ⟨a2,rfl,rfl,rfl,w2⟩:=open_int Tryz.underlying3 (hval 2 3 v2 rfl rfl) h2
 obtain ⟨a3,rfl,rfl,rfl,w3⟩:=open_int Tryz.underlying3 (hval 3 3 v3 rfl rfl) h3
 clear hA0 hval0
 refine (walk a0 len0 cap0 z0 a1 a2 a3 W w0 w1 w2 w3).mono fun e W' ⟨he,bel⟩=>?_
 subst he
 exact ⟨_,rfl,_,_,_,[],_,[],hW',trodAll_mk1 (shut_bool Tryz.underlying4 _),(trodAll_cons_mk (Below.trod laidOut (by kernel_rfl) (of_decide_eq_true (by kernel_rfl)) k0 bel lt0) (trodAll_cons_mk (shut_int Tryz.underlying3 w1) (trodAll_cons_mk (shut_int Tryz.underlying3 w2) (trodAll_cons_mk (shut_int Tryz.underlying3 w3) trodAll_mk0)))),rfl,bel.frame _,fun h=>by cases h⟩
theorem over:Rows.boundGoodRow.holds Tryz.pinned (OpenSpec.ofChange Rows.boundGoodSpec) :=
 OpenClaim.holds_of_wide 9 Tryz.f9 rfl rfl rfl rfl rfl rfl rfl ⟨rfl,rfl,rfl,rfl,rfl⟩ rfl rfl rfl rfl rfl (by kernel_rfl) Tryz.func9 (by kernel_rfl)
  (of_decide_eq_true (by kernel_rfl)) (by unfold Func.isWrapper;first | (rw [if_pos (by decide +kernel)];kernel_rfl) | (rw [if_neg (by decide +kernel)];exact ⟨rfl,rfl⟩))
  (fun os started H enc _=>lifted os started H enc)
theorem proved:Rows.BoundGoodSaid :=
 over
#print axioms proved
end boundGood
end Go.Proofs.YtjolhoilcibdfaaGreat
