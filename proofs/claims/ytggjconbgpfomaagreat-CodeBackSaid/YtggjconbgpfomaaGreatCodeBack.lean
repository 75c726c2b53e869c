/- CodeBack returns true at any numbers of a table: a table's bytes are decoded as the table, with every number in its place, and are at most MaxBytes. No condition. -/
import Derived.Test.YtggjconbgpfomaaGreatRows
import Derived.Test.YtggjconbgpfomaaGreatPart04
import Derived.Test.YtggjconbgpfomaaGreatPart07
import Derived.Test.YtggjconbgpfomaaGreatPart11
import Derived.Test.YtggjconbgpfomaaGreatPart12
import Derived.Test.YtggjconbgpfomaaGreatPart13
import Derived.Test.YtggjconbgpfomaaGreatPart01
import Derived.Deep.Cut
import Derived.LoopTactic
import Derived.BigQuiet
import Derived.WalkKit
import Derived.WalkLawsBesides
import Derived.ProofKit
import Derived.OpenShut
import Derived.ShutString
import Derived.ChangeOld
import Derived.Below
set_option linter.unusedVariables false
set_option linter.unusedSimpArgs false
set_option linter.unusedSectionVars false
set_option maxHeartbeats 8000000
set_option maxRecDepth 100000
namespace Go.Proofs.YtggjconbgpfomaaGreat
namespace codeBack
open Go.ChangeShapes Go.WideShapes Go.ChangeAt Go.RowKit
open Tab Po
open GenT (genTab)
open Cd (bodyB sealB)
open May (tabMay)
open By (Len8 fitT)
theorem own:ownKnob Tryz.prog.godebug=none:=by kernel_rfl
theorem laidOut:laidOutB Tryz.prog=true:=by kernel_rfl
def IsRow (k:IntKind) (w:World) (a:Option Addr) (len cap:Nat) (zs:List Int):Prop :=
 (a=none∧len=0∧cap=0∧zs=[]) ∨
 ∃ x,a=some x∧len≤cap∧cap≤maxLen∧zs.length=cap∧(∀ i,i < zs.length→w.cell? (x.add i)=some (.int k (zs.getD i 0)))∧∀ n ∈ zs,(Lit.int k n).wf=true
theorem isRow_int {w:World} {a:Option Addr} {len cap:Nat} {zs:List Int} (h:IsRow .i64 w a len cap zs):(zs.take len).length=len∧Tab.IntRow w ⟨a,cap⟩ (zs.take len):=by
 rcases h with ⟨rfl,rfl,rfl,rfl⟩ | ⟨x,rfl,h1,h2,h3,h4,_⟩
 ·exact ⟨rfl,.inl ⟨rfl,rfl,rfl⟩⟩
 ·have hl:(zs.take len).length=len:=by rw [List.length_take];omega
  refine ⟨hl,.inr ⟨x,rfl,by rw [hl];exact h1,h2,fun i v hv j u hu=>?_⟩⟩
  have hi:i < len:=by have:=(List.getElem?_eq_some_iff.1 hv).1;omega
  match j,hu with
  | 0,hu =>
   simp at hu
   subst hu
   rw [List.getElem?_take,if_pos hi] at hv
   have:=h4 i (by omega)
   rw [List.getD_eq_getElem?_getD,hv] at this
   rw [Nat.mul_one,Tab.add_two,Nat.add_zero]
   exact this
  | j+1,hu=>simp at hu
theorem walk (a0:Option Addr) (len0 cap0:Nat) (z0:List Int) (w:World) (w0:IsRow .i64 w a0 len0 cap0 z0) :
  Calls Tryz.prog 5 #[.slice a0 len0 cap0] w fun e w'=>e=.returned (.bool true)∧Below w.heap.size w w':=by
 obtain ⟨hlen,hrow⟩:=isRow_int w0
 obtain ⟨L,hL⟩:∃ L,L=z0.take len0:=⟨_,rfl⟩
 rw [← hL] at hlen hrow
 clear hL w0
 subst hlen
 have hz:=(zero_of_info GenT.infoTz).1
 have hZs:(Clone.zTab.cells Clone.zHd).length=131:=rfl
 generalize hZ:GenT.zTab.cells GenT.zHd=Z at *
 have ZS:Z.toArray.size=131:=by rw [← hZ];rfl
 clear hZ hZs
 have GM:Hid (tabMay (genTab L)=true):=Lib.hid (GenT.gen_may L)
 have GF:Hid (fitT (genTab L)):=Lib.hid (By.gen_fit L)
 have GS:Hid (Len8 (genTab L)→(sealB (bodyB (genTab L))).length≤1000):=Lib.hid (By.gen_small L)
 go_enter Tryz.func5,Tryz.ntmps5
 go_wp2_with fail
 refine (GenT.table_any a0 cap0 L w hrow).mono ?_
 rintro e u0 ⟨hd,rfl,ht,hb⟩
 have CS:=GenT.cells_cut hd ht.ph ht.cf ht.fl
 have ONE:=(cells_ok ht).one
 have T8:=Lib.hid ht.ph
 have HT:Hid (∀ W,Below u0.heap.size u0 W→IsTab W hd (genTab L)):=Lib.hid (fun W hb=>ht.below hb)
 have B0:=Lib.hid hb
 have IA:Hid ((Tryz.prog.info? 31).map (·.size)=some ((genTab L).cells hd).length):=Lib.hid (by rw [CS];exact May.infoT)
 clear hb ht
 generalize hc:(genTab L).cells hd=c at *
 have HC:=Lib.hid hc
 clear hc
 go_upto_region 2 with (refine Row.wpList_store_new rfl 31 _ _ rfl u0 Z.toArray c.toArray rfl rfl rfl (by rw [List.size_toArray];exact IA.out) (by rw [ZS,List.size_toArray,CS]) ONE ?_)
 have hb2:Below u0.heap.size u0 (u0.alloc (.cells c.toArray 31)):=(Below.refl _ _).alloc (Nat.le_refl _) _
 have hl:Lies (u0.alloc (.cells c.toArray 31)) ⟨u0.heap.size,0,none⟩ c:=Row.lies_new _ _ _
 have TB0:Hid (∀ W,Below (u0.alloc (.cells c.toArray 31)).heap.size (u0.alloc (.cells c.toArray 31)) W→IsTab W hd (genTab L)):=Lib.hid (fun W hb=>HT.out W (hb2.trans (hb.mono hb2.size)))
 generalize u0.alloc (.cells c.toArray 31)=u at hb2 hl TB0 ⊢
 have TB:Hid (∀ W,Below u.heap.size u W→IsTab W hd (genTab L)):=TB0
 have A0:Hid (Below w.heap.size w u):=Lib.hid (B0.out.trans (hb2.mono B0.out.size))
 have A1:Hid (∀ W,Below u.heap.size u W→Lies W ⟨u0.heap.size,0,none⟩ c):=Lib.hid (fun W hb=>Lies.below hl hb)
 clear hb2 hl TB0 HT B0 hrow hz ZS ONE CS
 generalize u0.heap.size=tb at *
 generalize genTab L=T at *
 have H8:Hid (Len8 T):=Lib.hid ⟨(TB.out u (Below.refl _ _)).ph,(TB.out u (Below.refl _ _)).cf,(TB.out u (Below.refl _ _)).fl⟩
 have SM:Hid ((sealB (bodyB T)).length≤1000):=Lib.hid (GS.out H8.out)
 clear GS
 have hz:=(zero_of_info Clone.info31).1
 obtain ⟨Z,hZ⟩:∃ Z,(Clone.zTab.cells Clone.zHd).toArray=Z:=⟨_,rfl⟩
 have EZS:Hid (Z.size=131):=Lib.hid (by rw [← hZ];exact (cells_ok (Clone.z_is w)).size)
 rw [hZ] at hz
 have EZ:=Lib.hid hZ
 clear hZ
 obtain ⟨bs,hbs⟩:∃ l,sealB (bodyB T)=l:=⟨_,rfl⟩
 have EC:Hid (∀ W,Below u.heap.size u W→Calls Tryz.prog 11 #[.agg c.toArray] W fun e w'=>∃ a cap,e=.returned (.tuple #[.slice a bs.length cap,I 0])∧B.Row w' a bs∧bs.length≤cap∧(a=none→cap=0)∧Below W.heap.size W w'):=Lib.hid (fun W hb=>by rw [← HC.out,← hbs];exact By.enc_bytes (TB.out W hb) GM.out)
 have DC:Hid (∀ W a cap,B.Row W a bs→bs.length≤cap→(a=none→cap=0)→Calls Tryz.prog 14 #[.slice a bs.length cap] W fun e w'=>∃ hd2,e=.returned (.tuple #[.agg (T.cells hd2).toArray,.agg #[I 0,I 0]])∧IsTab w' hd2 T∧Below W.heap.size W w'):=Lib.hid (fun W a cap hr hc hn=>by rw [← hbs] at hr hc ⊢;exact By.dec_back H8.out GM.out GF.out (by have:=SM.out;omega) hr hc hn)
 rw [hbs] at SM
 clear hbs
 go_wp2_with (refine Row.wpList_load_g 31 _ rfl (by first | rfl | (go_simp;done) | fail) ⟨tb,0,none⟩ rfl c _ (A1.out _ (Below.refl _ _)) Tryz.underlying31 rfl IA.out ?_)
 refine (EC.out u (Below.refl _ _)).mono ?_
 rintro e u1 ⟨a,cap,rfl,hrow,hcap,hnil,hb1⟩
 have B1:=Lib.hid hb1
 have HROW:=Lib.hid hrow
 have HCAP:=Lib.hid hcap
 have HNIL:=Lib.hid hnil
 clear hrow hcap hnil hb1 EC
 go_wp2_with fail
 refine (DC.out u1 a cap HROW.out HCAP.out HNIL.out).mono ?_
 rintro e u2 ⟨hd2,rfl,ht2,hb2⟩
 have hco:=cells_ok (ht2)
 have c2I:Hid ((Tryz.prog.info? 31).map (·.size)=some (T.cells hd2).length):=Lib.hid (by have:=hco.size;rw [List.size_toArray] at this;rw [this];exact May.infoT)
 have c2J:Hid ((Tryz.prog.info? 31).map (·.size)=some (T.cells hd2).toArray.size):=Lib.hid (by rw [hco.size];exact May.infoT)
 have c2S:Hid (Z.size=(T.cells hd2).toArray.size):=Lib.hid (by rw [EZS.out,hco.size])
 have c2O:=Lib.hid hco.one
 clear hco
 obtain ⟨c2,hc2⟩:∃ l,T.cells hd2=l:=⟨_,rfl⟩
 rw [hc2] at c2I c2J c2S c2O ⊢
 have c2E:=Lib.hid hc2
 clear hc2
 have B2:=Lib.hid (B1.out.trans (hb2.mono B1.out.size))
 have HT2:Hid (∀ W,Below u2.heap.size u2 W→IsTab W hd2 T):=Lib.hid (fun W hb=>ht2.below hb)
 clear ht2 hb2 DC HROW HNIL
 have KB:=Lib.hid (heap_alloc2_old u2 (.cells Z 31) (.cells #[I 0,I 0] 40))
 have KF:=Lib.hid ((setRow_other ((u2.alloc (.cells Z 31)).alloc (.cells #[I 0,I 0] 40)) u2.heap.size (u2.heap.size+1) c2.toArray (by omega)).trans (heap_alloc2_new u2 (.cells Z 31) (.cells #[I 0,I 0] 40)))
 have rD:Hid (Below u2.heap.size u2 ((((u2.alloc (.cells Z 31)).alloc (.cells #[I 0,I 0] 40)).setRow u2.heap.size c2.toArray).setRow (u2.heap.size+1) #[I 0,I 0])):=Lib.hid (Same.below_setRow (Same.below_setRow (((Below.refl _ _).alloc (Nat.le_refl _) _).alloc (by simp) _) (Nat.le_refl _) _) (by omega) _)
 have rKF:=Lib.hid (setRow_heap _ (u2.heap.size+1) _ #[I 0,I 0] _ _ KF.out)
 have rKB:=Lib.hid ((setRow_other (((u2.alloc (.cells Z 31)).alloc (.cells #[I 0,I 0] 40)).setRow u2.heap.size c2.toArray) (u2.heap.size+1) u2.heap.size #[I 0,I 0] (by omega)).trans (setRow_heap _ u2.heap.size _ c2.toArray _ _ KB.out))
 go_upto_region 4 with (first | (refine wpList_store_row rfl 31 _ _ rfl u2.heap.size c2.toArray rfl rfl 31 _ KB.out c2J.out c2S.out c2O.out ?_) | (refine wpList_store_row rfl 40 _ _ rfl (u2.heap.size+1) #[I 0,I 0] rfl rfl 40 _ KF.out Po.infoF rfl (by simp [Value.oneCell']) ?_))
 generalize (((u2.alloc (.cells Z 31)).alloc (.cells #[I 0,I 0] 40)).setRow u2.heap.size c2.toArray).setRow (u2.heap.size+1) #[I 0,I 0]=ru at rD rKB rKF ⊢
 have rB:=Lib.hid (B2.out.trans (rD.out.mono B2.out.size))
 generalize u2.heap.size+1=rf at rKF ⊢
 have rM:Hid (∀ W,Below u2.heap.size W W→True):=Lib.hid (fun _ _=>trivial)
 clear KB KF rM
 have RS:Hid (∀ W,Below ru.heap.size ru W→Calls Tryz.prog 17 #[.agg c.toArray,.agg c2.toArray] W fun e w'=>e=.returned (.bool true)∧Below W.heap.size W w'):=Lib.hid (fun W hb=>by
  have hu:=rB.out.trans (hb.mono rB.out.size)
  have h2:=HT2.out W (rD.out.trans (hb.mono rD.out.size))
  have:=Same.rsame_any T T hd hd2 W (TB.out W hu) h2
  rw [HC.out,c2E.out] at this
  rwa [show decide (T=T)=true by simp] at this)
 have k0:ru.cell? ⟨rf,0,none⟩=some (I 0):=by rw [cell_of_row _ _ _ _ _ _ rKF.out];rfl
 have hle:((bs.length:Nat):Int)≤2048:=by have:=SM.out;omega
 go_wp2_with (first | (refine Row.wpList_load_g 31 _ rfl (by first | rfl | (go_simp;done) | fail) ⟨tb,0,none⟩ rfl c _ (A1.out _ rB.out) Tryz.underlying31 rfl IA.out ?_) | (refine Row.wpList_load_g 31 _ rfl (by first | rfl | (go_simp;done) | fail) ⟨u2.heap.size,0,none⟩ rfl c2 _ (by have:=Row.lies_of_block rKB.out;simpa using this) Tryz.underlying31 rfl c2I.out ?_))
 refine (RS.out ru (Below.refl _ _)).mono ?_
 rintro e u4 ⟨rfl,b4⟩
 have B4:=Lib.hid (rB.out.trans (b4.mono rB.out.size))
 clear b4 k0
 go_wp2_with fail
 refine (Rr.awake_any _).mono ?_
 rintro e u9 ⟨rfl,b9⟩
 go_wp2
 go_ret
 exact ⟨rfl,A0.out.trans ((B4.out.trans (b9.mono B4.out.size)).mono A0.out.size)⟩
theorem lifted (os:Os) (started:os.Started) (H:Type) (enc:TypeId × Value→H) :
  ReturnsInHanded {} Tryz.checked os 5 .any (Rows.codeBackSpec.pre6 enc Tryz.prog Tryz.f5 Rows.codeBackRow.domain false) (Rows.codeBackSpec.post enc Tryz.prog Tryz.f5 false true false false):=by
 refine returnsInHanded_of_change (C:=Tryz.checked) own started (by kernel_rfl) Tryz.func5
  (ChangeSpec.witness6 (enc:=enc) (C:=Tryz.checked) false ⟨#[],#[.slice none 0 0],[]⟩ 8 (by kernel_rfl) (by kernel_rfl) (by kernel_rfl) (by kernel_rfl)) ?_
 intro W base args ds gs before hval0 hW hcnd _
 have hval:∀ (j:Nat) t v,Tryz.f5.params[j]?=some t→args[j]?=some v→Value.okWide Tryz.prog W .any base t v:=hval0
 have hW':=hW
 obtain ⟨p,q,hA0,hV,rfl,hfz,hnd⟩:=hW
 have hA:DataW.TrodAll enc Tryz.prog W 0 (fun _=>true) true Tryz.f5.params.toList args.toList ds p:=hA0
 rw [Tryz.params5] at hA hval
 obtain ⟨v0,vs0,d0,ds0,p0,q0,hargs,rfl,rfl,h0,r0⟩:=trodAll_cons hA
 obtain ⟨rfl,rfl,rfl⟩:=trodAll_nil r0
 obtain rfl:args=#[v0]:=by cases args;simp_all
 obtain ⟨rfl,rfl⟩:=trodVars_none hV
 obtain ⟨a0,len0,cap0,rfl⟩:=okWide_slice Tryz.underlying46 (hval 0 46 v0 rfl rfl)
 have k0:=h0
 have lt0:∀ x ∈ p0,x.block < W.heap.size:=by obtain ⟨m,hm⟩:=k0;exact DataW.trod_lt m _ _ _ hm
 obtain ⟨z0,w0⟩:∃ zs,IsRow .i64 W a0 len0 cap0 zs:=by
  obtain ⟨fuel,hf⟩:=h0
  rcases open_ints Tryz.underlying46 Tryz.underlying3 (by kernel_rfl) hf with ⟨hcs,_⟩ | ⟨x,l,c,zs,hcs,_,hl,hm,hz,_,hcell,hwz⟩
  ·simp [Value.cells] at hcs
   obtain ⟨rfl,rfl,rfl⟩:=hcs
   exact ⟨[],.inl ⟨rfl,rfl,rfl,rfl⟩⟩
  ·simp [Value.cells] at hcs
   obtain ⟨rfl,rfl,rfl⟩:=hcs
   exact ⟨zs,.inr ⟨_,rfl,hl,hm,by simpa using hz,hcell,hwz⟩⟩
 clear hA0 hval0
 refine (walk a0 len0 cap0 z0 W w0).mono fun e W' ⟨he,bel⟩=>?_
 subst he
 exact ⟨_,rfl,_,_,_,[],_,[],hW',trodAll_mk1 (shut_bool Tryz.underlying4 _),(trodAll_cons_mk (Below.trod laidOut (by kernel_rfl) (of_decide_eq_true (by kernel_rfl)) k0 bel lt0) trodAll_mk0),rfl,bel.frame _,fun h=>by cases h⟩
theorem over:Rows.codeBackRow.holds Tryz.pinned (OpenSpec.ofChange Rows.codeBackSpec) :=
 OpenClaim.holds_of_wide 5 Tryz.f5 rfl rfl rfl rfl rfl rfl rfl ⟨rfl,rfl,rfl,rfl,rfl⟩ rfl rfl rfl rfl rfl (by kernel_rfl) Tryz.func5 (by kernel_rfl)
  (of_decide_eq_true (by kernel_rfl)) (by unfold Func.isWrapper;first | (rw [if_pos (by decide +kernel)];kernel_rfl) | (rw [if_neg (by decide +kernel)];exact ⟨rfl,rfl⟩))
  (fun os started H enc _=>lifted os started H enc)
theorem proved:Rows.CodeBackSaid :=
 over
#print axioms proved
end codeBack
end Go.Proofs.YtggjconbgpfomaaGreat
