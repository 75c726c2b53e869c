/- CodeSpoilt returns true at any numbers of a table and any three bits: a table's bytes with one to three bits turned are not decoded. No condition. -/
import Derived.Test.YtggjconbgpfomaaGreatRows
import Derived.Test.YtggjconbgpfomaaGreatPart04
import Derived.Test.YtggjconbgpfomaaGreatPart07
import Derived.Test.YtggjconbgpfomaaGreatPart11
import Derived.Test.YtggjconbgpfomaaGreatPart12
import Derived.Test.YtggjconbgpfomaaGreatPart01
import Derived.Deep.Cut
import Derived.LoopTactic
import Derived.BigQuiet
import Derived.Test.YtggjconbgpfomaaGreatPart13
import Derived.Test.YtggjconbgpfomaaGreatPart06
import Derived.WalkKit
import Derived.WalkLawsBesides
import Derived.ProofKit
import Derived.OpenShut
import Derived.ShutString
import Derived.ChangeOld
import Derived.Below
set_option linter.unusedVariables false
set_option linter.unusedSimpArgs false
set_option linter.unusedSectionVars false
set_option maxHeartbeats 8000000
set_option maxRecDepth 100000
namespace Go.Proofs.YtggjconbgpfomaaGreat
namespace codeSpoilt
open Go.ChangeShapes Go.WideShapes Go.ChangeAt Go.RowKit
open Tab Po
open GenT (genTab)
open Cd (bodyB sealB)
open May (tabMay)
open By (Len8 fitT)
theorem own:ownKnob Tryz.prog.godebug=none:=by kernel_rfl
theorem laidOut:laidOutB Tryz.prog=true:=by kernel_rfl
def IsRow (k:IntKind) (w:World) (a:Option Addr) (len cap:Nat) (zs:List Int):Prop :=
 (a=none∧len=0∧cap=0∧zs=[]) ∨
 ∃ x,a=some x∧len≤cap∧cap≤maxLen∧zs.length=cap∧(∀ i,i < zs.length→w.cell? (x.add i)=some (.int k (zs.getD i 0)))∧∀ n ∈ zs,(Lit.int k n).wf=true
theorem isRow_int {w:World} {a:Option Addr} {len cap:Nat} {zs:List Int} (h:IsRow .i64 w a len cap zs):(zs.take len).length=len∧Tab.IntRow w ⟨a,cap⟩ (zs.take len):=by
 rcases h with ⟨rfl,rfl,rfl,rfl⟩ | ⟨x,rfl,h1,h2,h3,h4,_⟩
 ·exact ⟨rfl,.inl ⟨rfl,rfl,rfl⟩⟩
 ·have hl:(zs.take len).length=len:=by rw [List.length_take];omega
  refine ⟨hl,.inr ⟨x,rfl,by rw [hl];exact h1,h2,fun i v hv j u hu=>?_⟩⟩
  have hi:i < len:=by have:=(List.getElem?_eq_some_iff.1 hv).1;omega
  match j,hu with
  | 0,hu =>
   simp at hu
   subst hu
   rw [List.getElem?_take,if_pos hi] at hv
   have:=h4 i (by omega)
   rw [List.getD_eq_getElem?_getD,hv] at this
   rw [Nat.mul_one,Tab.add_two,Nat.add_zero]
   exact this
  | j+1,hu=>simp at hu
theorem walk (a0:Option Addr) (len0 cap0:Nat) (z0:List Int) (a1:Int) (a2:Int) (a3:Int) (w:World) (w0:IsRow .i64 w a0 len0 cap0 z0) (w1:(Lit.int .i64 a1).wf=true) (w2:(Lit.int .i64 a2).wf=true) (w3:(Lit.int .i64 a3).wf=true) :
  Calls Tryz.prog 8 #[.slice a0 len0 cap0,.int .i64 a1,.int .i64 a2,.int .i64 a3] w fun e w'=>e=.returned (.bool true)∧Below w.heap.size w w':=by
 obtain ⟨hlen,hrow⟩:=isRow_int w0
 obtain ⟨L,hL⟩:∃ L,L=z0.take len0:=⟨_,rfl⟩
 rw [← hL] at hlen hrow
 clear hL w0
 subst hlen
 have GM:Hid (tabMay (genTab L)=true):=Lib.hid (GenT.gen_may L)
 have GF:Hid (fitT (genTab L)):=Lib.hid (By.gen_fit L)
 have GS:Hid (Len8 (genTab L)→(sealB (bodyB (genTab L))).length≤1000):=Lib.hid (By.gen_small L)
 have hz:=(zero_of_info Clone.info31).1
 obtain ⟨Z,hZ⟩:∃ Z,(Clone.zTab.cells Clone.zHd).toArray=Z:=⟨_,rfl⟩
 have EZS:Hid (Z.size=131):=Lib.hid (by rw [← hZ];exact (cells_ok (Clone.z_is w)).size)
 rw [hZ] at hz
 have EZ:=Lib.hid hZ
 clear hZ
 have ZJ:Hid ((Tryz.prog.info? 31).map (·.size)=some Z.size):=Lib.hid (by rw [EZS.out];exact May.infoT)
 have ZO:Hid (Z.all (·.oneCell')=true):=Lib.hid (by rw [← EZ.out];exact (cells_ok (Clone.z_is w)).one)
 go_enter Tryz.func8,Tryz.ntmps8
 go_wp2_with fail
 refine (GenT.table_any a0 cap0 L w hrow).mono ?_
 rintro e u ⟨hd,rfl,ht,hb⟩
 have A0:=Lib.hid hb
 have HT:Hid (∀ W,Below u.heap.size u W→IsTab W hd (genTab L)):=Lib.hid (fun W hb=>ht.below hb)
 have H8:Hid (Len8 (genTab L)):=Lib.hid ⟨ht.ph,ht.cf,ht.fl⟩
 have SM:=Lib.hid (GS.out H8.out)
 clear ht hb GS
 generalize genTab L=T at *
 obtain ⟨c,hc⟩:∃ c,T.cells hd=c:=⟨_,rfl⟩
 rw [hc]
 have HC:=Lib.hid hc
 clear hc
 obtain ⟨bs,hbs⟩:∃ l,sealB (bodyB T)=l:=⟨_,rfl⟩
 have EC:Hid (∀ W,Below u.heap.size u W→Calls Tryz.prog 11 #[.agg c.toArray] W fun e w'=>∃ a cap,e=.returned (.tuple #[.slice a bs.length cap,I 0])∧B.Row w' a bs∧bs.length≤cap∧(a=none→cap=0)∧Below W.heap.size W w'):=Lib.hid (fun W hb=>by rw [← HC.out,← hbs];exact By.enc_bytes (HT.out W hb) GM.out)
 have HB8:Hid (∀ x ∈ bs,x < 256):=Lib.hid (by rw [← hbs];exact By.seal_lt T)
 have HDEC:Hid (∀ m:List Nat,m.length≤50→Rr.decR (bs++m)=if m=[] then .ok (rawOf T) else .error (6,(bs.length:Int))):=Lib.hid (fun m hm=>by rw [← hbs];exact By.dec_fwd H8.out GM.out GF.out (by have:=SM.out;omega))
 have HPOS:Hid (3≤bs.length):=Lib.hid (by rw [← hbs];unfold sealB bodyB;simp only [List.length_append,List.length_cons,List.length_nil];omega)
 have HODD:Hid (∀ m:List Nat,(∀ x ∈ m,x < 256)→CrcM.parL m=(!CrcM.parL bs)→m ≠ bs∧∃ f,Rr.decR m=.error f∧f.1 ≠ 0):=Lib.hid (fun m hm hp=>by rw [← hbs] at hp ⊢;exact By.dec_odd hm hp)
 rw [hbs] at SM
 clear hbs HDEC
 go_wp2_with fail
 refine (EC.out u (Below.refl _ _)).mono ?_
 rintro e u1 ⟨a,cap,rfl,hrow1,hcap,hnil,hb1⟩
 have B1:=Lib.hid hb1
 have HROW:=Lib.hid hrow1
 have HCAP:=Lib.hid hcap
 have HNIL:=Lib.hid hnil
 clear hrow1 hcap hnil hb1 EC
 have hl0:((bs.length:Int) == 0)=false:=by rw [beq_eq_false_iff_ne];have:=HPOS.out;omega
 have hl1:decide ((bs.length:Int)=0)=false:=decide_eq_false (by have:=HPOS.out;omega)
 have hl3:3≤bs.length:=HPOS.out
 have hl4:bs.length≤1000:=SM.out
 go_wp2_with (at_builtin;refine CrcB.wpList_copy rfl _ _ rfl rfl _ _ bs rfl HROW.out HNIL.out (by omega) ?_)
 intro v w2 hown bb2
 obtain ⟨g,cap2,rfl,hg,-,-⟩:=CrcB.own_at hown (by omega)
 have hgl:=hown.lt g rfl
 have hB2:=bb2.size
 obtain ⟨hgl1,hgl2⟩:=hgl
 go_wp2_with fail
 have hks:∀ j,j < 3→(w2.alloc (.cells #[.int .i64 a1,.int .i64 a2,.int .i64 a3] 3)).cell? ⟨w2.heap.size,j,none⟩=some (.int .i64 ([a1,a2,a3].getD j 0)):=by
  intro j hj
  have h3:j=0∨j=1∨j=2:=by omega
  rcases h3 with rfl | rfl | rfl <;> (simp;done)
 have hown2:=CrcB.own_below hown ((Below.refl w2.heap.size w2).alloc (Nat.le_refl _) (.cells #[.int .i64 a1,.int .i64 a2,.int .i64 a3] 3))
 have hbb:Below u1.heap.size u1 (w2.alloc (.cells #[.int .i64 a1,.int .i64 a2,.int .i64 a3] 3)):=bb2.alloc hB2 _
 generalize [a1,a2,a3]=ks at hks
 generalize hW3:w2.alloc (.cells #[.int .i64 a1,.int .i64 a2,.int .i64 a3] 3)=w3 at hks hown2 hbb ⊢
 clear hW3 hown
 have Hk:=Lib.hid hks
 clear hks
 go_loopw [37] (fun i wr=>∃ j:Nat,j≤3∧i=.int .i64 j∧(∃ m,CrcB.Own u1.heap.size wr (.slice (some ⟨g,0,none⟩) bs.length cap2) m∧m.length=bs.length∧(∀ x ∈ m,x < 256)∧CrcM.parL m=if j % 2=1 then !CrcM.parL bs else CrcM.parL bs) ∧
  Below u1.heap.size u1 wr∧∀ j,j < 3→wr.cell? ⟨w2.heap.size,j,none⟩=some (.int .i64 (ks.getD j 0))) (fun i _=>3 - (intOf i).toNat)
 case atStart=>exact ⟨0,by omega,rfl,⟨bs,hown2,rfl,HB8.out,rfl⟩,hbb,Hk.out⟩
 case round =>
  obtain ⟨j,hj,rfl,⟨m,hm,hml,hmb,hmp⟩,hbel,hkc⟩:=hrel
  have hbs:=hbel.size
  have Hm:=Lib.hid hm
  have Hp:=Lib.hid hmp
  have Hb:=Lib.hid hmb
  clear hm hmp hmb
  by_cases hlt:j < 3
  ·have hcell:=hkc j hlt
   have Hkc:=Lib.hid hkc
   clear hkc
   generalize ks.getD j 0=kk at hcell
   go_wp2_with fail
   refine (CrcB.place_any _ _ _ (by omega) (by omega)).mono ?_
   rintro e w' ⟨rfl,rfl⟩
   have hq0:=Int.emod_nonneg kk (show (8*(bs.length:Int)) ≠ 0 by omega)
   have hq1:=Int.emod_lt_of_pos kk (show 0 < 8*(bs.length:Int) by omega)
   obtain ⟨q,hq⟩:∃ q:Nat,kk % (8*(bs.length:Int))=q:=⟨_,(Int.toNat_of_nonneg hq0).symm⟩
   rw [hq] at hq0 hq1 ⊢
   clear hq hcell
   have hqn:q / 8 < bs.length:=by omega
   obtain ⟨g',cap',e',hg',hfz,hcl⟩:=CrcB.own_at Hm.out (by rw [hml];omega)
   simp only [Value.slice.injEq,Option.some.injEq,Addr.mk.injEq] at e'
   obtain ⟨⟨rfl,-,-⟩,-,rfl⟩:=e'
   have hcell:=hcl (q / 8) (by omega)
   have hfrz:=hfz (q / 8)
   clear hfz hcl
   have hyb:m.getD (q / 8) 0 < 256:=by
    rw [List.getD_eq_getElem?_getD,List.getElem?_eq_getElem (by omega)];exact Hb.out _ (List.getElem_mem _)
   generalize hy:m.getD (q / 8) 0=y at hcell hyb
   have Hy:=Lib.hid hy
   have hbits:=CrcB.turn_bits y q hyb
   have Ht:=Lib.hid (CrcB.own_turn Hm.out hml q y hqn hy)
   clear hy hyb
   go_wp2_with fail
   go_roundw
   case rel =>
    refine ⟨j+1,by omega,by go_num,⟨CrcM.turn m q,?_,by rw [CrcM.turn_len,hml],CrcM.turn_lt m q Hb.out,?_⟩,hbel.setCell hg' _,fun i hi=>?_⟩
    ·first | exact Ht.out | (rw [hbits];exact Ht.out)
    ·rw [CrcM.turn_par m q (by omega),Hp.out]
     by_cases ho:j % 2=1
     ·rw [if_pos ho,if_neg (by omega),Bool.not_not]
     ·rw [if_neg ho,if_pos (by omega)]
    ·rw [← Hkc.out i hi]
     exact World.cell?_of_block (Below.heap_setCell _ _ _ _ (by show w2.heap.size ≠ g;omega))
   case measure=>simp [intOf];omega
  ·obtain rfl:j=3:=by omega
   obtain ⟨hne,fl,hdec,hfl⟩:=HODD.out m Hb.out Hp.out
   obtain ⟨fc,fa⟩:=fl
   obtain ⟨a9,cap9,e9,hr9,hc9,hn9⟩:=By.own_slice Hm.out Hb.out
   simp only [Value.slice.injEq] at e9
   obtain ⟨rfl,-,rfl⟩:=e9
   have HR9:=Lib.hid hr9
   have Hml:=Lib.hid hml
   have HNE:=Lib.hid hne
   have HB1:Hid (Below u.heap.size u wr):=Lib.hid (B1.out.trans (hbel.mono B1.out.size))
   have hro:B.Row wr a bs:=HROW.out.below hbel
   have HRO:=Lib.hid hro
   have DD:=Lib.hid (By.dec_err hdec (a:=some ⟨g,0,none⟩) (cap:=cap2) hr9 (by rw [hml];omega) hc9 (fun h=>by cases h))
   rw [hml,EZ.out] at DD
   have hf0:((fc == 0):Bool)=false:=by rw [beq_eq_false_iff_ne];exact hfl
   have hf1:decide (fc=0)=false:=decide_eq_false hfl
   have hf2:¬ fc=0:=hfl
   clear hdec hr9 hc9 hn9 hne hml hro Hm Hb Hp hown2 hkc hfl
   go_wp2_with fail
   refine DD.out.mono ?_
   rintro e u2 ⟨rfl,hb2⟩
   have B2:=Lib.hid (HB1.out.trans (hb2.mono HB1.out.size))
   have D2:=Lib.hid hb2
   clear hb2 DD
   have KB:=Lib.hid (heap_alloc2_old u2 (.cells Z 31) (.cells #[I 0,I 0] 40))
   have KF:=Lib.hid ((setRow_other ((u2.alloc (.cells Z 31)).alloc (.cells #[I 0,I 0] 40)) u2.heap.size (u2.heap.size+1) Z (by omega)).trans (heap_alloc2_new u2 (.cells Z 31) (.cells #[I 0,I 0] 40)))
   have rD:Hid (Below u2.heap.size u2 ((((u2.alloc (.cells Z 31)).alloc (.cells #[I 0,I 0] 40)).setRow u2.heap.size Z).setRow (u2.heap.size+1) #[I fc,I fa])):=Lib.hid (Same.below_setRow (Same.below_setRow (((Below.refl _ _).alloc (Nat.le_refl _) _).alloc (by simp) _) (Nat.le_refl _) _) (by omega) _)
   have rKF:=Lib.hid (setRow_heap _ (u2.heap.size+1) _ #[I fc,I fa] _ _ KF.out)
   have rKB:=Lib.hid ((setRow_other (((u2.alloc (.cells Z 31)).alloc (.cells #[I 0,I 0] 40)).setRow u2.heap.size Z) (u2.heap.size+1) u2.heap.size #[I fc,I fa] (by omega)).trans (setRow_heap _ u2.heap.size _ Z _ _ KB.out))
   go_upto_region 12 with (first | (refine wpList_store_row rfl 31 _ _ rfl u2.heap.size Z rfl rfl 31 _ KB.out ZJ.out rfl ZO.out ?_) | (refine wpList_store_row rfl 40 _ _ rfl (u2.heap.size+1) #[I fc,I fa] rfl rfl 40 _ KF.out Po.infoF rfl (by simp [Value.oneCell']) ?_))
   generalize (((u2.alloc (.cells Z 31)).alloc (.cells #[I 0,I 0] 40)).setRow u2.heap.size Z).setRow (u2.heap.size+1) #[I fc,I fa]=ru at rD rKB rKF ⊢
   have rB:=Lib.hid (B2.out.trans (rD.out.mono B2.out.size))
   generalize u2.heap.size+1=rf at rKF ⊢
   have rM:Hid (∀ W,Below u2.heap.size W W→True):=Lib.hid (fun _ _=>trivial)
   clear KB KF rM
   have k0:∀ p:QB.By ru.heap.size ru,p.world.cell? ⟨rf,0,none⟩=some (I fc):=fun p=>by rw [cell_of_row _ _ _ _ _ _ ((p.below.block rf (Array.getElem?_eq_some_iff.1 rKF.out).1).trans rKF.out)];rfl
   have UB:Hid (Below wr.heap.size wr ru):=Lib.hid (D2.out.trans (rD.out.mono D2.out.size))
   have SB:Hid (∀ W,Below ru.heap.size ru W→Calls Tryz.prog 13 #[.slice (some ⟨g,0,none⟩) bs.length cap2,.slice a bs.length cap] W fun e w'=>e=.returned (.bool false)∧Below W.heap.size W w'):=Lib.hid (fun W hb=>CrcB.differ_len _ _ _ _ _ m bs _ Hml.out rfl (HR9.out.below (UB.out.trans (hb.mono UB.out.size))) (HRO.out.below (UB.out.trans (hb.mono UB.out.size))) HNE.out)
   refine QB.region_below ru.heap.size (by kernel_rfl) (by kernel_rfl) ?_
   repeat (quiet_step (first
    | (go_at_call 13;with_reducible exact QB.call_of (Nat.le_refl _) (fun b=>SB.out _ b))
    | (go_at_call 10;with_reducible exact QB.call_of (Nat.le_refl _) (fun b=>Rr.awake_any _)));try simp only [beq_self_eq_true])
   refine wpQuiet_nil ?_
   intro _ hw'
   obtain ⟨pq,rfl⟩:=hw'
   have HP:=Lib.hid pq.below
   go_wp2
   go_ret
   exact ⟨rfl,A0.out.trans ((rB.out.trans (HP.out.mono rB.out.size)).mono A0.out.size)⟩
theorem lifted (os:Os) (started:os.Started) (H:Type) (enc:TypeId × Value→H) :
  ReturnsInHanded {} Tryz.checked os 8 .any (Rows.codeSpoiltSpec.pre6 enc Tryz.prog Tryz.f8 Rows.codeSpoiltRow.domain false) (Rows.codeSpoiltSpec.post enc Tryz.prog Tryz.f8 false true false false):=by
 refine returnsInHanded_of_change (C:=Tryz.checked) own started (by kernel_rfl) Tryz.func8
  (ChangeSpec.witness6 (enc:=enc) (C:=Tryz.checked) false ⟨#[],#[.slice none 0 0,.int .i64 0,.int .i64 0,.int .i64 0],[]⟩ 8 (by kernel_rfl) (by kernel_rfl) (by kernel_rfl) (by kernel_rfl)) ?_
 intro W base args ds gs before hval0 hW hcnd _
 have hval:∀ (j:Nat) t v,Tryz.f8.params[j]?=some t→args[j]?=some v→Value.okWide Tryz.prog W .any base t v:=hval0
 have hW':=hW
 obtain ⟨p,q,hA0,hV,rfl,hfz,hnd⟩:=hW
 have hA:DataW.TrodAll enc Tryz.prog W 0 (fun _=>true) true Tryz.f8.params.toList args.toList ds p:=hA0
 rw [Tryz.params8] at hA hval
 obtain ⟨v0,vs0,d0,ds0,p0,q0,hargs,rfl,rfl,h0,r0⟩:=trodAll_cons hA
 obtain ⟨v1,vs1,d1,ds1,p1,q1,rfl,rfl,rfl,h1,r1⟩:=trodAll_cons r0
 obtain ⟨v2,vs2,d2,ds2,p2,q2,rfl,rfl,rfl,h2,r2⟩:=trodAll_cons r1
 obtain ⟨v3,vs3,d3,ds3,p3,q3,rfl,rfl,rfl,h3,r3⟩:=trodAll_cons r2
 obtain ⟨rfl,rfl,rfl⟩:=trodAll_nil r3
 obtain rfl:args=#[v0,v1,v2,v3]:=by cases args;simp_all
 obtain ⟨rfl,rfl⟩:=trodVars_none hV
 obtain ⟨a0,len0,cap0,rfl⟩:=okWide_slice Tryz.underlying46 (hval 0 46 v0 rfl rfl)
 have k0:=h0
 have lt0:∀ x ∈ p0,x.block < W.heap.size:=by obtain ⟨m,hm⟩:=k0;exact DataW.trod_lt m _ _ _ hm
 obtain ⟨z0,w0⟩:∃ zs,IsRow .i64 W a0 len0 cap0 zs:=by
  obtain ⟨fuel,hf⟩:=h0
  rcases open_ints Tryz.underlying46 Tryz.underlying3 (by kernel_rfl) hf with ⟨hcs,_⟩ | ⟨x,l,c,zs,hcs,_,hl,hm,hz,_,hcell,hwz⟩
  ·simp [Value.cells] at hcs
   obtain ⟨rfl,rfl,rfl⟩:=hcs
   exact ⟨[],.inl ⟨rfl,rfl,rfl,rfl⟩⟩
  ·simp [Value.cells] at hcs
   obtain ⟨rfl,rfl,rfl⟩:=hcs
   exact ⟨zs,.inr ⟨_,rfl,hl,hm,by simpa using hz,hcell,hwz⟩⟩
 obtain ⟨a1,rfl,rfl,rfl,w1⟩:=open_int Tryz.underlying3 (hval 1 3 v1 rfl rfl) h1
 obtain ⟨a2,rfl,rfl,rfl,w2⟩:=open_int Tryz.underlying3 (hval 2 3 v2 rfl rfl) h2
 obtain ⟨a3,rfl,rfl,rfl,w3⟩:=open_int Tryz.underlying3 (hval 3 3 v3 rfl rfl) h3
 clear hA0 hval0
 refine (walk a0 len0 cap0 z0 a1 a2 a3 W w0 w1 w2 w3).mono fun e W' ⟨he,bel⟩=>?_
 subst he
 exact ⟨_,rfl,_,_,_,[],_,[],hW',trodAll_mk1 (shut_bool Tryz.underlying4 _),(trodAll_cons_mk (Below.trod laidOut (by kernel_rfl) (of_decide_eq_true (by kernel_rfl)) k0 bel lt0) (trodAll_cons_mk (shut_int Tryz.underlying3 w1) (trodAll_cons_mk (shut_int Tryz.underlying3 w2) (trodAll_cons_mk (shut_int Tryz.underlying3 w3) trodAll_mk0)))),rfl,bel.frame _,fun h=>by cases h⟩
theorem over:Rows.codeSpoiltRow.holds Tryz.pinned (OpenSpec.ofChange Rows.codeSpoiltSpec) :=
 OpenClaim.holds_of_wide 8 Tryz.f8 rfl rfl rfl rfl rfl rfl rfl ⟨rfl,rfl,rfl,rfl,rfl⟩ rfl rfl rfl rfl rfl (by kernel_rfl) Tryz.func8 (by kernel_rfl)
  (of_decide_eq_true (by kernel_rfl)) (by unfold Func.isWrapper;first | (rw [if_pos (by decide +kernel)];kernel_rfl) | (rw [if_neg (by decide +kernel)];exact ⟨rfl,rfl⟩))
  (fun os started H enc _=>lifted os started H enc)
theorem proved:Rows.CodeSpoiltSaid :=
 over
#print axioms proved
end codeSpoilt
end Go.Proofs.YtggjconbgpfomaaGreat
