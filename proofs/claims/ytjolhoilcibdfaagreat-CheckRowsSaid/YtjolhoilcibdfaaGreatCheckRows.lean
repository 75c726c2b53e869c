/- CheckRows returns true at any numbers, any row: package check's Check returns what the document's own returns. No condition. -/
import Derived.Test.YtjolhoilcibdfaaGreatPart01
import Derived.Test.YtjolhoilcibdfaaGreatRows
import Derived.Test.YtjolhoilcibdfaaGreatPart07
import Derived.Test.YtjolhoilcibdfaaGreatPart09
import Derived.Test.YtjolhoilcibdfaaGreatPart10
import Derived.Test.YtjolhoilcibdfaaGreatPart12
import Derived.Deep.Cut
import Derived.LoopTactic
import Derived.Laws.AppendOwnNone
import Derived.WalkKit
import Derived.WalkLawsBesides
import Derived.ProofKit
import Derived.OpenShut
import Derived.ShutString
import Derived.ChangeOld
import Derived.Below
set_option linter.unusedVariables false
set_option linter.unusedSimpArgs false
set_option linter.unusedSectionVars false
set_option maxHeartbeats 8000000
set_option maxRecDepth 100000
namespace Go.Proofs.YtjolhoilcibdfaaGreat
namespace checkRows
open Zip
open Go.ChangeShapes Go.WideShapes Go.ChangeAt Go.RowKit
open Tab PlaceM PlanM OnS ChkM GenT GenG
open May (infoT infoP)
open BendU
theorem own:ownKnob Tryz.prog.godebug=none:=by kernel_rfl
theorem laidOut:laidOutB Tryz.prog=true:=by kernel_rfl
def IsRow (k:IntKind) (w:World) (a:Option Addr) (len cap:Nat) (zs:List Int):Prop :=
 (a=none∧len=0∧cap=0∧zs=[]) ∨
 ∃ x,a=some x∧len≤cap∧cap≤maxLen∧zs.length=cap∧(∀ i,i < zs.length→w.cell? (x.add i)=some (.int k (zs.getD i 0)))∧∀ n ∈ zs,(Lit.int k n).wf=true
theorem isRow_int {w:World} {a:Option Addr} {len cap:Nat} {zs:List Int} (h:IsRow .i64 w a len cap zs):(zs.take len).length=len∧Tab.IntRow w ⟨a,cap⟩ (zs.take len):=by
 rcases h with ⟨rfl,rfl,rfl,rfl⟩ | ⟨x,rfl,h1,h2,h3,h4,_⟩
 ·exact ⟨rfl,.inl ⟨rfl,rfl,rfl⟩⟩
 ·have hl:(zs.take len).length=len:=by rw [List.length_take];omega
  refine ⟨hl,.inr ⟨x,rfl,by rw [hl];exact h1,h2,fun i v hv j u hu=>?_⟩⟩
  have hi:i < len:=by have:=(List.getElem?_eq_some_iff.1 hv).1;omega
  match j,hu with
  | 0,hu =>
   simp at hu
   subst hu
   rw [List.getElem?_take,if_pos hi] at hv
   have:=h4 i (by omega)
   rw [List.getD_eq_getElem?_getD,hv] at this
   rw [Nat.mul_one,Tab.add_two,Nat.add_zero]
   exact this
  | j+1,hu=>simp at hu
theorem walk (a0:Option Addr) (len0 cap0:Nat) (z0:List Int) (a1:Int) (a2:Int) (a3:Option Addr) (len3 cap3:Nat) (z3:List Int) (w:World) (w0:IsRow .i64 w a0 len0 cap0 z0) (w1:(Lit.int .i64 a1).wf=true) (w2:(Lit.int .i64 a2).wf=true) (w3:IsRow .i64 w a3 len3 cap3 z3) :
  Calls Tryz.prog 4 #[.slice a0 len0 cap0,.int .i64 a1,.int .i64 a2,.slice a3 len3 cap3] w fun e w'=>e=.returned (.bool true)∧Below w.heap.size w w':=by
 obtain ⟨hlen,hrow⟩:=isRow_int w0
 obtain ⟨L,hL⟩:∃ L,L=z0.take len0:=⟨_,rfl⟩
 rw [← hL] at hlen hrow
 clear hL w0
 subst hlen
 obtain ⟨hlen,hrowR⟩:=isRow_int w3
 obtain ⟨R,hR⟩:∃ R,R=z3.take len3:=⟨_,rfl⟩
 rw [← hR] at hlen hrowR
 clear hR w3
 subst hlen
 have hz:=(zero_of_info GenT.infoTz).1
 have hZs:(Clone.zTab.cells Clone.zHd).length=131:=rfl
 generalize hZ:GenT.zTab.cells GenT.zHd=Z at *
 have ZS:Z.toArray.size=131:=by rw [← hZ];rfl
 clear hZ hZs
 have G8:=hJJ (GenT.genTab_few L)
 have B0:Hid (Below w.heap.size w w):=hJJ (Below.refl _ _)
 go_enter Tryz.func4,Tryz.ntmps4
 go_upto_region 1 with fail
 by_cases h10:10 < R.length
 ·go_upto_region 2 with fail
  go_wp2_with fail
  refine (Wa9.awake_any _).mono ?_
  rintro e u2 ⟨rfl,hb⟩
  have E:=hJJ (B0.out.trans (hb.mono B0.out.size))
  clear hb
  go_wp2
  go_ret
  exact ⟨rfl,E.out⟩
 go_upto_region 3 with fail
 go_wp2_with fail
 refine (GenT.table_own a0 cap0 L w hrow).mono ?_
 rintro e u0 ⟨hd,rfl,ht,ow,hb⟩
 have CS:=GenT.cells_cut hd ht.ph ht.cf ht.fl
 have ON:=(cells_ok ht).one
 have IA:Hid ((Tryz.prog.info? 32).map (·.size)=some ((genTab L).cells hd).length):=hJJ (by rw [CS];exact infoT)
 have HRR:=hJJ (hrowR.below (hb.alloc hb.size (.cells ((genTab L).cells hd).toArray 32)))
 have UX:Hid (Ux w u0.heap.size hd (genTab L) (u0.alloc (.cells ((genTab L).cells hd).toArray 32))):=hJJ (by
  have hb2:Below u0.heap.size u0 (u0.alloc (.cells ((genTab L).cells hd).toArray 32)):=(Below.refl _ _).alloc (Nat.le_refl _) _
  exact ⟨hb.trans (hb2.mono hb.size),hb.size,heap_alloc_new u0 _,ht.ph,ht.cf,ht.fl,ow.groups.grown (grown_below hb2 none) (fun m e=>by cases e),ow.dets.below hb2,ow.rails.below hb2,ow.buses.below hb2⟩)
 have GB:=hJJ ow.gbk
 have NG:Hid (1≤(genTab L).groups.length∧(genTab L).groups.length≤3):=hJJ (by rw [genTab_groups,genGs_len];exact genG_range L)
 have ZE:Hid (hd.g.a=none→(genTab L).groups.length=0):=hJJ (fun e=>by
  obtain ⟨gs,h1,h2,_,_⟩:=ow.groups
  rcases h2 with ⟨_,_,h⟩ | ⟨x,hx,_⟩
  ·rw [← h1,h];rfl
  ·rw [e] at hx;cases hx)
 clear ht ow hb hrow hrowR
 generalize hc:(genTab L).cells hd=c at *
 generalize genTab L=T at *
 have HC:=hJJ hc
 clear hc
 go_upto_region 4 with (refine Row.wpList_store_new rfl 32 _ _ rfl u0 Z.toArray c.toArray rfl rfl rfl (by rw [List.size_toArray];exact IA.out) (by rw [ZS,List.size_toArray,CS]) ON ?_)
 generalize u0.alloc (.cells c.toArray 32)=u at UX HRR ⊢
 generalize u0.heap.size=tb at UX ⊢
 clear hz ZS ON CS IA HC
 obtain ⟨⟨ga,gcap⟩,hg⟩:∃ x,hd.g=x:=⟨_,rfl⟩
 obtain ⟨gb,rfl,hgb⟩:∃ gb,ga=some ⟨gb,0,none⟩∧w.heap.size≤gb:=by
  cases hga:ga with
  | none=>have:=ZE.out (by rw [hg,hga]);have:=NG.out;omega
  | some x=>obtain ⟨g,rfl,h⟩:=GB.out x (by rw [hg,hga]);exact ⟨g,rfl,h⟩
 clear GB ZE
 have q104:u.cell? ⟨tb,104,none⟩=some (.slice (some ⟨gb,0,none⟩) T.groups.length gcap):=by rw [UX.out.cell,← List.getElem?_toArray,(cells_ok UX.out.tab).g,hg]
 obtain ⟨k,ek,k8⟩:∃ k:Nat,a1 % (T.groups.length:Int)=(k:Int)∧k < T.groups.length:=⟨(a1 % (T.groups.length:Int)).toNat,by have:=Int.emod_nonneg a1 (show (T.groups.length:Int) ≠ 0 by have:=NG.out;omega);omega,by have:=NG.out;have:=Int.emod_nonneg a1 (show (T.groups.length:Int) ≠ 0 by omega);have:=Int.emod_lt_of_pos a1 (show (0:Int) < T.groups.length by omega);omega⟩
 obtain ⟨r,er,r8⟩:∃ r:Nat,a2 % 2=(r:Int)∧r < 2:=⟨(a2 % 2).toNat,by omega,by omega⟩
 have P1:Hid (∀ W,Calls Tryz.prog 13 #[.int .i64 a1,.int .i64 (T.groups.length:Int)] W fun e w'=>e=.returned (.int .i64 k)∧W=w'):=hJJ (fun W=>by have:=RefS.place_any a1 (T.groups.length:Int) W (by have:=NG.out;omega) (by have:=NG.out;omega);rwa [ek] at this)
 have P2:Hid (∀ W,Calls Tryz.prog 13 #[.int .i64 a2,.int .i64 2] W fun e w'=>e=.returned (.int .i64 r)∧W=w'):=hJJ (fun W=>by have:=RefS.place_any a2 2 W (by decide) (by decide);rwa [er] at this)
 clear ek er
 have hy:T.groups[k]?=some (T.groups[k]'k8):=List.getElem?_eq_getElem k8
 generalize T.groups[k]'k8=y at hy
 have HY:=hJJ hy
 have HGB:=hJJ hgb
 have HG:=hJJ hg
 clear hy hgb hg
 generalize hn:T.groups.length=n at *
 have HN:=hJJ hn
 clear hn
 have ki:(k:Int) < n:=by omega
 have ri:(r:Int) < 2:=by omega
 have ng:=NG.out
 have GSM:=G8
 refine wp_region_held (S:=fun v=>v.cell? ⟨tb,104,none⟩=some (.slice (some ⟨gb,0,none⟩) n gcap)) (by kernel_rfl) ?_
 have U1:Hid (Ux w tb hd T { u with drawn:=u.drawn+1 }):=hJJ (UX.out.step (Below.refl _ _).drew)
 have HR1:Hid (IntRow { u with drawn:=u.drawn+1 } ⟨a3,cap3⟩ R):=hJJ (HRR.out.below (Below.refl _ _).drew)
 have hS:({ u with drawn:=u.drawn+1 }:World).cell? ⟨tb,104,none⟩=some (.slice (some ⟨gb,0,none⟩) n gcap):=q104
 clear q104 UX HRR
 generalize ({ u with drawn:=u.drawn+1 }:World)=v at hS U1 HR1 ⊢
 refine tkZ 0 16 ?_ rfl ?_ hS ?_
 rotate_left
 ·intro w' hw'
  go_simp
  try with_reducible rfl
 (try dsimp only [Act.put]);(try simp only [zA,zB,zC])
 refine tkZ 1 17 ?_ rfl ?_ hS ?_
 rotate_left
 ·intro w' hw'
  have cf:=hw'
  go_simp
  try with_reducible rfl
 (try dsimp only [Act.put]);(try simp only [zA,zB,zC])
 refine tkZ 2 18 ?_ rfl ?_ hS ?_
 rotate_left
 ·intro w' hw'
  go_simp
  try with_reducible rfl
 (try dsimp only [Act.put]);(try simp only [zA,zB,zC])
 refine tkZ 3 19 ?_ rfl ?_ hS ?_
 rotate_left
 ·intro w' hw'
  go_simp
  try with_reducible rfl
 (try dsimp only [Act.put]);(try simp only [zA,zB,zC])
 refine tkZ 4 20 ?_ rfl ?_ hS ?_
 rotate_left
 ·intro w' hw'
  have cf:=hw'
  go_simp
  try with_reducible rfl
 (try dsimp only [Act.put]);(try simp only [zA,zB,zC])
 refine tkZ 5 21 ?_ rfl ?_ hS ?_
 rotate_left
 ·intro w' hw'
  go_simp
  try with_reducible rfl
 (try dsimp only [Act.put]);(try simp only [zA,zB,zC])
 refine tkZ 7 23 ?_ rfl ?_ hS ?_
 rotate_left
 ·intro w' hw'
  go_simp
  try with_reducible rfl
 (try dsimp only [Act.put]);(try simp only [zA,zB,zC])
 refine tkZ 9 25 ?_ rfl ?_ hS ?_
 rotate_left
 ·intro w' hw'
  go_simp
  try with_reducible rfl
 (try dsimp only [Act.put]);(try simp only [zA,zB,zC])
 refine rdZ 6 rfl (fun K hK=>?_)
 go_simp
 refine (P1.out _).mono ?_
 rintro e w' ⟨rfl,rfl⟩
 go_simp
 refine hK.out _ _ hS (fun hS=>?_)
 clear hK K
 refine tkZ 11 27 ?_ rfl ?_ hS ?_
 rotate_left
 ·intro w' hw'
  go_simp
  try with_reducible rfl
 (try dsimp only [Act.put]);(try simp only [zA,zB,zC])
 refine rdZ 8 rfl (fun K hK=>?_)
 go_simp
 refine (P2.out _).mono ?_
 rintro e w' ⟨rfl,rfl⟩
 go_simp
 refine hK.out _ _ hS (fun hS=>?_)
 clear hK K
 refine rdZ 10 rfl (fun K hK=>?_)
 rw [if_pos (by rfl)]
 refine GrP.wp_copyI (.const (.slice none 0 0)) (.tmp 25) rfl rfl a3 cap3 R rfl HR1.out (by omega) ?_
 intro sa sc v2 hrow hb
 have U2:=hJJ (U1.out.step hb)
 have hS2:v2.cell? ⟨tb,104,none⟩=some (.slice (some ⟨gb,0,none⟩) n gcap):=by rw [U2.out.cell,← List.getElem?_toArray,(cells_ok U2.out.tab).g,HG.out,HN.out]
 refine hK.out _ _ hS2 (fun hS=>?_)
 clear hK K hb U1 HR1 hS2
 (try dsimp only [Act.put]);(try simp only [zA,zB,zC])
 refine tkZ 12 28 ?_ rfl ?_ hS ?_
 rotate_left
 ·intro w' hw'
  go_simp
  try with_reducible rfl
 (try dsimp only [Act.put]);(try simp only [zA,zB,zC])
 obtain ⟨⟨u9,c5⟩,f5⟩:=GrP.at_row (gc:=gcap) (by have:=U2.out.groups;rwa [HG.out] at this) HY.out r8
 have U3:=hJJ (GrP.Ux.put_row U2.out HG.out HGB.out HY.out r8 hrow)
 have hS3:(v2.setCell ⟨gb,k*2+r,none⟩ (.slice sa R.length sc)).cell? ⟨tb,104,none⟩=some (.slice (some ⟨gb,0,none⟩) n gcap):=by
  rw [U3.out.cell,← List.getElem?_toArray,(cells_ok U3.out.tab).g,HG.out]
  simp [Sl.val,HN.out]
 refine rdZ 13 rfl (fun K hK=>?_)
 go_simp
 refine hK.out _ _ hS3 (fun hS=>?_)
 clear hK K c5 f5 hS3 hrow
 have U3:Hid (Ux w tb hd { T with groups:=T.groups.set k (GrP.putR r R y) } (v2.setCell ⟨gb,k*2+r,none⟩ (.slice sa R.length sc))):=U3
 generalize v2.setCell ⟨gb,k*2+r,none⟩ (.slice sa R.length sc)=v3 at U3 hS ⊢
 have SMT:Hid (Few { T with groups:=T.groups.set k (GrP.putR r R y) }):=hJJ ⟨by simp only [List.length_set];exact G8.out.groups,fun g hg=>by
  rcases List.mem_or_eq_of_mem_set hg with hg | rfl
  ·exact G8.out.rows g hg
  ·have:=G8.out.rows y (List.mem_of_getElem? HY.out)
   unfold GrP.putR
   split <;> simp only <;> omega⟩
 generalize ({ T with groups:=T.groups.set k (GrP.putR r R y) }:Tab)=T2 at U3 SMT
 have E0:=hJJ U3.out.bel
 have KT:=hJJ U3.out.tab
 have KL:Hid (Lies v3 ⟨tb,0,none⟩ (T2.cells hd)):=hJJ (by have:=Row.lies_of_block U3.out.blk;simpa using this)
 clear U3 U2 hS G8 GSM HY HGB HG HN NG P1 P2 ki ri ng
 refine wpAnyH_done (by kernel_rfl) ?_ _
 go_upto_region 5 with fail
 have CK0:Hid (∀ W,Below v3.heap.size v3 W→Calls Tryz.prog 14 #[.agg (Tab.cells T2 hd).toArray] W fun e w'=>e=.returned (.agg (fcells (chkC T2)))∧Below W.heap.size W w'):=hJJ (fun W hb=>ChkK.check_any _ hd W (KT.out.below hb))
 have RK0:Hid (∀ W,Below v3.heap.size v3 W→Calls Tryz.prog 15 #[.agg (Tab.cells T2 hd).toArray] W fun e w'=>e=.returned (.agg (fcells (chkC T2)))∧Below W.heap.size W w'):=hJJ (fun W hb=>by rw [ChkZ.chk_eq KT.out.ph KT.out.cf];exact RkK.rcheck_any _ hd W (KT.out.below hb) SMT.out)
 have LN:Hid (∀ W,Below v3.heap.size v3 W→Lies W ⟨tb,0,none⟩ (Tab.cells T2 hd)):=hJJ (fun W hb=>KL.out.below hb)
 have IN:Hid ((Tryz.prog.info? 32).map (·.size)=some (Tab.cells T2 hd).length):=hJJ (by rw [GenT.cells_cut hd KT.out.ph KT.out.cf KT.out.fl];exact infoT)
 obtain ⟨f1,f2,FE,CK,RK⟩:∃ (f1 f2:Int),Hid (Same.Eqs 37 [I f1,I f2] [I f1,I f2] true)∧Hid (∀ W,Below v3.heap.size v3 W→Calls Tryz.prog 14 #[.agg (Tab.cells T2 hd).toArray] W fun e w'=>e=.returned (.agg #[I f1,I f2])∧Below W.heap.size W w')
   ∧ Hid (∀ W,Below v3.heap.size v3 W→Calls Tryz.prog 15 #[.agg (Tab.cells T2 hd).toArray] W fun e w'=>e=.returned (.agg #[I f1,I f2])∧Below W.heap.size W w') :=
  ⟨(chkC T2).1,(chkC T2).2,hJJ (by have:=ChkK.fault_eqs (chkC T2).1 (chkC T2).2 (chkC T2).1 (chkC T2).2;rwa [decide_eq_true (by simp)] at this),CK0,RK0⟩
 clear CK0 RK0 KT KL SMT
 generalize Tab.cells T2 hd=cc at *
 have hne:Nonempty (Ph.S (Row.Old v3)):=⟨⟨0,v3,Below.refl _ _⟩⟩
 have P0:Hid (∀ p:Ph.S (Row.Old v3),Below v3.heap.size v3 p.world):=hJJ (fun p=>p.is)
 refine Pw.region (Row.Old v3) [] (by kernel_rfl) (by kernel_rfl) (Row.Old.drew _) ?_
 refine Pw.load rfl (by rfl) 32 _ rfl ⟨tb,0,none⟩ rfl cc _ (fun p=>LN.out _ p.is) Tryz.underlying32 rfl IN.out ?_
 (try dsimp only [Act.put]);(try simp only [zA,zB,zC])
 (refine Pw.calm rfl (fun K hK=>?_)
  go_simp
  refine ⟨_,fun p=>Row.Old.call (CK.out _ (P0.out p)),hK _ ?_⟩
  clear hK K)
 refine Pw.load rfl (by rfl) 32 _ rfl ⟨tb,0,none⟩ rfl cc _ (fun p=>LN.out _ p.is) Tryz.underlying32 rfl IN.out ?_
 (try dsimp only [Act.put]);(try simp only [zA,zB,zC])
 (refine Pw.calm rfl (fun K hK=>?_)
  go_simp
  refine ⟨_,fun p=>Row.Old.call (RK.out _ (P0.out p)),hK _ ?_⟩
  clear hK K)
 refine Pw.eql 37 _ _ _ rfl rfl (by rfl) #[I f1,I f2] #[I f1,I f2] rfl rfl ChkK.guardF true FE.out ?_
 (try dsimp only [Act.put]);(try simp only [zA,zB,zC])
 iterate 1
  (refine Pw.calm rfl (fun K hK=>?_)
   go_simp
   refine hK _ ?_
   clear hK K)
 (refine Pw.calm rfl (fun K hK=>?_)
  go_simp
  refine ⟨_,fun p=>Row.Old.call (Wa9.awake_any _),hK _ ?_⟩
  clear hK K)
 iterate 2
  (refine Pw.calm rfl (fun K hK=>?_)
   go_simp
   refine hK _ ?_
   clear hK K)
 refine Pw.nil ?_
 intro u9 hb9
 have E:=hJJ (E0.out.trans (hb9.mono E0.out.size))
 clear hb9 hne P0
 go_wp2
 go_ret
 exact ⟨rfl,E.out⟩
theorem lifted (os:Os) (started:os.Started) (H:Type) (enc:TypeId × Value→H) :
  ReturnsInHanded {} Tryz.checked os 4 .any (Rows.checkRowsSpec.pre6 enc Tryz.prog Tryz.f4 Rows.checkRowsRow.domain false) (Rows.checkRowsSpec.post enc Tryz.prog Tryz.f4 false true false false):=by
 refine returnsInHanded_of_change (C:=Tryz.checked) own started (by kernel_rfl) Tryz.func4
  (ChangeSpec.witness6 (enc:=enc) (C:=Tryz.checked) false ⟨#[],#[.slice none 0 0,.int .i64 0,.int .i64 0,.slice none 0 0],[]⟩ 8 (by kernel_rfl) (by kernel_rfl) (by kernel_rfl) (by kernel_rfl)) ?_
 intro W base args ds gs before hval0 hW hcnd _
 have hval:∀ (j:Nat) t v,Tryz.f4.params[j]?=some t→args[j]?=some v→Value.okWide Tryz.prog W .any base t v:=hval0
 have hW':=hW
 obtain ⟨p,q,hA0,hV,rfl,hfz,hnd⟩:=hW
 have hA:DataW.TrodAll enc Tryz.prog W 0 (fun _=>true) true Tryz.f4.params.toList args.toList ds p:=hA0
 rw [Tryz.params4] at hA hval
 obtain ⟨v0,vs0,d0,ds0,p0,q0,hargs,rfl,rfl,h0,r0⟩:=trodAll_cons hA
 obtain ⟨v1,vs1,d1,ds1,p1,q1,rfl,rfl,rfl,h1,r1⟩:=trodAll_cons r0
 obtain ⟨v2,vs2,d2,ds2,p2,q2,rfl,rfl,rfl,h2,r2⟩:=trodAll_cons r1
 obtain ⟨v3,vs3,d3,ds3,p3,q3,rfl,rfl,rfl,h3,r3⟩:=trodAll_cons r2
 obtain ⟨rfl,rfl,rfl⟩:=trodAll_nil r3
 obtain rfl:args=#[v0,v1,v2,v3]:=by cases args;simp_all
 obtain ⟨rfl,rfl⟩:=trodVars_none hV
 obtain ⟨a0,len0,cap0,rfl⟩:=okWide_slice Tryz.underlying22 (hval 0 22 v0 rfl rfl)
 have k0:=h0
 have lt0:∀ x ∈ p0,x.block < W.heap.size:=by obtain ⟨m,hm⟩:=k0;exact DataW.trod_lt m _ _ _ hm
 obtain ⟨z0,w0⟩:∃ zs,IsRow .i64 W a0 len0 cap0 zs:=by
  obtain ⟨fuel,hf⟩:=h0
  rcases open_ints Tryz.underlying22 Tryz.underlying3 (by kernel_rfl) hf with ⟨hcs,_⟩ | ⟨x,l,c,zs,hcs,_,hl,hm,hz,_,hcell,hwz⟩
  ·simp [Value.cells] at hcs
   obtain ⟨rfl,rfl,rfl⟩:=hcs
   exact ⟨[],.inl ⟨rfl,rfl,rfl,rfl⟩⟩
  ·simp [Value.cells] at hcs
   obtain ⟨rfl,rfl,rfl⟩:=hcs
   exact ⟨zs,.inr ⟨_,rfl,hl,hm,by simpa using hz,hcell,hwz⟩⟩
 obtain ⟨a1,rfl,rfl,rfl,w1⟩:=open_int Tryz.underlying3 (hval 1 3 v1 rfl rfl) h1
 obtain ⟨a2,rfl,rfl,rfl,w2⟩:=open_int Tryz.underlying3 (hval 2 3 v2 rfl rfl) h2
 obtain ⟨a3,len3,cap3,rfl⟩:=okWide_slice Tryz.underlying22 (hval 3 22 v3 rfl rfl)
 have k3:=h3
 have lt3:∀ x ∈ p3,x.block < W.heap.size:=by obtain ⟨m,hm⟩:=k3;exact DataW.trod_lt m _ _ _ hm
 obtain ⟨z3,w3⟩:∃ zs,IsRow .i64 W a3 len3 cap3 zs:=by
  obtain ⟨fuel,hf⟩:=h3
  rcases open_ints Tryz.underlying22 Tryz.underlying3 (by kernel_rfl) hf with ⟨hcs,_⟩ | ⟨x,l,c,zs,hcs,_,hl,hm,hz,_,hcell,hwz⟩
  ·simp [Value.cells] at hcs
   obtain ⟨rfl,rfl,rfl⟩:=hcs
   exact ⟨[],.inl ⟨rfl,rfl,rfl,rfl⟩⟩
  ·simp [Value.cells] at hcs
   obtain ⟨rfl,rfl,rfl⟩:=hcs
   exact ⟨zs,.inr ⟨_,rfl,hl,hm,by simpa using hz,hcell,hwz⟩⟩
 clear hA0 hval0
 refine (walk a0 len0 cap0 z0 a1 a2 a3 len3 cap3 z3 W w0 w1 w2 w3).mono fun e W' ⟨he,bel⟩=>?_
 subst he
 exact ⟨_,rfl,_,_,_,[],_,[],hW',trodAll_mk1 (shut_bool Tryz.underlying4 _),(trodAll_cons_mk (Below.trod laidOut (by kernel_rfl) (of_decide_eq_true (by kernel_rfl)) k0 bel lt0) (trodAll_cons_mk (shut_int Tryz.underlying3 w1) (trodAll_cons_mk (shut_int Tryz.underlying3 w2) (trodAll_cons_mk (Below.trod laidOut (by kernel_rfl) (of_decide_eq_true (by kernel_rfl)) k3 bel lt3) trodAll_mk0)))),rfl,bel.frame _,fun h=>by cases h⟩
theorem over:Rows.checkRowsRow.holds Tryz.pinned (OpenSpec.ofChange Rows.checkRowsSpec) :=
 OpenClaim.holds_of_wide 4 Tryz.f4 rfl rfl rfl rfl rfl rfl rfl ⟨rfl,rfl,rfl,rfl,rfl⟩ rfl rfl rfl rfl rfl (by kernel_rfl) Tryz.func4 (by kernel_rfl)
  (of_decide_eq_true (by kernel_rfl)) (by unfold Func.isWrapper;first | (rw [if_pos (by decide +kernel)];kernel_rfl) | (rw [if_neg (by decide +kernel)];exact ⟨rfl,rfl⟩))
  (fun os started H enc _=>lifted os started H enc)
theorem proved:Rows.CheckRowsSaid :=
 over
#print axioms proved
end checkRows
end Go.Proofs.YtjolhoilcibdfaaGreat
