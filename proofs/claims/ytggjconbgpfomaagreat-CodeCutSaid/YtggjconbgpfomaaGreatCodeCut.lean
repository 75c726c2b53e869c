/- CodeCut returns true at any numbers of a table, any place and any bytes behind: bytes that are cut off end too early there, and more behind is told at its place. No condition. -/
import Derived.Test.YtggjconbgpfomaaGreatRows
import Derived.Test.YtggjconbgpfomaaGreatPart04
import Derived.Test.YtggjconbgpfomaaGreatPart07
import Derived.Test.YtggjconbgpfomaaGreatPart11
import Derived.Test.YtggjconbgpfomaaGreatPart12
import Derived.Test.YtggjconbgpfomaaGreatPart13
import Derived.Test.YtggjconbgpfomaaGreatPart01
import Derived.Deep.Cut
import Derived.LoopTactic
import Derived.BigQuiet
import Derived.Test.YtggjconbgpfomaaGreatPart14
import Derived.WalkKit
import Derived.WalkLawsBesides
import Derived.ProofKit
import Derived.OpenShut
import Derived.ShutString
import Derived.ChangeOld
import Derived.Below
set_option linter.unusedVariables false
set_option linter.unusedSimpArgs false
set_option linter.unusedSectionVars false
set_option maxHeartbeats 8000000
set_option maxRecDepth 100000
namespace Go.Proofs.YtggjconbgpfomaaGreat
namespace codeCut
open Go.ChangeShapes Go.WideShapes Go.ChangeAt Go.RowKit
open Tab Po
open GenT (genTab)
open Cd (bodyB sealB)
open May (tabMay)
open By (Len8 fitT)
theorem own:ownKnob Tryz.prog.godebug=none:=by kernel_rfl
theorem laidOut:laidOutB Tryz.prog=true:=by kernel_rfl
def IsRow (k:IntKind) (w:World) (a:Option Addr) (len cap:Nat) (zs:List Int):Prop :=
 (a=none∧len=0∧cap=0∧zs=[]) ∨
 ∃ x,a=some x∧len≤cap∧cap≤maxLen∧zs.length=cap∧(∀ i,i < zs.length→w.cell? (x.add i)=some (.int k (zs.getD i 0)))∧∀ n ∈ zs,(Lit.int k n).wf=true
theorem isRow_int {w:World} {a:Option Addr} {len cap:Nat} {zs:List Int} (h:IsRow .i64 w a len cap zs):(zs.take len).length=len∧Tab.IntRow w ⟨a,cap⟩ (zs.take len):=by
 rcases h with ⟨rfl,rfl,rfl,rfl⟩ | ⟨x,rfl,h1,h2,h3,h4,_⟩
 ·exact ⟨rfl,.inl ⟨rfl,rfl,rfl⟩⟩
 ·have hl:(zs.take len).length=len:=by rw [List.length_take];omega
  refine ⟨hl,.inr ⟨x,rfl,by rw [hl];exact h1,h2,fun i v hv j u hu=>?_⟩⟩
  have hi:i < len:=by have:=(List.getElem?_eq_some_iff.1 hv).1;omega
  match j,hu with
  | 0,hu =>
   simp at hu
   subst hu
   rw [List.getElem?_take,if_pos hi] at hv
   have:=h4 i (by omega)
   rw [List.getD_eq_getElem?_getD,hv] at this
   rw [Nat.mul_one,Tab.add_two,Nat.add_zero]
   exact this
  | j+1,hu=>simp at hu
theorem walk (a0:Option Addr) (len0 cap0:Nat) (z0:List Int) (a1:Int) (a2:Option Addr) (len2 cap2:Nat) (z2:List Int) (w:World) (w0:IsRow .i64 w a0 len0 cap0 z0) (w1:(Lit.int .i64 a1).wf=true) (w2:IsRow .u8 w a2 len2 cap2 z2) :
  Calls Tryz.prog 7 #[.slice a0 len0 cap0,.int .i64 a1,.slice a2 len2 cap2] w fun e w'=>e=.returned (.bool true)∧Below w.heap.size w w':=by
 obtain ⟨hlen,hrow⟩:=isRow_int w0
 obtain ⟨L,hL⟩:∃ L,L=z0.take len0:=⟨_,rfl⟩
 rw [← hL] at hlen hrow
 clear hL w0
 subst hlen
 have GM:Hid (tabMay (genTab L)=true):=Lib.hid (GenT.gen_may L)
 have GF:Hid (fitT (genTab L)):=Lib.hid (By.gen_fit L)
 have GS:Hid (Len8 (genTab L)→(sealB (bodyB (genTab L))).length≤1000):=Lib.hid (By.gen_small L)
 obtain ⟨mo,rfl,hr2,hlc2,hcm2,hnil2⟩:=B.row_raw w2
 clear w2
 have HR2:=Lib.hid hr2
 have HN2:=Lib.hid hnil2
 clear hr2 hnil2
 obtain ⟨ml,hml⟩:∃ n,mo.length=n:=⟨_,rfl⟩
 rw [hml] at hlc2 ⊢
 have HML:=Lib.hid hml
 clear hml
 have hz:=(zero_of_info Clone.info31).1
 obtain ⟨Z,hZ⟩:∃ Z,(Clone.zTab.cells Clone.zHd).toArray=Z:=⟨_,rfl⟩
 have EZS:Hid (Z.size=131):=Lib.hid (by rw [← hZ];exact (cells_ok (Clone.z_is w)).size)
 rw [hZ] at hz
 have EZ:=Lib.hid hZ
 clear hZ
 have ZJ:Hid ((Tryz.prog.info? 31).map (·.size)=some Z.size):=Lib.hid (by rw [EZS.out];exact May.infoT)
 have ZO:Hid (Z.all (·.oneCell')=true):=Lib.hid (by rw [← EZ.out];exact (cells_ok (Clone.z_is w)).one)
 by_cases hm0:ml=0
 ·subst hm0
  go_enter Tryz.func7,Tryz.ntmps7
  go_wp2_with fail
  refine (Rr.awake_any _).mono ?_
  rintro e u9 ⟨rfl,b9⟩
  go_wp2
  go_ret
  exact ⟨rfl,b9⟩
 have hm0d:decide ((ml:Int)=0)=false:=decide_eq_false (by omega)
 by_cases hm5:50 < ml
 ·go_enter Tryz.func7,Tryz.ntmps7
  go_wp2_with fail
  refine (Rr.awake_any _).mono ?_
  rintro e u9 ⟨rfl,b9⟩
  go_wp2
  go_ret
  exact ⟨rfl,b9⟩
 have HM:Hid (0 < ml∧ml≤50):=Lib.hid (by omega)
 have hm5d:decide (50 < (ml:Int))=false:=decide_eq_false (by omega)
 go_enter Tryz.func7,Tryz.ntmps7
 go_wp2_with fail
 refine (GenT.table_any a0 cap0 L w hrow).mono ?_
 rintro e u ⟨hd,rfl,ht,hb⟩
 have A0:=Lib.hid hb
 have HT:Hid (∀ W,Below u.heap.size u W→IsTab W hd (genTab L)):=Lib.hid (fun W hb=>ht.below hb)
 have H8:Hid (Len8 (genTab L)):=Lib.hid ⟨ht.ph,ht.cf,ht.fl⟩
 have SM:=Lib.hid (GS.out H8.out)
 clear ht hb GS
 generalize genTab L=T at *
 obtain ⟨c,hc⟩:∃ c,T.cells hd=c:=⟨_,rfl⟩
 rw [hc]
 have HC:=Lib.hid hc
 clear hc
 obtain ⟨bs,hbs⟩:∃ l,sealB (bodyB T)=l:=⟨_,rfl⟩
 have EC:Hid (∀ W,Below u.heap.size u W→Calls Tryz.prog 11 #[.agg c.toArray] W fun e w'=>∃ a cap,e=.returned (.tuple #[.slice a bs.length cap,I 0])∧B.Row w' a bs∧bs.length≤cap∧(a=none→cap=0)∧Below W.heap.size W w'):=Lib.hid (fun W hb=>by rw [← HC.out,← hbs];exact By.enc_bytes (HT.out W hb) GM.out)
 have HB8:Hid (∀ x ∈ bs,x < 256):=Lib.hid (by rw [← hbs];exact By.seal_lt T)
 have HDEC:Hid (∀ m:List Nat,m.length≤50→Rr.decR (bs++m)=if m=[] then .ok (rawOf T) else .error (6,(bs.length:Int))):=Lib.hid (fun m hm=>by rw [← hbs];exact By.dec_fwd H8.out GM.out GF.out (by have:=SM.out;omega))
 have HPOS:Hid (3≤bs.length):=Lib.hid (by rw [← hbs];unfold sealB bodyB;simp only [List.length_append,List.length_cons,List.length_nil];omega)
 rw [hbs] at SM
 clear hbs
 go_wp2_with fail
 refine (EC.out u (Below.refl _ _)).mono ?_
 rintro e u1 ⟨a,cap,rfl,hrow1,hcap,hnil,hb1⟩
 have B1:=Lib.hid hb1
 have HROW:=Lib.hid hrow1
 have HCAP:=Lib.hid hcap
 have HNIL:=Lib.hid hnil
 clear hrow1 hcap hnil hb1 EC
 obtain ⟨n,hn⟩:∃ n,bs.length=n:=⟨_,rfl⟩
 have HN:=Lib.hid hn
 have hn3:3≤n:=by have:=HPOS.out;omega
 have hn1:n≤1000:=by have:=SM.out;omega
 have hn0:decide ((n:Int)=0)=false:=decide_eq_false (by omega)
 have hn00:¬ n=0:=by omega
 rw [hn] at HCAP ⊢
 clear hn
 obtain ⟨k,hk⟩:∃ k:Nat,a1 % (n:Int)=k:=⟨(a1 % (n:Int)).toNat,by have:=Int.emod_nonneg a1 (show (n:Int) ≠ 0 by omega);omega⟩
 have hkn:k < n:=by have:=Int.emod_lt_of_pos a1 (show (0:Int) < n by omega);omega
 have PL:Hid (∀ W,Calls Tryz.prog 20 #[.int .i64 a1,.int .i64 (n:Int)] W fun e w'=>e=.returned (.int .i64 k)∧W=w'):=Lib.hid (fun W=>by have:=B.place_any a1 n W (by omega) (by omega);rwa [hk] at this)
 have HKN:=Lib.hid hkn
 have hcap2:n≤cap:=HCAP.out
 have hkc:k≤cap:=by omega
 clear hk
 have D1:Hid (∀ W,Below u1.heap.size u1 W→Calls Tryz.prog 14 #[.slice a k cap] W fun e w'=>e=.returned (.tuple #[.agg Z,.agg #[I 2,I k]])∧Below W.heap.size W w'):=Lib.hid (fun W hb=>by
  have hd0:=HDEC.out [] (by simp)
  rw [List.append_nil,if_pos rfl] at hd0
  have hcut:=By.dec_cut HB8.out hd0 (k:=k) (by have:=HN.out;omega)
  have hl:(bs.take k).length=k:=by rw [List.length_take];have:=HN.out;omega
  have:=By.dec_err hcut (a:=a) (cap:=cap) (w:=W) (B.row_take (HROW.out.below hb) k) (by omega) (by omega) HNIL.out
  rw [hl,EZ.out] at this
  exact this)
 go_upto_region 7 with (go_at_call 20;refine (PL.out _).mono ?_;rintro e w' ⟨rfl,rfl⟩)
 clear hn0 hn00
 go_wp2_with fail
 refine (D1.out u1 (Below.refl _ _)).mono ?_
 rintro e u2 ⟨rfl,hb2⟩
 have B2:=Lib.hid (B1.out.trans (hb2.mono B1.out.size))
 have D2':=Lib.hid hb2
 clear hb2 D1
 have KB:=Lib.hid (heap_alloc2_old u2 (.cells Z 31) (.cells #[I 0,I 0] 40))
 have KF:=Lib.hid ((setRow_other ((u2.alloc (.cells Z 31)).alloc (.cells #[I 0,I 0] 40)) u2.heap.size (u2.heap.size+1) Z (by omega)).trans (heap_alloc2_new u2 (.cells Z 31) (.cells #[I 0,I 0] 40)))
 have rD:Hid (Below u2.heap.size u2 ((((u2.alloc (.cells Z 31)).alloc (.cells #[I 0,I 0] 40)).setRow u2.heap.size Z).setRow (u2.heap.size+1) #[I 2,I k])):=Lib.hid (Same.below_setRow (Same.below_setRow (((Below.refl _ _).alloc (Nat.le_refl _) _).alloc (by simp) _) (Nat.le_refl _) _) (by omega) _)
 have rKF:=Lib.hid (setRow_heap _ (u2.heap.size+1) _ #[I 2,I k] _ _ KF.out)
 have rKB:=Lib.hid ((setRow_other (((u2.alloc (.cells Z 31)).alloc (.cells #[I 0,I 0] 40)).setRow u2.heap.size Z) (u2.heap.size+1) u2.heap.size #[I 2,I k] (by omega)).trans (setRow_heap _ u2.heap.size _ Z _ _ KB.out))
 go_upto_region 8 with (first | (refine wpList_store_row rfl 31 _ _ rfl u2.heap.size Z rfl rfl 31 _ KB.out ZJ.out rfl ZO.out ?_) | (refine wpList_store_row rfl 40 _ _ rfl (u2.heap.size+1) #[I 2,I k] rfl rfl 40 _ KF.out Po.infoF rfl (by simp [Value.oneCell']) ?_))
 generalize (((u2.alloc (.cells Z 31)).alloc (.cells #[I 0,I 0] 40)).setRow u2.heap.size Z).setRow (u2.heap.size+1) #[I 2,I k]=ru at rD rKB rKF ⊢
 have rB:=Lib.hid (B2.out.trans (rD.out.mono B2.out.size))
 generalize u2.heap.size+1=rf at rKF ⊢
 have rM:Hid (∀ W,Below u2.heap.size W W→True):=Lib.hid (fun _ _=>trivial)
 clear KB KF rM
 have UB:Hid (Below u1.heap.size u1 ru):=Lib.hid (D2'.out.trans (rD.out.mono D2'.out.size))
 clear rKB
 go_wp2_with (at_builtin;refine B.wpList_copy rfl _ _ rfl rfl a cap bs (by rw [HN.out] <;> rfl) (HROW.out.below UB.out) HNIL.out (by have:=HN.out;omega) ?_)
 intro v3 u3 hown3 hb3
 obtain ⟨y2,hy2⟩:∃ y,a2=some y:=by
  cases a2 with
  | none =>
   have h1:=HN2.out rfl
   have h2:=HM.out
   omega
  | some y=>exact ⟨y,rfl⟩
 subst hy2
 have HO3:=Lib.hid hown3
 have B3:=Lib.hid (rB.out.trans (hb3.mono rB.out.size))
 have W3:Hid (Below w.heap.size w u3):=Lib.hid (A0.out.trans (B3.out.mono A0.out.size))
 have F3:Hid (u3.heap[rf]?=some (.cells #[I 2,I k] 40 (0,0))):=Lib.hid ((hb3.block rf (Array.getElem?_eq_some_iff.1 rKF.out).1).trans rKF.out)
 have S3:Hid (ru.heap.size≤u3.heap.size):=Lib.hid hb3.size
 clear hown3 hb3
 go_wp2_with (at_builtin;refine B.wpList_more rfl _ _ rfl ru.heap.size v3 bs rfl HO3.out y2 cap2 mo (by rw [HML.out] <;> rfl) (HR2.out.below W3.out) S3.out (by have:=HN.out;have:=HML.out;have:=HM.out;omega) ?_)
 intro v4 u4 hown4 hb4
 obtain ⟨a4,cap4,rfl,hrow4,hc4,hn4⟩:=By.own_slice hown4 (fun x hx=>(List.mem_append.1 hx).elim (HB8.out x) (HR2.out.2.1 x))
 have B4:Hid (Below u.heap.size u u4):=Lib.hid (B3.out.trans (hb4.mono (Nat.le_trans rB.out.size (Nat.le_refl _))))
 have F4:Hid (u4.heap[rf]?=some (.cells #[I 2,I k] 40 (0,0))):=Lib.hid ((hb4.block rf (Array.getElem?_eq_some_iff.1 rKF.out).1).trans F3.out)
 have HR4:=Lib.hid hrow4
 have HC4:=Lib.hid hc4
 have HN4:=Lib.hid hn4
 clear hown4 hb4 hrow4 hc4 hn4
 obtain ⟨n4,hq4⟩:∃ q,(bs++mo).length=q:=⟨_,rfl⟩
 rw [hq4]
 have HQ4:=Lib.hid hq4
 clear hq4
 have D2:Hid (Calls Tryz.prog 14 #[.slice a4 n4 cap4] u4 fun e w'=>e=.returned (.tuple #[.agg Z,.agg #[I 6,I n]])∧Below u4.heap.size u4 w'):=Lib.hid (by
  have hd0:=HDEC.out mo (by have:=HML.out;have:=HM.out;omega)
  rw [if_neg (fun e=>by have:=HML.out;have:=HM.out;rw [e] at *;simp at *;omega)] at hd0
  have:=By.dec_err hd0 HR4.out (by rw [List.length_append];have:=HN.out;have:=HML.out;have:=HM.out;omega) HC4.out HN4.out
  rw [EZ.out,HN.out,HQ4.out] at this
  exact this)
 go_wp2_with fail
 refine D2.out.mono ?_
 rintro e u5 ⟨rfl,hb5⟩
 have B5:=Lib.hid (B4.out.trans (hb5.mono B4.out.size))
 have F5:Hid (u5.heap[rf]?=some (.cells #[I 2,I k] 40 (0,0))):=Lib.hid ((hb5.block rf (Array.getElem?_eq_some_iff.1 F4.out).1).trans F4.out)
 clear hb5 D2
 have KB:=Lib.hid (heap_alloc2_old u5 (.cells Z 31) (.cells #[I 0,I 0] 40))
 have KF:=Lib.hid ((setRow_other ((u5.alloc (.cells Z 31)).alloc (.cells #[I 0,I 0] 40)) u5.heap.size (u5.heap.size+1) Z (by omega)).trans (heap_alloc2_new u5 (.cells Z 31) (.cells #[I 0,I 0] 40)))
 have sD:Hid (Below u5.heap.size u5 ((((u5.alloc (.cells Z 31)).alloc (.cells #[I 0,I 0] 40)).setRow u5.heap.size Z).setRow (u5.heap.size+1) #[I 6,I n])):=Lib.hid (Same.below_setRow (Same.below_setRow (((Below.refl _ _).alloc (Nat.le_refl _) _).alloc (by simp) _) (Nat.le_refl _) _) (by omega) _)
 have sKF:=Lib.hid (setRow_heap _ (u5.heap.size+1) _ #[I 6,I n] _ _ KF.out)
 have sKB:=Lib.hid ((setRow_other (((u5.alloc (.cells Z 31)).alloc (.cells #[I 0,I 0] 40)).setRow u5.heap.size Z) (u5.heap.size+1) u5.heap.size #[I 6,I n] (by omega)).trans (setRow_heap _ u5.heap.size _ Z _ _ KB.out))
 go_upto_region 9 with (first | (refine wpList_store_row rfl 31 _ _ rfl u5.heap.size Z rfl rfl 31 _ KB.out ZJ.out rfl ZO.out ?_) | (refine wpList_store_row rfl 40 _ _ rfl (u5.heap.size+1) #[I 6,I n] rfl rfl 40 _ KF.out Po.infoF rfl (by simp [Value.oneCell']) ?_))
 generalize (((u5.alloc (.cells Z 31)).alloc (.cells #[I 0,I 0] 40)).setRow u5.heap.size Z).setRow (u5.heap.size+1) #[I 6,I n]=su at sD sKB sKF ⊢
 have sB:=Lib.hid (B5.out.trans (sD.out.mono B5.out.size))
 generalize u5.heap.size+1=sf at sKF ⊢
 have sM:Hid (∀ W,Below u5.heap.size W W→True):=Lib.hid (fun _ _=>trivial)
 clear KB KF sM
 have F6:Hid (su.heap[rf]?=some (.cells #[I 2,I k] 40 (0,0))):=Lib.hid ((sD.out.block rf (Array.getElem?_eq_some_iff.1 F5.out).1).trans F5.out)
 have Q1:Hid (Same.Eqs 40 [I 2,I k] [I 2,I k] true):=Lib.hid (by have:=Rr.fault_eqs 2 k 2 k;simpa using this)
 have Q2:Hid (Same.Eqs 40 [I 6,I n] [I 6,I n] true):=Lib.hid (by have:=Rr.fault_eqs 6 n 6 n;simpa using this)
 go_wp2_with (first | (refine Row.wpList_load_g 40 _ rfl (by first | rfl | (go_simp;done) | fail) ⟨rf,0,none⟩ rfl [I 2,I k] _ (by have:=Row.lies_of_block F6.out;simpa using this) Tryz.underlying40 rfl Po.infoF ?_) | (refine Row.wpList_load_g 40 _ rfl (by first | rfl | (go_simp;done) | fail) ⟨sf,0,none⟩ rfl [I 6,I n] _ (by have:=Row.lies_of_block sKF.out;simpa using this) Tryz.underlying40 rfl Po.infoF ?_) | (refine Row.wpList_eql 40 _ _ _ rfl (by rfl) #[I 2,I k] #[I 2,I k] rfl rfl Rr.guardF true Q1.out ?_) | (refine Row.wpList_eql 40 _ _ _ rfl (by rfl) #[I 6,I n] #[I 6,I n] rfl rfl Rr.guardF true Q2.out ?_))
 refine (Rr.awake_any _).mono ?_
 rintro e u9 ⟨rfl,b9⟩
 go_wp2
 go_ret
 exact ⟨rfl,A0.out.trans ((sB.out.trans (b9.mono sB.out.size)).mono A0.out.size)⟩
theorem lifted (os:Os) (started:os.Started) (H:Type) (enc:TypeId × Value→H) :
  ReturnsInHanded {} Tryz.checked os 7 .any (Rows.codeCutSpec.pre6 enc Tryz.prog Tryz.f7 Rows.codeCutRow.domain false) (Rows.codeCutSpec.post enc Tryz.prog Tryz.f7 false true false false):=by
 refine returnsInHanded_of_change (C:=Tryz.checked) own started (by kernel_rfl) Tryz.func7
  (ChangeSpec.witness6 (enc:=enc) (C:=Tryz.checked) false ⟨#[],#[.slice none 0 0,.int .i64 0,.slice none 0 0],[]⟩ 8 (by kernel_rfl) (by kernel_rfl) (by kernel_rfl) (by kernel_rfl)) ?_
 intro W base args ds gs before hval0 hW hcnd _
 have hval:∀ (j:Nat) t v,Tryz.f7.params[j]?=some t→args[j]?=some v→Value.okWide Tryz.prog W .any base t v:=hval0
 have hW':=hW
 obtain ⟨p,q,hA0,hV,rfl,hfz,hnd⟩:=hW
 have hA:DataW.TrodAll enc Tryz.prog W 0 (fun _=>true) true Tryz.f7.params.toList args.toList ds p:=hA0
 rw [Tryz.params7] at hA hval
 obtain ⟨v0,vs0,d0,ds0,p0,q0,hargs,rfl,rfl,h0,r0⟩:=trodAll_cons hA
 obtain ⟨v1,vs1,d1,ds1,p1,q1,rfl,rfl,rfl,h1,r1⟩:=trodAll_cons r0
 obtain ⟨v2,vs2,d2,ds2,p2,q2,rfl,rfl,rfl,h2,r2⟩:=trodAll_cons r1
 obtain ⟨rfl,rfl,rfl⟩:=trodAll_nil r2
 obtain rfl:args=#[v0,v1,v2]:=by cases args;simp_all
 obtain ⟨rfl,rfl⟩:=trodVars_none hV
 obtain ⟨a0,len0,cap0,rfl⟩:=okWide_slice Tryz.underlying46 (hval 0 46 v0 rfl rfl)
 have k0:=h0
 have lt0:∀ x ∈ p0,x.block < W.heap.size:=by obtain ⟨m,hm⟩:=k0;exact DataW.trod_lt m _ _ _ hm
 obtain ⟨z0,w0⟩:∃ zs,IsRow .i64 W a0 len0 cap0 zs:=by
  obtain ⟨fuel,hf⟩:=h0
  rcases open_ints Tryz.underlying46 Tryz.underlying3 (by kernel_rfl) hf with ⟨hcs,_⟩ | ⟨x,l,c,zs,hcs,_,hl,hm,hz,_,hcell,hwz⟩
  ·simp [Value.cells] at hcs
   obtain ⟨rfl,rfl,rfl⟩:=hcs
   exact ⟨[],.inl ⟨rfl,rfl,rfl,rfl⟩⟩
  ·simp [Value.cells] at hcs
   obtain ⟨rfl,rfl,rfl⟩:=hcs
   exact ⟨zs,.inr ⟨_,rfl,hl,hm,by simpa using hz,hcell,hwz⟩⟩
 obtain ⟨a1,rfl,rfl,rfl,w1⟩:=open_int Tryz.underlying3 (hval 1 3 v1 rfl rfl) h1
 obtain ⟨a2,len2,cap2,rfl⟩:=okWide_slice Tryz.underlying34 (hval 2 34 v2 rfl rfl)
 have k2:=h2
 have lt2:∀ x ∈ p2,x.block < W.heap.size:=by obtain ⟨m,hm⟩:=k2;exact DataW.trod_lt m _ _ _ hm
 obtain ⟨z2,w2⟩:∃ zs,IsRow .u8 W a2 len2 cap2 zs:=by
  obtain ⟨fuel,hf⟩:=h2
  rcases open_ints Tryz.underlying34 Tryz.underlying5 (by kernel_rfl) hf with ⟨hcs,_⟩ | ⟨x,l,c,zs,hcs,_,hl,hm,hz,_,hcell,hwz⟩
  ·simp [Value.cells] at hcs
   obtain ⟨rfl,rfl,rfl⟩:=hcs
   exact ⟨[],.inl ⟨rfl,rfl,rfl,rfl⟩⟩
  ·simp [Value.cells] at hcs
   obtain ⟨rfl,rfl,rfl⟩:=hcs
   exact ⟨zs,.inr ⟨_,rfl,hl,hm,by simpa using hz,hcell,hwz⟩⟩
 clear hA0 hval0
 refine (walk a0 len0 cap0 z0 a1 a2 len2 cap2 z2 W w0 w1 w2).mono fun e W' ⟨he,bel⟩=>?_
 subst he
 exact ⟨_,rfl,_,_,_,[],_,[],hW',trodAll_mk1 (shut_bool Tryz.underlying4 _),(trodAll_cons_mk (Below.trod laidOut (by kernel_rfl) (of_decide_eq_true (by kernel_rfl)) k0 bel lt0) (trodAll_cons_mk (shut_int Tryz.underlying3 w1) (trodAll_cons_mk (Below.trod laidOut (by kernel_rfl) (of_decide_eq_true (by kernel_rfl)) k2 bel lt2) trodAll_mk0))),rfl,bel.frame _,fun h=>by cases h⟩
theorem over:Rows.codeCutRow.holds Tryz.pinned (OpenSpec.ofChange Rows.codeCutSpec) :=
 OpenClaim.holds_of_wide 7 Tryz.f7 rfl rfl rfl rfl rfl rfl rfl ⟨rfl,rfl,rfl,rfl,rfl⟩ rfl rfl rfl rfl rfl (by kernel_rfl) Tryz.func7 (by kernel_rfl)
  (of_decide_eq_true (by kernel_rfl)) (by unfold Func.isWrapper;first | (rw [if_pos (by decide +kernel)];kernel_rfl) | (rw [if_neg (by decide +kernel)];exact ⟨rfl,rfl⟩))
  (fun os started H enc _=>lifted os started H enc)
theorem proved:Rows.CodeCutSaid :=
 over
#print axioms proved
end codeCut
end Go.Proofs.YtggjconbgpfomaaGreat
