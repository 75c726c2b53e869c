/- CodeBytes returns true at any numbers of a table and any bytes turned: what is read at all is written as the same bytes. No condition. -/
import Derived.Test.YtonpphjleapafaaGreatPart01
import Derived.Test.YtonpphjleapafaaGreatRows
import Derived.Test.YtonpphjleapafaaGreatPart02
import Derived.Test.YtonpphjleapafaaGreatPart03
import Derived.Test.YtonpphjleapafaaGreatPart04
import Derived.Test.YtonpphjleapafaaGreatPart05
import Derived.Deep.Cut
import Derived.LoopTactic
import Derived.BigQuiet
import Derived.Test.YtonpphjleapafaaGreatPart06
import Derived.Deep.CutRange
import Derived.WalkKit
import Derived.WalkLawsBesides
import Derived.ProofKit
import Derived.OpenShut
import Derived.ShutString
import Derived.ChangeOld
import Derived.Below
set_option linter.unusedVariables false
set_option linter.unusedSimpArgs false
set_option linter.unusedSectionVars false
set_option maxHeartbeats 8000000
set_option maxRecDepth 100000
open Array renaming getElem?_eq_some_iff→k3
open List renaming getD_eq_getElem?_getD→k4, length_append→k7, getElem?_eq_getElem→k8, size_toArray→kf, getElem_mem→kg
open Go.Value.slice renaming injEq→k5
open Go.RowKit.Below renaming refl→k6, trod→ki
open Go.World renaming block_lt_of_cell?→k9
open Nat renaming le_refl→ka
open Go.Value renaming cells→kc, oneCell'→kh
open Go.DataW renaming trod_lt→kd
open Option.some renaming injEq→ke
open Go.Addr.mk renaming injEq→kj
open Go renaming wpList_store_row→kl, setRow_other→km, trodAll_cons_mk→kn, setRow_heap→ko, heap_alloc2_old→kp, heap_alloc2_new→kq
namespace Go.Proofs.YtonpphjleapafaaGreat
namespace codeBytes
open Zip
open Go.ChangeShapes Go.WideShapes Go.ChangeAt Go.RowKit
open Tab Po
open GenT (jj)
open Cd (J0 jP)
open May (jZ)
open By (j7j jb0)
theorem own:ownKnob Tryz.prog.godebug=none:=by kernel_rfl
theorem laidOut:laidOutB Tryz.prog=true:=by kernel_rfl
def j3S (k:IntKind) (w:World) (a:Option Addr) (len cap:Nat) (zs:List Int):Prop :=
 (a=none/\len=0/\cap=0/\zs=[]) \/
 ∃ x,a=some x/\len<=cap/\cap<=maxLen/\zs.length=cap/\(∀ i,i < zs.length->w.cell? (x.add i)=some (.int k (zs.getD i 0)))/\∀ n ∈ zs,(Lit.int k n).wf=true
theorem jab {w:World} {a:Option Addr} {len cap:Nat} {zs:List Int} (h:j3S .i64 w a len cap zs):(zs.take len).length=len/\Tab.jc w ⟨a,cap⟩ (zs.take len):=by
 rcases h with ⟨rfl,rfl,rfl,rfl⟩ | ⟨x,rfl,h1,h2,h3,h4,_⟩
 ·exact ⟨rfl,.inl ⟨rfl,rfl,rfl⟩⟩
 have hl:(zs.take len).length=len:=by rw [List.length_take];omega
 refine ⟨hl,.inr ⟨x,rfl,by rw [hl];exact h1,h2,fun i v hv j u hu=>?_⟩⟩;have hi:i < len:=by have:=(List.getElem?_eq_some_iff.1 hv).1;omega
 match j,hu with
 | 0,hu =>
  simp at hu;subst hu;rw [List.getElem?_take,if_pos hi] at hv;have:=h4 i (by omega);rw [k4,hv] at this;rw [Nat.mul_one,Tab.j25,Nat.add_zero];exact this
 | j+1,hu=>simp at hu
theorem walk (a0:Option Addr) (len0 cap0:Nat) (z0:List Int) (s1:Tab.Sl) (l1:List Int) (a2:Option Addr) (len2 cap2:Nat) (z2:List Int) (w:World) (w0:j3S .i64 w a0 len0 cap0 z0) (w1:Tab.ju 1 (fun n:Int=>[Tab.I n]) w s1 l1) (w2:j3S .u8 w a2 len2 cap2 z2) :
  Calls Tryz.prog 4 #[.slice a0 len0 cap0,.slice s1.a l1.length s1.cap,.slice a2 len2 cap2] w fun e w'=>e=.returned (.bool true)/\Below w.heap.size w w':=by
 obtain ⟨xi,zi,hA,hl1,hc1⟩:=Arg.ints_at w1;obtain ⟨sa,capi⟩:=s1;dsimp only at hA hl1 hc1 |-;generalize l1.length=lni at hA hl1 |-;have HA:=hJJ hA;unfold maxLen at hc1;clear hA w1;obtain ⟨ys,hyl,hr2,hlc2,hcm2,hnil2⟩:=B.jc3 w2;clear w2;have HR2:=hJJ hr2;have HYL:=hJJ hyl;unfold maxLen at hcm2;clear hr2 hyl hnil2;obtain ⟨hlen,hrow⟩:=jab w0;obtain ⟨L,hL⟩:∃ L,L=z0.take len0:=⟨_,rfl⟩;rw [<-hL] at hlen hrow;clear hL w0;subst hlen;have GM:Hid (jZ (jj L)=true):=hJJ (GenT.j95 L);have GF:Hid (jb0 (jj L)):=hJJ (By.jd5 L);have GS:Hid (j7j (jj L)->(jP (J0 (jj L))).length<=1000):=hJJ (By.j9Y L);have hz:=(zero_of_info Clone.j1p).1;obtain ⟨Z,hZ⟩:∃ Z,(Clone.jB.cells Clone.zHd).toArray=Z:=⟨_,rfl⟩;have EZS:Hid (Z.size=131):=hJJ (by rw [<-hZ];exact (j9 (Clone.j3m w)).size);rw [hZ] at hz;have EZ:=hJJ hZ;clear hZ;go_enter Tryz.func4,Tryz.ntmps4
 go_upto_region 1 with fail
 rename_i K hK;have HK:=hJJ hK;clear hK;go_wp2_with fail
 refine (GenT.j3h a0 cap0 L w hrow).mono ?_;rintro e u ⟨hd,rfl,ht,hb⟩;have A0:=hJJ hb;have HT:=hJJ ht;have H8:j7j (jj L):=⟨ht.ph,ht.cf,ht.fl⟩;have SM:=GS.out H8;have few:=Cd.jar ht GM.out;clear ht hb GS GM GF H8;generalize jj L=T at *
 have hbl:(J0 T).length<=998/\3<=(J0 T).length:=by
  unfold jP at SM;rw [k7,Put.jE] at SM;refine ⟨by omega,?_⟩;unfold J0;simp only [k7,List.length_cons,List.length_nil];omega
 clear SM;go_wp2_with fail
 refine (Rb.jaa HT.out few).mono ?_;rintro e u1 ⟨v,rfl,⟨hbv,hown⟩,hb1⟩;have B8:=hJJ hbv.b8;obtain ⟨a,cap,rfl,hr,hcap,hnil⟩:=Rb.j6B hown B8.out;obtain ⟨b0,hb0⟩:∃ l,J0 T=l:=⟨_,rfl⟩;rw [hb0] at hown B8 hcap hr hbl |-;obtain ⟨g,cap2,e9,hg,-,-⟩:=CrcB.j82 hown (by omega);injection e9 with q1 q2 q3
 subst q1 q3;obtain ⟨n,hn⟩:∃ n,b0.length=n:=⟨_,rfl⟩;rw [hn] at hown hcap hbl |-;have HOW:=hJJ hown;have HB1:=hJJ hb1;have HN:=hJJ hn;obtain ⟨n1,n0⟩:=hbl;clear hown hb1 hn hbv hr hb0 HT few hnil;go_wp2_with fail
 refine HK.out _ _ ?_;clear HK K;apply wp_seq_k;intro K hK;have HK:=hJJ hK;clear hK;go_cut [] from 16 to 53 (fun wx=>∃ m:List Nat,m.length=n/\(∀ x ∈ m,x < 256)/\CrcB.Own u.heap.size wx (.slice (some ⟨g,0,none⟩) n cap) m/\Below u.heap.size u wx)
 case first =>
  go_wp2_with fail
  go_loopw [8] (fun i wr=>∃ (q:Nat) (m:List Nat),q<=4/\i=.int .i64 q/\m.length=n/\Hid (∀ x ∈ m,x < 256)/\Hid (CrcB.Own u.heap.size wr (.slice (some ⟨g,0,none⟩) n cap) m)/\Hid (Below u.heap.size u wr)) (fun i _=>4 - (intOf i).toNat)
  case atStart=>exact ⟨0,b0,by omega,rfl,HN.out,B8.out,HOW.out,HB1.out⟩
  case round =>
   obtain ⟨q,m,hq,rfl,hm,M8,MO,MB⟩:=hrel;clear HOW HB1;rename World=>wr
   have hbw:=A0.out.trans (MB.out.mono A0.out.size);by_cases h1:q < lni;rotate_left
   ·go_wp2_with fail
    go_meet
    case rel=>exact ⟨m,hm,M8.out,MO.out,MB.out⟩
   by_cases h2:q < len2;rotate_left
   ·go_wp2_with fail
    go_meet
    case rel=>exact ⟨m,hm,M8.out,MO.out,MB.out⟩
   by_cases h3:q < 4;rotate_left
   ·go_wp2_with fail
    go_meet
    case rel=>exact ⟨m,hm,M8.out,MO.out,MB.out⟩
   obtain ⟨hx,hzl⟩:=HA.out q h1;subst hx;have kz:=Arg.ja4 hzl hbw;clear hzl;generalize zi q=kk at kz;have hyr:=HR2.out.below hbw
   have hzb:ys.getD q 0 < 256:=by
    rw [k4,k8 (by rw [HYL.out];exact h2)];exact HR2.out.2.1 _ (kg _)
   obtain ⟨y2,hy2,hcl⟩:=hyr.cells (k:=q) (by rw [HYL.out];exact h2);subst hy2;have kb:=hcl q (by rw [HYL.out];exact h2);clear hcl hyr;generalize ys.getD q 0=z at kb hzb;obtain ⟨k,hk⟩:∃ k:Nat,kk % (n:Int)=(k:Int):=⟨(kk % (n:Int)).toNat,by have:=Int.emod_nonneg kk (show (n:Int) ≠ 0 by omega);omega⟩;have hkn:k < n:=by have:=Int.emod_lt_of_pos kk (show 0 < (n:Int) by omega);omega
   have PL:Hid (∀ W,Calls Tryz.prog 12 #[.int .i64 kk,.int .i64 (n:Int)] W fun e w'=>e=.returned (.int .i64 k)/\W=w'):=hJJ (fun W=>by have:=RefS.j0K kk (n:Int) W (by omega) (by omega);rwa [hk] at this);clear hk;go_upto_region 6 with (go_at_call 12;refine (PL.out _).mono ?_;rintro e w' ⟨rfl,rfl⟩)
   clear kz PL;obtain ⟨g',cap',e',hg',-,hcl2⟩:=CrcB.j82 MO.out (by rw [hm];omega);simp only [k5,ke,kj] at e';obtain ⟨⟨rfl,-,-⟩,-,rfl⟩:=e';have hcell:=hcl2 k (by omega);clear hcl2
   have hyb:m.getD k 0 < 256:=by
    rw [k4,k8 (by omega)];exact M8.out _ (kg _)
   generalize m.getD k 0=y at hcell hyb;have q1:∀ r:QB.By wr.heap.size wr,r.world.cell? ⟨g,k,none⟩=some (.int .u8 (y:Int)):=fun r=>(r.below.cell (k9 wr _ hcell)).trans hcell;have q2:∀ r:QB.By wr.heap.size wr,r.world.cell? (y2.add q)=some (.int .u8 (z:Int)):=fun r=>(r.below.cell (k9 wr _ kb)).trans kb;clear hcell kb;refine QT.region wr.heap.size 12 (by kernel_rfl) (by kernel_rfl) ?_;simp only [List.take_succ_cons,List.take_zero];repeat (quiet_step (fail))
   refine wpQuiet_nil ?_;intro _ hw';obtain ⟨pq,rfl⟩:=hw';have HQ:=hJJ pq.below;have MO2:=hJJ (CrcB.jA MO.out pq.below);generalize pq.world=vp at HQ MO2 |-;simp only [List.drop_succ_cons,List.drop_zero];clear q1 q2;obtain ⟨g',cap',e',hg',hfz,hcl2⟩:=CrcB.j82 MO2.out (by rw [hm];omega);simp only [k5,ke,kj] at e';obtain ⟨⟨rfl,-,-⟩,-,rfl⟩:=e';have hcell:=hcl2 k (by omega);have hfrz:=hfz k;clear hcl2 hfz;have hxb:=u8_xor_nat y z hyb hzb;have Ht:=hJJ (CrcB.j7g MO2.out hm k (y ^^^ z) hkn);go_wp2_with fail
   go_roundw
   case rel=>exact ⟨q+1,m.set k (y ^^^ z),by omega,by go_num,by rw [List.length_set];exact hm,hJJ (fun x hx=>by
    rcases List.mem_or_eq_of_mem_set hx with hx | rfl
    ·exact M8.out x hx
    exact Nat.xor_lt_two_pow (n:=8) hyb hzb),hJJ (by first | exact Ht.out | (rw [<-hxb] at Ht;exact Ht.out)),hJJ ((MB.out.trans (HQ.out.mono MB.out.size)).setCell hg' _)⟩
   case measure=>simp [intOf];omega
 case rest =>
 obtain ⟨m,hm,h8,hown,hbel⟩:=hcut;have M8:=hJJ h8;have MB:=hJJ hbel;obtain ⟨a9,cap9,e9,hr9,hc9,hn9⟩:=Rb.j6B hown h8;simp only [k5] at e9;obtain ⟨rfl,-,rfl⟩:=e9;rename World=>wm
 refine HK.out _ _ ?_;clear HK K HOW HB1 HA HR2 HYL B8;obtain ⟨sb,hsb⟩:∃ l,Cd.jP m=l:=⟨_,rfl⟩;have hsl:sb.length=n+2:=by rw [<-hsb];unfold Cd.jP;rw [k7,Put.jE,hm]
 have hs8:∀ x ∈ sb,x < 256:=by
  intro x hx;rw [<-hsb] at hx;unfold Cd.jP at hx;rcases List.mem_append.1 hx with hx | hx
  ·exact h8 x hx
  exact Put.Jk _ _ x hx
 have SE:Hid (Calls Tryz.prog 8 #[.slice (some ⟨g,0,none⟩) n cap] wm fun e W'=>∃ a2 cap2,e=.returned (.slice a2 sb.length cap2)/\B.Row W' a2 sb/\sb.length<=cap2/\(a2=none->cap2=0)/\Below wm.heap.size wm W'):=hJJ (by have:=Rb.jbY hr9 hn9 (show m.length<=9000 by omega);rwa [hm,hsb] at this);obtain ⟨f0,hf0⟩:∃ x,(Dh.j5q sb).1=x:=⟨_,rfl⟩;obtain ⟨f1,hf1⟩:∃ x,(Dh.j5q sb).2=x:=⟨_,rfl⟩;obtain ⟨T2,hT2⟩:∃ x,Dh.j6A sb=x:=⟨_,rfl⟩
 have FZ:Hid (f0=0->sb=jP (J0 T2)/\jZ T2=true):=hJJ (fun h=>by
  rw [<-hf0] at h;unfold Dh.j5q at h;rw [<-hT2];unfold Dh.j6A;cases hd2:Rr.JF sb with
  | error f=>rw [hd2] at h;exact absurd h (By.jbR hd2)
  | ok x=>obtain ⟨_,h2,h3,_⟩:=By.jcJ hs8 hd2;exact ⟨h2,h3⟩)
 obtain ⟨n2,hn2⟩:∃ n,sb.length=n:=⟨_,rfl⟩;have D3:Hid (∀ W a cap,B.Row W a sb->n2<=cap->(a=none->cap=0)->Calls Tryz.prog 6 #[.slice a n2 cap] W fun e w'=>∃ hd,e=.returned (.tuple #[.agg (T2.cells hd).toArray,.agg #[I f0,I f1]])/\jy w' hd T2/\Below W.heap.size W w'):=hJJ (fun W a cap hr hc hnn=>by rw [<-hn2,<-hT2,<-hf0,<-hf1];exact Dh.jdq sb hr (by omega) (by omega) hnn);have D4:Hid (∀ W a cap,B.Row W a sb->n2<=cap->(a=none->cap=0)->Calls Tryz.prog 7 #[.slice a n2 cap] W fun e w'=>∃ hd,e=.returned (.tuple #[.agg (T2.cells hd).toArray,.agg #[I f0,I f1]])/\jy w' hd T2/\Below W.heap.size W w'):=hJJ (fun W a cap hr hc hnn=>by rw [<-hn2,<-hT2,<-hf0,<-hf1];exact Dh.jbX sb hr (by omega) (by omega));have RSM:Hid (∀ (T:Tab) (h k:Hd) W,jy W h T->jy W k T->Calls Tryz.prog 9 #[.agg (T.cells h).toArray,.agg (T.cells k).toArray] W fun e w'=>e=.returned (.bool true)/\Below W.heap.size W w'):=hJJ (fun T h k W h1 h2=>by have:=Same.ja3 T T h k W h1 h2;rwa [show decide (T=T)=true by simp] at this);rw [hn2] at SE;clear hf0 hf1 hT2 hsb hs8 h8 hown hbel hr9 hc9 hn9;have HN2:=hJJ hn2;clear hn2;have wB:Hid (Below u.heap.size u wm):=MB;go_wp2_with fail
 refine SE.out.mono ?_;rintro e u3 ⟨a2',cap2,rfl,q1,q2,q3,hb⟩;have tB:=hJJ (wB.out.trans (hb.mono wB.out.size));have ROW2:=hJJ q1;have CAP2:=hJJ q2;have NIL2:=hJJ q3;clear q1 q2 q3 hb SE;go_wp2_with fail
 refine (D3.out u3 a2' cap2 ROW2.out CAP2.out NIL2.out).mono ?_;rintro e u4 ⟨hd3,rfl,ht,hb⟩;have hco:=j9 (ht);have c3I:Hid ((Tryz.prog.info? 33).map (·.size)=some (T2.cells hd3).length):=hJJ (by have:=hco.size;rw [kf] at this;rw [this];exact May.jK);have c3J:Hid ((Tryz.prog.info? 33).map (·.size)=some (T2.cells hd3).toArray.size):=hJJ (by rw [hco.size];exact May.jK);have c3S:Hid (Z.size=(T2.cells hd3).toArray.size):=hJJ (by rw [EZS.out,hco.size]);have c3O:=hJJ hco.one;clear hco;obtain ⟨c3,hc3⟩:∃ l,T2.cells hd3=l:=⟨_,rfl⟩;rw [hc3] at c3I c3J c3S c3O |-;have c3E:=hJJ hc3;clear hc3;have B4:=hJJ (tB.out.trans (hb.mono tB.out.size));have pX:=hJJ hb;have HTp:Hid (∀ W,Below u4.heap.size u4 W->jy W hd3 T2):=hJJ (fun W h=>ht.below h);clear ht hb;have KB:=hJJ (kp u4 (.cells Z 33) (.cells #[I 0,I 0] 36));have KF:=hJJ ((km ((u4.alloc (.cells Z 33)).alloc (.cells #[I 0,I 0] 36)) u4.heap.size (u4.heap.size+1) c3.toArray (by omega)).trans (kq u4 (.cells Z 33) (.cells #[I 0,I 0] 36)));have pD:Hid (Below u4.heap.size u4 ((((u4.alloc (.cells Z 33)).alloc (.cells #[I 0,I 0] 36)).setRow u4.heap.size c3.toArray).setRow (u4.heap.size+1) #[I f0,I f1])):=hJJ (Same.below_setRow (Same.below_setRow (((k6 _ _).alloc (ka _) _).alloc (by simp) _) (ka _) _) (by omega) _);have pKF:=hJJ (ko _ (u4.heap.size+1) _ #[I f0,I f1] _ _ KF.out);have pKB:=hJJ ((km (((u4.alloc (.cells Z 33)).alloc (.cells #[I 0,I 0] 36)).setRow u4.heap.size c3.toArray) (u4.heap.size+1) u4.heap.size #[I f0,I f1] (by omega)).trans (ko _ u4.heap.size _ c3.toArray _ _ KB.out));go_upto_region 9 with (first | (refine kl rfl 33 _ _ rfl u4.heap.size c3.toArray rfl rfl 33 _ KB.out c3J.out c3S.out c3O.out ?_) | (refine kl rfl 36 _ _ rfl (u4.heap.size+1) #[I f0,I f1] rfl rfl 36 _ KF.out Po.jW rfl (by simp [kh]) ?_))
 generalize (((u4.alloc (.cells Z 33)).alloc (.cells #[I 0,I 0] 36)).setRow u4.heap.size c3.toArray).setRow (u4.heap.size+1) #[I f0,I f1]=pu at pD pKB pKF |-;have pB:=hJJ (B4.out.trans (pD.out.mono B4.out.size));generalize u4.heap.size+1=pf at pKF |-;have pM:Hid (∀ W,Below u4.heap.size W W->True):=hJJ (fun _ _=>trivial);clear KB KF pM;go_wp2_with fail
 refine (D4.out pu a2' cap2 (ROW2.out.below (pX.out.trans (pD.out.mono pX.out.size))) CAP2.out NIL2.out).mono ?_;rintro e u5 ⟨hd4,rfl,ht,hb⟩;have hco:=j9 (ht);have c4I:Hid ((Tryz.prog.info? 33).map (·.size)=some (T2.cells hd4).length):=hJJ (by have:=hco.size;rw [kf] at this;rw [this];exact May.jK);have c4J:Hid ((Tryz.prog.info? 33).map (·.size)=some (T2.cells hd4).toArray.size):=hJJ (by rw [hco.size];exact May.jK);have c4S:Hid (Z.size=(T2.cells hd4).toArray.size):=hJJ (by rw [EZS.out,hco.size]);have c4O:=hJJ hco.one;clear hco;obtain ⟨c4,hc4⟩:∃ l,T2.cells hd4=l:=⟨_,rfl⟩;rw [hc4] at c4I c4J c4S c4O |-;have c4E:=hJJ hc4;clear hc4;have B5:=hJJ (pB.out.trans (hb.mono pB.out.size));have qX:=hJJ hb;have HTq:Hid (∀ W,Below u5.heap.size u5 W->jy W hd4 T2):=hJJ (fun W h=>ht.below h);clear ht hb;have KB:=hJJ (kp u5 (.cells Z 33) (.cells #[I 0,I 0] 36));have KF:=hJJ ((km ((u5.alloc (.cells Z 33)).alloc (.cells #[I 0,I 0] 36)) u5.heap.size (u5.heap.size+1) c4.toArray (by omega)).trans (kq u5 (.cells Z 33) (.cells #[I 0,I 0] 36)));have qD:Hid (Below u5.heap.size u5 ((((u5.alloc (.cells Z 33)).alloc (.cells #[I 0,I 0] 36)).setRow u5.heap.size c4.toArray).setRow (u5.heap.size+1) #[I f0,I f1])):=hJJ (Same.below_setRow (Same.below_setRow (((k6 _ _).alloc (ka _) _).alloc (by simp) _) (ka _) _) (by omega) _);have qKF:=hJJ (ko _ (u5.heap.size+1) _ #[I f0,I f1] _ _ KF.out);have qKB:=hJJ ((km (((u5.alloc (.cells Z 33)).alloc (.cells #[I 0,I 0] 36)).setRow u5.heap.size c4.toArray) (u5.heap.size+1) u5.heap.size #[I f0,I f1] (by omega)).trans (ko _ u5.heap.size _ c4.toArray _ _ KB.out));go_upto_region 10 with (first | (refine kl rfl 33 _ _ rfl u5.heap.size c4.toArray rfl rfl 33 _ KB.out c4J.out c4S.out c4O.out ?_) | (refine kl rfl 36 _ _ rfl (u5.heap.size+1) #[I f0,I f1] rfl rfl 36 _ KF.out Po.jW rfl (by simp [kh]) ?_))
 generalize (((u5.alloc (.cells Z 33)).alloc (.cells #[I 0,I 0] 36)).setRow u5.heap.size c4.toArray).setRow (u5.heap.size+1) #[I f0,I f1]=qu at qD qKB qKF |-;have qB:=hJJ (B5.out.trans (qD.out.mono B5.out.size));generalize u5.heap.size+1=qf at qKF |-;have qM:Hid (∀ W,Below u5.heap.size W W->True):=hJJ (fun _ _=>trivial);clear KB KF qM;have pS0:=qX.out;have pS1:=pS0.trans (qD.out.mono pS0.size);have pS:=hJJ pS1;clear pS0 pS1;have pV0:=pD.out;have pV1:=pV0.trans (pS.out.mono pV0.size);have pV:=hJJ pV1;clear pV0 pV1;have rV0:=pX.out;have rV1:=rV0.trans (pV.out.mono rV0.size);have rV:=hJJ rV1;clear rV0 rV1;have KA:Hid (∀ W,Below qu.heap.size qu W->W.heap[u4.heap.size]?=some (.cells c3.toArray 33 (0,0))):=hJJ (fun W h=>by have h1:=(pS.out.block _ (k3.1 pKB.out).1).trans pKB.out;exact (h.block _ (k3.1 h1).1).trans h1);have KAF:Hid (∀ W,Below qu.heap.size qu W->W.heap[pf]?=some (.cells #[I f0,I f1] 36 (0,0))):=hJJ (fun W h=>by have h1:=(pS.out.block _ (k3.1 pKF.out).1).trans pKF.out;exact (h.block _ (k3.1 h1).1).trans h1);have KE:Hid (∀ W,Below qu.heap.size qu W->W.heap[u5.heap.size]?=some (.cells c4.toArray 33 (0,0))):=hJJ (fun W h=>(h.block _ (k3.1 qKB.out).1).trans qKB.out);have KEF:Hid (∀ W,Below qu.heap.size qu W->W.heap[qf]?=some (.cells #[I f0,I f1] 36 (0,0))):=hJJ (fun W h=>(h.block _ (k3.1 qKF.out).1).trans qKF.out);have SMA:Hid (∀ W,Below qu.heap.size qu W->Calls Tryz.prog 9 #[.agg c3.toArray,.agg c4.toArray] W fun e w'=>e=.returned (.bool true)/\Below W.heap.size W w'):=hJJ (fun W h=>by have:=RSM.out T2 hd3 hd4 W (HTp.out W (pV.out.trans (h.mono pV.out.size))) (HTq.out W (qD.out.trans (h.mono qD.out.size)));rwa [c3E.out,c4E.out] at this);have Q1:Hid (Same.Eqs 36 [I f0,I f1] [I f0,I f1] true):=hJJ (by have:=Rr.j3n f0 f1 f0 f1;simpa using this);have EC:Hid (jZ T2=true->sb=jP (J0 T2)->∀ W,Below qu.heap.size qu W->Calls Tryz.prog 13 #[.agg c3.toArray] W fun e w'=>∃ a cap,e=.returned (.tuple #[.slice a n2 cap,I 0])/\B.Row w' a sb/\Below W.heap.size W w'):=hJJ (fun h1 h2 W h=>by have:=By.j9A (HTp.out W (pV.out.trans (h.mono pV.out.size))) h1;rw [c3E.out,<-h2,HN2.out] at this;exact this.mono fun e w' ⟨a,cap,e1,e2,_,_,e5⟩=>⟨a,cap,e1,e2,e5⟩);have ROW3:Hid (∀ W,Below qu.heap.size qu W->B.Row W a2' sb):=hJJ (fun W h=>ROW2.out.below (rV.out.trans (h.mono rV.out.size)));clear pKB pKF qKB qKF HTp HTq RSM pS pV rV qX pX pD qD ROW2 D3 D4;have k0:qu.cell? ⟨pf,0,none⟩=some (I f0):=by rw [cell_of_row _ _ _ _ _ _ (KAF.out qu (k6 _ _))];rfl
 by_cases hf:f0=0;rotate_left
 ·have z1:(f0 != 0)=true:=by rw [bne_iff_ne];exact hf
  have z2:(f0 == 0)=false:=by rw [beq_eq_false_iff_ne];exact hf
  go_upto_region 11 with fail
  clear k0;go_wp2_with (first | (refine Row.j7 36 _ rfl (by first | rfl | (go_simp;done) | fail) ⟨pf,0,none⟩ rfl [I f0,I f1] _ (by have:=Row.j1 (KAF.out qu (k6 _ _));simpa using this) Tryz.underlying36 rfl Po.jW ?_) | (refine Row.j7 36 _ rfl (by first | rfl | (go_simp;done) | fail) ⟨qf,0,none⟩ rfl [I f0,I f1] _ (by have:=Row.j1 (KEF.out qu (k6 _ _));simpa using this) Tryz.underlying36 rfl Po.jW ?_) | (refine Row.j7N 36 _ _ _ rfl (by first | rfl | (go_simp;done) | fail) #[I f0,I f1] #[I f0,I f1] rfl rfl Rr.j7Y true Q1.out ?_))
  refine (Rr.j5B _).mono ?_;rintro e u9 ⟨rfl,b9⟩;go_wp2;go_ret;exact ⟨rfl,A0.out.trans ((qB.out.trans (b9.mono qB.out.size)).mono A0.out.size)⟩
 obtain ⟨hs2,hmay⟩:=FZ.out hf;subst hf;have EC2:=hJJ (EC.out hmay hs2 qu (k6 _ _));clear EC hs2 hmay FZ Q1;go_wp2_with (refine Row.j7 33 _ rfl (by first | rfl | (go_simp;done) | fail) ⟨u4.heap.size,0,none⟩ rfl c3 _ (by have:=Row.j1 (KA.out qu (k6 _ _));simpa using this) Tryz.underlying33 rfl c3I.out ?_)
 refine EC2.out.mono ?_;rintro e u6 ⟨a6,cap6,rfl,hr6,hb6⟩;have B6:=hJJ hb6;have ROW6:=hJJ hr6;clear hb6 hr6 EC2 k0;have k1:u6.cell? ⟨qf,0,none⟩=some (I 0):=by rw [cell_of_row _ _ _ _ _ _ (KEF.out u6 B6.out)];rfl
 go_wp2_with (first | (refine Row.j7 33 _ rfl (by first | rfl | (go_simp;done) | fail) ⟨u4.heap.size,0,none⟩ rfl c3 _ (by have:=Row.j1 (KA.out u6 B6.out);simpa using this) Tryz.underlying33 rfl c3I.out ?_) | (refine Row.j7 33 _ rfl (by first | rfl | (go_simp;done) | fail) ⟨u5.heap.size,0,none⟩ rfl c4 _ (by have:=Row.j1 (KE.out u6 B6.out);simpa using this) Tryz.underlying33 rfl c4I.out ?_))
 refine (SMA.out u6 B6.out).mono ?_;rintro e u7 ⟨rfl,b7⟩;have B7:=hJJ (B6.out.trans (b7.mono B6.out.size));have SBC:Hid (Calls Tryz.prog 14 #[.slice a2' n2 cap2,.slice a6 n2 cap6] u7 fun e w'=>e=.returned (.bool true)/\Below u7.heap.size u7 w'):=hJJ (by have:=B.jai a2' a6 cap2 cap6 sb u7 (ROW3.out u7 B7.out) (ROW6.out.below b7);rwa [HN2.out] at this);clear b7 SMA k1;go_wp2_with fail
 refine SBC.out.mono ?_;rintro e u8 ⟨rfl,b8⟩;have B9:=hJJ (B7.out.trans (b8.mono B7.out.size));clear b8 SBC;go_wp2_with fail
 refine (Rr.j5B _).mono ?_;rintro e u9 ⟨rfl,b9⟩;have BZ:=hJJ (B9.out.trans (b9.mono B9.out.size));go_wp2;go_ret;exact ⟨rfl,A0.out.trans ((qB.out.trans (BZ.out.mono qB.out.size)).mono A0.out.size)⟩
theorem lifted (os:Os) (started:os.Started) (H:Type) (enc:TypeId × Value->H) :
  ReturnsInHanded {} Tryz.checked os 4 .any (Rows.codeBytesSpec.pre6 enc Tryz.prog Tryz.f4 Rows.codeBytesRow.domain false) (Rows.codeBytesSpec.post enc Tryz.prog Tryz.f4 false true false false):=by
 refine returnsInHanded_of_change (C:=Tryz.checked) own started (by kernel_rfl) Tryz.func4
  (ChangeSpec.witness6 (enc:=enc) (C:=Tryz.checked) false ⟨#[],#[.slice none 0 0,.slice none 0 0,.slice none 0 0],[]⟩ 8 (by kernel_rfl) (by kernel_rfl) (by kernel_rfl) (by kernel_rfl)) ?_
 intro W base args ds gs before hval0 hW hcnd _;have hval:∀ (j:Nat) t v,Tryz.f4.params[j]?=some t->args[j]?=some v->Value.okWide Tryz.prog W .any base t v:=hval0;have hW':=hW;obtain ⟨p,q,hA0,hV,rfl,hfz,hnd⟩:=hW;have hA:DataW.TrodAll enc Tryz.prog W 0 (fun _=>true) true Tryz.f4.params.toList args.toList ds p:=hA0;rw [Tryz.params4] at hA hval;obtain ⟨v0,vs0,d0,ds0,p0,q0,hargs,rfl,rfl,h0,r0⟩:=trodAll_cons hA;obtain ⟨v1,vs1,d1,ds1,p1,q1,rfl,rfl,rfl,h1,r1⟩:=trodAll_cons r0;obtain ⟨v2,vs2,d2,ds2,p2,q2,rfl,rfl,rfl,h2,r2⟩:=trodAll_cons r1;obtain ⟨rfl,rfl,rfl⟩:=trodAll_nil r2;obtain rfl:args=#[v0,v1,v2]:=by cases args;simp_all
 obtain ⟨rfl,rfl⟩:=trodVars_none hV;obtain ⟨a0,len0,cap0,rfl⟩:=okWide_slice Tryz.underlying42 (hval 0 42 v0 rfl rfl);have k0:=h0;have lt0:∀ x ∈ p0,x.block < W.heap.size:=by obtain ⟨m,hm⟩:=k0;exact kd m _ _ _ hm
 obtain ⟨z0,w0⟩:∃ zs,j3S .i64 W a0 len0 cap0 zs:=by
  obtain ⟨fuel,hf⟩:=h0;rcases open_ints Tryz.underlying42 Tryz.underlying3 (by kernel_rfl) hf with ⟨hcs,_⟩ | ⟨x,l,c,zs,hcs,_,hl,hm,hz,_,hcell,hwz⟩
  ·simp [kc] at hcs;obtain ⟨rfl,rfl,rfl⟩:=hcs;exact ⟨[],.inl ⟨rfl,rfl,rfl,rfl⟩⟩
  simp [kc] at hcs;obtain ⟨rfl,rfl,rfl⟩:=hcs;exact ⟨zs,.inr ⟨_,rfl,hl,hm,by simpa using hz,hcell,hwz⟩⟩
 obtain ⟨a1,len1,cap1,rfl⟩:=okWide_slice Tryz.underlying42 (hval 1 42 v1 rfl rfl);have k1:=h1;have lt1:∀ x ∈ p1,x.block < W.heap.size:=by obtain ⟨m,hm⟩:=k1;exact kd m _ _ _ hm
 obtain ⟨s1,l1,e1,w1⟩:∃ (s:Tab.Sl) (l:List Int),Value.slice a1 len1 cap1=s.val l.length/\Tab.ju 1 (fun n:Int=>[Tab.I n]) W s l:=by
  obtain ⟨fuel,hf⟩:=h1;obtain ⟨s,l,e,r,_⟩:=TabArg.jeF (k:=1) (f:=(fun n:Int=>[Tab.I n])) (p:=fun _=>True) Tryz.underlying42 (by kernel_rfl) (fun n cs x hx=>by obtain ⟨z,hz,_⟩:=DataW.trod_int Tryz.underlying3 hx;exact ⟨z,hz,trivial⟩) ⟨fuel,_,hf⟩;exact ⟨s,l,e,r⟩
 simp only [Tab.Sl.val,k5] at e1;obtain ⟨rfl,rfl,rfl⟩:=e1;obtain ⟨a2,len2,cap2,rfl⟩:=okWide_slice Tryz.underlying22 (hval 2 22 v2 rfl rfl);have k2:=h2;have lt2:∀ x ∈ p2,x.block < W.heap.size:=by obtain ⟨m,hm⟩:=k2;exact kd m _ _ _ hm
 obtain ⟨z2,w2⟩:∃ zs,j3S .u8 W a2 len2 cap2 zs:=by
  obtain ⟨fuel,hf⟩:=h2;rcases open_ints Tryz.underlying22 Tryz.underlying5 (by kernel_rfl) hf with ⟨hcs,_⟩ | ⟨x,l,c,zs,hcs,_,hl,hm,hz,_,hcell,hwz⟩
  ·simp [kc] at hcs;obtain ⟨rfl,rfl,rfl⟩:=hcs;exact ⟨[],.inl ⟨rfl,rfl,rfl,rfl⟩⟩
  simp [kc] at hcs;obtain ⟨rfl,rfl,rfl⟩:=hcs;exact ⟨zs,.inr ⟨_,rfl,hl,hm,by simpa using hz,hcell,hwz⟩⟩
 clear hA0 hval0;refine (walk a0 len0 cap0 z0 s1 l1 a2 len2 cap2 z2 W w0 w1 w2).mono fun e W' ⟨he,bel⟩=>?_;subst he;exact ⟨_,rfl,_,_,_,[],_,[],hW',trodAll_mk1 (shut_bool Tryz.underlying4 _),(kn (ki laidOut (by kernel_rfl) (of_decide_eq_true (by kernel_rfl)) k0 bel lt0) (kn (ki laidOut (by kernel_rfl) (of_decide_eq_true (by kernel_rfl)) k1 bel lt1) (kn (ki laidOut (by kernel_rfl) (of_decide_eq_true (by kernel_rfl)) k2 bel lt2) trodAll_mk0))),rfl,bel.frame _,fun h=>by cases h⟩
theorem over:Rows.codeBytesRow.holds Tryz.pinned (OpenSpec.ofChange Rows.codeBytesSpec) :=
 OpenClaim.holds_of_wide 4 Tryz.f4 rfl rfl rfl rfl rfl rfl rfl ⟨rfl,rfl,rfl,rfl,rfl⟩ rfl rfl rfl rfl rfl (by kernel_rfl) Tryz.func4 (by kernel_rfl)
  (of_decide_eq_true (by kernel_rfl)) (by unfold Func.isWrapper;first | (rw [if_pos (by decide +kernel)];kernel_rfl) | (rw [if_neg (by decide +kernel)];exact ⟨rfl,rfl⟩))
  (fun os started H enc _=>lifted os started H enc)
theorem proved:Rows.CodeBytesSaid :=
 over
#print axioms proved
end codeBytes
end Go.Proofs.YtonpphjleapafaaGreat
