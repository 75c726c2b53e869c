/- CodeReads returns true at any bytes: Decode of package code reads them, and what is sealed of them, as the document's own Decode does. No condition. -/
import Derived.Test.YtjdeemmaaiecnaaGreatRows
import Derived.Test.YtjdeemmaaiecnaaGreatPart05
import Derived.Test.YtjdeemmaaiecnaaGreatPart10
import Derived.Test.YtjdeemmaaiecnaaGreatPart11
import Derived.Deep.Cut
import Derived.WalkKit
import Derived.WalkLawsBesides
import Derived.ProofKit
import Derived.OpenShut
import Derived.ShutString
import Derived.ChangeOld
import Derived.Below
set_option linter.unusedVariables false
set_option linter.unusedSimpArgs false
set_option linter.unusedSectionVars false
set_option maxHeartbeats 8000000
set_option maxRecDepth 100000
namespace Go.Proofs.YtjdeemmaaiecnaaGreat
namespace codeReads
open Go.ChangeShapes Go.WideShapes Go.ChangeAt Go.RowKit
open Tab Po
theorem own:ownKnob Tryz.prog.godebug=none:=by kernel_rfl
theorem laidOut:laidOutB Tryz.prog=true:=by kernel_rfl
def IsRow (k:IntKind) (w:World) (a:Option Addr) (len cap:Nat) (zs:List Int):Prop :=
 (a=none∧len=0∧cap=0∧zs=[]) ∨
 ∃ x,a=some x∧len≤cap∧cap≤maxLen∧zs.length=cap∧(∀ i,i < zs.length→w.cell? (x.add i)=some (.int k (zs.getD i 0)))∧∀ n ∈ zs,(Lit.int k n).wf=true
theorem walk (a0:Option Addr) (len0 cap0:Nat) (z0:List Int) (w:World) (w0:IsRow .u8 w a0 len0 cap0 z0) :
  Calls Tryz.prog 3 #[.slice a0 len0 cap0] w fun e w'=>e=.returned (.bool true)∧Below w.heap.size w w':=by
 obtain ⟨bs,hbl,hrow,hcap,hcm,hnil⟩:=B.row_raw w0
 subst hbl
 have HROW:=Lib.hid hrow
 have HCAP:=Lib.hid hcap
 have HNIL:=Lib.hid hnil
 clear hrow hcap hnil
 have hz:=(zero_of_info Clone.info31).1
 obtain ⟨Z,hZ⟩:∃ Z,(Clone.zTab.cells Clone.zHd).toArray=Z:=⟨_,rfl⟩
 have EZS:Hid (Z.size=131):=Lib.hid (by rw [← hZ];exact (cells_ok (Clone.z_is w)).size)
 rw [hZ] at hz
 have EZ:=Lib.hid hZ
 clear hZ
 go_enter Tryz.func3,Tryz.ntmps3
 by_cases hl:2100 < bs.length
 ·have hl2:decide (((bs.length:Nat):Int) > 2100)=true:=decide_eq_true (by omega)
  go_wp2_with fail
  refine (Rr.awake_any _).mono ?_
  rintro e u9 ⟨rfl,b9⟩
  go_wp2
  go_ret
  exact ⟨rfl,b9⟩
 have hl2:decide (((bs.length:Nat):Int) > 2100)=false:=decide_eq_false (by omega)
 obtain ⟨f0,hf0⟩:∃ x,(Dh.resF bs).1=x:=⟨_,rfl⟩
 obtain ⟨f1,hf1⟩:∃ x,(Dh.resF bs).2=x:=⟨_,rfl⟩
 obtain ⟨T1,hT1⟩:∃ x,Dh.resT bs=x:=⟨_,rfl⟩
 obtain ⟨sb,hsb⟩:∃ l,Cd.sealB bs=l:=⟨_,rfl⟩
 have hsl:sb.length=bs.length+2:=by rw [← hsb];unfold Cd.sealB;simp [Put.low]
 obtain ⟨g0,hg0⟩:∃ x,(Dh.resF sb).1=x:=⟨_,rfl⟩
 obtain ⟨g1,hg1⟩:∃ x,(Dh.resF sb).2=x:=⟨_,rfl⟩
 obtain ⟨T2,hT2⟩:∃ x,Dh.resT sb=x:=⟨_,rfl⟩
 obtain ⟨n,hn⟩:∃ n,bs.length=n:=⟨_,rfl⟩
 obtain ⟨n2,hn2⟩:∃ n,sb.length=n:=⟨_,rfl⟩
 have D1:Hid (∀ W,B.Row W a0 bs→Calls Tryz.prog 6 #[.slice a0 n cap0] W fun e w'=>∃ hd,e=.returned (.tuple #[.agg (T1.cells hd).toArray,.agg #[I f0,I f1]])∧IsTab w' hd T1∧Below W.heap.size W w'):=Lib.hid (fun W hr=>by rw [← hn,← hT1,← hf0,← hf1];exact Dh.dec_two bs hr (by omega) HCAP.out HNIL.out)
 have D2:Hid (∀ W,B.Row W a0 bs→Calls Tryz.prog 7 #[.slice a0 n cap0] W fun e w'=>∃ hd,e=.returned (.tuple #[.agg (T1.cells hd).toArray,.agg #[I f0,I f1]])∧IsTab w' hd T1∧Below W.heap.size W w'):=Lib.hid (fun W hr=>by rw [← hn,← hT1,← hf0,← hf1];exact Dh.rdec_two bs hr (by omega) HCAP.out)
 have D3:Hid (∀ W a cap,B.Row W a sb→sb.length≤cap→(a=none→cap=0)→Calls Tryz.prog 6 #[.slice a n2 cap] W fun e w'=>∃ hd,e=.returned (.tuple #[.agg (T2.cells hd).toArray,.agg #[I g0,I g1]])∧IsTab w' hd T2∧Below W.heap.size W w'):=Lib.hid (fun W a cap hr hc hnn=>by rw [← hn2,← hT2,← hg0,← hg1];exact Dh.dec_two sb hr (by omega) hc hnn)
 have D4:Hid (∀ W a cap,B.Row W a sb→sb.length≤cap→(a=none→cap=0)→Calls Tryz.prog 7 #[.slice a n2 cap] W fun e w'=>∃ hd,e=.returned (.tuple #[.agg (T2.cells hd).toArray,.agg #[I g0,I g1]])∧IsTab w' hd T2∧Below W.heap.size W w'):=Lib.hid (fun W a cap hr hc hnn=>by rw [← hn2,← hT2,← hg0,← hg1];exact Dh.rdec_two sb hr (by omega) hc)
 have SE:Hid (∀ W,B.Row W a0 bs→Calls Tryz.prog 8 #[.slice a0 n cap0] W fun e W'=>∃ a2 cap2,e=.returned (.slice a2 n2 cap2)∧B.Row W' a2 sb∧sb.length≤cap2∧(a2=none→cap2=0)∧Below W.heap.size W W'):=Lib.hid (fun W hr=>by rw [← hn,← hn2,← hsb];exact Rb.seal_cap hr HNIL.out (by omega))
 have RSM:Hid (∀ (T:Tab) (h k:Hd) W,IsTab W h T→IsTab W k T→Calls Tryz.prog 9 #[.agg (T.cells h).toArray,.agg (T.cells k).toArray] W fun e w'=>e=.returned (.bool true)∧Below W.heap.size W w'):=Lib.hid (fun T h k W h1 h2=>by have:=Same.rsame_any T T h k W h1 h2;rwa [show decide (T=T)=true by simp] at this)
 rw [hn] at hl hl2 ⊢
 clear hf0 hf1 hT1 hsb hsl hg0 hg1 hT2 hn hn2 hcm
 have wB:Hid (Below w.heap.size w w):=Lib.hid (Below.refl _ _)
 go_wp2_with fail
 refine (D1.out w HROW.out).mono ?_
 rintro e u1 ⟨hd1,rfl,ht,hb⟩
 have hco:=cells_ok (ht)
 have c1I:Hid ((Tryz.prog.info? 33).map (·.size)=some (T1.cells hd1).length):=Lib.hid (by have:=hco.size;rw [List.size_toArray] at this;rw [this];exact May.infoT)
 have c1J:Hid ((Tryz.prog.info? 33).map (·.size)=some (T1.cells hd1).toArray.size):=Lib.hid (by rw [hco.size];exact May.infoT)
 have c1S:Hid (Z.size=(T1.cells hd1).toArray.size):=Lib.hid (by rw [EZS.out,hco.size])
 have c1O:=Lib.hid hco.one
 clear hco
 obtain ⟨c1,hc1⟩:∃ l,T1.cells hd1=l:=⟨_,rfl⟩
 rw [hc1] at c1I c1J c1S c1O ⊢
 have c1E:=Lib.hid hc1
 clear hc1
 have B1:=Lib.hid (wB.out.trans (hb.mono wB.out.size))
 have pX:=Lib.hid hb
 have HTp:Hid (∀ W,Below u1.heap.size u1 W→IsTab W hd1 T1):=Lib.hid (fun W h=>ht.below h)
 clear ht hb
 have KB:=Lib.hid (heap_alloc2_old u1 (.cells Z 33) (.cells #[I 0,I 0] 36))
 have KF:=Lib.hid ((setRow_other ((u1.alloc (.cells Z 33)).alloc (.cells #[I 0,I 0] 36)) u1.heap.size (u1.heap.size+1) c1.toArray (by omega)).trans (heap_alloc2_new u1 (.cells Z 33) (.cells #[I 0,I 0] 36)))
 have pD:Hid (Below u1.heap.size u1 ((((u1.alloc (.cells Z 33)).alloc (.cells #[I 0,I 0] 36)).setRow u1.heap.size c1.toArray).setRow (u1.heap.size+1) #[I f0,I f1])):=Lib.hid (Same.below_setRow (Same.below_setRow (((Below.refl _ _).alloc (Nat.le_refl _) _).alloc (by simp) _) (Nat.le_refl _) _) (by omega) _)
 have pKF:=Lib.hid (setRow_heap _ (u1.heap.size+1) _ #[I f0,I f1] _ _ KF.out)
 have pKB:=Lib.hid ((setRow_other (((u1.alloc (.cells Z 33)).alloc (.cells #[I 0,I 0] 36)).setRow u1.heap.size c1.toArray) (u1.heap.size+1) u1.heap.size #[I f0,I f1] (by omega)).trans (setRow_heap _ u1.heap.size _ c1.toArray _ _ KB.out))
 go_upto_region 4 with (first | (refine wpList_store_row rfl 33 _ _ rfl u1.heap.size c1.toArray rfl rfl 33 _ KB.out c1J.out c1S.out c1O.out ?_) | (refine wpList_store_row rfl 36 _ _ rfl (u1.heap.size+1) #[I f0,I f1] rfl rfl 36 _ KF.out Po.infoF rfl (by simp [Value.oneCell']) ?_))
 generalize (((u1.alloc (.cells Z 33)).alloc (.cells #[I 0,I 0] 36)).setRow u1.heap.size c1.toArray).setRow (u1.heap.size+1) #[I f0,I f1]=pu at pD pKB pKF ⊢
 have pB:=Lib.hid (B1.out.trans (pD.out.mono B1.out.size))
 generalize u1.heap.size+1=pf at pKF ⊢
 have pM:Hid (∀ W,Below u1.heap.size W W→True):=Lib.hid (fun _ _=>trivial)
 clear KB KF pM
 go_wp2_with fail
 refine (D2.out pu (HROW.out.below pB.out)).mono ?_
 rintro e u2 ⟨hd2,rfl,ht,hb⟩
 have hco:=cells_ok (ht)
 have c2I:Hid ((Tryz.prog.info? 33).map (·.size)=some (T1.cells hd2).length):=Lib.hid (by have:=hco.size;rw [List.size_toArray] at this;rw [this];exact May.infoT)
 have c2J:Hid ((Tryz.prog.info? 33).map (·.size)=some (T1.cells hd2).toArray.size):=Lib.hid (by rw [hco.size];exact May.infoT)
 have c2S:Hid (Z.size=(T1.cells hd2).toArray.size):=Lib.hid (by rw [EZS.out,hco.size])
 have c2O:=Lib.hid hco.one
 clear hco
 obtain ⟨c2,hc2⟩:∃ l,T1.cells hd2=l:=⟨_,rfl⟩
 rw [hc2] at c2I c2J c2S c2O ⊢
 have c2E:=Lib.hid hc2
 clear hc2
 have B2:=Lib.hid (pB.out.trans (hb.mono pB.out.size))
 have qX:=Lib.hid hb
 have HTq:Hid (∀ W,Below u2.heap.size u2 W→IsTab W hd2 T1):=Lib.hid (fun W h=>ht.below h)
 clear ht hb
 have KB:=Lib.hid (heap_alloc2_old u2 (.cells Z 33) (.cells #[I 0,I 0] 36))
 have KF:=Lib.hid ((setRow_other ((u2.alloc (.cells Z 33)).alloc (.cells #[I 0,I 0] 36)) u2.heap.size (u2.heap.size+1) c2.toArray (by omega)).trans (heap_alloc2_new u2 (.cells Z 33) (.cells #[I 0,I 0] 36)))
 have qD:Hid (Below u2.heap.size u2 ((((u2.alloc (.cells Z 33)).alloc (.cells #[I 0,I 0] 36)).setRow u2.heap.size c2.toArray).setRow (u2.heap.size+1) #[I f0,I f1])):=Lib.hid (Same.below_setRow (Same.below_setRow (((Below.refl _ _).alloc (Nat.le_refl _) _).alloc (by simp) _) (Nat.le_refl _) _) (by omega) _)
 have qKF:=Lib.hid (setRow_heap _ (u2.heap.size+1) _ #[I f0,I f1] _ _ KF.out)
 have qKB:=Lib.hid ((setRow_other (((u2.alloc (.cells Z 33)).alloc (.cells #[I 0,I 0] 36)).setRow u2.heap.size c2.toArray) (u2.heap.size+1) u2.heap.size #[I f0,I f1] (by omega)).trans (setRow_heap _ u2.heap.size _ c2.toArray _ _ KB.out))
 go_upto_region 5 with (first | (refine wpList_store_row rfl 33 _ _ rfl u2.heap.size c2.toArray rfl rfl 33 _ KB.out c2J.out c2S.out c2O.out ?_) | (refine wpList_store_row rfl 36 _ _ rfl (u2.heap.size+1) #[I f0,I f1] rfl rfl 36 _ KF.out Po.infoF rfl (by simp [Value.oneCell']) ?_))
 generalize (((u2.alloc (.cells Z 33)).alloc (.cells #[I 0,I 0] 36)).setRow u2.heap.size c2.toArray).setRow (u2.heap.size+1) #[I f0,I f1]=qu at qD qKB qKF ⊢
 have qB:=Lib.hid (B2.out.trans (qD.out.mono B2.out.size))
 generalize u2.heap.size+1=qf at qKF ⊢
 have qM:Hid (∀ W,Below u2.heap.size W W→True):=Lib.hid (fun _ _=>trivial)
 clear KB KF qM
 go_wp2_with fail
 refine (SE.out qu (HROW.out.below qB.out)).mono ?_
 rintro e u3 ⟨a2,cap2,rfl,q1,q2,q3,hb⟩
 have tB:=Lib.hid (qB.out.trans (hb.mono qB.out.size))
 have tX:=Lib.hid hb
 have ROW2:=Lib.hid q1
 have CAP2:=Lib.hid q2
 have NIL2:=Lib.hid q3
 clear q1 q2 q3 hb SE D1 D2
 go_wp2_with fail
 refine (D3.out u3 a2 cap2 ROW2.out CAP2.out NIL2.out).mono ?_
 rintro e u4 ⟨hd3,rfl,ht,hb⟩
 have hco:=cells_ok (ht)
 have c3I:Hid ((Tryz.prog.info? 33).map (·.size)=some (T2.cells hd3).length):=Lib.hid (by have:=hco.size;rw [List.size_toArray] at this;rw [this];exact May.infoT)
 have c3J:Hid ((Tryz.prog.info? 33).map (·.size)=some (T2.cells hd3).toArray.size):=Lib.hid (by rw [hco.size];exact May.infoT)
 have c3S:Hid (Z.size=(T2.cells hd3).toArray.size):=Lib.hid (by rw [EZS.out,hco.size])
 have c3O:=Lib.hid hco.one
 clear hco
 obtain ⟨c3,hc3⟩:∃ l,T2.cells hd3=l:=⟨_,rfl⟩
 rw [hc3] at c3I c3J c3S c3O ⊢
 have c3E:=Lib.hid hc3
 clear hc3
 have B4:=Lib.hid (tB.out.trans (hb.mono tB.out.size))
 have rX:=Lib.hid hb
 have HTr:Hid (∀ W,Below u4.heap.size u4 W→IsTab W hd3 T2):=Lib.hid (fun W h=>ht.below h)
 clear ht hb
 have KB:=Lib.hid (heap_alloc2_old u4 (.cells Z 33) (.cells #[I 0,I 0] 36))
 have KF:=Lib.hid ((setRow_other ((u4.alloc (.cells Z 33)).alloc (.cells #[I 0,I 0] 36)) u4.heap.size (u4.heap.size+1) c3.toArray (by omega)).trans (heap_alloc2_new u4 (.cells Z 33) (.cells #[I 0,I 0] 36)))
 have rD:Hid (Below u4.heap.size u4 ((((u4.alloc (.cells Z 33)).alloc (.cells #[I 0,I 0] 36)).setRow u4.heap.size c3.toArray).setRow (u4.heap.size+1) #[I g0,I g1])):=Lib.hid (Same.below_setRow (Same.below_setRow (((Below.refl _ _).alloc (Nat.le_refl _) _).alloc (by simp) _) (Nat.le_refl _) _) (by omega) _)
 have rKF:=Lib.hid (setRow_heap _ (u4.heap.size+1) _ #[I g0,I g1] _ _ KF.out)
 have rKB:=Lib.hid ((setRow_other (((u4.alloc (.cells Z 33)).alloc (.cells #[I 0,I 0] 36)).setRow u4.heap.size c3.toArray) (u4.heap.size+1) u4.heap.size #[I g0,I g1] (by omega)).trans (setRow_heap _ u4.heap.size _ c3.toArray _ _ KB.out))
 go_upto_region 7 with (first | (refine wpList_store_row rfl 33 _ _ rfl u4.heap.size c3.toArray rfl rfl 33 _ KB.out c3J.out c3S.out c3O.out ?_) | (refine wpList_store_row rfl 36 _ _ rfl (u4.heap.size+1) #[I g0,I g1] rfl rfl 36 _ KF.out Po.infoF rfl (by simp [Value.oneCell']) ?_))
 generalize (((u4.alloc (.cells Z 33)).alloc (.cells #[I 0,I 0] 36)).setRow u4.heap.size c3.toArray).setRow (u4.heap.size+1) #[I g0,I g1]=ru at rD rKB rKF ⊢
 have rB:=Lib.hid (B4.out.trans (rD.out.mono B4.out.size))
 generalize u4.heap.size+1=rf at rKF ⊢
 have rM:Hid (∀ W,Below u4.heap.size W W→True):=Lib.hid (fun _ _=>trivial)
 clear KB KF rM
 go_wp2_with fail
 refine (D4.out ru a2 cap2 (ROW2.out.below (rX.out.trans (rD.out.mono rX.out.size))) CAP2.out NIL2.out).mono ?_
 rintro e u5 ⟨hd4,rfl,ht,hb⟩
 have hco:=cells_ok (ht)
 have c4I:Hid ((Tryz.prog.info? 33).map (·.size)=some (T2.cells hd4).length):=Lib.hid (by have:=hco.size;rw [List.size_toArray] at this;rw [this];exact May.infoT)
 have c4J:Hid ((Tryz.prog.info? 33).map (·.size)=some (T2.cells hd4).toArray.size):=Lib.hid (by rw [hco.size];exact May.infoT)
 have c4S:Hid (Z.size=(T2.cells hd4).toArray.size):=Lib.hid (by rw [EZS.out,hco.size])
 have c4O:=Lib.hid hco.one
 clear hco
 obtain ⟨c4,hc4⟩:∃ l,T2.cells hd4=l:=⟨_,rfl⟩
 rw [hc4] at c4I c4J c4S c4O ⊢
 have c4E:=Lib.hid hc4
 clear hc4
 have B5:=Lib.hid (rB.out.trans (hb.mono rB.out.size))
 have sX:=Lib.hid hb
 have HTs:Hid (∀ W,Below u5.heap.size u5 W→IsTab W hd4 T2):=Lib.hid (fun W h=>ht.below h)
 clear ht hb
 have KB:=Lib.hid (heap_alloc2_old u5 (.cells Z 33) (.cells #[I 0,I 0] 36))
 have KF:=Lib.hid ((setRow_other ((u5.alloc (.cells Z 33)).alloc (.cells #[I 0,I 0] 36)) u5.heap.size (u5.heap.size+1) c4.toArray (by omega)).trans (heap_alloc2_new u5 (.cells Z 33) (.cells #[I 0,I 0] 36)))
 have sD:Hid (Below u5.heap.size u5 ((((u5.alloc (.cells Z 33)).alloc (.cells #[I 0,I 0] 36)).setRow u5.heap.size c4.toArray).setRow (u5.heap.size+1) #[I g0,I g1])):=Lib.hid (Same.below_setRow (Same.below_setRow (((Below.refl _ _).alloc (Nat.le_refl _) _).alloc (by simp) _) (Nat.le_refl _) _) (by omega) _)
 have sKF:=Lib.hid (setRow_heap _ (u5.heap.size+1) _ #[I g0,I g1] _ _ KF.out)
 have sKB:=Lib.hid ((setRow_other (((u5.alloc (.cells Z 33)).alloc (.cells #[I 0,I 0] 36)).setRow u5.heap.size c4.toArray) (u5.heap.size+1) u5.heap.size #[I g0,I g1] (by omega)).trans (setRow_heap _ u5.heap.size _ c4.toArray _ _ KB.out))
 go_upto_region 8 with (first | (refine wpList_store_row rfl 33 _ _ rfl u5.heap.size c4.toArray rfl rfl 33 _ KB.out c4J.out c4S.out c4O.out ?_) | (refine wpList_store_row rfl 36 _ _ rfl (u5.heap.size+1) #[I g0,I g1] rfl rfl 36 _ KF.out Po.infoF rfl (by simp [Value.oneCell']) ?_))
 generalize (((u5.alloc (.cells Z 33)).alloc (.cells #[I 0,I 0] 36)).setRow u5.heap.size c4.toArray).setRow (u5.heap.size+1) #[I g0,I g1]=su at sD sKB sKF ⊢
 have sB:=Lib.hid (B5.out.trans (sD.out.mono B5.out.size))
 generalize u5.heap.size+1=sf at sKF ⊢
 have sM:Hid (∀ W,Below u5.heap.size W W→True):=Lib.hid (fun _ _=>trivial)
 clear KB KF sM
 have rS0:=sX.out
 have rS1:=rS0.trans (sD.out.mono rS0.size)
 have rS:=Lib.hid rS1
 clear rS0 rS1
 have qS0:=tX.out
 have qS1:=qS0.trans (rX.out.mono qS0.size)
 have qS2:=qS1.trans (rD.out.mono qS1.size)
 have qS3:=qS2.trans (rS.out.mono qS2.size)
 have qS:=Lib.hid qS3
 clear qS0 qS1 qS2 qS3
 have pS0:=qX.out
 have pS1:=pS0.trans (qD.out.mono pS0.size)
 have pS2:=pS1.trans (qS.out.mono pS1.size)
 have pS:=Lib.hid pS2
 clear pS0 pS1 pS2
 have pV0:=pD.out
 have pV1:=pV0.trans (pS.out.mono pV0.size)
 have pV:=Lib.hid pV1
 clear pV0 pV1
 have qV0:=qD.out
 have qV1:=qV0.trans (qS.out.mono qV0.size)
 have qV:=Lib.hid qV1
 clear qV0 qV1
 have rV0:=rD.out
 have rV1:=rV0.trans (rS.out.mono rV0.size)
 have rV:=Lib.hid rV1
 clear rV0 rV1
 have KA:Hid (∀ W,Below su.heap.size su W→W.heap[u1.heap.size]?=some (.cells c1.toArray 33 (0,0))):=Lib.hid (fun W h=>by have h1:=(pS.out.block _ (Array.getElem?_eq_some_iff.1 pKB.out).1).trans pKB.out;exact (h.block _ (Array.getElem?_eq_some_iff.1 h1).1).trans h1)
 have KAF:Hid (∀ W,Below su.heap.size su W→W.heap[pf]?=some (.cells #[I f0,I f1] 36 (0,0))):=Lib.hid (fun W h=>by have h1:=(pS.out.block _ (Array.getElem?_eq_some_iff.1 pKF.out).1).trans pKF.out;exact (h.block _ (Array.getElem?_eq_some_iff.1 h1).1).trans h1)
 have KE:Hid (∀ W,Below su.heap.size su W→W.heap[u2.heap.size]?=some (.cells c2.toArray 33 (0,0))):=Lib.hid (fun W h=>by have h1:=(qS.out.block _ (Array.getElem?_eq_some_iff.1 qKB.out).1).trans qKB.out;exact (h.block _ (Array.getElem?_eq_some_iff.1 h1).1).trans h1)
 have KEF:Hid (∀ W,Below su.heap.size su W→W.heap[qf]?=some (.cells #[I f0,I f1] 36 (0,0))):=Lib.hid (fun W h=>by have h1:=(qS.out.block _ (Array.getElem?_eq_some_iff.1 qKF.out).1).trans qKF.out;exact (h.block _ (Array.getElem?_eq_some_iff.1 h1).1).trans h1)
 have KR:Hid (∀ W,Below su.heap.size su W→W.heap[u4.heap.size]?=some (.cells c3.toArray 33 (0,0))):=Lib.hid (fun W h=>by have h1:=(rS.out.block _ (Array.getElem?_eq_some_iff.1 rKB.out).1).trans rKB.out;exact (h.block _ (Array.getElem?_eq_some_iff.1 h1).1).trans h1)
 have KRF:Hid (∀ W,Below su.heap.size su W→W.heap[rf]?=some (.cells #[I g0,I g1] 36 (0,0))):=Lib.hid (fun W h=>by have h1:=(rS.out.block _ (Array.getElem?_eq_some_iff.1 rKF.out).1).trans rKF.out;exact (h.block _ (Array.getElem?_eq_some_iff.1 h1).1).trans h1)
 have KS:Hid (∀ W,Below su.heap.size su W→W.heap[u5.heap.size]?=some (.cells c4.toArray 33 (0,0))):=Lib.hid (fun W h=>(h.block _ (Array.getElem?_eq_some_iff.1 sKB.out).1).trans sKB.out)
 have KSF:Hid (∀ W,Below su.heap.size su W→W.heap[sf]?=some (.cells #[I g0,I g1] 36 (0,0))):=Lib.hid (fun W h=>(h.block _ (Array.getElem?_eq_some_iff.1 sKF.out).1).trans sKF.out)
 have SMA:Hid (∀ W,Below su.heap.size su W→Calls Tryz.prog 9 #[.agg c1.toArray,.agg c2.toArray] W fun e w'=>e=.returned (.bool true)∧Below W.heap.size W w'):=Lib.hid (fun W h=>by have:=RSM.out T1 hd1 hd2 W (HTp.out W (pV.out.trans (h.mono pV.out.size))) (HTq.out W (qV.out.trans (h.mono qV.out.size)));rwa [c1E.out,c2E.out] at this)
 have SMB:Hid (∀ W,Below su.heap.size su W→Calls Tryz.prog 9 #[.agg c3.toArray,.agg c4.toArray] W fun e w'=>e=.returned (.bool true)∧Below W.heap.size W w'):=Lib.hid (fun W h=>by have:=RSM.out T2 hd3 hd4 W (HTr.out W (rV.out.trans (h.mono rV.out.size))) (HTs.out W (sD.out.trans (h.mono sD.out.size)));rwa [c3E.out,c4E.out] at this)
 have Q1:Hid (Same.Eqs 36 [I f0,I f1] [I f0,I f1] true):=Lib.hid (by have:=Rr.fault_eqs f0 f1 f0 f1;simpa using this)
 have Q2:Hid (Same.Eqs 36 [I g0,I g1] [I g0,I g1] true):=Lib.hid (by have:=Rr.fault_eqs g0 g1 g0 g1;simpa using this)
 clear pKB pKF qKB qKF rKB rKF sKB sKF HTp HTq HTr HTs RSM pS qS rS pV qV rV qX tX rX sX pX pD qD rD sD HROW ROW2 D3 D4
 go_wp2_with (first | (refine Row.wpList_load_g 36 _ rfl (by first | rfl | (go_simp;done) | fail) ⟨pf,0,none⟩ rfl [I f0,I f1] _ (by have:=Row.lies_of_block (KAF.out su (Below.refl _ _));simpa using this) Tryz.underlying36 rfl Po.infoF ?_) | (refine Row.wpList_load_g 36 _ rfl (by first | rfl | (go_simp;done) | fail) ⟨qf,0,none⟩ rfl [I f0,I f1] _ (by have:=Row.lies_of_block (KEF.out su (Below.refl _ _));simpa using this) Tryz.underlying36 rfl Po.infoF ?_) | (refine Row.wpList_eql 36 _ _ _ rfl (by first | rfl | (go_simp;done) | fail) #[I f0,I f1] #[I f0,I f1] rfl rfl Rr.guardF true Q1.out ?_) | (refine Row.wpList_load_g 33 _ rfl (by first | rfl | (go_simp;done) | fail) ⟨u1.heap.size,0,none⟩ rfl c1 _ (by have:=Row.lies_of_block (KA.out su (Below.refl _ _));simpa using this) Tryz.underlying33 rfl c1I.out ?_) | (refine Row.wpList_load_g 33 _ rfl (by first | rfl | (go_simp;done) | fail) ⟨u2.heap.size,0,none⟩ rfl c2 _ (by have:=Row.lies_of_block (KE.out su (Below.refl _ _));simpa using this) Tryz.underlying33 rfl c2I.out ?_))
 refine (SMA.out su (Below.refl _ _)).mono ?_
 rintro e u8 ⟨rfl,b8⟩
 have B8:=Lib.hid b8
 clear b8 SMA
 go_wp2_with (first | (refine Row.wpList_load_g 36 _ rfl (by first | rfl | (go_simp;done) | fail) ⟨rf,0,none⟩ rfl [I g0,I g1] _ (by have:=Row.lies_of_block (KRF.out u8 B8.out);simpa using this) Tryz.underlying36 rfl Po.infoF ?_) | (refine Row.wpList_load_g 36 _ rfl (by first | rfl | (go_simp;done) | fail) ⟨sf,0,none⟩ rfl [I g0,I g1] _ (by have:=Row.lies_of_block (KSF.out u8 B8.out);simpa using this) Tryz.underlying36 rfl Po.infoF ?_) | (refine Row.wpList_eql 36 _ _ _ rfl (by first | rfl | (go_simp;done) | fail) #[I g0,I g1] #[I g0,I g1] rfl rfl Rr.guardF true Q2.out ?_) | (refine Row.wpList_load_g 33 _ rfl (by first | rfl | (go_simp;done) | fail) ⟨u4.heap.size,0,none⟩ rfl c3 _ (by have:=Row.lies_of_block (KR.out u8 B8.out);simpa using this) Tryz.underlying33 rfl c3I.out ?_) | (refine Row.wpList_load_g 33 _ rfl (by first | rfl | (go_simp;done) | fail) ⟨u5.heap.size,0,none⟩ rfl c4 _ (by have:=Row.lies_of_block (KS.out u8 B8.out);simpa using this) Tryz.underlying33 rfl c4I.out ?_))
 refine (SMB.out u8 B8.out).mono ?_
 rintro e u9 ⟨rfl,b9⟩
 have B9:=Lib.hid (B8.out.trans (b9.mono B8.out.size))
 clear b9 SMB
 go_wp2_with fail
 refine (Rr.awake_any _).mono ?_
 rintro e uz ⟨rfl,bz⟩
 have BZ:=Lib.hid (B9.out.trans (bz.mono B9.out.size))
 clear bz
 go_wp2
 go_ret
 exact ⟨rfl,sB.out.trans (BZ.out.mono sB.out.size)⟩
theorem lifted (os:Os) (started:os.Started) (H:Type) (enc:TypeId × Value→H) :
  ReturnsInHanded {} Tryz.checked os 3 .any (Rows.codeReadsSpec.pre6 enc Tryz.prog Tryz.f3 Rows.codeReadsRow.domain false) (Rows.codeReadsSpec.post enc Tryz.prog Tryz.f3 false true false false):=by
 refine returnsInHanded_of_change (C:=Tryz.checked) own started (by kernel_rfl) Tryz.func3
  (ChangeSpec.witness6 (enc:=enc) (C:=Tryz.checked) false ⟨#[],#[.slice none 0 0],[]⟩ 8 (by kernel_rfl) (by kernel_rfl) (by kernel_rfl) (by kernel_rfl)) ?_
 intro W base args ds gs before hval0 hW hcnd _
 have hval:∀ (j:Nat) t v,Tryz.f3.params[j]?=some t→args[j]?=some v→Value.okWide Tryz.prog W .any base t v:=hval0
 have hW':=hW
 obtain ⟨p,q,hA0,hV,rfl,hfz,hnd⟩:=hW
 have hA:DataW.TrodAll enc Tryz.prog W 0 (fun _=>true) true Tryz.f3.params.toList args.toList ds p:=hA0
 rw [Tryz.params3] at hA hval
 obtain ⟨v0,vs0,d0,ds0,p0,q0,hargs,rfl,rfl,h0,r0⟩:=trodAll_cons hA
 obtain ⟨rfl,rfl,rfl⟩:=trodAll_nil r0
 obtain rfl:args=#[v0]:=by cases args;simp_all
 obtain ⟨rfl,rfl⟩:=trodVars_none hV
 obtain ⟨a0,len0,cap0,rfl⟩:=okWide_slice Tryz.underlying22 (hval 0 22 v0 rfl rfl)
 have k0:=h0
 have lt0:∀ x ∈ p0,x.block < W.heap.size:=by obtain ⟨m,hm⟩:=k0;exact DataW.trod_lt m _ _ _ hm
 obtain ⟨z0,w0⟩:∃ zs,IsRow .u8 W a0 len0 cap0 zs:=by
  obtain ⟨fuel,hf⟩:=h0
  rcases open_ints Tryz.underlying22 Tryz.underlying5 (by kernel_rfl) hf with ⟨hcs,_⟩ | ⟨x,l,c,zs,hcs,_,hl,hm,hz,_,hcell,hwz⟩
  ·simp [Value.cells] at hcs
   obtain ⟨rfl,rfl,rfl⟩:=hcs
   exact ⟨[],.inl ⟨rfl,rfl,rfl,rfl⟩⟩
  ·simp [Value.cells] at hcs
   obtain ⟨rfl,rfl,rfl⟩:=hcs
   exact ⟨zs,.inr ⟨_,rfl,hl,hm,by simpa using hz,hcell,hwz⟩⟩
 clear hA0 hval0
 refine (walk a0 len0 cap0 z0 W w0).mono fun e W' ⟨he,bel⟩=>?_
 subst he
 exact ⟨_,rfl,_,_,_,[],_,[],hW',trodAll_mk1 (shut_bool Tryz.underlying4 _),(trodAll_cons_mk (Below.trod laidOut (by kernel_rfl) (of_decide_eq_true (by kernel_rfl)) k0 bel lt0) trodAll_mk0),rfl,bel.frame _,fun h=>by cases h⟩
theorem over:Rows.codeReadsRow.holds Tryz.pinned (OpenSpec.ofChange Rows.codeReadsSpec) :=
 OpenClaim.holds_of_wide 3 Tryz.f3 rfl rfl rfl rfl rfl rfl rfl ⟨rfl,rfl,rfl,rfl,rfl⟩ rfl rfl rfl rfl rfl (by kernel_rfl) Tryz.func3 (by kernel_rfl)
  (of_decide_eq_true (by kernel_rfl)) (by unfold Func.isWrapper;first | (rw [if_pos (by decide +kernel)];kernel_rfl) | (rw [if_neg (by decide +kernel)];exact ⟨rfl,rfl⟩))
  (fun os started H enc _=>lifted os started H enc)
theorem proved:Rows.CodeReadsSaid :=
 over
#print axioms proved
end codeReads
end Go.Proofs.YtjdeemmaaiecnaaGreat
