/- 16 texts in one file, in build order. -/
import Derived.Test.YtjdeemmaaiecnaaGreatRows
import Derived.Test.YtjdeemmaaiecnaaGreatPart09
import Derived.Test.YtjdeemmaaiecnaaGreatPart05
import Derived.Test.YtjdeemmaaiecnaaGreatPart04
import Derived.StillTailTactics
import Derived.Test.YtjdeemmaaiecnaaGreatPart01
import Derived.Test.YtjdeemmaaiecnaaGreatPart02
import Derived.LoopTactic
import Derived.BigQuiet
import Derived.Test.YtjdeemmaaiecnaaGreatPart07
import Derived.WalkKit
import Derived.Test.YtjdeemmaaiecnaaGreatPart03
import Derived.Deep.Cut
import Derived.Deep.CutRange
set_option linter.unusedVariables false
set_option linter.unusedSimpArgs false
set_option linter.unusedSectionVars false
set_option maxHeartbeats 8000000
set_option maxRecDepth 100000
namespace Go.Proofs.YtjdeemmaaiecnaaGreat
namespace Dp
open Go Go.RowKit Go.ChangeShapes
open Tab Po
open Rd (Rd But)
open Nm (St)
open Put (lim)
open Rr (decR headR EndsDec results_two)
open CrcM (crc)
open Clone (zTab zHd)
theorem head3 {b0 b1 b2:Nat} {r:List Nat} (h0:b0 < 256) (h1:b1 < 256) (h2:b2 < 256):headR (b0 :: b1 :: b2 :: r)=if b0=88∧b1=66∧b2=1 then .ok 3 else .error (3,0):=by
 have hv:Nx.val (b0 :: b1 :: b2 :: r) 0 3=256*(256*b0+b1)+b2:=by unfold Nx.val Nx.be;simp
 unfold headR
 rw [By.rp_num (0:Nat) 3 16777215 0 (by decide),show lim 3 7=3 by decide,if_neg (by simp),hv,if_neg (by omega)]
 simp only
 by_cases hc:b0=88∧b1=66∧b2=1
 ·obtain ⟨rfl,rfl,rfl⟩:=hc
  rfl
 ·rw [if_neg hc,if_neg (by omega)]
theorem built_fault (x y:Int):Tryz.prog.built 36 [(0,I x),(1,I y)]=some #[I x,I y]:=by kernel_rfl
theorem built_f0:Tryz.prog.built 36 []=some #[I 0,I 0]:=by kernel_rfl
theorem wrap_small {n:Nat} (h:n < 65536):IntKind.i64.wrap (n:Int)=n:=by rw [IntKind.wrap_i64];omega
theorem crc_take (y:Addr) (cap:Nat) (bs:List Nat) (n:Nat) (W:World) (hr:Go.Proofs.YtjdeemmaaiecnaaGreat.B.Row W (some y) bs) (hn:n≤bs.length):Calls Tryz.prog 26 #[.int .u16 65535,.slice (some y) n cap] W fun e w'=>e=.returned (.int .u16 ((crc 65535 (bs.take n):Nat):Int))∧W=w':=by
 have hr2:Go.Proofs.YtjdeemmaaiecnaaGreat.Crc.Row W (some y) (bs.take n):=Go.Proofs.YtjdeemmaaiecnaaGreat.B.row_take hr n
 have hl:(bs.take n).length=n:=by rw [List.length_take];omega
 obtain ⟨l,hl2⟩:∃ l,bs.take n=l:=⟨_,rfl⟩
 rw [hl2] at hr2 hl ⊢
 subst hl
 have:=Crc.ref_any 65535 (by decide) (some y) cap l W hr2
 exact this
theorem head_short {bs:List Nat} (h:bs.length < 3):headR bs=.error (2,(bs.length:Int)):=by
 unfold headR
 rw [By.rp_num (0:Nat) 3 16777215 0 (by decide),show lim 3 7=3 by decide,if_pos (by omega)]
theorem rdec_is (bs:List Nat) (ad:Option Addr) (cap:Nat) (w:World) (hrow:Go.Proofs.YtjdeemmaaiecnaaGreat.B.Row w ad bs) (hlen:bs.length≤10000) (hcap:bs.length≤cap) :
  Calls Tryz.prog 7 #[.slice ad bs.length cap] w (EndsDec (decR bs) w):=by
 have hz:=(zero_of_info Clone.info31).1
 obtain ⟨res,hres⟩:∃ r,decR bs=r:=⟨_,rfl⟩
 rw [hres]
 have HRES:=Lib.hid hres
 clear hres
 have ZS:(zTab.cells zHd).toArray.size=131:=(cells_ok (Clone.z_is w)).size
 have zo:=(cells_ok (Clone.z_is w)).one
 have zi:(Tryz.prog.info? 33).map (·.size)=some (zTab.cells zHd).toArray.size:=by rw [ZS];exact May.infoT
 obtain ⟨Z,hZ⟩:∃ Z,(zTab.cells zHd).toArray=Z:=⟨_,rfl⟩
 have bz:=Rr.builtZ
 rw [hZ] at hz zo zi ZS bz
 have EZ:=Lib.hid hZ
 have ZI:=Lib.hid zi
 have ZO:=Lib.hid zo
 have EZS:=Lib.hid ZS
 have BZ:=Lib.hid bz
 clear hZ zi zo ZS bz
 have HROW:=Lib.hid hrow
 have HLEN:=Lib.hid hlen
 have HCAP:=Lib.hid hcap
 have hb0:=((Below.refl w.heap.size w).alloc (Nat.le_refl _) (.cells Z 33)).alloc (by simp) (.cells #[I 0,I 0] 36)
 have ha0:=heap_alloc2_old w (.cells Z 33) (.cells #[I 0,I 0] 36)
 have ha1:=heap_alloc2_new w (.cells Z 33) (.cells #[I 0,I 0] 36)
 have hsz:((w.alloc (.cells Z 33)).alloc (.cells #[I 0,I 0] 36)).heap.size=w.heap.size+2:=by simp
 clear hrow hlen hcap
 obtain ⟨len,hln⟩:∃ n,bs.length=n:=⟨_,rfl⟩
 rw [hln]
 have HLN:=Lib.hid hln
 clear hln
 go_enter Tryz.func7,Tryz.ntmps7
 go_upto_region 1 with fail
 generalize World.alloc (World.alloc w _) _=v at hb0 ha0 ha1 hsz ⊢
 have HB:=Lib.hid hb0
 have HZ:=Lib.hid ha0
 have HF:=Lib.hid ha1
 have hfz:w.heap.size+1 < v.heap.size:=by omega
 clear hb0 ha0 ha1
 generalize hfe:w.heap.size+1=fz at HF hfz ⊢
 generalize hge:w.heap.size=gz at HZ ⊢
 by_cases hbig:2048 < len
 ·have hbd:decide (2048 < (len:Int))=true:=decide_eq_true (by omega)
  have e2:res=.error (1,0):=by
   rw [← HRES.out]
   unfold decR
   rw [if_pos (by rw [HLN.out];exact hbig)]
  have hF1:(v.setRow gz Z).heap[fz]?=some (.cells #[I 0,I 0] 36 (0,0)):=by rw [setRow_other _ _ _ _ (by omega)];exact HF.out
  have HF1:=Lib.hid hF1
  clear hF1
  go_wp2_with (first | (refine Rr.wpList_build0 rfl 33 rfl Z BZ.out ?_) | (refine wpList_store_row rfl 33 _ _ rfl gz Z rfl rfl 33 _ HZ.out ZI.out rfl ZO.out ?_) | (refine wpList_store_row rfl 36 _ _ rfl fz #[I (1),I (0)] rfl rfl 36 _ HF1.out infoF rfl (by simp [Value.oneCell']) ?_))
  have hF2:=setRow_heap _ fz _ #[I (1),I (0)] _ _ HF1.out
  have hZ2:((v.setRow gz Z).setRow fz #[I (1),I (0)]).heap[gz]?=some (.cells Z 33 (0,0)):=by rw [setRow_other _ _ _ _ (by omega)];exact setRow_heap _ _ _ _ _ _ HZ.out
  have hb2:Below w.heap.size w ((v.setRow gz Z).setRow fz #[I (1),I (0)]):=below_setRow (below_setRow HB.out (by omega) _) (by omega) _
  generalize (v.setRow gz Z).setRow fz #[I (1),I (0)]=ue at hF2 hZ2 hb2 ⊢
  have HF2:=Lib.hid hF2
  have HZ2:=Lib.hid hZ2
  have HB2:=Lib.hid hb2
  clear hF2 hZ2 hb2
  (try go_wp2_with fail)
  (try simp only [Exit.inBlock,Exit.then])
  refine bodyPost_ret (v:=.tuple #[.agg Z,.agg #[I (1),I (0)]]) ?_ rfl ⟨HB2.out,?_⟩
  ·exact results_two rfl _ _ gz fz 33 36 Z #[I (1),I (0)] _ _ rfl rfl HZ2.out HF2.out Tryz.underlying33 rfl ZI.out Tryz.underlying36 rfl infoF
  (try rw [e2])
  rw [← EZ.out]
 have HBIG:Hid (¬ 2048 < bs.length):=Lib.hid (by rw [HLN.out];exact hbig)
 have hbd:decide (2048 < (len:Int))=false:=decide_eq_false (by omega)
 by_cases h3:len < 3
 ·have hd3:decide ((len:Int) < 3)=true:=decide_eq_true (by omega)
  have e2:res=.error (2,len):=by
   rw [← HRES.out]
   unfold decR
   rw [if_neg HBIG.out,head_short (by rw [HLN.out];exact h3),HLN.out]
   rfl
  have hF1:(v.setRow gz Z).heap[fz]?=some (.cells #[I 0,I 0] 36 (0,0)):=by rw [setRow_other _ _ _ _ (by omega)];exact HF.out
  have HF1:=Lib.hid hF1
  clear hF1
  go_wp2_with (first | (refine Rr.wpList_build0 rfl 33 rfl Z BZ.out ?_) | (refine wpList_store_row rfl 33 _ _ rfl gz Z rfl rfl 33 _ HZ.out ZI.out rfl ZO.out ?_) | (refine wpList_store_row rfl 36 _ _ rfl fz #[I (2),I (len)] rfl rfl 36 _ HF1.out infoF rfl (by simp [Value.oneCell']) ?_))
  have hF2:=setRow_heap _ fz _ #[I (2),I (len)] _ _ HF1.out
  have hZ2:((v.setRow gz Z).setRow fz #[I (2),I (len)]).heap[gz]?=some (.cells Z 33 (0,0)):=by rw [setRow_other _ _ _ _ (by omega)];exact setRow_heap _ _ _ _ _ _ HZ.out
  have hb2:Below w.heap.size w ((v.setRow gz Z).setRow fz #[I (2),I (len)]):=below_setRow (below_setRow HB.out (by omega) _) (by omega) _
  generalize (v.setRow gz Z).setRow fz #[I (2),I (len)]=ue at hF2 hZ2 hb2 ⊢
  have HF2:=Lib.hid hF2
  have HZ2:=Lib.hid hZ2
  have HB2:=Lib.hid hb2
  clear hF2 hZ2 hb2
  (try go_wp2_with fail)
  (try simp only [Exit.inBlock,Exit.then])
  refine bodyPost_ret (v:=.tuple #[.agg Z,.agg #[I (2),I (len)]]) ?_ rfl ⟨HB2.out,?_⟩
  ·exact results_two rfl _ _ gz fz 33 36 Z #[I (2),I (len)] _ _ rfl rfl HZ2.out HF2.out Tryz.underlying33 rfl ZI.out Tryz.underlying36 rfl infoF
  (try rw [e2])
  rw [← EZ.out]
 have hd3:decide ((len:Int) < 3)=false:=decide_eq_false (by omega)
 obtain ⟨b0,b1,b2,rest,hbs⟩:∃ b0 b1 b2 rest,bs=b0 :: b1 :: b2 :: rest:=by
  have h4:3≤bs.length:=by rw [HLN.out];omega
  match bs,h4 with
  | b0 :: b1 :: b2 :: rest,_=>exact ⟨b0,b1,b2,rest,rfl⟩
 have hbl:=HROW.out.2.1
 rw [hbs] at hbl
 have l0:b0 < 256:=hbl b0 (by simp)
 have l1:b1 < 256:=hbl b1 (by simp)
 have l2:b2 < 256:=hbl b2 (by simp)
 have HH:Hid (headR bs=if b0=88∧b1=66∧b2=1 then .ok 3 else .error (3,0)):=Lib.hid (by rw [hbs];exact head3 l0 l1 l2)
 obtain ⟨y,hy,hcl⟩:=(HROW.out.below HB.out).cells (k:=0) (by rw [HLN.out];omega)
 subst hy
 have c0:=hcl 0 (by rw [HLN.out];omega)
 have c1:=hcl 1 (by rw [HLN.out];omega)
 have c2:=hcl 2 (by rw [HLN.out];omega)
 rw [hbs] at c0 c1 c2
 simp only [List.getD_cons_zero,List.getD_cons_succ] at c0 c1 c2
 rw [Tab.add_zero] at c0
 replace c1:v.cell? { block:=y.block,off:=y.off+1,spot:=none }=some (.int .u8 (b1:Int)):=c1
 replace c2:v.cell? { block:=y.block,off:=y.off+2,spot:=none }=some (.int .u8 (b2:Int)):=c2
 clear hcl hbl hbs
 have i0:0 < len:=by omega
 have i1:1 < len:=by omega
 have i2:2 < len:=by omega
 by_cases q0:b0=88
 rotate_left
 ·have n0:((b0:Int) == 88)=false:=by rw [beq_eq_false_iff_ne];omega
  have n0b:((b0:Int) != 88)=true:=by rw [bne_iff_ne];omega
  have e2:res=.error (3,0):=by
   rw [← HRES.out]
   unfold decR
   rw [if_neg HBIG.out,HH.out,if_neg (fun h=>q0 h.1)]
   rfl
  have hF1:(v.setRow gz Z).heap[fz]?=some (.cells #[I 0,I 0] 36 (0,0)):=by rw [setRow_other _ _ _ _ (by omega)];exact HF.out
  have HF1:=Lib.hid hF1
  clear hF1
  go_wp2_with (first | (refine Rr.wpList_build0 rfl 33 rfl Z BZ.out ?_) | (refine wpList_store_row rfl 33 _ _ rfl gz Z rfl rfl 33 _ HZ.out ZI.out rfl ZO.out ?_) | (refine wpList_store_row rfl 36 _ _ rfl fz #[I (3),I (0)] rfl rfl 36 _ HF1.out infoF rfl (by simp [Value.oneCell']) ?_))
  have hF2:=setRow_heap _ fz _ #[I (3),I (0)] _ _ HF1.out
  have hZ2:((v.setRow gz Z).setRow fz #[I (3),I (0)]).heap[gz]?=some (.cells Z 33 (0,0)):=by rw [setRow_other _ _ _ _ (by omega)];exact setRow_heap _ _ _ _ _ _ HZ.out
  have hb2:Below w.heap.size w ((v.setRow gz Z).setRow fz #[I (3),I (0)]):=below_setRow (below_setRow HB.out (by omega) _) (by omega) _
  generalize (v.setRow gz Z).setRow fz #[I (3),I (0)]=ue at hF2 hZ2 hb2 ⊢
  have HF2:=Lib.hid hF2
  have HZ2:=Lib.hid hZ2
  have HB2:=Lib.hid hb2
  clear hF2 hZ2 hb2
  (try go_wp2_with fail)
  (try simp only [Exit.inBlock,Exit.then])
  refine bodyPost_ret (v:=.tuple #[.agg Z,.agg #[I (3),I (0)]]) ?_ rfl ⟨HB2.out,?_⟩
  ·exact results_two rfl _ _ gz fz 33 36 Z #[I (3),I (0)] _ _ rfl rfl HZ2.out HF2.out Tryz.underlying33 rfl ZI.out Tryz.underlying36 rfl infoF
  (try rw [e2])
  rw [← EZ.out]
 by_cases q1:b1=66
 rotate_left
 ·subst q0
  have n1b:((b1:Int) != 66)=true:=by rw [bne_iff_ne];omega
  have e2:res=.error (3,0):=by
   rw [← HRES.out]
   unfold decR
   rw [if_neg HBIG.out,HH.out,if_neg (fun h=>q1 h.2.1)]
   rfl
  have hF1:(v.setRow gz Z).heap[fz]?=some (.cells #[I 0,I 0] 36 (0,0)):=by rw [setRow_other _ _ _ _ (by omega)];exact HF.out
  have HF1:=Lib.hid hF1
  clear hF1
  go_wp2_with (first | (refine Rr.wpList_build0 rfl 33 rfl Z BZ.out ?_) | (refine wpList_store_row rfl 33 _ _ rfl gz Z rfl rfl 33 _ HZ.out ZI.out rfl ZO.out ?_) | (refine wpList_store_row rfl 36 _ _ rfl fz #[I (3),I (0)] rfl rfl 36 _ HF1.out infoF rfl (by simp [Value.oneCell']) ?_))
  have hF2:=setRow_heap _ fz _ #[I (3),I (0)] _ _ HF1.out
  have hZ2:((v.setRow gz Z).setRow fz #[I (3),I (0)]).heap[gz]?=some (.cells Z 33 (0,0)):=by rw [setRow_other _ _ _ _ (by omega)];exact setRow_heap _ _ _ _ _ _ HZ.out
  have hb2:Below w.heap.size w ((v.setRow gz Z).setRow fz #[I (3),I (0)]):=below_setRow (below_setRow HB.out (by omega) _) (by omega) _
  generalize (v.setRow gz Z).setRow fz #[I (3),I (0)]=ue at hF2 hZ2 hb2 ⊢
  have HF2:=Lib.hid hF2
  have HZ2:=Lib.hid hZ2
  have HB2:=Lib.hid hb2
  clear hF2 hZ2 hb2
  (try go_wp2_with fail)
  (try simp only [Exit.inBlock,Exit.then])
  refine bodyPost_ret (v:=.tuple #[.agg Z,.agg #[I (3),I (0)]]) ?_ rfl ⟨HB2.out,?_⟩
  ·exact results_two rfl _ _ gz fz 33 36 Z #[I (3),I (0)] _ _ rfl rfl HZ2.out HF2.out Tryz.underlying33 rfl ZI.out Tryz.underlying36 rfl infoF
  (try rw [e2])
  rw [← EZ.out]
 by_cases q2:b2=1
 rotate_left
 ·subst q0 q1
  have n2b:((b2:Int) != 1)=true:=by rw [bne_iff_ne];omega
  have e2:res=.error (3,0):=by
   rw [← HRES.out]
   unfold decR
   rw [if_neg HBIG.out,HH.out,if_neg (fun h=>q2 h.2.2)]
   rfl
  have hF1:(v.setRow gz Z).heap[fz]?=some (.cells #[I 0,I 0] 36 (0,0)):=by rw [setRow_other _ _ _ _ (by omega)];exact HF.out
  have HF1:=Lib.hid hF1
  clear hF1
  go_wp2_with (first | (refine Rr.wpList_build0 rfl 33 rfl Z BZ.out ?_) | (refine wpList_store_row rfl 33 _ _ rfl gz Z rfl rfl 33 _ HZ.out ZI.out rfl ZO.out ?_) | (refine wpList_store_row rfl 36 _ _ rfl fz #[I (3),I (0)] rfl rfl 36 _ HF1.out infoF rfl (by simp [Value.oneCell']) ?_))
  have hF2:=setRow_heap _ fz _ #[I (3),I (0)] _ _ HF1.out
  have hZ2:((v.setRow gz Z).setRow fz #[I (3),I (0)]).heap[gz]?=some (.cells Z 33 (0,0)):=by rw [setRow_other _ _ _ _ (by omega)];exact setRow_heap _ _ _ _ _ _ HZ.out
  have hb2:Below w.heap.size w ((v.setRow gz Z).setRow fz #[I (3),I (0)]):=below_setRow (below_setRow HB.out (by omega) _) (by omega) _
  generalize (v.setRow gz Z).setRow fz #[I (3),I (0)]=ue at hF2 hZ2 hb2 ⊢
  have HF2:=Lib.hid hF2
  have HZ2:=Lib.hid hZ2
  have HB2:=Lib.hid hb2
  clear hF2 hZ2 hb2
  (try go_wp2_with fail)
  (try simp only [Exit.inBlock,Exit.then])
  refine bodyPost_ret (v:=.tuple #[.agg Z,.agg #[I (3),I (0)]]) ?_ rfl ⟨HB2.out,?_⟩
  ·exact results_two rfl _ _ gz fz 33 36 Z #[I (3),I (0)] _ _ rfl rfl HZ2.out HF2.out Tryz.underlying33 rfl ZI.out Tryz.underlying36 rfl infoF
  (try rw [e2])
  rw [← EZ.out]
 subst q0 q1 q2
 have H3:Hid (headR bs=.ok 3):=Lib.hid (by rw [HH.out];rfl)
 clear HH
 have hyb:y.block < v.heap.size:=by
  by_cases hh:y.block < v.heap.size
  ·exact hh
  ·exfalso
   unfold World.cell? at c0
   rw [Array.getElem?_eq_none (by omega)] at c0
   cases c0
 obtain ⟨g,hgg⟩:∃ g,v.heap.size=g:=⟨_,rfl⟩
 have HGZ:Hid (g=gz+2):=Lib.hid (by omega)
 rw [hgg] at hyb hfz
 clear hsz
 go_upto_region 8 with fail
 have hb3:=(Below.refl v.heap.size v).alloc (Nat.le_refl _) (.cells #[.slice (some y) len cap,I 3,I 0,I 0] 61)
 have hg3:=heap_alloc_new v (.cells #[.slice (some y) len cap,I 3,I 0,I 0] 61)
 have hs3:(v.alloc (.cells #[.slice (some y) len cap,I 3,I 0,I 0] 61)).heap.size=v.heap.size+1:=by simp
 have hrow3:=(HROW.out.below HB.out).below hb3
 generalize World.alloc v _=v1 at hb3 hg3 hs3 hrow3 ⊢
 have HB3:Hid (Below v.heap.size v v1):=Lib.hid hb3
 rw [hgg] at hg3 hs3
 have HD:Hid (Ds (g+1) g (some y) cap bs ⟨3,0,0⟩ v1):=Lib.hid ⟨⟨by omega,hrow3,fun _ x hx e=>by cases hx;omega,by rw [cell_of_row _ _ _ _ _ _ hg3,HLN.out];rfl,by rw [cell_of_row _ _ _ _ _ _ hg3];rfl,by rw [cell_of_row _ _ _ _ _ _ hg3];rfl,by rw [cell_of_row _ _ _ _ _ _ hg3];rfl,fun i=>frozen_of_row _ _ _ _ _ hg3,HCAP.out⟩,⟨by rw [HLN.out];show 3≤len;omega,fun _=>rfl⟩,HLEN.out,fun _ x hx=>by cases hx;omega,by omega,by omega⟩
 clear hb3 hg3 hrow3 c0 c1 c2
 have CP:=Lib.hid (parts_d (⟨3,0,0⟩:St) v1 HD.out HROW.out.2.1)
 go_wp2_with fail
 refine CP.out.mono ?_
 clear CP
 rintro e v2 ⟨x,t,hd,hp,rfl,hT,hD2,hbut2,hkt⟩
 have HKT:=Lib.hid hkt
 clear hkt
 have HP:=Lib.hid hp
 have HD2:=Lib.hid hD2
 have HBU2:=Lib.hid hbut2
 have HT2:=Lib.hid hT
 clear hp hD2 hbut2 hT HD
 have cs2:((tabOf x).cells hd).toArray.size=131:=(cells_ok HT2.out).size
 have co2:=(cells_ok HT2.out).one
 have ci2:(Tryz.prog.info? 33).map (·.size)=some ((tabOf x).cells hd).toArray.size:=by rw [cs2];exact May.infoT
 obtain ⟨C,hC⟩:∃ C,((tabOf x).cells hd).toArray=C:=⟨_,rfl⟩
 rw [hC] at cs2 co2 ci2 ⊢
 have EC:=Lib.hid hC
 have CS:=Lib.hid cs2
 have CO:=Lib.hid co2
 have CI:=Lib.hid ci2
 clear hC cs2 co2 ci2
 go_upto_region 9 with (refine Row.wpList_store_new rfl 33 _ _ rfl v2 _ C rfl rfl rfl CI.out (by rw [EZS.out,CS.out]) CO.out ?_)
 have hb4:=(Below.refl v2.heap.size v2).alloc (Nat.le_refl _) (.cells C 33)
 have ht4:=heap_alloc_new v2 (.cells C 33)
 have hD4:=HD2.out.mem hb4
 have hT4:=HT2.out.below hb4
 have hlt4:g < v2.heap.size:=by have:=HD2.out.bl;omega
 generalize World.alloc v2 _=v3 at hb4 ht4 hD4 hT4 ⊢
 have HB4:=Lib.hid hb4
 obtain ⟨tb,htb⟩:∃ b,v2.heap.size=b:=⟨_,rfl⟩
 rw [htb] at ht4 hlt4 ⊢
 have HT4:=Lib.hid ht4
 have HD4:=Lib.hid hD4
 have HI4:=Lib.hid hT4
 have HTB:=Lib.hid htb
 clear hb4 ht4 hD4 hT4 HD2 HT2 htb
 have k1:=HD4.out.rd.c1
 obtain ⟨s1,hs1⟩:∃ n,t.k=n:=⟨_,rfl⟩
 rw [hs1] at k1
 have HS1:=Lib.hid hs1
 clear hs1
 have HK1:Hid (s1≤bs.length):=Lib.hid (by rw [← HS1.out];exact HD4.out.good.1)
 go_upto_region 10 with fail
 clear k1
 have CN:=Lib.hid (num_d t 2 65535 v3 HD4.out)
 rw [show lim 2 7=2 by decide] at CN
 obtain ⟨r,hr⟩:∃ r,Nm.num bs t 2 0 65535=r:=⟨_,rfl⟩
 rw [hr] at CN
 have HR:=Lib.hid hr
 clear hr
 obtain ⟨sv,s3⟩:=r
 go_wp2_with fail
 refine CN.out.mono ?_
 clear CN
 rintro e v4 ⟨rfl,hD5,hbut5⟩
 have HD5:=Lib.hid hD5
 have HBU5:=Lib.hid hbut5
 clear hD5 hbut5 HD4
 have CK:=Lib.hid (Rf.ok_any g (some y) cap bs s3.k s3.code s3.fat v4 HD5.out.rd)
 go_wp2_with fail
 refine CK.out.mono ?_
 clear CK
 rintro e v5 ⟨rfl,rfl⟩
 have HT5:Hid (v4.heap[tb]?=some (.cells C 33 (0,0))):=Lib.hid ((HBU5.out.block tb (Array.getElem?_eq_some_iff.1 HT4.out).1 (by omega)).trans HT4.out)
 have HALL:Hid (tailD bs x t=decR bs):=Lib.hid (tail_is H3.out HBIG.out HP.out)
 have HKEEP:Hid (∀ k,k < g→v4.heap[k]?=v.heap[k]?):=Lib.hid (fun k hk=>by
  have h1:=HB3.out.block k (by omega)
  have h2:=HBU2.out.block k (by have:=HB3.out.size;omega) (by omega)
  have h3:=HB4.out.block k (by have:=HB3.out.size;have:=HBU2.out.size;omega)
  have h4:=HBU5.out.block k (by have:=HB3.out.size;have:=HBU2.out.size;have:=HB4.out.size;omega) (by omega)
  exact h4.trans (h3.trans (h2.trans h1)))
 have HZ5:Hid (v4.heap[gz]?=some (.cells Z 33 (0,0))):=Lib.hid ((HKEEP.out gz (by have:=HGZ.out;omega)).trans HZ.out)
 have HF5:Hid (v4.heap[fz]?=some (.cells #[I 0,I 0] 36 (0,0))):=Lib.hid ((HKEEP.out fz (by omega)).trans HF.out)
 have HBE:Hid (Below w.heap.size w v4):=Lib.hid (by
  have s1:=HB.out.size
  have s2:=HB3.out.size
  have s3:=HBU2.out.size
  have s4:=HB4.out.size
  exact (((HB.out.trans (HB3.out.mono s1)).trans (HBU2.out.below (by omega) (by omega))).trans (HB4.out.mono (by omega))).trans (HBU5.out.below (by omega) (by omega)))
 have LG:Hid (∀ w',w'.heap[g]?=v4.heap[g]?→w'.cell? ⟨g,1,none⟩=some (I (s3.k:Int))∧Lies w' ⟨g,2,none⟩ [I s3.code,I s3.fat]):=Lib.hid (fun w' hw=>by
  have c1:=(World.cell?_of_block (w:=v4) (a:=⟨g,1,none⟩) hw).trans HD5.out.rd.c1
  have c2:=(World.cell?_of_block (w:=v4) (a:=⟨g,2,none⟩) hw).trans HD5.out.rd.c2
  have c3:=(World.cell?_of_block (w:=v4) (a:=⟨g,3,none⟩) hw).trans HD5.out.rd.c3
  refine ⟨c1,fun j v hv=>?_⟩
  match j,hv with
  | 0,hv=>rw [Tab.add_zero];simp only [List.getElem?_cons_zero] at hv;rw [← hv];exact c2
  | 1,hv=>simp only [List.getElem?_cons_succ,List.getElem?_cons_zero] at hv;rw [← hv];exact c3
  | j+2,hv=>simp at hv)
 have NE:Hid (g ≠ gz∧g ≠ fz∧gz ≠ fz):=Lib.hid ⟨by omega,by omega,by omega⟩
 by_cases hcode:s3.code=0
 rotate_left
 ·have hcd:decide (s3.code=0)=false:=decide_eq_false hcode
  go_upto_region 12 with fail
  have D0:Hid (Below w.heap.size w { v4 with drawn:=v4.drawn+1 }):=Lib.hid HBE.out.drew
  have D1:Hid (({ v4 with drawn:=v4.drawn+1 }:World).heap[gz]?=some (.cells Z 33 (0,0))):=Lib.hid HZ5.out
  have D2:Hid (({ v4 with drawn:=v4.drawn+1 }:World).heap[fz]?=some (.cells #[I 0,I 0] 36 (0,0))):=Lib.hid HF5.out
  refine wp_region_held (S:=fun v=>v.heap[g]?=v4.heap[g]?) (by kernel_rfl) ?_
  have hS:({ v4 with drawn:=v4.drawn+1 }:World).heap[g]?=v4.heap[g]?:=rfl
  generalize ({ v4 with drawn:=v4.drawn+1 }:World)=vd at hS D0 D1 D2 ⊢
  refine Held.take_build (i:=0) (some 52) rfl 33 #[] Z rfl rfl (by kernel_rfl) (by kernel_rfl) (by kernel_rfl) (fun _ _ _ h=>h) (by rfl) hS (by simpa using BZ.out) ?_
  (try dsimp only [Act.put]);(try simp only [List.setIfInBounds_toArray,List.set_cons_zero,List.set_cons_succ])
  refine Held.take (i:=1) (some 53) rfl (v:=?_) rfl (by kernel_rfl) (by kernel_rfl) (by kernel_rfl) (fun _ _ _ h=>h) (Or.inl ⟨by rfl,?_⟩) hS ?_
  rotate_left
  ·intro w' hw'
   go_simp
   try with_reducible rfl
  (try dsimp only [Act.put]);(try simp only [List.setIfInBounds_toArray,List.set_cons_zero,List.set_cons_succ])
  refine Held.take (i:=2) (some 54) rfl (v:=?_) rfl (by kernel_rfl) (by kernel_rfl) (by kernel_rfl) (fun _ _ _ h=>h) (Or.inl ⟨by rfl,?_⟩) hS ?_
  rotate_left
  ·intro w' hw'
   go_simp
   try with_reducible rfl
  (try dsimp only [Act.put]);(try simp only [List.setIfInBounds_toArray,List.set_cons_zero,List.set_cons_succ])
  refine Held.take (i:=3) (some 55) rfl (v:=?_) rfl (by kernel_rfl) (by kernel_rfl) (by kernel_rfl) (fun _ _ _ h=>h) (Or.inl ⟨by rfl,?_⟩) hS ?_
  rotate_left
  ·intro w' hw'
   go_simp
   try with_reducible rfl
  (try dsimp only [Act.put]);(try simp only [List.setIfInBounds_toArray,List.set_cons_zero,List.set_cons_succ])
  refine Held.take_load (i:=4) (some 56) rfl 36 (.tmp 55) ⟨g,2,none⟩ [I s3.code,I s3.fat] _ rfl rfl (by kernel_rfl) (by kernel_rfl) (by kernel_rfl) (fun _ _ _ h=>h) (by rfl) hS rfl (fun w' hw'=>(LG.out w' hw').2) Tryz.underlying36 rfl infoF ?_
  (try dsimp only [Act.put]);(try simp only [List.setIfInBounds_toArray,List.set_cons_zero,List.set_cons_succ])
  refine wpAnyH_ready (rs:=[5]) (by kernel_rfl) (by simp) (AllReadyH.cons rfl (fun K hK=>?_) AllReadyH.nil)
  rw [if_pos (by rfl)]
  refine wp_store_row 33 _ _ rfl gz Z rfl rfl 33 _ D1.out ZI.out rfl ZO.out ?_
  have hS2:(vd.setRow gz Z).heap[g]?=v4.heap[g]?:=(setRow_other _ _ _ _ NE.out.1).trans hS
  have E0:Hid (Below w.heap.size w (vd.setRow gz Z)):=Lib.hid (below_setRow D0.out (by omega) Z)
  have E1:=Lib.hid (setRow_heap vd gz _ Z _ _ D1.out)
  have E2:Hid ((vd.setRow gz Z).heap[fz]?=some (.cells #[I 0,I 0] 36 (0,0))):=Lib.hid ((setRow_other _ _ _ _ (Ne.symm NE.out.2.2)).trans D2.out)
  generalize vd.setRow gz Z=ve at hS2 E0 E1 E2 ⊢
  refine hK.out _ _ hS2 (fun hS=>?_)
  clear hK K hS2 D0 D1 D2
  (try dsimp only [Act.put]);(try simp only [List.setIfInBounds_toArray,List.set_cons_zero,List.set_cons_succ])
  refine wpAnyH_ready (rs:=[6]) (by kernel_rfl) (by simp) (AllReadyH.cons rfl (fun K hK=>?_) AllReadyH.nil)
  rw [if_pos (by rfl)]
  refine wp_store_row 36 _ _ rfl fz #[I (s3.code),I (s3.fat)] rfl rfl 36 _ E2.out infoF rfl (by simp [Value.oneCell']) ?_
  have hS3:(ve.setRow fz #[I (s3.code),I (s3.fat)]).heap[g]?=v4.heap[g]?:=(setRow_other _ _ _ _ NE.out.2.1).trans hS
  have F0:Hid (Below w.heap.size w (ve.setRow fz #[I (s3.code),I (s3.fat)])):=Lib.hid (below_setRow E0.out (by omega) #[I (s3.code),I (s3.fat)])
  have F2:=Lib.hid (setRow_heap ve fz _ #[I (s3.code),I (s3.fat)] _ _ E2.out)
  have F1:Hid ((ve.setRow fz #[I (s3.code),I (s3.fat)]).heap[gz]?=some (.cells Z 33 (0,0))):=Lib.hid ((setRow_other _ _ _ _ NE.out.2.2).trans E1.out)
  generalize ve.setRow fz #[I (s3.code),I (s3.fat)]=vf at hS3 F0 F1 F2 ⊢
  refine hK.out _ _ hS3 (fun hS=>?_)
  clear hK K hS3 E0 E1 E2
  refine wpAnyH_done (by kernel_rfl) ?_ _
  clear hS
  (try simp only [List.getElem_toArray,List.getElem_cons_succ,List.getElem_cons_zero])
  (try dsimp only [Act.put]);(try simp only [List.setIfInBounds_toArray,List.set_cons_zero,List.set_cons_succ])
  (try go_wp2_with fail)
  (try simp only [Exit.inBlock,Exit.then])
  have e2:res=.error (s3.code,s3.fat):=by
   rw [← HRES.out,← HALL.out]
   unfold tailD
   rw [HR.out]
   exact if_pos hcode
  refine bodyPost_ret (v:=.tuple #[.agg Z,.agg #[I (s3.code),I (s3.fat)]]) ?_ rfl ⟨F0.out,?_⟩
  ·exact results_two rfl _ _ gz fz 33 36 Z #[I (s3.code),I (s3.fat)] _ _ rfl rfl F1.out F2.out Tryz.underlying33 rfl ZI.out Tryz.underlying36 rfl infoF
  (try rw [e2])
  rw [← EZ.out]
 have hcd:decide (s3.code=0)=true:=decide_eq_true hcode
 have hk1:=HK1.out
 obtain ⟨cr,hcr⟩:∃ n:Nat,crc 65535 (bs.take s1)=n:=⟨_,rfl⟩
 have hcr2:cr < 65536:=by rw [← hcr];exact CrcM.crc_lt _ _ (by decide)
 have CR:Hid (Calls Tryz.prog 26 #[.int .u16 65535,.slice (some y) s1 cap] v4 fun e w'=>e=.returned (.int .u16 (cr:Int))∧v4=w'):=Lib.hid (by rw [← hcr];exact crc_take y cap bs s1 v4 HD5.out.rd.row hk1)
 have HCR:=Lib.hid hcr
 have hk2:s1≤cap:=by have:=HCAP.out;omega
 clear hcr hk1
 have ew:wrap64 (cr:Int)=cr:=IntWalk.wrap64_in _ (by omega)
 have ew2:IntKind.i64.wrap (cr:Int)=cr:=wrap_small hcr2
 go_wp2_with fail
 refine CR.out.mono ?_
 clear CR
 rintro e v6 ⟨rfl,rfl⟩
 by_cases hsum:sv=(cr:Int)
 rotate_left
 ·have hsd:(sv == (cr:Int))=false:=by rw [beq_eq_false_iff_ne];exact hsum
  have hsn:(sv != (cr:Int))=true:=by rw [bne_iff_ne];exact hsum
  have e2:res=.error (5,s1):=by
   rw [← HRES.out,← HALL.out]
   unfold tailD
   rw [HR.out]
   rw [if_neg (by simp [hcode]),if_pos (by rw [HS1.out,HCR.out];exact hsum),HS1.out]
  have hF1:(v4.setRow gz Z).heap[fz]?=some (.cells #[I 0,I 0] 36 (0,0)):=by rw [setRow_other _ _ _ _ (by omega)];exact HF5.out
  have HF1:=Lib.hid hF1
  clear hF1
  go_wp2_with (first | (refine Rr.wpList_build0 rfl 33 rfl Z BZ.out ?_) | (refine wpList_store_row rfl 33 _ _ rfl gz Z rfl rfl 33 _ HZ5.out ZI.out rfl ZO.out ?_) | (refine wpList_store_row rfl 36 _ _ rfl fz #[I (5),I (s1)] rfl rfl 36 _ HF1.out infoF rfl (by simp [Value.oneCell']) ?_))
  have hF2:=setRow_heap _ fz _ #[I (5),I (s1)] _ _ HF1.out
  have hZ2:((v4.setRow gz Z).setRow fz #[I (5),I (s1)]).heap[gz]?=some (.cells Z 33 (0,0)):=by rw [setRow_other _ _ _ _ (by omega)];exact setRow_heap _ _ _ _ _ _ HZ5.out
  have hb2:Below w.heap.size w ((v4.setRow gz Z).setRow fz #[I (5),I (s1)]):=below_setRow (below_setRow HBE.out (by omega) _) (by omega) _
  generalize (v4.setRow gz Z).setRow fz #[I (5),I (s1)]=ue at hF2 hZ2 hb2 ⊢
  have HF2:=Lib.hid hF2
  have HZ2:=Lib.hid hZ2
  have HB2:=Lib.hid hb2
  clear hF2 hZ2 hb2
  (try go_wp2_with fail)
  (try simp only [Exit.inBlock,Exit.then])
  refine bodyPost_ret (v:=.tuple #[.agg Z,.agg #[I (5),I (s1)]]) ?_ rfl ⟨HB2.out,?_⟩
  ·exact results_two rfl _ _ gz fz 33 36 Z #[I (5),I (s1)] _ _ rfl rfl HZ2.out HF2.out Tryz.underlying33 rfl ZI.out Tryz.underlying36 rfl infoF
  (try rw [e2])
  rw [← EZ.out]
 have hsd:(sv == (cr:Int))=true:=by rw [beq_iff_eq];exact hsum
 have hsn:(sv != (cr:Int))=false:=by rw [bne_eq_false_iff_eq];exact hsum
 have c1:=(LG.out v4 rfl).1
 obtain ⟨k3,hk3⟩:∃ n,s3.k=n:=⟨_,rfl⟩
 rw [hk3] at c1
 have K3:=Lib.hid hk3
 clear hk3
 by_cases hmore:k3 < len
 ·have hmd:decide ((k3:Int) < (len:Int))=true:=decide_eq_true (by omega)
  go_upto_region 16 with fail
  clear c1
  have D0:Hid (Below w.heap.size w { v4 with drawn:=v4.drawn+1 }):=Lib.hid HBE.out.drew
  have D1:Hid (({ v4 with drawn:=v4.drawn+1 }:World).heap[gz]?=some (.cells Z 33 (0,0))):=Lib.hid HZ5.out
  have D2:Hid (({ v4 with drawn:=v4.drawn+1 }:World).heap[fz]?=some (.cells #[I 0,I 0] 36 (0,0))):=Lib.hid HF5.out
  refine wp_region_held (S:=fun v=>v.heap[g]?=v4.heap[g]?) (by kernel_rfl) ?_
  have hS:({ v4 with drawn:=v4.drawn+1 }:World).heap[g]?=v4.heap[g]?:=rfl
  generalize ({ v4 with drawn:=v4.drawn+1 }:World)=vd at hS D0 D1 D2 ⊢
  refine Held.take_build (i:=0) (some 74) rfl 33 #[] Z rfl rfl (by kernel_rfl) (by kernel_rfl) (by kernel_rfl) (fun _ _ _ h=>h) (by rfl) hS (by simpa using BZ.out) ?_
  (try dsimp only [Act.put]);(try simp only [List.setIfInBounds_toArray,List.set_cons_zero,List.set_cons_succ])
  refine Held.take (i:=1) (some 75) rfl (v:=?_) rfl (by kernel_rfl) (by kernel_rfl) (by kernel_rfl) (fun _ _ _ h=>h) (Or.inl ⟨by rfl,?_⟩) hS ?_
  rotate_left
  ·intro w' hw'
   go_simp
   try with_reducible rfl
  (try dsimp only [Act.put]);(try simp only [List.setIfInBounds_toArray,List.set_cons_zero,List.set_cons_succ])
  refine Held.take (i:=2) (some 76) rfl (v:=?_) rfl (by kernel_rfl) (by kernel_rfl) (by kernel_rfl) (fun _ _ _ h=>h) (Or.inl ⟨by rfl,?_⟩) hS ?_
  rotate_left
  ·intro w' hw'
   go_simp
   try with_reducible rfl
  (try dsimp only [Act.put]);(try simp only [List.setIfInBounds_toArray,List.set_cons_zero,List.set_cons_succ])
  refine Held.take (i:=3) (some 77) rfl (v:=?_) rfl (by kernel_rfl) (by kernel_rfl) (by kernel_rfl) (fun _ _ _ h=>h) (Or.inl ⟨by rfl,?_⟩) hS ?_
  rotate_left
  ·intro w' hw'
   go_simp
   try with_reducible rfl
  (try dsimp only [Act.put]);(try simp only [List.setIfInBounds_toArray,List.set_cons_zero,List.set_cons_succ])
  refine Held.take (i:=4) (some 78) rfl (v:=?_) rfl (by kernel_rfl) (by kernel_rfl) (by kernel_rfl) (fun _ _ _ h=>h) (Or.inl ⟨by rfl,?_⟩) hS ?_
  rotate_left
  ·intro w' hw'
   have c1:=(LG.out w' hw').1
   rw [K3.out] at c1
   go_simp
   try with_reducible rfl
  (try dsimp only [Act.put]);(try simp only [List.setIfInBounds_toArray,List.set_cons_zero,List.set_cons_succ])
  refine Held.take_build (i:=5) (some 79) rfl 36 #[(0,.const (I 6)),(1,.tmp 78)] #[I 6,I k3] rfl rfl (by kernel_rfl) (by kernel_rfl) (by kernel_rfl) (fun _ _ _ h=>h) (by rfl) hS (by have h:=built_fault 6 k3;first | (simp [Act.eval];exact h) | (go_simp;exact h)) ?_
  (try dsimp only [Act.put]);(try simp only [List.setIfInBounds_toArray,List.set_cons_zero,List.set_cons_succ])
  refine wpAnyH_ready (rs:=[6]) (by kernel_rfl) (by simp) (AllReadyH.cons rfl (fun K hK=>?_) AllReadyH.nil)
  rw [if_pos (by rfl)]
  refine wp_store_row 33 _ _ rfl gz Z rfl rfl 33 _ D1.out ZI.out rfl ZO.out ?_
  have hS2:(vd.setRow gz Z).heap[g]?=v4.heap[g]?:=(setRow_other _ _ _ _ NE.out.1).trans hS
  have E0:Hid (Below w.heap.size w (vd.setRow gz Z)):=Lib.hid (below_setRow D0.out (by omega) Z)
  have E1:=Lib.hid (setRow_heap vd gz _ Z _ _ D1.out)
  have E2:Hid ((vd.setRow gz Z).heap[fz]?=some (.cells #[I 0,I 0] 36 (0,0))):=Lib.hid ((setRow_other _ _ _ _ (Ne.symm NE.out.2.2)).trans D2.out)
  generalize vd.setRow gz Z=ve at hS2 E0 E1 E2 ⊢
  refine hK.out _ _ hS2 (fun hS=>?_)
  clear hK K hS2 D0 D1 D2
  (try dsimp only [Act.put]);(try simp only [List.setIfInBounds_toArray,List.set_cons_zero,List.set_cons_succ])
  refine wpAnyH_ready (rs:=[7]) (by kernel_rfl) (by simp) (AllReadyH.cons rfl (fun K hK=>?_) AllReadyH.nil)
  rw [if_pos (by rfl)]
  refine wp_store_row 36 _ _ rfl fz #[I (6),I (k3)] rfl rfl 36 _ E2.out infoF rfl (by simp [Value.oneCell']) ?_
  have hS3:(ve.setRow fz #[I (6),I (k3)]).heap[g]?=v4.heap[g]?:=(setRow_other _ _ _ _ NE.out.2.1).trans hS
  have F0:Hid (Below w.heap.size w (ve.setRow fz #[I (6),I (k3)])):=Lib.hid (below_setRow E0.out (by omega) #[I (6),I (k3)])
  have F2:=Lib.hid (setRow_heap ve fz _ #[I (6),I (k3)] _ _ E2.out)
  have F1:Hid ((ve.setRow fz #[I (6),I (k3)]).heap[gz]?=some (.cells Z 33 (0,0))):=Lib.hid ((setRow_other _ _ _ _ NE.out.2.2).trans E1.out)
  generalize ve.setRow fz #[I (6),I (k3)]=vf at hS3 F0 F1 F2 ⊢
  refine hK.out _ _ hS3 (fun hS=>?_)
  clear hK K hS3 E0 E1 E2
  refine wpAnyH_done (by kernel_rfl) ?_ _
  clear hS
  (try simp only [List.getElem_toArray,List.getElem_cons_succ,List.getElem_cons_zero])
  (try dsimp only [Act.put]);(try simp only [List.setIfInBounds_toArray,List.set_cons_zero,List.set_cons_succ])
  (try go_wp2_with fail)
  (try simp only [Exit.inBlock,Exit.then])
  have e2:res=.error (6,k3):=by
   rw [← HRES.out,← HALL.out]
   unfold tailD
   rw [HR.out]
   rw [if_neg (by simp [hcode]),if_neg (by rw [HS1.out,HCR.out];simp [hsum]),if_pos (show s3.k < bs.length by rw [K3.out,HLN.out];exact hmore),K3.out]
  refine bodyPost_ret (v:=.tuple #[.agg Z,.agg #[I (6),I (k3)]]) ?_ rfl ⟨F0.out,?_⟩
  ·exact results_two rfl _ _ gz fz 33 36 Z #[I (6),I (k3)] _ _ rfl rfl F1.out F2.out Tryz.underlying33 rfl ZI.out Tryz.underlying36 rfl infoF
  (try rw [e2])
  rw [← EZ.out]
 have hmd:decide ((k3:Int) < (len:Int))=false:=decide_eq_false (by omega)
 go_upto_region 17 with fail
 clear c1
 have e2:res=.ok x:=by
  rw [← HRES.out,← HALL.out]
  unfold tailD
  rw [HR.out]
  rw [if_neg (by simp [hcode]),if_neg (by rw [HS1.out,HCR.out];simp [hsum]),if_neg (show ¬ s3.k < bs.length by rw [K3.out,HLN.out];exact hmore)]
 have E2:=Lib.hid e2
 clear e2
 have CI2:Hid ((Tryz.prog.info? 33).map (·.size)=some C.toList.length):=Lib.hid (by rw [Array.length_toList];exact CI.out)
 have hF1:(v4.setRow gz C).heap[fz]?=some (.cells #[I 0,I 0] 36 (0,0)):=by rw [setRow_other _ _ _ _ (by omega)];exact HF5.out
 have HF1:=Lib.hid hF1
 clear hF1
 go_wp2_with (first | (refine Row.wpList_load_g 33 _ rfl (by first | rfl | (go_simp;done) | fail) ⟨tb,0,none⟩ rfl C.toList _ (by have:=Row.lies_of_block HT5.out;simpa using this) Tryz.underlying33 rfl CI2.out ?_) | (refine Rr.wpList_build0 rfl 36 rfl #[I 0,I 0] built_f0 ?_) | (refine wpList_store_row rfl 33 _ _ rfl gz C rfl rfl 33 _ HZ5.out CI.out (by rw [EZS.out,CS.out]) CO.out ?_) | (refine wpList_store_row rfl 36 _ _ rfl fz #[I 0,I 0] rfl rfl 36 _ HF1.out infoF rfl (by simp [Value.oneCell']) ?_))
 have hF2:=setRow_heap _ fz _ #[I 0,I 0] _ _ HF1.out
 have hZ2:((v4.setRow gz C).setRow fz #[I 0,I 0]).heap[gz]?=some (.cells C 33 (0,0)):=by rw [setRow_other _ _ _ _ (by omega)];exact setRow_heap _ _ _ _ _ _ HZ5.out
 have hb2:Below w.heap.size w ((v4.setRow gz C).setRow fz #[I 0,I 0]):=below_setRow (below_setRow HBE.out (by omega) _) (by omega) _
 have hk2:Keep v1.heap.size v2 ((v4.setRow gz C).setRow fz #[I 0,I 0]):=fun b o hb ho=>by
  have hlt:b < v2.heap.size:=(Array.getElem?_eq_some_iff.1 ho).1
  have hge:=HGZ.out
  rw [setRow_other _ _ _ _ (by omega),setRow_other _ _ _ _ (by omega)]
  have h4:=HB4.out.block b hlt
  have h5:=HBU5.out.block b (by have:=HB4.out.size;omega) (by omega)
  rw [h5,h4]
  exact ho
 generalize (v4.setRow gz C).setRow fz #[I 0,I 0]=ue at hF2 hZ2 hb2 hk2 ⊢
 have HF2:=Lib.hid hF2
 have HZ2:=Lib.hid hZ2
 have HB2:=Lib.hid hb2
 have HTE:=Lib.hid (HKT.out ue hk2)
 clear hF2 hZ2 hb2 hk2
 (try go_wp2_with fail)
 (try simp only [Exit.inBlock,Exit.then])
 refine bodyPost_ret (v:=.tuple #[.agg C,.agg #[I 0,I 0]]) ?_ rfl ⟨HB2.out,?_⟩
 ·exact results_two rfl _ _ gz fz 33 36 C #[I 0,I 0] _ _ rfl rfl HZ2.out HF2.out Tryz.underlying33 rfl CI.out Tryz.underlying36 rfl infoF
 rw [E2.out]
 exact ⟨hd,by rw [EC.out],HTE.out⟩
end Dp
namespace Rb
open Go Go.RowKit Go.ChangeShapes
open Tab
open Put (low lim)
open Go.Proofs.YtjdeemmaaiecnaaGreat.B (Own own_row)
open Cd (puts)
def B8 (l:List Nat):Prop:=∀ x ∈ l,x < 256
theorem B8.app {a b:List Nat} (h:B8 a) (k:B8 b):B8 (a++b):=fun x hx=>(List.mem_append.1 hx).elim (h x) (k x)
structure Bv (W:World) (v:Value) (l:List Nat):Prop where
 b8:B8 l
 row:∃ a cap,v=.slice a l.length cap∧B.Row W a l∧(a=none→cap=0)
theorem Bv.below {W W':World} {v:Value} {l:List Nat} (h:Bv W v l) (hb:Below W.heap.size W W'):Bv W' v l :=
 ⟨h.b8,let ⟨a,cap,h1,h2,h3⟩:=h.row;⟨a,cap,h1,h2.below hb,h3⟩⟩
end Rb
namespace Rb
open Go Go.RowKit Go.ChangeShapes
open Tab
open Put (low lim)
open Cd (puts phB detB rlB bsB rowB grB listB Few)
open Po (gRow zGr range_flat)
structure St (u W:World) (v:Value) (l:List Nat) (N:Nat):Prop where
 bv:Bv W v l
 low:Below u.heap.size u W
 len:l.length≤N
section
variable {u W W':World} {v:Value} {l:List Nat} {N:Nat}
theorem St.mem (h:St u W v l N) (hb:Below W.heap.size W W'):St u W' v l N:=⟨h.bv.below hb,h.low.trans (hb.mono h.low.size),h.len⟩
end
end Rb
namespace Rb
open Go Go.RowKit Go.ChangeShapes
open Tab
open Put (low lim)
end Rb
namespace Dh
open Go Go.RowKit
open Tab Po
open Rr (decR EndsDec dec_is)
open Clone (zTab zHd)
def resT (bs:List Nat):Tab:=match decR bs with | .error _=>zTab | .ok x=>tabOf x
def resF (bs:List Nat):Int × Int:=match decR bs with | .error f=>(f.1,f.2) | .ok _=>(0,0)
theorem ends {bs:List Nat} {w:World} {e:Ending} {w':World} (h:EndsDec (decR bs) w e w'):∃ hd,e=.returned (.tuple #[.agg ((resT bs).cells hd).toArray,.agg #[I (resF bs).1,I (resF bs).2]])∧IsTab w' hd (resT bs)∧Below w.heap.size w w':=by
 unfold EndsDec at h
 unfold resT resF
 cases hr:decR bs with
 | error f=>rw [hr] at h;exact ⟨zHd,h.2,Clone.z_is w',h.1⟩
 | ok x=>rw [hr] at h;obtain ⟨hb,hd,he,ht⟩:=h;exact ⟨hd,he,ht,hb⟩
theorem dec_two (bs:List Nat) {a:Option Addr} {cap:Nat} {w:World} (hr:B.Row w a bs) (hl:bs.length≤10000) (hc:bs.length≤cap) (hn:a=none→cap=0) :
  Calls Tryz.prog 6 #[.slice a bs.length cap] w fun e w'=>∃ hd,e=.returned (.tuple #[.agg ((resT bs).cells hd).toArray,.agg #[I (resF bs).1,I (resF bs).2]])∧IsTab w' hd (resT bs)∧Below w.heap.size w w' :=
 (dec_is bs a cap w hr hl hn hc).mono fun e w' h=>ends h
theorem rdec_two (bs:List Nat) {a:Option Addr} {cap:Nat} {w:World} (hr:B.Row w a bs) (hl:bs.length≤10000) (hc:bs.length≤cap) :
  Calls Tryz.prog 7 #[.slice a bs.length cap] w fun e w'=>∃ hd,e=.returned (.tuple #[.agg ((resT bs).cells hd).toArray,.agg #[I (resF bs).1,I (resF bs).2]])∧IsTab w' hd (resT bs)∧Below w.heap.size w w' :=
 (Dp.rdec_is bs a cap w hr hl hc).mono fun e w' h=>ends h
end Dh
namespace Rb
open Go Go.RowKit Go.ChangeShapes
open Tab
open Put (low lim)
theorem own_cap {n:Nat} {W:World} {v:Value} {l:List Nat} (h:Go.Proofs.YtjdeemmaaiecnaaGreat.B.Own n W v l) (hl:∀ x ∈ l,x < 256):∃ a cap,v=.slice a l.length cap∧Go.Proofs.YtjdeemmaaiecnaaGreat.B.Row W a l∧l.length≤cap∧(a=none→cap=0):=by
 obtain ⟨a,c,e,hr⟩:=Go.Proofs.YtjdeemmaaiecnaaGreat.B.own_row h hl
 rcases h.2 with ⟨h1,h2⟩ | ⟨g,cap,cur,h1,h2,h3,h4,h5⟩
 ·rw [e] at h1
  injection h1 with q1 q2 q3
  exact ⟨_,_,e,hr,by omega,fun _=>q3⟩
 ·rw [e] at h1
  injection h1 with q1 q2 q3
  subst q1 q3
  exact ⟨_,_,e,hr,h4,fun h=>by cases h⟩
theorem seal_cap {W:World} {a:Option Addr} {cap:Nat} {l:List Nat} (hr:Go.Proofs.YtjdeemmaaiecnaaGreat.B.Row W a l) (hn:a=none→cap=0) (hl:l.length≤9000) :
  Calls Tryz.prog 8 #[.slice a l.length cap] W fun e W'=>∃ a2 cap2,e=.returned (.slice a2 (Cd.sealB l).length cap2)∧Go.Proofs.YtjdeemmaaiecnaaGreat.B.Row W' a2 (Cd.sealB l)∧(Cd.sealB l).length≤cap2∧(a2=none→cap2=0)∧Below W.heap.size W W':=by
 obtain ⟨cr,hcr⟩:∃ n:Nat,CrcM.crc 65535 l=n:=⟨_,rfl⟩
 have hcr2:cr < 65536:=by rw [← hcr];exact CrcM.crc_lt _ _ (by decide)
 have SL:Cd.sealB l=l++low (lim 2 8) (cr:Int):=by unfold Cd.sealB;rw [hcr];rfl
 have h8:∀ x ∈ Cd.sealB l,x < 256:=by
  intro x hx
  rw [SL,List.mem_append] at hx
  rcases hx with hx | hx
  ·exact hr.2.1 x hx
  ·exact Put.low_lt _ _ x hx
 have HP:Hid (Calls Tryz.prog 27 #[.slice a l.length cap,.int .i64 2,.int .i64 (cr:Int)] W fun e W'=>∃ v',e=.returned v'∧(∃ a2 cap2,v'=.slice a2 (Cd.sealB l).length cap2∧Go.Proofs.YtjdeemmaaiecnaaGreat.B.Row W' a2 (Cd.sealB l)∧(Cd.sealB l).length≤cap2∧(a2=none→cap2=0))∧Below W.heap.size W W'):=Lib.hid ((Put.ref_put_any a cap l 2 (cr:Int) W hr (by omega) hn).mono fun e W' ⟨v',h1,h2,h3⟩=>⟨v',h1,by rw [← SL] at h2;exact own_cap h2 h8,h3⟩)
 have CC:Hid (Calls Tryz.prog 26 #[.int .u16 65535,.slice a l.length cap] W fun e w'=>e=.returned (.int .u16 (cr:Int))∧W=w'):=Lib.hid (by have:=Crc.ref_any 65535 (by decide) a cap l W hr;rw [hcr] at this;exact this)
 have ew:wrap64 (cr:Int)=cr:=IntWalk.wrap64_in _ (by omega)
 have ew2:IntKind.i64.wrap (cr:Int)=cr:=by rw [IntKind.wrap_i64];omega
 generalize hsb:Cd.sealB l=sb at HP
 generalize l.length=n at HP CC hl ⊢
 clear hr hn hcr h8 SL
 go_enter Tryz.func8,Tryz.ntmps8
 go_wp2_with (go_at_call 26;refine CC.out.mono ?_;rintro e w' ⟨rfl,rfl⟩)
 refine HP.out.mono ?_
 rintro e w' ⟨v',rfl,⟨a2,cap2,rfl,q1,q2,q3⟩,hw⟩
 have Q1:=Lib.hid q1
 have Q2:=Lib.hid q2
 have Q3:=Lib.hid q3
 have HW:=Lib.hid hw
 clear q1 q2 q3 hw
 go_wp2
 go_ret
 subst hsb
 exact ⟨a2,cap2,rfl,Q1.out,Q2.out,Q3.out,HW.out⟩
end Rb
namespace CodeAt
open Go
def findR (id:Nat):Code→Option Code
 | .region i ops d=>if i=id then some (.region i ops d) else none
 | .seq a b=>(findR id a).or (findR id b)
 | .cond _ a b=>(findR id a).or (findR id b)
 | .block _ b=>findR id b
 | .loop b=>findR id b
 | .scope b=>findR id b
 | _=>none
def rg (id:Nat) (f:Func):Code:=((f.body.bind (findR id)).getD .skip)
end CodeAt
namespace Same
open Go.ChangeShapes Go.WideShapes Go.ChangeAt Go.RowKit
open Tab
open May (ret_bool chain take_succ' infoP infoG infoD infoR infoB row_new)
theorem eq_step {α:Type} {l m:List α} {k:Nat} {v u:α} (h:l[k]?=some v) (h':m[k]?=some u) (e:l.take k=m.take k) (hv:v=u):l.take (k+1)=m.take (k+1):=by
 rw [take_succ' l k v h,take_succ' m k u h',e,hv]
theorem eq_break {α:Type} {l m:List α} {k:Nat} {v u:α} (h:l[k]?=some v) (h':m[k]?=some u) (hv:¬ v=u):¬ l=m:=by
 rintro rfl;rw [h] at h';exact hv (Option.some.inj h')
theorem eq_end {α:Type} {l m:List α} {k:Nat} (e:l.take k=m.take k) (hl:l.length=m.length) (hk:¬ k < l.length):l=m:=by
 rwa [List.take_of_length_le (by omega),List.take_of_length_le (by omega)] at e
end Same
namespace Same
open Go.ChangeShapes Go.WideShapes Go.ChangeAt Go.RowKit
open Tab
open May (ret_bool chain take_succ' infoP infoG infoD infoR infoB row_new)
end Same
namespace Same
open Go.ChangeShapes Go.WideShapes Go.ChangeAt Go.RowKit
open Tab
open May (ret_bool chain take_succ' infoP infoG infoD infoR infoB row_new St)
theorem below_setRow {B:Nat} {a w:World} (h:Below B a w) {g:Nat} (hg:B≤g) (cs:Array Value):Below B a (w.setRow g cs) :=
 h.trans ⟨rfl,rfl,rfl,by simp [World.setRow],fun j hj=>setRow_other _ _ _ _ (by omega)⟩
end Same
namespace Same
open Go.ChangeShapes Go.WideShapes Go.ChangeAt Go.RowKit
open Tab
open May (ret_bool chain take_succ' infoP infoG infoD infoR infoB infoT row_new St)
theorem infoPs:(Tryz.prog.info? 26).map (·.size)=some 104:=by kernel_rfl
theorem info8:(Tryz.prog.info? 28).map (·.size)=some 8:=by kernel_rfl
theorem tab_eq {T U:Tab} (h1:T.phases=U.phases) (h2:T.groups=U.groups) (h3:T.conflict=U.conflict) (h4:T.dets=U.dets) (h5:T.rails=U.rails) (h6:T.buses=U.buses) (h7:T.flash=U.flash) (h8:single T=single U):T=U:=by
 obtain ⟨a0,a1,a2,a3,a4,a5,a6,a7,a8,a9,a10,a11,a12,a13⟩:=T
 obtain ⟨b0,b1,b2,b3,b4,b5,b6,b7,b8,b9,b10,b11,b12,b13⟩:=U
 simp only [single,List.cons.injEq,and_true] at h8
 simp_all
theorem lies_at {w:World} {b:Nat} {C:Array Value} {t:TypeId} {fr:Nat × Nat} (hb:w.heap[b]?=some (.cells C t fr)) (o n:Nat) (cs:List Value) (h:(C.toList.drop o).take n=cs):Lies w ⟨b,o,none⟩ cs:=fun j v hv=>by
 rw [Addr.add_mid];exact range_of hb o n cs h j v hv
end Same
namespace Same
open Go.ChangeShapes Go.WideShapes Go.ChangeAt Go.RowKit
open Tab
open May (ret_bool chain take_succ' infoP infoG infoD infoR infoB infoT row_new St)
theorem rints_any (a b:Option Addr) (ca cb:Nat) (l m:List Int) (w:World) (h:IntRow w ⟨a,ca⟩ l) (h':IntRow w ⟨b,cb⟩ m) :
  Calls Tryz.prog 28 #[.slice a l.length ca,.slice b m.length cb] w fun e w'=>e=.returned (.bool (decide (l=m)))∧Below w.heap.size w w':=by
 have h1:=h.len
 have h2:=h'.len
 unfold maxLen at h1 h2
 have Hr:=Lib.hid h
 have Hr':=Lib.hid h'
 clear h h'
 by_cases hlen:l.length=m.length
 ·have HL:=Lib.hid hlen
  have hd:((l.length:Int) != (m.length:Int))=false:=by rw [bne_eq_false_iff_eq];omega
  go_enter Tryz.func28,Tryz.ntmps28
  go_wp2
  go_loopw [5] (fun i wr=>∃ k:Nat,k≤l.length∧i=.int .i64 k∧l.take k=m.take k∧Below w.heap.size w wr) (fun i _=>l.length - (intOf i).toNat)
  case atStart=>exact ⟨0,by omega,rfl,rfl,Below.refl _ _⟩
  case round =>
   obtain ⟨k,hk,rfl,hall,hbel⟩:=hrel
   have Hall:=Lib.hid hall
   have Hb:=Lib.hid hbel
   clear hall hbel
   by_cases hlt:k < l.length
   ·have hv:=List.getElem?_eq_getElem hlt
    have hu:=List.getElem?_eq_getElem (show k < m.length by omega)
    generalize l[k]=v at hv
    generalize m[k]'(show k < m.length by omega)=u at hu
    obtain ⟨x,hx,hc⟩:=IntRow.at (Hr.out.below Hb.out) hv
    obtain rfl:a=some x:=hx
    obtain ⟨y,hy,hc'⟩:=IntRow.at (Hr'.out.below Hb.out) hu
    obtain rfl:b=some y:=hy
    have HV:=Lib.hid hv
    have HU:=Lib.hid hu
    have hkm:k < m.length:=by omega
    have hq:∀ p:Ph.S (Row.Old wr),p.world.cell? (x.add k)=some (I v):=fun p=>(p.is.cell (World.block_lt_of_cell? wr _ hc)).trans hc
    have hq':∀ p:Ph.S (Row.Old wr),p.world.cell? (y.add k)=some (I u):=fun p=>(p.is.cell (World.block_lt_of_cell? wr _ hc')).trans hc'
    have hne:Nonempty (Ph.S (Row.Old wr)):=⟨⟨0,wr,Below.refl _ _⟩⟩
    clear hv hu hc hc'
    go_wp2_with fail
    refine Ph.wp_region_ph (Row.Old wr) [] (by kernel_rfl) (by kernel_rfl) (Row.Old.drew _) ?_
    repeat
     (refine Ph.wpPh_calm rfl (fun K hK=>?_)
      go_simp
      refine hK _ ?_
      clear hK K)
    refine Ph.wpPh_nil ?_
    intro w2 hb2
    have B2:=Lib.hid (Below.trans Hb.out (Below.mono hb2 Hb.out.size))
    clear hb2 hne hq hq'
    by_cases hvu:v=u
    ·have HE:=Lib.hid hvu
     have hb:(v != u)=false:=by simpa using hvu
     clear hvu
     go_wp2
     go_roundw
     case rel=>exact ⟨k+1,by omega,by go_num,eq_step HV.out HU.out Hall.out HE.out,B2.out⟩
     case measure=>simp [intOf];omega
    ·have HE:=Lib.hid (show ¬ l=m from eq_break HV.out HU.out hvu)
     have hb:(v != u)=true:=by simpa using hvu
     clear hvu
     go_wp2
     go_ret
     exact ⟨ret_bool (decide_eq_false HE.out).symm,B2.out⟩
   ·have HE:=Lib.hid (show l=m from eq_end Hall.out HL.out hlt)
    go_wp2
    go_ret
    exact ⟨ret_bool (decide_eq_true HE.out).symm,Hb.out⟩
 ·have HL:=Lib.hid (show ¬ l=m from fun e=>hlen (by rw [e]))
  have hd:((l.length:Int) != (m.length:Int))=true:=by rw [bne_iff_ne];omega
  go_enter Tryz.func28,Tryz.ntmps28
  go_wp2
  go_ret
  exact ⟨ret_bool (decide_eq_false HL.out).symm,Below.refl _ _⟩
theorem rints_len (a b:Option Addr) (ca cb:Nat) (l m:List Int) (n n':Nat) (hn:l.length=n) (hn':m.length=n') (w:World) (h:IntRow w ⟨a,ca⟩ l) (h':IntRow w ⟨b,cb⟩ m) :
  Calls Tryz.prog 28 #[.slice a n ca,.slice b n' cb] w fun e w'=>e=.returned (.bool (decide (l=m)))∧Below w.heap.size w w':=by
 subst hn hn';exact rints_any a b ca cb l m w h h'
end Same
namespace Pw
open Go Go.RowKit
open Tab
structure W (P:Program) (ops:Array Oper) (D:Nat→World→Prop) (cs:List Nat) (Q:Act→Prop) (k:Nat) (l:List Oper) (a:Act):Prop where
 out:Ph.wpPh P ops D cs Q k l a
section
variable {P:Program} {D:Nat→World→Prop} {ns:List Nat} {ops:Array Oper} {Q:Act→Prop} {k:Nat} {a:Act} {o:Oper} {rest:List Oper}
theorem region {id:Nat} {Q:Exit→Act→World→Prop} {a:Act} {w:World} {l:List Oper} (D:Nat→World→Prop) (cs:List Nat) (hm:P.follows .mixedOrders=true) (hB:Ph.okB .any l.toArray cs=true) (hD:D 0 w.drew)
  (h:W P l.toArray D cs (fun a'=>∀ w',D cs.length w'→Q .normal a' w') 0 l a):(Code.region id l.toArray true).wp P Q a w:=Ph.wp_region_ph D cs hm hB hD h.out
theorem nil (h:Q a):W P ops D ns Q k [] a:=⟨h⟩
theorem calm (hk:ns.idxOf? k=none) (h:∀ K:Act→Prop,(∀ a,W P ops D ns Q (k+1) rest a→K a)→if Region.wanted o (yielded ops a.tmps) then Ph.Oper.calm P o a D K else K (a.put o.dst undef)):W P ops D ns Q k (o :: rest) a :=
 ⟨Ph.wpPh_calm hk fun K hK=>h K fun a ha=>hK a ha.out⟩
def skipsB (ns:List Nat) (ops:Array Oper):Nat→Nat→List Oper→Act→Bool
 | 0,_,_,_=>true
 | _+1,_,[],_=>false
 | n+1,k,o :: l,a=>(ns.idxOf? k).isNone && !(Region.wanted o (yielded ops a.tmps)) && skipsB ns ops n (k+1) l (a.put o.dst undef)
def undefs:List Oper→Act→Act
 | [],a=>a
 | o :: l,a=>undefs l (a.put o.dst undef)
theorem skips:∀ (n:Nat) {k:Nat} {l:List Oper} {a:Act},skipsB ns ops n k l a=true→W P ops D ns Q (k+n) (l.drop n) (undefs (l.take n) a)→W P ops D ns Q k l a
 | 0,_,_,_,_,h=>h
 | n+1,_,[],_,h,_=>by simp [skipsB] at h
 | n+1,k,o :: l,a,h,hr=>by
  simp only [skipsB,Bool.and_eq_true,Option.isNone_iff_eq_none,Bool.not_eq_true'] at h
  refine calm h.1.1 fun K hK=>?_
  rw [if_neg (by rw [h.1.2];simp)]
  refine hK _ (skips n h.2 ?_)
  rw [show k+1+n=k+(n+1) by omega]
  exact hr
theorem load (hk:ns.idxOf? k=none) (hw:Region.wanted o (yielded ops a.tmps)=true)
  (ty:TypeId) (x:Operand) (ho:o.op=.load ty x) (y:Addr) (hx:a.eval x=.pointer (some y)) (cs:List Value) (d:TypeDesc) (hc:∀ p:Ph.S D,Lies p.world y cs) (hu:P.underlying ty=some d) (hd:d.isRow=true) (hi:(P.info? ty).map (·.size)=some cs.length)
  (h:W P ops D ns Q (k+1) rest (a.put o.dst (.agg cs.toArray))):W P ops D ns Q k (o :: rest) a:=⟨Row.wpPh_load hk hw ty x ho y hx cs d hc hu hd hi h.out⟩
theorem neq (t:TypeId) (x y:Operand) (t2:TypeId) (ho:o.op=.binOp .neq t x y t2) (hk:ns.idxOf? k=none) (hw:Region.wanted o (yielded ops a.tmps)=true)
  (xs ys:Array Value) (hx:a.eval x=.agg xs) (hy:a.eval y=.agg ys) (hg:P.eqGuardType P.depth t=false) (b:Bool) (he:∀ w,(Op.equalIn 10000 t (.agg xs) (.agg ys)).run P w=.ok b w)
  (h:W P ops D ns Q (k+1) rest (a.put o.dst (.bool (!b)))):W P ops D ns Q k (o :: rest) a:=⟨Row.wpPh_neq t x y t2 ho hk hw xs ys hx hy hg b he h.out⟩
end
end Pw
namespace Same
open Go.ChangeShapes Go.WideShapes Go.ChangeAt Go.RowKit
open Tab Owned CodeAt
open May (ret_bool chain take_succ' infoP infoG infoD infoR infoB infoT row_new St)
theorem own2_alloc {B:Nat} {v:World} {L:List Blk} (h:Owned.Own B v L) (hB:B≤v.heap.size) (cs:List Value) (t:TypeId):Owned.Own B (v.alloc (.cells cs.toArray t)) (⟨v.heap.size,cs,t⟩ :: L) :=
 h.add ((Below.refl _ _).alloc (Nat.le_refl _) _) (heap_alloc_new v _) (Nat.le_refl _) hB
theorem wp_store_whole {P:Program} {o:Oper} {a:Act} {w:World} {K:Act→World→Prop} {Q:Exit→Act→World→Prop} (ty:TypeId) (x y:Operand) (ho:o.op=.store ty x y) (g:Nat) (cells:Array Value) (hx:a.eval x=.pointer (some ⟨g,0,none⟩)) (hy:a.eval y=.agg cells)
  (t:TypeId) (old:Array Value) (hg:w.heap[g]?=some (.cells old t (0,0))) (hi:(P.info? ty).map (·.size)=some cells.size) (hs:old.size=cells.size) (h1:cells.all (·.oneCell')=true) (hd:o.dst=none) (h:K a (w.setRow g cells)):o.wp P a w K Q:=by
 have hr:=Row.run_storeAt_at (P:=P) w g 0 t ty old cells hg hi (by omega) h1
 have e:(old.toList.take 0++cells.toList++old.toList.drop (0+cells.size)).toArray=cells:=by
  rw [List.drop_of_length_le (by simp;omega)];simp
 rw [e] at hr
 unfold Oper.wp execOp
 simp only [ho,hx,hy,Sem.run_bind,hr,Result.andThen_ok,Sem.run_pure]
 show K (a.put o.dst undef) _
 rw [hd]
 exact h
theorem boxes_rg {Q:Exit→Act→World→Prop} (hP:∀ c (a a':Act) w,a.defers=a'.defers→Q (.panic c) a w→Q (.panic c) a' w) (w wr:World) (q n n' c c':Nat) (x y:Addr) (v0 u0:Det) (hlt:q < n) (hlu:q < n') (K1:n≤c∧c≤2 ^ 63 - 1) (K2:n'≤c'∧c'≤2 ^ 63 - 1)
  (qq113:Hid (wr.cell? ⟨w.heap.size,113,none⟩=some (.slice (some x) n c))) (rr113:Hid (wr.cell? ⟨w.heap.size+1,113,none⟩=some (.slice (some y) n' c')))
  (HC:Hid (Lies wr (x.add (q*7)) v0.cells)) (HC':Hid (Lies wr (y.add (q*7)) u0.cells)) (f0 f1 f4 f5 f7 f8 f9 f10 f11 f12 f13 f14 f15 f16 f17 f18 f19 f20 f21 f22 f23 f24 f25 f26 f27 f28 f29 f30 f31 f32 f33 f34 f35 f36 f37 f38 f39 f40 f41 f42 f43 f44 f45 f46 f47 f48 f49 f50 f51 f52 f53 f54 f55 f56 f57 f58 f59 f60 f61 f62 f63 f64 f65 f66 f67 f68 f69 f70 f71 f72 f73 f74 f75 f76 f77 f78 f79 f80 f81 f82 f83 f84 f85 f86 f87 f88 f89 f90 f91 f92 f93 f94 f95 f96 f97 f98 f99 f100 f101 f102 f103 f104 f105 f106 f107 f108 f109 f110 f111 f112 f113 f114 f115 f116 f117 f118 f119 f120 f121 f122 f123 f124 f125 f126 f127 f128 f129 f130 f131 f132 f133 f134 f135 f136 f137 f138 f139 f140 f141 f142 f143 f144 f145 f146 f147 f148 f149 f150 f151 f152 f153 f154 f155 f156 f157 f158 f159 f160 f161 f162 f163 f164 f165 f166 f167 f168 f169 f170 f171 f172 f173 f174 f175 f176 f177 f178 f179 f180 f181 f182 f183 f184 f185 f186 f187 f188 f189 f190 f191 f192 f193 f194 f195 f196 f197 f198 f199 f200 f201 f202 f203 f204 f205 f206 f207 f208 f209 f210 f211 f212 f213 f214 f215 f216 f217 f218 f219 f220 f221 f222 f223 f224 f225 f226 f227 f228 f229 f230 f231 f232 f233 f234 f235 f236 f237 f238 f239 f240 f241 f242:Value)
  (HQ:Hid (∀ (x142 x143 x144 x145 x146 x147 x148 x149 x150 x151:Value) (g7 g8:Nat) (w':World),w'.heap[g7]?=some (.cells v0.cells.toArray 71 (0,0))→w'.heap[g8]?=some (.cells u0.cells.toArray 71 (0,0))→Below wr.heap.size wr w'→Q .normal ⟨#[f0,f1,Value.pointer (some ⟨w.heap.size,0,none⟩),Value.pointer (some ⟨w.heap.size+1,0,none⟩),f4,f5,Value.int .i64 (q:Int),Value.pointer (some ⟨g7,0,none⟩),Value.pointer (some ⟨g8,0,none⟩),f9,f10,f11,f12,f13,f14,f15,f16,f17,f18,f19,f20,f21,f22,f23,f24,f25,f26,f27,f28,f29,f30,f31,f32,f33,f34,f35,f36,f37,f38,f39,f40,f41,f42,f43,f44,f45,f46,f47,f48,f49,f50,f51,f52,f53,f54,f55,f56,f57,f58,f59,f60,f61,f62,f63,f64,f65,f66,f67,f68,f69,f70,f71,f72,f73,f74,f75,f76,f77,f78,f79,f80,f81,f82,f83,f84,f85,f86,f87,f88,f89,f90,f91,f92,f93,f94,f95,f96,f97,f98,f99,f100,f101,f102,f103,f104,f105,f106,f107,f108,f109,f110,f111,f112,f113,f114,f115,f116,f117,f118,f119,f120,f121,f122,f123,f124,f125,f126,f127,f128,f129,f130,f131,f132,f133,f134,f135,f136,f137,f138,f139,f140,f141,x142,x143,x144,x145,x146,x147,x148,x149,x150,x151,f152,f153,f154,f155,f156,f157,f158,f159,f160,f161,f162,f163,f164,f165,f166,f167,f168,f169,f170,f171,f172,f173,f174,f175,f176,f177,f178,f179,f180,f181,f182,f183,f184,f185,f186,f187,f188,f189,f190,f191,f192,f193,f194,f195,f196,f197,f198,f199,f200,f201,f202,f203,f204,f205,f206,f207,f208,f209,f210,f211,f212,f213,f214,f215,f216,f217,f218,f219,f220,f221,f222,f223,f224,f225,f226,f227,f228,f229,f230,f231,f232,f233,f234,f235,f236,f237,f238,f239,f240,f241,f242],[]⟩ w')) :
  (rg 13 Tryz.f9).wp Tryz.prog Q ⟨#[f0,f1,Value.pointer (some ⟨w.heap.size,0,none⟩),Value.pointer (some ⟨w.heap.size+1,0,none⟩),f4,f5,Value.int .i64 (q:Int),f7,f8,f9,f10,f11,f12,f13,f14,f15,f16,f17,f18,f19,f20,f21,f22,f23,f24,f25,f26,f27,f28,f29,f30,f31,f32,f33,f34,f35,f36,f37,f38,f39,f40,f41,f42,f43,f44,f45,f46,f47,f48,f49,f50,f51,f52,f53,f54,f55,f56,f57,f58,f59,f60,f61,f62,f63,f64,f65,f66,f67,f68,f69,f70,f71,f72,f73,f74,f75,f76,f77,f78,f79,f80,f81,f82,f83,f84,f85,f86,f87,f88,f89,f90,f91,f92,f93,f94,f95,f96,f97,f98,f99,f100,f101,f102,f103,f104,f105,f106,f107,f108,f109,f110,f111,f112,f113,f114,f115,f116,f117,f118,f119,f120,f121,f122,f123,f124,f125,f126,f127,f128,f129,f130,f131,f132,f133,f134,f135,f136,f137,f138,f139,f140,f141,f142,f143,f144,f145,f146,f147,f148,f149,f150,f151,f152,f153,f154,f155,f156,f157,f158,f159,f160,f161,f162,f163,f164,f165,f166,f167,f168,f169,f170,f171,f172,f173,f174,f175,f176,f177,f178,f179,f180,f181,f182,f183,f184,f185,f186,f187,f188,f189,f190,f191,f192,f193,f194,f195,f196,f197,f198,f199,f200,f201,f202,f203,f204,f205,f206,f207,f208,f209,f210,f211,f212,f213,f214,f215,f216,f217,f218,f219,f220,f221,f222,f223,f224,f225,f226,f227,f228,f229,f230,f231,f232,f233,f234,f235,f236,f237,f238,f239,f240,f241,f242],[]⟩ wr:=by
 conv=>arg 2;whnf
 refine wp_region_held (S:=fun w'=>Below wr.heap.size wr w') (by kernel_rfl) ?_
 have hS:Below wr.heap.size wr { wr with drawn:=wr.drawn+1 }:=(Below.refl _ _).drew
 have O:Hid (Owned.Own wr.heap.size { wr with drawn:=wr.drawn+1 } []):=Owned.Own.nil
 generalize ({ wr with drawn:=wr.drawn+1 }:World)=v at hS O ⊢
 refine Held.take (i:=0) (some 142) rfl (v:=?_) rfl (by kernel_rfl) (by kernel_rfl) (by kernel_rfl) (fun c a w h=>hP c _ a w (by rfl) h) (Or.inl ⟨by rfl,?_⟩) hS ?_
 rotate_left
 ·intro w' hw'
  go_simp
  try with_reducible rfl
 (try dsimp only [Act.put]);(try simp only [List.setIfInBounds_toArray,List.set_cons_zero,List.set_cons_succ])
 refine Held.take (i:=1) (some 143) rfl (v:=?_) rfl (by kernel_rfl) (by kernel_rfl) (by kernel_rfl) (fun c a w h=>hP c _ a w (by rfl) h) (Or.inl ⟨by rfl,?_⟩) hS ?_
 rotate_left
 ·intro w' hw'
  have e1:=(hw'.cell (World.block_lt_of_cell? wr _ qq113.out)).trans qq113.out
  go_simp
  try with_reducible rfl
 (try dsimp only [Act.put]);(try simp only [List.setIfInBounds_toArray,List.set_cons_zero,List.set_cons_succ])
 refine Held.take (i:=2) (some 144) rfl (v:=?_) rfl (by kernel_rfl) (by kernel_rfl) (by kernel_rfl) (fun c a w h=>hP c _ a w (by rfl) h) (Or.inl ⟨by rfl,?_⟩) hS ?_
 rotate_left
 ·intro w' hw'
  go_simp
  try with_reducible rfl
 (try dsimp only [Act.put]);(try simp only [List.setIfInBounds_toArray,List.set_cons_zero,List.set_cons_succ])
 refine Held.take (i:=3) (some 145) rfl (v:=?_) rfl (by kernel_rfl) (by kernel_rfl) (by kernel_rfl) (fun c a w h=>hP c _ a w (by rfl) h) (Or.inl ⟨by rfl,?_⟩) hS ?_
 rotate_left
 ·intro w' hw'
  go_simp
  try with_reducible rfl
 (try dsimp only [Act.put]);(try simp only [List.setIfInBounds_toArray,List.set_cons_zero,List.set_cons_succ])
 refine Held.take_load (i:=4) (some 146) rfl 71 _ (x.add (q*7)) v0.cells _ rfl rfl (by kernel_rfl) (by kernel_rfl) (by kernel_rfl) (fun c a w h=>hP c _ a w (by rfl) h) (by rfl) hS rfl (fun w' hw'=>HC.out.below hw') Tryz.underlying71 rfl infoD ?_
 (try dsimp only [Act.put]);(try simp only [List.setIfInBounds_toArray,List.set_cons_zero,List.set_cons_succ])
 refine Held.take (i:=5) (some 147) rfl (v:=?_) rfl (by kernel_rfl) (by kernel_rfl) (by kernel_rfl) (fun c a w h=>hP c _ a w (by rfl) h) (Or.inl ⟨by rfl,?_⟩) hS ?_
 rotate_left
 ·intro w' hw'
  go_simp
  try with_reducible rfl
 (try dsimp only [Act.put]);(try simp only [List.setIfInBounds_toArray,List.set_cons_zero,List.set_cons_succ])
 refine Held.take (i:=6) (some 148) rfl (v:=?_) rfl (by kernel_rfl) (by kernel_rfl) (by kernel_rfl) (fun c a w h=>hP c _ a w (by rfl) h) (Or.inl ⟨by rfl,?_⟩) hS ?_
 rotate_left
 ·intro w' hw'
  have e1:=(hw'.cell (World.block_lt_of_cell? wr _ rr113.out)).trans rr113.out
  go_simp
  try with_reducible rfl
 (try dsimp only [Act.put]);(try simp only [List.setIfInBounds_toArray,List.set_cons_zero,List.set_cons_succ])
 refine Held.take (i:=7) (some 149) rfl (v:=?_) rfl (by kernel_rfl) (by kernel_rfl) (by kernel_rfl) (fun c a w h=>hP c _ a w (by rfl) h) (Or.inl ⟨by rfl,?_⟩) hS ?_
 rotate_left
 ·intro w' hw'
  go_simp
  try with_reducible rfl
 (try dsimp only [Act.put]);(try simp only [List.setIfInBounds_toArray,List.set_cons_zero,List.set_cons_succ])
 refine Held.take (i:=8) (some 150) rfl (v:=?_) rfl (by kernel_rfl) (by kernel_rfl) (by kernel_rfl) (fun c a w h=>hP c _ a w (by rfl) h) (Or.inl ⟨by rfl,?_⟩) hS ?_
 rotate_left
 ·intro w' hw'
  go_simp
  try with_reducible rfl
 (try dsimp only [Act.put]);(try simp only [List.setIfInBounds_toArray,List.set_cons_zero,List.set_cons_succ])
 refine Held.take_load (i:=9) (some 151) rfl 71 _ (y.add (q*7)) u0.cells _ rfl rfl (by kernel_rfl) (by kernel_rfl) (by kernel_rfl) (fun c a w h=>hP c _ a w (by rfl) h) (by rfl) hS rfl (fun w' hw'=>HC'.out.below hw') Tryz.underlying71 rfl infoD ?_
 (try dsimp only [Act.put]);(try simp only [List.setIfInBounds_toArray,List.set_cons_zero,List.set_cons_succ])
 refine wpAnyH_ready (rs:=[10,11]) (by kernel_rfl) (by simp) (AllReadyH.cons rfl (fun K hK=>?_) (AllReadyH.cons rfl (fun K hK=>?_) AllReadyH.nil))
 ·go_simp
  have O2:=Lib.hid (own2_alloc O.out hS.size [.int .i64 0,.float .f64 0,.float .f64 0,.float .f64 0,.float .f64 0,.int .i64 0,.int .i64 0] 71)
  refine hK.out _ _ (hS.alloc (by exact hS.size) _) (fun hS=>?_)
  clear hK K O
  generalize v.heap.size=g10 at O2 ⊢
  generalize v.alloc _=v at hS O2 ⊢
  have O:=O2
  clear O2
  refine wpAnyH_ready (rs:=[11]) (by kernel_rfl) (by simp) (AllReadyH.cons rfl (fun K hK=>?_) AllReadyH.nil)
  ·go_simp
   have O2:=Lib.hid (own2_alloc O.out hS.size [.int .i64 0,.float .f64 0,.float .f64 0,.float .f64 0,.float .f64 0,.int .i64 0,.int .i64 0] 71)
   refine hK.out _ _ (hS.alloc (by exact hS.size) _) (fun hS=>?_)
   clear hK K O
   generalize v.heap.size=g11 at O2 ⊢
   generalize v.alloc _=v at hS O2 ⊢
   have O:=O2
   clear O2
   refine wpAnyH_ready (rs:=[12]) (by kernel_rfl) (by simp) (AllReadyH.cons rfl (fun K hK=>?_) AllReadyH.nil)
   ·rw [if_pos (by rfl)]
    refine wp_store_whole 71 _ _ rfl g10 v0.cells.toArray rfl rfl 71 _ (O.out.get (x:=⟨g10,[.int .i64 0,.float .f64 0,.float .f64 0,.float .f64 0,.float .f64 0,.int .i64 0,.int .i64 0],_⟩) (by simp only [List.mem_cons,true_or,or_true])) infoD rfl (Det.one _) rfl ?_
    have O2:=O.out.row_at (i:=1) rfl v0.cells
    dsimp only [List.set_cons_succ,List.set_cons_zero] at O2
    have hS2:=below_setRow hS (g:=g10) (O.out.base (x:=⟨g10,[.int .i64 0,.float .f64 0,.float .f64 0,.float .f64 0,.float .f64 0,.int .i64 0,.int .i64 0],71⟩) (by simp only [List.mem_cons,true_or,or_true])) v0.cells.toArray
    clear O hS
    generalize v.setRow _ _=v at hS2 O2 ⊢
    refine hK.out _ _ hS2 (fun hS=>?_)
    clear hK K hS2
    have O:=Lib.hid O2
    clear O2
    refine wpAnyH_ready (rs:=[13]) (by kernel_rfl) (by simp) (AllReadyH.cons rfl (fun K hK=>?_) AllReadyH.nil)
    ·rw [if_pos (by rfl)]
     refine wp_store_whole 71 _ _ rfl g11 u0.cells.toArray rfl rfl 71 _ (O.out.get (x:=⟨g11,[.int .i64 0,.float .f64 0,.float .f64 0,.float .f64 0,.float .f64 0,.int .i64 0,.int .i64 0],_⟩) (by simp only [List.mem_cons,true_or,or_true])) infoD rfl (Det.one _) rfl ?_
     have O2:=O.out.row_at (i:=0) rfl u0.cells
     dsimp only [List.set_cons_succ,List.set_cons_zero] at O2
     have hS2:=below_setRow hS (g:=g11) (O.out.base (x:=⟨g11,[.int .i64 0,.float .f64 0,.float .f64 0,.float .f64 0,.float .f64 0,.int .i64 0,.int .i64 0],71⟩) (by simp only [List.mem_cons,true_or,or_true])) u0.cells.toArray
     clear O hS
     generalize v.setRow _ _=v at hS2 O2 ⊢
     refine hK.out _ _ hS2 (fun hS=>?_)
     clear hK K hS2
     have O:=Lib.hid O2
     clear O2
     refine wpAnyH_done (by kernel_rfl) ?_ _
     exact HQ.out _ _ _ _ _ _ _ _ _ _ g10 g11 _ (O.out.get (x:=⟨g10,v0.cells,_⟩) (by simp only [List.mem_cons,true_or,or_true])) (O.out.get (x:=⟨g11,u0.cells,_⟩) (by simp only [List.mem_cons,true_or,or_true])) hS
 ·go_simp
  have O2:=Lib.hid (own2_alloc O.out hS.size [.int .i64 0,.float .f64 0,.float .f64 0,.float .f64 0,.float .f64 0,.int .i64 0,.int .i64 0] 71)
  refine hK.out _ _ (hS.alloc (by exact hS.size) _) (fun hS=>?_)
  clear hK K O
  generalize v.heap.size=g11 at O2 ⊢
  generalize v.alloc _=v at hS O2 ⊢
  have O:=O2
  clear O2
  refine wpAnyH_ready (rs:=[10]) (by kernel_rfl) (by simp) (AllReadyH.cons rfl (fun K hK=>?_) AllReadyH.nil)
  ·go_simp
   have O2:=Lib.hid (own2_alloc O.out hS.size [.int .i64 0,.float .f64 0,.float .f64 0,.float .f64 0,.float .f64 0,.int .i64 0,.int .i64 0] 71)
   refine hK.out _ _ (hS.alloc (by exact hS.size) _) (fun hS=>?_)
   clear hK K O
   generalize v.heap.size=g10 at O2 ⊢
   generalize v.alloc _=v at hS O2 ⊢
   have O:=O2
   clear O2
   refine wpAnyH_ready (rs:=[12]) (by kernel_rfl) (by simp) (AllReadyH.cons rfl (fun K hK=>?_) AllReadyH.nil)
   ·rw [if_pos (by rfl)]
    refine wp_store_whole 71 _ _ rfl g10 v0.cells.toArray rfl rfl 71 _ (O.out.get (x:=⟨g10,[.int .i64 0,.float .f64 0,.float .f64 0,.float .f64 0,.float .f64 0,.int .i64 0,.int .i64 0],_⟩) (by simp only [List.mem_cons,true_or,or_true])) infoD rfl (Det.one _) rfl ?_
    have O2:=O.out.row_at (i:=0) rfl v0.cells
    dsimp only [List.set_cons_succ,List.set_cons_zero] at O2
    have hS2:=below_setRow hS (g:=g10) (O.out.base (x:=⟨g10,[.int .i64 0,.float .f64 0,.float .f64 0,.float .f64 0,.float .f64 0,.int .i64 0,.int .i64 0],71⟩) (by simp only [List.mem_cons,true_or,or_true])) v0.cells.toArray
    clear O hS
    generalize v.setRow _ _=v at hS2 O2 ⊢
    refine hK.out _ _ hS2 (fun hS=>?_)
    clear hK K hS2
    have O:=Lib.hid O2
    clear O2
    refine wpAnyH_ready (rs:=[13]) (by kernel_rfl) (by simp) (AllReadyH.cons rfl (fun K hK=>?_) AllReadyH.nil)
    ·rw [if_pos (by rfl)]
     refine wp_store_whole 71 _ _ rfl g11 u0.cells.toArray rfl rfl 71 _ (O.out.get (x:=⟨g11,[.int .i64 0,.float .f64 0,.float .f64 0,.float .f64 0,.float .f64 0,.int .i64 0,.int .i64 0],_⟩) (by simp only [List.mem_cons,true_or,or_true])) infoD rfl (Det.one _) rfl ?_
     have O2:=O.out.row_at (i:=1) rfl u0.cells
     dsimp only [List.set_cons_succ,List.set_cons_zero] at O2
     have hS2:=below_setRow hS (g:=g11) (O.out.base (x:=⟨g11,[.int .i64 0,.float .f64 0,.float .f64 0,.float .f64 0,.float .f64 0,.int .i64 0,.int .i64 0],71⟩) (by simp only [List.mem_cons,true_or,or_true])) u0.cells.toArray
     clear O hS
     generalize v.setRow _ _=v at hS2 O2 ⊢
     refine hK.out _ _ hS2 (fun hS=>?_)
     clear hK K hS2
     have O:=Lib.hid O2
     clear O2
     refine wpAnyH_done (by kernel_rfl) ?_ _
     exact HQ.out _ _ _ _ _ _ _ _ _ _ g10 g11 _ (O.out.get (x:=⟨g10,v0.cells,_⟩) (by simp only [List.mem_cons,true_or,or_true])) (O.out.get (x:=⟨g11,u0.cells,_⟩) (by simp only [List.mem_cons,true_or,or_true])) hS
end Same
namespace Same
open Go.ChangeShapes Go.WideShapes Go.ChangeAt Go.RowKit
open Tab Owned CodeAt
open May (ret_bool chain take_succ' infoP infoG infoD infoR infoB infoT row_new St)
structure Two (w:World) (cs ds:Array Value) (h k:Hd) (T U:Tab) (W:World):Prop where
 t:St w w.heap.size cs h T W
 u:St w (w.heap.size+1) ds k U W
theorem Two.step {w W W':World} {cs ds:Array Value} {h k:Hd} {T U:Tab} (p:Two w cs ds h k T U W) (hb:Below W.heap.size W W'):Two w cs ds h k T U W':=⟨p.t.step hb,p.u.step hb⟩
theorem data_step {l m:List Gr} {k:Nat} {v u:Gr} (h:l[k]?=some v) (h':m[k]?=some u) (e:(l.take k).map Gr.data=(m.take k).map Gr.data) (hv:v.data=u.data):(l.take (k+1)).map Gr.data=(m.take (k+1)).map Gr.data:=by
 rw [take_succ' l k v h,take_succ' m k u h',List.map_append,List.map_append,e];simp [hv]
theorem data_break {l m:List Gr} {k:Nat} {v u:Gr} (h:l[k]?=some v) (h':m[k]?=some u) (hv:¬ v.data=u.data):¬ l.map Gr.data=m.map Gr.data:=fun e=>hv (by
 have h3:=congrArg (·[k]?) e
 simp only [List.getElem?_map,h,h',Option.map_some] at h3
 exact Option.some.inj h3)
structure Heads (T U:Tab):Prop where
 h1:T.phases=U.phases
 h2:T.conflict=U.conflict
 h3:T.flash=U.flash
 h4:T.groups.length=U.groups.length
 h5:T.dets.length=U.dets.length
 h6:T.rails.length=U.rails.length
 h7:T.buses.length=U.buses.length
theorem heads_rg {Q:Exit→Act→World→Prop} (T U:Tab) (h k:Hd) (w w1:World) (cs ds:Array Value) (L1:Hid (IsTab w h T)) (L2:Hid (IsTab w k U)) (C:Hid (CellsOk T h cs)) (D:Hid (CellsOk U k ds)) (SS:Hid (Two w cs ds h k T U w1)) (f0 f1 f4 f5 f6 f7 f8 f9 f10 f11 f12 f13 f14 f15 f16 f17 f18 f19 f20 f21 f22 f23 f24 f25 f26 f27 f28 f29 f30 f31 f32 f33 f34 f35 f36 f37 f38 f39 f40 f41 f42 f43 f44 f45 f46 f47 f48 f49 f50 f51 f52 f53 f54 f55 f56 f57 f58 f59 f60 f61 f62 f63 f64 f65 f66 f67 f68 f69 f70 f71 f72 f73 f74 f75 f76 f77 f78 f79 f80 f81 f82 f83 f84 f85 f86 f87 f88 f89 f90 f91 f92 f93 f94 f95 f96 f97 f98 f99 f100 f101 f102 f103 f104 f105 f106 f107 f108 f109 f110 f111 f112 f113 f114 f115 f116 f117 f118 f119 f120 f121 f122 f123 f124 f125 f126 f127 f128 f129 f130 f131 f132 f133 f134 f135 f136 f137 f138 f139 f140 f141 f142 f143 f144 f145 f146 f147 f148 f149 f150 f151 f152 f153 f154 f155 f156 f157 f158 f159 f160 f161 f162 f163 f164 f165 f166 f167 f168 f169 f170 f171 f172 f173 f174 f175 f176 f177 f178 f179 f180 f181 f182 f183 f184 f185 f186 f187 f188 f189 f190 f191 f192 f193 f194 f195 f196 f197 f198 f199 f200 f201 f202 f203 f204 f205 f206 f207 f208 f209 f210 f211 f212 f213 f214 f215 f216 f217 f218 f219 f220 f221 f222 f223 f224 f225 f226 f227 f228 f229 f230 f231 f232 f233 f234 f235 f236 f237 f238 f239 f240 f241 f242:Value)
  (HQ:Hid (∀ (x11 x12 x13 x14 x15 x16 x17 x18 x19 x20 x21 x22 x23 x24 x25 x26 x27 x28 x29 x30 x31 x32 x33 x34 x35 x36 x37 x38 x39 x40 x41 x42 x43 x44 x45 x46 x47 x48 x49 x50 x51 x52 x53 x54 x55 x56 x57 x58 x59 x60 x61 x62 x63 x64:Value) (b:Bool),(b=false ↔ Heads T U)→Q .normal ⟨#[f0,f1,Value.pointer (some ⟨w.heap.size,0,none⟩),Value.pointer (some ⟨w.heap.size+1,0,none⟩),f4,f5,f6,f7,f8,f9,f10,x11,x12,x13,x14,x15,x16,x17,x18,x19,x20,x21,x22,x23,x24,x25,x26,x27,x28,x29,x30,x31,x32,x33,x34,x35,x36,x37,x38,x39,x40,x41,x42,x43,x44,x45,x46,x47,x48,x49,x50,x51,x52,x53,x54,x55,x56,x57,x58,x59,x60,x61,x62,x63,x64,Value.bool b,f66,f67,f68,f69,f70,f71,f72,f73,f74,f75,f76,f77,f78,f79,f80,f81,f82,f83,f84,f85,f86,f87,f88,f89,f90,f91,f92,f93,f94,f95,f96,f97,f98,f99,f100,f101,f102,f103,f104,f105,f106,f107,f108,f109,f110,f111,f112,f113,f114,f115,f116,f117,f118,f119,f120,f121,f122,f123,f124,f125,f126,f127,f128,f129,f130,f131,f132,f133,f134,f135,f136,f137,f138,f139,f140,f141,f142,f143,f144,f145,f146,f147,f148,f149,f150,f151,f152,f153,f154,f155,f156,f157,f158,f159,f160,f161,f162,f163,f164,f165,f166,f167,f168,f169,f170,f171,f172,f173,f174,f175,f176,f177,f178,f179,f180,f181,f182,f183,f184,f185,f186,f187,f188,f189,f190,f191,f192,f193,f194,f195,f196,f197,f198,f199,f200,f201,f202,f203,f204,f205,f206,f207,f208,f209,f210,f211,f212,f213,f214,f215,f216,f217,f218,f219,f220,f221,f222,f223,f224,f225,f226,f227,f228,f229,f230,f231,f232,f233,f234,f235,f236,f237,f238,f239,f240,f241,f242],[]⟩ w1)) :
  (rg 1 Tryz.f9).wp Tryz.prog Q ⟨#[f0,f1,Value.pointer (some ⟨w.heap.size,0,none⟩),Value.pointer (some ⟨w.heap.size+1,0,none⟩),f4,f5,f6,f7,f8,f9,f10,f11,f12,f13,f14,f15,f16,f17,f18,f19,f20,f21,f22,f23,f24,f25,f26,f27,f28,f29,f30,f31,f32,f33,f34,f35,f36,f37,f38,f39,f40,f41,f42,f43,f44,f45,f46,f47,f48,f49,f50,f51,f52,f53,f54,f55,f56,f57,f58,f59,f60,f61,f62,f63,f64,f65,f66,f67,f68,f69,f70,f71,f72,f73,f74,f75,f76,f77,f78,f79,f80,f81,f82,f83,f84,f85,f86,f87,f88,f89,f90,f91,f92,f93,f94,f95,f96,f97,f98,f99,f100,f101,f102,f103,f104,f105,f106,f107,f108,f109,f110,f111,f112,f113,f114,f115,f116,f117,f118,f119,f120,f121,f122,f123,f124,f125,f126,f127,f128,f129,f130,f131,f132,f133,f134,f135,f136,f137,f138,f139,f140,f141,f142,f143,f144,f145,f146,f147,f148,f149,f150,f151,f152,f153,f154,f155,f156,f157,f158,f159,f160,f161,f162,f163,f164,f165,f166,f167,f168,f169,f170,f171,f172,f173,f174,f175,f176,f177,f178,f179,f180,f181,f182,f183,f184,f185,f186,f187,f188,f189,f190,f191,f192,f193,f194,f195,f196,f197,f198,f199,f200,f201,f202,f203,f204,f205,f206,f207,f208,f209,f210,f211,f212,f213,f214,f215,f216,f217,f218,f219,f220,f221,f222,f223,f224,f225,f226,f227,f228,f229,f230,f231,f232,f233,f234,f235,f236,f237,f238,f239,f240,f241,f242],[]⟩ w1:=by
 conv=>arg 2;whnf
 have E1:=Lib.hid (phases_eqs T.phases U.phases L1.out.ph L2.out.ph)
 have E3:=Lib.hid (eight_eqs T.conflict U.conflict L1.out.cf L2.out.cf)
 have E7:=Lib.hid (eight_eqs T.flash U.flash L1.out.fl L2.out.fl)
 have q104:=SS.out.t.cell C.out.g
 have q113:=SS.out.t.cell C.out.d
 have q114:=SS.out.t.cell C.out.r
 have q115:=SS.out.t.cell C.out.b
 have r104:=SS.out.u.cell D.out.g
 have r113:=SS.out.u.cell D.out.d
 have r114:=SS.out.u.cell D.out.r
 have r115:=SS.out.u.cell D.out.b
 have PA:Hid (Lies w1 ⟨w.heap.size,0,none⟩ (T.phases.flatMap Ph.cells)):=Lib.hid (lies_at SS.out.t.blk 0 104 _ (by rw [List.drop_zero];exact C.out.phases))
 have PB:Hid (Lies w1 ⟨w.heap.size+1,0,none⟩ (U.phases.flatMap Ph.cells)):=Lib.hid (lies_at SS.out.u.blk 0 104 _ (by rw [List.drop_zero];exact D.out.phases))
 have IA:Hid ((Tryz.prog.info? 26).map (·.size)=some (T.phases.flatMap Ph.cells).length):=Lib.hid (infoPs.trans (by rw [phases_len,L1.out.ph]))
 have IB:Hid ((Tryz.prog.info? 26).map (·.size)=some (U.phases.flatMap Ph.cells).length):=Lib.hid (infoPs.trans (by rw [phases_len,L2.out.ph]))
 generalize T.phases.flatMap Ph.cells=pa at PA IA E1
 generalize U.phases.flatMap Ph.cells=pb at PB IB E1
 have CA:Hid (Lies w1 ⟨w.heap.size,105,none⟩ (T.conflict.map I)):=Lib.hid (lies_at SS.out.t.blk 105 8 _ C.out.conflict)
 have CB:Hid (Lies w1 ⟨w.heap.size+1,105,none⟩ (U.conflict.map I)):=Lib.hid (lies_at SS.out.u.blk 105 8 _ D.out.conflict)
 have JA:Hid ((Tryz.prog.info? 28).map (·.size)=some (T.conflict.map I).length):=Lib.hid (by rw [List.length_map,L1.out.cf];exact info8)
 have JB:Hid ((Tryz.prog.info? 28).map (·.size)=some (U.conflict.map I).length):=Lib.hid (by rw [List.length_map,L2.out.cf];exact info8)
 generalize T.conflict.map I=ca at CA JA E3
 generalize U.conflict.map I=cb at CB JB E3
 have FA:Hid (Lies w1 ⟨w.heap.size,121,none⟩ (T.flash.map I)):=Lib.hid (lies_at SS.out.t.blk 121 8 _ C.out.flash)
 have FB:Hid (Lies w1 ⟨w.heap.size+1,121,none⟩ (U.flash.map I)):=Lib.hid (lies_at SS.out.u.blk 121 8 _ D.out.flash)
 have KA:Hid ((Tryz.prog.info? 28).map (·.size)=some (T.flash.map I).length):=Lib.hid (by rw [List.length_map,L1.out.fl];exact info8)
 have KB:Hid ((Tryz.prog.info? 28).map (·.size)=some (U.flash.map I).length):=Lib.hid (by rw [List.length_map,L2.out.fl];exact info8)
 generalize T.flash.map I=fa at FA KA E7
 generalize U.flash.map I=fb at FB KB E7
 go_step
 by_cases h1:T.phases=U.phases
 rotate_left
 ·rw [decide_eq_false h1] at E1
  have NE:Hid (¬ Heads T U):=fun e=>h1 e.h1
  clear h1
  refine wpList_plain rfl (fun K hK=>?_)
  go_simp
  refine hK _ _ ?_
  clear hK K
  (try dsimp only [Act.put]);(try simp only [List.setIfInBounds_toArray,List.set_cons_zero,List.set_cons_succ])
  refine Row.wpList_load_g 26 _ rfl (by rfl) ⟨w.heap.size,0,none⟩ rfl pa _ PA.out Tryz.underlying26 rfl IA.out ?_
  (try dsimp only [Act.put]);(try simp only [List.setIfInBounds_toArray,List.set_cons_zero,List.set_cons_succ])
  refine wpList_plain rfl (fun K hK=>?_)
  go_simp
  refine hK _ _ ?_
  clear hK K
  (try dsimp only [Act.put]);(try simp only [List.setIfInBounds_toArray,List.set_cons_zero,List.set_cons_succ])
  refine Row.wpList_load_g 26 _ rfl (by rfl) ⟨w.heap.size+1,0,none⟩ rfl pb _ PB.out Tryz.underlying26 rfl IB.out ?_
  (try dsimp only [Act.put]);(try simp only [List.setIfInBounds_toArray,List.set_cons_zero,List.set_cons_succ])
  refine Row.wpList_neq 26 _ _ _ rfl (by rfl) pa.toArray pb.toArray rfl rfl guardP false E1.out ?_
  simp only [Bool.not_false,Bool.not_true]
  (try dsimp only [Act.put]);(try simp only [List.setIfInBounds_toArray,List.set_cons_zero,List.set_cons_succ])
  go_wp2
  exact HQ.out _ _ _ _ _ _ _ _ _ _ _ _ _ _ _ _ _ _ _ _ _ _ _ _ _ _ _ _ _ _ _ _ _ _ _ _ _ _ _ _ _ _ _ _ _ _ _ _ _ _ _ _ _ _ true (by simp only [Bool.true_eq_false,false_iff];exact NE.out)
 rw [decide_eq_true h1] at E1
 have H1:=Lib.hid h1
 clear h1
 refine wpList_plain rfl (fun K hK=>?_)
 go_simp
 refine hK _ _ ?_
 clear hK K
 (try dsimp only [Act.put]);(try simp only [List.setIfInBounds_toArray,List.set_cons_zero,List.set_cons_succ])
 refine Row.wpList_load_g 26 _ rfl (by rfl) ⟨w.heap.size,0,none⟩ rfl pa _ PA.out Tryz.underlying26 rfl IA.out ?_
 (try dsimp only [Act.put]);(try simp only [List.setIfInBounds_toArray,List.set_cons_zero,List.set_cons_succ])
 refine wpList_plain rfl (fun K hK=>?_)
 go_simp
 refine hK _ _ ?_
 clear hK K
 (try dsimp only [Act.put]);(try simp only [List.setIfInBounds_toArray,List.set_cons_zero,List.set_cons_succ])
 refine Row.wpList_load_g 26 _ rfl (by rfl) ⟨w.heap.size+1,0,none⟩ rfl pb _ PB.out Tryz.underlying26 rfl IB.out ?_
 (try dsimp only [Act.put]);(try simp only [List.setIfInBounds_toArray,List.set_cons_zero,List.set_cons_succ])
 refine Row.wpList_neq 26 _ _ _ rfl (by rfl) pa.toArray pb.toArray rfl rfl guardP true E1.out ?_
 simp only [Bool.not_false,Bool.not_true]
 (try dsimp only [Act.put]);(try simp only [List.setIfInBounds_toArray,List.set_cons_zero,List.set_cons_succ])
 clear PA PB IA IB E1
 refine wpList_plain rfl (fun K hK=>?_)
 go_simp
 refine hK _ _ ?_
 clear hK K
 (try dsimp only [Act.put]);(try simp only [List.setIfInBounds_toArray,List.set_cons_zero,List.set_cons_succ])
 by_cases h2:T.conflict=U.conflict
 rotate_left
 ·rw [decide_eq_false h2] at E3
  have NE:Hid (¬ Heads T U):=fun e=>h2 e.h2
  clear h2
  refine BigFrame.wpList_want (by rfl) (fun K hK=>?_)
  go_simp
  refine hK _ _ ?_
  clear hK K
  (try dsimp only [Act.put]);(try simp only [List.setIfInBounds_toArray,List.set_cons_zero,List.set_cons_succ])
  refine Row.wpList_load_g 28 _ rfl (by rfl) ⟨w.heap.size,105,none⟩ rfl ca _ CA.out Tryz.underlying28 rfl JA.out ?_
  (try dsimp only [Act.put]);(try simp only [List.setIfInBounds_toArray,List.set_cons_zero,List.set_cons_succ])
  refine BigFrame.wpList_want (by rfl) (fun K hK=>?_)
  go_simp
  refine hK _ _ ?_
  clear hK K
  (try dsimp only [Act.put]);(try simp only [List.setIfInBounds_toArray,List.set_cons_zero,List.set_cons_succ])
  refine Row.wpList_load_g 28 _ rfl (by rfl) ⟨w.heap.size+1,105,none⟩ rfl cb _ CB.out Tryz.underlying28 rfl JB.out ?_
  (try dsimp only [Act.put]);(try simp only [List.setIfInBounds_toArray,List.set_cons_zero,List.set_cons_succ])
  refine Row.wpList_neq 28 _ _ _ rfl (by rfl) ca.toArray cb.toArray rfl rfl guard8 false E3.out ?_
  simp only [Bool.not_false,Bool.not_true]
  (try dsimp only [Act.put]);(try simp only [List.setIfInBounds_toArray,List.set_cons_zero,List.set_cons_succ])
  go_wp2
  exact HQ.out _ _ _ _ _ _ _ _ _ _ _ _ _ _ _ _ _ _ _ _ _ _ _ _ _ _ _ _ _ _ _ _ _ _ _ _ _ _ _ _ _ _ _ _ _ _ _ _ _ _ _ _ _ _ true (by simp only [Bool.true_eq_false,false_iff];exact NE.out)
 rw [decide_eq_true h2] at E3
 have H2:=Lib.hid h2
 clear h2
 refine BigFrame.wpList_want (by rfl) (fun K hK=>?_)
 go_simp
 refine hK _ _ ?_
 clear hK K
 (try dsimp only [Act.put]);(try simp only [List.setIfInBounds_toArray,List.set_cons_zero,List.set_cons_succ])
 refine Row.wpList_load_g 28 _ rfl (by rfl) ⟨w.heap.size,105,none⟩ rfl ca _ CA.out Tryz.underlying28 rfl JA.out ?_
 (try dsimp only [Act.put]);(try simp only [List.setIfInBounds_toArray,List.set_cons_zero,List.set_cons_succ])
 refine BigFrame.wpList_want (by rfl) (fun K hK=>?_)
 go_simp
 refine hK _ _ ?_
 clear hK K
 (try dsimp only [Act.put]);(try simp only [List.setIfInBounds_toArray,List.set_cons_zero,List.set_cons_succ])
 refine Row.wpList_load_g 28 _ rfl (by rfl) ⟨w.heap.size+1,105,none⟩ rfl cb _ CB.out Tryz.underlying28 rfl JB.out ?_
 (try dsimp only [Act.put]);(try simp only [List.setIfInBounds_toArray,List.set_cons_zero,List.set_cons_succ])
 refine Row.wpList_neq 28 _ _ _ rfl (by rfl) ca.toArray cb.toArray rfl rfl guard8 true E3.out ?_
 simp only [Bool.not_false,Bool.not_true]
 (try dsimp only [Act.put]);(try simp only [List.setIfInBounds_toArray,List.set_cons_zero,List.set_cons_succ])
 clear CA CB JA JB E3
 refine wpList_plain rfl (fun K hK=>?_)
 go_simp
 refine hK _ _ ?_
 clear hK K
 (try dsimp only [Act.put]);(try simp only [List.setIfInBounds_toArray,List.set_cons_zero,List.set_cons_succ])
 refine wpList_plain rfl (fun K hK=>?_)
 go_simp
 refine hK _ _ ?_
 clear hK K
 (try dsimp only [Act.put]);(try simp only [List.setIfInBounds_toArray,List.set_cons_zero,List.set_cons_succ])
 by_cases h3:T.flash=U.flash
 rotate_left
 ·rw [decide_eq_false h3] at E7
  have NE:Hid (¬ Heads T U):=fun e=>h3 e.h3
  clear h3
  refine BigFrame.wpList_want (by rfl) (fun K hK=>?_)
  go_simp
  refine hK _ _ ?_
  clear hK K
  (try dsimp only [Act.put]);(try simp only [List.setIfInBounds_toArray,List.set_cons_zero,List.set_cons_succ])
  refine Row.wpList_load_g 28 _ rfl (by rfl) ⟨w.heap.size,121,none⟩ rfl fa _ FA.out Tryz.underlying28 rfl KA.out ?_
  (try dsimp only [Act.put]);(try simp only [List.setIfInBounds_toArray,List.set_cons_zero,List.set_cons_succ])
  refine BigFrame.wpList_want (by rfl) (fun K hK=>?_)
  go_simp
  refine hK _ _ ?_
  clear hK K
  (try dsimp only [Act.put]);(try simp only [List.setIfInBounds_toArray,List.set_cons_zero,List.set_cons_succ])
  refine Row.wpList_load_g 28 _ rfl (by rfl) ⟨w.heap.size+1,121,none⟩ rfl fb _ FB.out Tryz.underlying28 rfl KB.out ?_
  (try dsimp only [Act.put]);(try simp only [List.setIfInBounds_toArray,List.set_cons_zero,List.set_cons_succ])
  refine Row.wpList_neq 28 _ _ _ rfl (by rfl) fa.toArray fb.toArray rfl rfl guard8 false E7.out ?_
  simp only [Bool.not_false,Bool.not_true]
  (try dsimp only [Act.put]);(try simp only [List.setIfInBounds_toArray,List.set_cons_zero,List.set_cons_succ])
  go_wp2
  exact HQ.out _ _ _ _ _ _ _ _ _ _ _ _ _ _ _ _ _ _ _ _ _ _ _ _ _ _ _ _ _ _ _ _ _ _ _ _ _ _ _ _ _ _ _ _ _ _ _ _ _ _ _ _ _ _ true (by simp only [Bool.true_eq_false,false_iff];exact NE.out)
 rw [decide_eq_true h3] at E7
 have H3:=Lib.hid h3
 clear h3
 refine BigFrame.wpList_want (by rfl) (fun K hK=>?_)
 go_simp
 refine hK _ _ ?_
 clear hK K
 (try dsimp only [Act.put]);(try simp only [List.setIfInBounds_toArray,List.set_cons_zero,List.set_cons_succ])
 refine Row.wpList_load_g 28 _ rfl (by rfl) ⟨w.heap.size,121,none⟩ rfl fa _ FA.out Tryz.underlying28 rfl KA.out ?_
 (try dsimp only [Act.put]);(try simp only [List.setIfInBounds_toArray,List.set_cons_zero,List.set_cons_succ])
 refine BigFrame.wpList_want (by rfl) (fun K hK=>?_)
 go_simp
 refine hK _ _ ?_
 clear hK K
 (try dsimp only [Act.put]);(try simp only [List.setIfInBounds_toArray,List.set_cons_zero,List.set_cons_succ])
 refine Row.wpList_load_g 28 _ rfl (by rfl) ⟨w.heap.size+1,121,none⟩ rfl fb _ FB.out Tryz.underlying28 rfl KB.out ?_
 (try dsimp only [Act.put]);(try simp only [List.setIfInBounds_toArray,List.set_cons_zero,List.set_cons_succ])
 refine Row.wpList_neq 28 _ _ _ rfl (by rfl) fa.toArray fb.toArray rfl rfl guard8 true E7.out ?_
 simp only [Bool.not_false,Bool.not_true]
 (try dsimp only [Act.put]);(try simp only [List.setIfInBounds_toArray,List.set_cons_zero,List.set_cons_succ])
 clear FA FB KA KB E7
 refine wpList_plain rfl (fun K hK=>?_)
 go_simp
 refine hK _ _ ?_
 clear hK K
 (try dsimp only [Act.put]);(try simp only [List.setIfInBounds_toArray,List.set_cons_zero,List.set_cons_succ])
 refine wpList_plain rfl (fun K hK=>?_)
 go_simp
 refine hK _ _ ?_
 clear hK K
 (try dsimp only [Act.put]);(try simp only [List.setIfInBounds_toArray,List.set_cons_zero,List.set_cons_succ])
 clear C D L1 L2 SS
 by_cases h4:T.groups.length=U.groups.length
 rotate_left
 ·have NE:Hid (¬ Heads T U):=fun e=>h4 (e.h4)
  have hn:((T.groups.length:Int) != (U.groups.length:Int))=true:=by rw [bne_iff_ne];omega
  clear h4
  go_wp2
  exact HQ.out _ _ _ _ _ _ _ _ _ _ _ _ _ _ _ _ _ _ _ _ _ _ _ _ _ _ _ _ _ _ _ _ _ _ _ _ _ _ _ _ _ _ _ _ _ _ _ _ _ _ _ _ _ _ true (by simp only [Bool.true_eq_false,false_iff];exact NE.out)
 have hn:((T.groups.length:Int) != (U.groups.length:Int))=false:=by rw [bne_eq_false_iff_eq];omega
 have H4:=Lib.hid h4
 clear h4
 refine BigFrame.wpList_want (by rfl) (fun K hK=>?_)
 go_simp
 refine hK _ _ ?_
 clear hK K
 (try dsimp only [Act.put]);(try simp only [List.setIfInBounds_toArray,List.set_cons_zero,List.set_cons_succ])
 refine BigFrame.wpList_want (by rfl) (fun K hK=>?_)
 go_simp
 refine hK _ _ ?_
 clear hK K
 (try dsimp only [Act.put]);(try simp only [List.setIfInBounds_toArray,List.set_cons_zero,List.set_cons_succ])
 refine BigFrame.wpList_want (by rfl) (fun K hK=>?_)
 go_simp
 refine hK _ _ ?_
 clear hK K
 (try dsimp only [Act.put]);(try simp only [List.setIfInBounds_toArray,List.set_cons_zero,List.set_cons_succ])
 refine BigFrame.wpList_want (by rfl) (fun K hK=>?_)
 go_simp
 refine hK _ _ ?_
 clear hK K
 (try dsimp only [Act.put]);(try simp only [List.setIfInBounds_toArray,List.set_cons_zero,List.set_cons_succ])
 refine BigFrame.wpList_want (by rfl) (fun K hK=>?_)
 go_simp
 refine hK _ _ ?_
 clear hK K
 (try dsimp only [Act.put]);(try simp only [List.setIfInBounds_toArray,List.set_cons_zero,List.set_cons_succ])
 refine BigFrame.wpList_want (by rfl) (fun K hK=>?_)
 go_simp
 refine hK _ _ ?_
 clear hK K
 (try dsimp only [Act.put]);(try simp only [List.setIfInBounds_toArray,List.set_cons_zero,List.set_cons_succ])
 refine BigFrame.wpList_want (by rfl) (fun K hK=>?_)
 go_simp
 refine hK _ _ ?_
 clear hK K
 (try dsimp only [Act.put]);(try simp only [List.setIfInBounds_toArray,List.set_cons_zero,List.set_cons_succ])
 refine wpList_plain rfl (fun K hK=>?_)
 go_simp
 refine hK _ _ ?_
 clear hK K
 (try dsimp only [Act.put]);(try simp only [List.setIfInBounds_toArray,List.set_cons_zero,List.set_cons_succ])
 refine wpList_plain rfl (fun K hK=>?_)
 go_simp
 refine hK _ _ ?_
 clear hK K
 (try dsimp only [Act.put]);(try simp only [List.setIfInBounds_toArray,List.set_cons_zero,List.set_cons_succ])
 by_cases h5:T.dets.length=U.dets.length
 rotate_left
 ·have NE:Hid (¬ Heads T U):=fun e=>h5 (by exact e.h5)
  have hn:((T.dets.length:Int) != (U.dets.length:Int))=true:=by rw [bne_iff_ne];omega
  clear h5
  go_wp2
  exact HQ.out _ _ _ _ _ _ _ _ _ _ _ _ _ _ _ _ _ _ _ _ _ _ _ _ _ _ _ _ _ _ _ _ _ _ _ _ _ _ _ _ _ _ _ _ _ _ _ _ _ _ _ _ _ _ true (by simp only [Bool.true_eq_false,false_iff];exact NE.out)
 have hn:((T.dets.length:Int) != (U.dets.length:Int))=false:=by rw [bne_eq_false_iff_eq];omega
 have H5:=Lib.hid h5
 clear h5
 refine BigFrame.wpList_want (by rfl) (fun K hK=>?_)
 go_simp
 refine hK _ _ ?_
 clear hK K
 (try dsimp only [Act.put]);(try simp only [List.setIfInBounds_toArray,List.set_cons_zero,List.set_cons_succ])
 refine BigFrame.wpList_want (by rfl) (fun K hK=>?_)
 go_simp
 refine hK _ _ ?_
 clear hK K
 (try dsimp only [Act.put]);(try simp only [List.setIfInBounds_toArray,List.set_cons_zero,List.set_cons_succ])
 refine BigFrame.wpList_want (by rfl) (fun K hK=>?_)
 go_simp
 refine hK _ _ ?_
 clear hK K
 (try dsimp only [Act.put]);(try simp only [List.setIfInBounds_toArray,List.set_cons_zero,List.set_cons_succ])
 refine BigFrame.wpList_want (by rfl) (fun K hK=>?_)
 go_simp
 refine hK _ _ ?_
 clear hK K
 (try dsimp only [Act.put]);(try simp only [List.setIfInBounds_toArray,List.set_cons_zero,List.set_cons_succ])
 refine BigFrame.wpList_want (by rfl) (fun K hK=>?_)
 go_simp
 refine hK _ _ ?_
 clear hK K
 (try dsimp only [Act.put]);(try simp only [List.setIfInBounds_toArray,List.set_cons_zero,List.set_cons_succ])
 refine BigFrame.wpList_want (by rfl) (fun K hK=>?_)
 go_simp
 refine hK _ _ ?_
 clear hK K
 (try dsimp only [Act.put]);(try simp only [List.setIfInBounds_toArray,List.set_cons_zero,List.set_cons_succ])
 refine BigFrame.wpList_want (by rfl) (fun K hK=>?_)
 go_simp
 refine hK _ _ ?_
 clear hK K
 (try dsimp only [Act.put]);(try simp only [List.setIfInBounds_toArray,List.set_cons_zero,List.set_cons_succ])
 refine wpList_plain rfl (fun K hK=>?_)
 go_simp
 refine hK _ _ ?_
 clear hK K
 (try dsimp only [Act.put]);(try simp only [List.setIfInBounds_toArray,List.set_cons_zero,List.set_cons_succ])
 refine wpList_plain rfl (fun K hK=>?_)
 go_simp
 refine hK _ _ ?_
 clear hK K
 (try dsimp only [Act.put]);(try simp only [List.setIfInBounds_toArray,List.set_cons_zero,List.set_cons_succ])
 by_cases h6:T.rails.length=U.rails.length
 rotate_left
 ·have NE:Hid (¬ Heads T U):=fun e=>h6 (by exact e.h6)
  have hn:((T.rails.length:Int) != (U.rails.length:Int))=true:=by rw [bne_iff_ne];omega
  clear h6
  go_wp2
  exact HQ.out _ _ _ _ _ _ _ _ _ _ _ _ _ _ _ _ _ _ _ _ _ _ _ _ _ _ _ _ _ _ _ _ _ _ _ _ _ _ _ _ _ _ _ _ _ _ _ _ _ _ _ _ _ _ true (by simp only [Bool.true_eq_false,false_iff];exact NE.out)
 have hn:((T.rails.length:Int) != (U.rails.length:Int))=false:=by rw [bne_eq_false_iff_eq];omega
 have H6:=Lib.hid h6
 clear h6
 refine BigFrame.wpList_want (by rfl) (fun K hK=>?_)
 go_simp
 refine hK _ _ ?_
 clear hK K
 (try dsimp only [Act.put]);(try simp only [List.setIfInBounds_toArray,List.set_cons_zero,List.set_cons_succ])
 refine BigFrame.wpList_want (by rfl) (fun K hK=>?_)
 go_simp
 refine hK _ _ ?_
 clear hK K
 (try dsimp only [Act.put]);(try simp only [List.setIfInBounds_toArray,List.set_cons_zero,List.set_cons_succ])
 refine BigFrame.wpList_want (by rfl) (fun K hK=>?_)
 go_simp
 refine hK _ _ ?_
 clear hK K
 (try dsimp only [Act.put]);(try simp only [List.setIfInBounds_toArray,List.set_cons_zero,List.set_cons_succ])
 refine BigFrame.wpList_want (by rfl) (fun K hK=>?_)
 go_simp
 refine hK _ _ ?_
 clear hK K
 (try dsimp only [Act.put]);(try simp only [List.setIfInBounds_toArray,List.set_cons_zero,List.set_cons_succ])
 refine BigFrame.wpList_want (by rfl) (fun K hK=>?_)
 go_simp
 refine hK _ _ ?_
 clear hK K
 (try dsimp only [Act.put]);(try simp only [List.setIfInBounds_toArray,List.set_cons_zero,List.set_cons_succ])
 refine BigFrame.wpList_want (by rfl) (fun K hK=>?_)
 go_simp
 refine hK _ _ ?_
 clear hK K
 (try dsimp only [Act.put]);(try simp only [List.setIfInBounds_toArray,List.set_cons_zero,List.set_cons_succ])
 refine BigFrame.wpList_want (by rfl) (fun K hK=>?_)
 go_simp
 refine hK _ _ ?_
 clear hK K
 (try dsimp only [Act.put]);(try simp only [List.setIfInBounds_toArray,List.set_cons_zero,List.set_cons_succ])
 refine wpList_plain rfl (fun K hK=>?_)
 go_simp
 refine hK _ _ ?_
 clear hK K
 (try dsimp only [Act.put]);(try simp only [List.setIfInBounds_toArray,List.set_cons_zero,List.set_cons_succ])
 refine wpList_plain rfl (fun K hK=>?_)
 go_simp
 refine hK _ _ ?_
 clear hK K
 (try dsimp only [Act.put]);(try simp only [List.setIfInBounds_toArray,List.set_cons_zero,List.set_cons_succ])
 by_cases h7:T.buses.length=U.buses.length
 rotate_left
 ·have NE:Hid (¬ Heads T U):=fun e=>h7 (by exact e.h7)
  have hn:((T.buses.length:Int) != (U.buses.length:Int))=true:=by rw [bne_iff_ne];omega
  clear h7
  go_wp2
  exact HQ.out _ _ _ _ _ _ _ _ _ _ _ _ _ _ _ _ _ _ _ _ _ _ _ _ _ _ _ _ _ _ _ _ _ _ _ _ _ _ _ _ _ _ _ _ _ _ _ _ _ _ _ _ _ _ true (by simp only [Bool.true_eq_false,false_iff];exact NE.out)
 have hn:((T.buses.length:Int) != (U.buses.length:Int))=false:=by rw [bne_eq_false_iff_eq];omega
 have H7:=Lib.hid h7
 clear h7
 go_wp2
 exact HQ.out _ _ _ _ _ _ _ _ _ _ _ _ _ _ _ _ _ _ _ _ _ _ _ _ _ _ _ _ _ _ _ _ _ _ _ _ _ _ _ _ _ _ _ _ _ _ _ _ _ _ _ _ _ _ false (by simp only [true_iff];exact ⟨H1.out,H2.out,H3.out,H4.out,H5.out,H6.out,H7.out⟩)
end Same
namespace Same
open Go.ChangeShapes Go.WideShapes Go.ChangeAt Go.RowKit
open Tab Owned CodeAt
open May (ret_bool chain take_succ' infoP infoG infoD infoR infoB infoT row_new St)
theorem groups_rg {Q:Exit→Act→World→Prop} (w wr:World) (q n n' c c':Nat) (x y:Addr) (a0 a1 b0 b1:Option Addr) (cap0 cap1 bap0 bap1:Nat) (l0 l1 m0 m1:List Int) (hlt:q < n) (hlu:q < n') (K1:n≤c∧c≤2 ^ 63 - 1) (K2:n'≤c'∧c'≤2 ^ 63 - 1)
  (qq104:Hid (wr.cell? ⟨w.heap.size,104,none⟩=some (.slice (some x) n c))) (rr104:Hid (wr.cell? ⟨w.heap.size+1,104,none⟩=some (.slice (some y) n' c')))
  (C0:Hid (wr.cell? (x.add (q*2))=some (.slice a0 l0.length cap0)∧wr.cell? ⟨(x.add (q*2)).block,(x.add (q*2)).off+1,none⟩=some (.slice a1 l1.length cap1)))
  (D0:Hid (wr.cell? (y.add (q*2))=some (.slice b0 m0.length bap0)∧wr.cell? ⟨(y.add (q*2)).block,(y.add (q*2)).off+1,none⟩=some (.slice b1 m1.length bap1)))
  (H0:Hid (IntRow wr ⟨a0,cap0⟩ l0)) (H1:Hid (IntRow wr ⟨a1,cap1⟩ l1)) (H2:Hid (IntRow wr ⟨b0,bap0⟩ m0)) (H3:Hid (IntRow wr ⟨b1,bap1⟩ m1)) (f0 f1 f4 f6 f7 f8 f9 f10 f11 f12 f13 f14 f15 f16 f17 f18 f19 f20 f21 f22 f23 f24 f25 f26 f27 f28 f29 f30 f31 f32 f33 f34 f35 f36 f37 f38 f39 f40 f41 f42 f43 f44 f45 f46 f47 f48 f49 f50 f51 f52 f53 f54 f55 f56 f57 f58 f59 f60 f61 f62 f63 f64 f65 f66 f67 f68 f69 f70 f71 f72 f73 f74 f75 f76 f77 f78 f79 f80 f81 f82 f83 f84 f85 f86 f87 f88 f89 f90 f91 f92 f93 f94 f95 f96 f97 f98 f99 f100 f101 f102 f103 f104 f105 f106 f107 f108 f109 f110 f111 f112 f113 f114 f115 f116 f117 f118 f119 f120 f121 f122 f123 f124 f125 f126 f127 f128 f129 f130 f131 f132 f133 f134 f135 f136 f137 f138 f139 f140 f141 f142 f143 f144 f145 f146 f147 f148 f149 f150 f151 f152 f153 f154 f155 f156 f157 f158 f159 f160 f161 f162 f163 f164 f165 f166 f167 f168 f169 f170 f171 f172 f173 f174 f175 f176 f177 f178 f179 f180 f181 f182 f183 f184 f185 f186 f187 f188 f189 f190 f191 f192 f193 f194 f195 f196 f197 f198 f199 f200 f201 f202 f203 f204 f205 f206 f207 f208 f209 f210 f211 f212 f213 f214 f215 f216 f217 f218 f219 f220 f221 f222 f223 f224 f225 f226 f227 f228 f229 f230 f231 f232 f233 f234 f235 f236 f237 f238 f239 f240 f241 f242:Value)
  (HQ:Hid (∀ (x105 x106 x107 x108 x109 x110 x111 x112 x113 x114 x115 x116 x117 x118 x119 x120 x121 x122 x123 x124 x125 x126 x127 x128 x129 x130 x131 x132 x133:Value) (b:Bool) (w':World),(b=false ↔ l0=m0∧l1=m1)→Below wr.heap.size wr w'→Q .normal ⟨#[f0,f1,Value.pointer (some ⟨w.heap.size,0,none⟩),Value.pointer (some ⟨w.heap.size+1,0,none⟩),f4,Value.int .i64 (q:Int),f6,f7,f8,f9,f10,f11,f12,f13,f14,f15,f16,f17,f18,f19,f20,f21,f22,f23,f24,f25,f26,f27,f28,f29,f30,f31,f32,f33,f34,f35,f36,f37,f38,f39,f40,f41,f42,f43,f44,f45,f46,f47,f48,f49,f50,f51,f52,f53,f54,f55,f56,f57,f58,f59,f60,f61,f62,f63,f64,f65,f66,f67,f68,f69,f70,f71,f72,f73,f74,f75,f76,f77,f78,f79,f80,f81,f82,f83,f84,f85,f86,f87,f88,f89,f90,f91,f92,f93,f94,f95,f96,f97,f98,f99,f100,f101,f102,f103,f104,x105,x106,x107,x108,x109,x110,x111,x112,x113,x114,x115,x116,x117,x118,x119,x120,x121,x122,x123,x124,x125,x126,x127,x128,x129,x130,x131,x132,x133,Value.bool b,f135,f136,f137,f138,f139,f140,f141,f142,f143,f144,f145,f146,f147,f148,f149,f150,f151,f152,f153,f154,f155,f156,f157,f158,f159,f160,f161,f162,f163,f164,f165,f166,f167,f168,f169,f170,f171,f172,f173,f174,f175,f176,f177,f178,f179,f180,f181,f182,f183,f184,f185,f186,f187,f188,f189,f190,f191,f192,f193,f194,f195,f196,f197,f198,f199,f200,f201,f202,f203,f204,f205,f206,f207,f208,f209,f210,f211,f212,f213,f214,f215,f216,f217,f218,f219,f220,f221,f222,f223,f224,f225,f226,f227,f228,f229,f230,f231,f232,f233,f234,f235,f236,f237,f238,f239,f240,f241,f242],[]⟩ w')) :
  (rg 8 Tryz.f9).wp Tryz.prog Q ⟨#[f0,f1,Value.pointer (some ⟨w.heap.size,0,none⟩),Value.pointer (some ⟨w.heap.size+1,0,none⟩),f4,Value.int .i64 (q:Int),f6,f7,f8,f9,f10,f11,f12,f13,f14,f15,f16,f17,f18,f19,f20,f21,f22,f23,f24,f25,f26,f27,f28,f29,f30,f31,f32,f33,f34,f35,f36,f37,f38,f39,f40,f41,f42,f43,f44,f45,f46,f47,f48,f49,f50,f51,f52,f53,f54,f55,f56,f57,f58,f59,f60,f61,f62,f63,f64,f65,f66,f67,f68,f69,f70,f71,f72,f73,f74,f75,f76,f77,f78,f79,f80,f81,f82,f83,f84,f85,f86,f87,f88,f89,f90,f91,f92,f93,f94,f95,f96,f97,f98,f99,f100,f101,f102,f103,f104,f105,f106,f107,f108,f109,f110,f111,f112,f113,f114,f115,f116,f117,f118,f119,f120,f121,f122,f123,f124,f125,f126,f127,f128,f129,f130,f131,f132,f133,f134,f135,f136,f137,f138,f139,f140,f141,f142,f143,f144,f145,f146,f147,f148,f149,f150,f151,f152,f153,f154,f155,f156,f157,f158,f159,f160,f161,f162,f163,f164,f165,f166,f167,f168,f169,f170,f171,f172,f173,f174,f175,f176,f177,f178,f179,f180,f181,f182,f183,f184,f185,f186,f187,f188,f189,f190,f191,f192,f193,f194,f195,f196,f197,f198,f199,f200,f201,f202,f203,f204,f205,f206,f207,f208,f209,f210,f211,f212,f213,f214,f215,f216,f217,f218,f219,f220,f221,f222,f223,f224,f225,f226,f227,f228,f229,f230,f231,f232,f233,f234,f235,f236,f237,f238,f239,f240,f241,f242],[]⟩ wr:=by
 conv=>arg 2;whnf
 have lift:Hid (∀ (p:Ph.S (Row.Old wr)) (z:Addr) (c:Value),wr.cell? z=some c→p.world.cell? z=some c):=Lib.hid (fun p z c hz=>(p.is.cell (World.block_lt_of_cell? wr _ hz)).trans hz)
 have f1:=fun p:Ph.S (Row.Old wr)=>lift.out p _ _ qq104.out
 have f2:=fun p:Ph.S (Row.Old wr)=>lift.out p _ _ rr104.out
 have f3:=fun p:Ph.S (Row.Old wr)=>lift.out p _ _ C0.out.1
 have f4:=fun p:Ph.S (Row.Old wr)=>lift.out p _ _ C0.out.2
 have f5:=fun p:Ph.S (Row.Old wr)=>lift.out p _ _ D0.out.1
 have f6:=fun p:Ph.S (Row.Old wr)=>lift.out p _ _ D0.out.2
 have hne:Nonempty (Ph.S (Row.Old wr)):=⟨⟨0,wr,Below.refl _ _⟩⟩
 refine Pw.region (Row.Old wr) [] (by kernel_rfl) (by kernel_rfl) (Row.Old.drew _) ?_
 iterate 12
  (refine Pw.calm rfl (fun K hK=>?_)
   go_simp
   refine hK _ ?_
   clear hK K)
 (refine Pw.calm rfl (fun K hK=>?_)
  go_simp
  refine ⟨_,fun p=>Row.Old.call (rints_any a0 b0 cap0 bap0 l0 m0 _ (H0.out.below p.is) (H2.out.below p.is)),hK _ ?_⟩
  clear hK K)
 by_cases hd0:l0=m0
 rotate_left
 ·rw [decide_eq_false hd0]
  iterate 2
   (refine Pw.calm rfl (fun K hK=>?_)
    go_simp
    refine hK _ ?_
    clear hK K)
  refine Pw.skips 14 (by kernel_rfl) ?_
  (try simp only [List.take_succ_cons,List.take_zero,List.drop_succ_cons,List.drop_zero,Pw.undefs])
  (try dsimp only [Act.put])
  (try simp only [List.setIfInBounds_toArray,List.set_cons_zero,List.set_cons_succ])
  iterate 1
   (refine Pw.calm rfl (fun K hK=>?_)
    go_simp
    refine hK _ ?_
    clear hK K)
  refine Pw.nil ?_
  intro w3 hb3
  exact HQ.out _ _ _ _ _ _ _ _ _ _ _ _ _ _ _ _ _ _ _ _ _ _ _ _ _ _ _ _ _ true w3 (by simp only [Bool.true_eq_false,false_iff];exact fun e=>hd0 e.1) hb3
 rw [decide_eq_true hd0]
 have HD0:=Lib.hid hd0
 clear hd0
 iterate 2
  (refine Pw.calm rfl (fun K hK=>?_)
   go_simp
   refine hK _ ?_
   clear hK K)
 iterate 12
  (refine Pw.calm rfl (fun K hK=>?_)
   go_simp
   refine hK _ ?_
   clear hK K)
 (refine Pw.calm rfl (fun K hK=>?_)
  go_simp
  refine ⟨_,fun p=>Row.Old.call (rints_any a1 b1 cap1 bap1 l1 m1 _ (H1.out.below p.is) (H3.out.below p.is)),hK _ ?_⟩
  clear hK K)
 by_cases hd1:l1=m1
 ·rw [decide_eq_true hd1]
  iterate 2
   (refine Pw.calm rfl (fun K hK=>?_)
    go_simp
    refine hK _ ?_
    clear hK K)
  refine Pw.nil ?_
  intro w3 hb3
  exact HQ.out _ _ _ _ _ _ _ _ _ _ _ _ _ _ _ _ _ _ _ _ _ _ _ _ _ _ _ _ _ false w3 (by simp only [true_iff];exact ⟨HD0.out,hd1⟩) hb3
 ·rw [decide_eq_false hd1]
  iterate 2
   (refine Pw.calm rfl (fun K hK=>?_)
    go_simp
    refine hK _ ?_
    clear hK K)
  refine Pw.nil ?_
  intro w3 hb3
  exact HQ.out _ _ _ _ _ _ _ _ _ _ _ _ _ _ _ _ _ _ _ _ _ _ _ _ _ _ _ _ _ true w3 (by simp only [Bool.true_eq_false,false_iff];exact fun e=>hd1 e.2) hb3
end Same
end Go.Proofs.YtjdeemmaaiecnaaGreat
