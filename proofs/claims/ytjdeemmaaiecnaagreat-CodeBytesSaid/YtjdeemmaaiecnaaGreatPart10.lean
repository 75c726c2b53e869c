/- 11 texts in one file, in build order. -/
import Derived.Test.YtjdeemmaaiecnaaGreatRows
import Derived.Test.YtjdeemmaaiecnaaGreatPart09
import Derived.Test.YtjdeemmaaiecnaaGreatPart05
import Derived.Test.YtjdeemmaaiecnaaGreatPart04
import Derived.StillTailTactics
import Derived.Test.YtjdeemmaaiecnaaGreatPart01
import Derived.Test.YtjdeemmaaiecnaaGreatPart02
import Derived.LoopTactic
import Derived.BigQuiet
import Derived.Test.YtjdeemmaaiecnaaGreatPart07
import Derived.WalkKit
import Derived.Test.YtjdeemmaaiecnaaGreatPart03
import Derived.Deep.Cut
set_option linter.unusedVariables false
set_option linter.unusedSimpArgs false
set_option linter.unusedSectionVars false
set_option maxHeartbeats 8000000
set_option maxRecDepth 100000
namespace Go.Proofs.YtjdeemmaaiecnaaGreat
namespace Dp
open Go Go.RowKit Go.ChangeShapes
open Tab Po
open Rd (Rd But)
open Nm (St)
open Put (lim)
open Rr (decR headR EndsDec results_two)
open CrcM (crc)
open Clone (zTab zHd)
theorem head3 {b0 b1 b2:Nat} {r:List Nat} (h0:b0 < 256) (h1:b1 < 256) (h2:b2 < 256):headR (b0 :: b1 :: b2 :: r)=if b0=88∧b1=66∧b2=1 then .ok 3 else .error (3,0):=by
 have hv:Nx.val (b0 :: b1 :: b2 :: r) 0 3=256*(256*b0+b1)+b2:=by unfold Nx.val Nx.be;simp
 unfold headR
 rw [By.rp_num (0:Nat) 3 16777215 0 (by decide),show lim 3 7=3 by decide,if_neg (by simp),hv,if_neg (by omega)]
 simp only
 by_cases hc:b0=88∧b1=66∧b2=1
 ·obtain ⟨rfl,rfl,rfl⟩:=hc
  rfl
 ·rw [if_neg hc,if_neg (by omega)]
theorem built_fault (x y:Int):Tryz.prog.built 36 [(0,I x),(1,I y)]=some #[I x,I y]:=by kernel_rfl
theorem built_f0:Tryz.prog.built 36 []=some #[I 0,I 0]:=by kernel_rfl
theorem wrap_small {n:Nat} (h:n < 65536):IntKind.i64.wrap (n:Int)=n:=by rw [IntKind.wrap_i64];omega
theorem crc_take (y:Addr) (cap:Nat) (bs:List Nat) (n:Nat) (W:World) (hr:Go.Proofs.YtjdeemmaaiecnaaGreat.B.Row W (some y) bs) (hn:n≤bs.length):Calls Tryz.prog 26 #[.int .u16 65535,.slice (some y) n cap] W fun e w'=>e=.returned (.int .u16 ((crc 65535 (bs.take n):Nat):Int))∧W=w':=by
 have hr2:Go.Proofs.YtjdeemmaaiecnaaGreat.Crc.Row W (some y) (bs.take n):=Go.Proofs.YtjdeemmaaiecnaaGreat.B.row_take hr n
 have hl:(bs.take n).length=n:=by rw [List.length_take];omega
 obtain ⟨l,hl2⟩:∃ l,bs.take n=l:=⟨_,rfl⟩
 rw [hl2] at hr2 hl ⊢
 subst hl
 have:=Crc.ref_any 65535 (by decide) (some y) cap l W hr2
 exact this
theorem head_short {bs:List Nat} (h:bs.length < 3):headR bs=.error (2,(bs.length:Int)):=by
 unfold headR
 rw [By.rp_num (0:Nat) 3 16777215 0 (by decide),show lim 3 7=3 by decide,if_pos (by omega)]
theorem rdec_is (bs:List Nat) (ad:Option Addr) (cap:Nat) (w:World) (hrow:Go.Proofs.YtjdeemmaaiecnaaGreat.B.Row w ad bs) (hlen:bs.length≤10000) (hcap:bs.length≤cap) :
  Calls Tryz.prog 7 #[.slice ad bs.length cap] w (EndsDec (decR bs) w):=by
 have hz:=(zero_of_info Clone.info31).1
 obtain ⟨res,hres⟩:∃ r,decR bs=r:=⟨_,rfl⟩
 rw [hres]
 have HRES:=Lib.hid hres
 clear hres
 have ZS:(zTab.cells zHd).toArray.size=131:=(cells_ok (Clone.z_is w)).size
 have zo:=(cells_ok (Clone.z_is w)).one
 have zi:(Tryz.prog.info? 33).map (·.size)=some (zTab.cells zHd).toArray.size:=by rw [ZS];exact May.infoT
 obtain ⟨Z,hZ⟩:∃ Z,(zTab.cells zHd).toArray=Z:=⟨_,rfl⟩
 have bz:=Rr.builtZ
 rw [hZ] at hz zo zi ZS bz
 have EZ:=Lib.hid hZ
 have ZI:=Lib.hid zi
 have ZO:=Lib.hid zo
 have EZS:=Lib.hid ZS
 have BZ:=Lib.hid bz
 clear hZ zi zo ZS bz
 have HROW:=Lib.hid hrow
 have HLEN:=Lib.hid hlen
 have HCAP:=Lib.hid hcap
 have hb0:=((Below.refl w.heap.size w).alloc (Nat.le_refl _) (.cells Z 33)).alloc (by simp) (.cells #[I 0,I 0] 36)
 have ha0:=heap_alloc2_old w (.cells Z 33) (.cells #[I 0,I 0] 36)
 have ha1:=heap_alloc2_new w (.cells Z 33) (.cells #[I 0,I 0] 36)
 have hsz:((w.alloc (.cells Z 33)).alloc (.cells #[I 0,I 0] 36)).heap.size=w.heap.size+2:=by simp
 clear hrow hlen hcap
 obtain ⟨len,hln⟩:∃ n,bs.length=n:=⟨_,rfl⟩
 rw [hln]
 have HLN:=Lib.hid hln
 clear hln
 go_enter Tryz.func7,Tryz.ntmps7
 go_upto_region 1 with fail
 generalize World.alloc (World.alloc w _) _=v at hb0 ha0 ha1 hsz ⊢
 have HB:=Lib.hid hb0
 have HZ:=Lib.hid ha0
 have HF:=Lib.hid ha1
 have hfz:w.heap.size+1 < v.heap.size:=by omega
 clear hb0 ha0 ha1
 generalize hfe:w.heap.size+1=fz at HF hfz ⊢
 generalize hge:w.heap.size=gz at HZ ⊢
 by_cases hbig:2048 < len
 ·have hbd:decide (2048 < (len:Int))=true:=decide_eq_true (by omega)
  have e2:res=.error (1,0):=by
   rw [← HRES.out]
   unfold decR
   rw [if_pos (by rw [HLN.out];exact hbig)]
  have hF1:(v.setRow gz Z).heap[fz]?=some (.cells #[I 0,I 0] 36 (0,0)):=by rw [setRow_other _ _ _ _ (by omega)];exact HF.out
  have HF1:=Lib.hid hF1
  clear hF1
  go_wp2_with (first | (refine Rr.wpList_build0 rfl 33 rfl Z BZ.out ?_) | (refine wpList_store_row rfl 33 _ _ rfl gz Z rfl rfl 33 _ HZ.out ZI.out rfl ZO.out ?_) | (refine wpList_store_row rfl 36 _ _ rfl fz #[I (1),I (0)] rfl rfl 36 _ HF1.out infoF rfl (by simp [Value.oneCell']) ?_))
  have hF2:=setRow_heap _ fz _ #[I (1),I (0)] _ _ HF1.out
  have hZ2:((v.setRow gz Z).setRow fz #[I (1),I (0)]).heap[gz]?=some (.cells Z 33 (0,0)):=by rw [setRow_other _ _ _ _ (by omega)];exact setRow_heap _ _ _ _ _ _ HZ.out
  have hb2:Below w.heap.size w ((v.setRow gz Z).setRow fz #[I (1),I (0)]):=below_setRow (below_setRow HB.out (by omega) _) (by omega) _
  generalize (v.setRow gz Z).setRow fz #[I (1),I (0)]=ue at hF2 hZ2 hb2 ⊢
  have HF2:=Lib.hid hF2
  have HZ2:=Lib.hid hZ2
  have HB2:=Lib.hid hb2
  clear hF2 hZ2 hb2
  (try go_wp2_with fail)
  (try simp only [Exit.inBlock,Exit.then])
  refine bodyPost_ret (v:=.tuple #[.agg Z,.agg #[I (1),I (0)]]) ?_ rfl ⟨HB2.out,?_⟩
  ·exact results_two rfl _ _ gz fz 33 36 Z #[I (1),I (0)] _ _ rfl rfl HZ2.out HF2.out Tryz.underlying33 rfl ZI.out Tryz.underlying36 rfl infoF
  (try rw [e2])
  rw [← EZ.out]
 have HBIG:Hid (¬ 2048 < bs.length):=Lib.hid (by rw [HLN.out];exact hbig)
 have hbd:decide (2048 < (len:Int))=false:=decide_eq_false (by omega)
 by_cases h3:len < 3
 ·have hd3:decide ((len:Int) < 3)=true:=decide_eq_true (by omega)
  have e2:res=.error (2,len):=by
   rw [← HRES.out]
   unfold decR
   rw [if_neg HBIG.out,head_short (by rw [HLN.out];exact h3),HLN.out]
   rfl
  have hF1:(v.setRow gz Z).heap[fz]?=some (.cells #[I 0,I 0] 36 (0,0)):=by rw [setRow_other _ _ _ _ (by omega)];exact HF.out
  have HF1:=Lib.hid hF1
  clear hF1
  go_wp2_with (first | (refine Rr.wpList_build0 rfl 33 rfl Z BZ.out ?_) | (refine wpList_store_row rfl 33 _ _ rfl gz Z rfl rfl 33 _ HZ.out ZI.out rfl ZO.out ?_) | (refine wpList_store_row rfl 36 _ _ rfl fz #[I (2),I (len)] rfl rfl 36 _ HF1.out infoF rfl (by simp [Value.oneCell']) ?_))
  have hF2:=setRow_heap _ fz _ #[I (2),I (len)] _ _ HF1.out
  have hZ2:((v.setRow gz Z).setRow fz #[I (2),I (len)]).heap[gz]?=some (.cells Z 33 (0,0)):=by rw [setRow_other _ _ _ _ (by omega)];exact setRow_heap _ _ _ _ _ _ HZ.out
  have hb2:Below w.heap.size w ((v.setRow gz Z).setRow fz #[I (2),I (len)]):=below_setRow (below_setRow HB.out (by omega) _) (by omega) _
  generalize (v.setRow gz Z).setRow fz #[I (2),I (len)]=ue at hF2 hZ2 hb2 ⊢
  have HF2:=Lib.hid hF2
  have HZ2:=Lib.hid hZ2
  have HB2:=Lib.hid hb2
  clear hF2 hZ2 hb2
  (try go_wp2_with fail)
  (try simp only [Exit.inBlock,Exit.then])
  refine bodyPost_ret (v:=.tuple #[.agg Z,.agg #[I (2),I (len)]]) ?_ rfl ⟨HB2.out,?_⟩
  ·exact results_two rfl _ _ gz fz 33 36 Z #[I (2),I (len)] _ _ rfl rfl HZ2.out HF2.out Tryz.underlying33 rfl ZI.out Tryz.underlying36 rfl infoF
  (try rw [e2])
  rw [← EZ.out]
 have hd3:decide ((len:Int) < 3)=false:=decide_eq_false (by omega)
 obtain ⟨b0,b1,b2,rest,hbs⟩:∃ b0 b1 b2 rest,bs=b0 :: b1 :: b2 :: rest:=by
  have h4:3≤bs.length:=by rw [HLN.out];omega
  match bs,h4 with
  | b0 :: b1 :: b2 :: rest,_=>exact ⟨b0,b1,b2,rest,rfl⟩
 have hbl:=HROW.out.2.1
 rw [hbs] at hbl
 have l0:b0 < 256:=hbl b0 (by simp)
 have l1:b1 < 256:=hbl b1 (by simp)
 have l2:b2 < 256:=hbl b2 (by simp)
 have HH:Hid (headR bs=if b0=88∧b1=66∧b2=1 then .ok 3 else .error (3,0)):=Lib.hid (by rw [hbs];exact head3 l0 l1 l2)
 obtain ⟨y,hy,hcl⟩:=(HROW.out.below HB.out).cells (k:=0) (by rw [HLN.out];omega)
 subst hy
 have c0:=hcl 0 (by rw [HLN.out];omega)
 have c1:=hcl 1 (by rw [HLN.out];omega)
 have c2:=hcl 2 (by rw [HLN.out];omega)
 rw [hbs] at c0 c1 c2
 simp only [List.getD_cons_zero,List.getD_cons_succ] at c0 c1 c2
 rw [Tab.add_zero] at c0
 replace c1:v.cell? { block:=y.block,off:=y.off+1,spot:=none }=some (.int .u8 (b1:Int)):=c1
 replace c2:v.cell? { block:=y.block,off:=y.off+2,spot:=none }=some (.int .u8 (b2:Int)):=c2
 clear hcl hbl hbs
 have i0:0 < len:=by omega
 have i1:1 < len:=by omega
 have i2:2 < len:=by omega
 by_cases q0:b0=88
 rotate_left
 ·have n0:((b0:Int) == 88)=false:=by rw [beq_eq_false_iff_ne];omega
  have n0b:((b0:Int) != 88)=true:=by rw [bne_iff_ne];omega
  have e2:res=.error (3,0):=by
   rw [← HRES.out]
   unfold decR
   rw [if_neg HBIG.out,HH.out,if_neg (fun h=>q0 h.1)]
   rfl
  have hF1:(v.setRow gz Z).heap[fz]?=some (.cells #[I 0,I 0] 36 (0,0)):=by rw [setRow_other _ _ _ _ (by omega)];exact HF.out
  have HF1:=Lib.hid hF1
  clear hF1
  go_wp2_with (first | (refine Rr.wpList_build0 rfl 33 rfl Z BZ.out ?_) | (refine wpList_store_row rfl 33 _ _ rfl gz Z rfl rfl 33 _ HZ.out ZI.out rfl ZO.out ?_) | (refine wpList_store_row rfl 36 _ _ rfl fz #[I (3),I (0)] rfl rfl 36 _ HF1.out infoF rfl (by simp [Value.oneCell']) ?_))
  have hF2:=setRow_heap _ fz _ #[I (3),I (0)] _ _ HF1.out
  have hZ2:((v.setRow gz Z).setRow fz #[I (3),I (0)]).heap[gz]?=some (.cells Z 33 (0,0)):=by rw [setRow_other _ _ _ _ (by omega)];exact setRow_heap _ _ _ _ _ _ HZ.out
  have hb2:Below w.heap.size w ((v.setRow gz Z).setRow fz #[I (3),I (0)]):=below_setRow (below_setRow HB.out (by omega) _) (by omega) _
  generalize (v.setRow gz Z).setRow fz #[I (3),I (0)]=ue at hF2 hZ2 hb2 ⊢
  have HF2:=Lib.hid hF2
  have HZ2:=Lib.hid hZ2
  have HB2:=Lib.hid hb2
  clear hF2 hZ2 hb2
  (try go_wp2_with fail)
  (try simp only [Exit.inBlock,Exit.then])
  refine bodyPost_ret (v:=.tuple #[.agg Z,.agg #[I (3),I (0)]]) ?_ rfl ⟨HB2.out,?_⟩
  ·exact results_two rfl _ _ gz fz 33 36 Z #[I (3),I (0)] _ _ rfl rfl HZ2.out HF2.out Tryz.underlying33 rfl ZI.out Tryz.underlying36 rfl infoF
  (try rw [e2])
  rw [← EZ.out]
 by_cases q1:b1=66
 rotate_left
 ·subst q0
  have n1b:((b1:Int) != 66)=true:=by rw [bne_iff_ne];omega
  have e2:res=.error (3,0):=by
   rw [← HRES.out]
   unfold decR
   rw [if_neg HBIG.out,HH.out,if_neg (fun h=>q1 h.2.1)]
   rfl
  have hF1:(v.setRow gz Z).heap[fz]?=some (.cells #[I 0,I 0] 36 (0,0)):=by rw [setRow_other _ _ _ _ (by omega)];exact HF.out
  have HF1:=Lib.hid hF1
  clear hF1
  go_wp2_with (first | (refine Rr.wpList_build0 rfl 33 rfl Z BZ.out ?_) | (refine wpList_store_row rfl 33 _ _ rfl gz Z rfl rfl 33 _ HZ.out ZI.out rfl ZO.out ?_) | (refine wpList_store_row rfl 36 _ _ rfl fz #[I (3),I (0)] rfl rfl 36 _ HF1.out infoF rfl (by simp [Value.oneCell']) ?_))
  have hF2:=setRow_heap _ fz _ #[I (3),I (0)] _ _ HF1.out
  have hZ2:((v.setRow gz Z).setRow fz #[I (3),I (0)]).heap[gz]?=some (.cells Z 33 (0,0)):=by rw [setRow_other _ _ _ _ (by omega)];exact setRow_heap _ _ _ _ _ _ HZ.out
  have hb2:Below w.heap.size w ((v.setRow gz Z).setRow fz #[I (3),I (0)]):=below_setRow (below_setRow HB.out (by omega) _) (by omega) _
  generalize (v.setRow gz Z).setRow fz #[I (3),I (0)]=ue at hF2 hZ2 hb2 ⊢
  have HF2:=Lib.hid hF2
  have HZ2:=Lib.hid hZ2
  have HB2:=Lib.hid hb2
  clear hF2 hZ2 hb2
  (try go_wp2_with fail)
  (try simp only [Exit.inBlock,Exit.then])
  refine bodyPost_ret (v:=.tuple #[.agg Z,.agg #[I (3),I (0)]]) ?_ rfl ⟨HB2.out,?_⟩
  ·exact results_two rfl _ _ gz fz 33 36 Z #[I (3),I (0)] _ _ rfl rfl HZ2.out HF2.out Tryz.underlying33 rfl ZI.out Tryz.underlying36 rfl infoF
  (try rw [e2])
  rw [← EZ.out]
 by_cases q2:b2=1
 rotate_left
 ·subst q0 q1
  have n2b:((b2:Int) != 1)=true:=by rw [bne_iff_ne];omega
  have e2:res=.error (3,0):=by
   rw [← HRES.out]
   unfold decR
   rw [if_neg HBIG.out,HH.out,if_neg (fun h=>q2 h.2.2)]
   rfl
  have hF1:(v.setRow gz Z).heap[fz]?=some (.cells #[I 0,I 0] 36 (0,0)):=by rw [setRow_other _ _ _ _ (by omega)];exact HF.out
  have HF1:=Lib.hid hF1
  clear hF1
  go_wp2_with (first | (refine Rr.wpList_build0 rfl 33 rfl Z BZ.out ?_) | (refine wpList_store_row rfl 33 _ _ rfl gz Z rfl rfl 33 _ HZ.out ZI.out rfl ZO.out ?_) | (refine wpList_store_row rfl 36 _ _ rfl fz #[I (3),I (0)] rfl rfl 36 _ HF1.out infoF rfl (by simp [Value.oneCell']) ?_))
  have hF2:=setRow_heap _ fz _ #[I (3),I (0)] _ _ HF1.out
  have hZ2:((v.setRow gz Z).setRow fz #[I (3),I (0)]).heap[gz]?=some (.cells Z 33 (0,0)):=by rw [setRow_other _ _ _ _ (by omega)];exact setRow_heap _ _ _ _ _ _ HZ.out
  have hb2:Below w.heap.size w ((v.setRow gz Z).setRow fz #[I (3),I (0)]):=below_setRow (below_setRow HB.out (by omega) _) (by omega) _
  generalize (v.setRow gz Z).setRow fz #[I (3),I (0)]=ue at hF2 hZ2 hb2 ⊢
  have HF2:=Lib.hid hF2
  have HZ2:=Lib.hid hZ2
  have HB2:=Lib.hid hb2
  clear hF2 hZ2 hb2
  (try go_wp2_with fail)
  (try simp only [Exit.inBlock,Exit.then])
  refine bodyPost_ret (v:=.tuple #[.agg Z,.agg #[I (3),I (0)]]) ?_ rfl ⟨HB2.out,?_⟩
  ·exact results_two rfl _ _ gz fz 33 36 Z #[I (3),I (0)] _ _ rfl rfl HZ2.out HF2.out Tryz.underlying33 rfl ZI.out Tryz.underlying36 rfl infoF
  (try rw [e2])
  rw [← EZ.out]
 subst q0 q1 q2
 have H3:Hid (headR bs=.ok 3):=Lib.hid (by rw [HH.out];rfl)
 clear HH
 have hyb:y.block < v.heap.size:=by
  by_cases hh:y.block < v.heap.size
  ·exact hh
  ·exfalso
   unfold World.cell? at c0
   rw [Array.getElem?_eq_none (by omega)] at c0
   cases c0
 obtain ⟨g,hgg⟩:∃ g,v.heap.size=g:=⟨_,rfl⟩
 have HGZ:Hid (g=gz+2):=Lib.hid (by omega)
 rw [hgg] at hyb hfz
 clear hsz
 go_upto_region 8 with fail
 have hb3:=(Below.refl v.heap.size v).alloc (Nat.le_refl _) (.cells #[.slice (some y) len cap,I 3,I 0,I 0] 61)
 have hg3:=heap_alloc_new v (.cells #[.slice (some y) len cap,I 3,I 0,I 0] 61)
 have hs3:(v.alloc (.cells #[.slice (some y) len cap,I 3,I 0,I 0] 61)).heap.size=v.heap.size+1:=by simp
 have hrow3:=(HROW.out.below HB.out).below hb3
 generalize World.alloc v _=v1 at hb3 hg3 hs3 hrow3 ⊢
 have HB3:Hid (Below v.heap.size v v1):=Lib.hid hb3
 rw [hgg] at hg3 hs3
 have HD:Hid (Ds (g+1) g (some y) cap bs ⟨3,0,0⟩ v1):=Lib.hid ⟨⟨by omega,hrow3,fun _ x hx e=>by cases hx;omega,by rw [cell_of_row _ _ _ _ _ _ hg3,HLN.out];rfl,by rw [cell_of_row _ _ _ _ _ _ hg3];rfl,by rw [cell_of_row _ _ _ _ _ _ hg3];rfl,by rw [cell_of_row _ _ _ _ _ _ hg3];rfl,fun i=>frozen_of_row _ _ _ _ _ hg3,HCAP.out⟩,⟨by rw [HLN.out];show 3≤len;omega,fun _=>rfl⟩,HLEN.out,fun _ x hx=>by cases hx;omega,by omega,by omega⟩
 clear hb3 hg3 hrow3 c0 c1 c2
 have CP:=Lib.hid (parts_d (⟨3,0,0⟩:St) v1 HD.out HROW.out.2.1)
 go_wp2_with fail
 refine CP.out.mono ?_
 clear CP
 rintro e v2 ⟨x,t,hd,hp,rfl,hT,hD2,hbut2,hkt⟩
 have HKT:=Lib.hid hkt
 clear hkt
 have HP:=Lib.hid hp
 have HD2:=Lib.hid hD2
 have HBU2:=Lib.hid hbut2
 have HT2:=Lib.hid hT
 clear hp hD2 hbut2 hT HD
 have cs2:((tabOf x).cells hd).toArray.size=131:=(cells_ok HT2.out).size
 have co2:=(cells_ok HT2.out).one
 have ci2:(Tryz.prog.info? 33).map (·.size)=some ((tabOf x).cells hd).toArray.size:=by rw [cs2];exact May.infoT
 obtain ⟨C,hC⟩:∃ C,((tabOf x).cells hd).toArray=C:=⟨_,rfl⟩
 rw [hC] at cs2 co2 ci2 ⊢
 have EC:=Lib.hid hC
 have CS:=Lib.hid cs2
 have CO:=Lib.hid co2
 have CI:=Lib.hid ci2
 clear hC cs2 co2 ci2
 go_upto_region 9 with (refine Row.wpList_store_new rfl 33 _ _ rfl v2 _ C rfl rfl rfl CI.out (by rw [EZS.out,CS.out]) CO.out ?_)
 have hb4:=(Below.refl v2.heap.size v2).alloc (Nat.le_refl _) (.cells C 33)
 have ht4:=heap_alloc_new v2 (.cells C 33)
 have hD4:=HD2.out.mem hb4
 have hT4:=HT2.out.below hb4
 have hlt4:g < v2.heap.size:=by have:=HD2.out.bl;omega
 generalize World.alloc v2 _=v3 at hb4 ht4 hD4 hT4 ⊢
 have HB4:=Lib.hid hb4
 obtain ⟨tb,htb⟩:∃ b,v2.heap.size=b:=⟨_,rfl⟩
 rw [htb] at ht4 hlt4 ⊢
 have HT4:=Lib.hid ht4
 have HD4:=Lib.hid hD4
 have HI4:=Lib.hid hT4
 have HTB:=Lib.hid htb
 clear hb4 ht4 hD4 hT4 HD2 HT2 htb
 have k1:=HD4.out.rd.c1
 obtain ⟨s1,hs1⟩:∃ n,t.k=n:=⟨_,rfl⟩
 rw [hs1] at k1
 have HS1:=Lib.hid hs1
 clear hs1
 have HK1:Hid (s1≤bs.length):=Lib.hid (by rw [← HS1.out];exact HD4.out.good.1)
 go_upto_region 10 with fail
 clear k1
 have CN:=Lib.hid (num_d t 2 65535 v3 HD4.out)
 rw [show lim 2 7=2 by decide] at CN
 obtain ⟨r,hr⟩:∃ r,Nm.num bs t 2 0 65535=r:=⟨_,rfl⟩
 rw [hr] at CN
 have HR:=Lib.hid hr
 clear hr
 obtain ⟨sv,s3⟩:=r
 go_wp2_with fail
 refine CN.out.mono ?_
 clear CN
 rintro e v4 ⟨rfl,hD5,hbut5⟩
 have HD5:=Lib.hid hD5
 have HBU5:=Lib.hid hbut5
 clear hD5 hbut5 HD4
 have CK:=Lib.hid (Rf.ok_any g (some y) cap bs s3.k s3.code s3.fat v4 HD5.out.rd)
 go_wp2_with fail
 refine CK.out.mono ?_
 clear CK
 rintro e v5 ⟨rfl,rfl⟩
 have HT5:Hid (v4.heap[tb]?=some (.cells C 33 (0,0))):=Lib.hid ((HBU5.out.block tb (Array.getElem?_eq_some_iff.1 HT4.out).1 (by omega)).trans HT4.out)
 have HALL:Hid (tailD bs x t=decR bs):=Lib.hid (tail_is H3.out HBIG.out HP.out)
 have HKEEP:Hid (∀ k,k < g→v4.heap[k]?=v.heap[k]?):=Lib.hid (fun k hk=>by
  have h1:=HB3.out.block k (by omega)
  have h2:=HBU2.out.block k (by have:=HB3.out.size;omega) (by omega)
  have h3:=HB4.out.block k (by have:=HB3.out.size;have:=HBU2.out.size;omega)
  have h4:=HBU5.out.block k (by have:=HB3.out.size;have:=HBU2.out.size;have:=HB4.out.size;omega) (by omega)
  exact h4.trans (h3.trans (h2.trans h1)))
 have HZ5:Hid (v4.heap[gz]?=some (.cells Z 33 (0,0))):=Lib.hid ((HKEEP.out gz (by have:=HGZ.out;omega)).trans HZ.out)
 have HF5:Hid (v4.heap[fz]?=some (.cells #[I 0,I 0] 36 (0,0))):=Lib.hid ((HKEEP.out fz (by omega)).trans HF.out)
 have HBE:Hid (Below w.heap.size w v4):=Lib.hid (by
  have s1:=HB.out.size
  have s2:=HB3.out.size
  have s3:=HBU2.out.size
  have s4:=HB4.out.size
  exact (((HB.out.trans (HB3.out.mono s1)).trans (HBU2.out.below (by omega) (by omega))).trans (HB4.out.mono (by omega))).trans (HBU5.out.below (by omega) (by omega)))
 have LG:Hid (∀ w',w'.heap[g]?=v4.heap[g]?→w'.cell? ⟨g,1,none⟩=some (I (s3.k:Int))∧Lies w' ⟨g,2,none⟩ [I s3.code,I s3.fat]):=Lib.hid (fun w' hw=>by
  have c1:=(World.cell?_of_block (w:=v4) (a:=⟨g,1,none⟩) hw).trans HD5.out.rd.c1
  have c2:=(World.cell?_of_block (w:=v4) (a:=⟨g,2,none⟩) hw).trans HD5.out.rd.c2
  have c3:=(World.cell?_of_block (w:=v4) (a:=⟨g,3,none⟩) hw).trans HD5.out.rd.c3
  refine ⟨c1,fun j v hv=>?_⟩
  match j,hv with
  | 0,hv=>rw [Tab.add_zero];simp only [List.getElem?_cons_zero] at hv;rw [← hv];exact c2
  | 1,hv=>simp only [List.getElem?_cons_succ,List.getElem?_cons_zero] at hv;rw [← hv];exact c3
  | j+2,hv=>simp at hv)
 have NE:Hid (g ≠ gz∧g ≠ fz∧gz ≠ fz):=Lib.hid ⟨by omega,by omega,by omega⟩
 by_cases hcode:s3.code=0
 rotate_left
 ·have hcd:decide (s3.code=0)=false:=decide_eq_false hcode
  go_upto_region 12 with fail
  have D0:Hid (Below w.heap.size w { v4 with drawn:=v4.drawn+1 }):=Lib.hid HBE.out.drew
  have D1:Hid (({ v4 with drawn:=v4.drawn+1 }:World).heap[gz]?=some (.cells Z 33 (0,0))):=Lib.hid HZ5.out
  have D2:Hid (({ v4 with drawn:=v4.drawn+1 }:World).heap[fz]?=some (.cells #[I 0,I 0] 36 (0,0))):=Lib.hid HF5.out
  refine wp_region_held (S:=fun v=>v.heap[g]?=v4.heap[g]?) (by kernel_rfl) ?_
  have hS:({ v4 with drawn:=v4.drawn+1 }:World).heap[g]?=v4.heap[g]?:=rfl
  generalize ({ v4 with drawn:=v4.drawn+1 }:World)=vd at hS D0 D1 D2 ⊢
  refine Held.take_build (i:=0) (some 52) rfl 33 #[] Z rfl rfl (by kernel_rfl) (by kernel_rfl) (by kernel_rfl) (fun _ _ _ h=>h) (by rfl) hS (by simpa using BZ.out) ?_
  (try dsimp only [Act.put]);(try simp only [List.setIfInBounds_toArray,List.set_cons_zero,List.set_cons_succ])
  refine Held.take (i:=1) (some 53) rfl (v:=?_) rfl (by kernel_rfl) (by kernel_rfl) (by kernel_rfl) (fun _ _ _ h=>h) (Or.inl ⟨by rfl,?_⟩) hS ?_
  rotate_left
  ·intro w' hw'
   go_simp
   try with_reducible rfl
  (try dsimp only [Act.put]);(try simp only [List.setIfInBounds_toArray,List.set_cons_zero,List.set_cons_succ])
  refine Held.take (i:=2) (some 54) rfl (v:=?_) rfl (by kernel_rfl) (by kernel_rfl) (by kernel_rfl) (fun _ _ _ h=>h) (Or.inl ⟨by rfl,?_⟩) hS ?_
  rotate_left
  ·intro w' hw'
   go_simp
   try with_reducible rfl
  (try dsimp only [Act.put]);(try simp only [List.setIfInBounds_toArray,List.set_cons_zero,List.set_cons_succ])
  refine Held.take (i:=3) (some 55) rfl (v:=?_) rfl (by kernel_rfl) (by kernel_rfl) (by kernel_rfl) (fun _ _ _ h=>h) (Or.inl ⟨by rfl,?_⟩) hS ?_
  rotate_left
  ·intro w' hw'
   go_simp
   try with_reducible rfl
  (try dsimp only [Act.put]);(try simp only [List.setIfInBounds_toArray,List.set_cons_zero,List.set_cons_succ])
  refine Held.take_load (i:=4) (some 56) rfl 36 (.tmp 55) ⟨g,2,none⟩ [I s3.code,I s3.fat] _ rfl rfl (by kernel_rfl) (by kernel_rfl) (by kernel_rfl) (fun _ _ _ h=>h) (by rfl) hS rfl (fun w' hw'=>(LG.out w' hw').2) Tryz.underlying36 rfl infoF ?_
  (try dsimp only [Act.put]);(try simp only [List.setIfInBounds_toArray,List.set_cons_zero,List.set_cons_succ])
  refine wpAnyH_ready (rs:=[5]) (by kernel_rfl) (by simp) (AllReadyH.cons rfl (fun K hK=>?_) AllReadyH.nil)
  rw [if_pos (by rfl)]
  refine wp_store_row 33 _ _ rfl gz Z rfl rfl 33 _ D1.out ZI.out rfl ZO.out ?_
  have hS2:(vd.setRow gz Z).heap[g]?=v4.heap[g]?:=(setRow_other _ _ _ _ NE.out.1).trans hS
  have E0:Hid (Below w.heap.size w (vd.setRow gz Z)):=Lib.hid (below_setRow D0.out (by omega) Z)
  have E1:=Lib.hid (setRow_heap vd gz _ Z _ _ D1.out)
  have E2:Hid ((vd.setRow gz Z).heap[fz]?=some (.cells #[I 0,I 0] 36 (0,0))):=Lib.hid ((setRow_other _ _ _ _ (Ne.symm NE.out.2.2)).trans D2.out)
  generalize vd.setRow gz Z=ve at hS2 E0 E1 E2 ⊢
  refine hK.out _ _ hS2 (fun hS=>?_)
  clear hK K hS2 D0 D1 D2
  (try dsimp only [Act.put]);(try simp only [List.setIfInBounds_toArray,List.set_cons_zero,List.set_cons_succ])
  refine wpAnyH_ready (rs:=[6]) (by kernel_rfl) (by simp) (AllReadyH.cons rfl (fun K hK=>?_) AllReadyH.nil)
  rw [if_pos (by rfl)]
  refine wp_store_row 36 _ _ rfl fz #[I (s3.code),I (s3.fat)] rfl rfl 36 _ E2.out infoF rfl (by simp [Value.oneCell']) ?_
  have hS3:(ve.setRow fz #[I (s3.code),I (s3.fat)]).heap[g]?=v4.heap[g]?:=(setRow_other _ _ _ _ NE.out.2.1).trans hS
  have F0:Hid (Below w.heap.size w (ve.setRow fz #[I (s3.code),I (s3.fat)])):=Lib.hid (below_setRow E0.out (by omega) #[I (s3.code),I (s3.fat)])
  have F2:=Lib.hid (setRow_heap ve fz _ #[I (s3.code),I (s3.fat)] _ _ E2.out)
  have F1:Hid ((ve.setRow fz #[I (s3.code),I (s3.fat)]).heap[gz]?=some (.cells Z 33 (0,0))):=Lib.hid ((setRow_other _ _ _ _ NE.out.2.2).trans E1.out)
  generalize ve.setRow fz #[I (s3.code),I (s3.fat)]=vf at hS3 F0 F1 F2 ⊢
  refine hK.out _ _ hS3 (fun hS=>?_)
  clear hK K hS3 E0 E1 E2
  refine wpAnyH_done (by kernel_rfl) ?_ _
  clear hS
  (try simp only [List.getElem_toArray,List.getElem_cons_succ,List.getElem_cons_zero])
  (try dsimp only [Act.put]);(try simp only [List.setIfInBounds_toArray,List.set_cons_zero,List.set_cons_succ])
  (try go_wp2_with fail)
  (try simp only [Exit.inBlock,Exit.then])
  have e2:res=.error (s3.code,s3.fat):=by
   rw [← HRES.out,← HALL.out]
   unfold tailD
   rw [HR.out]
   exact if_pos hcode
  refine bodyPost_ret (v:=.tuple #[.agg Z,.agg #[I (s3.code),I (s3.fat)]]) ?_ rfl ⟨F0.out,?_⟩
  ·exact results_two rfl _ _ gz fz 33 36 Z #[I (s3.code),I (s3.fat)] _ _ rfl rfl F1.out F2.out Tryz.underlying33 rfl ZI.out Tryz.underlying36 rfl infoF
  (try rw [e2])
  rw [← EZ.out]
 have hcd:decide (s3.code=0)=true:=decide_eq_true hcode
 have hk1:=HK1.out
 obtain ⟨cr,hcr⟩:∃ n:Nat,crc 65535 (bs.take s1)=n:=⟨_,rfl⟩
 have hcr2:cr < 65536:=by rw [← hcr];exact CrcM.crc_lt _ _ (by decide)
 have CR:Hid (Calls Tryz.prog 26 #[.int .u16 65535,.slice (some y) s1 cap] v4 fun e w'=>e=.returned (.int .u16 (cr:Int))∧v4=w'):=Lib.hid (by rw [← hcr];exact crc_take y cap bs s1 v4 HD5.out.rd.row hk1)
 have HCR:=Lib.hid hcr
 have hk2:s1≤cap:=by have:=HCAP.out;omega
 clear hcr hk1
 have ew:wrap64 (cr:Int)=cr:=IntWalk.wrap64_in _ (by omega)
 have ew2:IntKind.i64.wrap (cr:Int)=cr:=wrap_small hcr2
 go_wp2_with fail
 refine CR.out.mono ?_
 clear CR
 rintro e v6 ⟨rfl,rfl⟩
 by_cases hsum:sv=(cr:Int)
 rotate_left
 ·have hsd:(sv == (cr:Int))=false:=by rw [beq_eq_false_iff_ne];exact hsum
  have hsn:(sv != (cr:Int))=true:=by rw [bne_iff_ne];exact hsum
  have e2:res=.error (5,s1):=by
   rw [← HRES.out,← HALL.out]
   unfold tailD
   rw [HR.out]
   rw [if_neg (by simp [hcode]),if_pos (by rw [HS1.out,HCR.out];exact hsum),HS1.out]
  have hF1:(v4.setRow gz Z).heap[fz]?=some (.cells #[I 0,I 0] 36 (0,0)):=by rw [setRow_other _ _ _ _ (by omega)];exact HF5.out
  have HF1:=Lib.hid hF1
  clear hF1
  go_wp2_with (first | (refine Rr.wpList_build0 rfl 33 rfl Z BZ.out ?_) | (refine wpList_store_row rfl 33 _ _ rfl gz Z rfl rfl 33 _ HZ5.out ZI.out rfl ZO.out ?_) | (refine wpList_store_row rfl 36 _ _ rfl fz #[I (5),I (s1)] rfl rfl 36 _ HF1.out infoF rfl (by simp [Value.oneCell']) ?_))
  have hF2:=setRow_heap _ fz _ #[I (5),I (s1)] _ _ HF1.out
  have hZ2:((v4.setRow gz Z).setRow fz #[I (5),I (s1)]).heap[gz]?=some (.cells Z 33 (0,0)):=by rw [setRow_other _ _ _ _ (by omega)];exact setRow_heap _ _ _ _ _ _ HZ5.out
  have hb2:Below w.heap.size w ((v4.setRow gz Z).setRow fz #[I (5),I (s1)]):=below_setRow (below_setRow HBE.out (by omega) _) (by omega) _
  generalize (v4.setRow gz Z).setRow fz #[I (5),I (s1)]=ue at hF2 hZ2 hb2 ⊢
  have HF2:=Lib.hid hF2
  have HZ2:=Lib.hid hZ2
  have HB2:=Lib.hid hb2
  clear hF2 hZ2 hb2
  (try go_wp2_with fail)
  (try simp only [Exit.inBlock,Exit.then])
  refine bodyPost_ret (v:=.tuple #[.agg Z,.agg #[I (5),I (s1)]]) ?_ rfl ⟨HB2.out,?_⟩
  ·exact results_two rfl _ _ gz fz 33 36 Z #[I (5),I (s1)] _ _ rfl rfl HZ2.out HF2.out Tryz.underlying33 rfl ZI.out Tryz.underlying36 rfl infoF
  (try rw [e2])
  rw [← EZ.out]
 have hsd:(sv == (cr:Int))=true:=by rw [beq_iff_eq];exact hsum
 have hsn:(sv != (cr:Int))=false:=by rw [bne_eq_false_iff_eq];exact hsum
 have c1:=(LG.out v4 rfl).1
 obtain ⟨k3,hk3⟩:∃ n,s3.k=n:=⟨_,rfl⟩
 rw [hk3] at c1
 have K3:=Lib.hid hk3
 clear hk3
 by_cases hmore:k3 < len
 ·have hmd:decide ((k3:Int) < (len:Int))=true:=decide_eq_true (by omega)
  go_upto_region 16 with fail
  clear c1
  have D0:Hid (Below w.heap.size w { v4 with drawn:=v4.drawn+1 }):=Lib.hid HBE.out.drew
  have D1:Hid (({ v4 with drawn:=v4.drawn+1 }:World).heap[gz]?=some (.cells Z 33 (0,0))):=Lib.hid HZ5.out
  have D2:Hid (({ v4 with drawn:=v4.drawn+1 }:World).heap[fz]?=some (.cells #[I 0,I 0] 36 (0,0))):=Lib.hid HF5.out
  refine wp_region_held (S:=fun v=>v.heap[g]?=v4.heap[g]?) (by kernel_rfl) ?_
  have hS:({ v4 with drawn:=v4.drawn+1 }:World).heap[g]?=v4.heap[g]?:=rfl
  generalize ({ v4 with drawn:=v4.drawn+1 }:World)=vd at hS D0 D1 D2 ⊢
  refine Held.take_build (i:=0) (some 74) rfl 33 #[] Z rfl rfl (by kernel_rfl) (by kernel_rfl) (by kernel_rfl) (fun _ _ _ h=>h) (by rfl) hS (by simpa using BZ.out) ?_
  (try dsimp only [Act.put]);(try simp only [List.setIfInBounds_toArray,List.set_cons_zero,List.set_cons_succ])
  refine Held.take (i:=1) (some 75) rfl (v:=?_) rfl (by kernel_rfl) (by kernel_rfl) (by kernel_rfl) (fun _ _ _ h=>h) (Or.inl ⟨by rfl,?_⟩) hS ?_
  rotate_left
  ·intro w' hw'
   go_simp
   try with_reducible rfl
  (try dsimp only [Act.put]);(try simp only [List.setIfInBounds_toArray,List.set_cons_zero,List.set_cons_succ])
  refine Held.take (i:=2) (some 76) rfl (v:=?_) rfl (by kernel_rfl) (by kernel_rfl) (by kernel_rfl) (fun _ _ _ h=>h) (Or.inl ⟨by rfl,?_⟩) hS ?_
  rotate_left
  ·intro w' hw'
   go_simp
   try with_reducible rfl
  (try dsimp only [Act.put]);(try simp only [List.setIfInBounds_toArray,List.set_cons_zero,List.set_cons_succ])
  refine Held.take (i:=3) (some 77) rfl (v:=?_) rfl (by kernel_rfl) (by kernel_rfl) (by kernel_rfl) (fun _ _ _ h=>h) (Or.inl ⟨by rfl,?_⟩) hS ?_
  rotate_left
  ·intro w' hw'
   go_simp
   try with_reducible rfl
  (try dsimp only [Act.put]);(try simp only [List.setIfInBounds_toArray,List.set_cons_zero,List.set_cons_succ])
  refine Held.take (i:=4) (some 78) rfl (v:=?_) rfl (by kernel_rfl) (by kernel_rfl) (by kernel_rfl) (fun _ _ _ h=>h) (Or.inl ⟨by rfl,?_⟩) hS ?_
  rotate_left
  ·intro w' hw'
   have c1:=(LG.out w' hw').1
   rw [K3.out] at c1
   go_simp
   try with_reducible rfl
  (try dsimp only [Act.put]);(try simp only [List.setIfInBounds_toArray,List.set_cons_zero,List.set_cons_succ])
  refine Held.take_build (i:=5) (some 79) rfl 36 #[(0,.const (I 6)),(1,.tmp 78)] #[I 6,I k3] rfl rfl (by kernel_rfl) (by kernel_rfl) (by kernel_rfl) (fun _ _ _ h=>h) (by rfl) hS (by have h:=built_fault 6 k3;first | (simp [Act.eval];exact h) | (go_simp;exact h)) ?_
  (try dsimp only [Act.put]);(try simp only [List.setIfInBounds_toArray,List.set_cons_zero,List.set_cons_succ])
  refine wpAnyH_ready (rs:=[6]) (by kernel_rfl) (by simp) (AllReadyH.cons rfl (fun K hK=>?_) AllReadyH.nil)
  rw [if_pos (by rfl)]
  refine wp_store_row 33 _ _ rfl gz Z rfl rfl 33 _ D1.out ZI.out rfl ZO.out ?_
  have hS2:(vd.setRow gz Z).heap[g]?=v4.heap[g]?:=(setRow_other _ _ _ _ NE.out.1).trans hS
  have E0:Hid (Below w.heap.size w (vd.setRow gz Z)):=Lib.hid (below_setRow D0.out (by omega) Z)
  have E1:=Lib.hid (setRow_heap vd gz _ Z _ _ D1.out)
  have E2:Hid ((vd.setRow gz Z).heap[fz]?=some (.cells #[I 0,I 0] 36 (0,0))):=Lib.hid ((setRow_other _ _ _ _ (Ne.symm NE.out.2.2)).trans D2.out)
  generalize vd.setRow gz Z=ve at hS2 E0 E1 E2 ⊢
  refine hK.out _ _ hS2 (fun hS=>?_)
  clear hK K hS2 D0 D1 D2
  (try dsimp only [Act.put]);(try simp only [List.setIfInBounds_toArray,List.set_cons_zero,List.set_cons_succ])
  refine wpAnyH_ready (rs:=[7]) (by kernel_rfl) (by simp) (AllReadyH.cons rfl (fun K hK=>?_) AllReadyH.nil)
  rw [if_pos (by rfl)]
  refine wp_store_row 36 _ _ rfl fz #[I (6),I (k3)] rfl rfl 36 _ E2.out infoF rfl (by simp [Value.oneCell']) ?_
  have hS3:(ve.setRow fz #[I (6),I (k3)]).heap[g]?=v4.heap[g]?:=(setRow_other _ _ _ _ NE.out.2.1).trans hS
  have F0:Hid (Below w.heap.size w (ve.setRow fz #[I (6),I (k3)])):=Lib.hid (below_setRow E0.out (by omega) #[I (6),I (k3)])
  have F2:=Lib.hid (setRow_heap ve fz _ #[I (6),I (k3)] _ _ E2.out)
  have F1:Hid ((ve.setRow fz #[I (6),I (k3)]).heap[gz]?=some (.cells Z 33 (0,0))):=Lib.hid ((setRow_other _ _ _ _ NE.out.2.2).trans E1.out)
  generalize ve.setRow fz #[I (6),I (k3)]=vf at hS3 F0 F1 F2 ⊢
  refine hK.out _ _ hS3 (fun hS=>?_)
  clear hK K hS3 E0 E1 E2
  refine wpAnyH_done (by kernel_rfl) ?_ _
  clear hS
  (try simp only [List.getElem_toArray,List.getElem_cons_succ,List.getElem_cons_zero])
  (try dsimp only [Act.put]);(try simp only [List.setIfInBounds_toArray,List.set_cons_zero,List.set_cons_succ])
  (try go_wp2_with fail)
  (try simp only [Exit.inBlock,Exit.then])
  have e2:res=.error (6,k3):=by
   rw [← HRES.out,← HALL.out]
   unfold tailD
   rw [HR.out]
   rw [if_neg (by simp [hcode]),if_neg (by rw [HS1.out,HCR.out];simp [hsum]),if_pos (show s3.k < bs.length by rw [K3.out,HLN.out];exact hmore),K3.out]
  refine bodyPost_ret (v:=.tuple #[.agg Z,.agg #[I (6),I (k3)]]) ?_ rfl ⟨F0.out,?_⟩
  ·exact results_two rfl _ _ gz fz 33 36 Z #[I (6),I (k3)] _ _ rfl rfl F1.out F2.out Tryz.underlying33 rfl ZI.out Tryz.underlying36 rfl infoF
  (try rw [e2])
  rw [← EZ.out]
 have hmd:decide ((k3:Int) < (len:Int))=false:=decide_eq_false (by omega)
 go_upto_region 17 with fail
 clear c1
 have e2:res=.ok x:=by
  rw [← HRES.out,← HALL.out]
  unfold tailD
  rw [HR.out]
  rw [if_neg (by simp [hcode]),if_neg (by rw [HS1.out,HCR.out];simp [hsum]),if_neg (show ¬ s3.k < bs.length by rw [K3.out,HLN.out];exact hmore)]
 have E2:=Lib.hid e2
 clear e2
 have CI2:Hid ((Tryz.prog.info? 33).map (·.size)=some C.toList.length):=Lib.hid (by rw [Array.length_toList];exact CI.out)
 have hF1:(v4.setRow gz C).heap[fz]?=some (.cells #[I 0,I 0] 36 (0,0)):=by rw [setRow_other _ _ _ _ (by omega)];exact HF5.out
 have HF1:=Lib.hid hF1
 clear hF1
 go_wp2_with (first | (refine Row.wpList_load_g 33 _ rfl (by first | rfl | (go_simp;done) | fail) ⟨tb,0,none⟩ rfl C.toList _ (by have:=Row.lies_of_block HT5.out;simpa using this) Tryz.underlying33 rfl CI2.out ?_) | (refine Rr.wpList_build0 rfl 36 rfl #[I 0,I 0] built_f0 ?_) | (refine wpList_store_row rfl 33 _ _ rfl gz C rfl rfl 33 _ HZ5.out CI.out (by rw [EZS.out,CS.out]) CO.out ?_) | (refine wpList_store_row rfl 36 _ _ rfl fz #[I 0,I 0] rfl rfl 36 _ HF1.out infoF rfl (by simp [Value.oneCell']) ?_))
 have hF2:=setRow_heap _ fz _ #[I 0,I 0] _ _ HF1.out
 have hZ2:((v4.setRow gz C).setRow fz #[I 0,I 0]).heap[gz]?=some (.cells C 33 (0,0)):=by rw [setRow_other _ _ _ _ (by omega)];exact setRow_heap _ _ _ _ _ _ HZ5.out
 have hb2:Below w.heap.size w ((v4.setRow gz C).setRow fz #[I 0,I 0]):=below_setRow (below_setRow HBE.out (by omega) _) (by omega) _
 have hk2:Keep v1.heap.size v2 ((v4.setRow gz C).setRow fz #[I 0,I 0]):=fun b o hb ho=>by
  have hlt:b < v2.heap.size:=(Array.getElem?_eq_some_iff.1 ho).1
  have hge:=HGZ.out
  rw [setRow_other _ _ _ _ (by omega),setRow_other _ _ _ _ (by omega)]
  have h4:=HB4.out.block b hlt
  have h5:=HBU5.out.block b (by have:=HB4.out.size;omega) (by omega)
  rw [h5,h4]
  exact ho
 generalize (v4.setRow gz C).setRow fz #[I 0,I 0]=ue at hF2 hZ2 hb2 hk2 ⊢
 have HF2:=Lib.hid hF2
 have HZ2:=Lib.hid hZ2
 have HB2:=Lib.hid hb2
 have HTE:=Lib.hid (HKT.out ue hk2)
 clear hF2 hZ2 hb2 hk2
 (try go_wp2_with fail)
 (try simp only [Exit.inBlock,Exit.then])
 refine bodyPost_ret (v:=.tuple #[.agg C,.agg #[I 0,I 0]]) ?_ rfl ⟨HB2.out,?_⟩
 ·exact results_two rfl _ _ gz fz 33 36 C #[I 0,I 0] _ _ rfl rfl HZ2.out HF2.out Tryz.underlying33 rfl CI.out Tryz.underlying36 rfl infoF
 rw [E2.out]
 exact ⟨hd,by rw [EC.out],HTE.out⟩
end Dp
namespace Rb
open Go Go.RowKit Go.ChangeShapes
open Tab
open Put (low lim)
open Go.Proofs.YtjdeemmaaiecnaaGreat.B (Own own_row)
open Cd (puts)
def B8 (l:List Nat):Prop:=∀ x ∈ l,x < 256
theorem B8.app {a b:List Nat} (h:B8 a) (k:B8 b):B8 (a++b):=fun x hx=>(List.mem_append.1 hx).elim (h x) (k x)
structure Bv (W:World) (v:Value) (l:List Nat):Prop where
 b8:B8 l
 row:∃ a cap,v=.slice a l.length cap∧B.Row W a l∧(a=none→cap=0)
theorem Bv.below {W W':World} {v:Value} {l:List Nat} (h:Bv W v l) (hb:Below W.heap.size W W'):Bv W' v l :=
 ⟨h.b8,let ⟨a,cap,h1,h2,h3⟩:=h.row;⟨a,cap,h1,h2.below hb,h3⟩⟩
theorem bv_own {B:Nat} {W:World} {v:Value} {l:List Nat} (h:Own B W v l) (h8:B8 l):Bv W v l:=by
 obtain ⟨a,cap,rfl,hr⟩:=own_row h h8
 refine ⟨h8,a,cap,rfl,hr,?_⟩
 rintro rfl
 rcases h.2 with ⟨h0,_⟩ | ⟨g,c,cur,h1,_⟩
 ·exact (Value.slice.injEq .. ▸ h0).2.2
 ·exact absurd h1 (by simp)
theorem rput {W:World} {v:Value} {l:List Nat} (h:Bv W v l) (hl:l.length≤10000) (size n:Int) :
  Calls Tryz.prog 27 #[v,.int .i64 size,.int .i64 n] W fun e W'=>∃ v',e=.returned v'∧Bv W' v' (l++low (lim size 8) n)∧Below W.heap.size W W':=by
 obtain ⟨a,cap,rfl,hr,hn⟩:=h.row
 exact (Put.ref_put_any a cap l size n W hr hl hn).mono fun e W' ⟨v',h1,h2,h3⟩=>⟨v',h1,bv_own h2 (h.b8.app (Put.low_lt _ _)),h3⟩
theorem rputf {W:World} {v:Value} {l:List Nat} (h:Bv W v l) (hl:l.length≤10000) (x:Nat) :
  Calls Tryz.prog 32 #[v,.float .f64 x] W fun e W'=>∃ v',e=.returned v'∧Bv W' v' (l++low 8 x)∧Below W.heap.size W W':=by
 obtain ⟨a,cap,rfl,hr,hn⟩:=h.row
 exact (Put.ref_putf_any a cap l x W hr hl hn).mono fun e W' ⟨v',h1,h2,h3⟩=>⟨v',h1,bv_own h2 (h.b8.app (Put.low_lt _ _)),h3⟩
theorem one_any (b:Bool) (W:World):Calls Tryz.prog 30 #[.bool b] W fun e W'=>e=.returned (.int .i64 (Cd.one b))∧W=W':=by
 cases b
 ·go_enter Tryz.func30,Tryz.ntmps30
  go_wp2
  go_ret
  exact ⟨rfl,rfl⟩
 ·go_enter Tryz.func30,Tryz.ntmps30
  go_wp2
  go_ret
  exact ⟨rfl,rfl⟩
theorem rputs {W:World} {v:Value} {l:List Nat} (h:Bv W v l) {s:Sl} {xs:List Int} {n:Nat} (hn:xs.length=n) (hx:IntRow W s xs) (hl:l.length+8*n≤10000) (size:Int) :
  Calls Tryz.prog 31 #[v,.int .i64 size,.slice s.a n s.cap] W fun e W'=>∃ v',e=.returned v'∧Bv W' v' (l++puts (lim size 8) xs)∧Below W.heap.size W W':=by
 have H:=Lib.hid h
 have HX:=Lib.hid hx
 have HN:=Lib.hid hn
 obtain ⟨h1,h2⟩:=hx.len
 have h3:n≤2000:=by omega
 obtain ⟨sa,cap⟩:=s
 clear h hx hn h1
 go_enter Tryz.func31,Tryz.ntmps31
 go_wp2_with fail
 go_loopw [0,7] (fun b i wr=>∃ q:Nat,q≤n∧i=.int .i64 (q:Int)∧Bv wr b (l++puts (lim size 8) (xs.take q))∧Below W.heap.size W wr) (fun _ i _=>n - (intOf i).toNat)
 case atStart=>exact ⟨0,by omega,rfl,by simpa [puts] using H.out,Below.refl _ _⟩
 case round =>
  obtain ⟨q,hq,rfl,hb,hw⟩:=hrel
  have HB:=Lib.hid hb
  have HW:=Lib.hid hw
  clear hb hw
  by_cases hlt:q < n
  ·have hq2:q < xs.length:=by rw [HN.out];exact hlt
   obtain ⟨x,hxq⟩:∃ x,xs[q]?=some x:=⟨_,List.getElem?_eq_getElem hq2⟩
   obtain ⟨ad,had,hc⟩:=IntRow.at HX.out hxq
   dsimp only at had
   subst had
   have hc2:=(HW.out.cell (World.block_lt_of_cell? W _ hc)).trans hc
   have HS:Hid (puts (lim size 8) (xs.take (q+1))=puts (lim size 8) (xs.take q)++low (lim size 8) x):=Lib.hid (by rw [List.take_add_one,hxq,Cd.puts_append];simp [puts])
   have hcall:=Lib.hid (rput HB.out (by rw [List.length_append,Cd.puts_len,List.length_take,HN.out];have:=Put.lim_le size 8;have:min q n*lim size 8≤n*8:=Nat.mul_le_mul (by omega) this;omega) size x)
   clear hc hxq hq2
   go_wp2_with fail
   refine hcall.out.mono ?_
   rintro e w' ⟨v',rfl,hb2,hb3⟩
   have HB2:=Lib.hid hb2
   have HW2:=Lib.hid (HW.out.trans (hb3.mono HW.out.size))
   clear hb2 hb3 hcall
   go_wp2
   go_roundw
   case rel=>exact ⟨q+1,by omega,by go_num,by rw [HS.out,← List.append_assoc];exact HB2.out,HW2.out⟩
   case measure=>simp [intOf];omega
  ·obtain rfl:n=q:=by omega
   go_wp2
   go_ret
   exact ⟨_,rfl,by have:=HB.out;rwa [List.take_of_length_le (by rw [HN.out];omega)] at this,HW.out⟩
theorem own_le {B B':Nat} {W:World} {v:Value} {l:List Nat} (h:Own B W v l) (hb:B'≤B):Own B' W v l:=by
 refine ⟨h.1,?_⟩
 rcases h.2 with h0 | ⟨g,cap,cur,e,h1,h2⟩
 ·exact .inl h0
 ·exact .inr ⟨g,cap,cur,e,Nat.le_trans hb h1,h2⟩
theorem rputO {W:World} {v:Value} {l:List Nat} (h:Bv W v l) (hl:l.length≤10000) (size n:Int) :
  Calls Tryz.prog 27 #[v,.int .i64 size,.int .i64 n] W fun e W'=>∃ v',e=.returned v'∧Bv W' v' (l++low (lim size 8) n)∧Own W.heap.size W' v' (l++low (lim size 8) n)∧Below W.heap.size W W':=by
 obtain ⟨a,cap,rfl,hr,hn⟩:=h.row
 exact (Put.ref_put_any a cap l size n W hr hl hn).mono fun e W' ⟨v',h1,h2,h3⟩=>⟨v',h1,bv_own h2 (h.b8.app (Put.low_lt _ _)),h2,h3⟩
theorem rputsO {W:World} {v:Value} {l:List Nat} (h:Bv W v l) {s:Sl} {xs:List Int} {n:Nat} (hn:xs.length=n) (hx:IntRow W s xs) (hl:l.length+8*n≤10000) (size:Int) :
  Calls Tryz.prog 31 #[v,.int .i64 size,.slice s.a n s.cap] W fun e W'=>∃ v',e=.returned v'∧(Bv W' v' (l++puts (lim size 8) xs)∧(0 < n→Own W.heap.size W' v' (l++puts (lim size 8) xs)))∧Below W.heap.size W W':=by
 have H:=Lib.hid h
 have HX:=Lib.hid hx
 have HN:=Lib.hid hn
 obtain ⟨h1,h2⟩:=hx.len
 have h3:n≤2000:=by omega
 obtain ⟨sa,cap⟩:=s
 clear h hx hn h1
 go_enter Tryz.func31,Tryz.ntmps31
 go_wp2_with fail
 go_loopw [0,7] (fun b i wr=>∃ q:Nat,q≤n∧i=.int .i64 (q:Int)∧(Bv wr b (l++puts (lim size 8) (xs.take q))∧(0 < q→Own W.heap.size wr b (l++puts (lim size 8) (xs.take q))))∧Below W.heap.size W wr) (fun _ i _=>n - (intOf i).toNat)
 case atStart=>exact ⟨0,by omega,rfl,⟨by simpa [puts] using H.out,fun h=>absurd h (by omega)⟩,Below.refl _ _⟩
 case round =>
  obtain ⟨q,hq,rfl,hb,hw⟩:=hrel
  have HBO:=Lib.hid hb
  have HB:=Lib.hid hb.1
  have HW:=Lib.hid hw
  clear hb hw
  by_cases hlt:q < n
  ·have hq2:q < xs.length:=by rw [HN.out];exact hlt
   obtain ⟨x,hxq⟩:∃ x,xs[q]?=some x:=⟨_,List.getElem?_eq_getElem hq2⟩
   obtain ⟨ad,had,hc⟩:=IntRow.at HX.out hxq
   dsimp only at had
   subst had
   have hc2:=(HW.out.cell (World.block_lt_of_cell? W _ hc)).trans hc
   have HS:Hid (puts (lim size 8) (xs.take (q+1))=puts (lim size 8) (xs.take q)++low (lim size 8) x):=Lib.hid (by rw [List.take_add_one,hxq,Cd.puts_append];simp [puts])
   have hcall:=Lib.hid (rputO HB.out (by rw [List.length_append,Cd.puts_len,List.length_take,HN.out];have:=Put.lim_le size 8;have:min q n*lim size 8≤n*8:=Nat.mul_le_mul (by omega) this;omega) size x)
   clear hc hxq hq2
   go_wp2_with fail
   refine hcall.out.mono ?_
   rintro e w' ⟨v',rfl,hb2,ho2,hb3⟩
   have HO2:=Lib.hid (own_le ho2 HW.out.size)
   have HB2:=Lib.hid hb2
   have HW2:=Lib.hid (HW.out.trans (hb3.mono HW.out.size))
   clear hb2 ho2 hb3 hcall
   go_wp2
   go_roundw
   case rel=>exact ⟨q+1,by omega,by go_num,by rw [HS.out,← List.append_assoc];exact ⟨HB2.out,fun _=>HO2.out⟩,HW2.out⟩
   case measure=>simp [intOf];omega
  ·obtain rfl:n=q:=by omega
   go_wp2
   go_ret
   exact ⟨_,rfl,by have:=HBO.out;rwa [List.take_of_length_le (by rw [HN.out];omega)] at this,HW.out⟩
end Rb
namespace Rb
open Go Go.RowKit Go.ChangeShapes
open Go.Proofs.YtjdeemmaaiecnaaGreat.B (Own)
open Tab
open Put (low lim)
open Cd (puts phB detB rlB bsB rowB grB listB Few)
open Po (gRow zGr range_flat)
structure St (u W:World) (v:Value) (l:List Nat) (N:Nat):Prop where
 bv:Bv W v l
 low:Below u.heap.size u W
 len:l.length≤N
section
variable {u W W':World} {v:Value} {l:List Nat} {N:Nat}
theorem St.mem (h:St u W v l N) (hb:Below W.heap.size W W'):St u W' v l N:=⟨h.bv.below hb,h.low.trans (hb.mono h.low.size),h.len⟩
theorem st_put (h:St u W v l N) (hN:N≤10000) (size n:Int) :
  Calls Tryz.prog 27 #[v,.int .i64 size,.int .i64 n] W fun e W'=>∃ v',e=.returned v'∧St u W' v' (l++low (lim size 8) n) (N+8)∧Below W.heap.size W W' :=
 (rput h.bv (by have:=h.len;omega) size n).mono fun e W' ⟨v',h1,h2,h3⟩=>⟨v',h1,⟨h2,h.low.trans (h3.mono h.low.size),by rw [List.length_append,Put.low_len];have:=Put.lim_le size 8;have:=h.len;omega⟩,h3⟩
theorem st_putf (h:St u W v l N) (hN:N≤10000) (x:Nat) :
  Calls Tryz.prog 32 #[v,.float .f64 x] W fun e W'=>∃ v',e=.returned v'∧St u W' v' (l++low 8 x) (N+8)∧Below W.heap.size W W' :=
 (rputf h.bv (by have:=h.len;omega) x).mono fun e W' ⟨v',h1,h2,h3⟩=>⟨v',h1,⟨h2,h.low.trans (h3.mono h.low.size),by rw [List.length_append,Put.low_len];have:=h.len;omega⟩,h3⟩
theorem st_puts (h:St u W v l N) {s:Sl} {xs:List Int} {n:Nat} (hn:xs.length=n) (hx:IntRow W s xs) (hN:N+8*n≤10000) (size:Int) :
  Calls Tryz.prog 31 #[v,.int .i64 size,.slice s.a n s.cap] W fun e W'=>∃ v',e=.returned v'∧St u W' v' (l++puts (lim size 8) xs) (N+8*n)∧Below W.heap.size W W' :=
 (rputs h.bv hn hx (by have:=h.len;omega) size).mono fun e W' ⟨v',h1,h2,h3⟩=>⟨v',h1,⟨h2,h.low.trans (h3.mono h.low.size),by
  rw [List.length_append,Cd.puts_len,hn]
  have:=h.len
  have:n*lim size 8≤n*8:=Nat.mul_le_mul_left _ (Put.lim_le size 8)
  omega⟩,h3⟩
end
theorem st_putsO {u W:World} {v:Value} {l:List Nat} {N:Nat} (h:St u W v l N) {s:Sl} {xs:List Int} {n:Nat} (hn:xs.length=n) (hx:IntRow W s xs) (hN:N+8*n≤10000) (size:Int) :
  Calls Tryz.prog 31 #[v,.int .i64 size,.slice s.a n s.cap] W fun e W'=>∃ v',e=.returned v'∧St u W' v' (l++puts (lim size 8) xs) (N+8*n)∧(0 < n→Own W.heap.size W' v' (l++puts (lim size 8) xs))∧Below W.heap.size W W' :=
 (rputsO h.bv hn hx (by have:=h.len;omega) size).mono fun e W' ⟨v',h1,h2,h3⟩=>⟨v',h1,⟨h2.1,h.low.trans (h3.mono h.low.size),by
  rw [List.length_append,Cd.puts_len,hn]
  have:=h.len
  have:n*lim size 8≤n*8:=Nat.mul_le_mul_left _ (Put.lim_le size 8)
  omega⟩,h2.2,h3⟩
theorem infoD:(Tryz.prog.info? 71).map (·.size)=some 7:=by kernel_rfl
theorem infoR:(Tryz.prog.info? 75).map (·.size)=some 11:=by kernel_rfl
theorem row_head (W:World):B.Row (W.alloc (.cells #[.int .u8 88,.int .u8 66,.int .u8 1] 5)) (some ⟨W.heap.size,0,none⟩) [88,66,1]:=by
 refine ⟨by decide,by decide,.inr ⟨_,rfl,fun i hi=>?_⟩⟩
 rw [Po.add_none,cell_of_row _ _ _ _ _ _ (heap_alloc_new W _)]
 match i,hi with
 | 0,_=>rfl
 | 1,_=>rfl
 | 2,_=>rfl
theorem rbody_own {T:Tab} {hd:Hd} {w:World} (ht:IsTab w hd T) (few:Few T) :
  Calls Tryz.prog 10 #[.agg (T.cells hd).toArray] w fun e w'=>∃ v,e=.returned v∧(Bv w' v (Cd.bodyB T)∧Own w.heap.size w' v (Cd.bodyB T))∧Below w.heap.size w w':=by
 obtain ⟨⟨ga,gcap⟩,⟨da,dcap⟩,⟨ra,rcap⟩,⟨sa,scap⟩⟩:=hd
 have C:=cells_ok ht
 obtain ⟨gs,hgd,hgl⟩:=ht.groups
 have hgn:gs.length=T.groups.length:=by rw [← hgd,List.length_map]
 have IA:Hid ((Tryz.prog.info? 33).map (·.size)=some (T.cells ⟨⟨ga,gcap⟩,⟨da,dcap⟩,⟨ra,rcap⟩,⟨sa,scap⟩⟩).length):=Lib.hid (by have:=C.size;rw [List.size_toArray] at this;rw [this];exact May.infoT)
 have h0:Below w.heap.size w (w.alloc (.cells (T.cells ⟨⟨ga,gcap⟩,⟨da,dcap⟩,⟨ra,rcap⟩,⟨sa,scap⟩⟩).toArray 33)):=(Below.refl _ _).alloc (Nat.le_refl _) _
 have hg0:=heap_alloc_new w (.cells (T.cells ⟨⟨ga,gcap⟩,⟨da,dcap⟩,⟨ra,rcap⟩,⟨sa,scap⟩⟩).toArray 33)
 have few2:=Lib.hid few
 have HC:=Lib.hid C
 have HGD:=Lib.hid hgd
 have HGN:=Lib.hid hgn
 have HGL:=Lib.hid (hgl.below h0)
 have HTT:=Lib.hid (ht.below h0)
 generalize hcc:(T.cells ⟨⟨ga,gcap⟩,⟨da,dcap⟩,⟨ra,rcap⟩,⟨sa,scap⟩⟩).toArray=c at HC h0 hg0 HGL HTT ⊢
 have hsz:=HC.out.size
 clear C hgd hgn hgl few ht IA hcc
 have SZ:=Lib.hid hsz
 clear hsz
 go_enter Tryz.func10,Tryz.ntmps10
 go_upto_region 1 with fail
 generalize World.alloc w _=u at h0 hg0 HGL HTT ⊢
 generalize hgt:w.heap.size=tb at hg0 ⊢
 have HB0:=Lib.hid h0
 have HBX:=Lib.hid hg0
 have CL:Hid (∀ (j:Nat) (x:Value),c[j]?=some x→∀ W,Below u.heap.size u W→W.cell? ⟨tb,j,none⟩=some x):=Lib.hid (fun j x hx W hb=>by rw [cell_of_row _ _ _ _ _ _ ((hb.block tb (Array.getElem?_eq_some_iff.1 HBX.out).1).trans HBX.out)];exact hx)
 have PLI:Hid (∀ q:Nat,q < 8→∀ W,Below u.heap.size u W→Lies W ⟨tb,q*13,none⟩ (T.phases.getD q default).cells):=Lib.hid (fun q hq W hb=>by
  have hp:=HC.out.phase q _ (List.getElem?_eq_getElem (by rw [HTT.out.ph];exact hq))
  rw [Nat.mul_comm] at hp
  rw [show T.phases.getD q default=T.phases[q]'(by rw [HTT.out.ph];exact hq) by simp [List.getD,List.getElem?_eq_getElem (show q < T.phases.length by rw [HTT.out.ph];exact hq)]]
  intro j x hj
  rw [Po.add_none]
  have hj13:j < 13:=by have:=(List.getElem?_eq_some_iff.1 hj).1;simpa [Ph.cells] using this
  refine CL.out _ x ?_ W hb
  rw [← Array.getElem?_toList,Po.take_at hp rfl hj13]
  exact hj)
 clear h0 hg0
 go_upto_region 3 with fail
 have hst:St u (u.alloc (.cells #[.int .u8 88,.int .u8 66,.int .u8 1] 5)) (.slice (some ⟨u.heap.size,0,none⟩) 3 3) [88,66,1] 3 :=
  ⟨⟨by intro x hx;simp at hx;omega,_,3,rfl,row_head u,fun h=>by cases h⟩,(Below.refl _ _).alloc (Nat.le_refl _) _,Nat.le_refl _⟩
 generalize World.alloc u _=u1 at hst ⊢
 generalize (Value.slice (some ⟨u.heap.size,0,none⟩) 3 3)=b0 at hst ⊢
 have HST:=Lib.hid hst
 clear hst
 go_wp2_with fail
 go_loopw [3,4] (fun b i wr=>∃ q:Nat,q≤8∧i=.int .i64 (q:Int)∧St u wr b ([88,66,1]++(List.range q).flatMap (fun q=>phB (T.phases.getD q default))) (3+104*q)) (fun _ i _=>8 - (intOf i).toNat)
 case atStart=>exact ⟨0,by omega,rfl,by simpa using HST.out⟩
 case round =>
  obtain ⟨q,hq,rfl,hst⟩:=hrel
  have HST:=Lib.hid hst
  clear hst
  by_cases hlt:q < 8
  ·have HPL:=Lib.hid (PLI.out q hlt wr HST.out.low)
   have HPH:Hid (([88,66,1]++(List.range (q+1)).flatMap (fun q=>phB (T.phases.getD q default)))=([88,66,1]++(List.range q).flatMap (fun q=>phB (T.phases.getD q default)))++phB (T.phases.getD q default)):=Lib.hid (by rw [List.range_succ,List.flatMap_append,List.flatMap_singleton,List.append_assoc])
   generalize [88,66,1]++(List.range q).flatMap (fun q=>phB (T.phases.getD q default))=Lq at HST HPH
   generalize T.phases.getD q default=p at HPL HPH
   have IP:(Tryz.prog.info? 25).map (·.size)=some p.cells.length:=May.infoP
   go_upto_region 6 with (first | (refine Row.wpList_load_lies rfl 25 _ rfl ⟨tb,q*13,none⟩ rfl p.cells _ HPL.out Tryz.underlying25 rfl IP ?_) | (refine Row.wpList_store_new rfl 25 _ _ rfl _ _ p.cells.toArray rfl rfl rfl May.infoP rfl (Ph.one _) ?_))
   dsimp only [Act.put]
   (try simp only [List.setIfInBounds_toArray,List.set_cons_zero,List.set_cons_succ])
   have hst:=HST.out.mem ((Below.refl _ _).alloc (Nat.le_refl _) (.cells p.cells.toArray 25))
   have hg:=heap_alloc_new wr (.cells p.cells.toArray 25)
   generalize World.alloc wr _=W1 at hst hg ⊢
   generalize wr.heap.size=gx at hg ⊢
   clear HST HPL
   have k0:W1.cell? ⟨gx,0,none⟩=some (.bool p.on):=by rw [cell_of_row _ _ _ _ _ _ hg];rfl
   have HST:=Lib.hid hst
   have HG:=Lib.hid hg
   clear hst hg
   go_wp2_with (go_at_call 30;refine (one_any _ _).mono ?_;rintro e w' ⟨rfl,rfl⟩)
   refine (st_put HST.out (by omega) 1 _).mono ?_
   rintro e W2 ⟨v2,rfl,hst,hb⟩
   have hg:=(hb.block gx (Array.getElem?_eq_some_iff.1 HG.out).1).trans HG.out
   have HST2:=Lib.hid hst
   clear hst hb k0 HST HG
   have k1:W2.cell? ⟨gx,1,none⟩=some (I p.min):=by rw [cell_of_row _ _ _ _ _ _ hg];rfl
   have k2:W2.cell? ⟨gx,2,none⟩=some (I p.gap):=by rw [cell_of_row _ _ _ _ _ _ hg];rfl
   have k3:W2.cell? ⟨gx,3,none⟩=some (I p.max):=by rw [cell_of_row _ _ _ _ _ _ hg];rfl
   have k4:W2.cell? ⟨gx,4,none⟩=some (I p.top):=by rw [cell_of_row _ _ _ _ _ _ hg];rfl
   have k5:W2.cell? ⟨gx,5,none⟩=some (I p.step):=by rw [cell_of_row _ _ _ _ _ _ hg];rfl
   have k6:W2.cell? ⟨gx,6,none⟩=some (I p.yellow):=by rw [cell_of_row _ _ _ _ _ _ hg];rfl
   have k7:W2.cell? ⟨gx,7,none⟩=some (I p.red):=by rw [cell_of_row _ _ _ _ _ _ hg];rfl
   have k8:W2.cell? ⟨gx,8,none⟩=some (I p.walk):=by rw [cell_of_row _ _ _ _ _ _ hg];rfl
   have k9:W2.cell? ⟨gx,9,none⟩=some (I p.blinks):=by rw [cell_of_row _ _ _ _ _ _ hg];rfl
   have HG:=Lib.hid hg
   clear hg
   go_wp2_with fail
   refine (st_puts (n:=9) (xs:=[p.min,p.gap,p.max,p.top,p.step,p.yellow,p.red,p.walk,p.blinks]) (s:=⟨some ⟨W2.heap.size,0,none⟩,9⟩) (HST2.out.mem ((Below.refl _ _).alloc (Nat.le_refl _) _)) rfl (May.row_new W2 3 [p.min,p.gap,p.max,p.top,p.step,p.yellow,p.red,p.walk,p.blinks] 9 rfl (by decide) _ rfl) (by omega) 2).mono ?_
   rintro e W3 ⟨v3,rfl,hst,hb⟩
   have hg:=(hb.block gx (by have:=(Array.getElem?_eq_some_iff.1 HG.out).1;simp;omega)).trans ((Below.heap_alloc _ _ _ (Array.getElem?_eq_some_iff.1 HG.out).1).trans HG.out)
   have HST3:=Lib.hid hst
   clear hst hb k1 k2 k3 k4 k5 k6 k7 k8 k9 HST2 HG
   have HG:=Lib.hid hg
   clear hg
   go_upto_region 8 with fail
   have q10:∀ r:QB.By W3.heap.size W3,r.world.cell? ⟨gx,10,none⟩=some (I p.recall):=fun r=>by rw [cell_of_row _ _ _ _ _ _ ((r.below.block gx (Array.getElem?_eq_some_iff.1 HG.out).1).trans HG.out)];rfl
   have q11:∀ r:QB.By W3.heap.size W3,r.world.cell? ⟨gx,11,none⟩=some (.bool p.lock):=fun r=>by rw [cell_of_row _ _ _ _ _ _ ((r.below.block gx (Array.getElem?_eq_some_iff.1 HG.out).1).trans HG.out)];rfl
   have q12:∀ r:QB.By W3.heap.size W3,r.world.cell? ⟨gx,12,none⟩=some (.bool p.rest):=fun r=>by rw [cell_of_row _ _ _ _ _ _ ((r.below.block gx (Array.getElem?_eq_some_iff.1 HG.out).1).trans HG.out)];rfl
   refine QT.region1 W3.heap.size 9 (by kernel_rfl) (by kernel_rfl) (by kernel_rfl) (by kernel_rfl) (v:=v3) (fun _ _ _ h=>h) (Or.inl ⟨by rfl,fun w'=>by go_simp;try rfl⟩) ?_
   dsimp only [Act.put]
   simp only [List.setIfInBounds_toArray,List.set_cons_zero,List.set_cons_succ,List.take_succ_cons,List.take_zero,List.drop_succ_cons,List.drop_zero]
   repeat (quiet_step (first
    | (go_at_call 30;exact QB.call_of (Nat.le_refl _) (fun b=>(one_any _ _).mono fun e w' h=>⟨h.1,by rw [← h.2];exact Below.refl _ _⟩))))
   refine wpQuiet_nil ?_
   intro _ hw'
   obtain ⟨r,rfl⟩:=hw'
   have hst:=HST3.out.mem r.below
   clear q10 q11 q12 HST3 HG
   generalize r.world=W4 at hst ⊢
   (try simp only [List.drop_succ_cons,List.drop_zero])
   have HST4:=Lib.hid hst
   clear hst
   go_wp2_with fail
   refine (st_puts (n:=3) (xs:=[p.recall,Cd.one p.lock,Cd.one p.rest]) (s:=⟨some ⟨W4.heap.size,0,none⟩,3⟩) (HST4.out.mem ((Below.refl _ _).alloc (Nat.le_refl _) _)) rfl (May.row_new W4 3 [p.recall,Cd.one p.lock,Cd.one p.rest] 3 rfl (by decide) _ rfl) (by omega) 1).mono ?_
   rintro e W5 ⟨v5,rfl,hst,hb⟩
   have HST5:=Lib.hid hst
   clear hst hb HST4
   go_wp2
   go_roundw
   case rel=>exact ⟨q+1,by omega,by go_num,by
    have:=HST5.out
    rw [HPH.out]
    have e:((Lq++low (lim 1 8) (Cd.one p.on))++puts (lim 2 8) [p.min,p.gap,p.max,p.top,p.step,p.yellow,p.red,p.walk,p.blinks])++puts (lim 1 8) [p.recall,Cd.one p.lock,Cd.one p.rest]=Lq++phB p:=by
     simp only [List.append_assoc,phB,show lim 1 8=1 from rfl,show lim 2 8=2 from rfl]
     simp [puts]
    rw [e] at this
    exact ⟨this.bv,this.low,by have:=this.len;omega⟩⟩
   case measure=>simp [intOf];omega
  ·obtain rfl:q=8:=by omega
   have hst:St u wr u3 ([88,66,1]++T.phases.flatMap phB) 1000:=by
    have:=HST.out
    rw [show (List.range 8).flatMap (fun q=>phB (T.phases.getD q default))=T.phases.flatMap phB from by rw [← HTT.out.ph];exact range_flat phB default T.phases] at this
    exact ⟨this.bv,this.low,by have:=this.len;omega⟩
   clear HST PLI
   obtain ⟨L1,hL1⟩:∃ x,x=[88,66,1]++T.phases.flatMap phB:=⟨_,rfl⟩
   rw [← hL1] at hst
   have EL1:=Lib.hid hL1
   have HST:=Lib.hid hst
   clear hL1 hst
   obtain ⟨nG,hnG⟩:∃ n,n=T.groups.length:=⟨_,rfl⟩
   obtain ⟨nD,hnD⟩:∃ n,n=T.dets.length:=⟨_,rfl⟩
   obtain ⟨nR,hnR⟩:∃ n,n=T.rails.length:=⟨_,rfl⟩
   obtain ⟨nS,hnS⟩:∃ n,n=T.buses.length:=⟨_,rfl⟩
   have CG:Hid (∀ W,Below u.heap.size u W→W.cell? ⟨tb,104,none⟩=some (.slice ga nG gcap)):=Lib.hid (by rw [hnG];exact CL.out 104 _ HC.out.g)
   have CD:Hid (∀ W,Below u.heap.size u W→W.cell? ⟨tb,113,none⟩=some (.slice da nD dcap)):=Lib.hid (by rw [hnD];exact CL.out 113 _ HC.out.d)
   have CR:Hid (∀ W,Below u.heap.size u W→W.cell? ⟨tb,114,none⟩=some (.slice ra nR rcap)):=Lib.hid (by rw [hnR];exact CL.out 114 _ HC.out.r)
   have CS:Hid (∀ W,Below u.heap.size u W→W.cell? ⟨tb,115,none⟩=some (.slice sa nS scap)):=Lib.hid (by rw [hnS];exact CL.out 115 _ HC.out.b)
   have nG4:nG≤4:=by rw [hnG];exact few2.out.g
   have nD16:nD≤16:=by rw [hnD];exact few2.out.d
   have nR4:nR≤4:=by rw [hnR];exact few2.out.r
   have nS4:nS≤4:=by rw [hnS];exact few2.out.b
   obtain ⟨gb,go,HGB⟩:∃ b o,Hid (0 < nG→ga=some ⟨b,o,none⟩):=by
    by_cases h0:0 < gs.length
    ·obtain ⟨x,hx,hl⟩:=HGL.out.1.at (List.getElem?_eq_getElem h0)
     rw [Nat.zero_mul,add_zero] at hl
     exact ⟨x.block,x.off,Lib.hid (fun _=>by rw [show ga=some x from hx,← Po.spot_of hl (by simp [Gr.cells])])⟩
    ·exact ⟨0,0,Lib.hid (fun h1=>absurd h1 (by rw [hnG,← HGN.out];exact h0))⟩
   have NG:=Lib.hid hnG
   have ND:=Lib.hid hnD
   have NR:=Lib.hid hnR
   have NS:=Lib.hid hnS
   clear hnG hnD hnR hnS
   have kg:=CG.out wr HST.out.low
   go_wp2_with fail
   refine (st_put HST.out (by omega) 1 _).mono ?_
   rintro e W6 ⟨v6,rfl,hst,hb⟩
   obtain ⟨L2,hL2⟩:∃ x,x=L1++low (lim 1 8) (nG:Int):=⟨_,rfl⟩
   rw [← hL2] at hst
   have EL2:=Lib.hid hL2
   have HST6:=Lib.hid hst
   clear hL2 hst hb HST kg
   have G8:Hid (∀ g ∈ gs,g.r0.length≤8∧g.r1.length≤8):=Lib.hid (fun g hg=>few2.out.row g.data (by rw [← HGD.out];exact List.mem_map_of_mem hg))
   go_wp2_with fail
   go_loopw [3,6] (fun b i wr=>∃ q:Nat,q≤nG∧i=.int .i64 (q:Int)∧St u wr b (L2++(List.range q).flatMap (fun q=>grB (gs.getD q zGr).data)) (1008+144*q)) (fun _ i _=>nG - (intOf i).toNat)
   case atStart=>exact ⟨0,by omega,rfl,by simpa using HST6.out⟩
   case round =>
    obtain ⟨q,hq,rfl,hst⟩:=hrel
    have HST:=Lib.hid hst
    clear hst HST6
    have kg:=CG.out wr HST.out.low
    by_cases hlt:q < nG
    ·have hqg:q < gs.length:=by rw [HGN.out,← NG.out];exact hlt
     obtain rfl:ga=some ⟨gb,go,none⟩:=HGB.out (by omega)
     obtain ⟨x,hx,hl⟩:=HGL.out.1.at (List.getElem?_eq_getElem hqg)
     obtain rfl:=Option.some.inj hx
     rw [Po.add_none] at hl
     have hg0:gs.getD q zGr=gs[q]:=by simp [List.getD,List.getElem?_eq_getElem hqg]
     have HGQ:Hid ((List.range (q+1)).flatMap (fun q=>grB (gs.getD q zGr).data)=(List.range q).flatMap (fun q=>grB (gs.getD q zGr).data)++grB (gs[q]).data):=Lib.hid (by rw [List.range_succ,List.flatMap_append,List.flatMap_singleton,hg0])
     have hok:=HGL.out.2 _ (List.getElem_mem hqg)
     have h8:=G8.out _ (List.getElem_mem hqg)
     generalize gs[q]=g at hl HGQ hok h8
     have KR:Hid (∀ j:Nat,j < 2→∃ (s:Sl) (xs:List Int) (n:Nat),xs=gRow g j∧xs.length=n∧n≤8∧IntRow u s xs∧∀ W,Below u.heap.size u W→W.cell? ⟨gb,go+q*2+j,none⟩=some (.slice s.a n s.cap)):=Lib.hid (fun j hj=>by
      rcases (show j=0∨j=1 by omega) with rfl | rfl
      ·refine ⟨g.s0,g.r0,g.r0.length,rfl,rfl,h8.1,hok.1,fun W hb=>?_⟩
       have hc:=hl 0 _ rfl
       rw [Po.add_none] at hc
       exact (hb.cell (World.block_lt_of_cell? u _ hc)).trans hc
      ·refine ⟨g.s1,g.r1,g.r1.length,rfl,rfl,h8.2,hok.2,fun W hb=>?_⟩
       have hc:=hl 1 _ rfl
       rw [Po.add_none] at hc
       exact (hb.cell (World.block_lt_of_cell? u _ hc)).trans hc)
     clear hl hok h8 hg0 hx hqg
     generalize (List.range q).flatMap (fun q=>grB (gs.getD q zGr).data)=Gq at HST HGQ
     obtain ⟨L3,hL3⟩:∃ x,x=L2++Gq:=⟨_,rfl⟩
     rw [← hL3] at HST
     have EL3:=Lib.hid hL3
     clear hL3
     go_wp2_with fail
     clear kg
     rename World=>wo
     go_loopw [3,7] (fun b i wr=>∃ j:Nat,j≤2∧i=.int .i64 (j:Int)∧St u wr b (L3++(List.range j).flatMap (fun j=>rowB (gRow g j))) (1008+144*q+72*j)) (fun _ i _=>2 - (intOf i).toNat)
     case atStart=>exact ⟨0,by omega,rfl,by simpa using HST.out⟩
     case round =>
      obtain ⟨j,hj,rfl,hst⟩:=hrel
      have HST:=Lib.hid hst
      clear hst
      by_cases hlj:j < 2
      ·obtain ⟨⟨xa,xcap⟩,xs,xn,hxr,hxn,hx8,hir,hcell⟩:=KR.out j hlj
       have HCE:=Lib.hid hcell
       have HIR:=Lib.hid hir
       have HXN:=Lib.hid hxn
       have HRQ:Hid ((List.range (j+1)).flatMap (fun j=>rowB (gRow g j))=(List.range j).flatMap (fun j=>rowB (gRow g j))++rowB xs):=Lib.hid (by rw [List.range_succ,List.flatMap_append,List.flatMap_singleton,hxr])
       clear hcell hir hxn hxr
       generalize (List.range j).flatMap (fun j=>rowB (gRow g j))=Rj at HST HRQ
       have HLW:Hid (∀ W,Below wr.heap.size wr W→Below u.heap.size u W):=Lib.hid (fun W hb=>HST.out.low.trans (hb.mono HST.out.low.size))
       go_upto_region 16 with fail
       refine wp_region_held (S:=fun w'=>Below wr.heap.size wr w') (by kernel_rfl) ?_
       have hS:Below wr.heap.size wr { wr with drawn:=wr.drawn+1 }:=(Below.refl _ _).drew
       have hst:=HST.out.mem hS
       generalize ({ wr with drawn:=wr.drawn+1 }:World)=V at hS hst ⊢
       have HSV:=Lib.hid hst
       clear hst HST
       refine Held.take (i:=0) (some 75) rfl (v:=?_) rfl (by kernel_rfl) (by kernel_rfl) (by kernel_rfl) (fun _ _ _ h=>h) (Or.inl ⟨by rfl,?_⟩) hS ?_
       rotate_left
       ·intro w' hw'
        go_simp
        try with_reducible rfl
       (try dsimp only [Act.put]);(try simp only [List.setIfInBounds_toArray,List.set_cons_zero,List.set_cons_succ])
       refine Held.take (i:=1) (some 76) rfl (v:=?_) rfl (by kernel_rfl) (by kernel_rfl) (by kernel_rfl) (fun _ _ _ h=>h) (Or.inl ⟨by rfl,?_⟩) hS ?_
       rotate_left
       ·intro w' hw'
        go_simp
        try with_reducible rfl
       (try dsimp only [Act.put]);(try simp only [List.setIfInBounds_toArray,List.set_cons_zero,List.set_cons_succ])
       refine Held.take (i:=2) (some 77) rfl (v:=?_) rfl (by kernel_rfl) (by kernel_rfl) (by kernel_rfl) (fun _ _ _ h=>h) (Or.inl ⟨by rfl,?_⟩) hS ?_
       rotate_left
       ·intro w' hw'
        have cf0:=(fun w' hw'=>CG.out w' (HLW.out w' hw')) w' hw'
        go_simp
        try with_reducible rfl
       (try dsimp only [Act.put]);(try simp only [List.setIfInBounds_toArray,List.set_cons_zero,List.set_cons_succ])
       refine Held.take (i:=3) (some 78) rfl (v:=?_) rfl (by kernel_rfl) (by kernel_rfl) (by kernel_rfl) (fun _ _ _ h=>h) (Or.inl ⟨by rfl,?_⟩) hS ?_
       rotate_left
       ·intro w' hw'
        go_simp
        try with_reducible rfl
       (try dsimp only [Act.put]);(try simp only [List.setIfInBounds_toArray,List.set_cons_zero,List.set_cons_succ])
       refine Held.take (i:=4) (some 79) rfl (v:=?_) rfl (by kernel_rfl) (by kernel_rfl) (by kernel_rfl) (fun _ _ _ h=>h) (Or.inl ⟨by rfl,?_⟩) hS ?_
       rotate_left
       ·intro w' hw'
        go_simp
        try with_reducible rfl
       (try dsimp only [Act.put]);(try simp only [List.setIfInBounds_toArray,List.set_cons_zero,List.set_cons_succ])
       refine Held.take (i:=5) (some 80) rfl (v:=?_) rfl (by kernel_rfl) (by kernel_rfl) (by kernel_rfl) (fun _ _ _ h=>h) (Or.inl ⟨by rfl,?_⟩) hS ?_
       rotate_left
       ·intro w' hw'
        go_simp
        try with_reducible rfl
       (try dsimp only [Act.put]);(try simp only [List.setIfInBounds_toArray,List.set_cons_zero,List.set_cons_succ])
       refine Held.take (i:=6) (some 81) rfl (v:=?_) rfl (by kernel_rfl) (by kernel_rfl) (by kernel_rfl) (fun _ _ _ h=>h) (Or.inl ⟨by rfl,?_⟩) hS ?_
       rotate_left
       ·intro w' hw'
        go_simp
        try with_reducible rfl
       (try dsimp only [Act.put]);(try simp only [List.setIfInBounds_toArray,List.set_cons_zero,List.set_cons_succ])
       refine Held.take (i:=7) (some 82) rfl (v:=?_) rfl (by kernel_rfl) (by kernel_rfl) (by kernel_rfl) (fun _ _ _ h=>h) (Or.inl ⟨by rfl,?_⟩) hS ?_
       rotate_left
       ·intro w' hw'
        have cf0:=(fun w' hw'=>HCE.out w' (HLW.out w' hw')) w' hw'
        go_simp
        try with_reducible rfl
       (try dsimp only [Act.put]);(try simp only [List.setIfInBounds_toArray,List.set_cons_zero,List.set_cons_succ])
       refine Held.take (i:=8) (some 83) rfl (v:=?_) rfl (by kernel_rfl) (by kernel_rfl) (by kernel_rfl) (fun _ _ _ h=>h) (Or.inl ⟨by rfl,?_⟩) hS ?_
       rotate_left
       ·intro w' hw'
        go_simp
        try with_reducible rfl
       (try dsimp only [Act.put]);(try simp only [List.setIfInBounds_toArray,List.set_cons_zero,List.set_cons_succ])
       refine Held.take (i:=10) (some 85) rfl (v:=?_) rfl (by kernel_rfl) (by kernel_rfl) (by kernel_rfl) (fun _ _ _ h=>h) (Or.inl ⟨by rfl,?_⟩) hS ?_
       rotate_left
       ·intro w' hw'
        go_simp
        try with_reducible rfl
       (try dsimp only [Act.put]);(try simp only [List.setIfInBounds_toArray,List.set_cons_zero,List.set_cons_succ])
       refine Held.take (i:=11) (some 86) rfl (v:=?_) rfl (by kernel_rfl) (by kernel_rfl) (by kernel_rfl) (fun _ _ _ h=>h) (Or.inl ⟨by rfl,?_⟩) hS ?_
       rotate_left
       ·intro w' hw'
        have cf0:=(fun w' hw'=>CG.out w' (HLW.out w' hw')) w' hw'
        go_simp
        try with_reducible rfl
       (try dsimp only [Act.put]);(try simp only [List.setIfInBounds_toArray,List.set_cons_zero,List.set_cons_succ])
       refine Held.take (i:=12) (some 87) rfl (v:=?_) rfl (by kernel_rfl) (by kernel_rfl) (by kernel_rfl) (fun _ _ _ h=>h) (Or.inl ⟨by rfl,?_⟩) hS ?_
       rotate_left
       ·intro w' hw'
        go_simp
        try with_reducible rfl
       (try dsimp only [Act.put]);(try simp only [List.setIfInBounds_toArray,List.set_cons_zero,List.set_cons_succ])
       refine Held.take (i:=13) (some 88) rfl (v:=?_) rfl (by kernel_rfl) (by kernel_rfl) (by kernel_rfl) (fun _ _ _ h=>h) (Or.inl ⟨by rfl,?_⟩) hS ?_
       rotate_left
       ·intro w' hw'
        go_simp
        try with_reducible rfl
       (try dsimp only [Act.put]);(try simp only [List.setIfInBounds_toArray,List.set_cons_zero,List.set_cons_succ])
       refine Held.take (i:=14) (some 89) rfl (v:=?_) rfl (by kernel_rfl) (by kernel_rfl) (by kernel_rfl) (fun _ _ _ h=>h) (Or.inl ⟨by rfl,?_⟩) hS ?_
       rotate_left
       ·intro w' hw'
        go_simp
        try with_reducible rfl
       (try dsimp only [Act.put]);(try simp only [List.setIfInBounds_toArray,List.set_cons_zero,List.set_cons_succ])
       refine Held.take (i:=15) (some 90) rfl (v:=?_) rfl (by kernel_rfl) (by kernel_rfl) (by kernel_rfl) (fun _ _ _ h=>h) (Or.inl ⟨by rfl,?_⟩) hS ?_
       rotate_left
       ·intro w' hw'
        go_simp
        try with_reducible rfl
       (try dsimp only [Act.put]);(try simp only [List.setIfInBounds_toArray,List.set_cons_zero,List.set_cons_succ])
       refine Held.take (i:=16) (some 91) rfl (v:=?_) rfl (by kernel_rfl) (by kernel_rfl) (by kernel_rfl) (fun _ _ _ h=>h) (Or.inl ⟨by rfl,?_⟩) hS ?_
       rotate_left
       ·intro w' hw'
        have cf0:=(fun w' hw'=>HCE.out w' (HLW.out w' hw')) w' hw'
        go_simp
        try with_reducible rfl
       (try dsimp only [Act.put]);(try simp only [List.setIfInBounds_toArray,List.set_cons_zero,List.set_cons_succ])
       refine wpAnyH_ready (rs:=[9]) (by kernel_rfl) (by simp) (AllReadyH.cons rfl (fun K hK=>?_) AllReadyH.nil)
       go_simp
       refine (st_put HSV.out (by omega) 1 _).mono ?_
       rintro e V2 ⟨v2,rfl,hst,hb⟩
       have hq:=hS.trans (hb.mono hS.size)
       have HSV2:=Lib.hid hst
       clear hS hb hst HSV
       rename World=>V
       rename Value=>v2
       have HSV:=HSV2
       clear HSV2
       go_simp
       refine hK.out _ _ hq (fun hS=>?_)
       clear hK K hq
       (try dsimp only [Act.put]);(try simp only [List.setIfInBounds_toArray,List.set_cons_zero,List.set_cons_succ])
       refine wpAnyH_ready (rs:=[17]) (by kernel_rfl) (by simp) (AllReadyH.cons rfl (fun K hK=>?_) AllReadyH.nil)
       go_simp
       refine (st_puts (n:=xn) (s:=⟨xa,xcap⟩) HSV.out HXN.out (HIR.out.below HSV.out.low) (by omega) 1).mono ?_
       rintro e V2 ⟨v2,rfl,hst,hb⟩
       have hq:=hS.trans (hb.mono hS.size)
       have HSV2:=Lib.hid hst
       clear hS hb hst HSV
       rename World=>V
       rename Value=>v2
       have HSV:=HSV2
       clear HSV2
       go_simp
       refine hK.out _ _ hq (fun hS=>?_)
       clear hK K hq
       (try dsimp only [Act.put]);(try simp only [List.setIfInBounds_toArray,List.set_cons_zero,List.set_cons_succ])
       refine Held.take (i:=18) (some 3) rfl (v:=?_) rfl (by kernel_rfl) (by kernel_rfl) (by kernel_rfl) (fun _ _ _ h=>h) (Or.inl ⟨by rfl,?_⟩) hS ?_
       rotate_left
       ·intro w' hw'
        go_simp
        try with_reducible rfl
       (try dsimp only [Act.put]);(try simp only [List.setIfInBounds_toArray,List.set_cons_zero,List.set_cons_succ])
       refine wpAnyH_done (by kernel_rfl) ?_ _
       go_wp2
       go_roundw
       case rel=>exact ⟨j+1,by omega,by go_num,by
        have:=HSV.out
        rw [HRQ.out]
        have e:((L3++Rj)++low (lim 1 8) (xn:Int))++puts (lim 1 8) xs=L3++(Rj++rowB xs):=by
         simp only [List.append_assoc,rowB,show lim 1 8=1 from rfl,HXN.out]
        rw [e] at this
        exact ⟨this.bv,this.low,by have:=this.len;omega⟩⟩
       case measure=>simp [intOf];omega
      ·obtain rfl:j=2:=by omega
       have hst:St u wr u3 (L2++(Gq++grB g.data)) (1008+144*(q+1)):=by
        have:=HST.out
        rw [show (List.range 2).flatMap (fun j=>rowB (gRow g j))=grB g.data from by simp [show List.range 2=[0,1] from rfl,grB,gRow,Gr.data],EL3.out,List.append_assoc] at this
        exact ⟨this.bv,this.low,by have:=this.len;omega⟩
       have HSX:=Lib.hid hst
       clear hst HST
       go_wp2
       go_roundw
       case rel=>exact ⟨q+1,by omega,by go_num,by rw [HGQ.out];exact HSX.out⟩
       case measure=>simp [intOf];omega
    ·obtain rfl:nG=q:=by omega
     obtain ⟨L4,hL4⟩:∃ x,x=L2++T.groups.flatMap grB:=⟨_,rfl⟩
     have hst:St u wr u3 L4 1584:=by
      have:=HST.out
      rw [show (List.range nG).flatMap (fun q=>grB (gs.getD q zGr).data)=T.groups.flatMap grB from by rw [NG.out,← HGN.out,range_flat (fun g:Gr=>grB g.data) zGr gs,← HGD.out,List.flatMap_map],← hL4] at this
      exact ⟨this.bv,this.low,by have:=this.len;omega⟩
     have EL4:=Lib.hid hL4
     clear HST hL4
     have HST:=Lib.hid hst
     clear hst
     go_upto_region 17 with fail
     have HLW:Hid (∀ W,Below wr.heap.size wr W→Below u.heap.size u W):=Lib.hid (fun W hb=>HST.out.low.trans (hb.mono HST.out.low.size))
     have CFR:Hid (∀ W,Below u.heap.size u W→IntRow W ⟨some ⟨tb,105,none⟩,8⟩ T.conflict):=Lib.hid (fun W hb=>May.ints_in ((hb.block tb (Array.getElem?_eq_some_iff.1 HBX.out).1).trans HBX.out) 105 8 T.conflict HC.out.conflict HTT.out.cf (by decide))
     refine wp_region_held (S:=fun w'=>Below wr.heap.size wr w') (by kernel_rfl) ?_
     have hS:Below wr.heap.size wr { wr with drawn:=wr.drawn+1 }:=(Below.refl _ _).drew
     have hst:=HST.out.mem hS
     generalize ({ wr with drawn:=wr.drawn+1 }:World)=V at hS hst ⊢
     have HSV:=Lib.hid hst
     clear hst HST
     refine Held.take (i:=0) (some 93) rfl (v:=?_) rfl (by kernel_rfl) (by kernel_rfl) (by kernel_rfl) (fun _ _ _ h=>h) (Or.inl ⟨by rfl,?_⟩) hS ?_
     rotate_left
     ·intro w' hw'
      go_simp
      try with_reducible rfl
     (try dsimp only [Act.put]);(try simp only [List.setIfInBounds_toArray,List.set_cons_zero,List.set_cons_succ])
     refine Held.take (i:=1) (some 94) rfl (v:=?_) rfl (by kernel_rfl) (by kernel_rfl) (by kernel_rfl) (fun _ _ _ h=>h) (Or.inl ⟨by rfl,?_⟩) hS ?_
     rotate_left
     ·intro w' hw'
      go_simp
      try with_reducible rfl
     (try dsimp only [Act.put]);(try simp only [List.setIfInBounds_toArray,List.set_cons_zero,List.set_cons_succ])
     refine Held.take (i:=2) (some 95) rfl (v:=?_) rfl (by kernel_rfl) (by kernel_rfl) (by kernel_rfl) (fun _ _ _ h=>h) (Or.inl ⟨by rfl,?_⟩) hS ?_
     rotate_left
     ·intro w' hw'
      go_simp
      try with_reducible rfl
     (try dsimp only [Act.put]);(try simp only [List.setIfInBounds_toArray,List.set_cons_zero,List.set_cons_succ])
     refine Held.take (i:=4) (some 97) rfl (v:=?_) rfl (by kernel_rfl) (by kernel_rfl) (by kernel_rfl) (fun _ _ _ h=>h) (Or.inl ⟨by rfl,?_⟩) hS ?_
     rotate_left
     ·intro w' hw'
      go_simp
      try with_reducible rfl
     (try dsimp only [Act.put]);(try simp only [List.setIfInBounds_toArray,List.set_cons_zero,List.set_cons_succ])
     refine Held.take (i:=5) (some 98) rfl (v:=?_) rfl (by kernel_rfl) (by kernel_rfl) (by kernel_rfl) (fun _ _ _ h=>h) (Or.inl ⟨by rfl,?_⟩) hS ?_
     rotate_left
     ·intro w' hw'
      have cf0:=(fun w' hw'=>CD.out w' (HLW.out w' hw')) w' hw'
      go_simp
      try with_reducible rfl
     (try dsimp only [Act.put]);(try simp only [List.setIfInBounds_toArray,List.set_cons_zero,List.set_cons_succ])
     refine Held.take (i:=6) (some 99) rfl (v:=?_) rfl (by kernel_rfl) (by kernel_rfl) (by kernel_rfl) (fun _ _ _ h=>h) (Or.inl ⟨by rfl,?_⟩) hS ?_
     rotate_left
     ·intro w' hw'
      go_simp
      try with_reducible rfl
     (try dsimp only [Act.put]);(try simp only [List.setIfInBounds_toArray,List.set_cons_zero,List.set_cons_succ])
     refine wpAnyH_ready (rs:=[3]) (by kernel_rfl) (by simp) (AllReadyH.cons rfl (fun K hK=>?_) AllReadyH.nil)
     go_simp
     refine (st_puts (n:=8) (s:=⟨some ⟨tb,105,none⟩,8⟩) HSV.out HTT.out.cf (CFR.out V HSV.out.low) (by omega) 1).mono ?_
     rintro e V2 ⟨v2,rfl,hst,hb⟩
     have hq:=hS.trans (hb.mono hS.size)
     have HSV2:=Lib.hid hst
     clear hS hb hst HSV
     rename World=>V
     rename Value=>v2
     have HSV:=HSV2
     clear HSV2
     go_simp
     refine hK.out _ _ hq (fun hS=>?_)
     clear hK K hq
     (try dsimp only [Act.put]);(try simp only [List.setIfInBounds_toArray,List.set_cons_zero,List.set_cons_succ])
     refine wpAnyH_ready (rs:=[7]) (by kernel_rfl) (by simp) (AllReadyH.cons rfl (fun K hK=>?_) AllReadyH.nil)
     go_simp
     refine (st_put HSV.out (by omega) 1 _).mono ?_
     rintro e V2 ⟨v2,rfl,hst,hb⟩
     have hq:=hS.trans (hb.mono hS.size)
     have HSV2:=Lib.hid hst
     clear hS hb hst HSV
     rename World=>V
     rename Value=>v2
     have HSV:=HSV2
     clear HSV2
     go_simp
     refine hK.out _ _ hq (fun hS=>?_)
     clear hK K hq
     (try dsimp only [Act.put]);(try simp only [List.setIfInBounds_toArray,List.set_cons_zero,List.set_cons_succ])
     refine Held.take (i:=8) (some 3) rfl (v:=?_) rfl (by kernel_rfl) (by kernel_rfl) (by kernel_rfl) (fun _ _ _ h=>h) (Or.inl ⟨by rfl,?_⟩) hS ?_
     rotate_left
     ·intro w' hw'
      go_simp
      try with_reducible rfl
     (try dsimp only [Act.put]);(try simp only [List.setIfInBounds_toArray,List.set_cons_zero,List.set_cons_succ])
     refine wpAnyH_done (by kernel_rfl) ?_ _
     rename World=>wv
     obtain ⟨L5,hL5⟩:∃ x,x=(L4++puts (lim 1 8) T.conflict)++low (lim 1 8) (nD:Int):=⟨_,rfl⟩
     have HSW:Hid (St u wv v2 L5 (1584+8*8+8)):=Lib.hid (by rw [hL5];exact HSV.out)
     have EL5:=Lib.hid hL5
     clear HSV hL5 kg HGB G8
     obtain ⟨db,dof,HDB⟩:∃ b o,Hid (0 < nD→da=some ⟨b,o,none⟩):=by
      by_cases h0:0 < T.dets.length
      ·obtain ⟨x,hx,hl⟩:=HTT.out.dets.at (List.getElem?_eq_getElem h0)
       rw [Nat.zero_mul,add_zero] at hl
       exact ⟨x.block,x.off,Lib.hid (fun _=>by rw [show da=some x from hx,← Po.spot_of hl (by simp [Det.cells])])⟩
      ·exact ⟨0,0,Lib.hid (fun h1=>absurd h1 (by rw [ND.out];exact h0))⟩
     go_wp2_with fail
     go_loopw [3,8] (fun b i wr=>∃ q:Nat,q≤nD∧i=.int .i64 (q:Int)∧St u wr b (L5++(List.range q).flatMap (fun q=>detB (T.dets.getD q default))) (1656+56*q)) (fun _ i _=>nD - (intOf i).toNat)
     case atStart=>exact ⟨0,by omega,rfl,by simpa using HSW.out⟩
     case round =>
      obtain ⟨q,hq,rfl,hst⟩:=hrel
      have HST:=Lib.hid hst
      clear hst HSW
      have kd:=CD.out wr HST.out.low
      by_cases hlt:q < nD
      ·obtain rfl:da=some ⟨db,dof,none⟩:=HDB.out (by omega)
       have hqd:q < T.dets.length:=by rw [← ND.out];exact hlt
       obtain ⟨x,hx,hl⟩:=HTT.out.dets.at (List.getElem?_eq_getElem hqd)
       obtain rfl:=Option.some.inj hx
       rw [Po.add_none] at hl
       have hd0:T.dets.getD q default=T.dets[q]:=by simp [List.getD,List.getElem?_eq_getElem hqd]
       have HDQ:Hid ((List.range (q+1)).flatMap (fun q=>detB (T.dets.getD q default))=(List.range q).flatMap (fun q=>detB (T.dets.getD q default))++detB T.dets[q]):=Lib.hid (by rw [List.range_succ,List.flatMap_append,List.flatMap_singleton,hd0])
       have HDL:=Lib.hid (hl.below HST.out.low)
       clear hx hl hd0
       generalize T.dets[q]=d at HDQ HDL
       clear hqd
       generalize (List.range q).flatMap (fun q=>detB (T.dets.getD q default))=Gq at HST HDQ
       have ID:(Tryz.prog.info? 71).map (·.size)=some d.cells.length:=infoD
       go_upto_region 22 with (first | (refine Row.wpList_load_lies rfl 71 _ rfl ⟨db,dof+q*7,none⟩ rfl d.cells _ HDL.out Tryz.underlying71 rfl ID ?_) | (refine Row.wpList_store_new rfl 71 _ _ rfl _ _ d.cells.toArray rfl rfl rfl ID rfl (Det.one _) ?_))
       dsimp only [Act.put]
       (try simp only [List.setIfInBounds_toArray,List.set_cons_zero,List.set_cons_succ])
       have hst:=HST.out.mem ((Below.refl _ _).alloc (Nat.le_refl _) (.cells d.cells.toArray 71))
       have hg:=heap_alloc_new wr (.cells d.cells.toArray 71)
       generalize World.alloc wr _=W1 at hst hg ⊢
       generalize wr.heap.size=gx at hg ⊢
       clear HST HDL kd
       have HST:=Lib.hid hst
       have HG:=Lib.hid hg
       clear hst hg
       have CX:Hid (∀ (j:Nat) (x:Value),d.cells[j]?=some x→∀ W,Below W1.heap.size W1 W→W.cell? ⟨gx,j,none⟩=some x):=Lib.hid (fun j x hx W hb=>by rw [cell_of_row _ _ _ _ _ _ ((hb.block gx (Array.getElem?_eq_some_iff.1 HG.out).1).trans HG.out)];simpa using hx)
       have HGL0:Hid (gx < W1.heap.size):=Lib.hid (Array.getElem?_eq_some_iff.1 HG.out).1
       refine wp_region_held (S:=fun w'=>Below W1.heap.size W1 w') (by kernel_rfl) ?_
       have hS:Below W1.heap.size W1 { W1 with drawn:=W1.drawn+1 }:=(Below.refl _ _).drew
       have hst:=HST.out.mem hS
       generalize ({ W1 with drawn:=W1.drawn+1 }:World)=V at hS hst ⊢
       have HSV:=Lib.hid hst
       clear hst HST
       refine Held.take (i:=0) (some 113) rfl (v:=?_) rfl (by kernel_rfl) (by kernel_rfl) (by kernel_rfl) (fun _ _ _ h=>h) (Or.inl ⟨by rfl,?_⟩) hS ?_
       rotate_left
       ·intro w' hw'
        go_simp
        try with_reducible rfl
       (try dsimp only [Act.put]);(try simp only [List.setIfInBounds_toArray,List.set_cons_zero,List.set_cons_succ])
       refine Held.take (i:=1) (some 114) rfl (v:=?_) rfl (by kernel_rfl) (by kernel_rfl) (by kernel_rfl) (fun _ _ _ h=>h) (Or.inl ⟨by rfl,?_⟩) hS ?_
       rotate_left
       ·intro w' hw'
        go_simp
        try with_reducible rfl
       (try dsimp only [Act.put]);(try simp only [List.setIfInBounds_toArray,List.set_cons_zero,List.set_cons_succ])
       refine Held.take (i:=2) (some 115) rfl (v:=?_) rfl (by kernel_rfl) (by kernel_rfl) (by kernel_rfl) (fun _ _ _ h=>h) (Or.inl ⟨by rfl,?_⟩) hS ?_
       rotate_left
       ·intro w' hw'
        have cf0:=(CX.out 0 _ rfl) w' hw'
        go_simp
        try with_reducible rfl
       (try dsimp only [Act.put]);(try simp only [List.setIfInBounds_toArray,List.set_cons_zero,List.set_cons_succ])
       refine Held.take (i:=4) (some 117) rfl (v:=?_) rfl (by kernel_rfl) (by kernel_rfl) (by kernel_rfl) (fun _ _ _ h=>h) (Or.inl ⟨by rfl,?_⟩) hS ?_
       rotate_left
       ·intro w' hw'
        go_simp
        try with_reducible rfl
       (try dsimp only [Act.put]);(try simp only [List.setIfInBounds_toArray,List.set_cons_zero,List.set_cons_succ])
       refine Held.take (i:=5) (some 118) rfl (v:=?_) rfl (by kernel_rfl) (by kernel_rfl) (by kernel_rfl) (fun _ _ _ h=>h) (Or.inl ⟨by rfl,?_⟩) hS ?_
       rotate_left
       ·intro w' hw'
        have cf0:=(CX.out 1 _ rfl) w' hw'
        go_simp
        try with_reducible rfl
       (try dsimp only [Act.put]);(try simp only [List.setIfInBounds_toArray,List.set_cons_zero,List.set_cons_succ])
       refine Held.take (i:=7) (some 120) rfl (v:=?_) rfl (by kernel_rfl) (by kernel_rfl) (by kernel_rfl) (fun _ _ _ h=>h) (Or.inl ⟨by rfl,?_⟩) hS ?_
       rotate_left
       ·intro w' hw'
        go_simp
        try with_reducible rfl
       (try dsimp only [Act.put]);(try simp only [List.setIfInBounds_toArray,List.set_cons_zero,List.set_cons_succ])
       refine Held.take (i:=8) (some 121) rfl (v:=?_) rfl (by kernel_rfl) (by kernel_rfl) (by kernel_rfl) (fun _ _ _ h=>h) (Or.inl ⟨by rfl,?_⟩) hS ?_
       rotate_left
       ·intro w' hw'
        have cf0:=(CX.out 2 _ rfl) w' hw'
        go_simp
        try with_reducible rfl
       (try dsimp only [Act.put]);(try simp only [List.setIfInBounds_toArray,List.set_cons_zero,List.set_cons_succ])
       refine Held.take (i:=10) (some 123) rfl (v:=?_) rfl (by kernel_rfl) (by kernel_rfl) (by kernel_rfl) (fun _ _ _ h=>h) (Or.inl ⟨by rfl,?_⟩) hS ?_
       rotate_left
       ·intro w' hw'
        go_simp
        try with_reducible rfl
       (try dsimp only [Act.put]);(try simp only [List.setIfInBounds_toArray,List.set_cons_zero,List.set_cons_succ])
       refine Held.take (i:=11) (some 124) rfl (v:=?_) rfl (by kernel_rfl) (by kernel_rfl) (by kernel_rfl) (fun _ _ _ h=>h) (Or.inl ⟨by rfl,?_⟩) hS ?_
       rotate_left
       ·intro w' hw'
        have cf0:=(CX.out 3 _ rfl) w' hw'
        go_simp
        try with_reducible rfl
       (try dsimp only [Act.put]);(try simp only [List.setIfInBounds_toArray,List.set_cons_zero,List.set_cons_succ])
       refine Held.take (i:=13) (some 126) rfl (v:=?_) rfl (by kernel_rfl) (by kernel_rfl) (by kernel_rfl) (fun _ _ _ h=>h) (Or.inl ⟨by rfl,?_⟩) hS ?_
       rotate_left
       ·intro w' hw'
        go_simp
        try with_reducible rfl
       (try dsimp only [Act.put]);(try simp only [List.setIfInBounds_toArray,List.set_cons_zero,List.set_cons_succ])
       refine Held.take (i:=14) (some 127) rfl (v:=?_) rfl (by kernel_rfl) (by kernel_rfl) (by kernel_rfl) (fun _ _ _ h=>h) (Or.inl ⟨by rfl,?_⟩) hS ?_
       rotate_left
       ·intro w' hw'
        have cf0:=(CX.out 4 _ rfl) w' hw'
        go_simp
        try with_reducible rfl
       (try dsimp only [Act.put]);(try simp only [List.setIfInBounds_toArray,List.set_cons_zero,List.set_cons_succ])
       refine wpAnyH_ready (rs:=[3]) (by kernel_rfl) (by simp) (AllReadyH.cons rfl (fun K hK=>?_) AllReadyH.nil)
       go_simp
       refine (st_put HSV.out (by omega) 1 _).mono ?_
       rintro e V2 ⟨v2,rfl,hst,hb⟩
       have hq:=hS.trans (hb.mono hS.size)
       have HSV2:=Lib.hid hst
       clear hS hb hst HSV
       rename World=>V
       rename Value=>v2
       have HSV:=HSV2
       clear HSV2
       go_simp
       refine hK.out _ _ hq (fun hS=>?_)
       clear hK K hq
       (try dsimp only [Act.put]);(try simp only [List.setIfInBounds_toArray,List.set_cons_zero,List.set_cons_succ])
       refine wpAnyH_ready (rs:=[6]) (by kernel_rfl) (by simp) (AllReadyH.cons rfl (fun K hK=>?_) AllReadyH.nil)
       go_simp
       refine (st_putf HSV.out (by omega) _).mono ?_
       rintro e V2 ⟨v2,rfl,hst,hb⟩
       have hq:=hS.trans (hb.mono hS.size)
       have HSV2:=Lib.hid hst
       clear hS hb hst HSV
       rename World=>V
       rename Value=>v2
       have HSV:=HSV2
       clear HSV2
       go_simp
       refine hK.out _ _ hq (fun hS=>?_)
       clear hK K hq
       (try dsimp only [Act.put]);(try simp only [List.setIfInBounds_toArray,List.set_cons_zero,List.set_cons_succ])
       refine wpAnyH_ready (rs:=[9]) (by kernel_rfl) (by simp) (AllReadyH.cons rfl (fun K hK=>?_) AllReadyH.nil)
       go_simp
       refine (st_putf HSV.out (by omega) _).mono ?_
       rintro e V2 ⟨v2,rfl,hst,hb⟩
       have hq:=hS.trans (hb.mono hS.size)
       have HSV2:=Lib.hid hst
       clear hS hb hst HSV
       rename World=>V
       rename Value=>v2
       have HSV:=HSV2
       clear HSV2
       go_simp
       refine hK.out _ _ hq (fun hS=>?_)
       clear hK K hq
       (try dsimp only [Act.put]);(try simp only [List.setIfInBounds_toArray,List.set_cons_zero,List.set_cons_succ])
       refine wpAnyH_ready (rs:=[12]) (by kernel_rfl) (by simp) (AllReadyH.cons rfl (fun K hK=>?_) AllReadyH.nil)
       go_simp
       refine (st_putf HSV.out (by omega) _).mono ?_
       rintro e V2 ⟨v2,rfl,hst,hb⟩
       have hq:=hS.trans (hb.mono hS.size)
       have HSV2:=Lib.hid hst
       clear hS hb hst HSV
       rename World=>V
       rename Value=>v2
       have HSV:=HSV2
       clear HSV2
       go_simp
       refine hK.out _ _ hq (fun hS=>?_)
       clear hK K hq
       (try dsimp only [Act.put]);(try simp only [List.setIfInBounds_toArray,List.set_cons_zero,List.set_cons_succ])
       refine wpAnyH_ready (rs:=[15]) (by kernel_rfl) (by simp) (AllReadyH.cons rfl (fun K hK=>?_) AllReadyH.nil)
       go_simp
       refine (st_putf HSV.out (by omega) _).mono ?_
       rintro e V2 ⟨v2,rfl,hst,hb⟩
       have hq:=hS.trans (hb.mono hS.size)
       have HSV2:=Lib.hid hst
       clear hS hb hst HSV
       rename World=>V
       rename Value=>v2
       have HSV:=HSV2
       clear HSV2
       go_simp
       refine hK.out _ _ hq (fun hS=>?_)
       clear hK K hq
       (try dsimp only [Act.put]);(try simp only [List.setIfInBounds_toArray,List.set_cons_zero,List.set_cons_succ])
       refine Held.take (i:=16) (some 3) rfl (v:=?_) rfl (by kernel_rfl) (by kernel_rfl) (by kernel_rfl) (fun _ _ _ h=>h) (Or.inl ⟨by rfl,?_⟩) hS ?_
       rotate_left
       ·intro w' hw'
        go_simp
        try with_reducible rfl
       (try dsimp only [Act.put]);(try simp only [List.setIfInBounds_toArray,List.set_cons_zero,List.set_cons_succ])
       refine wpAnyH_done (by kernel_rfl) ?_ _
       rename World=>W7
       have k5:=CX.out 5 _ rfl W7 hS
       have k6:=CX.out 6 _ rfl W7 hS
       clear CX hS
       go_wp2_with fail
       refine (st_puts (n:=2) (xs:=[d.maxOn,d.maxOff]) (s:=⟨some ⟨W7.heap.size,0,none⟩,2⟩) (HSV.out.mem ((Below.refl _ _).alloc (Nat.le_refl _) _)) rfl (May.row_new W7 3 [d.maxOn,d.maxOff] 2 rfl (by decide) _ rfl) (by omega) 2).mono ?_
       rintro e W8 ⟨v8,rfl,hst,hb⟩
       have HS8:=Lib.hid hst
       clear hst hb HSV k5 k6
       go_wp2
       go_roundw
       case rel=>exact ⟨q+1,by omega,by go_num,by
        have:=HS8.out
        rw [HDQ.out]
        have e:(((((L5++Gq)++low (lim 1 8) d.phase)++low 8 d.on)++low 8 d.off)++low 8 d.delay)++low 8 d.extend++puts (lim 2 8) [d.maxOn,d.maxOff]=L5++(Gq++detB d):=by
         simp only [List.append_assoc,detB,show lim 1 8=1 from rfl,show lim 2 8=2 from rfl]
        rw [e] at this
        exact ⟨this.bv,this.low,by have:=this.len;omega⟩⟩
       case measure=>simp [intOf];omega
      ·obtain rfl:nD=q:=by omega
       obtain ⟨L6,hL6⟩:∃ x,x=L5++T.dets.flatMap detB:=⟨_,rfl⟩
       have hst:St u wr u3 L6 2600:=by
        have:=HST.out
        rw [show (List.range nD).flatMap (fun q=>detB (T.dets.getD q default))=T.dets.flatMap detB from by rw [ND.out];exact range_flat detB default T.dets,← hL6] at this
        exact ⟨this.bv,this.low,by have:=this.len;omega⟩
       have EL6:=Lib.hid hL6
       clear HST hL6
       have HST:=Lib.hid hst
       clear hst
       have kr:=CR.out wr HST.out.low
       go_wp2_with fail
       clear kd
       refine (st_put HST.out (by omega) 1 _).mono ?_
       rintro e W6b ⟨v6b,rfl,hst,hb⟩
       obtain ⟨L7,hL7⟩:∃ x,x=L6++low (lim 1 8) (nR:Int):=⟨_,rfl⟩
       rw [← hL7] at hst
       have EL7:=Lib.hid hL7
       have HS7:=Lib.hid hst
       clear hL7 hst hb HST kr HDB
       obtain ⟨rb,rof,HRB⟩:∃ b o,Hid (0 < nR→ra=some ⟨b,o,none⟩):=by
        by_cases h0:0 < T.rails.length
        ·obtain ⟨x,hx,hl⟩:=HTT.out.rails.at (List.getElem?_eq_getElem h0)
         rw [Nat.zero_mul,add_zero] at hl
         exact ⟨x.block,x.off,Lib.hid (fun _=>by rw [show ra=some x from hx,← Po.spot_of hl (by simp [Rl.cells])])⟩
        ·exact ⟨0,0,Lib.hid (fun h1=>absurd h1 (by rw [NR.out];exact h0))⟩
       go_wp2_with fail
       go_loopw [3,10] (fun b i wr=>∃ q:Nat,q≤nR∧i=.int .i64 (q:Int)∧St u wr b (L7++(List.range q).flatMap (fun q=>rlB (T.rails.getD q default))) (2608+88*q)) (fun _ i _=>nR - (intOf i).toNat)
       case atStart=>exact ⟨0,by omega,rfl,by simpa using HS7.out⟩
       case round =>
        obtain ⟨q,hq,rfl,hst⟩:=hrel
        have HST:=Lib.hid hst
        clear hst HS7
        have kr:=CR.out wr HST.out.low
        by_cases hlt:q < nR
        ·obtain rfl:ra=some ⟨rb,rof,none⟩:=HRB.out (by omega)
         have hqd:q < T.rails.length:=by rw [← NR.out];exact hlt
         obtain ⟨x,hx,hl⟩:=HTT.out.rails.at (List.getElem?_eq_getElem hqd)
         obtain rfl:=Option.some.inj hx
         rw [Po.add_none] at hl
         have hd0:T.rails.getD q default=T.rails[q]:=by simp [List.getD,List.getElem?_eq_getElem hqd]
         have HDQ:Hid ((List.range (q+1)).flatMap (fun q=>rlB (T.rails.getD q default))=(List.range q).flatMap (fun q=>rlB (T.rails.getD q default))++rlB T.rails[q]):=Lib.hid (by rw [List.range_succ,List.flatMap_append,List.flatMap_singleton,hd0])
         have HDL:=Lib.hid (hl.below HST.out.low)
         clear hx hl hd0
         generalize T.rails[q]=d at HDQ HDL
         clear hqd
         generalize (List.range q).flatMap (fun q=>rlB (T.rails.getD q default))=Gq at HST HDQ
         have ID:(Tryz.prog.info? 75).map (·.size)=some d.cells.length:=infoR
         go_upto_region 29 with (first | (refine Row.wpList_load_lies rfl 75 _ rfl ⟨rb,rof+q*11,none⟩ rfl d.cells _ HDL.out Tryz.underlying75 rfl ID ?_) | (refine Row.wpList_store_new rfl 75 _ _ rfl _ _ d.cells.toArray rfl rfl rfl ID rfl (Rl.one _) ?_))
         dsimp only [Act.put]
         (try simp only [List.setIfInBounds_toArray,List.set_cons_zero,List.set_cons_succ])
         have hst:=HST.out.mem ((Below.refl _ _).alloc (Nat.le_refl _) (.cells d.cells.toArray 75))
         have hg:=heap_alloc_new wr (.cells d.cells.toArray 75)
         generalize World.alloc wr _=W1 at hst hg ⊢
         generalize wr.heap.size=gx at hg ⊢
         clear HST HDL kr
         have HST:=Lib.hid hst
         have HG:=Lib.hid hg
         clear hst hg
         have CX:Hid (∀ (j:Nat) (x:Value),d.cells[j]?=some x→∀ W,Below W1.heap.size W1 W→W.cell? ⟨gx,j,none⟩=some x):=Lib.hid (fun j x hx W hb=>by rw [cell_of_row _ _ _ _ _ _ ((hb.block gx (Array.getElem?_eq_some_iff.1 HG.out).1).trans HG.out)];simpa using hx)
         have k0:=CX.out 0 _ rfl W1 (Below.refl _ _)
         have k1:=CX.out 1 _ rfl W1 (Below.refl _ _)
         have k2:=CX.out 2 _ rfl W1 (Below.refl _ _)
         have k3:=CX.out 3 _ rfl W1 (Below.refl _ _)
         go_wp2_with fail
         refine (st_puts (n:=4) (xs:=[d.bars,d.clear,d.dwell,d.exit]) (s:=⟨some ⟨W1.heap.size,0,none⟩,4⟩) (HST.out.mem ((Below.refl _ _).alloc (Nat.le_refl _) _)) rfl (May.row_new W1 3 [d.bars,d.clear,d.dwell,d.exit] 4 rfl (by decide) _ rfl) (by omega) 1).mono ?_
         rintro e W2 ⟨v2,rfl,hst,hb⟩
         have HS2:=Lib.hid hst
         have hb2:Below W1.heap.size W1 W2:=((Below.refl _ _).alloc (Nat.le_refl _) _).trans (hb.mono (by simp))
         have HB2:=Lib.hid hb2
         clear hst hb hb2 HST k0 k1 k2 k3
         have k4:=CX.out 4 _ rfl W2 HB2.out
         have k5:=CX.out 5 _ rfl W2 HB2.out
         have k6:=CX.out 6 _ rfl W2 HB2.out
         have k7:=CX.out 7 _ rfl W2 HB2.out
         have k8:=CX.out 8 _ rfl W2 HB2.out
         have k9:=CX.out 9 _ rfl W2 HB2.out
         go_wp2_with fail
         refine (st_puts (n:=6) (xs:=[d.delay,d.green,d.foot,d.hold,d.stay,d.most]) (s:=⟨some ⟨W2.heap.size,0,none⟩,6⟩) (HS2.out.mem ((Below.refl _ _).alloc (Nat.le_refl _) _)) rfl (May.row_new W2 3 [d.delay,d.green,d.foot,d.hold,d.stay,d.most] 6 rfl (by decide) _ rfl) (by omega) 2).mono ?_
         rintro e W3 ⟨v3,rfl,hst,hb⟩
         have HS3:=Lib.hid hst
         have hb3:Below W2.heap.size W2 W3:=((Below.refl _ _).alloc (Nat.le_refl _) _).trans (hb.mono (by simp))
         have HB3:=Lib.hid (HB2.out.trans (hb3.mono HB2.out.size))
         clear hst hb hb3 HS2 k4 k5 k6 k7 k8 k9 HB2
         have k10:=CX.out 10 _ rfl W3 HB3.out
         go_wp2_with fail
         refine (st_put HS3.out (by omega) 4 _).mono ?_
         rintro e W8 ⟨v8,rfl,hst,hb⟩
         have HS8:=Lib.hid hst
         clear hst hb HS3 k10 CX
         go_wp2
         go_roundw
         case rel=>exact ⟨q+1,by omega,by go_num,by
          have:=HS8.out
          rw [HDQ.out]
          have e:(((L7++Gq)++puts (lim 1 8) [d.bars,d.clear,d.dwell,d.exit])++puts (lim 2 8) [d.delay,d.green,d.foot,d.hold,d.stay,d.most])++low (lim 4 8) d.limit=L7++(Gq++rlB d):=by
           simp only [List.append_assoc,rlB,show lim 1 8=1 from rfl,show lim 2 8=2 from rfl,show lim 4 8=4 from rfl]
           simp [puts]
          rw [e] at this
          exact ⟨this.bv,this.low,by have:=this.len;omega⟩⟩
         case measure=>simp [intOf];omega
        ·obtain rfl:nR=q:=by omega
         obtain ⟨L8,hL8⟩:∃ x,x=L7++T.rails.flatMap rlB:=⟨_,rfl⟩
         have hst:St u wr u3 L8 3000:=by
          have:=HST.out
          rw [show (List.range nR).flatMap (fun q=>rlB (T.rails.getD q default))=T.rails.flatMap rlB from by rw [NR.out];exact range_flat rlB default T.rails,← hL8] at this
          exact ⟨this.bv,this.low,by have:=this.len;omega⟩
         have EL8:=Lib.hid hL8
         clear HST hL8
         have HST:=Lib.hid hst
         clear hst
         have ks:=CS.out wr HST.out.low
         go_wp2_with fail
         clear kr
         refine (st_put HST.out (by omega) 1 _).mono ?_
         rintro e W6c ⟨v6c,rfl,hst,hb⟩
         obtain ⟨L9,hL9⟩:∃ x,x=L8++low (lim 1 8) (nS:Int):=⟨_,rfl⟩
         rw [← hL9] at hst
         have EL9:=Lib.hid hL9
         have HS9:=Lib.hid hst
         clear hL9 hst hb HST ks HRB
         obtain ⟨sb,sof,HSB⟩:∃ b o,Hid (0 < nS→sa=some ⟨b,o,none⟩):=by
          by_cases h0:0 < T.buses.length
          ·obtain ⟨x,hx,hl⟩:=HTT.out.buses.at (List.getElem?_eq_getElem h0)
           rw [Nat.zero_mul,add_zero] at hl
           exact ⟨x.block,x.off,Lib.hid (fun _=>by rw [show sa=some x from hx,← Po.spot_of hl (by simp [Bs.cells])])⟩
          ·exact ⟨0,0,Lib.hid (fun h1=>absurd h1 (by rw [NS.out];exact h0))⟩
         go_wp2_with fail
         go_loopw [3,12] (fun b i wr=>∃ q:Nat,q≤nS∧i=.int .i64 (q:Int)∧St u wr b (L9++(List.range q).flatMap (fun q=>bsB (T.buses.getD q default))) (3008+16*q)) (fun _ i _=>nS - (intOf i).toNat)
         case atStart=>exact ⟨0,by omega,rfl,by simpa using HS9.out⟩
         case round =>
          obtain ⟨q,hq,rfl,hst⟩:=hrel
          have HST:=Lib.hid hst
          clear hst HS9
          have ks:=CS.out wr HST.out.low
          by_cases hlt:q < nS
          ·obtain rfl:sa=some ⟨sb,sof,none⟩:=HSB.out (by omega)
           have hqd:q < T.buses.length:=by rw [← NS.out];exact hlt
           obtain ⟨x,hx,hl⟩:=HTT.out.buses.at (List.getElem?_eq_getElem hqd)
           obtain rfl:=Option.some.inj hx
           rw [Po.add_none] at hl
           have hd0:T.buses.getD q default=T.buses[q]:=by simp [List.getD,List.getElem?_eq_getElem hqd]
           have HDQ:Hid ((List.range (q+1)).flatMap (fun q=>bsB (T.buses.getD q default))=(List.range q).flatMap (fun q=>bsB (T.buses.getD q default))++bsB T.buses[q]):=Lib.hid (by rw [List.range_succ,List.flatMap_append,List.flatMap_singleton,hd0])
           have c0:=hl 0 _ rfl
           have c1:=hl 1 _ rfl
           rw [Po.add_none] at c0 c1
           have C0:Hid (∀ W,Below u.heap.size u W→W.cell? ⟨sb,sof+q*2,none⟩=some (I (T.buses[q]).set)):=Lib.hid (fun W hb=>(hb.cell (World.block_lt_of_cell? u _ c0)).trans c0)
           have C1:Hid (∀ W,Below u.heap.size u W→W.cell? ⟨sb,sof+q*2+1,none⟩=some (I (T.buses[q]).lock)):=Lib.hid (fun W hb=>(hb.cell (World.block_lt_of_cell? u _ c1)).trans c1)
           clear hx hl hd0 c0 c1
           generalize T.buses[q]=d at HDQ C0 C1
           clear hqd
           generalize (List.range q).flatMap (fun q=>bsB (T.buses.getD q default))=Gq at HST HDQ
           have HLW:Hid (∀ W,Below wr.heap.size wr W→Below u.heap.size u W):=Lib.hid (fun W hb=>HST.out.low.trans (hb.mono HST.out.low.size))
           go_upto_region 36 with fail
           clear ks
           refine wp_region_held (S:=fun w'=>Below wr.heap.size wr w') (by kernel_rfl) ?_
           have hS:Below wr.heap.size wr { wr with drawn:=wr.drawn+1 }:=(Below.refl _ _).drew
           have hst:=HST.out.mem hS
           generalize ({ wr with drawn:=wr.drawn+1 }:World)=V at hS hst ⊢
           have HSV:=Lib.hid hst
           clear hst HST
           refine Held.take (i:=0) (some 195) rfl (v:=?_) rfl (by kernel_rfl) (by kernel_rfl) (by kernel_rfl) (fun _ _ _ h=>h) (Or.inl ⟨by rfl,?_⟩) hS ?_
           rotate_left
           ·intro w' hw'
            go_simp
            try with_reducible rfl
           (try dsimp only [Act.put]);(try simp only [List.setIfInBounds_toArray,List.set_cons_zero,List.set_cons_succ])
           refine Held.take (i:=1) (some 196) rfl (v:=?_) rfl (by kernel_rfl) (by kernel_rfl) (by kernel_rfl) (fun _ _ _ h=>h) (Or.inl ⟨by rfl,?_⟩) hS ?_
           rotate_left
           ·intro w' hw'
            go_simp
            try with_reducible rfl
           (try dsimp only [Act.put]);(try simp only [List.setIfInBounds_toArray,List.set_cons_zero,List.set_cons_succ])
           refine Held.take (i:=2) (some 197) rfl (v:=?_) rfl (by kernel_rfl) (by kernel_rfl) (by kernel_rfl) (fun _ _ _ h=>h) (Or.inl ⟨by rfl,?_⟩) hS ?_
           rotate_left
           ·intro w' hw'
            have cf0:=(fun w' hw'=>CS.out w' (HLW.out w' hw')) w' hw'
            go_simp
            try with_reducible rfl
           (try dsimp only [Act.put]);(try simp only [List.setIfInBounds_toArray,List.set_cons_zero,List.set_cons_succ])
           refine Held.take (i:=3) (some 198) rfl (v:=?_) rfl (by kernel_rfl) (by kernel_rfl) (by kernel_rfl) (fun _ _ _ h=>h) (Or.inl ⟨by rfl,?_⟩) hS ?_
           rotate_left
           ·intro w' hw'
            go_simp
            try with_reducible rfl
           (try dsimp only [Act.put]);(try simp only [List.setIfInBounds_toArray,List.set_cons_zero,List.set_cons_succ])
           refine Held.take (i:=4) (some 199) rfl (v:=?_) rfl (by kernel_rfl) (by kernel_rfl) (by kernel_rfl) (fun _ _ _ h=>h) (Or.inl ⟨by rfl,?_⟩) hS ?_
           rotate_left
           ·intro w' hw'
            go_simp
            try with_reducible rfl
           (try dsimp only [Act.put]);(try simp only [List.setIfInBounds_toArray,List.set_cons_zero,List.set_cons_succ])
           refine Held.take (i:=5) (some 200) rfl (v:=?_) rfl (by kernel_rfl) (by kernel_rfl) (by kernel_rfl) (fun _ _ _ h=>h) (Or.inl ⟨by rfl,?_⟩) hS ?_
           rotate_left
           ·intro w' hw'
            go_simp
            try with_reducible rfl
           (try dsimp only [Act.put]);(try simp only [List.setIfInBounds_toArray,List.set_cons_zero,List.set_cons_succ])
           refine Held.take (i:=6) (some 201) rfl (v:=?_) rfl (by kernel_rfl) (by kernel_rfl) (by kernel_rfl) (fun _ _ _ h=>h) (Or.inl ⟨by rfl,?_⟩) hS ?_
           rotate_left
           ·intro w' hw'
            have cf0:=(fun w' hw'=>C0.out w' (HLW.out w' hw')) w' hw'
            go_simp
            try with_reducible rfl
           (try dsimp only [Act.put]);(try simp only [List.setIfInBounds_toArray,List.set_cons_zero,List.set_cons_succ])
           refine Held.take (i:=8) (some 203) rfl (v:=?_) rfl (by kernel_rfl) (by kernel_rfl) (by kernel_rfl) (fun _ _ _ h=>h) (Or.inl ⟨by rfl,?_⟩) hS ?_
           rotate_left
           ·intro w' hw'
            go_simp
            try with_reducible rfl
           (try dsimp only [Act.put]);(try simp only [List.setIfInBounds_toArray,List.set_cons_zero,List.set_cons_succ])
           refine Held.take (i:=9) (some 204) rfl (v:=?_) rfl (by kernel_rfl) (by kernel_rfl) (by kernel_rfl) (fun _ _ _ h=>h) (Or.inl ⟨by rfl,?_⟩) hS ?_
           rotate_left
           ·intro w' hw'
            have cf0:=(fun w' hw'=>CS.out w' (HLW.out w' hw')) w' hw'
            go_simp
            try with_reducible rfl
           (try dsimp only [Act.put]);(try simp only [List.setIfInBounds_toArray,List.set_cons_zero,List.set_cons_succ])
           refine Held.take (i:=10) (some 205) rfl (v:=?_) rfl (by kernel_rfl) (by kernel_rfl) (by kernel_rfl) (fun _ _ _ h=>h) (Or.inl ⟨by rfl,?_⟩) hS ?_
           rotate_left
           ·intro w' hw'
            go_simp
            try with_reducible rfl
           (try dsimp only [Act.put]);(try simp only [List.setIfInBounds_toArray,List.set_cons_zero,List.set_cons_succ])
           refine Held.take (i:=11) (some 206) rfl (v:=?_) rfl (by kernel_rfl) (by kernel_rfl) (by kernel_rfl) (fun _ _ _ h=>h) (Or.inl ⟨by rfl,?_⟩) hS ?_
           rotate_left
           ·intro w' hw'
            go_simp
            try with_reducible rfl
           (try dsimp only [Act.put]);(try simp only [List.setIfInBounds_toArray,List.set_cons_zero,List.set_cons_succ])
           refine Held.take (i:=12) (some 207) rfl (v:=?_) rfl (by kernel_rfl) (by kernel_rfl) (by kernel_rfl) (fun _ _ _ h=>h) (Or.inl ⟨by rfl,?_⟩) hS ?_
           rotate_left
           ·intro w' hw'
            go_simp
            try with_reducible rfl
           (try dsimp only [Act.put]);(try simp only [List.setIfInBounds_toArray,List.set_cons_zero,List.set_cons_succ])
           refine Held.take (i:=13) (some 208) rfl (v:=?_) rfl (by kernel_rfl) (by kernel_rfl) (by kernel_rfl) (fun _ _ _ h=>h) (Or.inl ⟨by rfl,?_⟩) hS ?_
           rotate_left
           ·intro w' hw'
            have cf0:=(fun w' hw'=>C1.out w' (HLW.out w' hw')) w' hw'
            go_simp
            try with_reducible rfl
           (try dsimp only [Act.put]);(try simp only [List.setIfInBounds_toArray,List.set_cons_zero,List.set_cons_succ])
           refine wpAnyH_ready (rs:=[7]) (by kernel_rfl) (by simp) (AllReadyH.cons rfl (fun K hK=>?_) AllReadyH.nil)
           go_simp
           refine (st_put HSV.out (by omega) 1 _).mono ?_
           rintro e V2 ⟨v2,rfl,hst,hb⟩
           have hq:=hS.trans (hb.mono hS.size)
           have HSV2:=Lib.hid hst
           clear hS hb hst HSV
           rename World=>V
           rename Value=>v2
           have HSV:=HSV2
           clear HSV2
           go_simp
           refine hK.out _ _ hq (fun hS=>?_)
           clear hK K hq
           (try dsimp only [Act.put]);(try simp only [List.setIfInBounds_toArray,List.set_cons_zero,List.set_cons_succ])
           refine wpAnyH_ready (rs:=[14]) (by kernel_rfl) (by simp) (AllReadyH.cons rfl (fun K hK=>?_) AllReadyH.nil)
           go_simp
           refine (st_put HSV.out (by omega) 2 _).mono ?_
           rintro e V2 ⟨v2,rfl,hst,hb⟩
           have hq:=hS.trans (hb.mono hS.size)
           have HSV2:=Lib.hid hst
           clear hS hb hst HSV
           rename World=>V
           rename Value=>v2
           have HSV:=HSV2
           clear HSV2
           go_simp
           refine hK.out _ _ hq (fun hS=>?_)
           clear hK K hq
           (try dsimp only [Act.put]);(try simp only [List.setIfInBounds_toArray,List.set_cons_zero,List.set_cons_succ])
           refine Held.take (i:=15) (some 3) rfl (v:=?_) rfl (by kernel_rfl) (by kernel_rfl) (by kernel_rfl) (fun _ _ _ h=>h) (Or.inl ⟨by rfl,?_⟩) hS ?_
           rotate_left
           ·intro w' hw'
            go_simp
            try with_reducible rfl
           (try dsimp only [Act.put]);(try simp only [List.setIfInBounds_toArray,List.set_cons_zero,List.set_cons_succ])
           refine wpAnyH_done (by kernel_rfl) ?_ _
           go_wp2
           go_roundw
           case rel=>exact ⟨q+1,by omega,by go_num,by
            have:=HSV.out
            rw [HDQ.out]
            have e:((L9++Gq)++low (lim 1 8) d.set)++low (lim 2 8) d.lock=L9++(Gq++bsB d):=by
             simp only [List.append_assoc,bsB,show lim 1 8=1 from rfl,show lim 2 8=2 from rfl]
             simp [puts]
            rw [e] at this
            exact ⟨this.bv,this.low,by have:=this.len;omega⟩⟩
           case measure=>simp [intOf];omega
          ·obtain rfl:nS=q:=by omega
           obtain ⟨L10,hL10⟩:∃ x,x=L9++T.buses.flatMap bsB:=⟨_,rfl⟩
           have hst:St u wr u3 L10 3100:=by
            have:=HST.out
            rw [show (List.range nS).flatMap (fun q=>bsB (T.buses.getD q default))=T.buses.flatMap bsB from by rw [NS.out];exact range_flat bsB default T.buses,← hL10] at this
            exact ⟨this.bv,this.low,by have:=this.len;omega⟩
           have EL10:=Lib.hid hL10
           clear HST hL10
           have HST:=Lib.hid hst
           clear hst
           have e6:=CL.out 116 _ HC.out.extend wr HST.out.low
           have e7:=CL.out 117 _ HC.out.budget wr HST.out.low
           have e8:=CL.out 118 _ HC.out.start wr HST.out.low
           have e9:=CL.out 119 _ HC.out.revert wr HST.out.low
           have e10:=CL.out 120 _ HC.out.least wr HST.out.low
           go_wp2_with fail
           clear ks
           refine (st_puts (n:=5) (xs:=[T.extend,T.budget,T.start,T.revert,T.least]) (s:=⟨some ⟨wr.heap.size,0,none⟩,5⟩) (HST.out.mem ((Below.refl _ _).alloc (Nat.le_refl _) _)) rfl (May.row_new wr 3 [T.extend,T.budget,T.start,T.revert,T.least] 5 rfl (by decide) _ rfl) (by omega) 2).mono ?_
           rintro e W11 ⟨v11,rfl,hst,hb⟩
           have HS11:=Lib.hid hst
           clear hst hb HST e6 e7 e8 e9 e10
           go_wp2_with fail
           refine (st_puts (n:=8) (xs:=T.flash) (s:=⟨some ⟨tb,121,none⟩,8⟩) HS11.out HTT.out.fl (May.ints_in ((HS11.out.low.block tb (Array.getElem?_eq_some_iff.1 HBX.out).1).trans HBX.out) 121 8 T.flash HC.out.flash HTT.out.fl (by decide)) (by omega) 1).mono ?_
           rintro e W12 ⟨v12,rfl,hst,hb⟩
           have HS12:=Lib.hid hst
           clear hst hb HS11
           have e12:=CL.out 129 _ HC.out.window W12 HS12.out.low
           have e13:=CL.out 130 _ HC.out.share W12 HS12.out.low
           go_wp2_with fail
           refine (st_putsO (n:=2) (xs:=[T.window,T.share]) (s:=⟨some ⟨W12.heap.size,0,none⟩,2⟩) (HS12.out.mem ((Below.refl _ _).alloc (Nat.le_refl _) _)) rfl (May.row_new W12 3 [T.window,T.share] 2 rfl (by decide) _ rfl) (by omega) 4).mono ?_
           rintro e W13 ⟨v13,rfl,hst,ho,hb⟩
           have HO13:=Lib.hid (own_le (ho (by omega)) (Nat.le_trans HB0.out.size (Nat.le_trans HS12.out.low.size (by simp))))
           have HS13:=Lib.hid hst
           clear hst ho hb HS12 e12 e13
           go_wp2
           go_ret
           refine ⟨_,rfl,?_,HB0.out.trans (HS13.out.low.mono HB0.out.size)⟩
           have hbv:=HS13.out.bv
           have hob:=HO13.out
           have e:Cd.bodyB T=((L10++puts (lim 2 8) [T.extend,T.budget,T.start,T.revert,T.least])++puts (lim 1 8) T.flash)++puts (lim 4 8) [T.window,T.share]:=by
            rw [EL10.out,EL9.out,EL8.out,EL7.out,EL6.out,EL5.out,EL4.out,EL2.out,EL1.out,NG.out,ND.out,NR.out,NS.out]
            simp only [List.append_assoc,Cd.bodyB,Cd.itemsB,listB,show lim 1 8=1 from rfl,show lim 2 8=2 from rfl,show lim 4 8=4 from rfl]
           rw [e]
           exact ⟨hbv,hob⟩
end Rb
namespace Rb
open Go Go.RowKit Go.ChangeShapes
open Tab
open Put (low lim)
end Rb
namespace Dh
open Go Go.RowKit
open Tab Po
open Rr (decR EndsDec dec_is)
open Clone (zTab zHd)
def resT (bs:List Nat):Tab:=match decR bs with | .error _=>zTab | .ok x=>tabOf x
def resF (bs:List Nat):Int × Int:=match decR bs with | .error f=>(f.1,f.2) | .ok _=>(0,0)
theorem ends {bs:List Nat} {w:World} {e:Ending} {w':World} (h:EndsDec (decR bs) w e w'):∃ hd,e=.returned (.tuple #[.agg ((resT bs).cells hd).toArray,.agg #[I (resF bs).1,I (resF bs).2]])∧IsTab w' hd (resT bs)∧Below w.heap.size w w':=by
 unfold EndsDec at h
 unfold resT resF
 cases hr:decR bs with
 | error f=>rw [hr] at h;exact ⟨zHd,h.2,Clone.z_is w',h.1⟩
 | ok x=>rw [hr] at h;obtain ⟨hb,hd,he,ht⟩:=h;exact ⟨hd,he,ht,hb⟩
theorem dec_two (bs:List Nat) {a:Option Addr} {cap:Nat} {w:World} (hr:B.Row w a bs) (hl:bs.length≤10000) (hc:bs.length≤cap) (hn:a=none→cap=0) :
  Calls Tryz.prog 6 #[.slice a bs.length cap] w fun e w'=>∃ hd,e=.returned (.tuple #[.agg ((resT bs).cells hd).toArray,.agg #[I (resF bs).1,I (resF bs).2]])∧IsTab w' hd (resT bs)∧Below w.heap.size w w' :=
 (dec_is bs a cap w hr hl hn hc).mono fun e w' h=>ends h
theorem rdec_two (bs:List Nat) {a:Option Addr} {cap:Nat} {w:World} (hr:B.Row w a bs) (hl:bs.length≤10000) (hc:bs.length≤cap) :
  Calls Tryz.prog 7 #[.slice a bs.length cap] w fun e w'=>∃ hd,e=.returned (.tuple #[.agg ((resT bs).cells hd).toArray,.agg #[I (resF bs).1,I (resF bs).2]])∧IsTab w' hd (resT bs)∧Below w.heap.size w w' :=
 (Dp.rdec_is bs a cap w hr hl hc).mono fun e w' h=>ends h
end Dh
namespace Rb
open Go Go.RowKit Go.ChangeShapes
open Tab
open Put (low lim)
theorem own_cap {n:Nat} {W:World} {v:Value} {l:List Nat} (h:Go.Proofs.YtjdeemmaaiecnaaGreat.B.Own n W v l) (hl:∀ x ∈ l,x < 256):∃ a cap,v=.slice a l.length cap∧Go.Proofs.YtjdeemmaaiecnaaGreat.B.Row W a l∧l.length≤cap∧(a=none→cap=0):=by
 obtain ⟨a,c,e,hr⟩:=Go.Proofs.YtjdeemmaaiecnaaGreat.B.own_row h hl
 rcases h.2 with ⟨h1,h2⟩ | ⟨g,cap,cur,h1,h2,h3,h4,h5⟩
 ·rw [e] at h1
  injection h1 with q1 q2 q3
  exact ⟨_,_,e,hr,by omega,fun _=>q3⟩
 ·rw [e] at h1
  injection h1 with q1 q2 q3
  subst q1 q3
  exact ⟨_,_,e,hr,h4,fun h=>by cases h⟩
theorem seal_cap {W:World} {a:Option Addr} {cap:Nat} {l:List Nat} (hr:Go.Proofs.YtjdeemmaaiecnaaGreat.B.Row W a l) (hn:a=none→cap=0) (hl:l.length≤9000) :
  Calls Tryz.prog 8 #[.slice a l.length cap] W fun e W'=>∃ a2 cap2,e=.returned (.slice a2 (Cd.sealB l).length cap2)∧Go.Proofs.YtjdeemmaaiecnaaGreat.B.Row W' a2 (Cd.sealB l)∧(Cd.sealB l).length≤cap2∧(a2=none→cap2=0)∧Below W.heap.size W W':=by
 obtain ⟨cr,hcr⟩:∃ n:Nat,CrcM.crc 65535 l=n:=⟨_,rfl⟩
 have hcr2:cr < 65536:=by rw [← hcr];exact CrcM.crc_lt _ _ (by decide)
 have SL:Cd.sealB l=l++low (lim 2 8) (cr:Int):=by unfold Cd.sealB;rw [hcr];rfl
 have h8:∀ x ∈ Cd.sealB l,x < 256:=by
  intro x hx
  rw [SL,List.mem_append] at hx
  rcases hx with hx | hx
  ·exact hr.2.1 x hx
  ·exact Put.low_lt _ _ x hx
 have HP:Hid (Calls Tryz.prog 27 #[.slice a l.length cap,.int .i64 2,.int .i64 (cr:Int)] W fun e W'=>∃ v',e=.returned v'∧(∃ a2 cap2,v'=.slice a2 (Cd.sealB l).length cap2∧Go.Proofs.YtjdeemmaaiecnaaGreat.B.Row W' a2 (Cd.sealB l)∧(Cd.sealB l).length≤cap2∧(a2=none→cap2=0))∧Below W.heap.size W W'):=Lib.hid ((Put.ref_put_any a cap l 2 (cr:Int) W hr (by omega) hn).mono fun e W' ⟨v',h1,h2,h3⟩=>⟨v',h1,by rw [← SL] at h2;exact own_cap h2 h8,h3⟩)
 have CC:Hid (Calls Tryz.prog 26 #[.int .u16 65535,.slice a l.length cap] W fun e w'=>e=.returned (.int .u16 (cr:Int))∧W=w'):=Lib.hid (by have:=Crc.ref_any 65535 (by decide) a cap l W hr;rw [hcr] at this;exact this)
 have ew:wrap64 (cr:Int)=cr:=IntWalk.wrap64_in _ (by omega)
 have ew2:IntKind.i64.wrap (cr:Int)=cr:=by rw [IntKind.wrap_i64];omega
 generalize hsb:Cd.sealB l=sb at HP
 generalize l.length=n at HP CC hl ⊢
 clear hr hn hcr h8 SL
 go_enter Tryz.func8,Tryz.ntmps8
 go_wp2_with (go_at_call 26;refine CC.out.mono ?_;rintro e w' ⟨rfl,rfl⟩)
 refine HP.out.mono ?_
 rintro e w' ⟨v',rfl,⟨a2,cap2,rfl,q1,q2,q3⟩,hw⟩
 have Q1:=Lib.hid q1
 have Q2:=Lib.hid q2
 have Q3:=Lib.hid q3
 have HW:=Lib.hid hw
 clear q1 q2 q3 hw
 go_wp2
 go_ret
 subst hsb
 exact ⟨a2,cap2,rfl,Q1.out,Q2.out,Q3.out,HW.out⟩
end Rb
namespace CodeAt
open Go
def findR (id:Nat):Code→Option Code
 | .region i ops d=>if i=id then some (.region i ops d) else none
 | .seq a b=>(findR id a).or (findR id b)
 | .cond _ a b=>(findR id a).or (findR id b)
 | .block _ b=>findR id b
 | .loop b=>findR id b
 | .scope b=>findR id b
 | _=>none
def rg (id:Nat) (f:Func):Code:=((f.body.bind (findR id)).getD .skip)
end CodeAt
namespace Same
open Go.ChangeShapes Go.WideShapes Go.ChangeAt Go.RowKit
open Tab
open May (ret_bool chain take_succ' infoP infoG infoD infoR infoB row_new)
theorem eq_step {α:Type} {l m:List α} {k:Nat} {v u:α} (h:l[k]?=some v) (h':m[k]?=some u) (e:l.take k=m.take k) (hv:v=u):l.take (k+1)=m.take (k+1):=by
 rw [take_succ' l k v h,take_succ' m k u h',e,hv]
theorem eq_break {α:Type} {l m:List α} {k:Nat} {v u:α} (h:l[k]?=some v) (h':m[k]?=some u) (hv:¬ v=u):¬ l=m:=by
 rintro rfl;rw [h] at h';exact hv (Option.some.inj h')
theorem eq_end {α:Type} {l m:List α} {k:Nat} (e:l.take k=m.take k) (hl:l.length=m.length) (hk:¬ k < l.length):l=m:=by
 rwa [List.take_of_length_le (by omega),List.take_of_length_le (by omega)] at e
end Same
namespace Same
open Go.ChangeShapes Go.WideShapes Go.ChangeAt Go.RowKit
open Tab
open May (ret_bool chain take_succ' infoP infoG infoD infoR infoB row_new)
end Same
namespace Same
open Go.ChangeShapes Go.WideShapes Go.ChangeAt Go.RowKit
open Tab
open May (ret_bool chain take_succ' infoP infoG infoD infoR infoB row_new St)
theorem below_setRow {B:Nat} {a w:World} (h:Below B a w) {g:Nat} (hg:B≤g) (cs:Array Value):Below B a (w.setRow g cs) :=
 h.trans ⟨rfl,rfl,rfl,by simp [World.setRow],fun j hj=>setRow_other _ _ _ _ (by omega)⟩
end Same
namespace Same
open Go.ChangeShapes Go.WideShapes Go.ChangeAt Go.RowKit
open Tab
open May (ret_bool chain take_succ' infoP infoG infoD infoR infoB infoT row_new St)
theorem infoPs:(Tryz.prog.info? 26).map (·.size)=some 104:=by kernel_rfl
theorem info8:(Tryz.prog.info? 28).map (·.size)=some 8:=by kernel_rfl
theorem tab_eq {T U:Tab} (h1:T.phases=U.phases) (h2:T.groups=U.groups) (h3:T.conflict=U.conflict) (h4:T.dets=U.dets) (h5:T.rails=U.rails) (h6:T.buses=U.buses) (h7:T.flash=U.flash) (h8:single T=single U):T=U:=by
 obtain ⟨a0,a1,a2,a3,a4,a5,a6,a7,a8,a9,a10,a11,a12,a13⟩:=T
 obtain ⟨b0,b1,b2,b3,b4,b5,b6,b7,b8,b9,b10,b11,b12,b13⟩:=U
 simp only [single,List.cons.injEq,and_true] at h8
 simp_all
theorem lies_at {w:World} {b:Nat} {C:Array Value} {t:TypeId} {fr:Nat × Nat} (hb:w.heap[b]?=some (.cells C t fr)) (o n:Nat) (cs:List Value) (h:(C.toList.drop o).take n=cs):Lies w ⟨b,o,none⟩ cs:=fun j v hv=>by
 rw [Addr.add_mid];exact range_of hb o n cs h j v hv
end Same
end Go.Proofs.YtjdeemmaaiecnaaGreat
