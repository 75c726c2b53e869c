/- 13 texts in one file, in build order. -/
import Derived.Test.YtonpphjleapafaaGreatPart01
import Derived.Test.YtonpphjleapafaaGreatRows
import Derived.Test.YtonpphjleapafaaGreatPart05
import Derived.StillTailTactics
import Derived.Test.YtonpphjleapafaaGreatPart03
import Derived.Test.YtonpphjleapafaaGreatPart02
import Derived.LoopTactic
import Derived.BigQuiet
set_option linter.unusedVariables false
set_option linter.unusedSimpArgs false
set_option linter.unusedSectionVars false
set_option maxHeartbeats 8000000
set_option maxRecDepth 100000
open List renaming length_append→ka, setIfInBounds_toArray→kb, replicate→kc, set_cons_succ→ke, set_cons_zero→kf, length_cons→kj, length_nil→kk, getElem?_eq_getElem→kn, range→kp, length_map→kt, append_assoc→ku, flatMap_singleton→kz, flatMap_append→kA, size_toArray→kC, range_succ→kE, length→kF, mem_map_of_mem→kL, getElem?_append_right→kM, map_cons→kN, append_cancel_left→kO, getElem?_replicate→kQ, length_take→kR, getElem?_cons_zero→kS, getElem_cons_succ→kT, getElem_cons_zero→kU, take_of_length_le→kV, mem_append→kX, length_replicate→kY, set_append_right→kZ, getElem_toArray→K1, getD→K2, flatten_append→K4, drop_succ_cons→K6, getElem?_map→K7, take_add_one→Ka, flatMap_def→Kb, flatMap_map→Kc, getElem_mem→Ke, append_nil→Kg, length_set→Kh, drop_zero→Kj
open Go.Act renaming put→kh
open Go.World renaming setCell→ki, alloc→kq, block_lt_of_cell?→ky, cell?_of_block→kB, setRow→kG
open Array renaming getElem?_eq_some_iff→kl
open Go.RowKit.Below renaming refl→km
open Nat renaming le_refl→ko, lt_of_lt_of_le→kv, le_trans→kD, zero_le→kI, add_sub_cancel_left→kP, zero_mul→kW, mul_le_mul_left→K5, mul_le_mul→Ki, sub_self→Kl, mul_comm→Km
open Go.Value renaming oneCell'→kw
open Go.Exit renaming inBlock→kx
open Option.some renaming inj→kH
open Except renaming ok→kJ
open Go.World.ownsRow renaming alloc→kK
open Go.Addr renaming add→K0
open Go.Value.slice renaming injEq→K8
open Go.IntWalk renaming wrap64_in→K9
open Go.IntKind renaming wrap_i64→Kd, i64→Kf
open Go.Sem renaming run→Kk
open Go renaming setRow_other→Kn, wpList_store_row→Ko, cell_of_row→Kp, setRow_heap→Kq, heap_alloc_new→Kr, bodyPost_ret→Ks, wpAnyH_done→Kt, wp_region_held→Ku, wp_append_own→Kv, results_cell_row→Kw, wpList_append_own→Kx, setCell_eq_setRow→Ky, frozen_of_row→Kz, info_parts→KA, wp_store_row→KB, heap_alloc2_old→KC, heap_alloc2_new→KD, zero_of_info→KE
namespace Go.Proofs.YtonpphjleapafaaGreat
namespace Dp
open Zip
open Go Go.RowKit Go.ChangeShapes
open Tab Po
open Rd (Rd But)
open Nm (St)
open Put (lim)
theorem je {P:PP} {a:List Sp} {c:Sp} {l l1 l2:List Value} {s s1 s2:P.σ} (h:runs P a l s=.ok (l1,s1)) (h2:Sp.run P l1 s1 c=.ok (l2,s2)):runs P (a++[c]) l s=.ok (l2,s2):=by
 rw [J2,h];dsimp only;rw [jD,h2]
section
variable {B g:Nat} {ad:Option Addr} {cap:Nat} {bs:List Nat}
theorem j1B:(Tryz.prog.info? 25).map (·.size)=some 13:=by kernel_rfl
theorem jdd (s0:St) (W:World) (h:Ds B g ad cap bs s0 W):Calls Tryz.prog 61 #[ptr g] W fun e W'=>∃ l s',runs (DP bs) j1H zPh s0=.ok (l,s')/\e=.returned (.agg l.toArray)/\Ds B g ad cap bs s' W'/\But g W W':=by
 have hg:g < W.heap.size:=kv h.gl h.bl;have hBW:=h.bl;have h0:=((Bkg.nil hg).alloc #[.bool false,I 0,I 0,I 0,I 0,I 0,I 0,I 0,I 0,I 0,I 0,.bool false,.bool false] 25).alloc #[.bool false,I 0,I 0,I 0,I 0,I 0,I 0,I 0,I 0,I 0,I 0,.bool false,.bool false] 25;rw [show (W.alloc (.cells #[.bool false,I 0,I 0,I 0,I 0,I 0,I 0,I 0,I 0,I 0,I 0,.bool false,.bool false] 25)).heap.size=W.heap.size+1 by simp] at h0;have hs0:=h.mem (((km W.heap.size W).alloc (ko _) (.cells #[.bool false,I 0,I 0,I 0,I 0,I 0,I 0,I 0,I 0,I 0,I 0,.bool false,.bool false] 25)).alloc (by simp) (.cells #[.bool false,I 0,I 0,I 0,I 0,I 0,I 0,I 0,I 0,I 0,I 0,.bool false,.bool false] 25));have RUN:Hid (runs (DP bs) [] zPh s0=.ok ([.bool false,I 0,I 0,I 0,I 0,I 0,I 0,I 0,I 0,I 0,I 0,.bool false,.bool false],s0)):=hJJ rfl;obtain ⟨t,ht⟩:∃ t,s0=t:=⟨_,rfl⟩;rw [show Ds B g ad cap bs s0 _=Ds B g ad cap bs t _ by rw [ht]] at hs0;have RUN0:Hid (runs (DP bs) [] zPh s0=.ok ([.bool false,I 0,I 0,I 0,I 0,I 0,I 0,I 0,I 0,I 0,I 0,.bool false,.bool false],t)):=hJJ (by rw [<-ht];exact RUN.out);clear RUN h ht;go_enter Tryz.func61,Tryz.ntmps61
 go_upto_region 2 with fail
 generalize kq (kq W _) _=V at h0 hs0 |-;generalize hp:W.heap.size+1=p at h0 |-;generalize hz:W.heap.size=gz at h0 hg hBW |-;have hBp:B<=p:=by omega
 have HS:=hJJ hs0;have HB:=hJJ h0;clear h0 hs0 hp hg;go_wp2_with fail
 have hcon:=j8k t V HS.out;have hstep:Sp.run (DP bs) [.bool false,I 0,I 0,I 0,I 0,I 0,I 0,I 0,I 0,I 0,I 0,.bool false,.bool false] t (.flg 0)=.ok ([.bool (decide ((Nm.num bs t 1 0 1).1=1)),I 0,I 0,I 0,I 0,I 0,I 0,I 0,I 0,I 0,I 0,.bool false,.bool false],(Nm.num bs t 1 0 1).2):=rfl;generalize hx:decide ((Nm.num bs t 1 0 1).1=1)=x0 at hcon hstep;generalize hn:(Nm.num bs t 1 0 1).2=tn at hcon hstep;clear hx hn;refine hcon.mono ?_;rintro e V2 ⟨rfl,hs,hb⟩;have RUN1:Hid (runs (DP bs) ([]++[.flg 0]) zPh s0=.ok ([.bool x0,I 0,I 0,I 0,I 0,I 0,I 0,I 0,I 0,I 0,I 0,.bool false,.bool false],tn)):=hJJ (je RUN0.out hstep);have HB1:=hJJ (HB.out.step hb);have HS1:=hJJ hs;clear RUN0 hstep hcon HB HS hs hb;have c0:V2.cell? ⟨p,0,none⟩=some (.bool false):=HB1.out.cell 0 0 rfl rfl;have f0:V2.frozen? ⟨p,0,none⟩=false:=HB1.out.frozen 0 0 rfl;go_upto_region 3 with fail
 have hput:=HB1.out.set 0 0 rfl (.bool x0);have hds:=HS1.out.but (But.set p 0 V2 (.bool x0)) hBp;simp only [ke,kf,kb] at hput;clear c0 f0 HB1 HS1;generalize ki V2 _ _=V3 at hput hds |-;clear V2 V t;rename World=>V
 rename St=>t
 have HB:=hJJ hput;have HS:=hJJ hds;have RUN0:=RUN1;clear hput hds RUN1;go_wp2_with fail
 have hcon:=Jh t V HS.out;have hstep:Sp.run (DP bs) [.bool x0,I 0,I 0,I 0,I 0,I 0,I 0,I 0,I 0,I 0,I 0,.bool false,.bool false] t (.num 2 9999 1)=.ok ([.bool x0,I ((Nm.num bs t (lim 2 7) 0 9999).1),I 0,I 0,I 0,I 0,I 0,I 0,I 0,I 0,I 0,.bool false,.bool false],(Nm.num bs t (lim 2 7) 0 9999).2):=rfl;generalize hx:(Nm.num bs t (lim 2 7) 0 9999).1=x1 at hcon hstep;generalize hn:(Nm.num bs t (lim 2 7) 0 9999).2=tn at hcon hstep;clear hx hn;refine hcon.mono ?_;rintro e V2 ⟨rfl,hs,hb⟩;have RUN1:Hid (runs (DP bs) (([]++[.flg 0])++[.num 2 9999 1]) zPh s0=.ok ([.bool x0,I x1,I 0,I 0,I 0,I 0,I 0,I 0,I 0,I 0,I 0,.bool false,.bool false],tn)):=hJJ (je RUN0.out hstep);have HB1:=hJJ (HB.out.step hb);have HS1:=hJJ hs;clear RUN0 hstep hcon HB HS hs hb;have c0:V2.cell? ⟨p,1,none⟩=some (I 0):=HB1.out.cell 0 1 rfl rfl;have f0:V2.frozen? ⟨p,1,none⟩=false:=HB1.out.frozen 0 1 rfl;go_upto_region 4 with fail
 have hput:=HB1.out.set 0 1 rfl (I x1);have hds:=HS1.out.but (But.set p 1 V2 (I x1)) hBp;simp only [ke,kf,kb] at hput;clear c0 f0 HB1 HS1;generalize ki V2 _ _=V3 at hput hds |-;clear V2 V t;rename World=>V
 rename St=>t
 have HB:=hJJ hput;have HS:=hJJ hds;have RUN0:=RUN1;clear hput hds RUN1;go_wp2_with fail
 have hcon:=Jh t V HS.out;have hstep:Sp.run (DP bs) [.bool x0,I x1,I 0,I 0,I 0,I 0,I 0,I 0,I 0,I 0,I 0,.bool false,.bool false] t (.num 2 9999 2)=.ok ([.bool x0,I x1,I ((Nm.num bs t (lim 2 7) 0 9999).1),I 0,I 0,I 0,I 0,I 0,I 0,I 0,I 0,.bool false,.bool false],(Nm.num bs t (lim 2 7) 0 9999).2):=rfl;generalize hx:(Nm.num bs t (lim 2 7) 0 9999).1=x2 at hcon hstep;generalize hn:(Nm.num bs t (lim 2 7) 0 9999).2=tn at hcon hstep;clear hx hn;refine hcon.mono ?_;rintro e V2 ⟨rfl,hs,hb⟩;have RUN1:Hid (runs (DP bs) ((([]++[.flg 0])++[.num 2 9999 1])++[.num 2 9999 2]) zPh s0=.ok ([.bool x0,I x1,I x2,I 0,I 0,I 0,I 0,I 0,I 0,I 0,I 0,.bool false,.bool false],tn)):=hJJ (je RUN0.out hstep);have HB1:=hJJ (HB.out.step hb);have HS1:=hJJ hs;clear RUN0 hstep hcon HB HS hs hb;have c0:V2.cell? ⟨p,2,none⟩=some (I 0):=HB1.out.cell 0 2 rfl rfl;have f0:V2.frozen? ⟨p,2,none⟩=false:=HB1.out.frozen 0 2 rfl;go_upto_region 5 with fail
 have hput:=HB1.out.set 0 2 rfl (I x2);have hds:=HS1.out.but (But.set p 2 V2 (I x2)) hBp;simp only [ke,kf,kb] at hput;clear c0 f0 HB1 HS1;generalize ki V2 _ _=V3 at hput hds |-;clear V2 V t;rename World=>V
 rename St=>t
 have HB:=hJJ hput;have HS:=hJJ hds;have RUN0:=RUN1;clear hput hds RUN1;go_wp2_with fail
 have hcon:=Jh t V HS.out;have hstep:Sp.run (DP bs) [.bool x0,I x1,I x2,I 0,I 0,I 0,I 0,I 0,I 0,I 0,I 0,.bool false,.bool false] t (.num 2 9999 3)=.ok ([.bool x0,I x1,I x2,I ((Nm.num bs t (lim 2 7) 0 9999).1),I 0,I 0,I 0,I 0,I 0,I 0,I 0,.bool false,.bool false],(Nm.num bs t (lim 2 7) 0 9999).2):=rfl;generalize hx:(Nm.num bs t (lim 2 7) 0 9999).1=x3 at hcon hstep;generalize hn:(Nm.num bs t (lim 2 7) 0 9999).2=tn at hcon hstep;clear hx hn;refine hcon.mono ?_;rintro e V2 ⟨rfl,hs,hb⟩;have RUN1:Hid (runs (DP bs) (((([]++[.flg 0])++[.num 2 9999 1])++[.num 2 9999 2])++[.num 2 9999 3]) zPh s0=.ok ([.bool x0,I x1,I x2,I x3,I 0,I 0,I 0,I 0,I 0,I 0,I 0,.bool false,.bool false],tn)):=hJJ (je RUN0.out hstep);have HB1:=hJJ (HB.out.step hb);have HS1:=hJJ hs;clear RUN0 hstep hcon HB HS hs hb;have c0:V2.cell? ⟨p,3,none⟩=some (I 0):=HB1.out.cell 0 3 rfl rfl;have f0:V2.frozen? ⟨p,3,none⟩=false:=HB1.out.frozen 0 3 rfl;go_upto_region 6 with fail
 have hput:=HB1.out.set 0 3 rfl (I x3);have hds:=HS1.out.but (But.set p 3 V2 (I x3)) hBp;simp only [ke,kf,kb] at hput;clear c0 f0 HB1 HS1;generalize ki V2 _ _=V3 at hput hds |-;clear V2 V t;rename World=>V
 rename St=>t
 have HB:=hJJ hput;have HS:=hJJ hds;have RUN0:=RUN1;clear hput hds RUN1;go_wp2_with fail
 have hcon:=Jh t V HS.out;have hstep:Sp.run (DP bs) [.bool x0,I x1,I x2,I x3,I 0,I 0,I 0,I 0,I 0,I 0,I 0,.bool false,.bool false] t (.num 2 9999 4)=.ok ([.bool x0,I x1,I x2,I x3,I ((Nm.num bs t (lim 2 7) 0 9999).1),I 0,I 0,I 0,I 0,I 0,I 0,.bool false,.bool false],(Nm.num bs t (lim 2 7) 0 9999).2):=rfl;generalize hx:(Nm.num bs t (lim 2 7) 0 9999).1=x4 at hcon hstep;generalize hn:(Nm.num bs t (lim 2 7) 0 9999).2=tn at hcon hstep;clear hx hn;refine hcon.mono ?_;rintro e V2 ⟨rfl,hs,hb⟩;have RUN1:Hid (runs (DP bs) ((((([]++[.flg 0])++[.num 2 9999 1])++[.num 2 9999 2])++[.num 2 9999 3])++[.num 2 9999 4]) zPh s0=.ok ([.bool x0,I x1,I x2,I x3,I x4,I 0,I 0,I 0,I 0,I 0,I 0,.bool false,.bool false],tn)):=hJJ (je RUN0.out hstep);have HB1:=hJJ (HB.out.step hb);have HS1:=hJJ hs;clear RUN0 hstep hcon HB HS hs hb;have c0:V2.cell? ⟨p,4,none⟩=some (I 0):=HB1.out.cell 0 4 rfl rfl;have f0:V2.frozen? ⟨p,4,none⟩=false:=HB1.out.frozen 0 4 rfl;go_upto_region 7 with fail
 have hput:=HB1.out.set 0 4 rfl (I x4);have hds:=HS1.out.but (But.set p 4 V2 (I x4)) hBp;simp only [ke,kf,kb] at hput;clear c0 f0 HB1 HS1;generalize ki V2 _ _=V3 at hput hds |-;clear V2 V t;rename World=>V
 rename St=>t
 have HB:=hJJ hput;have HS:=hJJ hds;have RUN0:=RUN1;clear hput hds RUN1;go_wp2_with fail
 have hcon:=Jh t V HS.out;have hstep:Sp.run (DP bs) [.bool x0,I x1,I x2,I x3,I x4,I 0,I 0,I 0,I 0,I 0,I 0,.bool false,.bool false] t (.num 2 9999 5)=.ok ([.bool x0,I x1,I x2,I x3,I x4,I ((Nm.num bs t (lim 2 7) 0 9999).1),I 0,I 0,I 0,I 0,I 0,.bool false,.bool false],(Nm.num bs t (lim 2 7) 0 9999).2):=rfl;generalize hx:(Nm.num bs t (lim 2 7) 0 9999).1=x5 at hcon hstep;generalize hn:(Nm.num bs t (lim 2 7) 0 9999).2=tn at hcon hstep;clear hx hn;refine hcon.mono ?_;rintro e V2 ⟨rfl,hs,hb⟩;have RUN1:Hid (runs (DP bs) (((((([]++[.flg 0])++[.num 2 9999 1])++[.num 2 9999 2])++[.num 2 9999 3])++[.num 2 9999 4])++[.num 2 9999 5]) zPh s0=.ok ([.bool x0,I x1,I x2,I x3,I x4,I x5,I 0,I 0,I 0,I 0,I 0,.bool false,.bool false],tn)):=hJJ (je RUN0.out hstep);have HB1:=hJJ (HB.out.step hb);have HS1:=hJJ hs;clear RUN0 hstep hcon HB HS hs hb;have c0:V2.cell? ⟨p,5,none⟩=some (I 0):=HB1.out.cell 0 5 rfl rfl;have f0:V2.frozen? ⟨p,5,none⟩=false:=HB1.out.frozen 0 5 rfl;go_upto_region 8 with fail
 have hput:=HB1.out.set 0 5 rfl (I x5);have hds:=HS1.out.but (But.set p 5 V2 (I x5)) hBp;simp only [ke,kf,kb] at hput;clear c0 f0 HB1 HS1;generalize ki V2 _ _=V3 at hput hds |-;clear V2 V t;rename World=>V
 rename St=>t
 have HB:=hJJ hput;have HS:=hJJ hds;have RUN0:=RUN1;clear hput hds RUN1;go_wp2_with fail
 have hcon:=Jh t V HS.out;have hstep:Sp.run (DP bs) [.bool x0,I x1,I x2,I x3,I x4,I x5,I 0,I 0,I 0,I 0,I 0,.bool false,.bool false] t (.num 2 9999 6)=.ok ([.bool x0,I x1,I x2,I x3,I x4,I x5,I ((Nm.num bs t (lim 2 7) 0 9999).1),I 0,I 0,I 0,I 0,.bool false,.bool false],(Nm.num bs t (lim 2 7) 0 9999).2):=rfl;generalize hx:(Nm.num bs t (lim 2 7) 0 9999).1=x6 at hcon hstep;generalize hn:(Nm.num bs t (lim 2 7) 0 9999).2=tn at hcon hstep;clear hx hn;refine hcon.mono ?_;rintro e V2 ⟨rfl,hs,hb⟩;have RUN1:Hid (runs (DP bs) ((((((([]++[.flg 0])++[.num 2 9999 1])++[.num 2 9999 2])++[.num 2 9999 3])++[.num 2 9999 4])++[.num 2 9999 5])++[.num 2 9999 6]) zPh s0=.ok ([.bool x0,I x1,I x2,I x3,I x4,I x5,I x6,I 0,I 0,I 0,I 0,.bool false,.bool false],tn)):=hJJ (je RUN0.out hstep);have HB1:=hJJ (HB.out.step hb);have HS1:=hJJ hs;clear RUN0 hstep hcon HB HS hs hb;have c0:V2.cell? ⟨p,6,none⟩=some (I 0):=HB1.out.cell 0 6 rfl rfl;have f0:V2.frozen? ⟨p,6,none⟩=false:=HB1.out.frozen 0 6 rfl;go_upto_region 9 with fail
 have hput:=HB1.out.set 0 6 rfl (I x6);have hds:=HS1.out.but (But.set p 6 V2 (I x6)) hBp;simp only [ke,kf,kb] at hput;clear c0 f0 HB1 HS1;generalize ki V2 _ _=V3 at hput hds |-;clear V2 V t;rename World=>V
 rename St=>t
 have HB:=hJJ hput;have HS:=hJJ hds;have RUN0:=RUN1;clear hput hds RUN1;go_wp2_with fail
 have hcon:=Jh t V HS.out;have hstep:Sp.run (DP bs) [.bool x0,I x1,I x2,I x3,I x4,I x5,I x6,I 0,I 0,I 0,I 0,.bool false,.bool false] t (.num 2 9999 7)=.ok ([.bool x0,I x1,I x2,I x3,I x4,I x5,I x6,I ((Nm.num bs t (lim 2 7) 0 9999).1),I 0,I 0,I 0,.bool false,.bool false],(Nm.num bs t (lim 2 7) 0 9999).2):=rfl;generalize hx:(Nm.num bs t (lim 2 7) 0 9999).1=x7 at hcon hstep;generalize hn:(Nm.num bs t (lim 2 7) 0 9999).2=tn at hcon hstep;clear hx hn;refine hcon.mono ?_;rintro e V2 ⟨rfl,hs,hb⟩;have RUN1:Hid (runs (DP bs) (((((((([]++[.flg 0])++[.num 2 9999 1])++[.num 2 9999 2])++[.num 2 9999 3])++[.num 2 9999 4])++[.num 2 9999 5])++[.num 2 9999 6])++[.num 2 9999 7]) zPh s0=.ok ([.bool x0,I x1,I x2,I x3,I x4,I x5,I x6,I x7,I 0,I 0,I 0,.bool false,.bool false],tn)):=hJJ (je RUN0.out hstep);have HB1:=hJJ (HB.out.step hb);have HS1:=hJJ hs;clear RUN0 hstep hcon HB HS hs hb;have c0:V2.cell? ⟨p,7,none⟩=some (I 0):=HB1.out.cell 0 7 rfl rfl;have f0:V2.frozen? ⟨p,7,none⟩=false:=HB1.out.frozen 0 7 rfl;go_upto_region 10 with fail
 have hput:=HB1.out.set 0 7 rfl (I x7);have hds:=HS1.out.but (But.set p 7 V2 (I x7)) hBp;simp only [ke,kf,kb] at hput;clear c0 f0 HB1 HS1;generalize ki V2 _ _=V3 at hput hds |-;clear V2 V t;rename World=>V
 rename St=>t
 have HB:=hJJ hput;have HS:=hJJ hds;have RUN0:=RUN1;clear hput hds RUN1;go_wp2_with fail
 have hcon:=Jh t V HS.out;have hstep:Sp.run (DP bs) [.bool x0,I x1,I x2,I x3,I x4,I x5,I x6,I x7,I 0,I 0,I 0,.bool false,.bool false] t (.num 2 9999 8)=.ok ([.bool x0,I x1,I x2,I x3,I x4,I x5,I x6,I x7,I ((Nm.num bs t (lim 2 7) 0 9999).1),I 0,I 0,.bool false,.bool false],(Nm.num bs t (lim 2 7) 0 9999).2):=rfl;generalize hx:(Nm.num bs t (lim 2 7) 0 9999).1=x8 at hcon hstep;generalize hn:(Nm.num bs t (lim 2 7) 0 9999).2=tn at hcon hstep;clear hx hn;refine hcon.mono ?_;rintro e V2 ⟨rfl,hs,hb⟩;have RUN1:Hid (runs (DP bs) ((((((((([]++[.flg 0])++[.num 2 9999 1])++[.num 2 9999 2])++[.num 2 9999 3])++[.num 2 9999 4])++[.num 2 9999 5])++[.num 2 9999 6])++[.num 2 9999 7])++[.num 2 9999 8]) zPh s0=.ok ([.bool x0,I x1,I x2,I x3,I x4,I x5,I x6,I x7,I x8,I 0,I 0,.bool false,.bool false],tn)):=hJJ (je RUN0.out hstep);have HB1:=hJJ (HB.out.step hb);have HS1:=hJJ hs;clear RUN0 hstep hcon HB HS hs hb;have c0:V2.cell? ⟨p,8,none⟩=some (I 0):=HB1.out.cell 0 8 rfl rfl;have f0:V2.frozen? ⟨p,8,none⟩=false:=HB1.out.frozen 0 8 rfl;go_upto_region 11 with fail
 have hput:=HB1.out.set 0 8 rfl (I x8);have hds:=HS1.out.but (But.set p 8 V2 (I x8)) hBp;simp only [ke,kf,kb] at hput;clear c0 f0 HB1 HS1;generalize ki V2 _ _=V3 at hput hds |-;clear V2 V t;rename World=>V
 rename St=>t
 have HB:=hJJ hput;have HS:=hJJ hds;have RUN0:=RUN1;clear hput hds RUN1;go_wp2_with fail
 have hcon:=Jh t V HS.out;have hstep:Sp.run (DP bs) [.bool x0,I x1,I x2,I x3,I x4,I x5,I x6,I x7,I x8,I 0,I 0,.bool false,.bool false] t (.num 2 9999 9)=.ok ([.bool x0,I x1,I x2,I x3,I x4,I x5,I x6,I x7,I x8,I ((Nm.num bs t (lim 2 7) 0 9999).1),I 0,.bool false,.bool false],(Nm.num bs t (lim 2 7) 0 9999).2):=rfl;generalize hx:(Nm.num bs t (lim 2 7) 0 9999).1=x9 at hcon hstep;generalize hn:(Nm.num bs t (lim 2 7) 0 9999).2=tn at hcon hstep;clear hx hn;refine hcon.mono ?_;rintro e V2 ⟨rfl,hs,hb⟩;have RUN1:Hid (runs (DP bs) (((((((((([]++[.flg 0])++[.num 2 9999 1])++[.num 2 9999 2])++[.num 2 9999 3])++[.num 2 9999 4])++[.num 2 9999 5])++[.num 2 9999 6])++[.num 2 9999 7])++[.num 2 9999 8])++[.num 2 9999 9]) zPh s0=.ok ([.bool x0,I x1,I x2,I x3,I x4,I x5,I x6,I x7,I x8,I x9,I 0,.bool false,.bool false],tn)):=hJJ (je RUN0.out hstep);have HB1:=hJJ (HB.out.step hb);have HS1:=hJJ hs;clear RUN0 hstep hcon HB HS hs hb;have c0:V2.cell? ⟨p,9,none⟩=some (I 0):=HB1.out.cell 0 9 rfl rfl;have f0:V2.frozen? ⟨p,9,none⟩=false:=HB1.out.frozen 0 9 rfl;go_upto_region 12 with fail
 have hput:=HB1.out.set 0 9 rfl (I x9);have hds:=HS1.out.but (But.set p 9 V2 (I x9)) hBp;simp only [ke,kf,kb] at hput;clear c0 f0 HB1 HS1;generalize ki V2 _ _=V3 at hput hds |-;clear V2 V t;rename World=>V
 rename St=>t
 have HB:=hJJ hput;have HS:=hJJ hds;have RUN0:=RUN1;clear hput hds RUN1;go_wp2_with fail
 have hcon:=j09 t 1 3 V HS.out;have hstep:Sp.run (DP bs) [.bool x0,I x1,I x2,I x3,I x4,I x5,I x6,I x7,I x8,I x9,I 0,.bool false,.bool false] t (.num 1 3 10)=.ok ([.bool x0,I x1,I x2,I x3,I x4,I x5,I x6,I x7,I x8,I x9,I ((Nm.num bs t (lim 1 7) 0 3).1),.bool false,.bool false],(Nm.num bs t (lim 1 7) 0 3).2):=rfl;generalize hx:(Nm.num bs t (lim 1 7) 0 3).1=x10 at hcon hstep;generalize hn:(Nm.num bs t (lim 1 7) 0 3).2=tn at hcon hstep;clear hx hn;refine hcon.mono ?_;rintro e V2 ⟨rfl,hs,hb⟩;have RUN1:Hid (runs (DP bs) ((((((((((([]++[.flg 0])++[.num 2 9999 1])++[.num 2 9999 2])++[.num 2 9999 3])++[.num 2 9999 4])++[.num 2 9999 5])++[.num 2 9999 6])++[.num 2 9999 7])++[.num 2 9999 8])++[.num 2 9999 9])++[.num 1 3 10]) zPh s0=.ok ([.bool x0,I x1,I x2,I x3,I x4,I x5,I x6,I x7,I x8,I x9,I x10,.bool false,.bool false],tn)):=hJJ (je RUN0.out hstep);have HB1:=hJJ (HB.out.step hb);have HS1:=hJJ hs;clear RUN0 hstep hcon HB HS hs hb;have c0:V2.cell? ⟨p,10,none⟩=some (I 0):=HB1.out.cell 0 10 rfl rfl;have f0:V2.frozen? ⟨p,10,none⟩=false:=HB1.out.frozen 0 10 rfl;go_upto_region 13 with fail
 have hput:=HB1.out.set 0 10 rfl (I x10);have hds:=HS1.out.but (But.set p 10 V2 (I x10)) hBp;simp only [ke,kf,kb] at hput;clear c0 f0 HB1 HS1;generalize ki V2 _ _=V3 at hput hds |-;clear V2 V t;rename World=>V
 rename St=>t
 have HB:=hJJ hput;have HS:=hJJ hds;have RUN0:=RUN1;clear hput hds RUN1;go_wp2_with fail
 have hcon:=j8k t V HS.out;have hstep:Sp.run (DP bs) [.bool x0,I x1,I x2,I x3,I x4,I x5,I x6,I x7,I x8,I x9,I x10,.bool false,.bool false] t (.flg 11)=.ok ([.bool x0,I x1,I x2,I x3,I x4,I x5,I x6,I x7,I x8,I x9,I x10,.bool (decide ((Nm.num bs t 1 0 1).1=1)),.bool false],(Nm.num bs t 1 0 1).2):=rfl;generalize hx:decide ((Nm.num bs t 1 0 1).1=1)=x11 at hcon hstep;generalize hn:(Nm.num bs t 1 0 1).2=tn at hcon hstep;clear hx hn;refine hcon.mono ?_;rintro e V2 ⟨rfl,hs,hb⟩;have RUN1:Hid (runs (DP bs) (((((((((((([]++[.flg 0])++[.num 2 9999 1])++[.num 2 9999 2])++[.num 2 9999 3])++[.num 2 9999 4])++[.num 2 9999 5])++[.num 2 9999 6])++[.num 2 9999 7])++[.num 2 9999 8])++[.num 2 9999 9])++[.num 1 3 10])++[.flg 11]) zPh s0=.ok ([.bool x0,I x1,I x2,I x3,I x4,I x5,I x6,I x7,I x8,I x9,I x10,.bool x11,.bool false],tn)):=hJJ (je RUN0.out hstep);have HB1:=hJJ (HB.out.step hb);have HS1:=hJJ hs;clear RUN0 hstep hcon HB HS hs hb;have c0:V2.cell? ⟨p,11,none⟩=some (.bool false):=HB1.out.cell 0 11 rfl rfl;have f0:V2.frozen? ⟨p,11,none⟩=false:=HB1.out.frozen 0 11 rfl;go_upto_region 14 with fail
 have hput:=HB1.out.set 0 11 rfl (.bool x11);have hds:=HS1.out.but (But.set p 11 V2 (.bool x11)) hBp;simp only [ke,kf,kb] at hput;clear c0 f0 HB1 HS1;generalize ki V2 _ _=V3 at hput hds |-;clear V2 V t;rename World=>V
 rename St=>t
 have HB:=hJJ hput;have HS:=hJJ hds;have RUN0:=RUN1;clear hput hds RUN1;go_wp2_with fail
 have hcon:=j8k t V HS.out;have hstep:Sp.run (DP bs) [.bool x0,I x1,I x2,I x3,I x4,I x5,I x6,I x7,I x8,I x9,I x10,.bool x11,.bool false] t (.flg 12)=.ok ([.bool x0,I x1,I x2,I x3,I x4,I x5,I x6,I x7,I x8,I x9,I x10,.bool x11,.bool (decide ((Nm.num bs t 1 0 1).1=1))],(Nm.num bs t 1 0 1).2):=rfl;generalize hx:decide ((Nm.num bs t 1 0 1).1=1)=x12 at hcon hstep;generalize hn:(Nm.num bs t 1 0 1).2=tn at hcon hstep;clear hx hn;refine hcon.mono ?_;rintro e V2 ⟨rfl,hs,hb⟩;have RUN1:Hid (runs (DP bs) ((((((((((((([]++[.flg 0])++[.num 2 9999 1])++[.num 2 9999 2])++[.num 2 9999 3])++[.num 2 9999 4])++[.num 2 9999 5])++[.num 2 9999 6])++[.num 2 9999 7])++[.num 2 9999 8])++[.num 2 9999 9])++[.num 1 3 10])++[.flg 11])++[.flg 12]) zPh s0=.ok ([.bool x0,I x1,I x2,I x3,I x4,I x5,I x6,I x7,I x8,I x9,I x10,.bool x11,.bool x12],tn)):=hJJ (je RUN0.out hstep);have HB1:=hJJ (HB.out.step hb);have HS1:=hJJ hs;clear RUN0 hstep hcon HB HS hs hb;have c0:V2.cell? ⟨p,12,none⟩=some (.bool false):=HB1.out.cell 0 12 rfl rfl;have f0:V2.frozen? ⟨p,12,none⟩=false:=HB1.out.frozen 0 12 rfl;go_upto_region 15 with fail
 have hput:=HB1.out.set 0 12 rfl (.bool x12);have hds:=HS1.out.but (But.set p 12 V2 (.bool x12)) hBp;simp only [ke,kf,kb] at hput;clear c0 f0 HB1 HS1;generalize ki V2 _ _=V3 at hput hds |-;clear V2 V t;rename World=>V
 rename St=>t
 have HB:=hJJ hput;have HS:=hJJ hds;have RUN0:=RUN1;clear hput hds RUN1;go_wp2_with (first | (refine Row.j7 25 _ rfl (by first | rfl | (go_simp;done) | fail) ⟨p,0,none⟩ rfl [.bool x0,I x1,I x2,I x3,I x4,I x5,I x6,I x7,I x8,I x9,I x10,.bool x11,.bool x12] _ (by have:=Row.j1 (HB.out.at 0 rfl);simpa using this) Tryz.underlying25 rfl j1B ?_) | (refine Ko rfl 25 _ _ rfl gz #[.bool x0,I x1,I x2,I x3,I x4,I x5,I x6,I x7,I x8,I x9,I x10,.bool x11,.bool x12] rfl rfl 25 _ (HB.out.at 1 rfl) j1B rfl (by simp [kw]) ?_))
 have hput:=HB.out.put 1 rfl #[.bool x0,I x1,I x2,I x3,I x4,I x5,I x6,I x7,I x8,I x9,I x10,.bool x11,.bool x12];have hds:=HS.out.but (But.row #[.bool x0,I x1,I x2,I x3,I x4,I x5,I x6,I x7,I x8,I x9,I x10,.bool x11,.bool x12] (HB.out.at 1 rfl) rfl) (by omega);simp only [ke,kf] at hput;generalize kG V gz _=V3 at hput hds |-;have HB3:=hJJ hput;have HS3:=hJJ hds;clear hput hds;go_wp2_with fail
 (try simp only [kx,Exit.then])
 refine Ks (v:=.agg #[.bool x0,I x1,I x2,I x3,I x4,I x5,I x6,I x7,I x8,I x9,I x10,.bool x11,.bool x12]) ?_ rfl ⟨[.bool x0,I x1,I x2,I x3,I x4,I x5,I x6,I x7,I x8,I x9,I x10,.bool x11,.bool x12],t,RUN0.out,rfl,HS3.out,HB3.out.bel⟩;exact Kw rfl _ _ gz 25 _ (0,0) _ rfl (HB3.out.at 1 rfl) Tryz.underlying25 rfl j1B
theorem j1a:(Tryz.prog.info? 71).map (·.size)=some 7:=by kernel_rfl
theorem j8l (s0:St) (W:World) (h:Ds B g ad cap bs s0 W):Calls Tryz.prog 63 #[ptr g] W fun e W'=>∃ l s',runs (DP bs) stD zDt s0=.ok (l,s')/\e=.returned (.agg l.toArray)/\Ds B g ad cap bs s' W'/\But g W W':=by
 have hg:g < W.heap.size:=kv h.gl h.bl;have hBW:=h.bl;have h0:=((Bkg.nil hg).alloc #[I 0,.float .f64 0,.float .f64 0,.float .f64 0,.float .f64 0,I 0,I 0] 71).alloc #[I 0,.float .f64 0,.float .f64 0,.float .f64 0,.float .f64 0,I 0,I 0] 71;rw [show (W.alloc (.cells #[I 0,.float .f64 0,.float .f64 0,.float .f64 0,.float .f64 0,I 0,I 0] 71)).heap.size=W.heap.size+1 by simp] at h0;have hs0:=h.mem (((km W.heap.size W).alloc (ko _) (.cells #[I 0,.float .f64 0,.float .f64 0,.float .f64 0,.float .f64 0,I 0,I 0] 71)).alloc (by simp) (.cells #[I 0,.float .f64 0,.float .f64 0,.float .f64 0,.float .f64 0,I 0,I 0] 71));have RUN:Hid (runs (DP bs) [] zDt s0=.ok ([I 0,.float .f64 0,.float .f64 0,.float .f64 0,.float .f64 0,I 0,I 0],s0)):=hJJ rfl;obtain ⟨t,ht⟩:∃ t,s0=t:=⟨_,rfl⟩;rw [show Ds B g ad cap bs s0 _=Ds B g ad cap bs t _ by rw [ht]] at hs0;have RUN0:Hid (runs (DP bs) [] zDt s0=.ok ([I 0,.float .f64 0,.float .f64 0,.float .f64 0,.float .f64 0,I 0,I 0],t)):=hJJ (by rw [<-ht];exact RUN.out);clear RUN h ht;go_enter Tryz.func63,Tryz.ntmps63
 go_upto_region 2 with fail
 generalize kq (kq W _) _=V at h0 hs0 |-;generalize hp:W.heap.size+1=p at h0 |-;generalize hz:W.heap.size=gz at h0 hg hBW |-;have hBp:B<=p:=by omega
 have HS:=hJJ hs0;have HB:=hJJ h0;clear h0 hs0 hp hg;go_wp2_with fail
 have hcon:=j09 t 1 7 V HS.out;have hstep:Sp.run (DP bs) [I 0,.float .f64 0,.float .f64 0,.float .f64 0,.float .f64 0,I 0,I 0] t (.num 1 7 0)=.ok ([I ((Nm.num bs t (lim 1 7) 0 7).1),.float .f64 0,.float .f64 0,.float .f64 0,.float .f64 0,I 0,I 0],(Nm.num bs t (lim 1 7) 0 7).2):=rfl;generalize hx:(Nm.num bs t (lim 1 7) 0 7).1=x0 at hcon hstep;generalize hn:(Nm.num bs t (lim 1 7) 0 7).2=tn at hcon hstep;clear hx hn;refine hcon.mono ?_;rintro e V2 ⟨rfl,hs,hb⟩;have RUN1:Hid (runs (DP bs) ([]++[.num 1 7 0]) zDt s0=.ok ([I x0,.float .f64 0,.float .f64 0,.float .f64 0,.float .f64 0,I 0,I 0],tn)):=hJJ (je RUN0.out hstep);have HB1:=hJJ (HB.out.step hb);have HS1:=hJJ hs;clear RUN0 hstep hcon HB HS hs hb;have c0:V2.cell? ⟨p,0,none⟩=some (I 0):=HB1.out.cell 0 0 rfl rfl;have f0:V2.frozen? ⟨p,0,none⟩=false:=HB1.out.frozen 0 0 rfl;go_upto_region 3 with fail
 have hput:=HB1.out.set 0 0 rfl (I x0);have hds:=HS1.out.but (But.set p 0 V2 (I x0)) hBp;simp only [ke,kf,kb] at hput;clear c0 f0 HB1 HS1;generalize ki V2 _ _=V3 at hput hds |-;clear V2 V t;rename World=>V
 rename St=>t
 have HB:=hJJ hput;have HS:=hJJ hds;have RUN0:=RUN1;clear hput hds RUN1;go_wp2_with fail
 have hcon:=j6w t true V HS.out;have hstep:Sp.run (DP bs) [I x0,.float .f64 0,.float .f64 0,.float .f64 0,.float .f64 0,I 0,I 0] t (.flt true 1)=.ok ([I x0,.float .f64 ((some_ bs t true).1),.float .f64 0,.float .f64 0,.float .f64 0,I 0,I 0],(some_ bs t true).2):=rfl;generalize hx:(some_ bs t true).1=x1 at hcon hstep;generalize hn:(some_ bs t true).2=tn at hcon hstep;clear hx hn;refine hcon.mono ?_;rintro e V2 ⟨rfl,hs,hb⟩;have RUN1:Hid (runs (DP bs) (([]++[.num 1 7 0])++[.flt true 1]) zDt s0=.ok ([I x0,.float .f64 x1,.float .f64 0,.float .f64 0,.float .f64 0,I 0,I 0],tn)):=hJJ (je RUN0.out hstep);have HB1:=hJJ (HB.out.step hb);have HS1:=hJJ hs;clear RUN0 hstep hcon HB HS hs hb;have c0:V2.cell? ⟨p,1,none⟩=some (.float .f64 0):=HB1.out.cell 0 1 rfl rfl;have f0:V2.frozen? ⟨p,1,none⟩=false:=HB1.out.frozen 0 1 rfl;have st:Kk Tryz.prog (store ⟨p,1,none⟩ (.float .f64 x1)) V2=.ok () (V2.setCell ⟨p,1,none⟩ (.float .f64 x1)):=Rr.jR c0 f0;go_upto_region 4 with fail
 clear st;have hput:=HB1.out.set 0 1 rfl (.float .f64 x1);have hds:=HS1.out.but (But.set p 1 V2 (.float .f64 x1)) hBp;simp only [ke,kf,kb] at hput;clear c0 f0 HB1 HS1;generalize ki V2 _ _=V3 at hput hds |-;clear V2 V t;rename World=>V
 rename St=>t
 have HB:=hJJ hput;have HS:=hJJ hds;have RUN0:=RUN1;clear hput hds RUN1;go_wp2_with fail
 have hcon:=j6w t true V HS.out;have hstep:Sp.run (DP bs) [I x0,.float .f64 x1,.float .f64 0,.float .f64 0,.float .f64 0,I 0,I 0] t (.flt true 2)=.ok ([I x0,.float .f64 x1,.float .f64 ((some_ bs t true).1),.float .f64 0,.float .f64 0,I 0,I 0],(some_ bs t true).2):=rfl;generalize hx:(some_ bs t true).1=x2 at hcon hstep;generalize hn:(some_ bs t true).2=tn at hcon hstep;clear hx hn;refine hcon.mono ?_;rintro e V2 ⟨rfl,hs,hb⟩;have RUN1:Hid (runs (DP bs) ((([]++[.num 1 7 0])++[.flt true 1])++[.flt true 2]) zDt s0=.ok ([I x0,.float .f64 x1,.float .f64 x2,.float .f64 0,.float .f64 0,I 0,I 0],tn)):=hJJ (je RUN0.out hstep);have HB1:=hJJ (HB.out.step hb);have HS1:=hJJ hs;clear RUN0 hstep hcon HB HS hs hb;have c0:V2.cell? ⟨p,2,none⟩=some (.float .f64 0):=HB1.out.cell 0 2 rfl rfl;have f0:V2.frozen? ⟨p,2,none⟩=false:=HB1.out.frozen 0 2 rfl;have st:Kk Tryz.prog (store ⟨p,2,none⟩ (.float .f64 x2)) V2=.ok () (V2.setCell ⟨p,2,none⟩ (.float .f64 x2)):=Rr.jR c0 f0;go_upto_region 5 with fail
 clear st;have hput:=HB1.out.set 0 2 rfl (.float .f64 x2);have hds:=HS1.out.but (But.set p 2 V2 (.float .f64 x2)) hBp;simp only [ke,kf,kb] at hput;clear c0 f0 HB1 HS1;generalize ki V2 _ _=V3 at hput hds |-;clear V2 V t;rename World=>V
 rename St=>t
 have HB:=hJJ hput;have HS:=hJJ hds;have RUN0:=RUN1;clear hput hds RUN1;go_wp2_with fail
 have hcon:=j6w t false V HS.out;have hstep:Sp.run (DP bs) [I x0,.float .f64 x1,.float .f64 x2,.float .f64 0,.float .f64 0,I 0,I 0] t (.flt false 3)=.ok ([I x0,.float .f64 x1,.float .f64 x2,.float .f64 ((some_ bs t false).1),.float .f64 0,I 0,I 0],(some_ bs t false).2):=rfl;generalize hx:(some_ bs t false).1=x3 at hcon hstep;generalize hn:(some_ bs t false).2=tn at hcon hstep;clear hx hn;refine hcon.mono ?_;rintro e V2 ⟨rfl,hs,hb⟩;have RUN1:Hid (runs (DP bs) (((([]++[.num 1 7 0])++[.flt true 1])++[.flt true 2])++[.flt false 3]) zDt s0=.ok ([I x0,.float .f64 x1,.float .f64 x2,.float .f64 x3,.float .f64 0,I 0,I 0],tn)):=hJJ (je RUN0.out hstep);have HB1:=hJJ (HB.out.step hb);have HS1:=hJJ hs;clear RUN0 hstep hcon HB HS hs hb;have c0:V2.cell? ⟨p,3,none⟩=some (.float .f64 0):=HB1.out.cell 0 3 rfl rfl;have f0:V2.frozen? ⟨p,3,none⟩=false:=HB1.out.frozen 0 3 rfl;have st:Kk Tryz.prog (store ⟨p,3,none⟩ (.float .f64 x3)) V2=.ok () (V2.setCell ⟨p,3,none⟩ (.float .f64 x3)):=Rr.jR c0 f0;go_upto_region 6 with fail
 clear st;have hput:=HB1.out.set 0 3 rfl (.float .f64 x3);have hds:=HS1.out.but (But.set p 3 V2 (.float .f64 x3)) hBp;simp only [ke,kf,kb] at hput;clear c0 f0 HB1 HS1;generalize ki V2 _ _=V3 at hput hds |-;clear V2 V t;rename World=>V
 rename St=>t
 have HB:=hJJ hput;have HS:=hJJ hds;have RUN0:=RUN1;clear hput hds RUN1;go_wp2_with fail
 have hcon:=j6w t false V HS.out;have hstep:Sp.run (DP bs) [I x0,.float .f64 x1,.float .f64 x2,.float .f64 x3,.float .f64 0,I 0,I 0] t (.flt false 4)=.ok ([I x0,.float .f64 x1,.float .f64 x2,.float .f64 x3,.float .f64 ((some_ bs t false).1),I 0,I 0],(some_ bs t false).2):=rfl;generalize hx:(some_ bs t false).1=x4 at hcon hstep;generalize hn:(some_ bs t false).2=tn at hcon hstep;clear hx hn;refine hcon.mono ?_;rintro e V2 ⟨rfl,hs,hb⟩;have RUN1:Hid (runs (DP bs) ((((([]++[.num 1 7 0])++[.flt true 1])++[.flt true 2])++[.flt false 3])++[.flt false 4]) zDt s0=.ok ([I x0,.float .f64 x1,.float .f64 x2,.float .f64 x3,.float .f64 x4,I 0,I 0],tn)):=hJJ (je RUN0.out hstep);have HB1:=hJJ (HB.out.step hb);have HS1:=hJJ hs;clear RUN0 hstep hcon HB HS hs hb;have c0:V2.cell? ⟨p,4,none⟩=some (.float .f64 0):=HB1.out.cell 0 4 rfl rfl;have f0:V2.frozen? ⟨p,4,none⟩=false:=HB1.out.frozen 0 4 rfl;have st:Kk Tryz.prog (store ⟨p,4,none⟩ (.float .f64 x4)) V2=.ok () (V2.setCell ⟨p,4,none⟩ (.float .f64 x4)):=Rr.jR c0 f0;go_upto_region 7 with fail
 clear st;have hput:=HB1.out.set 0 4 rfl (.float .f64 x4);have hds:=HS1.out.but (But.set p 4 V2 (.float .f64 x4)) hBp;simp only [ke,kf,kb] at hput;clear c0 f0 HB1 HS1;generalize ki V2 _ _=V3 at hput hds |-;clear V2 V t;rename World=>V
 rename St=>t
 have HB:=hJJ hput;have HS:=hJJ hds;have RUN0:=RUN1;clear hput hds RUN1;go_wp2_with fail
 have hcon:=Jh t V HS.out;have hstep:Sp.run (DP bs) [I x0,.float .f64 x1,.float .f64 x2,.float .f64 x3,.float .f64 x4,I 0,I 0] t (.num 2 9999 5)=.ok ([I x0,.float .f64 x1,.float .f64 x2,.float .f64 x3,.float .f64 x4,I ((Nm.num bs t (lim 2 7) 0 9999).1),I 0],(Nm.num bs t (lim 2 7) 0 9999).2):=rfl;generalize hx:(Nm.num bs t (lim 2 7) 0 9999).1=x5 at hcon hstep;generalize hn:(Nm.num bs t (lim 2 7) 0 9999).2=tn at hcon hstep;clear hx hn;refine hcon.mono ?_;rintro e V2 ⟨rfl,hs,hb⟩;have RUN1:Hid (runs (DP bs) (((((([]++[.num 1 7 0])++[.flt true 1])++[.flt true 2])++[.flt false 3])++[.flt false 4])++[.num 2 9999 5]) zDt s0=.ok ([I x0,.float .f64 x1,.float .f64 x2,.float .f64 x3,.float .f64 x4,I x5,I 0],tn)):=hJJ (je RUN0.out hstep);have HB1:=hJJ (HB.out.step hb);have HS1:=hJJ hs;clear RUN0 hstep hcon HB HS hs hb;have c0:V2.cell? ⟨p,5,none⟩=some (I 0):=HB1.out.cell 0 5 rfl rfl;have f0:V2.frozen? ⟨p,5,none⟩=false:=HB1.out.frozen 0 5 rfl;go_upto_region 8 with fail
 have hput:=HB1.out.set 0 5 rfl (I x5);have hds:=HS1.out.but (But.set p 5 V2 (I x5)) hBp;simp only [ke,kf,kb] at hput;clear c0 f0 HB1 HS1;generalize ki V2 _ _=V3 at hput hds |-;clear V2 V t;rename World=>V
 rename St=>t
 have HB:=hJJ hput;have HS:=hJJ hds;have RUN0:=RUN1;clear hput hds RUN1;go_wp2_with fail
 have hcon:=Jh t V HS.out;have hstep:Sp.run (DP bs) [I x0,.float .f64 x1,.float .f64 x2,.float .f64 x3,.float .f64 x4,I x5,I 0] t (.num 2 9999 6)=.ok ([I x0,.float .f64 x1,.float .f64 x2,.float .f64 x3,.float .f64 x4,I x5,I ((Nm.num bs t (lim 2 7) 0 9999).1)],(Nm.num bs t (lim 2 7) 0 9999).2):=rfl;generalize hx:(Nm.num bs t (lim 2 7) 0 9999).1=x6 at hcon hstep;generalize hn:(Nm.num bs t (lim 2 7) 0 9999).2=tn at hcon hstep;clear hx hn;refine hcon.mono ?_;rintro e V2 ⟨rfl,hs,hb⟩;have RUN1:Hid (runs (DP bs) ((((((([]++[.num 1 7 0])++[.flt true 1])++[.flt true 2])++[.flt false 3])++[.flt false 4])++[.num 2 9999 5])++[.num 2 9999 6]) zDt s0=.ok ([I x0,.float .f64 x1,.float .f64 x2,.float .f64 x3,.float .f64 x4,I x5,I x6],tn)):=hJJ (je RUN0.out hstep);have HB1:=hJJ (HB.out.step hb);have HS1:=hJJ hs;clear RUN0 hstep hcon HB HS hs hb;have c0:V2.cell? ⟨p,6,none⟩=some (I 0):=HB1.out.cell 0 6 rfl rfl;have f0:V2.frozen? ⟨p,6,none⟩=false:=HB1.out.frozen 0 6 rfl;go_upto_region 9 with fail
 have hput:=HB1.out.set 0 6 rfl (I x6);have hds:=HS1.out.but (But.set p 6 V2 (I x6)) hBp;simp only [ke,kf,kb] at hput;clear c0 f0 HB1 HS1;generalize ki V2 _ _=V3 at hput hds |-;clear V2 V t;rename World=>V
 rename St=>t
 have HB:=hJJ hput;have HS:=hJJ hds;have RUN0:=RUN1;clear hput hds RUN1;go_wp2_with (first | (refine Row.j7 71 _ rfl (by first | rfl | (go_simp;done) | fail) ⟨p,0,none⟩ rfl [I x0,.float .f64 x1,.float .f64 x2,.float .f64 x3,.float .f64 x4,I x5,I x6] _ (by have:=Row.j1 (HB.out.at 0 rfl);simpa using this) Tryz.underlying71 rfl j1a ?_) | (refine Ko rfl 71 _ _ rfl gz #[I x0,.float .f64 x1,.float .f64 x2,.float .f64 x3,.float .f64 x4,I x5,I x6] rfl rfl 71 _ (HB.out.at 1 rfl) j1a rfl (by simp [kw]) ?_))
 have hput:=HB.out.put 1 rfl #[I x0,.float .f64 x1,.float .f64 x2,.float .f64 x3,.float .f64 x4,I x5,I x6];have hds:=HS.out.but (But.row #[I x0,.float .f64 x1,.float .f64 x2,.float .f64 x3,.float .f64 x4,I x5,I x6] (HB.out.at 1 rfl) rfl) (by omega);simp only [ke,kf] at hput;generalize kG V gz _=V3 at hput hds |-;have HB3:=hJJ hput;have HS3:=hJJ hds;clear hput hds;go_wp2_with fail
 (try simp only [kx,Exit.then])
 refine Ks (v:=.agg #[I x0,.float .f64 x1,.float .f64 x2,.float .f64 x3,.float .f64 x4,I x5,I x6]) ?_ rfl ⟨[I x0,.float .f64 x1,.float .f64 x2,.float .f64 x3,.float .f64 x4,I x5,I x6],t,RUN0.out,rfl,HS3.out,HB3.out.bel⟩;exact Kw rfl _ _ gz 71 _ (0,0) _ rfl (HB3.out.at 1 rfl) Tryz.underlying71 rfl j1a
theorem j3B:(Tryz.prog.info? 75).map (·.size)=some 11:=by kernel_rfl
theorem jeG (s0:St) (W:World) (h:Ds B g ad cap bs s0 W):Calls Tryz.prog 64 #[ptr g] W fun e W'=>∃ l s',runs (DP bs) stR zRl s0=.ok (l,s')/\e=.returned (.agg l.toArray)/\Ds B g ad cap bs s' W'/\But g W W':=by
 have hg:g < W.heap.size:=kv h.gl h.bl;have hBW:=h.bl;have h0:=((Bkg.nil hg).alloc #[I 0,I 0,I 0,I 0,I 0,I 0,I 0,I 0,I 0,I 0,I 0] 75).alloc #[I 0,I 0,I 0,I 0,I 0,I 0,I 0,I 0,I 0,I 0,I 0] 75;rw [show (W.alloc (.cells #[I 0,I 0,I 0,I 0,I 0,I 0,I 0,I 0,I 0,I 0,I 0] 75)).heap.size=W.heap.size+1 by simp] at h0;have hs0:=h.mem (((km W.heap.size W).alloc (ko _) (.cells #[I 0,I 0,I 0,I 0,I 0,I 0,I 0,I 0,I 0,I 0,I 0] 75)).alloc (by simp) (.cells #[I 0,I 0,I 0,I 0,I 0,I 0,I 0,I 0,I 0,I 0,I 0] 75));have RUN:Hid (runs (DP bs) [] zRl s0=.ok ([I 0,I 0,I 0,I 0,I 0,I 0,I 0,I 0,I 0,I 0,I 0],s0)):=hJJ rfl;obtain ⟨t,ht⟩:∃ t,s0=t:=⟨_,rfl⟩;rw [show Ds B g ad cap bs s0 _=Ds B g ad cap bs t _ by rw [ht]] at hs0;have RUN0:Hid (runs (DP bs) [] zRl s0=.ok ([I 0,I 0,I 0,I 0,I 0,I 0,I 0,I 0,I 0,I 0,I 0],t)):=hJJ (by rw [<-ht];exact RUN.out);clear RUN h ht;go_enter Tryz.func64,Tryz.ntmps64
 go_upto_region 2 with fail
 generalize kq (kq W _) _=V at h0 hs0 |-;generalize hp:W.heap.size+1=p at h0 |-;generalize hz:W.heap.size=gz at h0 hg hBW |-;have hBp:B<=p:=by omega
 have HS:=hJJ hs0;have HB:=hJJ h0;clear h0 hs0 hp hg;go_wp2_with fail
 have hcon:=j09 t 1 255 V HS.out;have hstep:Sp.run (DP bs) [I 0,I 0,I 0,I 0,I 0,I 0,I 0,I 0,I 0,I 0,I 0] t (.num 1 255 0)=.ok ([I ((Nm.num bs t (lim 1 7) 0 255).1),I 0,I 0,I 0,I 0,I 0,I 0,I 0,I 0,I 0,I 0],(Nm.num bs t (lim 1 7) 0 255).2):=rfl;generalize hx:(Nm.num bs t (lim 1 7) 0 255).1=x0 at hcon hstep;generalize hn:(Nm.num bs t (lim 1 7) 0 255).2=tn at hcon hstep;clear hx hn;refine hcon.mono ?_;rintro e V2 ⟨rfl,hs,hb⟩;have RUN1:Hid (runs (DP bs) ([]++[.num 1 255 0]) zRl s0=.ok ([I x0,I 0,I 0,I 0,I 0,I 0,I 0,I 0,I 0,I 0,I 0],tn)):=hJJ (je RUN0.out hstep);have HB1:=hJJ (HB.out.step hb);have HS1:=hJJ hs;clear RUN0 hstep hcon HB HS hs hb;have c0:V2.cell? ⟨p,0,none⟩=some (I 0):=HB1.out.cell 0 0 rfl rfl;have f0:V2.frozen? ⟨p,0,none⟩=false:=HB1.out.frozen 0 0 rfl;go_upto_region 3 with fail
 have hput:=HB1.out.set 0 0 rfl (I x0);have hds:=HS1.out.but (But.set p 0 V2 (I x0)) hBp;simp only [ke,kf,kb] at hput;clear c0 f0 HB1 HS1;generalize ki V2 _ _=V3 at hput hds |-;clear V2 V t;rename World=>V
 rename St=>t
 have HB:=hJJ hput;have HS:=hJJ hds;have RUN0:=RUN1;clear hput hds RUN1;go_wp2_with fail
 have hcon:=j09 t 1 255 V HS.out;have hstep:Sp.run (DP bs) [I x0,I 0,I 0,I 0,I 0,I 0,I 0,I 0,I 0,I 0,I 0] t (.num 1 255 1)=.ok ([I x0,I ((Nm.num bs t (lim 1 7) 0 255).1),I 0,I 0,I 0,I 0,I 0,I 0,I 0,I 0,I 0],(Nm.num bs t (lim 1 7) 0 255).2):=rfl;generalize hx:(Nm.num bs t (lim 1 7) 0 255).1=x1 at hcon hstep;generalize hn:(Nm.num bs t (lim 1 7) 0 255).2=tn at hcon hstep;clear hx hn;refine hcon.mono ?_;rintro e V2 ⟨rfl,hs,hb⟩;have RUN1:Hid (runs (DP bs) (([]++[.num 1 255 0])++[.num 1 255 1]) zRl s0=.ok ([I x0,I x1,I 0,I 0,I 0,I 0,I 0,I 0,I 0,I 0,I 0],tn)):=hJJ (je RUN0.out hstep);have HB1:=hJJ (HB.out.step hb);have HS1:=hJJ hs;clear RUN0 hstep hcon HB HS hs hb;have c0:V2.cell? ⟨p,1,none⟩=some (I 0):=HB1.out.cell 0 1 rfl rfl;have f0:V2.frozen? ⟨p,1,none⟩=false:=HB1.out.frozen 0 1 rfl;go_upto_region 4 with fail
 have hput:=HB1.out.set 0 1 rfl (I x1);have hds:=HS1.out.but (But.set p 1 V2 (I x1)) hBp;simp only [ke,kf,kb] at hput;clear c0 f0 HB1 HS1;generalize ki V2 _ _=V3 at hput hds |-;clear V2 V t;rename World=>V
 rename St=>t
 have HB:=hJJ hput;have HS:=hJJ hds;have RUN0:=RUN1;clear hput hds RUN1;go_wp2_with fail
 have hcon:=j09 t 1 255 V HS.out;have hstep:Sp.run (DP bs) [I x0,I x1,I 0,I 0,I 0,I 0,I 0,I 0,I 0,I 0,I 0] t (.num 1 255 2)=.ok ([I x0,I x1,I ((Nm.num bs t (lim 1 7) 0 255).1),I 0,I 0,I 0,I 0,I 0,I 0,I 0,I 0],(Nm.num bs t (lim 1 7) 0 255).2):=rfl;generalize hx:(Nm.num bs t (lim 1 7) 0 255).1=x2 at hcon hstep;generalize hn:(Nm.num bs t (lim 1 7) 0 255).2=tn at hcon hstep;clear hx hn;refine hcon.mono ?_;rintro e V2 ⟨rfl,hs,hb⟩;have RUN1:Hid (runs (DP bs) ((([]++[.num 1 255 0])++[.num 1 255 1])++[.num 1 255 2]) zRl s0=.ok ([I x0,I x1,I x2,I 0,I 0,I 0,I 0,I 0,I 0,I 0,I 0],tn)):=hJJ (je RUN0.out hstep);have HB1:=hJJ (HB.out.step hb);have HS1:=hJJ hs;clear RUN0 hstep hcon HB HS hs hb;have c0:V2.cell? ⟨p,2,none⟩=some (I 0):=HB1.out.cell 0 2 rfl rfl;have f0:V2.frozen? ⟨p,2,none⟩=false:=HB1.out.frozen 0 2 rfl;go_upto_region 5 with fail
 have hput:=HB1.out.set 0 2 rfl (I x2);have hds:=HS1.out.but (But.set p 2 V2 (I x2)) hBp;simp only [ke,kf,kb] at hput;clear c0 f0 HB1 HS1;generalize ki V2 _ _=V3 at hput hds |-;clear V2 V t;rename World=>V
 rename St=>t
 have HB:=hJJ hput;have HS:=hJJ hds;have RUN0:=RUN1;clear hput hds RUN1;go_wp2_with fail
 have hcon:=j09 t 1 255 V HS.out;have hstep:Sp.run (DP bs) [I x0,I x1,I x2,I 0,I 0,I 0,I 0,I 0,I 0,I 0,I 0] t (.num 1 255 3)=.ok ([I x0,I x1,I x2,I ((Nm.num bs t (lim 1 7) 0 255).1),I 0,I 0,I 0,I 0,I 0,I 0,I 0],(Nm.num bs t (lim 1 7) 0 255).2):=rfl;generalize hx:(Nm.num bs t (lim 1 7) 0 255).1=x3 at hcon hstep;generalize hn:(Nm.num bs t (lim 1 7) 0 255).2=tn at hcon hstep;clear hx hn;refine hcon.mono ?_;rintro e V2 ⟨rfl,hs,hb⟩;have RUN1:Hid (runs (DP bs) (((([]++[.num 1 255 0])++[.num 1 255 1])++[.num 1 255 2])++[.num 1 255 3]) zRl s0=.ok ([I x0,I x1,I x2,I x3,I 0,I 0,I 0,I 0,I 0,I 0,I 0],tn)):=hJJ (je RUN0.out hstep);have HB1:=hJJ (HB.out.step hb);have HS1:=hJJ hs;clear RUN0 hstep hcon HB HS hs hb;have c0:V2.cell? ⟨p,3,none⟩=some (I 0):=HB1.out.cell 0 3 rfl rfl;have f0:V2.frozen? ⟨p,3,none⟩=false:=HB1.out.frozen 0 3 rfl;go_upto_region 6 with fail
 have hput:=HB1.out.set 0 3 rfl (I x3);have hds:=HS1.out.but (But.set p 3 V2 (I x3)) hBp;simp only [ke,kf,kb] at hput;clear c0 f0 HB1 HS1;generalize ki V2 _ _=V3 at hput hds |-;clear V2 V t;rename World=>V
 rename St=>t
 have HB:=hJJ hput;have HS:=hJJ hds;have RUN0:=RUN1;clear hput hds RUN1;go_wp2_with fail
 have hcon:=Jh t V HS.out;have hstep:Sp.run (DP bs) [I x0,I x1,I x2,I x3,I 0,I 0,I 0,I 0,I 0,I 0,I 0] t (.num 2 9999 4)=.ok ([I x0,I x1,I x2,I x3,I ((Nm.num bs t (lim 2 7) 0 9999).1),I 0,I 0,I 0,I 0,I 0,I 0],(Nm.num bs t (lim 2 7) 0 9999).2):=rfl;generalize hx:(Nm.num bs t (lim 2 7) 0 9999).1=x4 at hcon hstep;generalize hn:(Nm.num bs t (lim 2 7) 0 9999).2=tn at hcon hstep;clear hx hn;refine hcon.mono ?_;rintro e V2 ⟨rfl,hs,hb⟩;have RUN1:Hid (runs (DP bs) ((((([]++[.num 1 255 0])++[.num 1 255 1])++[.num 1 255 2])++[.num 1 255 3])++[.num 2 9999 4]) zRl s0=.ok ([I x0,I x1,I x2,I x3,I x4,I 0,I 0,I 0,I 0,I 0,I 0],tn)):=hJJ (je RUN0.out hstep);have HB1:=hJJ (HB.out.step hb);have HS1:=hJJ hs;clear RUN0 hstep hcon HB HS hs hb;have c0:V2.cell? ⟨p,4,none⟩=some (I 0):=HB1.out.cell 0 4 rfl rfl;have f0:V2.frozen? ⟨p,4,none⟩=false:=HB1.out.frozen 0 4 rfl;go_upto_region 7 with fail
 have hput:=HB1.out.set 0 4 rfl (I x4);have hds:=HS1.out.but (But.set p 4 V2 (I x4)) hBp;simp only [ke,kf,kb] at hput;clear c0 f0 HB1 HS1;generalize ki V2 _ _=V3 at hput hds |-;clear V2 V t;rename World=>V
 rename St=>t
 have HB:=hJJ hput;have HS:=hJJ hds;have RUN0:=RUN1;clear hput hds RUN1;go_wp2_with fail
 have hcon:=Jh t V HS.out;have hstep:Sp.run (DP bs) [I x0,I x1,I x2,I x3,I x4,I 0,I 0,I 0,I 0,I 0,I 0] t (.num 2 9999 5)=.ok ([I x0,I x1,I x2,I x3,I x4,I ((Nm.num bs t (lim 2 7) 0 9999).1),I 0,I 0,I 0,I 0,I 0],(Nm.num bs t (lim 2 7) 0 9999).2):=rfl;generalize hx:(Nm.num bs t (lim 2 7) 0 9999).1=x5 at hcon hstep;generalize hn:(Nm.num bs t (lim 2 7) 0 9999).2=tn at hcon hstep;clear hx hn;refine hcon.mono ?_;rintro e V2 ⟨rfl,hs,hb⟩;have RUN1:Hid (runs (DP bs) (((((([]++[.num 1 255 0])++[.num 1 255 1])++[.num 1 255 2])++[.num 1 255 3])++[.num 2 9999 4])++[.num 2 9999 5]) zRl s0=.ok ([I x0,I x1,I x2,I x3,I x4,I x5,I 0,I 0,I 0,I 0,I 0],tn)):=hJJ (je RUN0.out hstep);have HB1:=hJJ (HB.out.step hb);have HS1:=hJJ hs;clear RUN0 hstep hcon HB HS hs hb;have c0:V2.cell? ⟨p,5,none⟩=some (I 0):=HB1.out.cell 0 5 rfl rfl;have f0:V2.frozen? ⟨p,5,none⟩=false:=HB1.out.frozen 0 5 rfl;go_upto_region 8 with fail
 have hput:=HB1.out.set 0 5 rfl (I x5);have hds:=HS1.out.but (But.set p 5 V2 (I x5)) hBp;simp only [ke,kf,kb] at hput;clear c0 f0 HB1 HS1;generalize ki V2 _ _=V3 at hput hds |-;clear V2 V t;rename World=>V
 rename St=>t
 have HB:=hJJ hput;have HS:=hJJ hds;have RUN0:=RUN1;clear hput hds RUN1;go_wp2_with fail
 have hcon:=Jh t V HS.out;have hstep:Sp.run (DP bs) [I x0,I x1,I x2,I x3,I x4,I x5,I 0,I 0,I 0,I 0,I 0] t (.num 2 9999 6)=.ok ([I x0,I x1,I x2,I x3,I x4,I x5,I ((Nm.num bs t (lim 2 7) 0 9999).1),I 0,I 0,I 0,I 0],(Nm.num bs t (lim 2 7) 0 9999).2):=rfl;generalize hx:(Nm.num bs t (lim 2 7) 0 9999).1=x6 at hcon hstep;generalize hn:(Nm.num bs t (lim 2 7) 0 9999).2=tn at hcon hstep;clear hx hn;refine hcon.mono ?_;rintro e V2 ⟨rfl,hs,hb⟩;have RUN1:Hid (runs (DP bs) ((((((([]++[.num 1 255 0])++[.num 1 255 1])++[.num 1 255 2])++[.num 1 255 3])++[.num 2 9999 4])++[.num 2 9999 5])++[.num 2 9999 6]) zRl s0=.ok ([I x0,I x1,I x2,I x3,I x4,I x5,I x6,I 0,I 0,I 0,I 0],tn)):=hJJ (je RUN0.out hstep);have HB1:=hJJ (HB.out.step hb);have HS1:=hJJ hs;clear RUN0 hstep hcon HB HS hs hb;have c0:V2.cell? ⟨p,6,none⟩=some (I 0):=HB1.out.cell 0 6 rfl rfl;have f0:V2.frozen? ⟨p,6,none⟩=false:=HB1.out.frozen 0 6 rfl;go_upto_region 9 with fail
 have hput:=HB1.out.set 0 6 rfl (I x6);have hds:=HS1.out.but (But.set p 6 V2 (I x6)) hBp;simp only [ke,kf,kb] at hput;clear c0 f0 HB1 HS1;generalize ki V2 _ _=V3 at hput hds |-;clear V2 V t;rename World=>V
 rename St=>t
 have HB:=hJJ hput;have HS:=hJJ hds;have RUN0:=RUN1;clear hput hds RUN1;go_wp2_with fail
 have hcon:=Jh t V HS.out;have hstep:Sp.run (DP bs) [I x0,I x1,I x2,I x3,I x4,I x5,I x6,I 0,I 0,I 0,I 0] t (.num 2 9999 7)=.ok ([I x0,I x1,I x2,I x3,I x4,I x5,I x6,I ((Nm.num bs t (lim 2 7) 0 9999).1),I 0,I 0,I 0],(Nm.num bs t (lim 2 7) 0 9999).2):=rfl;generalize hx:(Nm.num bs t (lim 2 7) 0 9999).1=x7 at hcon hstep;generalize hn:(Nm.num bs t (lim 2 7) 0 9999).2=tn at hcon hstep;clear hx hn;refine hcon.mono ?_;rintro e V2 ⟨rfl,hs,hb⟩;have RUN1:Hid (runs (DP bs) (((((((([]++[.num 1 255 0])++[.num 1 255 1])++[.num 1 255 2])++[.num 1 255 3])++[.num 2 9999 4])++[.num 2 9999 5])++[.num 2 9999 6])++[.num 2 9999 7]) zRl s0=.ok ([I x0,I x1,I x2,I x3,I x4,I x5,I x6,I x7,I 0,I 0,I 0],tn)):=hJJ (je RUN0.out hstep);have HB1:=hJJ (HB.out.step hb);have HS1:=hJJ hs;clear RUN0 hstep hcon HB HS hs hb;have c0:V2.cell? ⟨p,7,none⟩=some (I 0):=HB1.out.cell 0 7 rfl rfl;have f0:V2.frozen? ⟨p,7,none⟩=false:=HB1.out.frozen 0 7 rfl;go_upto_region 10 with fail
 have hput:=HB1.out.set 0 7 rfl (I x7);have hds:=HS1.out.but (But.set p 7 V2 (I x7)) hBp;simp only [ke,kf,kb] at hput;clear c0 f0 HB1 HS1;generalize ki V2 _ _=V3 at hput hds |-;clear V2 V t;rename World=>V
 rename St=>t
 have HB:=hJJ hput;have HS:=hJJ hds;have RUN0:=RUN1;clear hput hds RUN1;go_wp2_with fail
 have hcon:=Jh t V HS.out;have hstep:Sp.run (DP bs) [I x0,I x1,I x2,I x3,I x4,I x5,I x6,I x7,I 0,I 0,I 0] t (.num 2 9999 8)=.ok ([I x0,I x1,I x2,I x3,I x4,I x5,I x6,I x7,I ((Nm.num bs t (lim 2 7) 0 9999).1),I 0,I 0],(Nm.num bs t (lim 2 7) 0 9999).2):=rfl;generalize hx:(Nm.num bs t (lim 2 7) 0 9999).1=x8 at hcon hstep;generalize hn:(Nm.num bs t (lim 2 7) 0 9999).2=tn at hcon hstep;clear hx hn;refine hcon.mono ?_;rintro e V2 ⟨rfl,hs,hb⟩;have RUN1:Hid (runs (DP bs) ((((((((([]++[.num 1 255 0])++[.num 1 255 1])++[.num 1 255 2])++[.num 1 255 3])++[.num 2 9999 4])++[.num 2 9999 5])++[.num 2 9999 6])++[.num 2 9999 7])++[.num 2 9999 8]) zRl s0=.ok ([I x0,I x1,I x2,I x3,I x4,I x5,I x6,I x7,I x8,I 0,I 0],tn)):=hJJ (je RUN0.out hstep);have HB1:=hJJ (HB.out.step hb);have HS1:=hJJ hs;clear RUN0 hstep hcon HB HS hs hb;have c0:V2.cell? ⟨p,8,none⟩=some (I 0):=HB1.out.cell 0 8 rfl rfl;have f0:V2.frozen? ⟨p,8,none⟩=false:=HB1.out.frozen 0 8 rfl;go_upto_region 11 with fail
 have hput:=HB1.out.set 0 8 rfl (I x8);have hds:=HS1.out.but (But.set p 8 V2 (I x8)) hBp;simp only [ke,kf,kb] at hput;clear c0 f0 HB1 HS1;generalize ki V2 _ _=V3 at hput hds |-;clear V2 V t;rename World=>V
 rename St=>t
 have HB:=hJJ hput;have HS:=hJJ hds;have RUN0:=RUN1;clear hput hds RUN1;go_wp2_with fail
 have hcon:=Jh t V HS.out;have hstep:Sp.run (DP bs) [I x0,I x1,I x2,I x3,I x4,I x5,I x6,I x7,I x8,I 0,I 0] t (.num 2 9999 9)=.ok ([I x0,I x1,I x2,I x3,I x4,I x5,I x6,I x7,I x8,I ((Nm.num bs t (lim 2 7) 0 9999).1),I 0],(Nm.num bs t (lim 2 7) 0 9999).2):=rfl;generalize hx:(Nm.num bs t (lim 2 7) 0 9999).1=x9 at hcon hstep;generalize hn:(Nm.num bs t (lim 2 7) 0 9999).2=tn at hcon hstep;clear hx hn;refine hcon.mono ?_;rintro e V2 ⟨rfl,hs,hb⟩;have RUN1:Hid (runs (DP bs) (((((((((([]++[.num 1 255 0])++[.num 1 255 1])++[.num 1 255 2])++[.num 1 255 3])++[.num 2 9999 4])++[.num 2 9999 5])++[.num 2 9999 6])++[.num 2 9999 7])++[.num 2 9999 8])++[.num 2 9999 9]) zRl s0=.ok ([I x0,I x1,I x2,I x3,I x4,I x5,I x6,I x7,I x8,I x9,I 0],tn)):=hJJ (je RUN0.out hstep);have HB1:=hJJ (HB.out.step hb);have HS1:=hJJ hs;clear RUN0 hstep hcon HB HS hs hb;have c0:V2.cell? ⟨p,9,none⟩=some (I 0):=HB1.out.cell 0 9 rfl rfl;have f0:V2.frozen? ⟨p,9,none⟩=false:=HB1.out.frozen 0 9 rfl;go_upto_region 12 with fail
 have hput:=HB1.out.set 0 9 rfl (I x9);have hds:=HS1.out.but (But.set p 9 V2 (I x9)) hBp;simp only [ke,kf,kb] at hput;clear c0 f0 HB1 HS1;generalize ki V2 _ _=V3 at hput hds |-;clear V2 V t;rename World=>V
 rename St=>t
 have HB:=hJJ hput;have HS:=hJJ hds;have RUN0:=RUN1;clear hput hds RUN1;go_wp2_with fail
 have hcon:=j09 t 4 2147483647 V HS.out;have hstep:Sp.run (DP bs) [I x0,I x1,I x2,I x3,I x4,I x5,I x6,I x7,I x8,I x9,I 0] t (.num 4 2147483647 10)=.ok ([I x0,I x1,I x2,I x3,I x4,I x5,I x6,I x7,I x8,I x9,I ((Nm.num bs t (lim 4 7) 0 2147483647).1)],(Nm.num bs t (lim 4 7) 0 2147483647).2):=rfl;generalize hx:(Nm.num bs t (lim 4 7) 0 2147483647).1=x10 at hcon hstep;generalize hn:(Nm.num bs t (lim 4 7) 0 2147483647).2=tn at hcon hstep;clear hx hn;refine hcon.mono ?_;rintro e V2 ⟨rfl,hs,hb⟩;have RUN1:Hid (runs (DP bs) ((((((((((([]++[.num 1 255 0])++[.num 1 255 1])++[.num 1 255 2])++[.num 1 255 3])++[.num 2 9999 4])++[.num 2 9999 5])++[.num 2 9999 6])++[.num 2 9999 7])++[.num 2 9999 8])++[.num 2 9999 9])++[.num 4 2147483647 10]) zRl s0=.ok ([I x0,I x1,I x2,I x3,I x4,I x5,I x6,I x7,I x8,I x9,I x10],tn)):=hJJ (je RUN0.out hstep);have HB1:=hJJ (HB.out.step hb);have HS1:=hJJ hs;clear RUN0 hstep hcon HB HS hs hb;have c0:V2.cell? ⟨p,10,none⟩=some (I 0):=HB1.out.cell 0 10 rfl rfl;have f0:V2.frozen? ⟨p,10,none⟩=false:=HB1.out.frozen 0 10 rfl;go_upto_region 13 with fail
 have hput:=HB1.out.set 0 10 rfl (I x10);have hds:=HS1.out.but (But.set p 10 V2 (I x10)) hBp;simp only [ke,kf,kb] at hput;clear c0 f0 HB1 HS1;generalize ki V2 _ _=V3 at hput hds |-;clear V2 V t;rename World=>V
 rename St=>t
 have HB:=hJJ hput;have HS:=hJJ hds;have RUN0:=RUN1;clear hput hds RUN1;go_wp2_with (first | (refine Row.j7 75 _ rfl (by first | rfl | (go_simp;done) | fail) ⟨p,0,none⟩ rfl [I x0,I x1,I x2,I x3,I x4,I x5,I x6,I x7,I x8,I x9,I x10] _ (by have:=Row.j1 (HB.out.at 0 rfl);simpa using this) Tryz.underlying75 rfl j3B ?_) | (refine Ko rfl 75 _ _ rfl gz #[I x0,I x1,I x2,I x3,I x4,I x5,I x6,I x7,I x8,I x9,I x10] rfl rfl 75 _ (HB.out.at 1 rfl) j3B rfl (by simp [kw]) ?_))
 have hput:=HB.out.put 1 rfl #[I x0,I x1,I x2,I x3,I x4,I x5,I x6,I x7,I x8,I x9,I x10];have hds:=HS.out.but (But.row #[I x0,I x1,I x2,I x3,I x4,I x5,I x6,I x7,I x8,I x9,I x10] (HB.out.at 1 rfl) rfl) (by omega);simp only [ke,kf] at hput;generalize kG V gz _=V3 at hput hds |-;have HB3:=hJJ hput;have HS3:=hJJ hds;clear hput hds;go_wp2_with fail
 (try simp only [kx,Exit.then])
 refine Ks (v:=.agg #[I x0,I x1,I x2,I x3,I x4,I x5,I x6,I x7,I x8,I x9,I x10]) ?_ rfl ⟨[I x0,I x1,I x2,I x3,I x4,I x5,I x6,I x7,I x8,I x9,I x10],t,RUN0.out,rfl,HS3.out,HB3.out.bel⟩;exact Kw rfl _ _ gz 75 _ (0,0) _ rfl (HB3.out.at 1 rfl) Tryz.underlying75 rfl j3B
end
end Dp
namespace Dp
open Zip
open Go Go.RowKit Go.ChangeShapes
open Tab Po
open Rd (Rd But)
open Nm (St)
open Put (lim)
open Gath (jd)
abbrev idL (l:List Value):List Value:=l
section
variable {B g:Nat} {ad:Option Addr} {cap:Nat} {bs:List Nat} {s:St} {W V U:World}
theorem Ds.Ju (h:Ds B g ad cap bs s W) (hs:W.heap.size<=V.heap.size) (hk:∀ j,j < B->V.heap[j]?=W.heap[j]?):Ds B g ad cap bs s V:=by
 have hg:=hk g h.gl;have hc:∀ i,V.cell? ⟨g,i,none⟩=W.cell? ⟨g,i,none⟩:=fun i=>kB (w:=W) (a:=⟨g,i,none⟩) hg;refine ⟨⟨kv h.rd.lt hs,?_,h.rd.off,(hc 0).trans h.rd.c0,(hc 1).trans h.rd.c1,(hc 2).trans h.rd.c2,(hc 3).trans h.rd.c3,fun i=>(World.frozen?_of_block (w:=W) (a:=⟨g,i,none⟩) hg).trans (h.rd.fz i),h.rd.cap_le⟩,h.good,h.len,h.lo,h.gl,kD h.bl hs⟩;refine ⟨h.rd.row.1,h.rd.row.2.1,?_⟩;rcases h.rd.row.2.2 with h0 | ⟨x,hx,hcl⟩
 ·exact .inl h0
 by_cases hb:bs=[]
 ·exact .inl hb
 refine .inr ⟨x,hx,fun i hi=>?_⟩;rw [<-hcl i hi];refine kB (hk _ ?_);have:=h.lo hb x hx;unfold K0;split <;> exact this
theorem Ds.grown (h:Ds B g ad cap bs s W) {row:Option Nat} (hg:W.grownBy V row) (hr:∀ m,row=some m->B<=m):Ds B g ad cap bs s V :=
 h.Ju hg.size (fun j hj=>hg.block j (kv hj h.bl) (fun e=>by have:=hr j e.symm;omega))
theorem j3a {g:Nat} (h:But g W V) {row:Option Nat} (hg:V.grownBy U row) (hr:∀ m,row=some m->W.heap.size<=m):But g W U:=by
 have hne:∀ k,k < W.heap.size->some k ≠ row:=fun k hk e=>by have:=hr k e.symm;omega
 refine ⟨hg.os.trans h.os,hg.tape.trans h.tape,hg.output.trans h.output,kD h.size hg.size,fun k hk hkg=>(hg.block k (kv hk h.size) (hne k hk)).trans (h.block k hk hkg),fun k hk=>?_⟩;rw [<-h.shape k hk];unfold World.shape?;rw [hg.block k (kv hk h.size) (hne k hk)]
theorem j0B {α:Type} {enc:α->List Value} {n B0:Nat} {t:TypeId} {v:Value} {l:List α} (h:jd enc n B0 W t v l) (hb:But g W V) (hg:g < B0):jd enc n B0 V t v l :=
 GenG.jm h (row:=some g) ⟨hb.os,hb.tape,hb.output,hb.size,fun j hj hne=>hb.block j hj (fun e=>hne (by rw [e]))⟩ (fun m hm e=>by have:=h.blk m hm;have:=kH e;omega)
end
theorem j5a (l:List Nat) (s:St) (size:Nat) {high:Int} (h:0<=high):∃ n:Nat,(Nm.num l s size 0 high).1=n/\(n:Int)<=high:=by
 unfold Nm.num
 (repeat' split)
 ·exact ⟨0,rfl,h⟩
 ·exact ⟨0,rfl,h⟩
 ·exact ⟨0,rfl,h⟩
 rename_i hn;exact ⟨_,rfl,by omega⟩
section
variable {B g:Nat} {ad:Option Addr} {cap:Nat} {bs:List Nat}
theorem j1E:(Tryz.prog.info? 3).map (fun i=>(i.zero,i.size,i.bytes))=some (some (.int .i64 0),1,8):=by kernel_rfl
theorem jdD (s0:St) (W:World) (h:Ds B g ad cap bs s0 W):Calls Tryz.prog 62 #[ptr g] W fun e W'=>∃ r s' v,j0a (DP bs) s0=.ok (r,s')/\e=.returned v/\jd idL 1 W.heap.size W' 3 v r/\r.length<=8/\Ds B g ad cap bs s' W'/\But g W W':=by
 obtain ⟨i0,hi,hz0,hz1,hz2⟩:=KA j1E;have hg:g < W.heap.size:=kv h.gl h.bl;have hBW:=h.bl;have hcon:=j09 s0 1 8 W h;have hnum:(DP bs).num s0 1 8 0=.ok ((Nm.num bs s0 (lim 1 7) 0 8).1,(Nm.num bs s0 (lim 1 7) 0 8).2):=rfl;obtain ⟨n,hn,hn8⟩:=j5a bs s0 (lim 1 7) (high:=8) (by decide);rw [hn] at hcon hnum;generalize (Nm.num bs s0 (lim 1 7) 0 8).2=s1 at hcon hnum;have HNUM:=hJJ hnum;clear hnum hn h;go_enter Tryz.func62,Tryz.ntmps62
 go_wp2_with fail
 refine hcon.mono ?_;rintro e W1 ⟨rfl,hs1,hb1⟩;have HS1:=hJJ hs1;have HB1:=hJJ hb1;clear hs1 hb1 hcon;go_wp2_with fail
 go_loopw [3,5] (fun v i wr=>∃ (q:Nat) (r:List (List Value)) (t:St),q<=n/\i=.int .i64 q/\jf (DP bs) [.num 1 7 0] (kc q [I 0]) s1=.ok (r,t)/\r.length=q/\jd idL 1 W.heap.size wr 3 v r/\Ds B g ad cap bs t wr/\But g W wr) (fun _ i _=>n - (intOf i).toNat)
 case atStart=>exact ⟨0,[],s1,kI _,rfl,rfl,rfl,jd.nil,HS1.out,HB1.out⟩
 case round =>
  obtain ⟨q,r,t,hq,rfl,hea,hrl,hown,hds,hbt⟩:=hrel;have HE:=hJJ hea;have HB:=hJJ hbt;clear hea hbt HS1 HB1;by_cases hlt:q < n
  ·have hc2:=j09 t 1 7 wr hds;have hrun:runs (DP bs) [.num 1 7 0] [I 0] t=.ok ([I (Nm.num bs t (lim 1 7) 0 7).1],(Nm.num bs t (lim 1 7) 0 7).2):=rfl;generalize (Nm.num bs t (lim 1 7) 0 7).1=y at hc2 hrun;generalize (Nm.num bs t (lim 1 7) 0 7).2=t2 at hc2 hrun;have HR:=hJJ hrun;clear hrun hds;go_wp2_with fail
   refine hc2.mono ?_;rintro e V2 ⟨rfl,hd2,hb2⟩;have hown2:jd idL 1 W.heap.size V2 3 (_) r:=j0B hown hb2 hg;have hbw:But g W V2:=HB.out.trans hb2;have HD2:=hJJ hd2;have HBW:=hJJ hbw;have hsz:=hbw.size;clear hc2 hown hb2 HB hd2 hbw;go_wp2_with (at_builtin;refine Kx _ rfl _ _ 42 rfl W.heap.size 3 i0 (.int .i64 0) 1 8 Tryz.underlying42 hi hz0 hz1 hz2 rfl (by decide) _ _ _ rfl (kK hown2 _) ⟨V2.heap.size,0,none⟩ 1 1 [I y] rfl rfl ?c1 ?c2 ?c3 ?c4 ?c5 ?_)
   case c1 =>
    intro j u hj
    match j,hj with
    | 0,hj=>simp at hj;subst hj;simp [K0]
   case c2=>intro u hu;simp at hu;subst hu;rfl
   case c3=>unfold maxLen;omega
   case c4=>omega
   case c5=>simp;omega
   intro v' w1 hown' hgrow hnil';have hbk:=fun j hj=>hown2.blk j hj;have hbel:Below V2.heap.size V2 (V2.alloc (.cells #[I y] 3)):=(km _ _).alloc (ko _) _;have hB3:But g W w1:=j3a (HBW.out.trans (But.of hbel)) hgrow (fun m hm=>hbk m hm);have hD3:Ds B g ad cap bs t2 w1:=(HD2.out.mem hbel).grown hgrow (fun m hm=>by have:=hbk m hm;omega);have hfl:r.flatten=r.flatMap idL:=by rw [Kb];simp [idL]
   rw [hfl,<-hrl] at hown';have Hown:=hJJ (jd.snoc (enc:=idL) (x:=[I y]) hown');clear hown' hgrow hown2 hnil' hbel hbk;go_wp2;go_roundw;case rel=>exact ⟨q+1,r++[[I y]],t2,by omega,by go_num,JX HE.out HR.out,by rw [ka,hrl];rfl,Hown.out,hD3,hB3⟩
   case measure=>simp [intOf];omega
  obtain rfl:q=n:=by omega
  go_wp2;go_ret
  exact ⟨r,t,_,by
   unfold j0a jr;rw [HNUM.out];exact HE.out,rfl,hown,by omega,hds,HB.out⟩
end
end Dp
namespace Dp
open Go Go.RowKit Go.ChangeShapes
open Tab Po
open Rd (Rd But)
open Nm (St)
open Put (lim)
open Gath (jd)
open Clone (jB zHd)
abbrev Zd:Type:=(Value × Value) × (List (List Value) × List (List Value))
def zcD (z:Zd):List Value:=[z.1.1,z.1.2]
def jfk (B0:Nat) (W:World) (zs:List Zd):Prop:=∀ z ∈ zs,jd idL 1 B0 W 3 z.1.1 z.2.1/\jd idL 1 B0 W 3 z.1.2 z.2.2
structure j3Z where
 gv:Value
 zs:List Zd
 dv:Value
 ds:List (List Value)
 rv:Value
 rs:List (List Value)
 bv:Value
 bs:List (List Value)
structure j03 (B0:Nat) (L:j3Z) (W:World):Prop where
 gr:jd zcD 2 B0 W 68 L.gv L.zs
 rw:jfk B0 W L.zs
 dt:jd idL 7 B0 W 71 L.dv L.ds
 rl:jd idL 11 B0 W 75 L.rv L.rs
 bu:jd idL 2 B0 W 77 L.bv L.bs
section
variable {B0 g:Nat} {L:j3Z} {W V:World}
theorem j03.nil:j03 B0 ⟨nl,[],nl,[],nl,[],nl,[]⟩ W:=⟨jd.nil,fun z hz=>by simp at hz,jd.nil,jd.nil,jd.nil⟩
theorem j03.but (h:j03 B0 L W) (hb:But g W V) (hg:g < B0):j03 B0 L V :=
 ⟨j0B h.gr hb hg,fun z hz=>⟨j0B (h.rw z hz).1 hb hg,j0B (h.rw z hz).2 hb hg⟩,j0B h.dt hb hg,j0B h.rl hb hg,j0B h.bu hb hg⟩
theorem jk {α:Type} {enc:α->List Value} {n:Nat} {t:TypeId} {v:Value} {l:List α} {row:Option Nat} {t2:TypeId} (h:jd enc n B0 W t v l) (hg:W.grownBy V row) (hr:∀ m,row=some m->∃ cs:Array Value,W.heap[m]?=some (.cells cs t2 (0,0))) (ht:t2 ≠ t):jd enc n B0 V t v l :=
 GenG.jm h hg (fun m hm e=>by
  obtain ⟨cs,hc⟩:=hr m e;exact GenG.jN h hc ht hm)
theorem j03.box (h:j03 B0 L W) {row:Option Nat} (hg:W.grownBy V row) (hr:∀ m,row=some m->∃ cs:Array Value,W.heap[m]?=some (.cells cs 33 (0,0))):j03 B0 L V :=
 ⟨jk h.gr hg hr (by decide),fun z hz=>⟨jk (h.rw z hz).1 hg hr (by decide),jk (h.rw z hz).2 hg hr (by decide)⟩,jk h.dt hg hr (by decide),jk h.rl hg hr (by decide),jk h.bu hg hr (by decide)⟩
theorem j03.jfH (h:j03 B0 L W) {b i:Nat} {v:Value} (hb:B0<=b) (hne:L.bv.ownBlock ≠ some b) {cs:Array Value} (hc:W.heap[b]?=some (.cells cs 77 (0,0))):j03 B0 L (W.setCell ⟨b,i,none⟩ v) :=
 have hg:=GenG.jC W b i v;have hr:∀ m,some b=some m->∃ cs:Array Value,W.heap[m]?=some (.cells cs 77 (0,0)):=fun m e=>by cases e;exact ⟨cs,hc⟩
 ⟨jk h.gr hg hr (by decide),fun z hz=>⟨jk (h.rw z hz).1 hg hr (by decide),jk (h.rw z hz).2 hg hr (by decide)⟩,jk h.dt hg hr (by decide),jk h.rl hg hr (by decide),GenG.jm h.bu hg (fun m hm e=>hne (by rw [hm,<-e]))⟩
theorem j03.jfl (h:j03 B0 L W) {gv:Value} {z:Zd} (hg:W.grownBy V L.gv.ownBlock) (ho:jd zcD 2 B0 V 68 gv (L.zs++[z])) (h1:jd idL 1 B0 W 3 z.1.1 z.2.1) (h2:jd idL 1 B0 W 3 z.1.2 z.2.2):j03 B0 { L with gv:=gv,zs:=L.zs++[z] } V :=
 have hr:=GenG.jv h.gr
 ⟨ho,fun y hy=>by
  rcases kX.1 hy with hy | hy
  ·exact ⟨jk (h.rw y hy).1 hg hr (by decide),jk (h.rw y hy).2 hg hr (by decide)⟩
  rw [List.mem_singleton] at hy;subst hy;exact ⟨jk h1 hg hr (by decide),jk h2 hg hr (by decide)⟩,jk h.dt hg hr (by decide),jk h.rl hg hr (by decide),jk h.bu hg hr (by decide)⟩
theorem j03.jbJ (h:j03 B0 L W) {dv:Value} {d:List Value} (hg:W.grownBy V L.dv.ownBlock) (ho:jd idL 7 B0 V 71 dv (L.ds++[d])):j03 B0 { L with dv:=dv,ds:=L.ds++[d] } V :=
 have hr:=GenG.jv h.dt
 ⟨jk h.gr hg hr (by decide),fun z hz=>⟨jk (h.rw z hz).1 hg hr (by decide),jk (h.rw z hz).2 hg hr (by decide)⟩,ho,jk h.rl hg hr (by decide),jk h.bu hg hr (by decide)⟩
theorem j03.jbK (h:j03 B0 L W) {rv:Value} {d:List Value} (hg:W.grownBy V L.rv.ownBlock) (ho:jd idL 11 B0 V 75 rv (L.rs++[d])):j03 B0 { L with rv:=rv,rs:=L.rs++[d] } V :=
 have hr:=GenG.jv h.rl
 ⟨jk h.gr hg hr (by decide),fun z hz=>⟨jk (h.rw z hz).1 hg hr (by decide),jk (h.rw z hz).2 hg hr (by decide)⟩,jk h.dt hg hr (by decide),ho,jk h.bu hg hr (by decide)⟩
theorem j03.jfm (h:j03 B0 L W) {bv:Value} {d:List Value} (hg:W.grownBy V L.bv.ownBlock) (ho:jd idL 2 B0 V 77 bv (L.bs++[d])):j03 B0 { L with bv:=bv,bs:=L.bs++[d] } V :=
 have hr:=GenG.jv h.bu
 ⟨jk h.gr hg hr (by decide),fun z hz=>⟨jk (h.rw z hz).1 hg hr (by decide),jk (h.rw z hz).2 hg hr (by decide)⟩,jk h.dt hg hr (by decide),jk h.rl hg hr (by decide),ho⟩
end
structure Dq (B g:Nat) (ad:Option Addr) (cap:Nat) (bs:List Nat) (W0:World) (tb gz:Nat) (Z:Array Value) (C:List Value) (L:j3Z) (s:St) (W:World):Prop where
 tbl:W.heap[tb]?=some (.cells C.toArray 33 (0,0))
 res:W.heap[gz]?=some (.cells Z 33 (0,0))
 but:But g W0 W
 ds:Ds B g ad cap bs s W
 hold:j03 W0.heap.size L W
 t0:W0.heap.size<=tb
 z0:W0.heap.size<=gz
 ne:tb ≠ gz
 b0:B<=W0.heap.size
section
variable {B g:Nat} {ad:Option Addr} {cap:Nat} {bs:List Nat} {W0:World} {tb gz:Nat} {Z:Array Value} {C:List Value} {L:j3Z} {s s':St} {W V:World}
theorem Dq.gl (h:Dq B g ad cap bs W0 tb gz Z C L s W):g < W0.heap.size:=kv h.ds.gl h.b0
theorem Dq.step (h:Dq B g ad cap bs W0 tb gz Z C L s W) (hb:But g W V) (hd:Ds B g ad cap bs s' V):Dq B g ad cap bs W0 tb gz Z C L s' V :=
 have hg:=h.gl;have ht:=h.t0;have hz:=h.z0
 ⟨(hb.block tb (kl.1 h.tbl).1 (by omega)).trans h.tbl,(hb.block gz (kl.1 h.res).1 (by omega)).trans h.res,h.but.trans hb,hd,h.hold.but hb hg,ht,hz,h.ne,h.b0⟩
theorem Dq.mem (h:Dq B g ad cap bs W0 tb gz Z C L s W) (hb:Below W.heap.size W V):Dq B g ad cap bs W0 tb gz Z C L s V:=h.step (But.of hb) (h.ds.mem hb)
theorem Dq.put (h:Dq B g ad cap bs W0 tb gz Z C L s W) (C':List Value):Dq B g ad cap bs W0 tb gz Z C' L s (W.setRow tb C'.toArray):=by
 have ht:=h.t0;have hg:W.grownBy (W.setRow tb C'.toArray) (some tb):=⟨rfl,rfl,rfl,by simp [kG],fun j _ hj=>Kn _ _ _ _ (fun e=>hj (by rw [e]))⟩
 exact ⟨Kq _ _ _ _ _ _ h.tbl,(Kn _ _ _ _ (Ne.symm h.ne)).trans h.res,j3a h.but hg (fun m e=>by cases e;exact ht),h.ds.grown hg (fun m e=>by cases e;exact kD h.b0 ht),
  h.hold.box hg (fun m e=>by cases e;exact ⟨_,h.tbl⟩),ht,h.z0,h.ne,h.b0⟩
theorem Dq.set (h:Dq B g ad cap bs W0 tb gz Z C L s W) (j:Nat) (v:Value):Dq B g ad cap bs W0 tb gz Z (C.set j v) L s (W.setCell ⟨tb,j,none⟩ v):=by
 have e:W.setCell ⟨tb,j,none⟩ v=W.setRow tb (C.set j v).toArray:=by
  rw [Ky W tb j C.toArray 33 (0,0) v h.tbl,kb]
 rw [e];exact h.put _
theorem Dq.grown (h:Dq B g ad cap bs W0 tb gz Z C L s W) {L':j3Z} {row:Option Nat} {t:TypeId} (hg:W.grownBy V row) (hr:∀ m,row=some m->W0.heap.size<=m/\∃ cs:Array Value,W.heap[m]?=some (.cells cs t (0,0))) (ht:t ≠ 33) (hl:j03 W0.heap.size L' V):Dq B g ad cap bs W0 tb gz Z C L' s V:=by
 have hne:∀ b,(∃ cs:Array Value,W.heap[b]?=some (.cells cs 33 (0,0)))->some b ≠ row:=fun b ⟨cs,hc⟩ e=>by
  obtain ⟨_,cs2,h2⟩:=hr b e.symm;rw [hc] at h2;injection h2 with h3
  injection h3 with h4 h5
  exact ht h5.symm
 exact ⟨(hg.block tb (kl.1 h.tbl).1 (hne tb ⟨_,h.tbl⟩)).trans h.tbl,(hg.block gz (kl.1 h.res).1 (hne gz ⟨_,h.res⟩)).trans h.res,j3a h.but hg (fun m e=>(hr m e).1),h.ds.grown hg (fun m e=>kD h.b0 (hr m e).1),hl,h.t0,h.z0,h.ne,h.b0⟩
theorem Dq.bus (h:Dq B g ad cap bs W0 tb gz Z C L s W) {nb i:Nat} {v:Value} {cs:Array Value} (hn:W0.heap.size<=nb) (hne:L.bv.ownBlock ≠ some nb) (hc:W.heap[nb]?=some (.cells cs 77 (0,0))):Dq B g ad cap bs W0 tb gz Z C L s (W.setCell ⟨nb,i,none⟩ v) :=
 h.grown (row:=some nb) (t:=77) (GenG.jC W nb i v) (fun m e=>by cases e;exact ⟨hn,cs,hc⟩) (by decide) (h.hold.jfH hn hne hc)
theorem Dq.at (h:Dq B g ad cap bs W0 tb gz Z C L s W) {j:Nat} {v:Value} (hv:C[j]?=some v):W.cell? ⟨tb,j,none⟩=some v:=by
 rw [Kp _ _ _ _ _ _ h.tbl];simpa using hv
theorem Dq.fz (h:Dq B g ad cap bs W0 tb gz Z C L s W) (j:Nat):W.frozen? ⟨tb,j,none⟩=false:=Kz _ _ _ _ _ h.tbl
end
theorem jfI {bs:List Nat} (hb:∀ x ∈ bs,x < 256):∀ most (s:St) y (s1:St),(DP bs).num s 1 most 0=.ok (y,s1)->∃ n:Nat,y=n/\n<=1000:=by
 intro most s y s1 h;have h1:(Nm.num bs s (lim 1 7) 0 most).1=y:=congrArg Prod.fst (Except.ok.inj h);subst h1;have hv:=Nx.val_lt bs s.k (lim 1 7) hb;rw [show lim 1 7=1 by decide] at hv |-;unfold Nm.num
 (repeat' split)
 ·exact ⟨0,rfl,by omega⟩
 ·exact ⟨0,rfl,by omega⟩
 ·exact ⟨0,rfl,by omega⟩
 exact ⟨_,rfl,by omega⟩
theorem j24 {β:Type} {f:β->List Value} {n B0:Nat} {w:World} {t:TypeId} {v:Value} {l:List β} {xs:List (List Value)} (e:l.map f=xs) (hn:∀ b,(f b).length=n) (h:jd idL n B0 w t v xs):∃ s:Sl,v=s.val l.length/\ju n f w s l:=by
 subst e
 have h2:jd f n B0 w t v l:=by
  unfold jd at h |-
  rwa [kt,Kc] at h
 exact h2.row hn
theorem j8m {B0:Nat} {x:Raw} (h:j5E x) {L:j3Z} {W:World} (hd:j03 B0 L W) (hz:L.zs.map (·.2)=x.gs) (h1:L.ds=x.ds) (h2:L.rs=x.rs) (h3:L.bs=x.bs) :
  ∃ H,bx x.ph.flatten L.gv x.cf L.dv L.rv L.bv x.tm x.fl x.tk=(jt x).cells H/\jy W H (jt x):=by
 have hraw:=j6f h;have e1:(jt x).phases.map Ph.cells=x.ph:=congrArg Raw.ph hraw;have e3:(jt x).conflict.map I=x.cf:=congrArg Raw.cf hraw;have e4:(jt x).dets.map Det.cells=x.ds:=congrArg Raw.ds hraw;have e5:(jt x).rails.map Rl.cells=x.rs:=congrArg Raw.rs hraw;have e6:(jt x).buses.map Bs.cells=x.bs:=congrArg Raw.bs hraw;have e7:[I (jt x).extend,I (jt x).budget,I (jt x).start,I (jt x).revert,I (jt x).least]=x.tm:=congrArg Raw.tm hraw;have e8:(jt x).flash.map I=x.fl:=congrArg Raw.fl hraw;have e9:[I (jt x).window,I (jt x).share]=x.tk:=congrArg Raw.tk hraw;have egs:(jt x).groups=x.gs.map (fun g=>(ofRow g.1,ofRow g.2)):=rfl;generalize jt x=T at *;have d4:=hd.dt;have d5:=hd.rl;have d6:=hd.bu;rw [h1] at d4;rw [h2] at d5;rw [h3] at d6;obtain ⟨sd,hsd,rd⟩:=j24 (f:=Det.cells) e4 (fun _=>rfl) d4;obtain ⟨sr,hsr,rr⟩:=j24 (f:=Rl.cells) e5 (fun _=>rfl) d5;obtain ⟨sb,hsb,rb⟩:=j24 (f:=Bs.cells) e6 (fun _=>rfl) d6;obtain ⟨sg,hsg,rg⟩:=hd.gr.row (fun _=>rfl);have hzl:L.zs.length=T.groups.length:=by rw [egs,kt,<-hz,kt]
 have hex:∀ zs':List Zd,(∀ z ∈ zs',z ∈ L.zs)->∃ gs:List Gr,gs.map Gr.cells=zs'.map zcD/\gs.map Gr.data=zs'.map (fun z=>(ofRow z.2.1,ofRow z.2.2))/\∀ g ∈ gs,g.ok W:=by
  intro zs'
  induction zs' with
  | nil=>intro _;exact ⟨[],rfl,rfl,fun g hg=>by simp at hg⟩
  | cons z zs' ih =>
   intro ha;have hm:=ha z (by simp);have hm2:z.2 ∈ x.gs:=by rw [<-hz];exact kL hm
   have hk:=h.gs _ hm2;obtain ⟨r0,r1⟩:=hd.rw z hm;obtain ⟨s0,q0,w0⟩:=j24 (f:=fun n=>[I n]) (j07 hk.1) (fun _=>rfl) r0;obtain ⟨s1,q1,w1⟩:=j24 (f:=fun n=>[I n]) (j07 hk.2) (fun _=>rfl) r1;obtain ⟨gs,i1,i2,i3⟩:=ih (fun z' hz'=>ha z' (by simp [hz']));refine ⟨⟨ofRow z.2.1,ofRow z.2.2,s0,s1⟩ :: gs,?_,by rw [kN,kN,i2];rfl,fun g' hg'=>?_⟩
   ·rw [kN,kN,i1];congr 1;unfold Gr.cells zcD;rw [q0,q1]
   rcases List.mem_cons.1 hg' with rfl | hg'
   ·exact ⟨w0,w1⟩
   exact i3 g' hg'
 obtain ⟨gs,f1,f2,f3⟩:=hex L.zs (fun _ h=>h)
 have hgd:gs.map Gr.data=T.groups:=by
  rw [f2,egs,<-hz,List.map_map];rfl
 have hgl:gs.length=L.zs.length:=by have:=congrArg kF f1;rwa [kt,kt] at this
 have hgrow:ju 2 Gr.cells W sg gs:=by
  rcases rg with ⟨a1,a2,a3⟩ | ⟨y,a1,a2,a3,a4⟩
  ·exact .inl ⟨a1,a2,List.eq_nil_of_length_eq_zero (by rw [hgl,a3];rfl)⟩
  refine .inr ⟨y,a1,by rw [hgl];exact a2,a3,fun i v hv=>?_⟩;have h5:(gs.map Gr.cells)[i]?=some v.cells:=by rw [K7,hv];rfl
  rw [f1,K7] at h5;obtain ⟨z,hz1,hz2⟩:=Option.map_eq_some_iff.1 h5;rw [<-hz2];exact a4 i z hz1
 refine ⟨⟨sg,sd,sr,sb⟩,?_,⟨?_,?_,?_,⟨gs,hgd,hgrow,f3⟩,rd,rr,rb⟩⟩
 ·unfold bx Tab.cells;rw [<-e1,j4N,e3,hsd,hsr,hsb,hsg,e8,<-e7,<-e9,hzl];rfl
 ·have:=congrArg kF e1;rw [kt] at this;rw [this,h.pn]
 ·have:=congrArg kF e3;rw [kt] at this;have h5:=congrArg kF h.cf;rw [kt,kY] at h5;rw [this,h5]
 have:=congrArg kF e8;rw [kt] at this;have h5:=congrArg kF h.fl;rw [kt,kY] at h5;rw [this,h5]
def jbL (B0:Nat) (W V:World):Prop:=∀ (b:Nat) (o:Obj),B0<=b->W.heap[b]?=some o->V.heap[b]?=some o
theorem j0M {α:Type} {enc:α->List Value} {n B0:Nat} {W V:World} {t:TypeId} {v:Value} {l:List α} (h:jd enc n B0 W t v l) (hk:jbL B0 W V):jd enc n B0 V t v l:=by
 refine ⟨h.1,?_⟩;rcases h.2 with h0 | ⟨g,cap,cur,e,hb,hg,rest⟩
 ·exact .inl h0
 exact .inr ⟨g,cap,cur,e,hb,hk g _ hb hg,rest⟩
theorem j03.Ju {B0:Nat} {L:j3Z} {W V:World} (h:j03 B0 L W) (hk:jbL B0 W V):j03 B0 L V :=
 ⟨j0M h.gr hk,fun z hz=>⟨j0M (h.rw z hz).1 hk,j0M (h.rw z hz).2 hk⟩,j0M h.dt hk,j0M h.rl hk,j0M h.bu hk⟩
theorem ja5 {T:Tab} {h k:Hd} (e:T.cells h=T.cells k):h=k:=by
 obtain ⟨⟨a1,c1⟩,⟨a2,c2⟩,⟨a3,c3⟩,⟨a4,c4⟩⟩:=h;obtain ⟨⟨b1,d1⟩,⟨b2,d2⟩,⟨b3,d3⟩,⟨b4,d4⟩⟩:=k;unfold Tab.cells at e;have e1:=kO e;injection e1 with e2 e3
 have e4:=kO e3;injection e4 with e5 e6
 injection e6 with e7 e8
 injection e8 with e9 e10
 simp only [Sl.val,K8] at e2 e5 e7 e9;obtain ⟨rfl,_,rfl⟩:=e2;obtain ⟨rfl,_,rfl⟩:=e5;obtain ⟨rfl,_,rfl⟩:=e7;obtain ⟨rfl,_,rfl⟩:=e9;rfl
theorem jde {B0:Nat} {x:Raw} (h:j5E x) {L:j3Z} {W:World} (hd:j03 B0 L W) (hz:L.zs.map (·.2)=x.gs) (h1:L.ds=x.ds) (h2:L.rs=x.rs) (h3:L.bs=x.bs) :
  ∃ H,bx x.ph.flatten L.gv x.cf L.dv L.rv L.bv x.tm x.fl x.tk=(jt x).cells H/\jy W H (jt x)/\∀ V,jbL B0 W V->jy V H (jt x):=by
 obtain ⟨H,hc,ht⟩:=j8m h hd hz h1 h2 h3;refine ⟨H,hc,ht,fun V hk=>?_⟩;obtain ⟨H3,hc3,ht3⟩:=j8m h (hd.Ju hk) hz h1 h2 h3;rw [ja5 (hc.symm.trans hc3)];exact ht3
end Dp
namespace Dp
open Zip
open Go Go.RowKit Go.ChangeShapes
open Tab Po
open Rd (Rd But)
open Nm (St)
open Put (lim)
open Gath (jd)
open Clone (jB zHd)
theorem jbM {l:List Value} (h:∀ k ∈ l.map kind,k < 3):l.toArray.all (·.oneCell')=true:=by
 rw [Array.all_eq_true_iff_forall_mem];intro v hv;have hv2:v ∈ l:=by simpa using hv
 have h1:=h (kind v) (kL hv2);have h2:kind v=0\/kind v=1\/kind v=2:=by omega
 rcases h2 with h2 | h2 | h2
 ·obtain ⟨x,rfl⟩:=J3 h2;rfl
 ·obtain ⟨x,rfl⟩:=j5r h2;rfl
 obtain ⟨x,rfl⟩:=j4s h2;rfl
theorem jdf {A l R l':List Value} {k:Nat} (hk:A.length=k) (h:l'.length=l.length):((A++(l++R)).toArray.toList.take k++l'.toArray.toList++(A++(l++R)).toArray.toList.drop (k+l'.toArray.size)).toArray=(A++(l'++R)).toArray:=by
 have:=j1r (cs:=A++(l++R)) (A:=A) (l:=l) (C:=R) (l':=l') rfl hk h;unfold wrt at this;simpa using this
theorem j16 {A R:List Value} {x v:Value} {k:Nat} (hk:A.length=k):(A++(x :: R)).set k v=A++(v :: R):=by
 subst hk;rw [kZ _ _ (ko _),Kl];rfl
theorem JU {A R:List Value} {x:Value} {k:Nat} (hk:A.length=k):(A++(x :: R))[k]?=some x:=by
 subst hk;rw [kM (ko _),Kl];rfl
theorem j87:(Tryz.prog.info? 68).map (fun i=>(i.zero,i.size,i.bytes))=some (some (.agg #[.slice none 0 0,.slice none 0 0]),2,48):=by kernel_rfl
theorem jeH:(Tryz.prog.info? 71).map (fun i=>(i.zero,i.size,i.bytes))=some (some (.agg #[I 0,F 0,F 0,F 0,F 0,I 0,I 0]),7,56):=by kernel_rfl
theorem jeI:(Tryz.prog.info? 75).map (fun i=>(i.zero,i.size,i.bytes))=some (some (.agg #[I 0,I 0,I 0,I 0,I 0,I 0,I 0,I 0,I 0,I 0,I 0]),11,88):=by kernel_rfl
theorem jeJ:(Tryz.prog.info? 77).map (fun i=>(i.zero,i.size,i.bytes))=some (some (.agg #[I 0,I 0]),2,16):=by kernel_rfl
theorem Jm {α:Type} {enc:α->List Value} {n B0:Nat} {w:World} {t:TypeId} {v:Value} {l:List α} (h:jd enc n B0 w t v l):∃ a c,v=.slice a l.length c:=by
 rcases h.2 with ⟨rfl,h0⟩ | ⟨g,cap,cur,rfl,_⟩
 ·exact ⟨none,0,by rw [h0]⟩
 exact ⟨_,_,rfl⟩
theorem j0H {A S R:List Value} {v:Value} {k q:Nat} (hk:A.length=k) (hq:q < S.length):(A++(S++R)).set (k+q) v=A++(S.set q v++R):=by
 subst hk;rw [kZ _ _ (by omega),kP,List.set_append_left _ _ hq]
theorem j1C {A S R:List Value} {k q:Nat} (hk:A.length=k) (hq:q < S.length):(A++(S++R))[k+q]?=S[q]?:=by
 subst hk;rw [kM (by omega),kP,List.getElem?_append_left hq]
theorem jbN (PH:List Value) (g:Value) (cf:List Value) (d r b:Value) (tm fl tk:List Value):bx PH g cf d r b tm fl tk=(PH++[g])++(cf++(d :: r :: b :: (tm++(fl++tk)))):=by simp [bx]
theorem j43 (PH:List Value) (g:Value) (cf:List Value) (d r b:Value) (tm fl tk:List Value):bx PH g cf d r b tm fl tk=(PH++[g]++cf)++(d :: (r :: b :: (tm++(fl++tk)))):=by simp [bx]
theorem j44 (PH:List Value) (g:Value) (cf:List Value) (d r b:Value) (tm fl tk:List Value):bx PH g cf d r b tm fl tk=(PH++[g]++cf++[d])++(r :: (b :: (tm++(fl++tk)))):=by simp [bx]
theorem jdg (PH:List Value) (g:Value) (cf:List Value) (d r b:Value) (tm fl tk:List Value):bx PH g cf d r b tm fl tk=(PH++[g]++cf++[d,r])++(b :: (tm++(fl++tk))):=by simp [bx]
theorem j2D (PH:List Value) (g:Value) (cf:List Value) (d r b:Value) (tm fl tk:List Value):bx PH g cf d r b tm fl tk=(PH++[g]++cf++[d,r,b])++(tm++(fl++tk)):=by simp [bx]
theorem jeK (PH:List Value) (g:Value) (cf:List Value) (d r b:Value) (tm fl tk:List Value):bx PH g cf d r b tm fl tk=(PH++[g]++cf++[d,r,b]++tm)++(fl++tk):=by simp [bx]
theorem ja6 (PH:List Value) (g:Value) (cf:List Value) (d r b:Value) (tm fl tk:List Value):bx PH g cf d r b tm fl tk=(PH++[g]++cf++[d,r,b]++tm++fl)++(tk++[]):=by simp [bx]
theorem jdh:(Tryz.prog.info? 77).map (·.size)=some 2:=by kernel_rfl
abbrev z8:List Value:=kc 8 (I 0)
section
variable {B g:Nat} {ad:Option Addr} {cap:Nat} {bs:List Nat}
theorem jdE (s0:St) (W:World) (h:Ds B g ad cap bs s0 W):Calls Tryz.prog 63 #[ptr g] W fun e W'=>∃ (d:Det) (s':St),runs (DP bs) stD zDt s0=.ok (d.cells,s')/\e=.returned (.agg d.cells.toArray)/\Ds B g ad cap bs s' W'/\But g W W' :=
 (j8l s0 W h).mono fun e W' ⟨l,s',h1,h2,h3,h4⟩=>by
  have hc:=j1S (Jn (DP bs) _ h1);exact ⟨jaN l,s',by rw [hc];exact h1,by rw [hc];exact h2,h3,h4⟩
theorem jfn (s0:St) (W:World) (h:Ds B g ad cap bs s0 W):Calls Tryz.prog 64 #[ptr g] W fun e W'=>∃ (d:Rl) (s':St),runs (DP bs) stR zRl s0=.ok (d.cells,s')/\e=.returned (.agg d.cells.toArray)/\Ds B g ad cap bs s' W'/\But g W W' :=
 (jeG s0 W h).mono fun e W' ⟨l,s',h1,h2,h3,h4⟩=>by
  have hc:=j2A (Jn (DP bs) _ h1);exact ⟨je7 l,s',by rw [hc];exact h1,by rw [hc];exact h2,h3,h4⟩
theorem jdi (s0:St) (W:World) (h:Ds B g ad cap bs s0 W) (hb8:∀ x ∈ bs,x < 256):Calls Tryz.prog 23 #[ptr g] W fun e W'=>∃ x s' H,parts (DP bs) s0=.ok (x,s')/\e=.returned (.agg ((jt x).cells H).toArray)/\jy W' H (jt x)/\Ds B g ad cap bs s' W'/\But g W W'/\∀ V,jbL W.heap.size W' V->jy V H (jt x):=by
 have hz:=(KE Clone.j1p).1;have hg:g < W.heap.size:=kv h.gl h.bl;have hBW:=h.bl;obtain ⟨Z,hZ⟩:∃ Z,(jB.cells zHd).toArray=Z:=⟨_,rfl⟩;have EB:Hid ((bx ((kc 8 zPh).flatten) nl z8 nl nl nl (kc 5 (I 0)) z8 (kc 2 (I 0))).toArray=Z):=hJJ (by rw [<-hZ];rfl);have EZS:Hid (Z.size=131):=hJJ (by rw [<-hZ];exact (j9 (Clone.j3m W)).size);rw [hZ] at hz;clear hZ;have hb2:=((km W.heap.size W).alloc (ko _) (.cells Z 33)).alloc (by simp) (.cells Z 33);have hs0:=h.mem hb2;have ha0:=KC W (.cells Z 33) (.cells Z 33);have ha1:=KD W (.cells Z 33) (.cells Z 33);go_enter Tryz.func23,Tryz.ntmps23
 go_upto_region 2 with fail
 generalize kq (kq W _) _=V at hb2 hs0 ha0 ha1 |-;have HQ0:Hid (Dq B g ad cap bs W (W.heap.size+1) W.heap.size Z (bx ((kc 8 zPh).flatten) nl z8 nl nl nl (kc 5 (I 0)) z8 (kc 2 (I 0))) ⟨nl,[],nl,[],nl,[],nl,[]⟩ s0 V):=hJJ ⟨by rw [EB.out];exact ha1,ha0,But.of hb2,hs0,j03.nil,by omega,ko _,by omega,hBW⟩;generalize htb:W.heap.size+1=tb at HQ0 |-;generalize hgz:W.heap.size=gz at HQ0 |-;clear hb2 hs0 ha0 ha1 h;go_wp2_with fail
 go_loopw [4] (fun i wr=>∃ (q:Nat) (ph:List (List Value)) (t:St),q<=8/\i=.int .i64 q/\Hid (jf (DP bs) j1H (kc q zPh) s0=.ok (ph,t))/\ph.flatten.length=q*13/\ph.length=q/\Dq B g ad cap bs W tb gz Z (bx (ph.flatten++(kc (8 - q) zPh).flatten) nl z8 nl nl nl (kc 5 (I 0)) z8 (kc 2 (I 0))) ⟨nl,[],nl,[],nl,[],nl,[]⟩ t wr) (fun i _=>8 - (intOf i).toNat)
 case atStart=>exact ⟨0,[],s0,by omega,rfl,hJJ rfl,rfl,rfl,HQ0.out⟩
 case round =>
  obtain ⟨q,ph,t,hq,rfl,HE,hfl,hpl,hdq⟩:=hrel;have HD:=hJJ hdq;clear hdq HQ0;by_cases hlt:q < 8
  ·have hc:=hJJ (jdd t wr HD.out.ds);go_wp2_with fail
   refine hc.out.mono ?_;rintro e V2 ⟨l,t2,hrun,rfl,hd2,hb2⟩;have hk:=Jn (DP bs) _ hrun;have hl13:l.length=13:=by have:=congrArg kF hk;rwa [kt,kt] at this
   have HONE:=hJJ (jbM (l:=l) (by rw [hk];decide));have HRUN:=hJJ hrun
   have eC:bx (ph.flatten++(kc (8 - q) zPh).flatten) nl z8 nl nl nl (kc 5 (I 0)) z8 (kc 2 (I 0))=ph.flatten++(zPh++((kc (8 - (q+1)) zPh).flatten++(nl :: (z8++(nl :: nl :: nl :: (kc 5 (I 0)++(z8++kc 2 (I 0)))))))):=by
    unfold bx;rw [j78 hlt];simp only [ku]
   have hq2:=HD.out.step hb2 hd2;rw [eC] at hq2;have HQ2:=hJJ hq2
   have hsz:((ph.flatten++(zPh++((kc (8 - (q+1)) zPh).flatten++(nl :: (z8++(nl :: nl :: nl :: (kc 5 (I 0)++(z8++kc 2 (I 0))))))))):List Value).toArray.size=131:=by
    rw [<-eC];simp [bx,hfl,List.length_flatten];have:13*(8 - q)=(8 - q)*13:=Km _ _;simp [zPh];omega
   have IL:Hid ((Tryz.prog.info? 25).map (·.size)=some l.toArray.size):=hJJ (by rw [kC,hl13];exact j1B);have LE:Hid (q*13+l.toArray.size<=((ph.flatten++(zPh++((kc (8 - (q+1)) zPh).flatten++(nl :: (z8++(nl :: nl :: nl :: (kc 5 (I 0)++(z8++kc 2 (I 0))))))))):List Value).toArray.size):=hJJ (by rw [hsz,kC,hl13];omega);clear hc hrun hd2 hb2 hk hq2 hsz;go_upto_region 4 with (refine QL.wpList_store_mid rfl 25 _ _ rfl tb (q*13) l.toArray rfl rfl 33 _ HQ2.out.tbl IL.out LE.out HONE.out ?_)
   rw [jdf hfl (by rw [hl13];rfl)];have hput:=HQ2.out.put (ph.flatten++(l++((kc (8 - (q+1)) zPh).flatten++(nl :: (z8++(nl :: nl :: nl :: (kc 5 (I 0)++(z8++kc 2 (I 0)))))))));generalize kG V2 tb _=V3 at hput |-;have HP:=hJJ hput;clear hput HQ2 eC;go_wp2_with fail
   go_roundw
   case rel =>
    refine ⟨q+1,ph++[l],t2,by omega,by go_num,hJJ (JX HE.out HRUN.out),by rw [K4,ka,hfl];simp [hl13];omega,by rw [ka,hpl];rfl,?_⟩
    have e:bx ((ph++[l]).flatten++(kc (8 - (q+1)) zPh).flatten) nl z8 nl nl nl (kc 5 (I 0)) z8 (kc 2 (I 0))=ph.flatten++(l++((kc (8 - (q+1)) zPh).flatten++(nl :: (z8++(nl :: nl :: nl :: (kc 5 (I 0)++(z8++kc 2 (I 0)))))))):=by
     unfold bx;rw [K4];simp only [ku,List.flatten_cons,List.flatten_nil,Kg]
    rw [e];exact HP.out
   case measure=>simp [intOf];omega
  obtain rfl:q=8:=by omega
  obtain ⟨PHL,hPH⟩:∃ x,ph.flatten=x:=⟨_,rfl⟩
  have HD1:Hid (Dq B g ad cap bs W tb gz Z (bx PHL nl z8 nl nl nl (kc 5 (I 0)) z8 (kc 2 (I 0))) ⟨nl,[],nl,[],nl,[],nl,[]⟩ t wr):=hJJ (by
   have:=HD.out;rw [show (kc (8 - 8) zPh).flatten=[] from rfl,Kg,hPH] at this;exact this)
  have HPL:Hid (PHL.length=104):=hJJ (by rw [<-hPH,hfl]);have HEP:=HE;have HPHE:=hJJ hPH;clear HE HD hPH hfl;have hc4:=j09 t 1 4 wr HD1.out.ds;have hnum:(DP bs).num t 1 4 0=.ok ((Nm.num bs t (lim 1 7) 0 4).1,(Nm.num bs t (lim 1 7) 0 4).2):=rfl;obtain ⟨n,hn,hn4⟩:=j5a bs t (lim 1 7) (high:=4) (by decide);rw [hn] at hc4 hnum;generalize (Nm.num bs t (lim 1 7) 0 4).2=t1 at hc4 hnum;have HNUM:=hJJ hnum;clear hnum hn;go_wp2_with fail
  refine hc4.mono ?_;rintro e V1 ⟨rfl,hs1,hb1⟩;have HQ1:=hJJ (HD1.out.step hb1 hs1);clear hs1 hb1 hc4 HD1;go_wp2_with fail
  go_loopw [6,7,8] (fun i va vb wr=>∃ (q:Nat) (gs:List (List (List Value) × List (List Value))) (t2:St) (gv:Value) (zs:List Zd),q<=n/\i=.int .i64 q/\Hid (jX (DP bs) q t1=.ok (gs,t2))/\gs.length=q/\zs.map (·.2)=gs/\Dq B g ad cap bs W tb gz Z (bx PHL gv z8 nl nl nl (kc 5 (I 0)) z8 (kc 2 (I 0))) ⟨gv,zs,nl,[],nl,[],nl,[]⟩ t2 wr) (fun i _ _ _=>n - (intOf i).toNat)
  case atStart=>exact ⟨0,[],t1,nl,[],kI _,rfl,hJJ rfl,rfl,rfl,HQ1.out⟩
  case round =>
   obtain ⟨q,gs,t2,gv,zs,hq,rfl,HG,hgl,hzs,hdq⟩:=hrel;have HD:=hJJ hdq;clear hdq HQ1;by_cases hlt:q < n
   ·have hca:=hJJ (jdD t2 wr HD.out.ds);go_wp2_with fail
    refine hca.out.mono ?_;rintro e V2 ⟨ra,ta,va,hra,rfl,hoa,hla,hd2,hb2⟩;obtain ⟨aa,ca,hva⟩:=Jm hoa;obtain ⟨na,hna⟩:∃ n,ra.length=n:=⟨_,rfl⟩;rw [hna] at hva;subst hva;clear hna;have hq2:=HD.out.step hb2 hd2;have hWs:=HD.out.but.size;have hoa2:jd idL 1 W.heap.size V2 3 (.slice aa na ca) ra:=hoa.mono hWs;have HQ2:=hJJ hq2;have HOA:=hJJ hoa2;have HRA:=hJJ hra;clear hca hra hoa hd2 hb2 hq2 hoa2;have hcb:=hJJ (jdD ta V2 HQ2.out.ds);go_wp2_with fail
    refine hcb.out.mono ?_;rintro e V3 ⟨rb,tb2,vb,hrb,rfl,hob,hlb,hd3,hb3⟩;obtain ⟨ab,cb,hvb⟩:=Jm hob;obtain ⟨nb,hnb⟩:∃ n,rb.length=n:=⟨_,rfl⟩;rw [hnb] at hvb;subst hvb;clear hnb;have hq3:=HQ2.out.step hb3 hd3;have hWs3:=HQ2.out.but.size;have hob2:jd idL 1 W.heap.size V3 3 (.slice ab nb cb) rb:=hob.mono hWs3;have hoa3:jd idL 1 W.heap.size V3 3 (.slice aa na ca) ra:=j0B HOA.out hb3 HQ2.out.gl;have HQ3:=hJJ hq3;have HOB:=hJJ hob2;have HOA3:=hJJ hoa3;have HGR:=hJJ (By.jcz HRA.out hrb);clear hcb hrb hob hd3 hb3 hq3 hob2 hoa3 HOA HRA HQ2;have c4:V3.cell? ⟨tb,104,none⟩=some gv:=HQ3.out.at (by unfold bx;exact JU HPL.out);have hgr:=HQ3.out.hold.gr;have hzl:zs.length=q:=by have:=congrArg kF hzs;rw [kt] at this;omega
    obtain ⟨j0,hj,hy0,hy1,hy2⟩:=KA j87;have hWs:=HQ3.out.but.size;go_wp2_with (at_builtin;refine Kx _ rfl _ _ 27 rfl W.heap.size 68 j0 (.agg #[.slice none 0 0,.slice none 0 0]) 2 48 Tryz.underlying27 hj hy0 hy1 hy2 rfl (by decide) gv zs.length _ rfl (kK hgr _) ⟨V3.heap.size,0,none⟩ 1 1 [.slice aa na ca,.slice ab nb cb] rfl rfl ?c1 ?c2 ?c3 ?c4 ?c5 ?_)
    case c1 =>
     intro j u hj
     match j,hj with
     | 0,hj=>simp at hj;subst hj;simp [K0]
     | 1,hj=>simp at hj;subst hj;simp [K0]
    case c2=>intro u hu;simp at hu;rcases hu with rfl | rfl <;> rfl
    case c3=>unfold maxLen;omega
    case c4=>omega
    case c5=>simp;omega
    intro v' w1 hown' hgrow hnil';have hbel:Below V3.heap.size V3 (V3.alloc (.cells #[.slice aa na ca,.slice ab nb cb] 68)):=(km _ _).alloc (ko _) _;have hqa:=HQ3.out.mem hbel;have hown2:jd zcD 2 W.heap.size w1 68 v' (zs++[((((.slice aa na ca),(.slice ab nb cb)),(ra,rb)):Zd)]):=jd.snoc (by rw [hgz,hzl];exact hown');have hho:=hqa.hold.jfl (z:=(((.slice aa na ca),(.slice ab nb cb)),(ra,rb))) hgrow hown2 (HOA3.out.below hbel) (HOB.out.below hbel);have hq5:=hqa.grown hgrow (fun m hm=>⟨hqa.hold.gr.blk m hm,GenG.jv hqa.hold.gr m hm⟩) (by decide) hho;obtain ⟨a',c',hv'⟩:=Jm hown2;obtain ⟨len',hlen'⟩:∃ x,(zs++[((((.slice aa na ca),(.slice ab nb cb)),(ra,rb)):Zd)]).length=x:=⟨_,rfl⟩;rw [hlen'] at hv';subst hv';have HQ5:=hJJ hq5;clear hown' hgrow hnil' hbel hqa hown2 hho hq5 c4 hgr hlen' HQ3 HOA3 HOB;have c5:w1.cell? ⟨tb,104,none⟩=some gv:=HQ5.out.at (by unfold bx;exact JU HPL.out);have f5:w1.frozen? ⟨tb,104,none⟩=false:=HQ5.out.fz 104;go_upto_region 9 with fail
    have hput:=HQ5.out.set 104 (.slice a' len' c');clear c5 f5 HQ5;generalize ki w1 _ _=w2 at hput |-;have HP:=hJJ hput;clear hput;go_wp2_with fail
    go_roundw
    case rel =>
     refine ⟨q+1,gs++[(ra,rb)],tb2,.slice a' len' c',zs++[(((.slice aa na ca),(.slice ab nb cb)),(ra,rb))],by omega,by go_num,hJJ (By.j6h HG.out HGR.out),by rw [ka,hgl];rfl,by rw [List.map_append,hzs];rfl,?_⟩;have:=HP.out;unfold bx at this |-;rw [j16 HPL.out] at this;exact this
    case measure=>simp [intOf];omega
   obtain rfl:q=n:=by omega
   have HLG:Hid (Jt (DP bs) 4 t=.ok (gs,t2)):=hJJ (By.jaQ HNUM.out HG.out);clear HG HNUM;go_wp2_with fail
   go_loopw [9] (fun i wr=>∃ (q3:Nat) (CF:List Value) (t3:St),q3<=8/\i=.int .i64 q3/\Hid (runs (DP bs) (st8 255 q3) z8 t2=.ok (CF,t3))/\CF.length=8/\CF.map kind=kc 8 0/\Dq B g ad cap bs W tb gz Z (bx PHL gv CF nl nl nl (kc 5 (I 0)) z8 (kc 2 (I 0))) ⟨gv,zs,nl,[],nl,[],nl,[]⟩ t3 wr) (fun i _=>8 - (intOf i).toNat)
   case atStart=>exact ⟨0,z8,t2,kI _,rfl,hJJ rfl,rfl,rfl,HD.out⟩
   case round =>
    obtain ⟨q3,CF,t3,hq3,rfl,HR3,hcl3,hck3,hdq⟩:=hrel;have HD:=hJJ hdq;clear hdq;by_cases hlt3:q3 < 8
    ·have hc:=j09 t3 1 255 wr HD.out.ds;obtain ⟨x,hx⟩:∃ x,CF[q3]?=some (I x):=j0i hck3 (by rw [kQ,if_pos hlt3]);have hrun:Sp.run (DP bs) CF t3 (.num 1 255 q3)=.ok (CF.set q3 (I (Nm.num bs t3 (lim 1 7) 0 255).1),(Nm.num bs t3 (lim 1 7) 0 255).2):=by simp only [Sp.run,hx];rfl
     generalize (Nm.num bs t3 (lim 1 7) 0 255).1=y at hc hrun;generalize (Nm.num bs t3 (lim 1 7) 0 255).2=t9 at hc hrun;have HRUN:=hJJ hrun;have HX:=hJJ hx;clear hrun hx;go_wp2_with fail
     refine hc.mono ?_;rintro e V2 ⟨rfl,hd2,hb2⟩;have HQ2:=hJJ (HD.out.step hb2 hd2);clear hc hd2 hb2;have c5:V2.cell? ⟨tb,105+q3,none⟩=some (I x):=HQ2.out.at (by rw [jbN,j1C (by rw [ka,HPL.out];rfl) (by omega)];exact HX.out);have f5:V2.frozen? ⟨tb,105+q3,none⟩=false:=HQ2.out.fz _;go_upto_region 15 with fail
     have hput:=HQ2.out.set (105+q3) (I y);rw [jbN,j0H (by rw [ka,HPL.out];rfl) (by omega),<-jbN] at hput;clear c5 f5 HQ2;generalize ki V2 _ _=V3 at hput |-;have HP:=hJJ hput;clear hput;go_wp2_with fail
     go_roundw;case rel=>exact ⟨q3+1,CF.set q3 (I y),t9,by omega,by go_num,hJJ (j32 HR3.out HRUN.out),by rw [Kh,hcl3],by rw [map_set (u:=I y) HX.out rfl,hck3],HP.out⟩
     case measure=>simp [intOf];omega
    obtain rfl:q3=8:=by omega
    have hc:=j09 t3 1 16 wr HD.out.ds;have hnum:(DP bs).num t3 1 16 0=.ok ((Nm.num bs t3 (lim 1 7) 0 16).1,(Nm.num bs t3 (lim 1 7) 0 16).2):=rfl;obtain ⟨n4,hn,hnm4⟩:=j5a bs t3 (lim 1 7) (high:=16) (by decide);rw [hn] at hc hnum;generalize (Nm.num bs t3 (lim 1 7) 0 16).2=t4 at hc hnum;have HNUM4:=hJJ hnum;clear hnum hn;go_wp2_with fail
    refine hc.mono ?_;rintro e V1 ⟨rfl,hs1,hb1⟩;have HQ1:=hJJ (HD.out.step hb1 hs1);clear hs1 hb1 hc HD;obtain ⟨j4,hj4,hy04,hy14,hy24⟩:=KA jeH;go_wp2_with fail
    go_loopw [10] (fun i wr=>∃ (q4:Nat) (dv:Value) (ds:List (List Value)) (t5:St),q4<=n4/\i=.int .i64 q4/\Hid (jf (DP bs) stD (kc q4 zDt) t4=.ok (ds,t5))/\ds.length=q4/\Dq B g ad cap bs W tb gz Z (bx PHL gv CF dv nl nl (kc 5 (I 0)) z8 (kc 2 (I 0))) ⟨gv,zs,dv,ds,nl,[],nl,[]⟩ t5 wr) (fun i _=>n4 - (intOf i).toNat)
    case atStart=>exact ⟨0,nl,[],t4,kI _,rfl,hJJ rfl,rfl,HQ1.out⟩
    case round =>
     obtain ⟨q4,dv,ds,t5,hq4,rfl,HE4,hdl4,hdq⟩:=hrel;have HD:=hJJ hdq;clear hdq HQ1;by_cases hlt4:q4 < n4
     ·go_upto_region 21 with fail
      refine Ku (S:=fun _=>True) (by kernel_rfl) ?_;have hS:True:=trivial;have hb:=HD.out.mem (V:={ wr with drawn:=wr.drawn+1 }) (km _ _).drew;generalize ({ wr with drawn:=wr.drawn+1 }:World)=v at hb |-;clear HD;refine tkZ 0 59 ?_ rfl ?_ hS ?_;rotate_left
      ·intro w' hw';go_simp
       try with_reducible rfl
      (try dsimp only [kh]);(try simp only [zA,zB,zC])
      refine tkZ 2 61 ?_ rfl ?_ hS ?_;rotate_left
      ·intro w' hw';go_simp
       try with_reducible rfl
      (try dsimp only [kh]);(try simp only [zA,zB,zC])
      refine j1d 1 3 rfl rfl (fun K hK=>?_) (fun K hK=>?_)
      ·have c4:v.cell? ⟨tb,113,none⟩=some dv:=hb.at (by rw [j43];exact JU (by simp only [ka,HPL.out,kj,kk,hcl3]));go_simp
       refine hK.out _ _ trivial (fun _=>?_);clear hK K
       (try dsimp only [kh]);(try simp only [zA,zB,zC])
       clear c4;refine rdZ 3 rfl (fun K hK=>?_);go_simp
       refine (jdE t5 v hb.ds).mono ?_;rintro e v2 ⟨⟨p0,p1,p2,p3,p4,p5,p6⟩,t9,hrun,rfl,hd2,hb2⟩;simp only [Det.cells] at hrun |-;replace hb:=hb.step hb2 hd2;have HRUN:=hJJ hrun;clear hrun hd2 hb2;rename World=>v
       go_simp
       refine hK.out _ _ trivial (fun _=>?_);clear hK K
       (try dsimp only [kh]);(try simp only [zA,zB,zC])
       refine rdZ 4 rfl (fun K hK=>?_);go_simp
       have hbw:Below v.heap.size v (v.alloc (.cells #[I p0,F p1,F p2,F p3,F p4,I p5,I p6] 71)):=(km _ _).alloc (ko _) _;have hN:=Kr v (.cells #[I p0,F p1,F p2,F p3,F p4,I p5,I p6] 71);replace hb:=hb.mem hbw;clear hbw;generalize hbn:v.heap.size=bn at hN |-;clear hbn;generalize kq v (.cells #[I p0,F p1,F p2,F p3,F p4,I p5,I p6] 71)=v at hb hN |-;refine hK.out _ _ trivial (fun _=>?_);clear hK K
       (try dsimp only [kh]);(try simp only [zA,zB,zC])
       refine rdZ 5 rfl (fun K hK=>?_);rw [if_pos (by rfl)];have hown2:v.ownsRow W.heap.size 71 7 dv ds.length (ds.flatMap idL):=hb.hold.dt;have hWs:=hb.but.size;refine Kv _ _ _ _ rfl W.heap.size 71 j4 (.agg #[I 0,F 0,F 0,F 0,F 0,I 0,I 0]) 7 56 Tryz.underlying29 hj4 hy04 hy14 hy24 rfl (by decide) dv ds.length _ rfl hown2 ⟨bn,0,none⟩ 1 1 [I p0,F p1,F p2,F p3,F p4,I p5,I p6] rfl rfl ?u4c1 ?u4c2 ?u4c3 ?u4c4 hWs ?_
       case u4c1 =>
        intro j e hj;exact Row.j1 hN j e hj
       case u4c2=>intro e he;exact by simp at he;rcases he with rfl | rfl | rfl | rfl | rfl | rfl | rfl <;> rfl
       case u4c3=>unfold maxLen;omega
       case u4c4=>omega
       intro v' w5 hown' hgrow hnil';have hown3:jd idL 7 W.heap.size w5 71 v' (ds++[[I p0,F p1,F p2,F p3,F p4,I p5,I p6]]):=jd.snoc hown';have hho:=hb.hold.jbJ hgrow hown3;have hq5:=hb.grown hgrow (fun m hm=>⟨hb.hold.dt.blk m hm,GenG.jv hb.hold.dt m hm⟩) (by decide) hho;obtain ⟨a',c',hv'⟩:=Jm hown3;obtain ⟨len',hlen'⟩:∃ x,(ds++[[I p0,F p1,F p2,F p3,F p4,I p5,I p6]]).length=x:=⟨_,rfl⟩;rw [hlen'] at hv';subst hv';have HQ5:=hJJ hq5;clear hown' hgrow hnil' hown2 hown3 hho hq5 hlen' hb hN;have c5:w5.cell? ⟨tb,113,none⟩=some dv:=HQ5.out.at (by rw [j43];exact JU (by simp only [ka,HPL.out,kj,kk,hcl3]));have f5:w5.frozen? ⟨tb,113,none⟩=false:=HQ5.out.fz 113;refine hK.out _ _ trivial (fun _=>?_);clear hK K
       (try dsimp only [kh]);(try simp only [zA,zB,zC])
       refine tkZ 6 65 ?_ rfl ?_ hS ?_;rotate_left
       ·intro w' hw';go_simp
        try with_reducible rfl
       (try dsimp only [kh]);(try simp only [zA,zB,zC])
       refine rdZ 7 rfl (fun K hK=>?_);go_simp
       have hput:=HQ5.out.set 113 (.slice a' len' c');rw [j43,j16 (by simp only [ka,HPL.out,kj,kk,hcl3]),<-j43] at hput;clear c5 f5 HQ5;generalize ki w5 _ _=w6 at hput |-;have HP:=hJJ hput;clear hput;refine hK.out _ _ trivial (fun _=>?_);clear hK K
       (try dsimp only [kh]);(try simp only [zA,zB,zC])
       refine Kt (by kernel_rfl) ?_ _;go_wp2_with fail
       go_roundw;case rel=>exact ⟨q4+1,.slice a' len' c',ds++[[I p0,F p1,F p2,F p3,F p4,I p5,I p6]],t9,by omega,by go_num,hJJ (JX HE4.out HRUN.out),by rw [ka,hdl4];rfl,HP.out⟩
       case measure=>simp [intOf];omega
      go_simp
      refine (jdE t5 v hb.ds).mono ?_;rintro e v2 ⟨⟨p0,p1,p2,p3,p4,p5,p6⟩,t9,hrun,rfl,hd2,hb2⟩;simp only [Det.cells] at hrun |-;replace hb:=hb.step hb2 hd2;have HRUN:=hJJ hrun;clear hrun hd2 hb2;rename World=>v
      go_simp
      refine hK.out _ _ trivial (fun _=>?_);clear hK K
      (try dsimp only [kh]);(try simp only [zA,zB,zC])
      refine j1d 1 4 rfl rfl (fun K hK=>?_) (fun K hK=>?_)
      ·have c4:v.cell? ⟨tb,113,none⟩=some dv:=hb.at (by rw [j43];exact JU (by simp only [ka,HPL.out,kj,kk,hcl3]));go_simp
       refine hK.out _ _ trivial (fun _=>?_);clear hK K
       (try dsimp only [kh]);(try simp only [zA,zB,zC])
       clear c4;refine rdZ 4 rfl (fun K hK=>?_);go_simp
       have hbw:Below v.heap.size v (v.alloc (.cells #[I p0,F p1,F p2,F p3,F p4,I p5,I p6] 71)):=(km _ _).alloc (ko _) _;have hN:=Kr v (.cells #[I p0,F p1,F p2,F p3,F p4,I p5,I p6] 71);replace hb:=hb.mem hbw;clear hbw;generalize hbn:v.heap.size=bn at hN |-;clear hbn;generalize kq v (.cells #[I p0,F p1,F p2,F p3,F p4,I p5,I p6] 71)=v at hb hN |-;refine hK.out _ _ trivial (fun _=>?_);clear hK K
       (try dsimp only [kh]);(try simp only [zA,zB,zC])
       refine rdZ 5 rfl (fun K hK=>?_);rw [if_pos (by rfl)];have hown2:v.ownsRow W.heap.size 71 7 dv ds.length (ds.flatMap idL):=hb.hold.dt;have hWs:=hb.but.size;refine Kv _ _ _ _ rfl W.heap.size 71 j4 (.agg #[I 0,F 0,F 0,F 0,F 0,I 0,I 0]) 7 56 Tryz.underlying29 hj4 hy04 hy14 hy24 rfl (by decide) dv ds.length _ rfl hown2 ⟨bn,0,none⟩ 1 1 [I p0,F p1,F p2,F p3,F p4,I p5,I p6] rfl rfl ?u9c1 ?u9c2 ?u9c3 ?u9c4 hWs ?_
       case u9c1 =>
        intro j e hj;exact Row.j1 hN j e hj
       case u9c2=>intro e he;exact by simp at he;rcases he with rfl | rfl | rfl | rfl | rfl | rfl | rfl <;> rfl
       case u9c3=>unfold maxLen;omega
       case u9c4=>omega
       intro v' w5 hown' hgrow hnil';have hown3:jd idL 7 W.heap.size w5 71 v' (ds++[[I p0,F p1,F p2,F p3,F p4,I p5,I p6]]):=jd.snoc hown';have hho:=hb.hold.jbJ hgrow hown3;have hq5:=hb.grown hgrow (fun m hm=>⟨hb.hold.dt.blk m hm,GenG.jv hb.hold.dt m hm⟩) (by decide) hho;obtain ⟨a',c',hv'⟩:=Jm hown3;obtain ⟨len',hlen'⟩:∃ x,(ds++[[I p0,F p1,F p2,F p3,F p4,I p5,I p6]]).length=x:=⟨_,rfl⟩;rw [hlen'] at hv';subst hv';have HQ5:=hJJ hq5;clear hown' hgrow hnil' hown2 hown3 hho hq5 hlen' hb hN;have c5:w5.cell? ⟨tb,113,none⟩=some dv:=HQ5.out.at (by rw [j43];exact JU (by simp only [ka,HPL.out,kj,kk,hcl3]));have f5:w5.frozen? ⟨tb,113,none⟩=false:=HQ5.out.fz 113;refine hK.out _ _ trivial (fun _=>?_);clear hK K
       (try dsimp only [kh]);(try simp only [zA,zB,zC])
       refine tkZ 6 65 ?_ rfl ?_ hS ?_;rotate_left
       ·intro w' hw';go_simp
        try with_reducible rfl
       (try dsimp only [kh]);(try simp only [zA,zB,zC])
       refine rdZ 7 rfl (fun K hK=>?_);go_simp
       have hput:=HQ5.out.set 113 (.slice a' len' c');rw [j43,j16 (by simp only [ka,HPL.out,kj,kk,hcl3]),<-j43] at hput;clear c5 f5 HQ5;generalize ki w5 _ _=w6 at hput |-;have HP:=hJJ hput;clear hput;refine hK.out _ _ trivial (fun _=>?_);clear hK K
       (try dsimp only [kh]);(try simp only [zA,zB,zC])
       refine Kt (by kernel_rfl) ?_ _;go_wp2_with fail
       go_roundw;case rel=>exact ⟨q4+1,.slice a' len' c',ds++[[I p0,F p1,F p2,F p3,F p4,I p5,I p6]],t9,by omega,by go_num,hJJ (JX HE4.out HRUN.out),by rw [ka,hdl4];rfl,HP.out⟩
       case measure=>simp [intOf];omega
      go_simp
      have hbw:Below v.heap.size v (v.alloc (.cells #[I p0,F p1,F p2,F p3,F p4,I p5,I p6] 71)):=(km _ _).alloc (ko _) _;have hN:=Kr v (.cells #[I p0,F p1,F p2,F p3,F p4,I p5,I p6] 71);replace hb:=hb.mem hbw;clear hbw;generalize hbn:v.heap.size=bn at hN |-;clear hbn;generalize kq v (.cells #[I p0,F p1,F p2,F p3,F p4,I p5,I p6] 71)=v at hb hN |-;refine hK.out _ _ trivial (fun _=>?_);clear hK K
      (try dsimp only [kh]);(try simp only [zA,zB,zC])
      refine rdZ 1 rfl (fun K hK=>?_);have c4:v.cell? ⟨tb,113,none⟩=some dv:=hb.at (by rw [j43];exact JU (by simp only [ka,HPL.out,kj,kk,hcl3]));go_simp
      refine hK.out _ _ trivial (fun _=>?_);clear hK K
      (try dsimp only [kh]);(try simp only [zA,zB,zC])
      clear c4;refine rdZ 5 rfl (fun K hK=>?_);rw [if_pos (by rfl)];have hown2:v.ownsRow W.heap.size 71 7 dv ds.length (ds.flatMap idL):=hb.hold.dt;have hWs:=hb.but.size;refine Kv _ _ _ _ rfl W.heap.size 71 j4 (.agg #[I 0,F 0,F 0,F 0,F 0,I 0,I 0]) 7 56 Tryz.underlying29 hj4 hy04 hy14 hy24 rfl (by decide) dv ds.length _ rfl hown2 ⟨bn,0,none⟩ 1 1 [I p0,F p1,F p2,F p3,F p4,I p5,I p6] rfl rfl ?u13c1 ?u13c2 ?u13c3 ?u13c4 hWs ?_
      case u13c1 =>
       intro j e hj;exact Row.j1 hN j e hj
      case u13c2=>intro e he;exact by simp at he;rcases he with rfl | rfl | rfl | rfl | rfl | rfl | rfl <;> rfl
      case u13c3=>unfold maxLen;omega
      case u13c4=>omega
      intro v' w5 hown' hgrow hnil';have hown3:jd idL 7 W.heap.size w5 71 v' (ds++[[I p0,F p1,F p2,F p3,F p4,I p5,I p6]]):=jd.snoc hown';have hho:=hb.hold.jbJ hgrow hown3;have hq5:=hb.grown hgrow (fun m hm=>⟨hb.hold.dt.blk m hm,GenG.jv hb.hold.dt m hm⟩) (by decide) hho;obtain ⟨a',c',hv'⟩:=Jm hown3;obtain ⟨len',hlen'⟩:∃ x,(ds++[[I p0,F p1,F p2,F p3,F p4,I p5,I p6]]).length=x:=⟨_,rfl⟩;rw [hlen'] at hv';subst hv';have HQ5:=hJJ hq5;clear hown' hgrow hnil' hown2 hown3 hho hq5 hlen' hb hN;have c5:w5.cell? ⟨tb,113,none⟩=some dv:=HQ5.out.at (by rw [j43];exact JU (by simp only [ka,HPL.out,kj,kk,hcl3]));have f5:w5.frozen? ⟨tb,113,none⟩=false:=HQ5.out.fz 113;refine hK.out _ _ trivial (fun _=>?_);clear hK K
      (try dsimp only [kh]);(try simp only [zA,zB,zC])
      refine tkZ 6 65 ?_ rfl ?_ hS ?_;rotate_left
      ·intro w' hw';go_simp
       try with_reducible rfl
      (try dsimp only [kh]);(try simp only [zA,zB,zC])
      refine rdZ 7 rfl (fun K hK=>?_);go_simp
      have hput:=HQ5.out.set 113 (.slice a' len' c');rw [j43,j16 (by simp only [ka,HPL.out,kj,kk,hcl3]),<-j43] at hput;clear c5 f5 HQ5;generalize ki w5 _ _=w6 at hput |-;have HP:=hJJ hput;clear hput;refine hK.out _ _ trivial (fun _=>?_);clear hK K
      (try dsimp only [kh]);(try simp only [zA,zB,zC])
      refine Kt (by kernel_rfl) ?_ _;go_wp2_with fail
      go_roundw;case rel=>exact ⟨q4+1,.slice a' len' c',ds++[[I p0,F p1,F p2,F p3,F p4,I p5,I p6]],t9,by omega,by go_num,hJJ (JX HE4.out HRUN.out),by rw [ka,hdl4];rfl,HP.out⟩
      case measure=>simp [intOf];omega
     obtain rfl:q4=n4:=by omega
     have HLN4:Hid (jr (DP bs) 16 stD zDt t3=.ok (ds,t5)):=hJJ (By.j4S HNUM4.out HE4.out);clear HE4 HNUM4;have hc:=j09 t5 1 4 wr HD.out.ds;have hnum:(DP bs).num t5 1 4 0=.ok ((Nm.num bs t5 (lim 1 7) 0 4).1,(Nm.num bs t5 (lim 1 7) 0 4).2):=rfl;obtain ⟨n5,hn,hnm5⟩:=j5a bs t5 (lim 1 7) (high:=4) (by decide);rw [hn] at hc hnum;generalize (Nm.num bs t5 (lim 1 7) 0 4).2=t6 at hc hnum;have HNUM5:=hJJ hnum;clear hnum hn;go_wp2_with fail
     refine hc.mono ?_;rintro e V1 ⟨rfl,hs1,hb1⟩;have HQ1:=hJJ (HD.out.step hb1 hs1);clear hs1 hb1 hc HD;obtain ⟨j5,hj5,hy05,hy15,hy25⟩:=KA jeI;go_wp2_with fail
     go_loopw [11] (fun i wr=>∃ (q5:Nat) (rv:Value) (rs:List (List Value)) (t7:St),q5<=n5/\i=.int .i64 q5/\Hid (jf (DP bs) stR (kc q5 zRl) t6=.ok (rs,t7))/\rs.length=q5/\Dq B g ad cap bs W tb gz Z (bx PHL gv CF dv rv nl (kc 5 (I 0)) z8 (kc 2 (I 0))) ⟨gv,zs,dv,ds,rv,rs,nl,[]⟩ t7 wr) (fun i _=>n5 - (intOf i).toNat)
     case atStart=>exact ⟨0,nl,[],t6,kI _,rfl,hJJ rfl,rfl,HQ1.out⟩
     case round =>
      obtain ⟨q5,rv,rs,t7,hq5,rfl,HE5,hdl5,hdq⟩:=hrel;have HD:=hJJ hdq;clear hdq HQ1;by_cases hlt5:q5 < n5
      ·go_upto_region 26 with fail
       refine Ku (S:=fun _=>True) (by kernel_rfl) ?_;have hS:True:=trivial;have hb:=HD.out.mem (V:={ wr with drawn:=wr.drawn+1 }) (km _ _).drew;generalize ({ wr with drawn:=wr.drawn+1 }:World)=v at hb |-;clear HD;refine tkZ 0 73 ?_ rfl ?_ hS ?_;rotate_left
       ·intro w' hw';go_simp
        try with_reducible rfl
       (try dsimp only [kh]);(try simp only [zA,zB,zC])
       refine tkZ 2 75 ?_ rfl ?_ hS ?_;rotate_left
       ·intro w' hw';go_simp
        try with_reducible rfl
       (try dsimp only [kh]);(try simp only [zA,zB,zC])
       refine j1d 1 3 rfl rfl (fun K hK=>?_) (fun K hK=>?_)
       ·have c4:v.cell? ⟨tb,114,none⟩=some rv:=hb.at (by rw [j44];exact JU (by simp only [ka,HPL.out,kj,kk,hcl3]));go_simp
        refine hK.out _ _ trivial (fun _=>?_);clear hK K
        (try dsimp only [kh]);(try simp only [zA,zB,zC])
        clear c4;refine rdZ 3 rfl (fun K hK=>?_);go_simp
        refine (jfn t7 v hb.ds).mono ?_;rintro e v2 ⟨⟨p0,p1,p2,p3,p4,p5,p6,p7,p8,p9,p10⟩,t9,hrun,rfl,hd2,hb2⟩;simp only [Rl.cells] at hrun |-;replace hb:=hb.step hb2 hd2;have HRUN:=hJJ hrun;clear hrun hd2 hb2;rename World=>v
        go_simp
        refine hK.out _ _ trivial (fun _=>?_);clear hK K
        (try dsimp only [kh]);(try simp only [zA,zB,zC])
        refine rdZ 4 rfl (fun K hK=>?_);go_simp
        have hbw:Below v.heap.size v (v.alloc (.cells #[I p0,I p1,I p2,I p3,I p4,I p5,I p6,I p7,I p8,I p9,I p10] 75)):=(km _ _).alloc (ko _) _;have hN:=Kr v (.cells #[I p0,I p1,I p2,I p3,I p4,I p5,I p6,I p7,I p8,I p9,I p10] 75);replace hb:=hb.mem hbw;clear hbw;generalize hbn:v.heap.size=bn at hN |-;clear hbn;generalize kq v (.cells #[I p0,I p1,I p2,I p3,I p4,I p5,I p6,I p7,I p8,I p9,I p10] 75)=v at hb hN |-;refine hK.out _ _ trivial (fun _=>?_);clear hK K
        (try dsimp only [kh]);(try simp only [zA,zB,zC])
        refine rdZ 5 rfl (fun K hK=>?_);rw [if_pos (by rfl)];have hown2:v.ownsRow W.heap.size 75 11 rv rs.length (rs.flatMap idL):=hb.hold.rl;have hWs:=hb.but.size;refine Kv _ _ _ _ rfl W.heap.size 75 j5 (.agg #[I 0,I 0,I 0,I 0,I 0,I 0,I 0,I 0,I 0,I 0,I 0]) 11 88 Tryz.underlying30 hj5 hy05 hy15 hy25 rfl (by decide) rv rs.length _ rfl hown2 ⟨bn,0,none⟩ 1 1 [I p0,I p1,I p2,I p3,I p4,I p5,I p6,I p7,I p8,I p9,I p10] rfl rfl ?u18c1 ?u18c2 ?u18c3 ?u18c4 hWs ?_
        case u18c1 =>
         intro j e hj;exact Row.j1 hN j e hj
        case u18c2=>intro e he;exact by simp at he;rcases he with rfl | rfl | rfl | rfl | rfl | rfl | rfl | rfl | rfl | rfl | rfl <;> rfl
        case u18c3=>unfold maxLen;omega
        case u18c4=>omega
        intro v' w5 hown' hgrow hnil';have hown3:jd idL 11 W.heap.size w5 75 v' (rs++[[I p0,I p1,I p2,I p3,I p4,I p5,I p6,I p7,I p8,I p9,I p10]]):=jd.snoc hown';have hho:=hb.hold.jbK hgrow hown3;have hq5:=hb.grown hgrow (fun m hm=>⟨hb.hold.rl.blk m hm,GenG.jv hb.hold.rl m hm⟩) (by decide) hho;obtain ⟨a',c',hv'⟩:=Jm hown3;obtain ⟨len',hlen'⟩:∃ x,(rs++[[I p0,I p1,I p2,I p3,I p4,I p5,I p6,I p7,I p8,I p9,I p10]]).length=x:=⟨_,rfl⟩;rw [hlen'] at hv';subst hv';have HQ5:=hJJ hq5;clear hown' hgrow hnil' hown2 hown3 hho hq5 hlen' hb hN;have c5:w5.cell? ⟨tb,114,none⟩=some rv:=HQ5.out.at (by rw [j44];exact JU (by simp only [ka,HPL.out,kj,kk,hcl3]));have f5:w5.frozen? ⟨tb,114,none⟩=false:=HQ5.out.fz 114;refine hK.out _ _ trivial (fun _=>?_);clear hK K
        (try dsimp only [kh]);(try simp only [zA,zB,zC])
        refine tkZ 6 79 ?_ rfl ?_ hS ?_;rotate_left
        ·intro w' hw';go_simp
         try with_reducible rfl
        (try dsimp only [kh]);(try simp only [zA,zB,zC])
        refine rdZ 7 rfl (fun K hK=>?_);go_simp
        have hput:=HQ5.out.set 114 (.slice a' len' c');rw [j44,j16 (by simp only [ka,HPL.out,kj,kk,hcl3]),<-j44] at hput;clear c5 f5 HQ5;generalize ki w5 _ _=w6 at hput |-;have HP:=hJJ hput;clear hput;refine hK.out _ _ trivial (fun _=>?_);clear hK K
        (try dsimp only [kh]);(try simp only [zA,zB,zC])
        refine Kt (by kernel_rfl) ?_ _;go_wp2_with fail
        go_roundw;case rel=>exact ⟨q5+1,.slice a' len' c',rs++[[I p0,I p1,I p2,I p3,I p4,I p5,I p6,I p7,I p8,I p9,I p10]],t9,by omega,by go_num,hJJ (JX HE5.out HRUN.out),by rw [ka,hdl5];rfl,HP.out⟩
        case measure=>simp [intOf];omega
       go_simp
       refine (jfn t7 v hb.ds).mono ?_;rintro e v2 ⟨⟨p0,p1,p2,p3,p4,p5,p6,p7,p8,p9,p10⟩,t9,hrun,rfl,hd2,hb2⟩;simp only [Rl.cells] at hrun |-;replace hb:=hb.step hb2 hd2;have HRUN:=hJJ hrun;clear hrun hd2 hb2;rename World=>v
       go_simp
       refine hK.out _ _ trivial (fun _=>?_);clear hK K
       (try dsimp only [kh]);(try simp only [zA,zB,zC])
       refine j1d 1 4 rfl rfl (fun K hK=>?_) (fun K hK=>?_)
       ·have c4:v.cell? ⟨tb,114,none⟩=some rv:=hb.at (by rw [j44];exact JU (by simp only [ka,HPL.out,kj,kk,hcl3]));go_simp
        refine hK.out _ _ trivial (fun _=>?_);clear hK K
        (try dsimp only [kh]);(try simp only [zA,zB,zC])
        clear c4;refine rdZ 4 rfl (fun K hK=>?_);go_simp
        have hbw:Below v.heap.size v (v.alloc (.cells #[I p0,I p1,I p2,I p3,I p4,I p5,I p6,I p7,I p8,I p9,I p10] 75)):=(km _ _).alloc (ko _) _;have hN:=Kr v (.cells #[I p0,I p1,I p2,I p3,I p4,I p5,I p6,I p7,I p8,I p9,I p10] 75);replace hb:=hb.mem hbw;clear hbw;generalize hbn:v.heap.size=bn at hN |-;clear hbn;generalize kq v (.cells #[I p0,I p1,I p2,I p3,I p4,I p5,I p6,I p7,I p8,I p9,I p10] 75)=v at hb hN |-;refine hK.out _ _ trivial (fun _=>?_);clear hK K
        (try dsimp only [kh]);(try simp only [zA,zB,zC])
        refine rdZ 5 rfl (fun K hK=>?_);rw [if_pos (by rfl)];have hown2:v.ownsRow W.heap.size 75 11 rv rs.length (rs.flatMap idL):=hb.hold.rl;have hWs:=hb.but.size;refine Kv _ _ _ _ rfl W.heap.size 75 j5 (.agg #[I 0,I 0,I 0,I 0,I 0,I 0,I 0,I 0,I 0,I 0,I 0]) 11 88 Tryz.underlying30 hj5 hy05 hy15 hy25 rfl (by decide) rv rs.length _ rfl hown2 ⟨bn,0,none⟩ 1 1 [I p0,I p1,I p2,I p3,I p4,I p5,I p6,I p7,I p8,I p9,I p10] rfl rfl ?u23c1 ?u23c2 ?u23c3 ?u23c4 hWs ?_
        case u23c1 =>
         intro j e hj;exact Row.j1 hN j e hj
        case u23c2=>intro e he;exact by simp at he;rcases he with rfl | rfl | rfl | rfl | rfl | rfl | rfl | rfl | rfl | rfl | rfl <;> rfl
        case u23c3=>unfold maxLen;omega
        case u23c4=>omega
        intro v' w5 hown' hgrow hnil';have hown3:jd idL 11 W.heap.size w5 75 v' (rs++[[I p0,I p1,I p2,I p3,I p4,I p5,I p6,I p7,I p8,I p9,I p10]]):=jd.snoc hown';have hho:=hb.hold.jbK hgrow hown3;have hq5:=hb.grown hgrow (fun m hm=>⟨hb.hold.rl.blk m hm,GenG.jv hb.hold.rl m hm⟩) (by decide) hho;obtain ⟨a',c',hv'⟩:=Jm hown3;obtain ⟨len',hlen'⟩:∃ x,(rs++[[I p0,I p1,I p2,I p3,I p4,I p5,I p6,I p7,I p8,I p9,I p10]]).length=x:=⟨_,rfl⟩;rw [hlen'] at hv';subst hv';have HQ5:=hJJ hq5;clear hown' hgrow hnil' hown2 hown3 hho hq5 hlen' hb hN;have c5:w5.cell? ⟨tb,114,none⟩=some rv:=HQ5.out.at (by rw [j44];exact JU (by simp only [ka,HPL.out,kj,kk,hcl3]));have f5:w5.frozen? ⟨tb,114,none⟩=false:=HQ5.out.fz 114;refine hK.out _ _ trivial (fun _=>?_);clear hK K
        (try dsimp only [kh]);(try simp only [zA,zB,zC])
        refine tkZ 6 79 ?_ rfl ?_ hS ?_;rotate_left
        ·intro w' hw';go_simp
         try with_reducible rfl
        (try dsimp only [kh]);(try simp only [zA,zB,zC])
        refine rdZ 7 rfl (fun K hK=>?_);go_simp
        have hput:=HQ5.out.set 114 (.slice a' len' c');rw [j44,j16 (by simp only [ka,HPL.out,kj,kk,hcl3]),<-j44] at hput;clear c5 f5 HQ5;generalize ki w5 _ _=w6 at hput |-;have HP:=hJJ hput;clear hput;refine hK.out _ _ trivial (fun _=>?_);clear hK K
        (try dsimp only [kh]);(try simp only [zA,zB,zC])
        refine Kt (by kernel_rfl) ?_ _;go_wp2_with fail
        go_roundw;case rel=>exact ⟨q5+1,.slice a' len' c',rs++[[I p0,I p1,I p2,I p3,I p4,I p5,I p6,I p7,I p8,I p9,I p10]],t9,by omega,by go_num,hJJ (JX HE5.out HRUN.out),by rw [ka,hdl5];rfl,HP.out⟩
        case measure=>simp [intOf];omega
       go_simp
       have hbw:Below v.heap.size v (v.alloc (.cells #[I p0,I p1,I p2,I p3,I p4,I p5,I p6,I p7,I p8,I p9,I p10] 75)):=(km _ _).alloc (ko _) _;have hN:=Kr v (.cells #[I p0,I p1,I p2,I p3,I p4,I p5,I p6,I p7,I p8,I p9,I p10] 75);replace hb:=hb.mem hbw;clear hbw;generalize hbn:v.heap.size=bn at hN |-;clear hbn;generalize kq v (.cells #[I p0,I p1,I p2,I p3,I p4,I p5,I p6,I p7,I p8,I p9,I p10] 75)=v at hb hN |-;refine hK.out _ _ trivial (fun _=>?_);clear hK K
       (try dsimp only [kh]);(try simp only [zA,zB,zC])
       refine rdZ 1 rfl (fun K hK=>?_);have c4:v.cell? ⟨tb,114,none⟩=some rv:=hb.at (by rw [j44];exact JU (by simp only [ka,HPL.out,kj,kk,hcl3]));go_simp
       refine hK.out _ _ trivial (fun _=>?_);clear hK K
       (try dsimp only [kh]);(try simp only [zA,zB,zC])
       clear c4;refine rdZ 5 rfl (fun K hK=>?_);rw [if_pos (by rfl)];have hown2:v.ownsRow W.heap.size 75 11 rv rs.length (rs.flatMap idL):=hb.hold.rl;have hWs:=hb.but.size;refine Kv _ _ _ _ rfl W.heap.size 75 j5 (.agg #[I 0,I 0,I 0,I 0,I 0,I 0,I 0,I 0,I 0,I 0,I 0]) 11 88 Tryz.underlying30 hj5 hy05 hy15 hy25 rfl (by decide) rv rs.length _ rfl hown2 ⟨bn,0,none⟩ 1 1 [I p0,I p1,I p2,I p3,I p4,I p5,I p6,I p7,I p8,I p9,I p10] rfl rfl ?u27c1 ?u27c2 ?u27c3 ?u27c4 hWs ?_
       case u27c1 =>
        intro j e hj;exact Row.j1 hN j e hj
       case u27c2=>intro e he;exact by simp at he;rcases he with rfl | rfl | rfl | rfl | rfl | rfl | rfl | rfl | rfl | rfl | rfl <;> rfl
       case u27c3=>unfold maxLen;omega
       case u27c4=>omega
       intro v' w5 hown' hgrow hnil';have hown3:jd idL 11 W.heap.size w5 75 v' (rs++[[I p0,I p1,I p2,I p3,I p4,I p5,I p6,I p7,I p8,I p9,I p10]]):=jd.snoc hown';have hho:=hb.hold.jbK hgrow hown3;have hq5:=hb.grown hgrow (fun m hm=>⟨hb.hold.rl.blk m hm,GenG.jv hb.hold.rl m hm⟩) (by decide) hho;obtain ⟨a',c',hv'⟩:=Jm hown3;obtain ⟨len',hlen'⟩:∃ x,(rs++[[I p0,I p1,I p2,I p3,I p4,I p5,I p6,I p7,I p8,I p9,I p10]]).length=x:=⟨_,rfl⟩;rw [hlen'] at hv';subst hv';have HQ5:=hJJ hq5;clear hown' hgrow hnil' hown2 hown3 hho hq5 hlen' hb hN;have c5:w5.cell? ⟨tb,114,none⟩=some rv:=HQ5.out.at (by rw [j44];exact JU (by simp only [ka,HPL.out,kj,kk,hcl3]));have f5:w5.frozen? ⟨tb,114,none⟩=false:=HQ5.out.fz 114;refine hK.out _ _ trivial (fun _=>?_);clear hK K
       (try dsimp only [kh]);(try simp only [zA,zB,zC])
       refine tkZ 6 79 ?_ rfl ?_ hS ?_;rotate_left
       ·intro w' hw';go_simp
        try with_reducible rfl
       (try dsimp only [kh]);(try simp only [zA,zB,zC])
       refine rdZ 7 rfl (fun K hK=>?_);go_simp
       have hput:=HQ5.out.set 114 (.slice a' len' c');rw [j44,j16 (by simp only [ka,HPL.out,kj,kk,hcl3]),<-j44] at hput;clear c5 f5 HQ5;generalize ki w5 _ _=w6 at hput |-;have HP:=hJJ hput;clear hput;refine hK.out _ _ trivial (fun _=>?_);clear hK K
       (try dsimp only [kh]);(try simp only [zA,zB,zC])
       refine Kt (by kernel_rfl) ?_ _;go_wp2_with fail
       go_roundw;case rel=>exact ⟨q5+1,.slice a' len' c',rs++[[I p0,I p1,I p2,I p3,I p4,I p5,I p6,I p7,I p8,I p9,I p10]],t9,by omega,by go_num,hJJ (JX HE5.out HRUN.out),by rw [ka,hdl5];rfl,HP.out⟩
       case measure=>simp [intOf];omega
      obtain rfl:q5=n5:=by omega
      have HLN5:Hid (jr (DP bs) 4 stR zRl t5=.ok (rs,t7)):=hJJ (By.j4S HNUM5.out HE5.out);clear HE5 HNUM5;have hc:=j09 t7 1 4 wr HD.out.ds;have hnum:(DP bs).num t7 1 4 0=.ok ((Nm.num bs t7 (lim 1 7) 0 4).1,(Nm.num bs t7 (lim 1 7) 0 4).2):=rfl;obtain ⟨n6,hn,hnm6⟩:=j5a bs t7 (lim 1 7) (high:=4) (by decide);rw [hn] at hc hnum;generalize (Nm.num bs t7 (lim 1 7) 0 4).2=t8 at hc hnum;have HNUM6:=hJJ hnum;clear hnum hn;go_wp2_with fail
      refine hc.mono ?_;rintro e V1 ⟨rfl,hs1,hb1⟩;have HQ1:=hJJ (HD.out.step hb1 hs1);clear hs1 hb1 hc HD;obtain ⟨j6,hj6,hy06,hy16,hy26⟩:=KA jeJ;go_wp2_with fail
      go_loopw [12,13] (fun i vx wr=>∃ (q6:Nat) (bv:Value) (rb:List (List Value)) (t9:St),q6<=n6/\i=.int .i64 q6/\Hid (jf (DP bs) stB (kc q6 zBs) t8=.ok (rb,t9))/\rb.length=q6/\Dq B g ad cap bs W tb gz Z (bx PHL gv CF dv rv bv (kc 5 (I 0)) z8 (kc 2 (I 0))) ⟨gv,zs,dv,ds,rv,rs,bv,rb⟩ t9 wr) (fun i _ _=>n6 - (intOf i).toNat)
      case atStart=>exact ⟨0,nl,[],t8,kI _,rfl,hJJ rfl,rfl,HQ1.out⟩
      case round =>
       obtain ⟨q6,bv,rb,t9,hq6,rfl,HE6,hdl6,hdq⟩:=hrel;have HD:=hJJ hdq;clear hdq HQ1;by_cases hlt6:q6 < n6
       ·go_upto_region 32 with fail
        have hbw:Below wr.heap.size wr (wr.alloc (.cells #[I 0,I 0] 77)):=(km _ _).alloc (ko _) _;have hN:=Kr wr (.cells #[I 0,I 0] 77);have hb:=HD.out.mem hbw;have hne:bv.ownBlock ≠ some wr.heap.size:=fun e=>by have:=GenG.j5W HD.out.hold.bu _ e;omega
        have hWn:W.heap.size<=wr.heap.size:=HD.out.but.size;generalize kq wr (.cells #[I 0,I 0] 77)=V at hb hN |-;generalize wr.heap.size=nb at hN hne hWn |-;have HB:=hJJ hb;have HNB:=hJJ hN;clear hbw hN hb HD;have hgn:g < nb:=kv hg hWn;have hc:=j09 t9 1 255 V HB.out.ds;have hr1:Sp.run (DP bs) zBs t9 (.num 1 255 0)=.ok ([I (Nm.num bs t9 (lim 1 7) 0 255).1,I 0],(Nm.num bs t9 (lim 1 7) 0 255).2):=rfl;generalize (Nm.num bs t9 (lim 1 7) 0 255).1=y0 at hc hr1;generalize (Nm.num bs t9 (lim 1 7) 0 255).2=ta at hc hr1;have HR1:=hJJ hr1;clear hr1;go_wp2_with fail
        refine hc.mono ?_;rintro e V2 ⟨rfl,hd2,hb2⟩;have hN2:=(hb2.block nb (kl.1 HNB.out).1 (by omega)).trans HNB.out;have HQ2:=hJJ (HB.out.step hb2 hd2);clear hc hd2 hb2 HB HNB;have c5:V2.cell? ⟨nb,0,none⟩=some (I 0):=by rw [Kp _ _ _ _ _ _ hN2];rfl
        have f5:V2.frozen? ⟨nb,0,none⟩=false:=Kz _ _ _ _ _ hN2;have hput:=HQ2.out.bus (i:=0) (v:=I y0) hWn hne hN2;have hN3:(V2.setCell ⟨nb,0,none⟩ (I y0)).heap[nb]?=some (.cells #[I y0,I 0] 77 (0,0)):=by rw [Ky V2 nb 0 #[I 0,I 0] 77 (0,0) (I y0) hN2];exact Kq _ _ _ _ _ _ hN2
        go_upto_region 33 with fail
        clear c5 f5 hN2 HQ2;generalize ki V2 _ _=V3 at hput hN3 |-;have HB3:=hJJ hput;have HNB3:=hJJ hN3;clear hput hN3;have hc:=Jh ta V3 HB3.out.ds;have hr2:Sp.run (DP bs) [I y0,I 0] ta (.num 2 9999 1)=.ok ([I y0,I (Nm.num bs ta (lim 2 7) 0 9999).1],(Nm.num bs ta (lim 2 7) 0 9999).2):=rfl;generalize (Nm.num bs ta (lim 2 7) 0 9999).1=y1 at hc hr2;generalize (Nm.num bs ta (lim 2 7) 0 9999).2=tc at hc hr2;have HR2:=hJJ hr2;clear hr2;go_wp2_with fail
        refine hc.mono ?_;rintro e V4 ⟨rfl,hd2,hb2⟩;have hN2:=(hb2.block nb (kl.1 HNB3.out).1 (by omega)).trans HNB3.out;have HQ4:=hJJ (HB3.out.step hb2 hd2);clear hc hd2 hb2 HB3 HNB3;have c5:V4.cell? ⟨nb,1,none⟩=some (I 0):=by rw [Kp _ _ _ _ _ _ hN2];rfl
        have f5:V4.frozen? ⟨nb,1,none⟩=false:=Kz _ _ _ _ _ hN2;have hput:=HQ4.out.bus (i:=1) (v:=I y1) hWn hne hN2;have hN3:(V4.setCell ⟨nb,1,none⟩ (I y1)).heap[nb]?=some (.cells #[I y0,I y1] 77 (0,0)):=by rw [Ky V4 nb 1 #[I y0,I 0] 77 (0,0) (I y1) hN2];exact Kq _ _ _ _ _ _ hN2
        go_upto_region 34 with fail
        clear c5 f5 hN2 HQ4;generalize ki V4 _ _=V5 at hput hN3 |-;have HB5:=hJJ hput;have HNB5:=hJJ hN3;clear hput hN3;have HRUN:Hid (runs (DP bs) stB zBs t9=.ok ([I y0,I y1],tc)):=hJJ (je (je (a:=[]) rfl HR1.out) HR2.out);clear HR1 HR2;have c4:V5.cell? ⟨tb,115,none⟩=some bv:=HB5.out.at (by rw [jdg];exact JU (by simp only [ka,HPL.out,kj,kk,hcl3]));have hown2:V5.ownsRow W.heap.size 77 2 bv rb.length (rb.flatMap idL):=HB5.out.hold.bu;have hWs:=HB5.out.but.size;have LB:Hid (jl V5 ⟨nb,0,none⟩ [I y0,I y1]):=hJJ (by have:=Row.j1 HNB5.out;simpa using this);go_wp2_with (first | (refine Row.j7 77 _ rfl (by first | rfl | (go_simp;done) | fail) ⟨nb,0,none⟩ rfl [I y0,I y1] _ LB.out Tryz.underlying77 rfl jdh ?_) | (at_builtin;refine Kx _ rfl _ _ 31 rfl W.heap.size 77 j6 (.agg #[I 0,I 0]) 2 16 Tryz.underlying31 hj6 hy06 hy16 hy26 rfl (by decide) bv rb.length _ rfl (kK hown2 _) ⟨V5.heap.size,0,none⟩ 1 1 [I y0,I y1] rfl rfl ?b1 ?b2 ?b3 ?b4 ?b5 ?_))
        case b1 =>
         intro j u hj
         match j,hj with
         | 0,hj=>simp at hj;subst hj;simp [K0]
         | 1,hj=>simp at hj;subst hj;simp [K0]
        case b2=>intro u hu;simp at hu;rcases hu with rfl | rfl <;> rfl
        case b3=>unfold maxLen;omega
        case b4=>omega
        case b5=>simp;omega
        intro v' w5 hown' hgrow hnil';have hbel:Below V5.heap.size V5 (V5.alloc (.cells #[I y0,I y1] 77)):=(km _ _).alloc (ko _) _;have hqa:=HB5.out.mem hbel
        have hown3:jd idL 2 W.heap.size w5 77 v' (rb++[[I y0,I y1]]):=by
         refine jd.snoc ?_;have hfl:rb.flatten=rb.flatMap idL:=by rw [Kb];simp [idL]
         rw [hgz,hdl6,<-hfl];exact hown'
        have hho:=hqa.hold.jfm hgrow hown3;have hq5:=hqa.grown hgrow (fun m hm=>⟨hqa.hold.bu.blk m hm,GenG.jv hqa.hold.bu m hm⟩) (by decide) hho;obtain ⟨a',c',hv'⟩:=Jm hown3;obtain ⟨len',hlen'⟩:∃ x,(rb++[[I y0,I y1]]).length=x:=⟨_,rfl⟩;rw [hlen'] at hv';subst hv';have HQ5:=hJJ hq5;clear hown' hgrow hnil' hbel hqa hown2 hown3 hho hq5 hlen' c4 HB5;have c5:w5.cell? ⟨tb,115,none⟩=some bv:=HQ5.out.at (by rw [jdg];exact JU (by simp only [ka,HPL.out,kj,kk,hcl3]));have f5:w5.frozen? ⟨tb,115,none⟩=false:=HQ5.out.fz 115;go_upto_region 30 with fail
        have hput:=HQ5.out.set 115 (.slice a' len' c');rw [jdg,j16 (by simp only [ka,HPL.out,kj,kk,hcl3]),<-jdg] at hput;clear c5 f5 HQ5;generalize ki w5 _ _=w6 at hput |-;have HP:=hJJ hput;clear hput;go_wp2_with fail
        go_roundw;case rel=>exact ⟨q6+1,.slice a' len' c',rb++[[I y0,I y1]],tc,by omega,by go_num,hJJ (JX HE6.out HRUN.out),by rw [ka,hdl6];rfl,HP.out⟩
        case measure=>simp [intOf];omega
       obtain rfl:q6=n6:=by omega
       have HLN6:Hid (jr (DP bs) 4 stB zBs t7=.ok (rb,t9)):=hJJ (By.j4S HNUM6.out HE6.out);clear HE6 HNUM6;have RN0:Hid (runs (DP bs) [] (kc 5 (I 0)) t9=.ok ([I 0,I 0,I 0,I 0,I 0],t9)):=hJJ rfl;have HT:Hid (Dq B g ad cap bs W tb gz Z (bx PHL gv CF dv rv bv [I 0,I 0,I 0,I 0,I 0] z8 (kc 2 (I 0))) ⟨gv,zs,dv,ds,rv,rs,bv,rb⟩ t9 wr):=HD;clear HD;rename World=>VV
       have HD:=HT;clear HT;have hc:=Jh t9 _ HD.out.ds;have hr1:Sp.run (DP bs) [I 0,I 0,I 0,I 0,I 0] t9 (.num 2 9999 0)=.ok ([I ((Nm.num bs t9 (lim 2 7) 0 9999).1),I 0,I 0,I 0,I 0],(Nm.num bs t9 (lim 2 7) 0 9999).2):=rfl;generalize (Nm.num bs t9 (lim 2 7) 0 9999).1=x0 at hc hr1;generalize (Nm.num bs t9 (lim 2 7) 0 9999).2=xt0 at hc hr1;have RN1:Hid (runs (DP bs) ([]++[.num 2 9999 0]) (kc 5 (I 0)) t9=.ok ([I x0,I 0,I 0,I 0,I 0],xt0)):=hJJ (je RN0.out hr1);clear hr1 RN0;have RN0:=RN1;clear RN1;go_wp2_with fail
       refine hc.mono ?_;rintro e V2 ⟨rfl,hd2,hb2⟩;have HQ2:=hJJ (HD.out.step hb2 hd2);clear hc hd2 hb2 HD;have c5:V2.cell? ⟨tb,116,none⟩=some (I 0):=HQ2.out.at (by rw [j2D];exact (j1C (k:=116) (q:=0) (by simp only [ka,HPL.out,kj,kk,hcl3]) (by simp)).trans rfl);have f5:V2.frozen? ⟨tb,116,none⟩=false:=HQ2.out.fz _;go_upto_region 36 with fail
       have hput:=HQ2.out.set (116+0) (I x0);rw [j2D,j0H (by simp only [ka,HPL.out,kj,kk,hcl3]) (by simp),<-j2D] at hput;simp only [kf,ke] at hput;clear c5 f5 HQ2;generalize ki V2 _ _=V3 at hput |-;clear V2;rename World=>VV
       have HD:=hJJ hput;clear hput;have hc:=Jh xt0 _ HD.out.ds;have hr1:Sp.run (DP bs) [I x0,I 0,I 0,I 0,I 0] xt0 (.num 2 9999 1)=.ok ([I x0,I ((Nm.num bs xt0 (lim 2 7) 0 9999).1),I 0,I 0,I 0],(Nm.num bs xt0 (lim 2 7) 0 9999).2):=rfl;generalize (Nm.num bs xt0 (lim 2 7) 0 9999).1=x1 at hc hr1;generalize (Nm.num bs xt0 (lim 2 7) 0 9999).2=xt1 at hc hr1;have RN1:Hid (runs (DP bs) (([]++[.num 2 9999 0])++[.num 2 9999 1]) (kc 5 (I 0)) t9=.ok ([I x0,I x1,I 0,I 0,I 0],xt1)):=hJJ (je RN0.out hr1);clear hr1 RN0;have RN0:=RN1;clear RN1;go_wp2_with fail
       refine hc.mono ?_;rintro e V2 ⟨rfl,hd2,hb2⟩;have HQ2:=hJJ (HD.out.step hb2 hd2);clear hc hd2 hb2 HD;have c5:V2.cell? ⟨tb,117,none⟩=some (I 0):=HQ2.out.at (by rw [j2D];exact (j1C (k:=116) (q:=1) (by simp only [ka,HPL.out,kj,kk,hcl3]) (by simp)).trans rfl);have f5:V2.frozen? ⟨tb,117,none⟩=false:=HQ2.out.fz _;go_upto_region 37 with fail
       have hput:=HQ2.out.set (116+1) (I x1);rw [j2D,j0H (by simp only [ka,HPL.out,kj,kk,hcl3]) (by simp),<-j2D] at hput;simp only [kf,ke] at hput;clear c5 f5 HQ2;generalize ki V2 _ _=V3 at hput |-;clear V2;rename World=>VV
       have HD:=hJJ hput;clear hput;have hc:=Jh xt1 _ HD.out.ds;have hr1:Sp.run (DP bs) [I x0,I x1,I 0,I 0,I 0] xt1 (.num 2 9999 2)=.ok ([I x0,I x1,I ((Nm.num bs xt1 (lim 2 7) 0 9999).1),I 0,I 0],(Nm.num bs xt1 (lim 2 7) 0 9999).2):=rfl;generalize (Nm.num bs xt1 (lim 2 7) 0 9999).1=x2 at hc hr1;generalize (Nm.num bs xt1 (lim 2 7) 0 9999).2=xt2 at hc hr1;have RN1:Hid (runs (DP bs) ((([]++[.num 2 9999 0])++[.num 2 9999 1])++[.num 2 9999 2]) (kc 5 (I 0)) t9=.ok ([I x0,I x1,I x2,I 0,I 0],xt2)):=hJJ (je RN0.out hr1);clear hr1 RN0;have RN0:=RN1;clear RN1;go_wp2_with fail
       refine hc.mono ?_;rintro e V2 ⟨rfl,hd2,hb2⟩;have HQ2:=hJJ (HD.out.step hb2 hd2);clear hc hd2 hb2 HD;have c5:V2.cell? ⟨tb,118,none⟩=some (I 0):=HQ2.out.at (by rw [j2D];exact (j1C (k:=116) (q:=2) (by simp only [ka,HPL.out,kj,kk,hcl3]) (by simp)).trans rfl);have f5:V2.frozen? ⟨tb,118,none⟩=false:=HQ2.out.fz _;go_upto_region 38 with fail
       have hput:=HQ2.out.set (116+2) (I x2);rw [j2D,j0H (by simp only [ka,HPL.out,kj,kk,hcl3]) (by simp),<-j2D] at hput;simp only [kf,ke] at hput;clear c5 f5 HQ2;generalize ki V2 _ _=V3 at hput |-;clear V2;rename World=>VV
       have HD:=hJJ hput;clear hput;have hc:=Jh xt2 _ HD.out.ds;have hr1:Sp.run (DP bs) [I x0,I x1,I x2,I 0,I 0] xt2 (.num 2 9999 3)=.ok ([I x0,I x1,I x2,I ((Nm.num bs xt2 (lim 2 7) 0 9999).1),I 0],(Nm.num bs xt2 (lim 2 7) 0 9999).2):=rfl;generalize (Nm.num bs xt2 (lim 2 7) 0 9999).1=x3 at hc hr1;generalize (Nm.num bs xt2 (lim 2 7) 0 9999).2=xt3 at hc hr1;have RN1:Hid (runs (DP bs) (((([]++[.num 2 9999 0])++[.num 2 9999 1])++[.num 2 9999 2])++[.num 2 9999 3]) (kc 5 (I 0)) t9=.ok ([I x0,I x1,I x2,I x3,I 0],xt3)):=hJJ (je RN0.out hr1);clear hr1 RN0;have RN0:=RN1;clear RN1;go_wp2_with fail
       refine hc.mono ?_;rintro e V2 ⟨rfl,hd2,hb2⟩;have HQ2:=hJJ (HD.out.step hb2 hd2);clear hc hd2 hb2 HD;have c5:V2.cell? ⟨tb,119,none⟩=some (I 0):=HQ2.out.at (by rw [j2D];exact (j1C (k:=116) (q:=3) (by simp only [ka,HPL.out,kj,kk,hcl3]) (by simp)).trans rfl);have f5:V2.frozen? ⟨tb,119,none⟩=false:=HQ2.out.fz _;go_upto_region 39 with fail
       have hput:=HQ2.out.set (116+3) (I x3);rw [j2D,j0H (by simp only [ka,HPL.out,kj,kk,hcl3]) (by simp),<-j2D] at hput;simp only [kf,ke] at hput;clear c5 f5 HQ2;generalize ki V2 _ _=V3 at hput |-;clear V2;rename World=>VV
       have HD:=hJJ hput;clear hput;have hc:=Jh xt3 _ HD.out.ds;have hr1:Sp.run (DP bs) [I x0,I x1,I x2,I x3,I 0] xt3 (.num 2 9999 4)=.ok ([I x0,I x1,I x2,I x3,I ((Nm.num bs xt3 (lim 2 7) 0 9999).1)],(Nm.num bs xt3 (lim 2 7) 0 9999).2):=rfl;generalize (Nm.num bs xt3 (lim 2 7) 0 9999).1=x4 at hc hr1;generalize (Nm.num bs xt3 (lim 2 7) 0 9999).2=xt4 at hc hr1;have RN1:Hid (runs (DP bs) ((((([]++[.num 2 9999 0])++[.num 2 9999 1])++[.num 2 9999 2])++[.num 2 9999 3])++[.num 2 9999 4]) (kc 5 (I 0)) t9=.ok ([I x0,I x1,I x2,I x3,I x4],xt4)):=hJJ (je RN0.out hr1);clear hr1 RN0;have RN0:=RN1;clear RN1;go_wp2_with fail
       refine hc.mono ?_;rintro e V2 ⟨rfl,hd2,hb2⟩;have HQ2:=hJJ (HD.out.step hb2 hd2);clear hc hd2 hb2 HD;have c5:V2.cell? ⟨tb,120,none⟩=some (I 0):=HQ2.out.at (by rw [j2D];exact (j1C (k:=116) (q:=4) (by simp only [ka,HPL.out,kj,kk,hcl3]) (by simp)).trans rfl);have f5:V2.frozen? ⟨tb,120,none⟩=false:=HQ2.out.fz _;go_upto_region 40 with fail
       have hput:=HQ2.out.set (116+4) (I x4);rw [j2D,j0H (by simp only [ka,HPL.out,kj,kk,hcl3]) (by simp),<-j2D] at hput;simp only [kf,ke] at hput;clear c5 f5 HQ2;generalize ki V2 _ _=V3 at hput |-;clear V2;rename World=>VV
       have HD:=hJJ hput;clear hput;have RT:=RN0;clear RN0;rename World=>wr
       go_wp2_with fail
       go_loopw [14] (fun i wr=>∃ (q8:Nat) (FL:List Value) (tf:St),q8<=8/\i=.int .i64 q8/\Hid (runs (DP bs) (st8 2 q8) z8 xt4=.ok (FL,tf))/\FL.length=8/\FL.map kind=kc 8 0/\Dq B g ad cap bs W tb gz Z (bx PHL gv CF dv rv bv [I x0,I x1,I x2,I x3,I x4] FL (kc 2 (I 0))) ⟨gv,zs,dv,ds,rv,rs,bv,rb⟩ tf wr) (fun i _=>8 - (intOf i).toNat)
       case atStart=>exact ⟨0,z8,xt4,kI _,rfl,hJJ rfl,rfl,rfl,HD.out⟩
       case round =>
        obtain ⟨q8,FL,tf,hq8,rfl,HR8,hcl8,hck8,hdq⟩:=hrel;have HD:=hJJ hdq;clear hdq;by_cases hlt8:q8 < 8
        ·have hc:=j09 tf 1 2 wr HD.out.ds;obtain ⟨x,hx⟩:∃ x,FL[q8]?=some (I x):=j0i hck8 (by rw [kQ,if_pos hlt8]);have hrun:Sp.run (DP bs) FL tf (.num 1 2 q8)=.ok (FL.set q8 (I (Nm.num bs tf (lim 1 7) 0 2).1),(Nm.num bs tf (lim 1 7) 0 2).2):=by simp only [Sp.run,hx];rfl
         generalize (Nm.num bs tf (lim 1 7) 0 2).1=y at hc hrun;generalize (Nm.num bs tf (lim 1 7) 0 2).2=t9 at hc hrun;have HRUN:=hJJ hrun;have HX:=hJJ hx;clear hrun hx;go_wp2_with fail
         refine hc.mono ?_;rintro e V2 ⟨rfl,hd2,hb2⟩;have HQ2:=hJJ (HD.out.step hb2 hd2);clear hc hd2 hb2;have c5:V2.cell? ⟨tb,121+q8,none⟩=some (I x):=HQ2.out.at (by rw [jeK,j1C (by simp only [ka,HPL.out,kj,kk,hcl3]) (by omega)];exact HX.out);have f5:V2.frozen? ⟨tb,121+q8,none⟩=false:=HQ2.out.fz _;go_upto_region 42 with fail
         have hput:=HQ2.out.set (121+q8) (I y);rw [jeK,j0H (by simp only [ka,HPL.out,kj,kk,hcl3]) (by omega),<-jeK] at hput;clear c5 f5 HQ2;generalize ki V2 _ _=V3 at hput |-;have HP:=hJJ hput;clear hput;go_wp2_with fail
         go_roundw;case rel=>exact ⟨q8+1,FL.set q8 (I y),t9,by omega,by go_num,hJJ (j32 HR8.out HRUN.out),by rw [Kh,hcl8],by rw [map_set (u:=I y) HX.out rfl,hck8],HP.out⟩
         case measure=>simp [intOf];omega
        obtain rfl:q8=8:=by omega
        have RN0:Hid (runs (DP bs) [] (kc 2 (I 0)) tf=.ok ([I 0,I 0],tf)):=hJJ rfl;have HT:Hid (Dq B g ad cap bs W tb gz Z (bx PHL gv CF dv rv bv [I x0,I x1,I x2,I x3,I x4] FL [I 0,I 0]) ⟨gv,zs,dv,ds,rv,rs,bv,rb⟩ tf wr):=HD;clear HD;rename World=>VV
        have HD:=HT;clear HT;have hc:=j09 tf 4 2147483647 _ HD.out.ds;have hr1:Sp.run (DP bs) [I 0,I 0] tf (.num 4 2147483647 0)=.ok ([I ((Nm.num bs tf (lim 4 7) 0 2147483647).1),I 0],(Nm.num bs tf (lim 4 7) 0 2147483647).2):=rfl;generalize (Nm.num bs tf (lim 4 7) 0 2147483647).1=k0 at hc hr1;generalize (Nm.num bs tf (lim 4 7) 0 2147483647).2=kt0 at hc hr1;have RN1:Hid (runs (DP bs) ([]++[.num 4 2147483647 0]) (kc 2 (I 0)) tf=.ok ([I k0,I 0],kt0)):=hJJ (je RN0.out hr1);clear hr1 RN0;have RN0:=RN1;clear RN1;go_wp2_with fail
        refine hc.mono ?_;rintro e V2 ⟨rfl,hd2,hb2⟩;have HQ2:=hJJ (HD.out.step hb2 hd2);clear hc hd2 hb2 HD;have c5:V2.cell? ⟨tb,129,none⟩=some (I 0):=HQ2.out.at (by rw [ja6];exact (j1C (k:=129) (q:=0) (by simp only [ka,HPL.out,kj,kk,hcl3,hcl8]) (by simp)).trans rfl);have f5:V2.frozen? ⟨tb,129,none⟩=false:=HQ2.out.fz _;go_upto_region 45 with fail
        have hput:=HQ2.out.set (129+0) (I k0);rw [ja6,j0H (by simp only [ka,HPL.out,kj,kk,hcl3,hcl8]) (by simp),<-ja6] at hput;simp only [kf,ke] at hput;clear c5 f5 HQ2;generalize ki V2 _ _=V3 at hput |-;clear V2;rename World=>VV
        have HD:=hJJ hput;clear hput;have hc:=j09 kt0 4 2147483647 _ HD.out.ds;have hr1:Sp.run (DP bs) [I k0,I 0] kt0 (.num 4 2147483647 1)=.ok ([I k0,I ((Nm.num bs kt0 (lim 4 7) 0 2147483647).1)],(Nm.num bs kt0 (lim 4 7) 0 2147483647).2):=rfl;generalize (Nm.num bs kt0 (lim 4 7) 0 2147483647).1=k1 at hc hr1;generalize (Nm.num bs kt0 (lim 4 7) 0 2147483647).2=kt1 at hc hr1;have RN1:Hid (runs (DP bs) (([]++[.num 4 2147483647 0])++[.num 4 2147483647 1]) (kc 2 (I 0)) tf=.ok ([I k0,I k1],kt1)):=hJJ (je RN0.out hr1);clear hr1 RN0;have RN0:=RN1;clear RN1;go_wp2_with fail
        refine hc.mono ?_;rintro e V2 ⟨rfl,hd2,hb2⟩;have HQ2:=hJJ (HD.out.step hb2 hd2);clear hc hd2 hb2 HD;have c5:V2.cell? ⟨tb,130,none⟩=some (I 0):=HQ2.out.at (by rw [ja6];exact (j1C (k:=129) (q:=1) (by simp only [ka,HPL.out,kj,kk,hcl3,hcl8]) (by simp)).trans rfl);have f5:V2.frozen? ⟨tb,130,none⟩=false:=HQ2.out.fz _;go_upto_region 46 with fail
        have hput:=HQ2.out.set (129+1) (I k1);rw [ja6,j0H (by simp only [ka,HPL.out,kj,kk,hcl3,hcl8]) (by simp),<-ja6] at hput;simp only [kf,ke] at hput;clear c5 f5 HQ2;generalize ki V2 _ _=V3 at hput |-;clear V2;rename World=>VV
        have HD:=hJJ hput;clear hput;have HPARTS:Hid (parts (DP bs) s0=.ok ((⟨ph,gs,CF,ds,rs,rb,[I x0,I x1,I x2,I x3,I x4],FL,[I k0,I k1]⟩:Raw),kt1)):=hJJ (By.j7i HEP.out HLG.out HR3.out HLN4.out HLN5.out HLN6.out RT.out HR8.out RN0.out);have HOK:=hJJ (j4Q (jfI hb8) HPARTS.out);obtain ⟨H1,hc1,ht1⟩:=j8m HOK.out HD.out.hold hzs rfl rfl rfl;simp only at hc1;rw [HPHE.out] at hc1;obtain ⟨c,hcc⟩:∃ c,bx PHL gv CF dv rv bv [I x0,I x1,I x2,I x3,I x4] FL [I k0,I k1]=c:=⟨_,rfl⟩;have CO:=j9 ht1;rw [<-hc1,hcc] at CO;have csl:c.length=131:=by have:=CO.size;rwa [kC] at this
        have HONE:=hJJ CO.one;have HTB:=hJJ HD.out.tbl;have HRS:=hJJ HD.out.res;rw [hcc] at HTB;have IC:Hid ((Tryz.prog.info? 33).map (·.size)=some c.length):=hJJ (by rw [csl];exact May.jK);have IC2:Hid ((Tryz.prog.info? 33).map (·.size)=some c.toArray.size):=hJJ (by rw [kC];exact IC.out);have IZ:Hid (Z.size=c.toArray.size):=hJJ (by rw [EZS.out,kC,csl]);clear hc1 ht1 CO;go_wp2_with (first | (refine Row.j7 33 _ rfl (by first | rfl | (go_simp;done) | fail) ⟨tb,0,none⟩ rfl c _ (by have:=Row.j1 HTB.out;simpa using this) Tryz.underlying33 rfl IC.out ?_) | (refine Ko rfl 33 _ _ rfl gz c.toArray rfl rfl 33 _ HRS.out IC2.out IZ.out HONE.out ?_))
        have hgr:VV.grownBy (VV.setRow gz c.toArray) (some gz):=⟨rfl,rfl,rfl,by simp [kG],fun j _ hj=>Kn _ _ _ _ (fun e=>hj (by rw [e]))⟩;have hz0:=HD.out.z0;have hho:=HD.out.hold.box hgr (fun m e=>by cases e;exact ⟨_,HRS.out⟩);have hbt:=j3a HD.out.but hgr (fun m e=>by cases e;exact hz0);have hds:=HD.out.ds.grown hgr (fun m e=>by cases e;exact kD hBW hz0);have hrow:=Kq VV gz _ c.toArray _ _ HRS.out;obtain ⟨H2,hc2,ht2,hk2⟩:=jde HOK.out hho hzs rfl rfl rfl;simp only at hc2;rw [HPHE.out,hcc] at hc2;generalize kG VV gz _=VF at hho hbt hds hrow ht2 hk2 |-;have HK2:=hJJ hk2;have HRW:=hJJ hrow;have HT2:=hJJ ht2;have HBT:=hJJ hbt;have HDS:=hJJ hds;have HC2:=hJJ hc2;clear hho hbt hds hrow ht2 hk2 hgr hz0 hc2 HD HTB HRS hcc;go_wp2_with fail
        (try simp only [kx,Exit.then])
        refine Ks (v:=.agg c.toArray) ?_ rfl ⟨_,_,H2,HPARTS.out,by rw [HC2.out],HT2.out,HDS.out,HBT.out,HK2.out⟩;exact Kw rfl _ _ gz 33 _ (0,0) _ rfl HRW.out Tryz.underlying33 rfl IC2.out
end
end Dp
namespace By
open Go Go.RowKit
open Tab Po
open Rr (RP may JF JL j2q j2B)
open Put (low jE Jk j0Y lim)
open Nx (val be j11)
open Cd (J0 jP)
open CrcM (crc)
section
variable {P:PP}
theorem j2E {l:List Value} {s:P.σ} {j:Nat} {size most x:Int} (h:l[j]?=some (I x)):Sp.run P l s (.num size most j)=andThen (P.num s size most x) fun q=>.ok (l.set j (I q.1),q.2):=by
 simp only [Sp.run,h];cases P.num s size most x <;> rfl
theorem j2F {l:List Value} {s:P.σ} {j:Nat} {size most:Int} (h:∀ x,l[j]? ≠ some (I x)):Sp.run P l s (.num size most j)=.ok (l,s):=by
 simp only [Sp.run];first
 | done
 | (split
    ·rename_i x hx;exact absurd hx (h x)
    rfl)
theorem j2G {l:List Value} {s:P.σ} {j:Nat} {lv:Bool} {x:Nat} (h:l[j]?=some (.float .f64 x)):Sp.run P l s (.flt lv j)=andThen (P.flt s lv x) fun q=>.ok (l.set j (.float .f64 q.1),q.2):=by
 simp only [Sp.run,h];cases P.flt s lv x <;> rfl
theorem j2H {l:List Value} {s:P.σ} {j:Nat} {lv:Bool} (h:∀ x,l[j]? ≠ some (.float .f64 x)):Sp.run P l s (.flt lv j)=.ok (l,s):=by
 simp only [Sp.run];first
 | done
 | (split
    ·rename_i x hx;exact absurd hx (h x)
    rfl)
theorem j2I {l:List Value} {s:P.σ} {j:Nat} {x:Bool} (h:l[j]?=some (.bool x)):Sp.run P l s (.flg j)=andThen (P.flg s x) fun q=>.ok (l.set j (.bool q.1),q.2):=by
 simp only [Sp.run,h];cases P.flg s x <;> rfl
theorem j2J {l:List Value} {s:P.σ} {j:Nat}  (h:∀ x,l[j]? ≠ some (.bool x)):Sp.run P l s (.flg j)=.ok (l,s):=by
 simp only [Sp.run];first
 | done
 | (split
    ·rename_i x hx;exact absurd hx (h x)
    rfl)
theorem j6x (c:Sp) (st:List Sp) (l:List Value) (s:P.σ):runs P (c :: st) l s=andThen (Sp.run P l s c) fun q=>runs P st q.1 q.2:=by
 rw [runs];cases Sp.run P l s c <;> rfl
theorem j5b (st:List Sp) (x:List Value) (xs:List (List Value)) (s:P.σ):jf P st (x :: xs) s=andThen (runs P st x s) fun q=>andThen (jf P st xs q.2) fun r=>.ok (q.1 :: r.1,r.2):=by
 rw [jf];cases runs P st x s with
 | error f=>rfl
 | ok q =>
  rw [andThen_ok];simp only;cases jf P st xs q.2 <;> rfl
theorem j5c (most:Int) (st:List Sp) (z:List Value) (s:P.σ):jr P most st z s=andThen (P.num s 1 most 0) fun q=>jf P st (kc q.1.toNat z) q.2:=by
 unfold jr;cases P.num s 1 most 0 <;> rfl
theorem j6y (s:P.σ):JW P s=andThen (j0a P s) fun q=>andThen (j0a P q.2) fun r=>.ok ((q.1,r.1),r.2):=by
 unfold JW;cases j0a P s with
 | error f=>rfl
 | ok q =>
  rw [andThen_ok];simp only;cases j0a P q.2 <;> rfl
theorem j5d (n:Nat) (s:P.σ):jX P (n+1) s=andThen (jX P n s) fun q=>andThen (JW P q.2) fun r=>.ok (q.1++[r.1],r.2):=by
 rw [jX];cases jX P n s with
 | error f=>rfl
 | ok q =>
  rw [andThen_ok];simp only;cases JW P q.2 <;> rfl
theorem j5e (most:Int) (s:P.σ):Jt P most s=andThen (P.num s 1 most 0) fun q=>jX P q.1.toNat q.2:=by
 unfold Jt;cases P.num s 1 most 0 <;> rfl
end
section
variable {P Q:PP} {J:P.σ->Q.σ->Prop} {Bd:P.σ->Prop} {f:Flt}
def pos:Sp->Bool
 | .num _ most _=>decide (0<=most)
 | _=>true
end
section
variable {bs:List Nat} {k:Nat}
end
end By
namespace By
open Go Go.RowKit
open Tab Po
open Rr (RP may JF JL j2q j2B)
open Put (low jE Jk j0Y lim)
open Cd (J0 jP)
open CrcM (crc par jfu)
def Ne0 {α:Type} (r:Except Flt α):Prop:=∀ f,r=.error f->f.1 ≠ 0
theorem Ne0.ok {α:Type} (x:α):Ne0 (.ok x:Except Flt α):=fun f h=>by cases h
theorem Ne0.bind {α β:Type} {r:Except Flt α} {k:α->Except Flt β} (h:Ne0 r) (hk:∀ x,Ne0 (k x)):Ne0 (andThen r k):=fun f e=>by
 cases r with
 | error g=>rw [jJ] at e;cases e;exact h f rfl
 | ok x=>exact hk x f e
structure Nz (P:PP):Prop where
 num:∀ s size most x,Ne0 (P.num s size most x)
 flt:∀ s lv x,Ne0 (P.flt s lv x)
 flg:∀ s x,Ne0 (P.flg s x)
section
variable {P:PP}
theorem jeL (H:Nz P) (l:List Value) (s:P.σ) (c:Sp):Ne0 (Sp.run P l s c):=by
 cases c with
 | num size most j =>
  by_cases hx:∃ x,l[j]?=some (I x)
  ·obtain ⟨x,hx⟩:=hx;rw [j2E hx];exact (H.num s size most x).bind fun _=>Ne0.ok _
  rw [j2F (fun x h=>hx ⟨x,h⟩)];exact Ne0.ok _
 | flt lv j =>
  by_cases hx:∃ x,l[j]?=some (.float .f64 x)
  ·obtain ⟨x,hx⟩:=hx;rw [j2G hx];exact (H.flt s lv x).bind fun _=>Ne0.ok _
  rw [j2H (fun x h=>hx ⟨x,h⟩)];exact Ne0.ok _
 | flg j =>
  by_cases hx:∃ x,l[j]?=some (.bool x)
  ·obtain ⟨x,hx⟩:=hx;rw [j2I hx];exact (H.flg s x).bind fun _=>Ne0.ok _
  rw [j2J (fun x h=>hx ⟨x,h⟩)];exact Ne0.ok _
theorem j2o (H:Nz P):∀ (st:List Sp) (l:List Value) (s:P.σ),Ne0 (runs P st l s)
 | [],l,s=>Ne0.ok _
 | c :: st,l,s=>by
  rw [j6x];exact (jeL H l s c).bind fun q=>j2o H st q.1 q.2
theorem j5f (H:Nz P) (st:List Sp):∀ (xs:List (List Value)) (s:P.σ),Ne0 (jf P st xs s)
 | [],s=>Ne0.ok _
 | x :: xs,s=>by
  rw [j5b];exact (j2o H st x s).bind fun q=>(j5f H st xs q.2).bind fun r=>Ne0.ok _
theorem j3b (H:Nz P) (most:Int) (st:List Sp) (z:List Value) (s:P.σ):Ne0 (jr P most st z s):=by
 rw [j5c];exact (H.num s 1 most 0).bind fun q=>j5f H st _ q.2
theorem jeM (H:Nz P) (s:P.σ):Ne0 (JW P s):=by
 rw [j6y];exact (j3b H _ _ _ s).bind fun q=>(j3b H _ _ _ q.2).bind fun r=>Ne0.ok _
theorem j96 (H:Nz P):∀ (n:Nat) (s:P.σ),Ne0 (jX P n s)
 | 0,s=>Ne0.ok _
 | n+1,s=>by
  rw [j5d];exact (j96 H n s).bind fun q=>(jeM H q.2).bind fun r=>Ne0.ok _
theorem jbO (H:Nz P) (s:P.σ):Ne0 (Jt P 4 s):=by
 rw [j5e];exact (H.num s 1 4 0).bind fun q=>j96 H _ q.2
theorem jbP (H:Nz P) (s:P.σ):Ne0 (parts P s) :=
 (j5f H _ _ _).bind fun _=>(jbO H _).bind fun _=>(j2o H _ _ _).bind fun _=>(j3b H _ _ _ _).bind fun _=>(j3b H _ _ _ _).bind fun _=>(j3b H _ _ _ _).bind fun _=>(j2o H _ _ _).bind fun _=>(j2o H _ _ _).bind fun _=>(j2o H _ _ _).bind fun _=>Ne0.ok _
end
theorem jbQ (bs:List Nat):Nz (RP bs) where
 num:=fun s size most x f e=>by
  simp only [RP] at e;split at e
  ·cases e
  rename_i h;cases e;exact h
 flt:=fun s lv x f e=>by
  simp only [RP] at e;split at e
  ·split at e <;> cases e
   simp
  rename_i h;cases e;exact h
 flg:=fun s x f e=>by
  simp only [RP] at e;split at e
  ·cases e
  rename_i h;cases e;exact h
theorem jbR {bs:List Nat} {f:Flt} (h:JF bs=.error f):f.1 ≠ 0:=by
 unfold JF at h;by_cases hbig:2048 < bs.length
 ·rw [if_pos hbig] at h;cases h;decide
 rw [if_neg hbig] at h;refine Ne0.bind (r:=JL bs) (fun f e=>?_) (fun s1=>Ne0.bind (jbP (jbQ bs) s1) fun x=>Ne0.bind (r:=j2q bs x.2) (fun f e=>?_) fun s3=>Ne0.bind (r:=j2B bs s3) (fun f e=>?_) fun _=>Ne0.ok _) f h
 ·unfold JL at e;split at e
  ·rename_i hn;cases e;exact (jbQ bs).num _ _ _ _ _ hn
  split at e <;> cases e
  simp
 ·unfold j2q at e;split at e
  ·rename_i hn;cases e;exact (jbQ bs).num _ _ _ _ _ hn
  split at e <;> cases e
  simp
 unfold j2B at e;split at e <;> cases e
 simp
end By
namespace Dp
open Go Go.RowKit
open Tab Po
open Nm (St)
open By
open Rr (RP may JF JL j2q j2B)
open Put (lim)
open CrcM (crc)
section
variable {P Q:PP} {J:P.σ->Q.σ->Prop} {Dd:Flt->Q.σ->Prop}
def Fol (J:P.σ->Q.σ->Prop) (Dd:Flt->Q.σ->Prop) {α:Type} (s:P.σ) (t:Q.σ) (r:Except Flt (α × P.σ)) (r':Except Flt (α × Q.σ)):Prop :=
 (J s t->(∀ y s',r=.ok (y,s')->∃ t',r'=.ok (y,t')/\J s' t')/\∀ f,r=.error f->∃ y t',r'=.ok (y,t')/\Dd f t')/\(∀ f,Dd f t->∃ y t',r'=.ok (y,t')/\Dd f t')
theorem Fol.pure {α:Type} (s:P.σ) (t:Q.σ) (y:α):Fol J Dd s t (.ok (y,s)) (.ok (y,t)) :=
 ⟨fun hj=>⟨fun z s' h=>by cases h;exact ⟨t,rfl,hj⟩,fun f h=>by cases h⟩,fun f hd=>⟨y,t,rfl,hd⟩⟩
theorem Fol.bind {α β:Type} {s:P.σ} {t:Q.σ} {r:Except Flt (α × P.σ)} {r':Except Flt (α × Q.σ)} {K:α × P.σ->Except Flt (β × P.σ)} {K':α × Q.σ->Except Flt (β × Q.σ)} (h:Fol J Dd s t r r') (hK:∀ y s1 t1,Fol J Dd s1 t1 (K (y,s1)) (K' (y,t1))):Fol J Dd s t (andThen r K) (andThen r' K'):=by
 refine ⟨fun hj=>⟨fun z s' e=>?_,fun f e=>?_⟩,fun f hd=>?_⟩
 ·obtain ⟨⟨y,s1⟩,e1,e2⟩:=Po.then_ok e;obtain ⟨t1,h1,h2⟩:=(h.1 hj).1 y s1 e1;rw [h1,andThen_ok];exact ((hK y s1 t1).1 h2).1 z s' e2
 ·cases hr:r with
  | error f1 =>
   rw [hr,jJ] at e;cases e;obtain ⟨y,t',h1,h2⟩:=(h.1 hj).2 f hr;rw [h1,andThen_ok];exact (hK y s t').2 f h2
  | ok q =>
   obtain ⟨y,s1⟩:=q;rw [hr,andThen_ok] at e;obtain ⟨t1,h1,h2⟩:=(h.1 hj).1 y s1 hr;rw [h1,andThen_ok];exact ((hK y s1 t1).1 h2).2 f e
 obtain ⟨y,t',h1,h2⟩:=h.2 f hd;rw [h1,andThen_ok];exact (hK y s t').2 f h2
structure j6z (P Q:PP) (J:P.σ->Q.σ->Prop) (Dd:Flt->Q.σ->Prop):Prop where
 num:∀ s t size most x,0<=most->Fol J Dd s t (P.num s size most x) (Q.num t size most x)
 flt:∀ s t lv x,Fol J Dd s t (P.flt s lv x) (Q.flt t lv x)
 flg:∀ s t x,Fol J Dd s t (P.flg s x) (Q.flg t x)
theorem jdj (H:j6z P Q J Dd) (l:List Value) (s:P.σ) (t:Q.σ) (c:Sp) (hp:pos c=true):Fol J Dd s t (Sp.run P l s c) (Sp.run Q l t c):=by
 cases c with
 | num size most j =>
  have hm:0<=most:=by simpa [pos] using hp
  by_cases hx:∃ x,l[j]?=some (I x)
  ·obtain ⟨x,hx⟩:=hx;rw [j2E hx,j2E hx];exact Fol.bind (H.num s t size most x hm) (fun y s1 t1=>Fol.pure s1 t1 _)
  rw [j2F (fun x h=>hx ⟨x,h⟩),j2F (fun x h=>hx ⟨x,h⟩)];exact Fol.pure s t l
 | flt lv j =>
  by_cases hx:∃ x,l[j]?=some (.float .f64 x)
  ·obtain ⟨x,hx⟩:=hx;rw [j2G hx,j2G hx];exact Fol.bind (H.flt s t lv x) (fun y s1 t1=>Fol.pure s1 t1 _)
  rw [j2H (fun x h=>hx ⟨x,h⟩),j2H (fun x h=>hx ⟨x,h⟩)];exact Fol.pure s t l
 | flg j =>
  by_cases hx:∃ x,l[j]?=some (.bool x)
  ·obtain ⟨x,hx⟩:=hx;rw [j2I hx,j2I hx];exact Fol.bind (H.flg s t x) (fun y s1 t1=>Fol.pure s1 t1 _)
  rw [j2J (fun x h=>hx ⟨x,h⟩),j2J (fun x h=>hx ⟨x,h⟩)];exact Fol.pure s t l
theorem j1m (H:j6z P Q J Dd):∀ (st:List Sp) (l:List Value) (s:P.σ) (t:Q.σ),st.all pos=true->Fol J Dd s t (runs P st l s) (runs Q st l t)
 | [],l,s,t,_=>Fol.pure s t l
 | c :: st,l,s,t,hp=>by
  rw [List.all_cons,Bool.and_eq_true] at hp;rw [j6x,j6x];exact Fol.bind (K:=fun q=>runs P st q.1 q.2) (K':=fun q=>runs Q st q.1 q.2) (jdj H l s t c hp.1) (fun y s1 t1=>j1m H st y s1 t1 hp.2)
theorem j3C (H:j6z P Q J Dd) (st:List Sp) (hp:st.all pos=true):∀ (xs:List (List Value)) (s:P.σ) (t:Q.σ),Fol J Dd s t (jf P st xs s) (jf Q st xs t)
 | [],s,t=>Fol.pure s t []
 | x :: xs,s,t=>by
  rw [j5b,j5b];exact Fol.bind (K:=fun q=>andThen (jf P st xs q.2) fun r=>.ok (q.1 :: r.1,r.2)) (K':=fun q=>andThen (jf Q st xs q.2) fun r=>.ok (q.1 :: r.1,r.2)) (j1m H st x s t hp) (fun y s1 t1=>Fol.bind (K:=fun r=>.ok (y :: r.1,r.2)) (K':=fun r=>.ok (y :: r.1,r.2)) (j3C H st hp xs s1 t1) (fun y2 s2 t2=>Fol.pure s2 t2 (y :: y2)))
theorem j3c (H:j6z P Q J Dd) (most:Int) (hm:0<=most) (st:List Sp) (hp:st.all pos=true) (z:List Value) (s:P.σ) (t:Q.σ):Fol J Dd s t (jr P most st z s) (jr Q most st z t):=by
 rw [j5c,j5c];exact Fol.bind (K:=fun q=>jf P st (kc q.1.toNat z) q.2) (K':=fun q=>jf Q st (kc q.1.toNat z) q.2) (H.num s t 1 most 0 hm) (fun y s1 t1=>j3C H st hp _ s1 t1)
theorem jdk (H:j6z P Q J Dd) (s:P.σ) (t:Q.σ):Fol J Dd s t (JW P s) (JW Q t):=by
 have hr:∀ s t,Fol J Dd s t (j0a P s) (j0a Q t):=fun s t=>j3c H 8 (by decide) _ (by decide) _ s t;rw [j6y,j6y];exact Fol.bind (K:=fun q=>andThen (j0a P q.2) fun r=>.ok ((q.1,r.1),r.2)) (K':=fun q=>andThen (j0a Q q.2) fun r=>.ok ((q.1,r.1),r.2)) (hr s t) (fun y s1 t1=>Fol.bind (K:=fun r=>.ok ((y,r.1),r.2)) (K':=fun r=>.ok ((y,r.1),r.2)) (hr s1 t1) (fun y2 s2 t2=>Fol.pure s2 t2 (y,y2)))
theorem j7I (H:j6z P Q J Dd):∀ (n:Nat) (s:P.σ) (t:Q.σ),Fol J Dd s t (jX P n s) (jX Q n t)
 | 0,s,t=>Fol.pure s t []
 | n+1,s,t=>by
  rw [j5d,j5d];exact Fol.bind (K:=fun q=>andThen (JW P q.2) fun r=>.ok (q.1++[r.1],r.2)) (K':=fun q=>andThen (JW Q q.2) fun r=>.ok (q.1++[r.1],r.2)) (j7I H n s t) (fun y s1 t1=>Fol.bind (K:=fun r=>.ok (y++[r.1],r.2)) (K':=fun r=>.ok (y++[r.1],r.2)) (jdk H s1 t1) (fun y2 s2 t2=>Fol.pure s2 t2 (y++[y2])))
theorem ja7 (H:j6z P Q J Dd) (s:P.σ) (t:Q.σ):Fol J Dd s t (Jt P 4 s) (Jt Q 4 t):=by
 rw [j5e,j5e];exact Fol.bind (K:=fun q=>jX P q.1.toNat q.2) (K':=fun q=>jX Q q.1.toNat q.2) (H.num s t 1 4 0 (by decide)) (fun y s1 t1=>j7I H _ s1 t1)
theorem ja8 (H:j6z P Q J Dd) (s:P.σ) (t:Q.σ):Fol J Dd s t (parts P s) (parts Q t) :=
 Fol.bind (j3C H j1H (by decide) _ s t) fun x1 s1 t1=>Fol.bind (ja7 H s1 t1) fun x2 s2 t2=>Fol.bind (j1m H (st8 255 8) _ s2 t2 (by decide)) fun x3 s3 t3=>Fol.bind (j3c H 16 (by decide) stD (by decide) _ s3 t3) fun x4 s4 t4 =>
 Fol.bind (j3c H 4 (by decide) stR (by decide) _ s4 t4) fun x5 s5 t5=>Fol.bind (j3c H 4 (by decide) stB (by decide) _ s5 t5) fun x6 s6 t6=>Fol.bind (j1m H stT _ s6 t6 (by decide)) fun x7 s7 t7=>Fol.bind (j1m H (st8 2 8) _ s7 t7 (by decide)) fun x8 s8 t8 =>
 Fol.bind (j1m H stK _ s8 t8 (by decide)) fun x9 s9 t9=>Fol.pure s9 t9 _
end
def live (s:Nat) (t:St):Prop:=t=⟨s,0,0⟩
def dead (f:Flt) (t:St):Prop:=t.code=f.1/\t.fat=f.2/\f.1 ≠ 0
theorem j3D {bs:List Nat} {t:St} (h:t.code ≠ 0) (size:Nat) (low high:Int):Nm.num bs t size low high=(0,t):=by
 unfold Nm.num;rw [if_pos h]
theorem ja9 {bs:List Nat} {t:St} (h:t.code ≠ 0):Nm.flt bs t=(0,t):=by
 unfold Nm.flt;rw [if_pos h]
theorem jdl (bs:List Nat) (s:Nat) (t:St) (size most x:Int):Fol (P:=RP bs) (Q:=DP bs) live dead s t ((RP bs).num s size most x) ((DP bs).num t size most x):=by
 refine ⟨fun hj=>⟨fun y s' e=>?_,fun f e=>?_⟩,fun f hd=>?_⟩
 ·have hj2:t=⟨s,0,0⟩:=hj;subst hj2;simp only [RP] at e;split at e
  ·rename_i hc;cases e;refine ⟨(Nm.num bs ⟨s,0,0⟩ (lim size 7) 0 most).2,rfl,?_⟩
   have hg:(Nm.num bs ⟨s,0,0⟩ (lim size 7) 0 most).2.fat=0:=by
    revert hc;unfold Nm.num
    (repeat' split) <;> simp
   show _=_;generalize (Nm.num bs ⟨s,0,0⟩ (lim size 7) 0 most).2=r at hc hg;obtain ⟨k,c,ft⟩:=r;simp only at hc hg;subst hc hg;rfl
  cases e
 ·have hj2:t=⟨s,0,0⟩:=hj;subst hj2;simp only [RP] at e;split at e
  ·cases e
  rename_i hc;cases e;exact ⟨_,_,rfl,rfl,rfl,hc⟩
 have hd2:t.code=f.1/\t.fat=f.2/\f.1 ≠ 0:=hd;refine ⟨0,t,?_,hd⟩;show kJ (Nm.num bs t (lim size 7) 0 most)=_;rw [j3D (by rw [hd2.1];exact hd2.2.2)];rfl
theorem jdm (bs:List Nat) (s:Nat) (t:St) (lv:Bool) (x:Nat):Fol (P:=RP bs) (Q:=DP bs) live dead s t ((RP bs).flt s lv x) ((DP bs).flt t lv x):=by
 refine ⟨fun hj=>⟨fun y s' e=>?_,fun f e=>?_⟩,fun f hd=>?_⟩
 ·have hj2:t=⟨s,0,0⟩:=hj;subst hj2;simp only [RP] at e;split at e
  ·rename_i hc;split at e
   ·rename_i hm;cases e;refine ⟨(Nm.flt bs ⟨s,0,0⟩).2,?_,?_⟩
    ·show kJ (some_ bs ⟨s,0,0⟩ lv)=_;unfold some_;rw [if_pos hc,if_pos hm] <;> rfl
    have hg:(Nm.flt bs ⟨s,0,0⟩).2.fat=0:=by
     revert hc;unfold Nm.flt
     (repeat' split) <;> simp
    show _=_;generalize (Nm.flt bs ⟨s,0,0⟩).2=r at hc hg;obtain ⟨k,c,ft⟩:=r;simp only at hc hg;subst hc hg;rfl
   cases e
  cases e
 ·have hj2:t=⟨s,0,0⟩:=hj;subst hj2;simp only [RP] at e;split at e
  ·rename_i hc;split at e
   ·cases e
   rename_i hm;cases e;refine ⟨0,⟨s,4,(s:Int)⟩,?_,rfl,rfl,by simp⟩;show kJ (some_ bs ⟨s,0,0⟩ lv)=_;unfold some_;rw [if_pos hc,if_neg hm] <;> rfl
  rename_i hc;cases e;refine ⟨0,(Nm.flt bs ⟨s,0,0⟩).2,?_,rfl,rfl,hc⟩;show kJ (some_ bs ⟨s,0,0⟩ lv)=_;unfold some_;rw [if_neg hc] <;> rfl
 have hd2:t.code=f.1/\t.fat=f.2/\f.1 ≠ 0:=hd;have hne:t.code ≠ 0:=by rw [hd2.1];exact hd2.2.2
 refine ⟨0,t,?_,hd⟩;show kJ (some_ bs t lv)=_;unfold some_;rw [ja9 hne,if_neg hne] <;> rfl
theorem jdn (bs:List Nat) (s:Nat) (t:St) (x:Bool):Fol (P:=RP bs) (Q:=DP bs) live dead s t ((RP bs).flg s x) ((DP bs).flg t x):=by
 refine ⟨fun hj=>⟨fun y s' e=>?_,fun f e=>?_⟩,fun f hd=>?_⟩
 ·have hj2:t=⟨s,0,0⟩:=hj;subst hj2;simp only [RP] at e;split at e
  ·rename_i hc;cases e;refine ⟨(Nm.num bs ⟨s,0,0⟩ 1 0 1).2,rfl,?_⟩
   have hg:(Nm.num bs ⟨s,0,0⟩ 1 0 1).2.fat=0:=by
    revert hc;unfold Nm.num
    (repeat' split) <;> simp
   show _=_;generalize (Nm.num bs ⟨s,0,0⟩ 1 0 1).2=r at hc hg;obtain ⟨k,c,ft⟩:=r;simp only at hc hg;subst hc hg;rfl
  cases e
 ·have hj2:t=⟨s,0,0⟩:=hj;subst hj2;simp only [RP] at e;split at e
  ·cases e
  rename_i hc;cases e;exact ⟨_,_,rfl,rfl,rfl,hc⟩
 have hd2:t.code=f.1/\t.fat=f.2/\f.1 ≠ 0:=hd;refine ⟨decide ((0:Int)=1),t,?_,hd⟩;show kJ (decide ((Nm.num bs t 1 0 1).1=1),(Nm.num bs t 1 0 1).2)=_;rw [j3D (by rw [hd2.1];exact hd2.2.2)];rfl
theorem j8n (bs:List Nat):j6z (RP bs) (DP bs) live dead where
 num:=fun s t size most x _=>jdl bs s t size most x
 flt:=fun s t lv x=>jdm bs s t lv x
 flg:=fun s t x=>jdn bs s t x
def tailD (bs:List Nat) (x:Raw) (s:St):Except Flt Raw :=
 if (Nm.num bs s 2 0 65535).2.code ≠ 0 then .error ((Nm.num bs s 2 0 65535).2.code,(Nm.num bs s 2 0 65535).2.fat)
 else if (Nm.num bs s 2 0 65535).1 ≠ ((crc 65535 (bs.take s.k):Nat):Int) then .error (5,(s.k:Int))
 else if (Nm.num bs s 2 0 65535).2.k < bs.length then .error (6,((Nm.num bs s 2 0 65535).2.k:Int)) else .ok x
theorem jdo {bs:List Nat} {x:Raw} {t:St} (h3:JL bs=.ok 3) (hbig:¬ 2048 < bs.length) (hp:parts (DP bs) (⟨3,0,0⟩:St)=.ok (x,t)):tailD bs x t=JF bs:=by
 have hf:=ja8 (j8n bs) (3:Nat) (⟨3,0,0⟩:St);obtain ⟨f1,f2⟩:=hf.1 rfl;unfold JF;rw [if_neg hbig,h3,andThen_ok];cases hr:parts (RP bs) (3:Nat) with
 | error f =>
  obtain ⟨y,t',e1,e2⟩:=f2 f hr;have e3:(kJ (x,t):Except Flt (Raw × St))=.ok (y,t'):=hp.symm.trans e1;cases e3;have e4:t.code=f.1/\t.fat=f.2/\f.1 ≠ 0:=e2;have hne:t.code ≠ 0:=by rw [e4.1];exact e4.2.2
  rw [jJ];unfold tailD;rw [j3D hne,if_pos hne,e4.1,e4.2.1]
 | ok q =>
  obtain ⟨y,s2⟩:=q;obtain ⟨t',e1,e2⟩:=f1 y s2 hr;have e3:(kJ (x,t):Except Flt (Raw × St))=.ok (y,t'):=hp.symm.trans e1;cases e3;have e4:t=⟨s2,0,0⟩:=e2;subst e4;rw [andThen_ok];simp only;unfold tailD j2q;simp only [RP];rw [show lim 2 7=2 by decide];generalize hnm:Nm.num bs ⟨s2,0,0⟩ 2 0 65535=r;obtain ⟨v,k,c,ft⟩:=r;simp only;by_cases hc:c=0
  ·subst hc;rw [if_neg (by simp),if_pos rfl];simp only;by_cases hv:v=((crc 65535 (bs.take s2):Nat):Int)
   ·rw [if_neg (by simp [hv]),if_pos hv,andThen_ok];unfold j2B;by_cases hk:k < bs.length
    ·rw [if_pos hk,if_pos hk];rfl
    rw [if_neg hk,if_neg hk];rfl
   rw [if_pos hv,if_neg hv];rfl
  rw [if_pos hc,if_neg hc];rfl
end Dp
namespace Dp
open Zip
open Go Go.RowKit Go.ChangeShapes
open Tab Po
open Rd (Rd But)
open Nm (St)
open Put (lim)
open Rr (JF JL j1t jz)
open CrcM (crc)
open Clone (jB zHd)
theorem jfo {b0 b1 b2:Nat} {r:List Nat} (h0:b0 < 256) (h1:b1 < 256) (h2:b2 < 256):JL (b0 :: b1 :: b2 :: r)=if b0=88/\b1=66/\b2=1 then .ok 3 else .error (3,0):=by
 have hv:Nx.val (b0 :: b1 :: b2 :: r) 0 3=256*(256*b0+b1)+b2:=by unfold Nx.val Nx.be;simp
 unfold JL;rw [By.j3p (0:Nat) 3 16777215 0 (by decide),show lim 3 7=3 by decide,if_neg (by simp),hv,if_neg (by omega)];simp only;by_cases hc:b0=88/\b1=66/\b2=1
 ·obtain ⟨rfl,rfl,rfl⟩:=hc;rfl
 rw [if_neg hc,if_neg (by omega)]
theorem j7J (x y:Int):Tryz.prog.built 36 [(0,I x),(1,I y)]=some #[I x,I y]:=by kernel_rfl
theorem jbS:Tryz.prog.built 36 []=some #[I 0,I 0]:=by kernel_rfl
theorem wrap_small {n:Nat} (h:n < 65536):Kf.wrap (n:Int)=n:=by rw [Kd];omega
theorem jbT (y:Addr) (cap:Nat) (bs:List Nat) (n:Nat) (W:World) (hr:Go.Proofs.YtonpphjleapafaaGreat.B.Row W (some y) bs) (hn:n<=bs.length):Calls Tryz.prog 26 #[.int .u16 65535,.slice (some y) n cap] W fun e w'=>e=.returned (.int .u16 ((crc 65535 (bs.take n):Nat):Int))/\W=w':=by
 have hr2:Go.Proofs.YtonpphjleapafaaGreat.Crc.Row W (some y) (bs.take n):=Go.Proofs.YtonpphjleapafaaGreat.B.j6J hr n;have hl:(bs.take n).length=n:=by rw [kR];omega
 obtain ⟨l,hl2⟩:∃ l,bs.take n=l:=⟨_,rfl⟩;rw [hl2] at hr2 hl |-;subst hl;have:=Crc.j8E 65535 (by decide) (some y) cap l W hr2;exact this
theorem j8o {bs:List Nat} (h:bs.length < 3):JL bs=.error (2,(bs.length:Int)):=by
 unfold JL;rw [By.j3p (0:Nat) 3 16777215 0 (by decide),show lim 3 7=3 by decide,if_pos (by omega)]
theorem jdp (bs:List Nat) (ad:Option Addr) (cap:Nat) (w:World) (hrow:Go.Proofs.YtonpphjleapafaaGreat.B.Row w ad bs) (hlen:bs.length<=10000) (hcap:bs.length<=cap) :
  Calls Tryz.prog 7 #[.slice ad bs.length cap] w (j1t (JF bs) w):=by
 have hz:=(KE Clone.j1p).1;obtain ⟨res,hres⟩:∃ r,JF bs=r:=⟨_,rfl⟩;rw [hres];have HRES:=hJJ hres;clear hres;have ZS:(jB.cells zHd).toArray.size=131:=(j9 (Clone.j3m w)).size;have zo:=(j9 (Clone.j3m w)).one;have zi:(Tryz.prog.info? 33).map (·.size)=some (jB.cells zHd).toArray.size:=by rw [ZS];exact May.jK
 obtain ⟨Z,hZ⟩:∃ Z,(jB.cells zHd).toArray=Z:=⟨_,rfl⟩;have bz:=Rr.jaF;rw [hZ] at hz zo zi ZS bz;have EZ:=hJJ hZ;have ZI:=hJJ zi;have ZO:=hJJ zo;have EZS:=hJJ ZS;have BZ:=hJJ bz;clear hZ zi zo ZS bz;have HROW:=hJJ hrow;have HLEN:=hJJ hlen;have HCAP:=hJJ hcap;have hb0:=((km w.heap.size w).alloc (ko _) (.cells Z 33)).alloc (by simp) (.cells #[I 0,I 0] 36);have ha0:=KC w (.cells Z 33) (.cells #[I 0,I 0] 36);have ha1:=KD w (.cells Z 33) (.cells #[I 0,I 0] 36);have hsz:((w.alloc (.cells Z 33)).alloc (.cells #[I 0,I 0] 36)).heap.size=w.heap.size+2:=by simp
 clear hrow hlen hcap;obtain ⟨len,hln⟩:∃ n,bs.length=n:=⟨_,rfl⟩;rw [hln];have HLN:=hJJ hln;clear hln;go_enter Tryz.func7,Tryz.ntmps7
 go_upto_region 1 with fail
 generalize kq (kq w _) _=v at hb0 ha0 ha1 hsz |-;have HB:=hJJ hb0;have HZ:=hJJ ha0;have HF:=hJJ ha1;have hfz:w.heap.size+1 < v.heap.size:=by omega
 clear hb0 ha0 ha1;generalize hfe:w.heap.size+1=fz at HF hfz |-;generalize hge:w.heap.size=gz at HZ |-;by_cases hbig:2048 < len
 ·have hbd:decide (2048 < (len:Int))=true:=decide_eq_true (by omega)
  have e2:res=.error (1,0):=by
   rw [<-HRES.out];unfold JF;rw [if_pos (by rw [HLN.out];exact hbig)]
  have hF1:(v.setRow gz Z).heap[fz]?=some (.cells #[I 0,I 0] 36 (0,0)):=by rw [Kn _ _ _ _ (by omega)];exact HF.out
  have HF1:=hJJ hF1;clear hF1;go_wp2_with (first | (refine Rr.Jd rfl 33 rfl Z BZ.out ?_) | (refine Ko rfl 33 _ _ rfl gz Z rfl rfl 33 _ HZ.out ZI.out rfl ZO.out ?_) | (refine Ko rfl 36 _ _ rfl fz #[I (1),I (0)] rfl rfl 36 _ HF1.out jW rfl (by simp [kw]) ?_))
  have hF2:=Kq _ fz _ #[I (1),I (0)] _ _ HF1.out;have hZ2:((v.setRow gz Z).setRow fz #[I (1),I (0)]).heap[gz]?=some (.cells Z 33 (0,0)):=by rw [Kn _ _ _ _ (by omega)];exact Kq _ _ _ _ _ _ HZ.out
  have hb2:Below w.heap.size w ((v.setRow gz Z).setRow fz #[I (1),I (0)]):=below_setRow (below_setRow HB.out (by omega) _) (by omega) _;generalize (v.setRow gz Z).setRow fz #[I (1),I (0)]=ue at hF2 hZ2 hb2 |-;have HF2:=hJJ hF2;have HZ2:=hJJ hZ2;have HB2:=hJJ hb2;clear hF2 hZ2 hb2
  (try go_wp2_with fail)
  (try simp only [kx,Exit.then])
  refine Ks (v:=.tuple #[.agg Z,.agg #[I (1),I (0)]]) ?_ rfl ⟨HB2.out,?_⟩
  ·exact jz rfl _ _ gz fz 33 36 Z #[I (1),I (0)] _ _ rfl rfl HZ2.out HF2.out Tryz.underlying33 rfl ZI.out Tryz.underlying36 rfl jW
  (try rw [e2])
  rw [<-EZ.out]
 have HBIG:Hid (¬ 2048 < bs.length):=hJJ (by rw [HLN.out];exact hbig);have hbd:decide (2048 < (len:Int))=false:=decide_eq_false (by omega);by_cases h3:len < 3
 ·have hd3:decide ((len:Int) < 3)=true:=decide_eq_true (by omega)
  have e2:res=.error (2,len):=by
   rw [<-HRES.out];unfold JF;rw [if_neg HBIG.out,j8o (by rw [HLN.out];exact h3),HLN.out];rfl
  have hF1:(v.setRow gz Z).heap[fz]?=some (.cells #[I 0,I 0] 36 (0,0)):=by rw [Kn _ _ _ _ (by omega)];exact HF.out
  have HF1:=hJJ hF1;clear hF1;go_wp2_with (first | (refine Rr.Jd rfl 33 rfl Z BZ.out ?_) | (refine Ko rfl 33 _ _ rfl gz Z rfl rfl 33 _ HZ.out ZI.out rfl ZO.out ?_) | (refine Ko rfl 36 _ _ rfl fz #[I (2),I (len)] rfl rfl 36 _ HF1.out jW rfl (by simp [kw]) ?_))
  have hF2:=Kq _ fz _ #[I (2),I (len)] _ _ HF1.out;have hZ2:((v.setRow gz Z).setRow fz #[I (2),I (len)]).heap[gz]?=some (.cells Z 33 (0,0)):=by rw [Kn _ _ _ _ (by omega)];exact Kq _ _ _ _ _ _ HZ.out
  have hb2:Below w.heap.size w ((v.setRow gz Z).setRow fz #[I (2),I (len)]):=below_setRow (below_setRow HB.out (by omega) _) (by omega) _;generalize (v.setRow gz Z).setRow fz #[I (2),I (len)]=ue at hF2 hZ2 hb2 |-;have HF2:=hJJ hF2;have HZ2:=hJJ hZ2;have HB2:=hJJ hb2;clear hF2 hZ2 hb2
  (try go_wp2_with fail)
  (try simp only [kx,Exit.then])
  refine Ks (v:=.tuple #[.agg Z,.agg #[I (2),I (len)]]) ?_ rfl ⟨HB2.out,?_⟩
  ·exact jz rfl _ _ gz fz 33 36 Z #[I (2),I (len)] _ _ rfl rfl HZ2.out HF2.out Tryz.underlying33 rfl ZI.out Tryz.underlying36 rfl jW
  (try rw [e2])
  rw [<-EZ.out]
 have hd3:decide ((len:Int) < 3)=false:=decide_eq_false (by omega)
 obtain ⟨b0,b1,b2,rest,hbs⟩:∃ b0 b1 b2 rest,bs=b0 :: b1 :: b2 :: rest:=by
  have h4:3<=bs.length:=by rw [HLN.out];omega
  match bs,h4 with
  | b0 :: b1 :: b2 :: rest,_=>exact ⟨b0,b1,b2,rest,rfl⟩
 have hbl:=HROW.out.2.1;rw [hbs] at hbl;have l0:b0 < 256:=hbl b0 (by simp);have l1:b1 < 256:=hbl b1 (by simp);have l2:b2 < 256:=hbl b2 (by simp);have HH:Hid (JL bs=if b0=88/\b1=66/\b2=1 then .ok 3 else .error (3,0)):=hJJ (by rw [hbs];exact jfo l0 l1 l2);obtain ⟨y,hy,hcl⟩:=(HROW.out.below HB.out).cells (k:=0) (by rw [HLN.out];omega);subst hy;have c0:=hcl 0 (by rw [HLN.out];omega);have c1:=hcl 1 (by rw [HLN.out];omega);have c2:=hcl 2 (by rw [HLN.out];omega);rw [hbs] at c0 c1 c2;simp only [List.getD_cons_zero,List.getD_cons_succ] at c0 c1 c2;rw [Tab.add_zero] at c0;replace c1:v.cell? { block:=y.block,off:=y.off+1,spot:=none }=some (.int .u8 (b1:Int)):=c1;replace c2:v.cell? { block:=y.block,off:=y.off+2,spot:=none }=some (.int .u8 (b2:Int)):=c2;clear hcl hbl hbs;have i0:0 < len:=by omega
 have i1:1 < len:=by omega
 have i2:2 < len:=by omega
 by_cases q0:b0=88;rotate_left
 ·have n0:((b0:Int) == 88)=false:=by rw [beq_eq_false_iff_ne];omega
  have n0b:((b0:Int) != 88)=true:=by rw [bne_iff_ne];omega
  have e2:res=.error (3,0):=by
   rw [<-HRES.out];unfold JF;rw [if_neg HBIG.out,HH.out,if_neg (fun h=>q0 h.1)];rfl
  have hF1:(v.setRow gz Z).heap[fz]?=some (.cells #[I 0,I 0] 36 (0,0)):=by rw [Kn _ _ _ _ (by omega)];exact HF.out
  have HF1:=hJJ hF1;clear hF1;go_wp2_with (first | (refine Rr.Jd rfl 33 rfl Z BZ.out ?_) | (refine Ko rfl 33 _ _ rfl gz Z rfl rfl 33 _ HZ.out ZI.out rfl ZO.out ?_) | (refine Ko rfl 36 _ _ rfl fz #[I (3),I (0)] rfl rfl 36 _ HF1.out jW rfl (by simp [kw]) ?_))
  have hF2:=Kq _ fz _ #[I (3),I (0)] _ _ HF1.out;have hZ2:((v.setRow gz Z).setRow fz #[I (3),I (0)]).heap[gz]?=some (.cells Z 33 (0,0)):=by rw [Kn _ _ _ _ (by omega)];exact Kq _ _ _ _ _ _ HZ.out
  have hb2:Below w.heap.size w ((v.setRow gz Z).setRow fz #[I (3),I (0)]):=below_setRow (below_setRow HB.out (by omega) _) (by omega) _;generalize (v.setRow gz Z).setRow fz #[I (3),I (0)]=ue at hF2 hZ2 hb2 |-;have HF2:=hJJ hF2;have HZ2:=hJJ hZ2;have HB2:=hJJ hb2;clear hF2 hZ2 hb2
  (try go_wp2_with fail)
  (try simp only [kx,Exit.then])
  refine Ks (v:=.tuple #[.agg Z,.agg #[I (3),I (0)]]) ?_ rfl ⟨HB2.out,?_⟩
  ·exact jz rfl _ _ gz fz 33 36 Z #[I (3),I (0)] _ _ rfl rfl HZ2.out HF2.out Tryz.underlying33 rfl ZI.out Tryz.underlying36 rfl jW
  (try rw [e2])
  rw [<-EZ.out]
 by_cases q1:b1=66;rotate_left
 ·subst q0;have n1b:((b1:Int) != 66)=true:=by rw [bne_iff_ne];omega
  have e2:res=.error (3,0):=by
   rw [<-HRES.out];unfold JF;rw [if_neg HBIG.out,HH.out,if_neg (fun h=>q1 h.2.1)];rfl
  have hF1:(v.setRow gz Z).heap[fz]?=some (.cells #[I 0,I 0] 36 (0,0)):=by rw [Kn _ _ _ _ (by omega)];exact HF.out
  have HF1:=hJJ hF1;clear hF1;go_wp2_with (first | (refine Rr.Jd rfl 33 rfl Z BZ.out ?_) | (refine Ko rfl 33 _ _ rfl gz Z rfl rfl 33 _ HZ.out ZI.out rfl ZO.out ?_) | (refine Ko rfl 36 _ _ rfl fz #[I (3),I (0)] rfl rfl 36 _ HF1.out jW rfl (by simp [kw]) ?_))
  have hF2:=Kq _ fz _ #[I (3),I (0)] _ _ HF1.out;have hZ2:((v.setRow gz Z).setRow fz #[I (3),I (0)]).heap[gz]?=some (.cells Z 33 (0,0)):=by rw [Kn _ _ _ _ (by omega)];exact Kq _ _ _ _ _ _ HZ.out
  have hb2:Below w.heap.size w ((v.setRow gz Z).setRow fz #[I (3),I (0)]):=below_setRow (below_setRow HB.out (by omega) _) (by omega) _;generalize (v.setRow gz Z).setRow fz #[I (3),I (0)]=ue at hF2 hZ2 hb2 |-;have HF2:=hJJ hF2;have HZ2:=hJJ hZ2;have HB2:=hJJ hb2;clear hF2 hZ2 hb2
  (try go_wp2_with fail)
  (try simp only [kx,Exit.then])
  refine Ks (v:=.tuple #[.agg Z,.agg #[I (3),I (0)]]) ?_ rfl ⟨HB2.out,?_⟩
  ·exact jz rfl _ _ gz fz 33 36 Z #[I (3),I (0)] _ _ rfl rfl HZ2.out HF2.out Tryz.underlying33 rfl ZI.out Tryz.underlying36 rfl jW
  (try rw [e2])
  rw [<-EZ.out]
 by_cases q2:b2=1;rotate_left
 ·subst q0 q1;have n2b:((b2:Int) != 1)=true:=by rw [bne_iff_ne];omega
  have e2:res=.error (3,0):=by
   rw [<-HRES.out];unfold JF;rw [if_neg HBIG.out,HH.out,if_neg (fun h=>q2 h.2.2)];rfl
  have hF1:(v.setRow gz Z).heap[fz]?=some (.cells #[I 0,I 0] 36 (0,0)):=by rw [Kn _ _ _ _ (by omega)];exact HF.out
  have HF1:=hJJ hF1;clear hF1;go_wp2_with (first | (refine Rr.Jd rfl 33 rfl Z BZ.out ?_) | (refine Ko rfl 33 _ _ rfl gz Z rfl rfl 33 _ HZ.out ZI.out rfl ZO.out ?_) | (refine Ko rfl 36 _ _ rfl fz #[I (3),I (0)] rfl rfl 36 _ HF1.out jW rfl (by simp [kw]) ?_))
  have hF2:=Kq _ fz _ #[I (3),I (0)] _ _ HF1.out;have hZ2:((v.setRow gz Z).setRow fz #[I (3),I (0)]).heap[gz]?=some (.cells Z 33 (0,0)):=by rw [Kn _ _ _ _ (by omega)];exact Kq _ _ _ _ _ _ HZ.out
  have hb2:Below w.heap.size w ((v.setRow gz Z).setRow fz #[I (3),I (0)]):=below_setRow (below_setRow HB.out (by omega) _) (by omega) _;generalize (v.setRow gz Z).setRow fz #[I (3),I (0)]=ue at hF2 hZ2 hb2 |-;have HF2:=hJJ hF2;have HZ2:=hJJ hZ2;have HB2:=hJJ hb2;clear hF2 hZ2 hb2
  (try go_wp2_with fail)
  (try simp only [kx,Exit.then])
  refine Ks (v:=.tuple #[.agg Z,.agg #[I (3),I (0)]]) ?_ rfl ⟨HB2.out,?_⟩
  ·exact jz rfl _ _ gz fz 33 36 Z #[I (3),I (0)] _ _ rfl rfl HZ2.out HF2.out Tryz.underlying33 rfl ZI.out Tryz.underlying36 rfl jW
  (try rw [e2])
  rw [<-EZ.out]
 subst q0 q1 q2;have H3:Hid (JL bs=.ok 3):=hJJ (by rw [HH.out];rfl);clear HH
 have hyb:y.block < v.heap.size:=by
  by_cases hh:y.block < v.heap.size
  ·exact hh
  exfalso;unfold World.cell? at c0;rw [Array.getElem?_eq_none (by omega)] at c0;cases c0
 obtain ⟨g,hgg⟩:∃ g,v.heap.size=g:=⟨_,rfl⟩;have HGZ:Hid (g=gz+2):=hJJ (by omega);rw [hgg] at hyb hfz;clear hsz;go_upto_region 8 with fail
 have hb3:=(km v.heap.size v).alloc (ko _) (.cells #[.slice (some y) len cap,I 3,I 0,I 0] 61);have hg3:=Kr v (.cells #[.slice (some y) len cap,I 3,I 0,I 0] 61);have hs3:(v.alloc (.cells #[.slice (some y) len cap,I 3,I 0,I 0] 61)).heap.size=v.heap.size+1:=by simp
 have hrow3:=(HROW.out.below HB.out).below hb3;generalize kq v _=v1 at hb3 hg3 hs3 hrow3 |-;have HB3:Hid (Below v.heap.size v v1):=hJJ hb3;rw [hgg] at hg3 hs3;have HD:Hid (Ds (g+1) g (some y) cap bs ⟨3,0,0⟩ v1):=hJJ ⟨⟨by omega,hrow3,fun _ x hx e=>by cases hx;omega,by rw [Kp _ _ _ _ _ _ hg3,HLN.out];rfl,by rw [Kp _ _ _ _ _ _ hg3];rfl,by rw [Kp _ _ _ _ _ _ hg3];rfl,by rw [Kp _ _ _ _ _ _ hg3];rfl,fun i=>Kz _ _ _ _ _ hg3,HCAP.out⟩,⟨by rw [HLN.out];show 3<=len;omega,fun _=>rfl⟩,HLEN.out,fun _ x hx=>by cases hx;omega,by omega,by omega⟩;clear hb3 hg3 hrow3 c0 c1 c2;have CP:=hJJ (jdi (⟨3,0,0⟩:St) v1 HD.out HROW.out.2.1);go_wp2_with fail
 refine CP.out.mono ?_;clear CP;rintro e v2 ⟨x,t,hd,hp,rfl,hT,hD2,hbut2,hkt⟩;have HKT:=hJJ hkt;clear hkt;have HP:=hJJ hp;have HD2:=hJJ hD2;have HBU2:=hJJ hbut2;have HT2:=hJJ hT;clear hp hD2 hbut2 hT HD;have cs2:((jt x).cells hd).toArray.size=131:=(j9 HT2.out).size;have co2:=(j9 HT2.out).one;have ci2:(Tryz.prog.info? 33).map (·.size)=some ((jt x).cells hd).toArray.size:=by rw [cs2];exact May.jK
 obtain ⟨C,hC⟩:∃ C,((jt x).cells hd).toArray=C:=⟨_,rfl⟩;rw [hC] at cs2 co2 ci2 |-;have EC:=hJJ hC;have CS:=hJJ cs2;have CO:=hJJ co2;have CI:=hJJ ci2;clear hC cs2 co2 ci2;go_upto_region 9 with (refine Row.jh rfl 33 _ _ rfl v2 _ C rfl rfl rfl CI.out (by rw [EZS.out,CS.out]) CO.out ?_)
 have hb4:=(km v2.heap.size v2).alloc (ko _) (.cells C 33);have ht4:=Kr v2 (.cells C 33);have hD4:=HD2.out.mem hb4;have hT4:=HT2.out.below hb4;have hlt4:g < v2.heap.size:=by have:=HD2.out.bl;omega
 generalize kq v2 _=v3 at hb4 ht4 hD4 hT4 |-;have HB4:=hJJ hb4;obtain ⟨tb,htb⟩:∃ b,v2.heap.size=b:=⟨_,rfl⟩;rw [htb] at ht4 hlt4 |-;have HT4:=hJJ ht4;have HD4:=hJJ hD4;have HI4:=hJJ hT4;have HTB:=hJJ htb;clear hb4 ht4 hD4 hT4 HD2 HT2 htb;have k1:=HD4.out.rd.c1;obtain ⟨s1,hs1⟩:∃ n,t.k=n:=⟨_,rfl⟩;rw [hs1] at k1;have HS1:=hJJ hs1;clear hs1;have HK1:Hid (s1<=bs.length):=hJJ (by rw [<-HS1.out];exact HD4.out.good.1);go_upto_region 10 with fail
 clear k1;have CN:=hJJ (j09 t 2 65535 v3 HD4.out);rw [show lim 2 7=2 by decide] at CN;obtain ⟨r,hr⟩:∃ r,Nm.num bs t 2 0 65535=r:=⟨_,rfl⟩;rw [hr] at CN;have HR:=hJJ hr;clear hr;obtain ⟨sv,s3⟩:=r;go_wp2_with fail
 refine CN.out.mono ?_;clear CN;rintro e v4 ⟨rfl,hD5,hbut5⟩;have HD5:=hJJ hD5;have HBU5:=hJJ hbut5;clear hD5 hbut5 HD4;have CK:=hJJ (Rf.J7 g (some y) cap bs s3.k s3.code s3.fat v4 HD5.out.rd);go_wp2_with fail
 refine CK.out.mono ?_;clear CK;rintro e v5 ⟨rfl,rfl⟩;have HT5:Hid (v4.heap[tb]?=some (.cells C 33 (0,0))):=hJJ ((HBU5.out.block tb (kl.1 HT4.out).1 (by omega)).trans HT4.out);have HALL:Hid (tailD bs x t=JF bs):=hJJ (jdo H3.out HBIG.out HP.out)
 have HKEEP:Hid (∀ k,k < g->v4.heap[k]?=v.heap[k]?):=hJJ (fun k hk=>by
  have h1:=HB3.out.block k (by omega);have h2:=HBU2.out.block k (by have:=HB3.out.size;omega) (by omega);have h3:=HB4.out.block k (by have:=HB3.out.size;have:=HBU2.out.size;omega);have h4:=HBU5.out.block k (by have:=HB3.out.size;have:=HBU2.out.size;have:=HB4.out.size;omega) (by omega);exact h4.trans (h3.trans (h2.trans h1)))
 have HZ5:Hid (v4.heap[gz]?=some (.cells Z 33 (0,0))):=hJJ ((HKEEP.out gz (by have:=HGZ.out;omega)).trans HZ.out);have HF5:Hid (v4.heap[fz]?=some (.cells #[I 0,I 0] 36 (0,0))):=hJJ ((HKEEP.out fz (by omega)).trans HF.out)
 have HBE:Hid (Below w.heap.size w v4):=hJJ (by
  have s1:=HB.out.size;have s2:=HB3.out.size;have s3:=HBU2.out.size;have s4:=HB4.out.size;exact (((HB.out.trans (HB3.out.mono s1)).trans (HBU2.out.below (by omega) (by omega))).trans (HB4.out.mono (by omega))).trans (HBU5.out.below (by omega) (by omega)))
 have LG:Hid (∀ w',w'.heap[g]?=v4.heap[g]?->w'.cell? ⟨g,1,none⟩=some (I (s3.k:Int))/\jl w' ⟨g,2,none⟩ [I s3.code,I s3.fat]):=hJJ (fun w' hw=>by
  have c1:=(kB (w:=v4) (a:=⟨g,1,none⟩) hw).trans HD5.out.rd.c1;have c2:=(kB (w:=v4) (a:=⟨g,2,none⟩) hw).trans HD5.out.rd.c2;have c3:=(kB (w:=v4) (a:=⟨g,3,none⟩) hw).trans HD5.out.rd.c3;refine ⟨c1,fun j v hv=>?_⟩
  match j,hv with
  | 0,hv=>rw [Tab.add_zero];simp only [kS] at hv;rw [<-hv];exact c2
  | 1,hv=>simp only [List.getElem?_cons_succ,kS] at hv;rw [<-hv];exact c3
  | j+2,hv=>simp at hv)
 have NE:Hid (g ≠ gz/\g ≠ fz/\gz ≠ fz):=hJJ ⟨by omega,by omega,by omega⟩;by_cases hcode:s3.code=0;rotate_left
 ·have hcd:decide (s3.code=0)=false:=decide_eq_false hcode;go_upto_region 12 with fail
  have D0:Hid (Below w.heap.size w { v4 with drawn:=v4.drawn+1 }):=hJJ HBE.out.drew;have D1:Hid (({ v4 with drawn:=v4.drawn+1 }:World).heap[gz]?=some (.cells Z 33 (0,0))):=hJJ HZ5.out;have D2:Hid (({ v4 with drawn:=v4.drawn+1 }:World).heap[fz]?=some (.cells #[I 0,I 0] 36 (0,0))):=hJJ HF5.out;refine Ku (S:=fun v=>v.heap[g]?=v4.heap[g]?) (by kernel_rfl) ?_;have hS:({ v4 with drawn:=v4.drawn+1 }:World).heap[g]?=v4.heap[g]?:=rfl;generalize ({ v4 with drawn:=v4.drawn+1 }:World)=vd at hS D0 D1 D2 |-;refine Held.j0h (i:=0) (some 52) rfl 33 #[] Z rfl rfl (by kernel_rfl) (by kernel_rfl) (by kernel_rfl) (fun _ _ _ h=>h) (by rfl) hS (by simpa using BZ.out) ?_
  (try dsimp only [kh]);(try simp only [zA,zB,zC])
  refine tkZ 1 53 ?_ rfl ?_ hS ?_;rotate_left
  ·intro w' hw';go_simp
   try with_reducible rfl
  (try dsimp only [kh]);(try simp only [zA,zB,zC])
  refine tkZ 2 54 ?_ rfl ?_ hS ?_;rotate_left
  ·intro w' hw';go_simp
   try with_reducible rfl
  (try dsimp only [kh]);(try simp only [zA,zB,zC])
  refine tkZ 3 55 ?_ rfl ?_ hS ?_;rotate_left
  ·intro w' hw';go_simp
   try with_reducible rfl
  (try dsimp only [kh]);(try simp only [zA,zB,zC])
  refine tlZ 4 56 36 (.tmp 55) ⟨g,2,none⟩ [I s3.code,I s3.fat] rfl hS (fun w' hw'=>(LG.out w' hw').2) Tryz.underlying36 jW ?_
  (try dsimp only [kh]);(try simp only [zA,zB,zC])
  refine rdZ 5 rfl (fun K hK=>?_);rw [if_pos (by rfl)];refine KB 33 _ _ rfl gz Z rfl rfl 33 _ D1.out ZI.out rfl ZO.out ?_;have hS2:(vd.setRow gz Z).heap[g]?=v4.heap[g]?:=(Kn _ _ _ _ NE.out.1).trans hS;have E0:Hid (Below w.heap.size w (vd.setRow gz Z)):=hJJ (below_setRow D0.out (by omega) Z);have E1:=hJJ (Kq vd gz _ Z _ _ D1.out);have E2:Hid ((vd.setRow gz Z).heap[fz]?=some (.cells #[I 0,I 0] 36 (0,0))):=hJJ ((Kn _ _ _ _ (Ne.symm NE.out.2.2)).trans D2.out);generalize vd.setRow gz Z=ve at hS2 E0 E1 E2 |-;refine hK.out _ _ hS2 (fun hS=>?_);clear hK K hS2 D0 D1 D2
  (try dsimp only [kh]);(try simp only [zA,zB,zC])
  refine rdZ 6 rfl (fun K hK=>?_);rw [if_pos (by rfl)];refine KB 36 _ _ rfl fz #[I (s3.code),I (s3.fat)] rfl rfl 36 _ E2.out jW rfl (by simp [kw]) ?_;have hS3:(ve.setRow fz #[I (s3.code),I (s3.fat)]).heap[g]?=v4.heap[g]?:=(Kn _ _ _ _ NE.out.2.1).trans hS;have F0:Hid (Below w.heap.size w (ve.setRow fz #[I (s3.code),I (s3.fat)])):=hJJ (below_setRow E0.out (by omega) #[I (s3.code),I (s3.fat)]);have F2:=hJJ (Kq ve fz _ #[I (s3.code),I (s3.fat)] _ _ E2.out);have F1:Hid ((ve.setRow fz #[I (s3.code),I (s3.fat)]).heap[gz]?=some (.cells Z 33 (0,0))):=hJJ ((Kn _ _ _ _ NE.out.2.2).trans E1.out);generalize ve.setRow fz #[I (s3.code),I (s3.fat)]=vf at hS3 F0 F1 F2 |-;refine hK.out _ _ hS3 (fun hS=>?_);clear hK K hS3 E0 E1 E2;refine Kt (by kernel_rfl) ?_ _;clear hS
  (try simp only [K1,kT,kU])
  (try dsimp only [kh]);(try simp only [zA,zB,zC])
  (try go_wp2_with fail)
  (try simp only [kx,Exit.then])
  have e2:res=.error (s3.code,s3.fat):=by
   rw [<-HRES.out,<-HALL.out];unfold tailD;rw [HR.out];exact if_pos hcode
  refine Ks (v:=.tuple #[.agg Z,.agg #[I (s3.code),I (s3.fat)]]) ?_ rfl ⟨F0.out,?_⟩
  ·exact jz rfl _ _ gz fz 33 36 Z #[I (s3.code),I (s3.fat)] _ _ rfl rfl F1.out F2.out Tryz.underlying33 rfl ZI.out Tryz.underlying36 rfl jW
  (try rw [e2])
  rw [<-EZ.out]
 have hcd:decide (s3.code=0)=true:=decide_eq_true hcode;have hk1:=HK1.out;obtain ⟨cr,hcr⟩:∃ n:Nat,crc 65535 (bs.take s1)=n:=⟨_,rfl⟩;have hcr2:cr < 65536:=by rw [<-hcr];exact CrcM.j3e _ _ (by decide)
 have CR:Hid (Calls Tryz.prog 26 #[.int .u16 65535,.slice (some y) s1 cap] v4 fun e w'=>e=.returned (.int .u16 (cr:Int))/\v4=w'):=hJJ (by rw [<-hcr];exact jbT y cap bs s1 v4 HD5.out.rd.row hk1);have HCR:=hJJ hcr;have hk2:s1<=cap:=by have:=HCAP.out;omega
 clear hcr hk1;have ew:wrap64 (cr:Int)=cr:=K9 _ (by omega);have ew2:Kf.wrap (cr:Int)=cr:=wrap_small hcr2;go_wp2_with fail
 refine CR.out.mono ?_;clear CR;rintro e v6 ⟨rfl,rfl⟩;by_cases hsum:sv=(cr:Int);rotate_left
 ·have hsd:(sv == (cr:Int))=false:=by rw [beq_eq_false_iff_ne];exact hsum
  have hsn:(sv != (cr:Int))=true:=by rw [bne_iff_ne];exact hsum
  have e2:res=.error (5,s1):=by
   rw [<-HRES.out,<-HALL.out];unfold tailD;rw [HR.out];rw [if_neg (by simp [hcode]),if_pos (by rw [HS1.out,HCR.out];exact hsum),HS1.out]
  have hF1:(v4.setRow gz Z).heap[fz]?=some (.cells #[I 0,I 0] 36 (0,0)):=by rw [Kn _ _ _ _ (by omega)];exact HF5.out
  have HF1:=hJJ hF1;clear hF1;go_wp2_with (first | (refine Rr.Jd rfl 33 rfl Z BZ.out ?_) | (refine Ko rfl 33 _ _ rfl gz Z rfl rfl 33 _ HZ5.out ZI.out rfl ZO.out ?_) | (refine Ko rfl 36 _ _ rfl fz #[I (5),I (s1)] rfl rfl 36 _ HF1.out jW rfl (by simp [kw]) ?_))
  have hF2:=Kq _ fz _ #[I (5),I (s1)] _ _ HF1.out;have hZ2:((v4.setRow gz Z).setRow fz #[I (5),I (s1)]).heap[gz]?=some (.cells Z 33 (0,0)):=by rw [Kn _ _ _ _ (by omega)];exact Kq _ _ _ _ _ _ HZ5.out
  have hb2:Below w.heap.size w ((v4.setRow gz Z).setRow fz #[I (5),I (s1)]):=below_setRow (below_setRow HBE.out (by omega) _) (by omega) _;generalize (v4.setRow gz Z).setRow fz #[I (5),I (s1)]=ue at hF2 hZ2 hb2 |-;have HF2:=hJJ hF2;have HZ2:=hJJ hZ2;have HB2:=hJJ hb2;clear hF2 hZ2 hb2
  (try go_wp2_with fail)
  (try simp only [kx,Exit.then])
  refine Ks (v:=.tuple #[.agg Z,.agg #[I (5),I (s1)]]) ?_ rfl ⟨HB2.out,?_⟩
  ·exact jz rfl _ _ gz fz 33 36 Z #[I (5),I (s1)] _ _ rfl rfl HZ2.out HF2.out Tryz.underlying33 rfl ZI.out Tryz.underlying36 rfl jW
  (try rw [e2])
  rw [<-EZ.out]
 have hsd:(sv == (cr:Int))=true:=by rw [beq_iff_eq];exact hsum
 have hsn:(sv != (cr:Int))=false:=by rw [bne_eq_false_iff_eq];exact hsum
 have c1:=(LG.out v4 rfl).1;obtain ⟨k3,hk3⟩:∃ n,s3.k=n:=⟨_,rfl⟩;rw [hk3] at c1;have K3:=hJJ hk3;clear hk3;by_cases hmore:k3 < len
 ·have hmd:decide ((k3:Int) < (len:Int))=true:=decide_eq_true (by omega);go_upto_region 16 with fail
  clear c1;have D0:Hid (Below w.heap.size w { v4 with drawn:=v4.drawn+1 }):=hJJ HBE.out.drew;have D1:Hid (({ v4 with drawn:=v4.drawn+1 }:World).heap[gz]?=some (.cells Z 33 (0,0))):=hJJ HZ5.out;have D2:Hid (({ v4 with drawn:=v4.drawn+1 }:World).heap[fz]?=some (.cells #[I 0,I 0] 36 (0,0))):=hJJ HF5.out;refine Ku (S:=fun v=>v.heap[g]?=v4.heap[g]?) (by kernel_rfl) ?_;have hS:({ v4 with drawn:=v4.drawn+1 }:World).heap[g]?=v4.heap[g]?:=rfl;generalize ({ v4 with drawn:=v4.drawn+1 }:World)=vd at hS D0 D1 D2 |-;refine Held.j0h (i:=0) (some 74) rfl 33 #[] Z rfl rfl (by kernel_rfl) (by kernel_rfl) (by kernel_rfl) (fun _ _ _ h=>h) (by rfl) hS (by simpa using BZ.out) ?_
  (try dsimp only [kh]);(try simp only [zA,zB,zC])
  refine tkZ 1 75 ?_ rfl ?_ hS ?_;rotate_left
  ·intro w' hw';go_simp
   try with_reducible rfl
  (try dsimp only [kh]);(try simp only [zA,zB,zC])
  refine tkZ 2 76 ?_ rfl ?_ hS ?_;rotate_left
  ·intro w' hw';go_simp
   try with_reducible rfl
  (try dsimp only [kh]);(try simp only [zA,zB,zC])
  refine tkZ 3 77 ?_ rfl ?_ hS ?_;rotate_left
  ·intro w' hw';go_simp
   try with_reducible rfl
  (try dsimp only [kh]);(try simp only [zA,zB,zC])
  refine tkZ 4 78 ?_ rfl ?_ hS ?_;rotate_left
  ·intro w' hw';have c1:=(LG.out w' hw').1;rw [K3.out] at c1;go_simp
   try with_reducible rfl
  (try dsimp only [kh]);(try simp only [zA,zB,zC])
  refine Held.j0h (i:=5) (some 79) rfl 36 #[(0,.const (I 6)),(1,.tmp 78)] #[I 6,I k3] rfl rfl (by kernel_rfl) (by kernel_rfl) (by kernel_rfl) (fun _ _ _ h=>h) (by rfl) hS (by have h:=j7J 6 k3;first | (simp [Act.eval];exact h) | (go_simp;exact h)) ?_
  (try dsimp only [kh]);(try simp only [zA,zB,zC])
  refine rdZ 6 rfl (fun K hK=>?_);rw [if_pos (by rfl)];refine KB 33 _ _ rfl gz Z rfl rfl 33 _ D1.out ZI.out rfl ZO.out ?_;have hS2:(vd.setRow gz Z).heap[g]?=v4.heap[g]?:=(Kn _ _ _ _ NE.out.1).trans hS;have E0:Hid (Below w.heap.size w (vd.setRow gz Z)):=hJJ (below_setRow D0.out (by omega) Z);have E1:=hJJ (Kq vd gz _ Z _ _ D1.out);have E2:Hid ((vd.setRow gz Z).heap[fz]?=some (.cells #[I 0,I 0] 36 (0,0))):=hJJ ((Kn _ _ _ _ (Ne.symm NE.out.2.2)).trans D2.out);generalize vd.setRow gz Z=ve at hS2 E0 E1 E2 |-;refine hK.out _ _ hS2 (fun hS=>?_);clear hK K hS2 D0 D1 D2
  (try dsimp only [kh]);(try simp only [zA,zB,zC])
  refine rdZ 7 rfl (fun K hK=>?_);rw [if_pos (by rfl)];refine KB 36 _ _ rfl fz #[I (6),I (k3)] rfl rfl 36 _ E2.out jW rfl (by simp [kw]) ?_;have hS3:(ve.setRow fz #[I (6),I (k3)]).heap[g]?=v4.heap[g]?:=(Kn _ _ _ _ NE.out.2.1).trans hS;have F0:Hid (Below w.heap.size w (ve.setRow fz #[I (6),I (k3)])):=hJJ (below_setRow E0.out (by omega) #[I (6),I (k3)]);have F2:=hJJ (Kq ve fz _ #[I (6),I (k3)] _ _ E2.out);have F1:Hid ((ve.setRow fz #[I (6),I (k3)]).heap[gz]?=some (.cells Z 33 (0,0))):=hJJ ((Kn _ _ _ _ NE.out.2.2).trans E1.out);generalize ve.setRow fz #[I (6),I (k3)]=vf at hS3 F0 F1 F2 |-;refine hK.out _ _ hS3 (fun hS=>?_);clear hK K hS3 E0 E1 E2;refine Kt (by kernel_rfl) ?_ _;clear hS
  (try simp only [K1,kT,kU])
  (try dsimp only [kh]);(try simp only [zA,zB,zC])
  (try go_wp2_with fail)
  (try simp only [kx,Exit.then])
  have e2:res=.error (6,k3):=by
   rw [<-HRES.out,<-HALL.out];unfold tailD;rw [HR.out];rw [if_neg (by simp [hcode]),if_neg (by rw [HS1.out,HCR.out];simp [hsum]),if_pos (show s3.k < bs.length by rw [K3.out,HLN.out];exact hmore),K3.out]
  refine Ks (v:=.tuple #[.agg Z,.agg #[I (6),I (k3)]]) ?_ rfl ⟨F0.out,?_⟩
  ·exact jz rfl _ _ gz fz 33 36 Z #[I (6),I (k3)] _ _ rfl rfl F1.out F2.out Tryz.underlying33 rfl ZI.out Tryz.underlying36 rfl jW
  (try rw [e2])
  rw [<-EZ.out]
 have hmd:decide ((k3:Int) < (len:Int))=false:=decide_eq_false (by omega);go_upto_region 17 with fail
 clear c1
 have e2:res=.ok x:=by
  rw [<-HRES.out,<-HALL.out];unfold tailD;rw [HR.out];rw [if_neg (by simp [hcode]),if_neg (by rw [HS1.out,HCR.out];simp [hsum]),if_neg (show ¬ s3.k < bs.length by rw [K3.out,HLN.out];exact hmore)]
 have E2:=hJJ e2;clear e2;have CI2:Hid ((Tryz.prog.info? 33).map (·.size)=some C.toList.length):=hJJ (by rw [Array.length_toList];exact CI.out);have hF1:(v4.setRow gz C).heap[fz]?=some (.cells #[I 0,I 0] 36 (0,0)):=by rw [Kn _ _ _ _ (by omega)];exact HF5.out
 have HF1:=hJJ hF1;clear hF1;go_wp2_with (first | (refine Row.j7 33 _ rfl (by first | rfl | (go_simp;done) | fail) ⟨tb,0,none⟩ rfl C.toList _ (by have:=Row.j1 HT5.out;simpa using this) Tryz.underlying33 rfl CI2.out ?_) | (refine Rr.Jd rfl 36 rfl #[I 0,I 0] jbS ?_) | (refine Ko rfl 33 _ _ rfl gz C rfl rfl 33 _ HZ5.out CI.out (by rw [EZS.out,CS.out]) CO.out ?_) | (refine Ko rfl 36 _ _ rfl fz #[I 0,I 0] rfl rfl 36 _ HF1.out jW rfl (by simp [kw]) ?_))
 have hF2:=Kq _ fz _ #[I 0,I 0] _ _ HF1.out;have hZ2:((v4.setRow gz C).setRow fz #[I 0,I 0]).heap[gz]?=some (.cells C 33 (0,0)):=by rw [Kn _ _ _ _ (by omega)];exact Kq _ _ _ _ _ _ HZ5.out
 have hb2:Below w.heap.size w ((v4.setRow gz C).setRow fz #[I 0,I 0]):=below_setRow (below_setRow HBE.out (by omega) _) (by omega) _
 have hk2:jbL v1.heap.size v2 ((v4.setRow gz C).setRow fz #[I 0,I 0]):=fun b o hb ho=>by
  have hlt:b < v2.heap.size:=(kl.1 ho).1;have hge:=HGZ.out;rw [Kn _ _ _ _ (by omega),Kn _ _ _ _ (by omega)];have h4:=HB4.out.block b hlt;have h5:=HBU5.out.block b (by have:=HB4.out.size;omega) (by omega);rw [h5,h4];exact ho
 generalize (v4.setRow gz C).setRow fz #[I 0,I 0]=ue at hF2 hZ2 hb2 hk2 |-;have HF2:=hJJ hF2;have HZ2:=hJJ hZ2;have HB2:=hJJ hb2;have HTE:=hJJ (HKT.out ue hk2);clear hF2 hZ2 hb2 hk2
 (try go_wp2_with fail)
 (try simp only [kx,Exit.then])
 refine Ks (v:=.tuple #[.agg C,.agg #[I 0,I 0]]) ?_ rfl ⟨HB2.out,?_⟩
 ·exact jz rfl _ _ gz fz 33 36 C #[I 0,I 0] _ _ rfl rfl HZ2.out HF2.out Tryz.underlying33 rfl CI.out Tryz.underlying36 rfl jW
 rw [E2.out];exact ⟨hd,by rw [EC.out],HTE.out⟩
end Dp
namespace Rb
open Zip
open Go Go.RowKit Go.ChangeShapes
open Tab
open Put (low lim)
open Go.Proofs.YtonpphjleapafaaGreat.B (Own jY)
open Cd (ji)
def B8 (l:List Nat):Prop:=∀ x ∈ l,x < 256
theorem B8.app {a b:List Nat} (h:B8 a) (k:B8 b):B8 (a++b):=fun x hx=>(kX.1 hx).elim (h x) (k x)
structure Bv (W:World) (v:Value) (l:List Nat):Prop where
 b8:B8 l
 row:∃ a cap,v=.slice a l.length cap/\B.Row W a l/\(a=none->cap=0)
theorem Bv.below {W W':World} {v:Value} {l:List Nat} (h:Bv W v l) (hb:Below W.heap.size W W'):Bv W' v l :=
 ⟨h.b8,let ⟨a,cap,h1,h2,h3⟩:=h.row;⟨a,cap,h1,h2.below hb,h3⟩⟩
theorem j8p {B:Nat} {W:World} {v:Value} {l:List Nat} (h:Own B W v l) (h8:B8 l):Bv W v l:=by
 obtain ⟨a,cap,rfl,hr⟩:=jY h h8;refine ⟨h8,a,cap,rfl,hr,?_⟩;rintro rfl;rcases h.2 with ⟨h0,_⟩ | ⟨g,c,cur,h1,_⟩
 ·exact (K8 .. ▸ h0).2.2
 exact absurd h1 (by simp)
theorem jfp {W:World} {v:Value} {l:List Nat} (h:Bv W v l) (hl:l.length<=10000) (size n:Int) :
  Calls Tryz.prog 27 #[v,.int .i64 size,.int .i64 n] W fun e W'=>∃ v',e=.returned v'/\Bv W' v' (l++low (lim size 8) n)/\Below W.heap.size W W':=by
 obtain ⟨a,cap,rfl,hr,hn⟩:=h.row;exact (Put.j0X a cap l size n W hr hl hn).mono fun e W' ⟨v',h1,h2,h3⟩=>⟨v',h1,j8p h2 (h.b8.app (Put.Jk _ _)),h3⟩
theorem jfq {W:World} {v:Value} {l:List Nat} (h:Bv W v l) (hl:l.length<=10000) (x:Nat) :
  Calls Tryz.prog 32 #[v,.float .f64 x] W fun e W'=>∃ v',e=.returned v'/\Bv W' v' (l++low 8 x)/\Below W.heap.size W W':=by
 obtain ⟨a,cap,rfl,hr,hn⟩:=h.row;exact (Put.j5Z a cap l x W hr hl hn).mono fun e W' ⟨v',h1,h2,h3⟩=>⟨v',h1,j8p h2 (h.b8.app (Put.Jk _ _)),h3⟩
theorem j97 (b:Bool) (W:World):Calls Tryz.prog 30 #[.bool b] W fun e W'=>e=.returned (.int .i64 (Cd.one b))/\W=W':=by
 cases b
 ·go_enter Tryz.func30,Tryz.ntmps30
  go_wp2;go_ret;exact ⟨rfl,rfl⟩
 go_enter Tryz.func30,Tryz.ntmps30
 go_wp2;go_ret;exact ⟨rfl,rfl⟩
theorem jfr {W:World} {v:Value} {l:List Nat} (h:Bv W v l) {s:Sl} {xs:List Int} {n:Nat} (hn:xs.length=n) (hx:jc W s xs) (hl:l.length+8*n<=10000) (size:Int) :
  Calls Tryz.prog 31 #[v,.int .i64 size,.slice s.a n s.cap] W fun e W'=>∃ v',e=.returned v'/\Bv W' v' (l++ji (lim size 8) xs)/\Below W.heap.size W W':=by
 have H:=hJJ h;have HX:=hJJ hx;have HN:=hJJ hn;obtain ⟨h1,h2⟩:=hx.len;have h3:n<=2000:=by omega
 obtain ⟨sa,cap⟩:=s;clear h hx hn h1;go_enter Tryz.func31,Tryz.ntmps31
 go_wp2_with fail
 go_loopw [0,7] (fun b i wr=>∃ q:Nat,q<=n/\i=.int .i64 (q:Int)/\Bv wr b (l++ji (lim size 8) (xs.take q))/\Below W.heap.size W wr) (fun _ i _=>n - (intOf i).toNat)
 case atStart=>exact ⟨0,by omega,rfl,by simpa [ji] using H.out,km _ _⟩
 case round =>
  obtain ⟨q,hq,rfl,hb,hw⟩:=hrel;have HB:=hJJ hb;have HW:=hJJ hw;clear hb hw;by_cases hlt:q < n
  ·have hq2:q < xs.length:=by rw [HN.out];exact hlt
   obtain ⟨x,hxq⟩:∃ x,xs[q]?=some x:=⟨_,kn hq2⟩;obtain ⟨ad,had,hc⟩:=jc.at HX.out hxq;dsimp only at had;subst had;have hc2:=(HW.out.cell (ky W _ hc)).trans hc;have HS:Hid (ji (lim size 8) (xs.take (q+1))=ji (lim size 8) (xs.take q)++low (lim size 8) x):=hJJ (by rw [Ka,hxq,Cd.j3E];simp [ji]);have hcall:=hJJ (jfp HB.out (by rw [ka,Cd.Jw,kR,HN.out];have:=Put.JI size 8;have:min q n*lim size 8<=n*8:=Ki (by omega) this;omega) size x);clear hc hxq hq2;go_wp2_with fail
   refine hcall.out.mono ?_;rintro e w' ⟨v',rfl,hb2,hb3⟩;have HB2:=hJJ hb2;have HW2:=hJJ (HW.out.trans (hb3.mono HW.out.size));clear hb2 hb3 hcall;go_wp2;go_roundw;case rel=>exact ⟨q+1,by omega,by go_num,by rw [HS.out,<-ku];exact HB2.out,HW2.out⟩
   case measure=>simp [intOf];omega
  obtain rfl:n=q:=by omega
  go_wp2;go_ret;exact ⟨_,rfl,by have:=HB.out;rwa [kV (by rw [HN.out];omega)] at this,HW.out⟩
theorem jbU {B B':Nat} {W:World} {v:Value} {l:List Nat} (h:Own B W v l) (hb:B'<=B):Own B' W v l:=by
 refine ⟨h.1,?_⟩;rcases h.2 with h0 | ⟨g,cap,cur,e,h1,h2⟩
 ·exact .inl h0
 exact .inr ⟨g,cap,cur,e,kD hb h1,h2⟩
theorem jfs {W:World} {v:Value} {l:List Nat} (h:Bv W v l) (hl:l.length<=10000) (size n:Int) :
  Calls Tryz.prog 27 #[v,.int .i64 size,.int .i64 n] W fun e W'=>∃ v',e=.returned v'/\Bv W' v' (l++low (lim size 8) n)/\Own W.heap.size W' v' (l++low (lim size 8) n)/\Below W.heap.size W W':=by
 obtain ⟨a,cap,rfl,hr,hn⟩:=h.row;exact (Put.j0X a cap l size n W hr hl hn).mono fun e W' ⟨v',h1,h2,h3⟩=>⟨v',h1,j8p h2 (h.b8.app (Put.Jk _ _)),h2,h3⟩
theorem jeN {W:World} {v:Value} {l:List Nat} (h:Bv W v l) {s:Sl} {xs:List Int} {n:Nat} (hn:xs.length=n) (hx:jc W s xs) (hl:l.length+8*n<=10000) (size:Int) :
  Calls Tryz.prog 31 #[v,.int .i64 size,.slice s.a n s.cap] W fun e W'=>∃ v',e=.returned v'/\(Bv W' v' (l++ji (lim size 8) xs)/\(0 < n->Own W.heap.size W' v' (l++ji (lim size 8) xs)))/\Below W.heap.size W W':=by
 have H:=hJJ h;have HX:=hJJ hx;have HN:=hJJ hn;obtain ⟨h1,h2⟩:=hx.len;have h3:n<=2000:=by omega
 obtain ⟨sa,cap⟩:=s;clear h hx hn h1;go_enter Tryz.func31,Tryz.ntmps31
 go_wp2_with fail
 go_loopw [0,7] (fun b i wr=>∃ q:Nat,q<=n/\i=.int .i64 (q:Int)/\(Bv wr b (l++ji (lim size 8) (xs.take q))/\(0 < q->Own W.heap.size wr b (l++ji (lim size 8) (xs.take q))))/\Below W.heap.size W wr) (fun _ i _=>n - (intOf i).toNat)
 case atStart=>exact ⟨0,by omega,rfl,⟨by simpa [ji] using H.out,fun h=>absurd h (by omega)⟩,km _ _⟩
 case round =>
  obtain ⟨q,hq,rfl,hb,hw⟩:=hrel;have HBO:=hJJ hb;have HB:=hJJ hb.1;have HW:=hJJ hw;clear hb hw;by_cases hlt:q < n
  ·have hq2:q < xs.length:=by rw [HN.out];exact hlt
   obtain ⟨x,hxq⟩:∃ x,xs[q]?=some x:=⟨_,kn hq2⟩;obtain ⟨ad,had,hc⟩:=jc.at HX.out hxq;dsimp only at had;subst had;have hc2:=(HW.out.cell (ky W _ hc)).trans hc;have HS:Hid (ji (lim size 8) (xs.take (q+1))=ji (lim size 8) (xs.take q)++low (lim size 8) x):=hJJ (by rw [Ka,hxq,Cd.j3E];simp [ji]);have hcall:=hJJ (jfs HB.out (by rw [ka,Cd.Jw,kR,HN.out];have:=Put.JI size 8;have:min q n*lim size 8<=n*8:=Ki (by omega) this;omega) size x);clear hc hxq hq2;go_wp2_with fail
   refine hcall.out.mono ?_;rintro e w' ⟨v',rfl,hb2,ho2,hb3⟩;have HO2:=hJJ (jbU ho2 HW.out.size);have HB2:=hJJ hb2;have HW2:=hJJ (HW.out.trans (hb3.mono HW.out.size));clear hb2 ho2 hb3 hcall;go_wp2;go_roundw;case rel=>exact ⟨q+1,by omega,by go_num,by rw [HS.out,<-ku];exact ⟨HB2.out,fun _=>HO2.out⟩,HW2.out⟩
   case measure=>simp [intOf];omega
  obtain rfl:n=q:=by omega
  go_wp2;go_ret;exact ⟨_,rfl,by have:=HBO.out;rwa [kV (by rw [HN.out];omega)] at this,HW.out⟩
end Rb
namespace Rb
open Zip
open Go Go.RowKit Go.ChangeShapes
open Go.Proofs.YtonpphjleapafaaGreat.B (Own)
open Tab
open Put (low lim)
open Cd (ji phB JE rlB bsB j0v grB J5 Few)
open Po (j41 zGr J1)
structure St (u W:World) (v:Value) (l:List Nat) (N:Nat):Prop where
 bv:Bv W v l
 low:Below u.heap.size u W
 len:l.length<=N
section
variable {u W W':World} {v:Value} {l:List Nat} {N:Nat}
theorem St.mem (h:St u W v l N) (hb:Below W.heap.size W W'):St u W' v l N:=⟨h.bv.below hb,h.low.trans (hb.mono h.low.size),h.len⟩
theorem j1b (h:St u W v l N) (hN:N<=10000) (size n:Int) :
  Calls Tryz.prog 27 #[v,.int .i64 size,.int .i64 n] W fun e W'=>∃ v',e=.returned v'/\St u W' v' (l++low (lim size 8) n) (N+8)/\Below W.heap.size W W' :=
 (jfp h.bv (by have:=h.len;omega) size n).mono fun e W' ⟨v',h1,h2,h3⟩=>⟨v',h1,⟨h2,h.low.trans (h3.mono h.low.size),by rw [ka,Put.jE];have:=Put.JI size 8;have:=h.len;omega⟩,h3⟩
theorem j4l (h:St u W v l N) (hN:N<=10000) (x:Nat) :
  Calls Tryz.prog 32 #[v,.float .f64 x] W fun e W'=>∃ v',e=.returned v'/\St u W' v' (l++low 8 x) (N+8)/\Below W.heap.size W W' :=
 (jfq h.bv (by have:=h.len;omega) x).mono fun e W' ⟨v',h1,h2,h3⟩=>⟨v',h1,⟨h2,h.low.trans (h3.mono h.low.size),by rw [ka,Put.jE];have:=h.len;omega⟩,h3⟩
theorem j0I (h:St u W v l N) {s:Sl} {xs:List Int} {n:Nat} (hn:xs.length=n) (hx:jc W s xs) (hN:N+8*n<=10000) (size:Int) :
  Calls Tryz.prog 31 #[v,.int .i64 size,.slice s.a n s.cap] W fun e W'=>∃ v',e=.returned v'/\St u W' v' (l++ji (lim size 8) xs) (N+8*n)/\Below W.heap.size W W' :=
 (jfr h.bv hn hx (by have:=h.len;omega) size).mono fun e W' ⟨v',h1,h2,h3⟩=>⟨v',h1,⟨h2,h.low.trans (h3.mono h.low.size),by
  rw [ka,Cd.Jw,hn];have:=h.len;have:n*lim size 8<=n*8:=K5 _ (Put.JI size 8);omega⟩,h3⟩
end
theorem jbV {u W:World} {v:Value} {l:List Nat} {N:Nat} (h:St u W v l N) {s:Sl} {xs:List Int} {n:Nat} (hn:xs.length=n) (hx:jc W s xs) (hN:N+8*n<=10000) (size:Int) :
  Calls Tryz.prog 31 #[v,.int .i64 size,.slice s.a n s.cap] W fun e W'=>∃ v',e=.returned v'/\St u W' v' (l++ji (lim size 8) xs) (N+8*n)/\(0 < n->Own W.heap.size W' v' (l++ji (lim size 8) xs))/\Below W.heap.size W W' :=
 (jeN h.bv hn hx (by have:=h.len;omega) size).mono fun e W' ⟨v',h1,h2,h3⟩=>⟨v',h1,⟨h2.1,h.low.trans (h3.mono h.low.size),by
  rw [ka,Cd.Jw,hn];have:=h.len;have:n*lim size 8<=n*8:=K5 _ (Put.JI size 8);omega⟩,h2.2,h3⟩
theorem jT:(Tryz.prog.info? 71).map (·.size)=some 7:=by kernel_rfl
theorem jH:(Tryz.prog.info? 75).map (·.size)=some 11:=by kernel_rfl
theorem jbW (W:World):B.Row (W.alloc (.cells #[.int .u8 88,.int .u8 66,.int .u8 1] 5)) (some ⟨W.heap.size,0,none⟩) [88,66,1]:=by
 refine ⟨by decide,by decide,.inr ⟨_,rfl,fun i hi=>?_⟩⟩;rw [Po.Jg,Kp _ _ _ _ _ _ (Kr W _)]
 match i,hi with
 | 0,_=>rfl
 | 1,_=>rfl
 | 2,_=>rfl
theorem jaa {T:Tab} {hd:Hd} {w:World} (ht:jy w hd T) (few:Few T) :
  Calls Tryz.prog 10 #[.agg (T.cells hd).toArray] w fun e w'=>∃ v,e=.returned v/\(Bv w' v (Cd.J0 T)/\Own w.heap.size w' v (Cd.J0 T))/\Below w.heap.size w w':=by
 obtain ⟨⟨ga,gcap⟩,⟨da,dcap⟩,⟨ra,rcap⟩,⟨sa,scap⟩⟩:=hd;have C:=j9 ht;obtain ⟨gs,hgd,hgl⟩:=ht.groups;have hgn:gs.length=T.groups.length:=by rw [<-hgd,kt]
 have IA:Hid ((Tryz.prog.info? 33).map (·.size)=some (T.cells ⟨⟨ga,gcap⟩,⟨da,dcap⟩,⟨ra,rcap⟩,⟨sa,scap⟩⟩).length):=hJJ (by have:=C.size;rw [kC] at this;rw [this];exact May.jK);have h0:Below w.heap.size w (w.alloc (.cells (T.cells ⟨⟨ga,gcap⟩,⟨da,dcap⟩,⟨ra,rcap⟩,⟨sa,scap⟩⟩).toArray 33)):=(km _ _).alloc (ko _) _;have hg0:=Kr w (.cells (T.cells ⟨⟨ga,gcap⟩,⟨da,dcap⟩,⟨ra,rcap⟩,⟨sa,scap⟩⟩).toArray 33);have few2:=hJJ few;have HC:=hJJ C;have HGD:=hJJ hgd;have HGN:=hJJ hgn;have HGL:=hJJ (hgl.below h0);have HTT:=hJJ (ht.below h0);generalize hcc:(T.cells ⟨⟨ga,gcap⟩,⟨da,dcap⟩,⟨ra,rcap⟩,⟨sa,scap⟩⟩).toArray=c at HC h0 hg0 HGL HTT |-;have hsz:=HC.out.size;clear C hgd hgn hgl few ht IA hcc;have SZ:=hJJ hsz;clear hsz;go_enter Tryz.func10,Tryz.ntmps10
 go_upto_region 1 with fail
 generalize kq w _=u at h0 hg0 HGL HTT |-;generalize hgt:w.heap.size=tb at hg0 |-;have HB0:=hJJ h0;have HBX:=hJJ hg0;have CL:Hid (∀ (j:Nat) (x:Value),c[j]?=some x->∀ W,Below u.heap.size u W->W.cell? ⟨tb,j,none⟩=some x):=hJJ (fun j x hx W hb=>by rw [Kp _ _ _ _ _ _ ((hb.block tb (kl.1 HBX.out).1).trans HBX.out)];exact hx)
 have PLI:Hid (∀ q:Nat,q < 8->∀ W,Below u.heap.size u W->jl W ⟨tb,q*13,none⟩ (T.phases.getD q default).cells):=hJJ (fun q hq W hb=>by
  have hp:=HC.out.phase q _ (kn (by rw [HTT.out.ph];exact hq));rw [Km] at hp;rw [show T.phases.getD q default=T.phases[q]'(by rw [HTT.out.ph];exact hq) by simp [K2,kn (show q < T.phases.length by rw [HTT.out.ph];exact hq)]];intro j x hj;rw [Po.Jg];have hj13:j < 13:=by have:=(List.getElem?_eq_some_iff.1 hj).1;simpa [Ph.cells] using this
  refine CL.out _ x ?_ W hb;rw [<-Array.getElem?_toList,Po.j4a hp rfl hj13];exact hj)
 clear h0 hg0;go_upto_region 3 with fail
 have hst:St u (u.alloc (.cells #[.int .u8 88,.int .u8 66,.int .u8 1] 5)) (.slice (some ⟨u.heap.size,0,none⟩) 3 3) [88,66,1] 3 :=
  ⟨⟨by intro x hx;simp at hx;omega,_,3,rfl,jbW u,fun h=>by cases h⟩,(km _ _).alloc (ko _) _,ko _⟩
 generalize kq u _=u1 at hst |-;generalize (Value.slice (some ⟨u.heap.size,0,none⟩) 3 3)=b0 at hst |-;have HST:=hJJ hst;clear hst;go_wp2_with fail
 go_loopw [3,4] (fun b i wr=>∃ q:Nat,q<=8/\i=.int .i64 (q:Int)/\St u wr b ([88,66,1]++(kp q).flatMap (fun q=>phB (T.phases.getD q default))) (3+104*q)) (fun _ i _=>8 - (intOf i).toNat)
 case atStart=>exact ⟨0,by omega,rfl,by simpa using HST.out⟩
 case round =>
  obtain ⟨q,hq,rfl,hst⟩:=hrel;have HST:=hJJ hst;clear hst;by_cases hlt:q < 8
  ·have HPL:=hJJ (PLI.out q hlt wr HST.out.low);have HPH:Hid (([88,66,1]++(kp (q+1)).flatMap (fun q=>phB (T.phases.getD q default)))=([88,66,1]++(kp q).flatMap (fun q=>phB (T.phases.getD q default)))++phB (T.phases.getD q default)):=hJJ (by rw [kE,kA,kz,ku]);generalize [88,66,1]++(kp q).flatMap (fun q=>phB (T.phases.getD q default))=Lq at HST HPH;generalize T.phases.getD q default=p at HPL HPH;have IP:(Tryz.prog.info? 25).map (·.size)=some p.cells.length:=May.jG;go_upto_region 6 with (first | (refine Row.jV rfl 25 _ rfl ⟨tb,q*13,none⟩ rfl p.cells _ HPL.out Tryz.underlying25 rfl IP ?_) | (refine Row.jh rfl 25 _ _ rfl _ _ p.cells.toArray rfl rfl rfl May.jG rfl (Ph.one _) ?_))
   dsimp only [kh]
   (try simp only [kb,kf,ke])
   have hst:=HST.out.mem ((km _ _).alloc (ko _) (.cells p.cells.toArray 25));have hg:=Kr wr (.cells p.cells.toArray 25);generalize kq wr _=W1 at hst hg |-;generalize wr.heap.size=gx at hg |-;clear HST HPL;have k0:W1.cell? ⟨gx,0,none⟩=some (.bool p.on):=by rw [Kp _ _ _ _ _ _ hg];rfl
   have HST:=hJJ hst;have HG:=hJJ hg;clear hst hg;go_wp2_with (go_at_call 30;refine (j97 _ _).mono ?_;rintro e w' ⟨rfl,rfl⟩)
   refine (j1b HST.out (by omega) 1 _).mono ?_;rintro e W2 ⟨v2,rfl,hst,hb⟩;have hg:=(hb.block gx (kl.1 HG.out).1).trans HG.out;have HST2:=hJJ hst;clear hst hb k0 HST HG;have k1:W2.cell? ⟨gx,1,none⟩=some (I p.min):=by rw [Kp _ _ _ _ _ _ hg];rfl
   have k2:W2.cell? ⟨gx,2,none⟩=some (I p.gap):=by rw [Kp _ _ _ _ _ _ hg];rfl
   have k3:W2.cell? ⟨gx,3,none⟩=some (I p.max):=by rw [Kp _ _ _ _ _ _ hg];rfl
   have k4:W2.cell? ⟨gx,4,none⟩=some (I p.top):=by rw [Kp _ _ _ _ _ _ hg];rfl
   have k5:W2.cell? ⟨gx,5,none⟩=some (I p.step):=by rw [Kp _ _ _ _ _ _ hg];rfl
   have k6:W2.cell? ⟨gx,6,none⟩=some (I p.yellow):=by rw [Kp _ _ _ _ _ _ hg];rfl
   have k7:W2.cell? ⟨gx,7,none⟩=some (I p.red):=by rw [Kp _ _ _ _ _ _ hg];rfl
   have k8:W2.cell? ⟨gx,8,none⟩=some (I p.walk):=by rw [Kp _ _ _ _ _ _ hg];rfl
   have k9:W2.cell? ⟨gx,9,none⟩=some (I p.blinks):=by rw [Kp _ _ _ _ _ _ hg];rfl
   have HG:=hJJ hg;clear hg;go_wp2_with fail
   refine (j0I (n:=9) (xs:=[p.min,p.gap,p.max,p.top,p.step,p.yellow,p.red,p.walk,p.blinks]) (s:=⟨some ⟨W2.heap.size,0,none⟩,9⟩) (HST2.out.mem ((km _ _).alloc (ko _) _)) rfl (May.jg W2 3 [p.min,p.gap,p.max,p.top,p.step,p.yellow,p.red,p.walk,p.blinks] 9 rfl (by decide) _ rfl) (by omega) 2).mono ?_;rintro e W3 ⟨v3,rfl,hst,hb⟩;have hg:=(hb.block gx (by have:=(kl.1 HG.out).1;simp;omega)).trans ((Below.heap_alloc _ _ _ (kl.1 HG.out).1).trans HG.out);have HST3:=hJJ hst;clear hst hb k1 k2 k3 k4 k5 k6 k7 k8 k9 HST2 HG;have HG:=hJJ hg;clear hg;go_upto_region 8 with fail
   have q10:∀ r:QB.By W3.heap.size W3,r.world.cell? ⟨gx,10,none⟩=some (I p.J4):=fun r=>by rw [Kp _ _ _ _ _ _ ((r.below.block gx (kl.1 HG.out).1).trans HG.out)];rfl
   have q11:∀ r:QB.By W3.heap.size W3,r.world.cell? ⟨gx,11,none⟩=some (.bool p.lock):=fun r=>by rw [Kp _ _ _ _ _ _ ((r.below.block gx (kl.1 HG.out).1).trans HG.out)];rfl
   have q12:∀ r:QB.By W3.heap.size W3,r.world.cell? ⟨gx,12,none⟩=some (.bool p.rest):=fun r=>by rw [Kp _ _ _ _ _ _ ((r.below.block gx (kl.1 HG.out).1).trans HG.out)];rfl
   refine QT.j0q W3.heap.size 9 (by kernel_rfl) (by kernel_rfl) (by kernel_rfl) (by kernel_rfl) (v:=v3) (fun _ _ _ h=>h) (Or.inl ⟨by rfl,fun w'=>by go_simp;try rfl⟩) ?_;dsimp only [kh];simp only [kb,kf,ke,List.take_succ_cons,List.take_zero,K6,Kj]
   repeat (quiet_step (first
    | (go_at_call 30;exact QB.j8q (ko _) (fun b=>(j97 _ _).mono fun e w' h=>⟨h.1,by rw [<-h.2];exact km _ _⟩))))
   refine wpQuiet_nil ?_;intro _ hw';obtain ⟨r,rfl⟩:=hw';have hst:=HST3.out.mem r.below;clear q10 q11 q12 HST3 HG;generalize r.world=W4 at hst |-
   (try simp only [K6,Kj])
   have HST4:=hJJ hst;clear hst;go_wp2_with fail
   refine (j0I (n:=3) (xs:=[p.J4,Cd.one p.lock,Cd.one p.rest]) (s:=⟨some ⟨W4.heap.size,0,none⟩,3⟩) (HST4.out.mem ((km _ _).alloc (ko _) _)) rfl (May.jg W4 3 [p.J4,Cd.one p.lock,Cd.one p.rest] 3 rfl (by decide) _ rfl) (by omega) 1).mono ?_;rintro e W5 ⟨v5,rfl,hst,hb⟩;have HST5:=hJJ hst;clear hst hb HST4;go_wp2;go_roundw
   case rel=>exact ⟨q+1,by omega,by go_num,by
    have:=HST5.out;rw [HPH.out]
    have e:((Lq++low (lim 1 8) (Cd.one p.on))++ji (lim 2 8) [p.min,p.gap,p.max,p.top,p.step,p.yellow,p.red,p.walk,p.blinks])++ji (lim 1 8) [p.J4,Cd.one p.lock,Cd.one p.rest]=Lq++phB p:=by
     simp only [ku,phB,show lim 1 8=1 from rfl,show lim 2 8=2 from rfl];simp [ji]
    rw [e] at this;exact ⟨this.bv,this.low,by have:=this.len;omega⟩⟩
   case measure=>simp [intOf];omega
  obtain rfl:q=8:=by omega
  have hst:St u wr u3 ([88,66,1]++T.phases.flatMap phB) 1000:=by
   have:=HST.out;rw [show (kp 8).flatMap (fun q=>phB (T.phases.getD q default))=T.phases.flatMap phB from by rw [<-HTT.out.ph];exact J1 phB default T.phases] at this;exact ⟨this.bv,this.low,by have:=this.len;omega⟩
  clear HST PLI;obtain ⟨L1,hL1⟩:∃ x,x=[88,66,1]++T.phases.flatMap phB:=⟨_,rfl⟩;rw [<-hL1] at hst;have EL1:=hJJ hL1;have HST:=hJJ hst;clear hL1 hst;obtain ⟨nG,hnG⟩:∃ n,n=T.groups.length:=⟨_,rfl⟩;obtain ⟨nD,hnD⟩:∃ n,n=T.dets.length:=⟨_,rfl⟩;obtain ⟨nR,hnR⟩:∃ n,n=T.rails.length:=⟨_,rfl⟩;obtain ⟨nS,hnS⟩:∃ n,n=T.buses.length:=⟨_,rfl⟩;have CG:Hid (∀ W,Below u.heap.size u W->W.cell? ⟨tb,104,none⟩=some (.slice ga nG gcap)):=hJJ (by rw [hnG];exact CL.out 104 _ HC.out.g);have CD:Hid (∀ W,Below u.heap.size u W->W.cell? ⟨tb,113,none⟩=some (.slice da nD dcap)):=hJJ (by rw [hnD];exact CL.out 113 _ HC.out.d);have CR:Hid (∀ W,Below u.heap.size u W->W.cell? ⟨tb,114,none⟩=some (.slice ra nR rcap)):=hJJ (by rw [hnR];exact CL.out 114 _ HC.out.r);have CS:Hid (∀ W,Below u.heap.size u W->W.cell? ⟨tb,115,none⟩=some (.slice sa nS scap)):=hJJ (by rw [hnS];exact CL.out 115 _ HC.out.b);have nG4:nG<=4:=by rw [hnG];exact few2.out.g
  have nD16:nD<=16:=by rw [hnD];exact few2.out.d
  have nR4:nR<=4:=by rw [hnR];exact few2.out.r
  have nS4:nS<=4:=by rw [hnS];exact few2.out.b
  obtain ⟨gb,go,HGB⟩:∃ b o,Hid (0 < nG->ga=some ⟨b,o,none⟩):=by
   by_cases h0:0 < gs.length
   ·obtain ⟨x,hx,hl⟩:=HGL.out.1.at (kn h0);rw [kW,add_zero] at hl;exact ⟨x.block,x.off,hJJ (fun _=>by rw [show ga=some x from hx,<-Po.j0G hl (by simp [Gr.cells])])⟩
   exact ⟨0,0,hJJ (fun h1=>absurd h1 (by rw [hnG,<-HGN.out];exact h0))⟩
  have NG:=hJJ hnG;have ND:=hJJ hnD;have NR:=hJJ hnR;have NS:=hJJ hnS;clear hnG hnD hnR hnS;have kg:=CG.out wr HST.out.low;go_wp2_with fail
  refine (j1b HST.out (by omega) 1 _).mono ?_;rintro e W6 ⟨v6,rfl,hst,hb⟩;obtain ⟨L2,hL2⟩:∃ x,x=L1++low (lim 1 8) (nG:Int):=⟨_,rfl⟩;rw [<-hL2] at hst;have EL2:=hJJ hL2;have HST6:=hJJ hst;clear hL2 hst hb HST kg;have G8:Hid (∀ g ∈ gs,g.r0.length<=8/\g.r1.length<=8):=hJJ (fun g hg=>few2.out.row g.data (by rw [<-HGD.out];exact kL hg));go_wp2_with fail
  go_loopw [3,6] (fun b i wr=>∃ q:Nat,q<=nG/\i=.int .i64 (q:Int)/\St u wr b (L2++(kp q).flatMap (fun q=>grB (gs.getD q zGr).data)) (1008+144*q)) (fun _ i _=>nG - (intOf i).toNat)
  case atStart=>exact ⟨0,by omega,rfl,by simpa using HST6.out⟩
  case round =>
   obtain ⟨q,hq,rfl,hst⟩:=hrel;have HST:=hJJ hst;clear hst HST6;have kg:=CG.out wr HST.out.low;by_cases hlt:q < nG
   ·have hqg:q < gs.length:=by rw [HGN.out,<-NG.out];exact hlt
    obtain rfl:ga=some ⟨gb,go,none⟩:=HGB.out (by omega);obtain ⟨x,hx,hl⟩:=HGL.out.1.at (kn hqg);obtain rfl:=kH hx;rw [Po.Jg] at hl;have hg0:gs.getD q zGr=gs[q]:=by simp [K2,kn hqg]
    have HGQ:Hid ((kp (q+1)).flatMap (fun q=>grB (gs.getD q zGr).data)=(kp q).flatMap (fun q=>grB (gs.getD q zGr).data)++grB (gs[q]).data):=hJJ (by rw [kE,kA,kz,hg0]);have hok:=HGL.out.2 _ (Ke hqg);have h8:=G8.out _ (Ke hqg);generalize gs[q]=g at hl HGQ hok h8
    have KR:Hid (∀ j:Nat,j < 2->∃ (s:Sl) (xs:List Int) (n:Nat),xs=j41 g j/\xs.length=n/\n<=8/\jc u s xs/\∀ W,Below u.heap.size u W->W.cell? ⟨gb,go+q*2+j,none⟩=some (.slice s.a n s.cap)):=hJJ (fun j hj=>by
     rcases (show j=0\/j=1 by omega) with rfl | rfl
     ·refine ⟨g.s0,g.r0,g.r0.length,rfl,rfl,h8.1,hok.1,fun W hb=>?_⟩;have hc:=hl 0 _ rfl;rw [Po.Jg] at hc;exact (hb.cell (ky u _ hc)).trans hc
     refine ⟨g.s1,g.r1,g.r1.length,rfl,rfl,h8.2,hok.2,fun W hb=>?_⟩;have hc:=hl 1 _ rfl;rw [Po.Jg] at hc;exact (hb.cell (ky u _ hc)).trans hc)
    clear hl hok h8 hg0 hx hqg;generalize (kp q).flatMap (fun q=>grB (gs.getD q zGr).data)=Gq at HST HGQ;obtain ⟨L3,hL3⟩:∃ x,x=L2++Gq:=⟨_,rfl⟩;rw [<-hL3] at HST;have EL3:=hJJ hL3;clear hL3;go_wp2_with fail
    clear kg;rename World=>wo
    go_loopw [3,7] (fun b i wr=>∃ j:Nat,j<=2/\i=.int .i64 (j:Int)/\St u wr b (L3++(kp j).flatMap (fun j=>j0v (j41 g j))) (1008+144*q+72*j)) (fun _ i _=>2 - (intOf i).toNat)
    case atStart=>exact ⟨0,by omega,rfl,by simpa using HST.out⟩
    case round =>
     obtain ⟨j,hj,rfl,hst⟩:=hrel;have HST:=hJJ hst;clear hst;by_cases hlj:j < 2
     ·obtain ⟨⟨xa,xcap⟩,xs,xn,hxr,hxn,hx8,hir,hcell⟩:=KR.out j hlj;have HCE:=hJJ hcell;have HIR:=hJJ hir;have HXN:=hJJ hxn;have HRQ:Hid ((kp (j+1)).flatMap (fun j=>j0v (j41 g j))=(kp j).flatMap (fun j=>j0v (j41 g j))++j0v xs):=hJJ (by rw [kE,kA,kz,hxr]);clear hcell hir hxn hxr;generalize (kp j).flatMap (fun j=>j0v (j41 g j))=Rj at HST HRQ;have HLW:Hid (∀ W,Below wr.heap.size wr W->Below u.heap.size u W):=hJJ (fun W hb=>HST.out.low.trans (hb.mono HST.out.low.size));go_upto_region 16 with fail
      refine Ku (S:=fun w'=>Below wr.heap.size wr w') (by kernel_rfl) ?_;have hS:Below wr.heap.size wr { wr with drawn:=wr.drawn+1 }:=(km _ _).drew;have hst:=HST.out.mem hS;generalize ({ wr with drawn:=wr.drawn+1 }:World)=V at hS hst |-;have HSV:=hJJ hst;clear hst HST;refine tkZ 0 75 ?_ rfl ?_ hS ?_;rotate_left
      ·intro w' hw';go_simp
       try with_reducible rfl
      (try dsimp only [kh]);(try simp only [zA,zB,zC])
      refine tkZ 1 76 ?_ rfl ?_ hS ?_;rotate_left
      ·intro w' hw';go_simp
       try with_reducible rfl
      (try dsimp only [kh]);(try simp only [zA,zB,zC])
      refine tkZ 2 77 ?_ rfl ?_ hS ?_;rotate_left
      ·intro w' hw';have cf0:=(fun w' hw'=>CG.out w' (HLW.out w' hw')) w' hw';go_simp
       try with_reducible rfl
      (try dsimp only [kh]);(try simp only [zA,zB,zC])
      refine tkZ 3 78 ?_ rfl ?_ hS ?_;rotate_left
      ·intro w' hw';go_simp
       try with_reducible rfl
      (try dsimp only [kh]);(try simp only [zA,zB,zC])
      refine tkZ 4 79 ?_ rfl ?_ hS ?_;rotate_left
      ·intro w' hw';go_simp
       try with_reducible rfl
      (try dsimp only [kh]);(try simp only [zA,zB,zC])
      refine tkZ 5 80 ?_ rfl ?_ hS ?_;rotate_left
      ·intro w' hw';go_simp
       try with_reducible rfl
      (try dsimp only [kh]);(try simp only [zA,zB,zC])
      refine tkZ 6 81 ?_ rfl ?_ hS ?_;rotate_left
      ·intro w' hw';go_simp
       try with_reducible rfl
      (try dsimp only [kh]);(try simp only [zA,zB,zC])
      refine tkZ 7 82 ?_ rfl ?_ hS ?_;rotate_left
      ·intro w' hw';have cf0:=(fun w' hw'=>HCE.out w' (HLW.out w' hw')) w' hw';go_simp
       try with_reducible rfl
      (try dsimp only [kh]);(try simp only [zA,zB,zC])
      refine tkZ 8 83 ?_ rfl ?_ hS ?_;rotate_left
      ·intro w' hw';go_simp
       try with_reducible rfl
      (try dsimp only [kh]);(try simp only [zA,zB,zC])
      refine tkZ 10 85 ?_ rfl ?_ hS ?_;rotate_left
      ·intro w' hw';go_simp
       try with_reducible rfl
      (try dsimp only [kh]);(try simp only [zA,zB,zC])
      refine tkZ 11 86 ?_ rfl ?_ hS ?_;rotate_left
      ·intro w' hw';have cf0:=(fun w' hw'=>CG.out w' (HLW.out w' hw')) w' hw';go_simp
       try with_reducible rfl
      (try dsimp only [kh]);(try simp only [zA,zB,zC])
      refine tkZ 12 87 ?_ rfl ?_ hS ?_;rotate_left
      ·intro w' hw';go_simp
       try with_reducible rfl
      (try dsimp only [kh]);(try simp only [zA,zB,zC])
      refine tkZ 13 88 ?_ rfl ?_ hS ?_;rotate_left
      ·intro w' hw';go_simp
       try with_reducible rfl
      (try dsimp only [kh]);(try simp only [zA,zB,zC])
      refine tkZ 14 89 ?_ rfl ?_ hS ?_;rotate_left
      ·intro w' hw';go_simp
       try with_reducible rfl
      (try dsimp only [kh]);(try simp only [zA,zB,zC])
      refine tkZ 15 90 ?_ rfl ?_ hS ?_;rotate_left
      ·intro w' hw';go_simp
       try with_reducible rfl
      (try dsimp only [kh]);(try simp only [zA,zB,zC])
      refine tkZ 16 91 ?_ rfl ?_ hS ?_;rotate_left
      ·intro w' hw';have cf0:=(fun w' hw'=>HCE.out w' (HLW.out w' hw')) w' hw';go_simp
       try with_reducible rfl
      (try dsimp only [kh]);(try simp only [zA,zB,zC])
      refine rdZ 9 rfl (fun K hK=>?_);go_simp
      refine (j1b HSV.out (by omega) 1 _).mono ?_;rintro e V2 ⟨v2,rfl,hst,hb⟩;have hq:=hS.trans (hb.mono hS.size);have HSV2:=hJJ hst;clear hS hb hst HSV;rename World=>V
      rename Value=>v2
      have HSV:=HSV2;clear HSV2;go_simp
      refine hK.out _ _ hq (fun hS=>?_);clear hK K hq
      (try dsimp only [kh]);(try simp only [zA,zB,zC])
      refine rdZ 17 rfl (fun K hK=>?_);go_simp
      refine (j0I (n:=xn) (s:=⟨xa,xcap⟩) HSV.out HXN.out (HIR.out.below HSV.out.low) (by omega) 1).mono ?_;rintro e V2 ⟨v2,rfl,hst,hb⟩;have hq:=hS.trans (hb.mono hS.size);have HSV2:=hJJ hst;clear hS hb hst HSV;rename World=>V
      rename Value=>v2
      have HSV:=HSV2;clear HSV2;go_simp
      refine hK.out _ _ hq (fun hS=>?_);clear hK K hq
      (try dsimp only [kh]);(try simp only [zA,zB,zC])
      refine tkZ 18 3 ?_ rfl ?_ hS ?_;rotate_left
      ·intro w' hw';go_simp
       try with_reducible rfl
      (try dsimp only [kh]);(try simp only [zA,zB,zC])
      refine Kt (by kernel_rfl) ?_ _;go_wp2;go_roundw
      case rel=>exact ⟨j+1,by omega,by go_num,by
       have:=HSV.out;rw [HRQ.out]
       have e:((L3++Rj)++low (lim 1 8) (xn:Int))++ji (lim 1 8) xs=L3++(Rj++j0v xs):=by
        simp only [ku,j0v,show lim 1 8=1 from rfl,HXN.out]
       rw [e] at this;exact ⟨this.bv,this.low,by have:=this.len;omega⟩⟩
      case measure=>simp [intOf];omega
     obtain rfl:j=2:=by omega
     have hst:St u wr u3 (L2++(Gq++grB g.data)) (1008+144*(q+1)):=by
      have:=HST.out;rw [show (kp 2).flatMap (fun j=>j0v (j41 g j))=grB g.data from by simp [show kp 2=[0,1] from rfl,grB,j41,Gr.data],EL3.out,ku] at this;exact ⟨this.bv,this.low,by have:=this.len;omega⟩
     have HSX:=hJJ hst;clear hst HST;go_wp2;go_roundw;case rel=>exact ⟨q+1,by omega,by go_num,by rw [HGQ.out];exact HSX.out⟩
     case measure=>simp [intOf];omega
   obtain rfl:nG=q:=by omega
   obtain ⟨L4,hL4⟩:∃ x,x=L2++T.groups.flatMap grB:=⟨_,rfl⟩
   have hst:St u wr u3 L4 1584:=by
    have:=HST.out;rw [show (kp nG).flatMap (fun q=>grB (gs.getD q zGr).data)=T.groups.flatMap grB from by rw [NG.out,<-HGN.out,J1 (fun g:Gr=>grB g.data) zGr gs,<-HGD.out,Kc],<-hL4] at this;exact ⟨this.bv,this.low,by have:=this.len;omega⟩
   have EL4:=hJJ hL4;clear HST hL4;have HST:=hJJ hst;clear hst;go_upto_region 17 with fail
   have HLW:Hid (∀ W,Below wr.heap.size wr W->Below u.heap.size u W):=hJJ (fun W hb=>HST.out.low.trans (hb.mono HST.out.low.size));have CFR:Hid (∀ W,Below u.heap.size u W->jc W ⟨some ⟨tb,105,none⟩,8⟩ T.conflict):=hJJ (fun W hb=>May.j4c ((hb.block tb (kl.1 HBX.out).1).trans HBX.out) 105 8 T.conflict HC.out.conflict HTT.out.cf (by decide));refine Ku (S:=fun w'=>Below wr.heap.size wr w') (by kernel_rfl) ?_;have hS:Below wr.heap.size wr { wr with drawn:=wr.drawn+1 }:=(km _ _).drew;have hst:=HST.out.mem hS;generalize ({ wr with drawn:=wr.drawn+1 }:World)=V at hS hst |-;have HSV:=hJJ hst;clear hst HST;refine tkZ 0 93 ?_ rfl ?_ hS ?_;rotate_left
   ·intro w' hw';go_simp
    try with_reducible rfl
   (try dsimp only [kh]);(try simp only [zA,zB,zC])
   refine tkZ 1 94 ?_ rfl ?_ hS ?_;rotate_left
   ·intro w' hw';go_simp
    try with_reducible rfl
   (try dsimp only [kh]);(try simp only [zA,zB,zC])
   refine tkZ 2 95 ?_ rfl ?_ hS ?_;rotate_left
   ·intro w' hw';go_simp
    try with_reducible rfl
   (try dsimp only [kh]);(try simp only [zA,zB,zC])
   refine tkZ 4 97 ?_ rfl ?_ hS ?_;rotate_left
   ·intro w' hw';go_simp
    try with_reducible rfl
   (try dsimp only [kh]);(try simp only [zA,zB,zC])
   refine tkZ 5 98 ?_ rfl ?_ hS ?_;rotate_left
   ·intro w' hw';have cf0:=(fun w' hw'=>CD.out w' (HLW.out w' hw')) w' hw';go_simp
    try with_reducible rfl
   (try dsimp only [kh]);(try simp only [zA,zB,zC])
   refine tkZ 6 99 ?_ rfl ?_ hS ?_;rotate_left
   ·intro w' hw';go_simp
    try with_reducible rfl
   (try dsimp only [kh]);(try simp only [zA,zB,zC])
   refine rdZ 3 rfl (fun K hK=>?_);go_simp
   refine (j0I (n:=8) (s:=⟨some ⟨tb,105,none⟩,8⟩) HSV.out HTT.out.cf (CFR.out V HSV.out.low) (by omega) 1).mono ?_;rintro e V2 ⟨v2,rfl,hst,hb⟩;have hq:=hS.trans (hb.mono hS.size);have HSV2:=hJJ hst;clear hS hb hst HSV;rename World=>V
   rename Value=>v2
   have HSV:=HSV2;clear HSV2;go_simp
   refine hK.out _ _ hq (fun hS=>?_);clear hK K hq
   (try dsimp only [kh]);(try simp only [zA,zB,zC])
   refine rdZ 7 rfl (fun K hK=>?_);go_simp
   refine (j1b HSV.out (by omega) 1 _).mono ?_;rintro e V2 ⟨v2,rfl,hst,hb⟩;have hq:=hS.trans (hb.mono hS.size);have HSV2:=hJJ hst;clear hS hb hst HSV;rename World=>V
   rename Value=>v2
   have HSV:=HSV2;clear HSV2;go_simp
   refine hK.out _ _ hq (fun hS=>?_);clear hK K hq
   (try dsimp only [kh]);(try simp only [zA,zB,zC])
   refine tkZ 8 3 ?_ rfl ?_ hS ?_;rotate_left
   ·intro w' hw';go_simp
    try with_reducible rfl
   (try dsimp only [kh]);(try simp only [zA,zB,zC])
   refine Kt (by kernel_rfl) ?_ _;rename World=>wv
   obtain ⟨L5,hL5⟩:∃ x,x=(L4++ji (lim 1 8) T.conflict)++low (lim 1 8) (nD:Int):=⟨_,rfl⟩;have HSW:Hid (St u wv v2 L5 (1584+8*8+8)):=hJJ (by rw [hL5];exact HSV.out);have EL5:=hJJ hL5;clear HSV hL5 kg HGB G8
   obtain ⟨db,dof,HDB⟩:∃ b o,Hid (0 < nD->da=some ⟨b,o,none⟩):=by
    by_cases h0:0 < T.dets.length
    ·obtain ⟨x,hx,hl⟩:=HTT.out.dets.at (kn h0);rw [kW,add_zero] at hl;exact ⟨x.block,x.off,hJJ (fun _=>by rw [show da=some x from hx,<-Po.j0G hl (by simp [Det.cells])])⟩
    exact ⟨0,0,hJJ (fun h1=>absurd h1 (by rw [ND.out];exact h0))⟩
   go_wp2_with fail
   go_loopw [3,8] (fun b i wr=>∃ q:Nat,q<=nD/\i=.int .i64 (q:Int)/\St u wr b (L5++(kp q).flatMap (fun q=>JE (T.dets.getD q default))) (1656+56*q)) (fun _ i _=>nD - (intOf i).toNat)
   case atStart=>exact ⟨0,by omega,rfl,by simpa using HSW.out⟩
   case round =>
    obtain ⟨q,hq,rfl,hst⟩:=hrel;have HST:=hJJ hst;clear hst HSW;have kd:=CD.out wr HST.out.low;by_cases hlt:q < nD
    ·obtain rfl:da=some ⟨db,dof,none⟩:=HDB.out (by omega);have hqd:q < T.dets.length:=by rw [<-ND.out];exact hlt
     obtain ⟨x,hx,hl⟩:=HTT.out.dets.at (kn hqd);obtain rfl:=kH hx;rw [Po.Jg] at hl;have hd0:T.dets.getD q default=T.dets[q]:=by simp [K2,kn hqd]
     have HDQ:Hid ((kp (q+1)).flatMap (fun q=>JE (T.dets.getD q default))=(kp q).flatMap (fun q=>JE (T.dets.getD q default))++JE T.dets[q]):=hJJ (by rw [kE,kA,kz,hd0]);have HDL:=hJJ (hl.below HST.out.low);clear hx hl hd0;generalize T.dets[q]=d at HDQ HDL;clear hqd;generalize (kp q).flatMap (fun q=>JE (T.dets.getD q default))=Gq at HST HDQ;have ID:(Tryz.prog.info? 71).map (·.size)=some d.cells.length:=jT;go_upto_region 22 with (first | (refine Row.jV rfl 71 _ rfl ⟨db,dof+q*7,none⟩ rfl d.cells _ HDL.out Tryz.underlying71 rfl ID ?_) | (refine Row.jh rfl 71 _ _ rfl _ _ d.cells.toArray rfl rfl rfl ID rfl (Det.one _) ?_))
     dsimp only [kh]
     (try simp only [kb,kf,ke])
     have hst:=HST.out.mem ((km _ _).alloc (ko _) (.cells d.cells.toArray 71));have hg:=Kr wr (.cells d.cells.toArray 71);generalize kq wr _=W1 at hst hg |-;generalize wr.heap.size=gx at hg |-;clear HST HDL kd;have HST:=hJJ hst;have HG:=hJJ hg;clear hst hg;have CX:Hid (∀ (j:Nat) (x:Value),d.cells[j]?=some x->∀ W,Below W1.heap.size W1 W->W.cell? ⟨gx,j,none⟩=some x):=hJJ (fun j x hx W hb=>by rw [Kp _ _ _ _ _ _ ((hb.block gx (kl.1 HG.out).1).trans HG.out)];simpa using hx);have HGL0:Hid (gx < W1.heap.size):=hJJ (kl.1 HG.out).1;refine Ku (S:=fun w'=>Below W1.heap.size W1 w') (by kernel_rfl) ?_;have hS:Below W1.heap.size W1 { W1 with drawn:=W1.drawn+1 }:=(km _ _).drew;have hst:=HST.out.mem hS;generalize ({ W1 with drawn:=W1.drawn+1 }:World)=V at hS hst |-;have HSV:=hJJ hst;clear hst HST;refine tkZ 0 113 ?_ rfl ?_ hS ?_;rotate_left
     ·intro w' hw';go_simp
      try with_reducible rfl
     (try dsimp only [kh]);(try simp only [zA,zB,zC])
     refine tkZ 1 114 ?_ rfl ?_ hS ?_;rotate_left
     ·intro w' hw';go_simp
      try with_reducible rfl
     (try dsimp only [kh]);(try simp only [zA,zB,zC])
     refine tkZ 2 115 ?_ rfl ?_ hS ?_;rotate_left
     ·intro w' hw';have cf0:=(CX.out 0 _ rfl) w' hw';go_simp
      try with_reducible rfl
     (try dsimp only [kh]);(try simp only [zA,zB,zC])
     refine tkZ 4 117 ?_ rfl ?_ hS ?_;rotate_left
     ·intro w' hw';go_simp
      try with_reducible rfl
     (try dsimp only [kh]);(try simp only [zA,zB,zC])
     refine tkZ 5 118 ?_ rfl ?_ hS ?_;rotate_left
     ·intro w' hw';have cf0:=(CX.out 1 _ rfl) w' hw';go_simp
      try with_reducible rfl
     (try dsimp only [kh]);(try simp only [zA,zB,zC])
     refine tkZ 7 120 ?_ rfl ?_ hS ?_;rotate_left
     ·intro w' hw';go_simp
      try with_reducible rfl
     (try dsimp only [kh]);(try simp only [zA,zB,zC])
     refine tkZ 8 121 ?_ rfl ?_ hS ?_;rotate_left
     ·intro w' hw';have cf0:=(CX.out 2 _ rfl) w' hw';go_simp
      try with_reducible rfl
     (try dsimp only [kh]);(try simp only [zA,zB,zC])
     refine tkZ 10 123 ?_ rfl ?_ hS ?_;rotate_left
     ·intro w' hw';go_simp
      try with_reducible rfl
     (try dsimp only [kh]);(try simp only [zA,zB,zC])
     refine tkZ 11 124 ?_ rfl ?_ hS ?_;rotate_left
     ·intro w' hw';have cf0:=(CX.out 3 _ rfl) w' hw';go_simp
      try with_reducible rfl
     (try dsimp only [kh]);(try simp only [zA,zB,zC])
     refine tkZ 13 126 ?_ rfl ?_ hS ?_;rotate_left
     ·intro w' hw';go_simp
      try with_reducible rfl
     (try dsimp only [kh]);(try simp only [zA,zB,zC])
     refine tkZ 14 127 ?_ rfl ?_ hS ?_;rotate_left
     ·intro w' hw';have cf0:=(CX.out 4 _ rfl) w' hw';go_simp
      try with_reducible rfl
     (try dsimp only [kh]);(try simp only [zA,zB,zC])
     refine rdZ 3 rfl (fun K hK=>?_);go_simp
     refine (j1b HSV.out (by omega) 1 _).mono ?_;rintro e V2 ⟨v2,rfl,hst,hb⟩;have hq:=hS.trans (hb.mono hS.size);have HSV2:=hJJ hst;clear hS hb hst HSV;rename World=>V
     rename Value=>v2
     have HSV:=HSV2;clear HSV2;go_simp
     refine hK.out _ _ hq (fun hS=>?_);clear hK K hq
     (try dsimp only [kh]);(try simp only [zA,zB,zC])
     refine rdZ 6 rfl (fun K hK=>?_);go_simp
     refine (j4l HSV.out (by omega) _).mono ?_;rintro e V2 ⟨v2,rfl,hst,hb⟩;have hq:=hS.trans (hb.mono hS.size);have HSV2:=hJJ hst;clear hS hb hst HSV;rename World=>V
     rename Value=>v2
     have HSV:=HSV2;clear HSV2;go_simp
     refine hK.out _ _ hq (fun hS=>?_);clear hK K hq
     (try dsimp only [kh]);(try simp only [zA,zB,zC])
     refine rdZ 9 rfl (fun K hK=>?_);go_simp
     refine (j4l HSV.out (by omega) _).mono ?_;rintro e V2 ⟨v2,rfl,hst,hb⟩;have hq:=hS.trans (hb.mono hS.size);have HSV2:=hJJ hst;clear hS hb hst HSV;rename World=>V
     rename Value=>v2
     have HSV:=HSV2;clear HSV2;go_simp
     refine hK.out _ _ hq (fun hS=>?_);clear hK K hq
     (try dsimp only [kh]);(try simp only [zA,zB,zC])
     refine rdZ 12 rfl (fun K hK=>?_);go_simp
     refine (j4l HSV.out (by omega) _).mono ?_;rintro e V2 ⟨v2,rfl,hst,hb⟩;have hq:=hS.trans (hb.mono hS.size);have HSV2:=hJJ hst;clear hS hb hst HSV;rename World=>V
     rename Value=>v2
     have HSV:=HSV2;clear HSV2;go_simp
     refine hK.out _ _ hq (fun hS=>?_);clear hK K hq
     (try dsimp only [kh]);(try simp only [zA,zB,zC])
     refine rdZ 15 rfl (fun K hK=>?_);go_simp
     refine (j4l HSV.out (by omega) _).mono ?_;rintro e V2 ⟨v2,rfl,hst,hb⟩;have hq:=hS.trans (hb.mono hS.size);have HSV2:=hJJ hst;clear hS hb hst HSV;rename World=>V
     rename Value=>v2
     have HSV:=HSV2;clear HSV2;go_simp
     refine hK.out _ _ hq (fun hS=>?_);clear hK K hq
     (try dsimp only [kh]);(try simp only [zA,zB,zC])
     refine tkZ 16 3 ?_ rfl ?_ hS ?_;rotate_left
     ·intro w' hw';go_simp
      try with_reducible rfl
     (try dsimp only [kh]);(try simp only [zA,zB,zC])
     refine Kt (by kernel_rfl) ?_ _;rename World=>W7
     have k5:=CX.out 5 _ rfl W7 hS;have k6:=CX.out 6 _ rfl W7 hS;clear CX hS;go_wp2_with fail
     refine (j0I (n:=2) (xs:=[d.maxOn,d.maxOff]) (s:=⟨some ⟨W7.heap.size,0,none⟩,2⟩) (HSV.out.mem ((km _ _).alloc (ko _) _)) rfl (May.jg W7 3 [d.maxOn,d.maxOff] 2 rfl (by decide) _ rfl) (by omega) 2).mono ?_;rintro e W8 ⟨v8,rfl,hst,hb⟩;have HS8:=hJJ hst;clear hst hb HSV k5 k6;go_wp2;go_roundw
     case rel=>exact ⟨q+1,by omega,by go_num,by
      have:=HS8.out;rw [HDQ.out]
      have e:(((((L5++Gq)++low (lim 1 8) d.phase)++low 8 d.on)++low 8 d.off)++low 8 d.delay)++low 8 d.extend++ji (lim 2 8) [d.maxOn,d.maxOff]=L5++(Gq++JE d):=by
       simp only [ku,JE,show lim 1 8=1 from rfl,show lim 2 8=2 from rfl]
      rw [e] at this;exact ⟨this.bv,this.low,by have:=this.len;omega⟩⟩
     case measure=>simp [intOf];omega
    obtain rfl:nD=q:=by omega
    obtain ⟨L6,hL6⟩:∃ x,x=L5++T.dets.flatMap JE:=⟨_,rfl⟩
    have hst:St u wr u3 L6 2600:=by
     have:=HST.out;rw [show (kp nD).flatMap (fun q=>JE (T.dets.getD q default))=T.dets.flatMap JE from by rw [ND.out];exact J1 JE default T.dets,<-hL6] at this;exact ⟨this.bv,this.low,by have:=this.len;omega⟩
    have EL6:=hJJ hL6;clear HST hL6;have HST:=hJJ hst;clear hst;have kr:=CR.out wr HST.out.low;go_wp2_with fail
    clear kd;refine (j1b HST.out (by omega) 1 _).mono ?_;rintro e W6b ⟨v6b,rfl,hst,hb⟩;obtain ⟨L7,hL7⟩:∃ x,x=L6++low (lim 1 8) (nR:Int):=⟨_,rfl⟩;rw [<-hL7] at hst;have EL7:=hJJ hL7;have HS7:=hJJ hst;clear hL7 hst hb HST kr HDB
    obtain ⟨rb,rof,HRB⟩:∃ b o,Hid (0 < nR->ra=some ⟨b,o,none⟩):=by
     by_cases h0:0 < T.rails.length
     ·obtain ⟨x,hx,hl⟩:=HTT.out.rails.at (kn h0);rw [kW,add_zero] at hl;exact ⟨x.block,x.off,hJJ (fun _=>by rw [show ra=some x from hx,<-Po.j0G hl (by simp [Rl.cells])])⟩
     exact ⟨0,0,hJJ (fun h1=>absurd h1 (by rw [NR.out];exact h0))⟩
    go_wp2_with fail
    go_loopw [3,10] (fun b i wr=>∃ q:Nat,q<=nR/\i=.int .i64 (q:Int)/\St u wr b (L7++(kp q).flatMap (fun q=>rlB (T.rails.getD q default))) (2608+88*q)) (fun _ i _=>nR - (intOf i).toNat)
    case atStart=>exact ⟨0,by omega,rfl,by simpa using HS7.out⟩
    case round =>
     obtain ⟨q,hq,rfl,hst⟩:=hrel;have HST:=hJJ hst;clear hst HS7;have kr:=CR.out wr HST.out.low;by_cases hlt:q < nR
     ·obtain rfl:ra=some ⟨rb,rof,none⟩:=HRB.out (by omega);have hqd:q < T.rails.length:=by rw [<-NR.out];exact hlt
      obtain ⟨x,hx,hl⟩:=HTT.out.rails.at (kn hqd);obtain rfl:=kH hx;rw [Po.Jg] at hl;have hd0:T.rails.getD q default=T.rails[q]:=by simp [K2,kn hqd]
      have HDQ:Hid ((kp (q+1)).flatMap (fun q=>rlB (T.rails.getD q default))=(kp q).flatMap (fun q=>rlB (T.rails.getD q default))++rlB T.rails[q]):=hJJ (by rw [kE,kA,kz,hd0]);have HDL:=hJJ (hl.below HST.out.low);clear hx hl hd0;generalize T.rails[q]=d at HDQ HDL;clear hqd;generalize (kp q).flatMap (fun q=>rlB (T.rails.getD q default))=Gq at HST HDQ;have ID:(Tryz.prog.info? 75).map (·.size)=some d.cells.length:=jH;go_upto_region 29 with (first | (refine Row.jV rfl 75 _ rfl ⟨rb,rof+q*11,none⟩ rfl d.cells _ HDL.out Tryz.underlying75 rfl ID ?_) | (refine Row.jh rfl 75 _ _ rfl _ _ d.cells.toArray rfl rfl rfl ID rfl (Rl.one _) ?_))
      dsimp only [kh]
      (try simp only [kb,kf,ke])
      have hst:=HST.out.mem ((km _ _).alloc (ko _) (.cells d.cells.toArray 75));have hg:=Kr wr (.cells d.cells.toArray 75);generalize kq wr _=W1 at hst hg |-;generalize wr.heap.size=gx at hg |-;clear HST HDL kr;have HST:=hJJ hst;have HG:=hJJ hg;clear hst hg;have CX:Hid (∀ (j:Nat) (x:Value),d.cells[j]?=some x->∀ W,Below W1.heap.size W1 W->W.cell? ⟨gx,j,none⟩=some x):=hJJ (fun j x hx W hb=>by rw [Kp _ _ _ _ _ _ ((hb.block gx (kl.1 HG.out).1).trans HG.out)];simpa using hx);have k0:=CX.out 0 _ rfl W1 (km _ _);have k1:=CX.out 1 _ rfl W1 (km _ _);have k2:=CX.out 2 _ rfl W1 (km _ _);have k3:=CX.out 3 _ rfl W1 (km _ _);go_wp2_with fail
      refine (j0I (n:=4) (xs:=[d.bars,d.clear,d.dwell,d.exit]) (s:=⟨some ⟨W1.heap.size,0,none⟩,4⟩) (HST.out.mem ((km _ _).alloc (ko _) _)) rfl (May.jg W1 3 [d.bars,d.clear,d.dwell,d.exit] 4 rfl (by decide) _ rfl) (by omega) 1).mono ?_;rintro e W2 ⟨v2,rfl,hst,hb⟩;have HS2:=hJJ hst;have hb2:Below W1.heap.size W1 W2:=((km _ _).alloc (ko _) _).trans (hb.mono (by simp));have HB2:=hJJ hb2;clear hst hb hb2 HST k0 k1 k2 k3;have k4:=CX.out 4 _ rfl W2 HB2.out;have k5:=CX.out 5 _ rfl W2 HB2.out;have k6:=CX.out 6 _ rfl W2 HB2.out;have k7:=CX.out 7 _ rfl W2 HB2.out;have k8:=CX.out 8 _ rfl W2 HB2.out;have k9:=CX.out 9 _ rfl W2 HB2.out;go_wp2_with fail
      refine (j0I (n:=6) (xs:=[d.delay,d.green,d.foot,d.hold,d.stay,d.most]) (s:=⟨some ⟨W2.heap.size,0,none⟩,6⟩) (HS2.out.mem ((km _ _).alloc (ko _) _)) rfl (May.jg W2 3 [d.delay,d.green,d.foot,d.hold,d.stay,d.most] 6 rfl (by decide) _ rfl) (by omega) 2).mono ?_;rintro e W3 ⟨v3,rfl,hst,hb⟩;have HS3:=hJJ hst;have hb3:Below W2.heap.size W2 W3:=((km _ _).alloc (ko _) _).trans (hb.mono (by simp));have HB3:=hJJ (HB2.out.trans (hb3.mono HB2.out.size));clear hst hb hb3 HS2 k4 k5 k6 k7 k8 k9 HB2;have k10:=CX.out 10 _ rfl W3 HB3.out;go_wp2_with fail
      refine (j1b HS3.out (by omega) 4 _).mono ?_;rintro e W8 ⟨v8,rfl,hst,hb⟩;have HS8:=hJJ hst;clear hst hb HS3 k10 CX;go_wp2;go_roundw
      case rel=>exact ⟨q+1,by omega,by go_num,by
       have:=HS8.out;rw [HDQ.out]
       have e:(((L7++Gq)++ji (lim 1 8) [d.bars,d.clear,d.dwell,d.exit])++ji (lim 2 8) [d.delay,d.green,d.foot,d.hold,d.stay,d.most])++low (lim 4 8) d.limit=L7++(Gq++rlB d):=by
        simp only [ku,rlB,show lim 1 8=1 from rfl,show lim 2 8=2 from rfl,show lim 4 8=4 from rfl];simp [ji]
       rw [e] at this;exact ⟨this.bv,this.low,by have:=this.len;omega⟩⟩
      case measure=>simp [intOf];omega
     obtain rfl:nR=q:=by omega
     obtain ⟨L8,hL8⟩:∃ x,x=L7++T.rails.flatMap rlB:=⟨_,rfl⟩
     have hst:St u wr u3 L8 3000:=by
      have:=HST.out;rw [show (kp nR).flatMap (fun q=>rlB (T.rails.getD q default))=T.rails.flatMap rlB from by rw [NR.out];exact J1 rlB default T.rails,<-hL8] at this;exact ⟨this.bv,this.low,by have:=this.len;omega⟩
     have EL8:=hJJ hL8;clear HST hL8;have HST:=hJJ hst;clear hst;have ks:=CS.out wr HST.out.low;go_wp2_with fail
     clear kr;refine (j1b HST.out (by omega) 1 _).mono ?_;rintro e W6c ⟨v6c,rfl,hst,hb⟩;obtain ⟨L9,hL9⟩:∃ x,x=L8++low (lim 1 8) (nS:Int):=⟨_,rfl⟩;rw [<-hL9] at hst;have EL9:=hJJ hL9;have HS9:=hJJ hst;clear hL9 hst hb HST ks HRB
     obtain ⟨sb,sof,HSB⟩:∃ b o,Hid (0 < nS->sa=some ⟨b,o,none⟩):=by
      by_cases h0:0 < T.buses.length
      ·obtain ⟨x,hx,hl⟩:=HTT.out.buses.at (kn h0);rw [kW,add_zero] at hl;exact ⟨x.block,x.off,hJJ (fun _=>by rw [show sa=some x from hx,<-Po.j0G hl (by simp [Bs.cells])])⟩
      exact ⟨0,0,hJJ (fun h1=>absurd h1 (by rw [NS.out];exact h0))⟩
     go_wp2_with fail
     go_loopw [3,12] (fun b i wr=>∃ q:Nat,q<=nS/\i=.int .i64 (q:Int)/\St u wr b (L9++(kp q).flatMap (fun q=>bsB (T.buses.getD q default))) (3008+16*q)) (fun _ i _=>nS - (intOf i).toNat)
     case atStart=>exact ⟨0,by omega,rfl,by simpa using HS9.out⟩
     case round =>
      obtain ⟨q,hq,rfl,hst⟩:=hrel;have HST:=hJJ hst;clear hst HS9;have ks:=CS.out wr HST.out.low;by_cases hlt:q < nS
      ·obtain rfl:sa=some ⟨sb,sof,none⟩:=HSB.out (by omega);have hqd:q < T.buses.length:=by rw [<-NS.out];exact hlt
       obtain ⟨x,hx,hl⟩:=HTT.out.buses.at (kn hqd);obtain rfl:=kH hx;rw [Po.Jg] at hl;have hd0:T.buses.getD q default=T.buses[q]:=by simp [K2,kn hqd]
       have HDQ:Hid ((kp (q+1)).flatMap (fun q=>bsB (T.buses.getD q default))=(kp q).flatMap (fun q=>bsB (T.buses.getD q default))++bsB T.buses[q]):=hJJ (by rw [kE,kA,kz,hd0]);have c0:=hl 0 _ rfl;have c1:=hl 1 _ rfl;rw [Po.Jg] at c0 c1;have C0:Hid (∀ W,Below u.heap.size u W->W.cell? ⟨sb,sof+q*2,none⟩=some (I (T.buses[q]).set)):=hJJ (fun W hb=>(hb.cell (ky u _ c0)).trans c0);have C1:Hid (∀ W,Below u.heap.size u W->W.cell? ⟨sb,sof+q*2+1,none⟩=some (I (T.buses[q]).lock)):=hJJ (fun W hb=>(hb.cell (ky u _ c1)).trans c1);clear hx hl hd0 c0 c1;generalize T.buses[q]=d at HDQ C0 C1;clear hqd;generalize (kp q).flatMap (fun q=>bsB (T.buses.getD q default))=Gq at HST HDQ;have HLW:Hid (∀ W,Below wr.heap.size wr W->Below u.heap.size u W):=hJJ (fun W hb=>HST.out.low.trans (hb.mono HST.out.low.size));go_upto_region 36 with fail
       clear ks;refine Ku (S:=fun w'=>Below wr.heap.size wr w') (by kernel_rfl) ?_;have hS:Below wr.heap.size wr { wr with drawn:=wr.drawn+1 }:=(km _ _).drew;have hst:=HST.out.mem hS;generalize ({ wr with drawn:=wr.drawn+1 }:World)=V at hS hst |-;have HSV:=hJJ hst;clear hst HST;refine tkZ 0 195 ?_ rfl ?_ hS ?_;rotate_left
       ·intro w' hw';go_simp
        try with_reducible rfl
       (try dsimp only [kh]);(try simp only [zA,zB,zC])
       refine tkZ 1 196 ?_ rfl ?_ hS ?_;rotate_left
       ·intro w' hw';go_simp
        try with_reducible rfl
       (try dsimp only [kh]);(try simp only [zA,zB,zC])
       refine tkZ 2 197 ?_ rfl ?_ hS ?_;rotate_left
       ·intro w' hw';have cf0:=(fun w' hw'=>CS.out w' (HLW.out w' hw')) w' hw';go_simp
        try with_reducible rfl
       (try dsimp only [kh]);(try simp only [zA,zB,zC])
       refine tkZ 3 198 ?_ rfl ?_ hS ?_;rotate_left
       ·intro w' hw';go_simp
        try with_reducible rfl
       (try dsimp only [kh]);(try simp only [zA,zB,zC])
       refine tkZ 4 199 ?_ rfl ?_ hS ?_;rotate_left
       ·intro w' hw';go_simp
        try with_reducible rfl
       (try dsimp only [kh]);(try simp only [zA,zB,zC])
       refine tkZ 5 200 ?_ rfl ?_ hS ?_;rotate_left
       ·intro w' hw';go_simp
        try with_reducible rfl
       (try dsimp only [kh]);(try simp only [zA,zB,zC])
       refine tkZ 6 201 ?_ rfl ?_ hS ?_;rotate_left
       ·intro w' hw';have cf0:=(fun w' hw'=>C0.out w' (HLW.out w' hw')) w' hw';go_simp
        try with_reducible rfl
       (try dsimp only [kh]);(try simp only [zA,zB,zC])
       refine tkZ 8 203 ?_ rfl ?_ hS ?_;rotate_left
       ·intro w' hw';go_simp
        try with_reducible rfl
       (try dsimp only [kh]);(try simp only [zA,zB,zC])
       refine tkZ 9 204 ?_ rfl ?_ hS ?_;rotate_left
       ·intro w' hw';have cf0:=(fun w' hw'=>CS.out w' (HLW.out w' hw')) w' hw';go_simp
        try with_reducible rfl
       (try dsimp only [kh]);(try simp only [zA,zB,zC])
       refine tkZ 10 205 ?_ rfl ?_ hS ?_;rotate_left
       ·intro w' hw';go_simp
        try with_reducible rfl
       (try dsimp only [kh]);(try simp only [zA,zB,zC])
       refine tkZ 11 206 ?_ rfl ?_ hS ?_;rotate_left
       ·intro w' hw';go_simp
        try with_reducible rfl
       (try dsimp only [kh]);(try simp only [zA,zB,zC])
       refine tkZ 12 207 ?_ rfl ?_ hS ?_;rotate_left
       ·intro w' hw';go_simp
        try with_reducible rfl
       (try dsimp only [kh]);(try simp only [zA,zB,zC])
       refine tkZ 13 208 ?_ rfl ?_ hS ?_;rotate_left
       ·intro w' hw';have cf0:=(fun w' hw'=>C1.out w' (HLW.out w' hw')) w' hw';go_simp
        try with_reducible rfl
       (try dsimp only [kh]);(try simp only [zA,zB,zC])
       refine rdZ 7 rfl (fun K hK=>?_);go_simp
       refine (j1b HSV.out (by omega) 1 _).mono ?_;rintro e V2 ⟨v2,rfl,hst,hb⟩;have hq:=hS.trans (hb.mono hS.size);have HSV2:=hJJ hst;clear hS hb hst HSV;rename World=>V
       rename Value=>v2
       have HSV:=HSV2;clear HSV2;go_simp
       refine hK.out _ _ hq (fun hS=>?_);clear hK K hq
       (try dsimp only [kh]);(try simp only [zA,zB,zC])
       refine rdZ 14 rfl (fun K hK=>?_);go_simp
       refine (j1b HSV.out (by omega) 2 _).mono ?_;rintro e V2 ⟨v2,rfl,hst,hb⟩;have hq:=hS.trans (hb.mono hS.size);have HSV2:=hJJ hst;clear hS hb hst HSV;rename World=>V
       rename Value=>v2
       have HSV:=HSV2;clear HSV2;go_simp
       refine hK.out _ _ hq (fun hS=>?_);clear hK K hq
       (try dsimp only [kh]);(try simp only [zA,zB,zC])
       refine tkZ 15 3 ?_ rfl ?_ hS ?_;rotate_left
       ·intro w' hw';go_simp
        try with_reducible rfl
       (try dsimp only [kh]);(try simp only [zA,zB,zC])
       refine Kt (by kernel_rfl) ?_ _;go_wp2;go_roundw
       case rel=>exact ⟨q+1,by omega,by go_num,by
        have:=HSV.out;rw [HDQ.out]
        have e:((L9++Gq)++low (lim 1 8) d.set)++low (lim 2 8) d.lock=L9++(Gq++bsB d):=by
         simp only [ku,bsB,show lim 1 8=1 from rfl,show lim 2 8=2 from rfl];simp [ji]
        rw [e] at this;exact ⟨this.bv,this.low,by have:=this.len;omega⟩⟩
       case measure=>simp [intOf];omega
      obtain rfl:nS=q:=by omega
      obtain ⟨L10,hL10⟩:∃ x,x=L9++T.buses.flatMap bsB:=⟨_,rfl⟩
      have hst:St u wr u3 L10 3100:=by
       have:=HST.out;rw [show (kp nS).flatMap (fun q=>bsB (T.buses.getD q default))=T.buses.flatMap bsB from by rw [NS.out];exact J1 bsB default T.buses,<-hL10] at this;exact ⟨this.bv,this.low,by have:=this.len;omega⟩
      have EL10:=hJJ hL10;clear HST hL10;have HST:=hJJ hst;clear hst;have e6:=CL.out 116 _ HC.out.extend wr HST.out.low;have e7:=CL.out 117 _ HC.out.budget wr HST.out.low;have e8:=CL.out 118 _ HC.out.start wr HST.out.low;have e9:=CL.out 119 _ HC.out.revert wr HST.out.low;have e10:=CL.out 120 _ HC.out.least wr HST.out.low;go_wp2_with fail
      clear ks;refine (j0I (n:=5) (xs:=[T.extend,T.budget,T.start,T.revert,T.least]) (s:=⟨some ⟨wr.heap.size,0,none⟩,5⟩) (HST.out.mem ((km _ _).alloc (ko _) _)) rfl (May.jg wr 3 [T.extend,T.budget,T.start,T.revert,T.least] 5 rfl (by decide) _ rfl) (by omega) 2).mono ?_;rintro e W11 ⟨v11,rfl,hst,hb⟩;have HS11:=hJJ hst;clear hst hb HST e6 e7 e8 e9 e10;go_wp2_with fail
      refine (j0I (n:=8) (xs:=T.flash) (s:=⟨some ⟨tb,121,none⟩,8⟩) HS11.out HTT.out.fl (May.j4c ((HS11.out.low.block tb (kl.1 HBX.out).1).trans HBX.out) 121 8 T.flash HC.out.flash HTT.out.fl (by decide)) (by omega) 1).mono ?_;rintro e W12 ⟨v12,rfl,hst,hb⟩;have HS12:=hJJ hst;clear hst hb HS11;have e12:=CL.out 129 _ HC.out.window W12 HS12.out.low;have e13:=CL.out 130 _ HC.out.share W12 HS12.out.low;go_wp2_with fail
      refine (jbV (n:=2) (xs:=[T.window,T.share]) (s:=⟨some ⟨W12.heap.size,0,none⟩,2⟩) (HS12.out.mem ((km _ _).alloc (ko _) _)) rfl (May.jg W12 3 [T.window,T.share] 2 rfl (by decide) _ rfl) (by omega) 4).mono ?_;rintro e W13 ⟨v13,rfl,hst,ho,hb⟩;have HO13:=hJJ (jbU (ho (by omega)) (kD HB0.out.size (kD HS12.out.low.size (by simp))));have HS13:=hJJ hst;clear hst ho hb HS12 e12 e13;go_wp2;go_ret;refine ⟨_,rfl,?_,HB0.out.trans (HS13.out.low.mono HB0.out.size)⟩;have hbv:=HS13.out.bv;have hob:=HO13.out
      have e:Cd.J0 T=((L10++ji (lim 2 8) [T.extend,T.budget,T.start,T.revert,T.least])++ji (lim 1 8) T.flash)++ji (lim 4 8) [T.window,T.share]:=by
       rw [EL10.out,EL9.out,EL8.out,EL7.out,EL6.out,EL5.out,EL4.out,EL2.out,EL1.out,NG.out,ND.out,NR.out,NS.out];simp only [ku,Cd.J0,Cd.JK,J5,show lim 1 8=1 from rfl,show lim 2 8=2 from rfl,show lim 4 8=4 from rfl]
      rw [e];exact ⟨hbv,hob⟩
end Rb
namespace Rb
open Zip
open Go Go.RowKit Go.ChangeShapes
open Tab
open Put (low lim)
end Rb
namespace Dh
open Go Go.RowKit
open Tab Po
open Rr (JF j1t j83)
open Clone (jB zHd)
def j6A (bs:List Nat):Tab:=match JF bs with | .error _=>jB | .ok x=>jt x
def j5q (bs:List Nat):Int × Int:=match JF bs with | .error f=>(f.1,f.2) | .ok _=>(0,0)
theorem ends {bs:List Nat} {w:World} {e:Ending} {w':World} (h:j1t (JF bs) w e w'):∃ hd,e=.returned (.tuple #[.agg ((j6A bs).cells hd).toArray,.agg #[I (j5q bs).1,I (j5q bs).2]])/\jy w' hd (j6A bs)/\Below w.heap.size w w':=by
 unfold j1t at h;unfold j6A j5q;cases hr:JF bs with
 | error f=>rw [hr] at h;exact ⟨zHd,h.2,Clone.j3m w',h.1⟩
 | ok x=>rw [hr] at h;obtain ⟨hb,hd,he,ht⟩:=h;exact ⟨hd,he,ht,hb⟩
theorem jdq (bs:List Nat) {a:Option Addr} {cap:Nat} {w:World} (hr:B.Row w a bs) (hl:bs.length<=10000) (hc:bs.length<=cap) (hn:a=none->cap=0) :
  Calls Tryz.prog 6 #[.slice a bs.length cap] w fun e w'=>∃ hd,e=.returned (.tuple #[.agg ((j6A bs).cells hd).toArray,.agg #[I (j5q bs).1,I (j5q bs).2]])/\jy w' hd (j6A bs)/\Below w.heap.size w w' :=
 (j83 bs a cap w hr hl hn hc).mono fun e w' h=>ends h
theorem jbX (bs:List Nat) {a:Option Addr} {cap:Nat} {w:World} (hr:B.Row w a bs) (hl:bs.length<=10000) (hc:bs.length<=cap) :
  Calls Tryz.prog 7 #[.slice a bs.length cap] w fun e w'=>∃ hd,e=.returned (.tuple #[.agg ((j6A bs).cells hd).toArray,.agg #[I (j5q bs).1,I (j5q bs).2]])/\jy w' hd (j6A bs)/\Below w.heap.size w w' :=
 (Dp.jdp bs a cap w hr hl hc).mono fun e w' h=>ends h
end Dh
namespace Rb
open Zip
open Go Go.RowKit Go.ChangeShapes
open Tab
open Put (low lim)
theorem j6B {n:Nat} {W:World} {v:Value} {l:List Nat} (h:Go.Proofs.YtonpphjleapafaaGreat.B.Own n W v l) (hl:∀ x ∈ l,x < 256):∃ a cap,v=.slice a l.length cap/\Go.Proofs.YtonpphjleapafaaGreat.B.Row W a l/\l.length<=cap/\(a=none->cap=0):=by
 obtain ⟨a,c,e,hr⟩:=Go.Proofs.YtonpphjleapafaaGreat.B.jY h hl;rcases h.2 with ⟨h1,h2⟩ | ⟨g,cap,cur,h1,h2,h3,h4,h5⟩
 ·rw [e] at h1;injection h1 with q1 q2 q3
  exact ⟨_,_,e,hr,by omega,fun _=>q3⟩
 rw [e] at h1;injection h1 with q1 q2 q3
 subst q1 q3;exact ⟨_,_,e,hr,h4,fun h=>by cases h⟩
theorem jbY {W:World} {a:Option Addr} {cap:Nat} {l:List Nat} (hr:Go.Proofs.YtonpphjleapafaaGreat.B.Row W a l) (hn:a=none->cap=0) (hl:l.length<=9000) :
  Calls Tryz.prog 8 #[.slice a l.length cap] W fun e W'=>∃ a2 cap2,e=.returned (.slice a2 (Cd.jP l).length cap2)/\Go.Proofs.YtonpphjleapafaaGreat.B.Row W' a2 (Cd.jP l)/\(Cd.jP l).length<=cap2/\(a2=none->cap2=0)/\Below W.heap.size W W':=by
 obtain ⟨cr,hcr⟩:∃ n:Nat,CrcM.crc 65535 l=n:=⟨_,rfl⟩;have hcr2:cr < 65536:=by rw [<-hcr];exact CrcM.j3e _ _ (by decide)
 have SL:Cd.jP l=l++low (lim 2 8) (cr:Int):=by unfold Cd.jP;rw [hcr];rfl
 have h8:∀ x ∈ Cd.jP l,x < 256:=by
  intro x hx;rw [SL,kX] at hx;rcases hx with hx | hx
  ·exact hr.2.1 x hx
  exact Put.Jk _ _ x hx
 have HP:Hid (Calls Tryz.prog 27 #[.slice a l.length cap,.int .i64 2,.int .i64 (cr:Int)] W fun e W'=>∃ v',e=.returned v'/\(∃ a2 cap2,v'=.slice a2 (Cd.jP l).length cap2/\Go.Proofs.YtonpphjleapafaaGreat.B.Row W' a2 (Cd.jP l)/\(Cd.jP l).length<=cap2/\(a2=none->cap2=0))/\Below W.heap.size W W'):=hJJ ((Put.j0X a cap l 2 (cr:Int) W hr (by omega) hn).mono fun e W' ⟨v',h1,h2,h3⟩=>⟨v',h1,by rw [<-SL] at h2;exact j6B h2 h8,h3⟩);have CC:Hid (Calls Tryz.prog 26 #[.int .u16 65535,.slice a l.length cap] W fun e w'=>e=.returned (.int .u16 (cr:Int))/\W=w'):=hJJ (by have:=Crc.j8E 65535 (by decide) a cap l W hr;rw [hcr] at this;exact this);have ew:wrap64 (cr:Int)=cr:=K9 _ (by omega);have ew2:Kf.wrap (cr:Int)=cr:=by rw [Kd];omega
 generalize hsb:Cd.jP l=sb at HP;generalize l.length=n at HP CC hl |-;clear hr hn hcr h8 SL;go_enter Tryz.func8,Tryz.ntmps8
 go_wp2_with (go_at_call 26;refine CC.out.mono ?_;rintro e w' ⟨rfl,rfl⟩)
 refine HP.out.mono ?_;rintro e w' ⟨v',rfl,⟨a2,cap2,rfl,q1,q2,q3⟩,hw⟩;have Q1:=hJJ q1;have Q2:=hJJ q2;have Q3:=hJJ q3;have HW:=hJJ hw;clear q1 q2 q3 hw;go_wp2;go_ret;subst hsb;exact ⟨a2,cap2,rfl,Q1.out,Q2.out,Q3.out,HW.out⟩
end Rb
end Go.Proofs.YtonpphjleapafaaGreat
