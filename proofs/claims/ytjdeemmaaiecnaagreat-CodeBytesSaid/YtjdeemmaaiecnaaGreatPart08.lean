/- 7 texts in one file, in build order. -/
import Derived.Test.YtjdeemmaaiecnaaGreatRows
import Derived.Test.YtjdeemmaaiecnaaGreatPart07
import Derived.StillTailTactics
import Derived.Laws.BitsLemmas
import Derived.Test.YtjdeemmaaiecnaaGreatPart01
import Derived.OwnWalk
import Derived.WalkKit
import Derived.ProofKit
import Derived.IntWalk
import Derived.Lib.Hide
import Derived.LoopTactic
import Derived.Below
import Derived.BigQuiet
import Derived.Deep.QuietTactic
import Derived.Test.YtjdeemmaaiecnaaGreatPart02
import Derived.Test.YtjdeemmaaiecnaaGreatPart03
import Derived.Great.BuildSlice
import Derived.Test.YtjdeemmaaiecnaaGreatPart06
set_option linter.unusedVariables false
set_option linter.unusedSimpArgs false
set_option linter.unusedSectionVars false
set_option maxHeartbeats 8000000
set_option maxRecDepth 100000
namespace Go.Proofs.YtjdeemmaaiecnaaGreat
namespace Dp
open Go Go.RowKit Go.ChangeShapes
open Tab Po
open Rd (Rd But)
open Nm (St)
open Put (lim)
theorem runs_snoc {P:PP} {a:List Sp} {c:Sp} {l l1 l2:List Value} {s s1 s2:P.σ} (h:runs P a l s=.ok (l1,s1)) (h2:Sp.run P l1 s1 c=.ok (l2,s2)):runs P (a++[c]) l s=.ok (l2,s2):=by
 rw [runs_append,h]
 dsimp only
 rw [runs_one,h2]
section
variable {B g:Nat} {ad:Option Addr} {cap:Nat} {bs:List Nat}
theorem info_phase:(Tryz.prog.info? 25).map (·.size)=some 13:=by kernel_rfl
theorem phase_d (s0:St) (W:World) (h:Ds B g ad cap bs s0 W):Calls Tryz.prog 61 #[ptr g] W fun e W'=>∃ l s',runs (DP bs) stPh zPh s0=.ok (l,s')∧e=.returned (.agg l.toArray)∧Ds B g ad cap bs s' W'∧But g W W':=by
 have hg:g < W.heap.size:=Nat.lt_of_lt_of_le h.gl h.bl
 have hBW:=h.bl
 have h0:=((Bkg.nil hg).alloc #[.bool false,I 0,I 0,I 0,I 0,I 0,I 0,I 0,I 0,I 0,I 0,.bool false,.bool false] 25).alloc #[.bool false,I 0,I 0,I 0,I 0,I 0,I 0,I 0,I 0,I 0,I 0,.bool false,.bool false] 25
 rw [show (W.alloc (.cells #[.bool false,I 0,I 0,I 0,I 0,I 0,I 0,I 0,I 0,I 0,I 0,.bool false,.bool false] 25)).heap.size=W.heap.size+1 by simp] at h0
 have hs0:=h.mem (((Below.refl W.heap.size W).alloc (Nat.le_refl _) (.cells #[.bool false,I 0,I 0,I 0,I 0,I 0,I 0,I 0,I 0,I 0,I 0,.bool false,.bool false] 25)).alloc (by simp) (.cells #[.bool false,I 0,I 0,I 0,I 0,I 0,I 0,I 0,I 0,I 0,I 0,.bool false,.bool false] 25))
 have RUN:Hid (runs (DP bs) [] zPh s0=.ok ([.bool false,I 0,I 0,I 0,I 0,I 0,I 0,I 0,I 0,I 0,I 0,.bool false,.bool false],s0)):=Lib.hid rfl
 obtain ⟨t,ht⟩:∃ t,s0=t:=⟨_,rfl⟩
 rw [show Ds B g ad cap bs s0 _=Ds B g ad cap bs t _ by rw [ht]] at hs0
 have RUN0:Hid (runs (DP bs) [] zPh s0=.ok ([.bool false,I 0,I 0,I 0,I 0,I 0,I 0,I 0,I 0,I 0,I 0,.bool false,.bool false],t)):=Lib.hid (by rw [← ht];exact RUN.out)
 clear RUN h ht
 go_enter Tryz.func61,Tryz.ntmps61
 go_upto_region 2 with fail
 generalize World.alloc (World.alloc W _) _=V at h0 hs0 ⊢
 generalize hp:W.heap.size+1=p at h0 ⊢
 generalize hz:W.heap.size=gz at h0 hg hBW ⊢
 have hBp:B≤p:=by omega
 have HS:=Lib.hid hs0
 have HB:=Lib.hid h0
 clear h0 hs0 hp hg
 go_wp2_with fail
 have hcon:=bool_d t V HS.out
 have hstep:Sp.run (DP bs) [.bool false,I 0,I 0,I 0,I 0,I 0,I 0,I 0,I 0,I 0,I 0,.bool false,.bool false] t (.flg 0)=.ok ([.bool (decide ((Nm.num bs t 1 0 1).1=1)),I 0,I 0,I 0,I 0,I 0,I 0,I 0,I 0,I 0,I 0,.bool false,.bool false],(Nm.num bs t 1 0 1).2):=rfl
 generalize hx:decide ((Nm.num bs t 1 0 1).1=1)=x0 at hcon hstep
 generalize hn:(Nm.num bs t 1 0 1).2=tn at hcon hstep
 clear hx hn
 refine hcon.mono ?_
 rintro e V2 ⟨rfl,hs,hb⟩
 have RUN1:Hid (runs (DP bs) ([]++[.flg 0]) zPh s0=.ok ([.bool x0,I 0,I 0,I 0,I 0,I 0,I 0,I 0,I 0,I 0,I 0,.bool false,.bool false],tn)):=Lib.hid (runs_snoc RUN0.out hstep)
 have HB1:=Lib.hid (HB.out.step hb)
 have HS1:=Lib.hid hs
 clear RUN0 hstep hcon HB HS hs hb
 have c0:V2.cell? ⟨p,0,none⟩=some (.bool false):=HB1.out.cell 0 0 rfl rfl
 have f0:V2.frozen? ⟨p,0,none⟩=false:=HB1.out.frozen 0 0 rfl
 go_upto_region 3 with fail
 have hput:=HB1.out.set 0 0 rfl (.bool x0)
 have hds:=HS1.out.but (But.set p 0 V2 (.bool x0)) hBp
 simp only [List.set_cons_succ,List.set_cons_zero,List.setIfInBounds_toArray] at hput
 clear c0 f0 HB1 HS1
 generalize World.setCell V2 _ _=V3 at hput hds ⊢
 clear V2 V t
 rename World=>V
 rename St=>t
 have HB:=Lib.hid hput
 have HS:=Lib.hid hds
 have RUN0:=RUN1
 clear hput hds RUN1
 go_wp2_with fail
 have hcon:=time_d t V HS.out
 have hstep:Sp.run (DP bs) [.bool x0,I 0,I 0,I 0,I 0,I 0,I 0,I 0,I 0,I 0,I 0,.bool false,.bool false] t (.num 2 9999 1)=.ok ([.bool x0,I ((Nm.num bs t (lim 2 7) 0 9999).1),I 0,I 0,I 0,I 0,I 0,I 0,I 0,I 0,I 0,.bool false,.bool false],(Nm.num bs t (lim 2 7) 0 9999).2):=rfl
 generalize hx:(Nm.num bs t (lim 2 7) 0 9999).1=x1 at hcon hstep
 generalize hn:(Nm.num bs t (lim 2 7) 0 9999).2=tn at hcon hstep
 clear hx hn
 refine hcon.mono ?_
 rintro e V2 ⟨rfl,hs,hb⟩
 have RUN1:Hid (runs (DP bs) (([]++[.flg 0])++[.num 2 9999 1]) zPh s0=.ok ([.bool x0,I x1,I 0,I 0,I 0,I 0,I 0,I 0,I 0,I 0,I 0,.bool false,.bool false],tn)):=Lib.hid (runs_snoc RUN0.out hstep)
 have HB1:=Lib.hid (HB.out.step hb)
 have HS1:=Lib.hid hs
 clear RUN0 hstep hcon HB HS hs hb
 have c0:V2.cell? ⟨p,1,none⟩=some (I 0):=HB1.out.cell 0 1 rfl rfl
 have f0:V2.frozen? ⟨p,1,none⟩=false:=HB1.out.frozen 0 1 rfl
 go_upto_region 4 with fail
 have hput:=HB1.out.set 0 1 rfl (I x1)
 have hds:=HS1.out.but (But.set p 1 V2 (I x1)) hBp
 simp only [List.set_cons_succ,List.set_cons_zero,List.setIfInBounds_toArray] at hput
 clear c0 f0 HB1 HS1
 generalize World.setCell V2 _ _=V3 at hput hds ⊢
 clear V2 V t
 rename World=>V
 rename St=>t
 have HB:=Lib.hid hput
 have HS:=Lib.hid hds
 have RUN0:=RUN1
 clear hput hds RUN1
 go_wp2_with fail
 have hcon:=time_d t V HS.out
 have hstep:Sp.run (DP bs) [.bool x0,I x1,I 0,I 0,I 0,I 0,I 0,I 0,I 0,I 0,I 0,.bool false,.bool false] t (.num 2 9999 2)=.ok ([.bool x0,I x1,I ((Nm.num bs t (lim 2 7) 0 9999).1),I 0,I 0,I 0,I 0,I 0,I 0,I 0,I 0,.bool false,.bool false],(Nm.num bs t (lim 2 7) 0 9999).2):=rfl
 generalize hx:(Nm.num bs t (lim 2 7) 0 9999).1=x2 at hcon hstep
 generalize hn:(Nm.num bs t (lim 2 7) 0 9999).2=tn at hcon hstep
 clear hx hn
 refine hcon.mono ?_
 rintro e V2 ⟨rfl,hs,hb⟩
 have RUN1:Hid (runs (DP bs) ((([]++[.flg 0])++[.num 2 9999 1])++[.num 2 9999 2]) zPh s0=.ok ([.bool x0,I x1,I x2,I 0,I 0,I 0,I 0,I 0,I 0,I 0,I 0,.bool false,.bool false],tn)):=Lib.hid (runs_snoc RUN0.out hstep)
 have HB1:=Lib.hid (HB.out.step hb)
 have HS1:=Lib.hid hs
 clear RUN0 hstep hcon HB HS hs hb
 have c0:V2.cell? ⟨p,2,none⟩=some (I 0):=HB1.out.cell 0 2 rfl rfl
 have f0:V2.frozen? ⟨p,2,none⟩=false:=HB1.out.frozen 0 2 rfl
 go_upto_region 5 with fail
 have hput:=HB1.out.set 0 2 rfl (I x2)
 have hds:=HS1.out.but (But.set p 2 V2 (I x2)) hBp
 simp only [List.set_cons_succ,List.set_cons_zero,List.setIfInBounds_toArray] at hput
 clear c0 f0 HB1 HS1
 generalize World.setCell V2 _ _=V3 at hput hds ⊢
 clear V2 V t
 rename World=>V
 rename St=>t
 have HB:=Lib.hid hput
 have HS:=Lib.hid hds
 have RUN0:=RUN1
 clear hput hds RUN1
 go_wp2_with fail
 have hcon:=time_d t V HS.out
 have hstep:Sp.run (DP bs) [.bool x0,I x1,I x2,I 0,I 0,I 0,I 0,I 0,I 0,I 0,I 0,.bool false,.bool false] t (.num 2 9999 3)=.ok ([.bool x0,I x1,I x2,I ((Nm.num bs t (lim 2 7) 0 9999).1),I 0,I 0,I 0,I 0,I 0,I 0,I 0,.bool false,.bool false],(Nm.num bs t (lim 2 7) 0 9999).2):=rfl
 generalize hx:(Nm.num bs t (lim 2 7) 0 9999).1=x3 at hcon hstep
 generalize hn:(Nm.num bs t (lim 2 7) 0 9999).2=tn at hcon hstep
 clear hx hn
 refine hcon.mono ?_
 rintro e V2 ⟨rfl,hs,hb⟩
 have RUN1:Hid (runs (DP bs) (((([]++[.flg 0])++[.num 2 9999 1])++[.num 2 9999 2])++[.num 2 9999 3]) zPh s0=.ok ([.bool x0,I x1,I x2,I x3,I 0,I 0,I 0,I 0,I 0,I 0,I 0,.bool false,.bool false],tn)):=Lib.hid (runs_snoc RUN0.out hstep)
 have HB1:=Lib.hid (HB.out.step hb)
 have HS1:=Lib.hid hs
 clear RUN0 hstep hcon HB HS hs hb
 have c0:V2.cell? ⟨p,3,none⟩=some (I 0):=HB1.out.cell 0 3 rfl rfl
 have f0:V2.frozen? ⟨p,3,none⟩=false:=HB1.out.frozen 0 3 rfl
 go_upto_region 6 with fail
 have hput:=HB1.out.set 0 3 rfl (I x3)
 have hds:=HS1.out.but (But.set p 3 V2 (I x3)) hBp
 simp only [List.set_cons_succ,List.set_cons_zero,List.setIfInBounds_toArray] at hput
 clear c0 f0 HB1 HS1
 generalize World.setCell V2 _ _=V3 at hput hds ⊢
 clear V2 V t
 rename World=>V
 rename St=>t
 have HB:=Lib.hid hput
 have HS:=Lib.hid hds
 have RUN0:=RUN1
 clear hput hds RUN1
 go_wp2_with fail
 have hcon:=time_d t V HS.out
 have hstep:Sp.run (DP bs) [.bool x0,I x1,I x2,I x3,I 0,I 0,I 0,I 0,I 0,I 0,I 0,.bool false,.bool false] t (.num 2 9999 4)=.ok ([.bool x0,I x1,I x2,I x3,I ((Nm.num bs t (lim 2 7) 0 9999).1),I 0,I 0,I 0,I 0,I 0,I 0,.bool false,.bool false],(Nm.num bs t (lim 2 7) 0 9999).2):=rfl
 generalize hx:(Nm.num bs t (lim 2 7) 0 9999).1=x4 at hcon hstep
 generalize hn:(Nm.num bs t (lim 2 7) 0 9999).2=tn at hcon hstep
 clear hx hn
 refine hcon.mono ?_
 rintro e V2 ⟨rfl,hs,hb⟩
 have RUN1:Hid (runs (DP bs) ((((([]++[.flg 0])++[.num 2 9999 1])++[.num 2 9999 2])++[.num 2 9999 3])++[.num 2 9999 4]) zPh s0=.ok ([.bool x0,I x1,I x2,I x3,I x4,I 0,I 0,I 0,I 0,I 0,I 0,.bool false,.bool false],tn)):=Lib.hid (runs_snoc RUN0.out hstep)
 have HB1:=Lib.hid (HB.out.step hb)
 have HS1:=Lib.hid hs
 clear RUN0 hstep hcon HB HS hs hb
 have c0:V2.cell? ⟨p,4,none⟩=some (I 0):=HB1.out.cell 0 4 rfl rfl
 have f0:V2.frozen? ⟨p,4,none⟩=false:=HB1.out.frozen 0 4 rfl
 go_upto_region 7 with fail
 have hput:=HB1.out.set 0 4 rfl (I x4)
 have hds:=HS1.out.but (But.set p 4 V2 (I x4)) hBp
 simp only [List.set_cons_succ,List.set_cons_zero,List.setIfInBounds_toArray] at hput
 clear c0 f0 HB1 HS1
 generalize World.setCell V2 _ _=V3 at hput hds ⊢
 clear V2 V t
 rename World=>V
 rename St=>t
 have HB:=Lib.hid hput
 have HS:=Lib.hid hds
 have RUN0:=RUN1
 clear hput hds RUN1
 go_wp2_with fail
 have hcon:=time_d t V HS.out
 have hstep:Sp.run (DP bs) [.bool x0,I x1,I x2,I x3,I x4,I 0,I 0,I 0,I 0,I 0,I 0,.bool false,.bool false] t (.num 2 9999 5)=.ok ([.bool x0,I x1,I x2,I x3,I x4,I ((Nm.num bs t (lim 2 7) 0 9999).1),I 0,I 0,I 0,I 0,I 0,.bool false,.bool false],(Nm.num bs t (lim 2 7) 0 9999).2):=rfl
 generalize hx:(Nm.num bs t (lim 2 7) 0 9999).1=x5 at hcon hstep
 generalize hn:(Nm.num bs t (lim 2 7) 0 9999).2=tn at hcon hstep
 clear hx hn
 refine hcon.mono ?_
 rintro e V2 ⟨rfl,hs,hb⟩
 have RUN1:Hid (runs (DP bs) (((((([]++[.flg 0])++[.num 2 9999 1])++[.num 2 9999 2])++[.num 2 9999 3])++[.num 2 9999 4])++[.num 2 9999 5]) zPh s0=.ok ([.bool x0,I x1,I x2,I x3,I x4,I x5,I 0,I 0,I 0,I 0,I 0,.bool false,.bool false],tn)):=Lib.hid (runs_snoc RUN0.out hstep)
 have HB1:=Lib.hid (HB.out.step hb)
 have HS1:=Lib.hid hs
 clear RUN0 hstep hcon HB HS hs hb
 have c0:V2.cell? ⟨p,5,none⟩=some (I 0):=HB1.out.cell 0 5 rfl rfl
 have f0:V2.frozen? ⟨p,5,none⟩=false:=HB1.out.frozen 0 5 rfl
 go_upto_region 8 with fail
 have hput:=HB1.out.set 0 5 rfl (I x5)
 have hds:=HS1.out.but (But.set p 5 V2 (I x5)) hBp
 simp only [List.set_cons_succ,List.set_cons_zero,List.setIfInBounds_toArray] at hput
 clear c0 f0 HB1 HS1
 generalize World.setCell V2 _ _=V3 at hput hds ⊢
 clear V2 V t
 rename World=>V
 rename St=>t
 have HB:=Lib.hid hput
 have HS:=Lib.hid hds
 have RUN0:=RUN1
 clear hput hds RUN1
 go_wp2_with fail
 have hcon:=time_d t V HS.out
 have hstep:Sp.run (DP bs) [.bool x0,I x1,I x2,I x3,I x4,I x5,I 0,I 0,I 0,I 0,I 0,.bool false,.bool false] t (.num 2 9999 6)=.ok ([.bool x0,I x1,I x2,I x3,I x4,I x5,I ((Nm.num bs t (lim 2 7) 0 9999).1),I 0,I 0,I 0,I 0,.bool false,.bool false],(Nm.num bs t (lim 2 7) 0 9999).2):=rfl
 generalize hx:(Nm.num bs t (lim 2 7) 0 9999).1=x6 at hcon hstep
 generalize hn:(Nm.num bs t (lim 2 7) 0 9999).2=tn at hcon hstep
 clear hx hn
 refine hcon.mono ?_
 rintro e V2 ⟨rfl,hs,hb⟩
 have RUN1:Hid (runs (DP bs) ((((((([]++[.flg 0])++[.num 2 9999 1])++[.num 2 9999 2])++[.num 2 9999 3])++[.num 2 9999 4])++[.num 2 9999 5])++[.num 2 9999 6]) zPh s0=.ok ([.bool x0,I x1,I x2,I x3,I x4,I x5,I x6,I 0,I 0,I 0,I 0,.bool false,.bool false],tn)):=Lib.hid (runs_snoc RUN0.out hstep)
 have HB1:=Lib.hid (HB.out.step hb)
 have HS1:=Lib.hid hs
 clear RUN0 hstep hcon HB HS hs hb
 have c0:V2.cell? ⟨p,6,none⟩=some (I 0):=HB1.out.cell 0 6 rfl rfl
 have f0:V2.frozen? ⟨p,6,none⟩=false:=HB1.out.frozen 0 6 rfl
 go_upto_region 9 with fail
 have hput:=HB1.out.set 0 6 rfl (I x6)
 have hds:=HS1.out.but (But.set p 6 V2 (I x6)) hBp
 simp only [List.set_cons_succ,List.set_cons_zero,List.setIfInBounds_toArray] at hput
 clear c0 f0 HB1 HS1
 generalize World.setCell V2 _ _=V3 at hput hds ⊢
 clear V2 V t
 rename World=>V
 rename St=>t
 have HB:=Lib.hid hput
 have HS:=Lib.hid hds
 have RUN0:=RUN1
 clear hput hds RUN1
 go_wp2_with fail
 have hcon:=time_d t V HS.out
 have hstep:Sp.run (DP bs) [.bool x0,I x1,I x2,I x3,I x4,I x5,I x6,I 0,I 0,I 0,I 0,.bool false,.bool false] t (.num 2 9999 7)=.ok ([.bool x0,I x1,I x2,I x3,I x4,I x5,I x6,I ((Nm.num bs t (lim 2 7) 0 9999).1),I 0,I 0,I 0,.bool false,.bool false],(Nm.num bs t (lim 2 7) 0 9999).2):=rfl
 generalize hx:(Nm.num bs t (lim 2 7) 0 9999).1=x7 at hcon hstep
 generalize hn:(Nm.num bs t (lim 2 7) 0 9999).2=tn at hcon hstep
 clear hx hn
 refine hcon.mono ?_
 rintro e V2 ⟨rfl,hs,hb⟩
 have RUN1:Hid (runs (DP bs) (((((((([]++[.flg 0])++[.num 2 9999 1])++[.num 2 9999 2])++[.num 2 9999 3])++[.num 2 9999 4])++[.num 2 9999 5])++[.num 2 9999 6])++[.num 2 9999 7]) zPh s0=.ok ([.bool x0,I x1,I x2,I x3,I x4,I x5,I x6,I x7,I 0,I 0,I 0,.bool false,.bool false],tn)):=Lib.hid (runs_snoc RUN0.out hstep)
 have HB1:=Lib.hid (HB.out.step hb)
 have HS1:=Lib.hid hs
 clear RUN0 hstep hcon HB HS hs hb
 have c0:V2.cell? ⟨p,7,none⟩=some (I 0):=HB1.out.cell 0 7 rfl rfl
 have f0:V2.frozen? ⟨p,7,none⟩=false:=HB1.out.frozen 0 7 rfl
 go_upto_region 10 with fail
 have hput:=HB1.out.set 0 7 rfl (I x7)
 have hds:=HS1.out.but (But.set p 7 V2 (I x7)) hBp
 simp only [List.set_cons_succ,List.set_cons_zero,List.setIfInBounds_toArray] at hput
 clear c0 f0 HB1 HS1
 generalize World.setCell V2 _ _=V3 at hput hds ⊢
 clear V2 V t
 rename World=>V
 rename St=>t
 have HB:=Lib.hid hput
 have HS:=Lib.hid hds
 have RUN0:=RUN1
 clear hput hds RUN1
 go_wp2_with fail
 have hcon:=time_d t V HS.out
 have hstep:Sp.run (DP bs) [.bool x0,I x1,I x2,I x3,I x4,I x5,I x6,I x7,I 0,I 0,I 0,.bool false,.bool false] t (.num 2 9999 8)=.ok ([.bool x0,I x1,I x2,I x3,I x4,I x5,I x6,I x7,I ((Nm.num bs t (lim 2 7) 0 9999).1),I 0,I 0,.bool false,.bool false],(Nm.num bs t (lim 2 7) 0 9999).2):=rfl
 generalize hx:(Nm.num bs t (lim 2 7) 0 9999).1=x8 at hcon hstep
 generalize hn:(Nm.num bs t (lim 2 7) 0 9999).2=tn at hcon hstep
 clear hx hn
 refine hcon.mono ?_
 rintro e V2 ⟨rfl,hs,hb⟩
 have RUN1:Hid (runs (DP bs) ((((((((([]++[.flg 0])++[.num 2 9999 1])++[.num 2 9999 2])++[.num 2 9999 3])++[.num 2 9999 4])++[.num 2 9999 5])++[.num 2 9999 6])++[.num 2 9999 7])++[.num 2 9999 8]) zPh s0=.ok ([.bool x0,I x1,I x2,I x3,I x4,I x5,I x6,I x7,I x8,I 0,I 0,.bool false,.bool false],tn)):=Lib.hid (runs_snoc RUN0.out hstep)
 have HB1:=Lib.hid (HB.out.step hb)
 have HS1:=Lib.hid hs
 clear RUN0 hstep hcon HB HS hs hb
 have c0:V2.cell? ⟨p,8,none⟩=some (I 0):=HB1.out.cell 0 8 rfl rfl
 have f0:V2.frozen? ⟨p,8,none⟩=false:=HB1.out.frozen 0 8 rfl
 go_upto_region 11 with fail
 have hput:=HB1.out.set 0 8 rfl (I x8)
 have hds:=HS1.out.but (But.set p 8 V2 (I x8)) hBp
 simp only [List.set_cons_succ,List.set_cons_zero,List.setIfInBounds_toArray] at hput
 clear c0 f0 HB1 HS1
 generalize World.setCell V2 _ _=V3 at hput hds ⊢
 clear V2 V t
 rename World=>V
 rename St=>t
 have HB:=Lib.hid hput
 have HS:=Lib.hid hds
 have RUN0:=RUN1
 clear hput hds RUN1
 go_wp2_with fail
 have hcon:=time_d t V HS.out
 have hstep:Sp.run (DP bs) [.bool x0,I x1,I x2,I x3,I x4,I x5,I x6,I x7,I x8,I 0,I 0,.bool false,.bool false] t (.num 2 9999 9)=.ok ([.bool x0,I x1,I x2,I x3,I x4,I x5,I x6,I x7,I x8,I ((Nm.num bs t (lim 2 7) 0 9999).1),I 0,.bool false,.bool false],(Nm.num bs t (lim 2 7) 0 9999).2):=rfl
 generalize hx:(Nm.num bs t (lim 2 7) 0 9999).1=x9 at hcon hstep
 generalize hn:(Nm.num bs t (lim 2 7) 0 9999).2=tn at hcon hstep
 clear hx hn
 refine hcon.mono ?_
 rintro e V2 ⟨rfl,hs,hb⟩
 have RUN1:Hid (runs (DP bs) (((((((((([]++[.flg 0])++[.num 2 9999 1])++[.num 2 9999 2])++[.num 2 9999 3])++[.num 2 9999 4])++[.num 2 9999 5])++[.num 2 9999 6])++[.num 2 9999 7])++[.num 2 9999 8])++[.num 2 9999 9]) zPh s0=.ok ([.bool x0,I x1,I x2,I x3,I x4,I x5,I x6,I x7,I x8,I x9,I 0,.bool false,.bool false],tn)):=Lib.hid (runs_snoc RUN0.out hstep)
 have HB1:=Lib.hid (HB.out.step hb)
 have HS1:=Lib.hid hs
 clear RUN0 hstep hcon HB HS hs hb
 have c0:V2.cell? ⟨p,9,none⟩=some (I 0):=HB1.out.cell 0 9 rfl rfl
 have f0:V2.frozen? ⟨p,9,none⟩=false:=HB1.out.frozen 0 9 rfl
 go_upto_region 12 with fail
 have hput:=HB1.out.set 0 9 rfl (I x9)
 have hds:=HS1.out.but (But.set p 9 V2 (I x9)) hBp
 simp only [List.set_cons_succ,List.set_cons_zero,List.setIfInBounds_toArray] at hput
 clear c0 f0 HB1 HS1
 generalize World.setCell V2 _ _=V3 at hput hds ⊢
 clear V2 V t
 rename World=>V
 rename St=>t
 have HB:=Lib.hid hput
 have HS:=Lib.hid hds
 have RUN0:=RUN1
 clear hput hds RUN1
 go_wp2_with fail
 have hcon:=num_d t 1 3 V HS.out
 have hstep:Sp.run (DP bs) [.bool x0,I x1,I x2,I x3,I x4,I x5,I x6,I x7,I x8,I x9,I 0,.bool false,.bool false] t (.num 1 3 10)=.ok ([.bool x0,I x1,I x2,I x3,I x4,I x5,I x6,I x7,I x8,I x9,I ((Nm.num bs t (lim 1 7) 0 3).1),.bool false,.bool false],(Nm.num bs t (lim 1 7) 0 3).2):=rfl
 generalize hx:(Nm.num bs t (lim 1 7) 0 3).1=x10 at hcon hstep
 generalize hn:(Nm.num bs t (lim 1 7) 0 3).2=tn at hcon hstep
 clear hx hn
 refine hcon.mono ?_
 rintro e V2 ⟨rfl,hs,hb⟩
 have RUN1:Hid (runs (DP bs) ((((((((((([]++[.flg 0])++[.num 2 9999 1])++[.num 2 9999 2])++[.num 2 9999 3])++[.num 2 9999 4])++[.num 2 9999 5])++[.num 2 9999 6])++[.num 2 9999 7])++[.num 2 9999 8])++[.num 2 9999 9])++[.num 1 3 10]) zPh s0=.ok ([.bool x0,I x1,I x2,I x3,I x4,I x5,I x6,I x7,I x8,I x9,I x10,.bool false,.bool false],tn)):=Lib.hid (runs_snoc RUN0.out hstep)
 have HB1:=Lib.hid (HB.out.step hb)
 have HS1:=Lib.hid hs
 clear RUN0 hstep hcon HB HS hs hb
 have c0:V2.cell? ⟨p,10,none⟩=some (I 0):=HB1.out.cell 0 10 rfl rfl
 have f0:V2.frozen? ⟨p,10,none⟩=false:=HB1.out.frozen 0 10 rfl
 go_upto_region 13 with fail
 have hput:=HB1.out.set 0 10 rfl (I x10)
 have hds:=HS1.out.but (But.set p 10 V2 (I x10)) hBp
 simp only [List.set_cons_succ,List.set_cons_zero,List.setIfInBounds_toArray] at hput
 clear c0 f0 HB1 HS1
 generalize World.setCell V2 _ _=V3 at hput hds ⊢
 clear V2 V t
 rename World=>V
 rename St=>t
 have HB:=Lib.hid hput
 have HS:=Lib.hid hds
 have RUN0:=RUN1
 clear hput hds RUN1
 go_wp2_with fail
 have hcon:=bool_d t V HS.out
 have hstep:Sp.run (DP bs) [.bool x0,I x1,I x2,I x3,I x4,I x5,I x6,I x7,I x8,I x9,I x10,.bool false,.bool false] t (.flg 11)=.ok ([.bool x0,I x1,I x2,I x3,I x4,I x5,I x6,I x7,I x8,I x9,I x10,.bool (decide ((Nm.num bs t 1 0 1).1=1)),.bool false],(Nm.num bs t 1 0 1).2):=rfl
 generalize hx:decide ((Nm.num bs t 1 0 1).1=1)=x11 at hcon hstep
 generalize hn:(Nm.num bs t 1 0 1).2=tn at hcon hstep
 clear hx hn
 refine hcon.mono ?_
 rintro e V2 ⟨rfl,hs,hb⟩
 have RUN1:Hid (runs (DP bs) (((((((((((([]++[.flg 0])++[.num 2 9999 1])++[.num 2 9999 2])++[.num 2 9999 3])++[.num 2 9999 4])++[.num 2 9999 5])++[.num 2 9999 6])++[.num 2 9999 7])++[.num 2 9999 8])++[.num 2 9999 9])++[.num 1 3 10])++[.flg 11]) zPh s0=.ok ([.bool x0,I x1,I x2,I x3,I x4,I x5,I x6,I x7,I x8,I x9,I x10,.bool x11,.bool false],tn)):=Lib.hid (runs_snoc RUN0.out hstep)
 have HB1:=Lib.hid (HB.out.step hb)
 have HS1:=Lib.hid hs
 clear RUN0 hstep hcon HB HS hs hb
 have c0:V2.cell? ⟨p,11,none⟩=some (.bool false):=HB1.out.cell 0 11 rfl rfl
 have f0:V2.frozen? ⟨p,11,none⟩=false:=HB1.out.frozen 0 11 rfl
 go_upto_region 14 with fail
 have hput:=HB1.out.set 0 11 rfl (.bool x11)
 have hds:=HS1.out.but (But.set p 11 V2 (.bool x11)) hBp
 simp only [List.set_cons_succ,List.set_cons_zero,List.setIfInBounds_toArray] at hput
 clear c0 f0 HB1 HS1
 generalize World.setCell V2 _ _=V3 at hput hds ⊢
 clear V2 V t
 rename World=>V
 rename St=>t
 have HB:=Lib.hid hput
 have HS:=Lib.hid hds
 have RUN0:=RUN1
 clear hput hds RUN1
 go_wp2_with fail
 have hcon:=bool_d t V HS.out
 have hstep:Sp.run (DP bs) [.bool x0,I x1,I x2,I x3,I x4,I x5,I x6,I x7,I x8,I x9,I x10,.bool x11,.bool false] t (.flg 12)=.ok ([.bool x0,I x1,I x2,I x3,I x4,I x5,I x6,I x7,I x8,I x9,I x10,.bool x11,.bool (decide ((Nm.num bs t 1 0 1).1=1))],(Nm.num bs t 1 0 1).2):=rfl
 generalize hx:decide ((Nm.num bs t 1 0 1).1=1)=x12 at hcon hstep
 generalize hn:(Nm.num bs t 1 0 1).2=tn at hcon hstep
 clear hx hn
 refine hcon.mono ?_
 rintro e V2 ⟨rfl,hs,hb⟩
 have RUN1:Hid (runs (DP bs) ((((((((((((([]++[.flg 0])++[.num 2 9999 1])++[.num 2 9999 2])++[.num 2 9999 3])++[.num 2 9999 4])++[.num 2 9999 5])++[.num 2 9999 6])++[.num 2 9999 7])++[.num 2 9999 8])++[.num 2 9999 9])++[.num 1 3 10])++[.flg 11])++[.flg 12]) zPh s0=.ok ([.bool x0,I x1,I x2,I x3,I x4,I x5,I x6,I x7,I x8,I x9,I x10,.bool x11,.bool x12],tn)):=Lib.hid (runs_snoc RUN0.out hstep)
 have HB1:=Lib.hid (HB.out.step hb)
 have HS1:=Lib.hid hs
 clear RUN0 hstep hcon HB HS hs hb
 have c0:V2.cell? ⟨p,12,none⟩=some (.bool false):=HB1.out.cell 0 12 rfl rfl
 have f0:V2.frozen? ⟨p,12,none⟩=false:=HB1.out.frozen 0 12 rfl
 go_upto_region 15 with fail
 have hput:=HB1.out.set 0 12 rfl (.bool x12)
 have hds:=HS1.out.but (But.set p 12 V2 (.bool x12)) hBp
 simp only [List.set_cons_succ,List.set_cons_zero,List.setIfInBounds_toArray] at hput
 clear c0 f0 HB1 HS1
 generalize World.setCell V2 _ _=V3 at hput hds ⊢
 clear V2 V t
 rename World=>V
 rename St=>t
 have HB:=Lib.hid hput
 have HS:=Lib.hid hds
 have RUN0:=RUN1
 clear hput hds RUN1
 go_wp2_with (first | (refine Row.wpList_load_g 25 _ rfl (by first | rfl | (go_simp;done) | fail) ⟨p,0,none⟩ rfl [.bool x0,I x1,I x2,I x3,I x4,I x5,I x6,I x7,I x8,I x9,I x10,.bool x11,.bool x12] _ (by have:=Row.lies_of_block (HB.out.at 0 rfl);simpa using this) Tryz.underlying25 rfl info_phase ?_) | (refine wpList_store_row rfl 25 _ _ rfl gz #[.bool x0,I x1,I x2,I x3,I x4,I x5,I x6,I x7,I x8,I x9,I x10,.bool x11,.bool x12] rfl rfl 25 _ (HB.out.at 1 rfl) info_phase rfl (by simp [Value.oneCell']) ?_))
 have hput:=HB.out.put 1 rfl #[.bool x0,I x1,I x2,I x3,I x4,I x5,I x6,I x7,I x8,I x9,I x10,.bool x11,.bool x12]
 have hds:=HS.out.but (But.row #[.bool x0,I x1,I x2,I x3,I x4,I x5,I x6,I x7,I x8,I x9,I x10,.bool x11,.bool x12] (HB.out.at 1 rfl) rfl) (by omega)
 simp only [List.set_cons_succ,List.set_cons_zero] at hput
 generalize World.setRow V gz _=V3 at hput hds ⊢
 have HB3:=Lib.hid hput
 have HS3:=Lib.hid hds
 clear hput hds
 go_wp2_with fail
 (try simp only [Exit.inBlock,Exit.then])
 refine bodyPost_ret (v:=.agg #[.bool x0,I x1,I x2,I x3,I x4,I x5,I x6,I x7,I x8,I x9,I x10,.bool x11,.bool x12]) ?_ rfl ⟨[.bool x0,I x1,I x2,I x3,I x4,I x5,I x6,I x7,I x8,I x9,I x10,.bool x11,.bool x12],t,RUN0.out,rfl,HS3.out,HB3.out.bel⟩
 exact results_cell_row rfl _ _ gz 25 _ (0,0) _ rfl (HB3.out.at 1 rfl) Tryz.underlying25 rfl info_phase
theorem info_detector:(Tryz.prog.info? 71).map (·.size)=some 7:=by kernel_rfl
theorem detector_d (s0:St) (W:World) (h:Ds B g ad cap bs s0 W):Calls Tryz.prog 63 #[ptr g] W fun e W'=>∃ l s',runs (DP bs) stD zDt s0=.ok (l,s')∧e=.returned (.agg l.toArray)∧Ds B g ad cap bs s' W'∧But g W W':=by
 have hg:g < W.heap.size:=Nat.lt_of_lt_of_le h.gl h.bl
 have hBW:=h.bl
 have h0:=((Bkg.nil hg).alloc #[I 0,.float .f64 0,.float .f64 0,.float .f64 0,.float .f64 0,I 0,I 0] 71).alloc #[I 0,.float .f64 0,.float .f64 0,.float .f64 0,.float .f64 0,I 0,I 0] 71
 rw [show (W.alloc (.cells #[I 0,.float .f64 0,.float .f64 0,.float .f64 0,.float .f64 0,I 0,I 0] 71)).heap.size=W.heap.size+1 by simp] at h0
 have hs0:=h.mem (((Below.refl W.heap.size W).alloc (Nat.le_refl _) (.cells #[I 0,.float .f64 0,.float .f64 0,.float .f64 0,.float .f64 0,I 0,I 0] 71)).alloc (by simp) (.cells #[I 0,.float .f64 0,.float .f64 0,.float .f64 0,.float .f64 0,I 0,I 0] 71))
 have RUN:Hid (runs (DP bs) [] zDt s0=.ok ([I 0,.float .f64 0,.float .f64 0,.float .f64 0,.float .f64 0,I 0,I 0],s0)):=Lib.hid rfl
 obtain ⟨t,ht⟩:∃ t,s0=t:=⟨_,rfl⟩
 rw [show Ds B g ad cap bs s0 _=Ds B g ad cap bs t _ by rw [ht]] at hs0
 have RUN0:Hid (runs (DP bs) [] zDt s0=.ok ([I 0,.float .f64 0,.float .f64 0,.float .f64 0,.float .f64 0,I 0,I 0],t)):=Lib.hid (by rw [← ht];exact RUN.out)
 clear RUN h ht
 go_enter Tryz.func63,Tryz.ntmps63
 go_upto_region 2 with fail
 generalize World.alloc (World.alloc W _) _=V at h0 hs0 ⊢
 generalize hp:W.heap.size+1=p at h0 ⊢
 generalize hz:W.heap.size=gz at h0 hg hBW ⊢
 have hBp:B≤p:=by omega
 have HS:=Lib.hid hs0
 have HB:=Lib.hid h0
 clear h0 hs0 hp hg
 go_wp2_with fail
 have hcon:=num_d t 1 7 V HS.out
 have hstep:Sp.run (DP bs) [I 0,.float .f64 0,.float .f64 0,.float .f64 0,.float .f64 0,I 0,I 0] t (.num 1 7 0)=.ok ([I ((Nm.num bs t (lim 1 7) 0 7).1),.float .f64 0,.float .f64 0,.float .f64 0,.float .f64 0,I 0,I 0],(Nm.num bs t (lim 1 7) 0 7).2):=rfl
 generalize hx:(Nm.num bs t (lim 1 7) 0 7).1=x0 at hcon hstep
 generalize hn:(Nm.num bs t (lim 1 7) 0 7).2=tn at hcon hstep
 clear hx hn
 refine hcon.mono ?_
 rintro e V2 ⟨rfl,hs,hb⟩
 have RUN1:Hid (runs (DP bs) ([]++[.num 1 7 0]) zDt s0=.ok ([I x0,.float .f64 0,.float .f64 0,.float .f64 0,.float .f64 0,I 0,I 0],tn)):=Lib.hid (runs_snoc RUN0.out hstep)
 have HB1:=Lib.hid (HB.out.step hb)
 have HS1:=Lib.hid hs
 clear RUN0 hstep hcon HB HS hs hb
 have c0:V2.cell? ⟨p,0,none⟩=some (I 0):=HB1.out.cell 0 0 rfl rfl
 have f0:V2.frozen? ⟨p,0,none⟩=false:=HB1.out.frozen 0 0 rfl
 go_upto_region 3 with fail
 have hput:=HB1.out.set 0 0 rfl (I x0)
 have hds:=HS1.out.but (But.set p 0 V2 (I x0)) hBp
 simp only [List.set_cons_succ,List.set_cons_zero,List.setIfInBounds_toArray] at hput
 clear c0 f0 HB1 HS1
 generalize World.setCell V2 _ _=V3 at hput hds ⊢
 clear V2 V t
 rename World=>V
 rename St=>t
 have HB:=Lib.hid hput
 have HS:=Lib.hid hds
 have RUN0:=RUN1
 clear hput hds RUN1
 go_wp2_with fail
 have hcon:=some_d t true V HS.out
 have hstep:Sp.run (DP bs) [I x0,.float .f64 0,.float .f64 0,.float .f64 0,.float .f64 0,I 0,I 0] t (.flt true 1)=.ok ([I x0,.float .f64 ((some_ bs t true).1),.float .f64 0,.float .f64 0,.float .f64 0,I 0,I 0],(some_ bs t true).2):=rfl
 generalize hx:(some_ bs t true).1=x1 at hcon hstep
 generalize hn:(some_ bs t true).2=tn at hcon hstep
 clear hx hn
 refine hcon.mono ?_
 rintro e V2 ⟨rfl,hs,hb⟩
 have RUN1:Hid (runs (DP bs) (([]++[.num 1 7 0])++[.flt true 1]) zDt s0=.ok ([I x0,.float .f64 x1,.float .f64 0,.float .f64 0,.float .f64 0,I 0,I 0],tn)):=Lib.hid (runs_snoc RUN0.out hstep)
 have HB1:=Lib.hid (HB.out.step hb)
 have HS1:=Lib.hid hs
 clear RUN0 hstep hcon HB HS hs hb
 have c0:V2.cell? ⟨p,1,none⟩=some (.float .f64 0):=HB1.out.cell 0 1 rfl rfl
 have f0:V2.frozen? ⟨p,1,none⟩=false:=HB1.out.frozen 0 1 rfl
 have st:Sem.run Tryz.prog (store ⟨p,1,none⟩ (.float .f64 x1)) V2=.ok () (V2.setCell ⟨p,1,none⟩ (.float .f64 x1)):=Rr.run_store_float c0 f0
 go_upto_region 4 with fail
 clear st
 have hput:=HB1.out.set 0 1 rfl (.float .f64 x1)
 have hds:=HS1.out.but (But.set p 1 V2 (.float .f64 x1)) hBp
 simp only [List.set_cons_succ,List.set_cons_zero,List.setIfInBounds_toArray] at hput
 clear c0 f0 HB1 HS1
 generalize World.setCell V2 _ _=V3 at hput hds ⊢
 clear V2 V t
 rename World=>V
 rename St=>t
 have HB:=Lib.hid hput
 have HS:=Lib.hid hds
 have RUN0:=RUN1
 clear hput hds RUN1
 go_wp2_with fail
 have hcon:=some_d t true V HS.out
 have hstep:Sp.run (DP bs) [I x0,.float .f64 x1,.float .f64 0,.float .f64 0,.float .f64 0,I 0,I 0] t (.flt true 2)=.ok ([I x0,.float .f64 x1,.float .f64 ((some_ bs t true).1),.float .f64 0,.float .f64 0,I 0,I 0],(some_ bs t true).2):=rfl
 generalize hx:(some_ bs t true).1=x2 at hcon hstep
 generalize hn:(some_ bs t true).2=tn at hcon hstep
 clear hx hn
 refine hcon.mono ?_
 rintro e V2 ⟨rfl,hs,hb⟩
 have RUN1:Hid (runs (DP bs) ((([]++[.num 1 7 0])++[.flt true 1])++[.flt true 2]) zDt s0=.ok ([I x0,.float .f64 x1,.float .f64 x2,.float .f64 0,.float .f64 0,I 0,I 0],tn)):=Lib.hid (runs_snoc RUN0.out hstep)
 have HB1:=Lib.hid (HB.out.step hb)
 have HS1:=Lib.hid hs
 clear RUN0 hstep hcon HB HS hs hb
 have c0:V2.cell? ⟨p,2,none⟩=some (.float .f64 0):=HB1.out.cell 0 2 rfl rfl
 have f0:V2.frozen? ⟨p,2,none⟩=false:=HB1.out.frozen 0 2 rfl
 have st:Sem.run Tryz.prog (store ⟨p,2,none⟩ (.float .f64 x2)) V2=.ok () (V2.setCell ⟨p,2,none⟩ (.float .f64 x2)):=Rr.run_store_float c0 f0
 go_upto_region 5 with fail
 clear st
 have hput:=HB1.out.set 0 2 rfl (.float .f64 x2)
 have hds:=HS1.out.but (But.set p 2 V2 (.float .f64 x2)) hBp
 simp only [List.set_cons_succ,List.set_cons_zero,List.setIfInBounds_toArray] at hput
 clear c0 f0 HB1 HS1
 generalize World.setCell V2 _ _=V3 at hput hds ⊢
 clear V2 V t
 rename World=>V
 rename St=>t
 have HB:=Lib.hid hput
 have HS:=Lib.hid hds
 have RUN0:=RUN1
 clear hput hds RUN1
 go_wp2_with fail
 have hcon:=some_d t false V HS.out
 have hstep:Sp.run (DP bs) [I x0,.float .f64 x1,.float .f64 x2,.float .f64 0,.float .f64 0,I 0,I 0] t (.flt false 3)=.ok ([I x0,.float .f64 x1,.float .f64 x2,.float .f64 ((some_ bs t false).1),.float .f64 0,I 0,I 0],(some_ bs t false).2):=rfl
 generalize hx:(some_ bs t false).1=x3 at hcon hstep
 generalize hn:(some_ bs t false).2=tn at hcon hstep
 clear hx hn
 refine hcon.mono ?_
 rintro e V2 ⟨rfl,hs,hb⟩
 have RUN1:Hid (runs (DP bs) (((([]++[.num 1 7 0])++[.flt true 1])++[.flt true 2])++[.flt false 3]) zDt s0=.ok ([I x0,.float .f64 x1,.float .f64 x2,.float .f64 x3,.float .f64 0,I 0,I 0],tn)):=Lib.hid (runs_snoc RUN0.out hstep)
 have HB1:=Lib.hid (HB.out.step hb)
 have HS1:=Lib.hid hs
 clear RUN0 hstep hcon HB HS hs hb
 have c0:V2.cell? ⟨p,3,none⟩=some (.float .f64 0):=HB1.out.cell 0 3 rfl rfl
 have f0:V2.frozen? ⟨p,3,none⟩=false:=HB1.out.frozen 0 3 rfl
 have st:Sem.run Tryz.prog (store ⟨p,3,none⟩ (.float .f64 x3)) V2=.ok () (V2.setCell ⟨p,3,none⟩ (.float .f64 x3)):=Rr.run_store_float c0 f0
 go_upto_region 6 with fail
 clear st
 have hput:=HB1.out.set 0 3 rfl (.float .f64 x3)
 have hds:=HS1.out.but (But.set p 3 V2 (.float .f64 x3)) hBp
 simp only [List.set_cons_succ,List.set_cons_zero,List.setIfInBounds_toArray] at hput
 clear c0 f0 HB1 HS1
 generalize World.setCell V2 _ _=V3 at hput hds ⊢
 clear V2 V t
 rename World=>V
 rename St=>t
 have HB:=Lib.hid hput
 have HS:=Lib.hid hds
 have RUN0:=RUN1
 clear hput hds RUN1
 go_wp2_with fail
 have hcon:=some_d t false V HS.out
 have hstep:Sp.run (DP bs) [I x0,.float .f64 x1,.float .f64 x2,.float .f64 x3,.float .f64 0,I 0,I 0] t (.flt false 4)=.ok ([I x0,.float .f64 x1,.float .f64 x2,.float .f64 x3,.float .f64 ((some_ bs t false).1),I 0,I 0],(some_ bs t false).2):=rfl
 generalize hx:(some_ bs t false).1=x4 at hcon hstep
 generalize hn:(some_ bs t false).2=tn at hcon hstep
 clear hx hn
 refine hcon.mono ?_
 rintro e V2 ⟨rfl,hs,hb⟩
 have RUN1:Hid (runs (DP bs) ((((([]++[.num 1 7 0])++[.flt true 1])++[.flt true 2])++[.flt false 3])++[.flt false 4]) zDt s0=.ok ([I x0,.float .f64 x1,.float .f64 x2,.float .f64 x3,.float .f64 x4,I 0,I 0],tn)):=Lib.hid (runs_snoc RUN0.out hstep)
 have HB1:=Lib.hid (HB.out.step hb)
 have HS1:=Lib.hid hs
 clear RUN0 hstep hcon HB HS hs hb
 have c0:V2.cell? ⟨p,4,none⟩=some (.float .f64 0):=HB1.out.cell 0 4 rfl rfl
 have f0:V2.frozen? ⟨p,4,none⟩=false:=HB1.out.frozen 0 4 rfl
 have st:Sem.run Tryz.prog (store ⟨p,4,none⟩ (.float .f64 x4)) V2=.ok () (V2.setCell ⟨p,4,none⟩ (.float .f64 x4)):=Rr.run_store_float c0 f0
 go_upto_region 7 with fail
 clear st
 have hput:=HB1.out.set 0 4 rfl (.float .f64 x4)
 have hds:=HS1.out.but (But.set p 4 V2 (.float .f64 x4)) hBp
 simp only [List.set_cons_succ,List.set_cons_zero,List.setIfInBounds_toArray] at hput
 clear c0 f0 HB1 HS1
 generalize World.setCell V2 _ _=V3 at hput hds ⊢
 clear V2 V t
 rename World=>V
 rename St=>t
 have HB:=Lib.hid hput
 have HS:=Lib.hid hds
 have RUN0:=RUN1
 clear hput hds RUN1
 go_wp2_with fail
 have hcon:=time_d t V HS.out
 have hstep:Sp.run (DP bs) [I x0,.float .f64 x1,.float .f64 x2,.float .f64 x3,.float .f64 x4,I 0,I 0] t (.num 2 9999 5)=.ok ([I x0,.float .f64 x1,.float .f64 x2,.float .f64 x3,.float .f64 x4,I ((Nm.num bs t (lim 2 7) 0 9999).1),I 0],(Nm.num bs t (lim 2 7) 0 9999).2):=rfl
 generalize hx:(Nm.num bs t (lim 2 7) 0 9999).1=x5 at hcon hstep
 generalize hn:(Nm.num bs t (lim 2 7) 0 9999).2=tn at hcon hstep
 clear hx hn
 refine hcon.mono ?_
 rintro e V2 ⟨rfl,hs,hb⟩
 have RUN1:Hid (runs (DP bs) (((((([]++[.num 1 7 0])++[.flt true 1])++[.flt true 2])++[.flt false 3])++[.flt false 4])++[.num 2 9999 5]) zDt s0=.ok ([I x0,.float .f64 x1,.float .f64 x2,.float .f64 x3,.float .f64 x4,I x5,I 0],tn)):=Lib.hid (runs_snoc RUN0.out hstep)
 have HB1:=Lib.hid (HB.out.step hb)
 have HS1:=Lib.hid hs
 clear RUN0 hstep hcon HB HS hs hb
 have c0:V2.cell? ⟨p,5,none⟩=some (I 0):=HB1.out.cell 0 5 rfl rfl
 have f0:V2.frozen? ⟨p,5,none⟩=false:=HB1.out.frozen 0 5 rfl
 go_upto_region 8 with fail
 have hput:=HB1.out.set 0 5 rfl (I x5)
 have hds:=HS1.out.but (But.set p 5 V2 (I x5)) hBp
 simp only [List.set_cons_succ,List.set_cons_zero,List.setIfInBounds_toArray] at hput
 clear c0 f0 HB1 HS1
 generalize World.setCell V2 _ _=V3 at hput hds ⊢
 clear V2 V t
 rename World=>V
 rename St=>t
 have HB:=Lib.hid hput
 have HS:=Lib.hid hds
 have RUN0:=RUN1
 clear hput hds RUN1
 go_wp2_with fail
 have hcon:=time_d t V HS.out
 have hstep:Sp.run (DP bs) [I x0,.float .f64 x1,.float .f64 x2,.float .f64 x3,.float .f64 x4,I x5,I 0] t (.num 2 9999 6)=.ok ([I x0,.float .f64 x1,.float .f64 x2,.float .f64 x3,.float .f64 x4,I x5,I ((Nm.num bs t (lim 2 7) 0 9999).1)],(Nm.num bs t (lim 2 7) 0 9999).2):=rfl
 generalize hx:(Nm.num bs t (lim 2 7) 0 9999).1=x6 at hcon hstep
 generalize hn:(Nm.num bs t (lim 2 7) 0 9999).2=tn at hcon hstep
 clear hx hn
 refine hcon.mono ?_
 rintro e V2 ⟨rfl,hs,hb⟩
 have RUN1:Hid (runs (DP bs) ((((((([]++[.num 1 7 0])++[.flt true 1])++[.flt true 2])++[.flt false 3])++[.flt false 4])++[.num 2 9999 5])++[.num 2 9999 6]) zDt s0=.ok ([I x0,.float .f64 x1,.float .f64 x2,.float .f64 x3,.float .f64 x4,I x5,I x6],tn)):=Lib.hid (runs_snoc RUN0.out hstep)
 have HB1:=Lib.hid (HB.out.step hb)
 have HS1:=Lib.hid hs
 clear RUN0 hstep hcon HB HS hs hb
 have c0:V2.cell? ⟨p,6,none⟩=some (I 0):=HB1.out.cell 0 6 rfl rfl
 have f0:V2.frozen? ⟨p,6,none⟩=false:=HB1.out.frozen 0 6 rfl
 go_upto_region 9 with fail
 have hput:=HB1.out.set 0 6 rfl (I x6)
 have hds:=HS1.out.but (But.set p 6 V2 (I x6)) hBp
 simp only [List.set_cons_succ,List.set_cons_zero,List.setIfInBounds_toArray] at hput
 clear c0 f0 HB1 HS1
 generalize World.setCell V2 _ _=V3 at hput hds ⊢
 clear V2 V t
 rename World=>V
 rename St=>t
 have HB:=Lib.hid hput
 have HS:=Lib.hid hds
 have RUN0:=RUN1
 clear hput hds RUN1
 go_wp2_with (first | (refine Row.wpList_load_g 71 _ rfl (by first | rfl | (go_simp;done) | fail) ⟨p,0,none⟩ rfl [I x0,.float .f64 x1,.float .f64 x2,.float .f64 x3,.float .f64 x4,I x5,I x6] _ (by have:=Row.lies_of_block (HB.out.at 0 rfl);simpa using this) Tryz.underlying71 rfl info_detector ?_) | (refine wpList_store_row rfl 71 _ _ rfl gz #[I x0,.float .f64 x1,.float .f64 x2,.float .f64 x3,.float .f64 x4,I x5,I x6] rfl rfl 71 _ (HB.out.at 1 rfl) info_detector rfl (by simp [Value.oneCell']) ?_))
 have hput:=HB.out.put 1 rfl #[I x0,.float .f64 x1,.float .f64 x2,.float .f64 x3,.float .f64 x4,I x5,I x6]
 have hds:=HS.out.but (But.row #[I x0,.float .f64 x1,.float .f64 x2,.float .f64 x3,.float .f64 x4,I x5,I x6] (HB.out.at 1 rfl) rfl) (by omega)
 simp only [List.set_cons_succ,List.set_cons_zero] at hput
 generalize World.setRow V gz _=V3 at hput hds ⊢
 have HB3:=Lib.hid hput
 have HS3:=Lib.hid hds
 clear hput hds
 go_wp2_with fail
 (try simp only [Exit.inBlock,Exit.then])
 refine bodyPost_ret (v:=.agg #[I x0,.float .f64 x1,.float .f64 x2,.float .f64 x3,.float .f64 x4,I x5,I x6]) ?_ rfl ⟨[I x0,.float .f64 x1,.float .f64 x2,.float .f64 x3,.float .f64 x4,I x5,I x6],t,RUN0.out,rfl,HS3.out,HB3.out.bel⟩
 exact results_cell_row rfl _ _ gz 71 _ (0,0) _ rfl (HB3.out.at 1 rfl) Tryz.underlying71 rfl info_detector
theorem info_rail:(Tryz.prog.info? 75).map (·.size)=some 11:=by kernel_rfl
theorem rail_d (s0:St) (W:World) (h:Ds B g ad cap bs s0 W):Calls Tryz.prog 64 #[ptr g] W fun e W'=>∃ l s',runs (DP bs) stR zRl s0=.ok (l,s')∧e=.returned (.agg l.toArray)∧Ds B g ad cap bs s' W'∧But g W W':=by
 have hg:g < W.heap.size:=Nat.lt_of_lt_of_le h.gl h.bl
 have hBW:=h.bl
 have h0:=((Bkg.nil hg).alloc #[I 0,I 0,I 0,I 0,I 0,I 0,I 0,I 0,I 0,I 0,I 0] 75).alloc #[I 0,I 0,I 0,I 0,I 0,I 0,I 0,I 0,I 0,I 0,I 0] 75
 rw [show (W.alloc (.cells #[I 0,I 0,I 0,I 0,I 0,I 0,I 0,I 0,I 0,I 0,I 0] 75)).heap.size=W.heap.size+1 by simp] at h0
 have hs0:=h.mem (((Below.refl W.heap.size W).alloc (Nat.le_refl _) (.cells #[I 0,I 0,I 0,I 0,I 0,I 0,I 0,I 0,I 0,I 0,I 0] 75)).alloc (by simp) (.cells #[I 0,I 0,I 0,I 0,I 0,I 0,I 0,I 0,I 0,I 0,I 0] 75))
 have RUN:Hid (runs (DP bs) [] zRl s0=.ok ([I 0,I 0,I 0,I 0,I 0,I 0,I 0,I 0,I 0,I 0,I 0],s0)):=Lib.hid rfl
 obtain ⟨t,ht⟩:∃ t,s0=t:=⟨_,rfl⟩
 rw [show Ds B g ad cap bs s0 _=Ds B g ad cap bs t _ by rw [ht]] at hs0
 have RUN0:Hid (runs (DP bs) [] zRl s0=.ok ([I 0,I 0,I 0,I 0,I 0,I 0,I 0,I 0,I 0,I 0,I 0],t)):=Lib.hid (by rw [← ht];exact RUN.out)
 clear RUN h ht
 go_enter Tryz.func64,Tryz.ntmps64
 go_upto_region 2 with fail
 generalize World.alloc (World.alloc W _) _=V at h0 hs0 ⊢
 generalize hp:W.heap.size+1=p at h0 ⊢
 generalize hz:W.heap.size=gz at h0 hg hBW ⊢
 have hBp:B≤p:=by omega
 have HS:=Lib.hid hs0
 have HB:=Lib.hid h0
 clear h0 hs0 hp hg
 go_wp2_with fail
 have hcon:=num_d t 1 255 V HS.out
 have hstep:Sp.run (DP bs) [I 0,I 0,I 0,I 0,I 0,I 0,I 0,I 0,I 0,I 0,I 0] t (.num 1 255 0)=.ok ([I ((Nm.num bs t (lim 1 7) 0 255).1),I 0,I 0,I 0,I 0,I 0,I 0,I 0,I 0,I 0,I 0],(Nm.num bs t (lim 1 7) 0 255).2):=rfl
 generalize hx:(Nm.num bs t (lim 1 7) 0 255).1=x0 at hcon hstep
 generalize hn:(Nm.num bs t (lim 1 7) 0 255).2=tn at hcon hstep
 clear hx hn
 refine hcon.mono ?_
 rintro e V2 ⟨rfl,hs,hb⟩
 have RUN1:Hid (runs (DP bs) ([]++[.num 1 255 0]) zRl s0=.ok ([I x0,I 0,I 0,I 0,I 0,I 0,I 0,I 0,I 0,I 0,I 0],tn)):=Lib.hid (runs_snoc RUN0.out hstep)
 have HB1:=Lib.hid (HB.out.step hb)
 have HS1:=Lib.hid hs
 clear RUN0 hstep hcon HB HS hs hb
 have c0:V2.cell? ⟨p,0,none⟩=some (I 0):=HB1.out.cell 0 0 rfl rfl
 have f0:V2.frozen? ⟨p,0,none⟩=false:=HB1.out.frozen 0 0 rfl
 go_upto_region 3 with fail
 have hput:=HB1.out.set 0 0 rfl (I x0)
 have hds:=HS1.out.but (But.set p 0 V2 (I x0)) hBp
 simp only [List.set_cons_succ,List.set_cons_zero,List.setIfInBounds_toArray] at hput
 clear c0 f0 HB1 HS1
 generalize World.setCell V2 _ _=V3 at hput hds ⊢
 clear V2 V t
 rename World=>V
 rename St=>t
 have HB:=Lib.hid hput
 have HS:=Lib.hid hds
 have RUN0:=RUN1
 clear hput hds RUN1
 go_wp2_with fail
 have hcon:=num_d t 1 255 V HS.out
 have hstep:Sp.run (DP bs) [I x0,I 0,I 0,I 0,I 0,I 0,I 0,I 0,I 0,I 0,I 0] t (.num 1 255 1)=.ok ([I x0,I ((Nm.num bs t (lim 1 7) 0 255).1),I 0,I 0,I 0,I 0,I 0,I 0,I 0,I 0,I 0],(Nm.num bs t (lim 1 7) 0 255).2):=rfl
 generalize hx:(Nm.num bs t (lim 1 7) 0 255).1=x1 at hcon hstep
 generalize hn:(Nm.num bs t (lim 1 7) 0 255).2=tn at hcon hstep
 clear hx hn
 refine hcon.mono ?_
 rintro e V2 ⟨rfl,hs,hb⟩
 have RUN1:Hid (runs (DP bs) (([]++[.num 1 255 0])++[.num 1 255 1]) zRl s0=.ok ([I x0,I x1,I 0,I 0,I 0,I 0,I 0,I 0,I 0,I 0,I 0],tn)):=Lib.hid (runs_snoc RUN0.out hstep)
 have HB1:=Lib.hid (HB.out.step hb)
 have HS1:=Lib.hid hs
 clear RUN0 hstep hcon HB HS hs hb
 have c0:V2.cell? ⟨p,1,none⟩=some (I 0):=HB1.out.cell 0 1 rfl rfl
 have f0:V2.frozen? ⟨p,1,none⟩=false:=HB1.out.frozen 0 1 rfl
 go_upto_region 4 with fail
 have hput:=HB1.out.set 0 1 rfl (I x1)
 have hds:=HS1.out.but (But.set p 1 V2 (I x1)) hBp
 simp only [List.set_cons_succ,List.set_cons_zero,List.setIfInBounds_toArray] at hput
 clear c0 f0 HB1 HS1
 generalize World.setCell V2 _ _=V3 at hput hds ⊢
 clear V2 V t
 rename World=>V
 rename St=>t
 have HB:=Lib.hid hput
 have HS:=Lib.hid hds
 have RUN0:=RUN1
 clear hput hds RUN1
 go_wp2_with fail
 have hcon:=num_d t 1 255 V HS.out
 have hstep:Sp.run (DP bs) [I x0,I x1,I 0,I 0,I 0,I 0,I 0,I 0,I 0,I 0,I 0] t (.num 1 255 2)=.ok ([I x0,I x1,I ((Nm.num bs t (lim 1 7) 0 255).1),I 0,I 0,I 0,I 0,I 0,I 0,I 0,I 0],(Nm.num bs t (lim 1 7) 0 255).2):=rfl
 generalize hx:(Nm.num bs t (lim 1 7) 0 255).1=x2 at hcon hstep
 generalize hn:(Nm.num bs t (lim 1 7) 0 255).2=tn at hcon hstep
 clear hx hn
 refine hcon.mono ?_
 rintro e V2 ⟨rfl,hs,hb⟩
 have RUN1:Hid (runs (DP bs) ((([]++[.num 1 255 0])++[.num 1 255 1])++[.num 1 255 2]) zRl s0=.ok ([I x0,I x1,I x2,I 0,I 0,I 0,I 0,I 0,I 0,I 0,I 0],tn)):=Lib.hid (runs_snoc RUN0.out hstep)
 have HB1:=Lib.hid (HB.out.step hb)
 have HS1:=Lib.hid hs
 clear RUN0 hstep hcon HB HS hs hb
 have c0:V2.cell? ⟨p,2,none⟩=some (I 0):=HB1.out.cell 0 2 rfl rfl
 have f0:V2.frozen? ⟨p,2,none⟩=false:=HB1.out.frozen 0 2 rfl
 go_upto_region 5 with fail
 have hput:=HB1.out.set 0 2 rfl (I x2)
 have hds:=HS1.out.but (But.set p 2 V2 (I x2)) hBp
 simp only [List.set_cons_succ,List.set_cons_zero,List.setIfInBounds_toArray] at hput
 clear c0 f0 HB1 HS1
 generalize World.setCell V2 _ _=V3 at hput hds ⊢
 clear V2 V t
 rename World=>V
 rename St=>t
 have HB:=Lib.hid hput
 have HS:=Lib.hid hds
 have RUN0:=RUN1
 clear hput hds RUN1
 go_wp2_with fail
 have hcon:=num_d t 1 255 V HS.out
 have hstep:Sp.run (DP bs) [I x0,I x1,I x2,I 0,I 0,I 0,I 0,I 0,I 0,I 0,I 0] t (.num 1 255 3)=.ok ([I x0,I x1,I x2,I ((Nm.num bs t (lim 1 7) 0 255).1),I 0,I 0,I 0,I 0,I 0,I 0,I 0],(Nm.num bs t (lim 1 7) 0 255).2):=rfl
 generalize hx:(Nm.num bs t (lim 1 7) 0 255).1=x3 at hcon hstep
 generalize hn:(Nm.num bs t (lim 1 7) 0 255).2=tn at hcon hstep
 clear hx hn
 refine hcon.mono ?_
 rintro e V2 ⟨rfl,hs,hb⟩
 have RUN1:Hid (runs (DP bs) (((([]++[.num 1 255 0])++[.num 1 255 1])++[.num 1 255 2])++[.num 1 255 3]) zRl s0=.ok ([I x0,I x1,I x2,I x3,I 0,I 0,I 0,I 0,I 0,I 0,I 0],tn)):=Lib.hid (runs_snoc RUN0.out hstep)
 have HB1:=Lib.hid (HB.out.step hb)
 have HS1:=Lib.hid hs
 clear RUN0 hstep hcon HB HS hs hb
 have c0:V2.cell? ⟨p,3,none⟩=some (I 0):=HB1.out.cell 0 3 rfl rfl
 have f0:V2.frozen? ⟨p,3,none⟩=false:=HB1.out.frozen 0 3 rfl
 go_upto_region 6 with fail
 have hput:=HB1.out.set 0 3 rfl (I x3)
 have hds:=HS1.out.but (But.set p 3 V2 (I x3)) hBp
 simp only [List.set_cons_succ,List.set_cons_zero,List.setIfInBounds_toArray] at hput
 clear c0 f0 HB1 HS1
 generalize World.setCell V2 _ _=V3 at hput hds ⊢
 clear V2 V t
 rename World=>V
 rename St=>t
 have HB:=Lib.hid hput
 have HS:=Lib.hid hds
 have RUN0:=RUN1
 clear hput hds RUN1
 go_wp2_with fail
 have hcon:=time_d t V HS.out
 have hstep:Sp.run (DP bs) [I x0,I x1,I x2,I x3,I 0,I 0,I 0,I 0,I 0,I 0,I 0] t (.num 2 9999 4)=.ok ([I x0,I x1,I x2,I x3,I ((Nm.num bs t (lim 2 7) 0 9999).1),I 0,I 0,I 0,I 0,I 0,I 0],(Nm.num bs t (lim 2 7) 0 9999).2):=rfl
 generalize hx:(Nm.num bs t (lim 2 7) 0 9999).1=x4 at hcon hstep
 generalize hn:(Nm.num bs t (lim 2 7) 0 9999).2=tn at hcon hstep
 clear hx hn
 refine hcon.mono ?_
 rintro e V2 ⟨rfl,hs,hb⟩
 have RUN1:Hid (runs (DP bs) ((((([]++[.num 1 255 0])++[.num 1 255 1])++[.num 1 255 2])++[.num 1 255 3])++[.num 2 9999 4]) zRl s0=.ok ([I x0,I x1,I x2,I x3,I x4,I 0,I 0,I 0,I 0,I 0,I 0],tn)):=Lib.hid (runs_snoc RUN0.out hstep)
 have HB1:=Lib.hid (HB.out.step hb)
 have HS1:=Lib.hid hs
 clear RUN0 hstep hcon HB HS hs hb
 have c0:V2.cell? ⟨p,4,none⟩=some (I 0):=HB1.out.cell 0 4 rfl rfl
 have f0:V2.frozen? ⟨p,4,none⟩=false:=HB1.out.frozen 0 4 rfl
 go_upto_region 7 with fail
 have hput:=HB1.out.set 0 4 rfl (I x4)
 have hds:=HS1.out.but (But.set p 4 V2 (I x4)) hBp
 simp only [List.set_cons_succ,List.set_cons_zero,List.setIfInBounds_toArray] at hput
 clear c0 f0 HB1 HS1
 generalize World.setCell V2 _ _=V3 at hput hds ⊢
 clear V2 V t
 rename World=>V
 rename St=>t
 have HB:=Lib.hid hput
 have HS:=Lib.hid hds
 have RUN0:=RUN1
 clear hput hds RUN1
 go_wp2_with fail
 have hcon:=time_d t V HS.out
 have hstep:Sp.run (DP bs) [I x0,I x1,I x2,I x3,I x4,I 0,I 0,I 0,I 0,I 0,I 0] t (.num 2 9999 5)=.ok ([I x0,I x1,I x2,I x3,I x4,I ((Nm.num bs t (lim 2 7) 0 9999).1),I 0,I 0,I 0,I 0,I 0],(Nm.num bs t (lim 2 7) 0 9999).2):=rfl
 generalize hx:(Nm.num bs t (lim 2 7) 0 9999).1=x5 at hcon hstep
 generalize hn:(Nm.num bs t (lim 2 7) 0 9999).2=tn at hcon hstep
 clear hx hn
 refine hcon.mono ?_
 rintro e V2 ⟨rfl,hs,hb⟩
 have RUN1:Hid (runs (DP bs) (((((([]++[.num 1 255 0])++[.num 1 255 1])++[.num 1 255 2])++[.num 1 255 3])++[.num 2 9999 4])++[.num 2 9999 5]) zRl s0=.ok ([I x0,I x1,I x2,I x3,I x4,I x5,I 0,I 0,I 0,I 0,I 0],tn)):=Lib.hid (runs_snoc RUN0.out hstep)
 have HB1:=Lib.hid (HB.out.step hb)
 have HS1:=Lib.hid hs
 clear RUN0 hstep hcon HB HS hs hb
 have c0:V2.cell? ⟨p,5,none⟩=some (I 0):=HB1.out.cell 0 5 rfl rfl
 have f0:V2.frozen? ⟨p,5,none⟩=false:=HB1.out.frozen 0 5 rfl
 go_upto_region 8 with fail
 have hput:=HB1.out.set 0 5 rfl (I x5)
 have hds:=HS1.out.but (But.set p 5 V2 (I x5)) hBp
 simp only [List.set_cons_succ,List.set_cons_zero,List.setIfInBounds_toArray] at hput
 clear c0 f0 HB1 HS1
 generalize World.setCell V2 _ _=V3 at hput hds ⊢
 clear V2 V t
 rename World=>V
 rename St=>t
 have HB:=Lib.hid hput
 have HS:=Lib.hid hds
 have RUN0:=RUN1
 clear hput hds RUN1
 go_wp2_with fail
 have hcon:=time_d t V HS.out
 have hstep:Sp.run (DP bs) [I x0,I x1,I x2,I x3,I x4,I x5,I 0,I 0,I 0,I 0,I 0] t (.num 2 9999 6)=.ok ([I x0,I x1,I x2,I x3,I x4,I x5,I ((Nm.num bs t (lim 2 7) 0 9999).1),I 0,I 0,I 0,I 0],(Nm.num bs t (lim 2 7) 0 9999).2):=rfl
 generalize hx:(Nm.num bs t (lim 2 7) 0 9999).1=x6 at hcon hstep
 generalize hn:(Nm.num bs t (lim 2 7) 0 9999).2=tn at hcon hstep
 clear hx hn
 refine hcon.mono ?_
 rintro e V2 ⟨rfl,hs,hb⟩
 have RUN1:Hid (runs (DP bs) ((((((([]++[.num 1 255 0])++[.num 1 255 1])++[.num 1 255 2])++[.num 1 255 3])++[.num 2 9999 4])++[.num 2 9999 5])++[.num 2 9999 6]) zRl s0=.ok ([I x0,I x1,I x2,I x3,I x4,I x5,I x6,I 0,I 0,I 0,I 0],tn)):=Lib.hid (runs_snoc RUN0.out hstep)
 have HB1:=Lib.hid (HB.out.step hb)
 have HS1:=Lib.hid hs
 clear RUN0 hstep hcon HB HS hs hb
 have c0:V2.cell? ⟨p,6,none⟩=some (I 0):=HB1.out.cell 0 6 rfl rfl
 have f0:V2.frozen? ⟨p,6,none⟩=false:=HB1.out.frozen 0 6 rfl
 go_upto_region 9 with fail
 have hput:=HB1.out.set 0 6 rfl (I x6)
 have hds:=HS1.out.but (But.set p 6 V2 (I x6)) hBp
 simp only [List.set_cons_succ,List.set_cons_zero,List.setIfInBounds_toArray] at hput
 clear c0 f0 HB1 HS1
 generalize World.setCell V2 _ _=V3 at hput hds ⊢
 clear V2 V t
 rename World=>V
 rename St=>t
 have HB:=Lib.hid hput
 have HS:=Lib.hid hds
 have RUN0:=RUN1
 clear hput hds RUN1
 go_wp2_with fail
 have hcon:=time_d t V HS.out
 have hstep:Sp.run (DP bs) [I x0,I x1,I x2,I x3,I x4,I x5,I x6,I 0,I 0,I 0,I 0] t (.num 2 9999 7)=.ok ([I x0,I x1,I x2,I x3,I x4,I x5,I x6,I ((Nm.num bs t (lim 2 7) 0 9999).1),I 0,I 0,I 0],(Nm.num bs t (lim 2 7) 0 9999).2):=rfl
 generalize hx:(Nm.num bs t (lim 2 7) 0 9999).1=x7 at hcon hstep
 generalize hn:(Nm.num bs t (lim 2 7) 0 9999).2=tn at hcon hstep
 clear hx hn
 refine hcon.mono ?_
 rintro e V2 ⟨rfl,hs,hb⟩
 have RUN1:Hid (runs (DP bs) (((((((([]++[.num 1 255 0])++[.num 1 255 1])++[.num 1 255 2])++[.num 1 255 3])++[.num 2 9999 4])++[.num 2 9999 5])++[.num 2 9999 6])++[.num 2 9999 7]) zRl s0=.ok ([I x0,I x1,I x2,I x3,I x4,I x5,I x6,I x7,I 0,I 0,I 0],tn)):=Lib.hid (runs_snoc RUN0.out hstep)
 have HB1:=Lib.hid (HB.out.step hb)
 have HS1:=Lib.hid hs
 clear RUN0 hstep hcon HB HS hs hb
 have c0:V2.cell? ⟨p,7,none⟩=some (I 0):=HB1.out.cell 0 7 rfl rfl
 have f0:V2.frozen? ⟨p,7,none⟩=false:=HB1.out.frozen 0 7 rfl
 go_upto_region 10 with fail
 have hput:=HB1.out.set 0 7 rfl (I x7)
 have hds:=HS1.out.but (But.set p 7 V2 (I x7)) hBp
 simp only [List.set_cons_succ,List.set_cons_zero,List.setIfInBounds_toArray] at hput
 clear c0 f0 HB1 HS1
 generalize World.setCell V2 _ _=V3 at hput hds ⊢
 clear V2 V t
 rename World=>V
 rename St=>t
 have HB:=Lib.hid hput
 have HS:=Lib.hid hds
 have RUN0:=RUN1
 clear hput hds RUN1
 go_wp2_with fail
 have hcon:=time_d t V HS.out
 have hstep:Sp.run (DP bs) [I x0,I x1,I x2,I x3,I x4,I x5,I x6,I x7,I 0,I 0,I 0] t (.num 2 9999 8)=.ok ([I x0,I x1,I x2,I x3,I x4,I x5,I x6,I x7,I ((Nm.num bs t (lim 2 7) 0 9999).1),I 0,I 0],(Nm.num bs t (lim 2 7) 0 9999).2):=rfl
 generalize hx:(Nm.num bs t (lim 2 7) 0 9999).1=x8 at hcon hstep
 generalize hn:(Nm.num bs t (lim 2 7) 0 9999).2=tn at hcon hstep
 clear hx hn
 refine hcon.mono ?_
 rintro e V2 ⟨rfl,hs,hb⟩
 have RUN1:Hid (runs (DP bs) ((((((((([]++[.num 1 255 0])++[.num 1 255 1])++[.num 1 255 2])++[.num 1 255 3])++[.num 2 9999 4])++[.num 2 9999 5])++[.num 2 9999 6])++[.num 2 9999 7])++[.num 2 9999 8]) zRl s0=.ok ([I x0,I x1,I x2,I x3,I x4,I x5,I x6,I x7,I x8,I 0,I 0],tn)):=Lib.hid (runs_snoc RUN0.out hstep)
 have HB1:=Lib.hid (HB.out.step hb)
 have HS1:=Lib.hid hs
 clear RUN0 hstep hcon HB HS hs hb
 have c0:V2.cell? ⟨p,8,none⟩=some (I 0):=HB1.out.cell 0 8 rfl rfl
 have f0:V2.frozen? ⟨p,8,none⟩=false:=HB1.out.frozen 0 8 rfl
 go_upto_region 11 with fail
 have hput:=HB1.out.set 0 8 rfl (I x8)
 have hds:=HS1.out.but (But.set p 8 V2 (I x8)) hBp
 simp only [List.set_cons_succ,List.set_cons_zero,List.setIfInBounds_toArray] at hput
 clear c0 f0 HB1 HS1
 generalize World.setCell V2 _ _=V3 at hput hds ⊢
 clear V2 V t
 rename World=>V
 rename St=>t
 have HB:=Lib.hid hput
 have HS:=Lib.hid hds
 have RUN0:=RUN1
 clear hput hds RUN1
 go_wp2_with fail
 have hcon:=time_d t V HS.out
 have hstep:Sp.run (DP bs) [I x0,I x1,I x2,I x3,I x4,I x5,I x6,I x7,I x8,I 0,I 0] t (.num 2 9999 9)=.ok ([I x0,I x1,I x2,I x3,I x4,I x5,I x6,I x7,I x8,I ((Nm.num bs t (lim 2 7) 0 9999).1),I 0],(Nm.num bs t (lim 2 7) 0 9999).2):=rfl
 generalize hx:(Nm.num bs t (lim 2 7) 0 9999).1=x9 at hcon hstep
 generalize hn:(Nm.num bs t (lim 2 7) 0 9999).2=tn at hcon hstep
 clear hx hn
 refine hcon.mono ?_
 rintro e V2 ⟨rfl,hs,hb⟩
 have RUN1:Hid (runs (DP bs) (((((((((([]++[.num 1 255 0])++[.num 1 255 1])++[.num 1 255 2])++[.num 1 255 3])++[.num 2 9999 4])++[.num 2 9999 5])++[.num 2 9999 6])++[.num 2 9999 7])++[.num 2 9999 8])++[.num 2 9999 9]) zRl s0=.ok ([I x0,I x1,I x2,I x3,I x4,I x5,I x6,I x7,I x8,I x9,I 0],tn)):=Lib.hid (runs_snoc RUN0.out hstep)
 have HB1:=Lib.hid (HB.out.step hb)
 have HS1:=Lib.hid hs
 clear RUN0 hstep hcon HB HS hs hb
 have c0:V2.cell? ⟨p,9,none⟩=some (I 0):=HB1.out.cell 0 9 rfl rfl
 have f0:V2.frozen? ⟨p,9,none⟩=false:=HB1.out.frozen 0 9 rfl
 go_upto_region 12 with fail
 have hput:=HB1.out.set 0 9 rfl (I x9)
 have hds:=HS1.out.but (But.set p 9 V2 (I x9)) hBp
 simp only [List.set_cons_succ,List.set_cons_zero,List.setIfInBounds_toArray] at hput
 clear c0 f0 HB1 HS1
 generalize World.setCell V2 _ _=V3 at hput hds ⊢
 clear V2 V t
 rename World=>V
 rename St=>t
 have HB:=Lib.hid hput
 have HS:=Lib.hid hds
 have RUN0:=RUN1
 clear hput hds RUN1
 go_wp2_with fail
 have hcon:=num_d t 4 2147483647 V HS.out
 have hstep:Sp.run (DP bs) [I x0,I x1,I x2,I x3,I x4,I x5,I x6,I x7,I x8,I x9,I 0] t (.num 4 2147483647 10)=.ok ([I x0,I x1,I x2,I x3,I x4,I x5,I x6,I x7,I x8,I x9,I ((Nm.num bs t (lim 4 7) 0 2147483647).1)],(Nm.num bs t (lim 4 7) 0 2147483647).2):=rfl
 generalize hx:(Nm.num bs t (lim 4 7) 0 2147483647).1=x10 at hcon hstep
 generalize hn:(Nm.num bs t (lim 4 7) 0 2147483647).2=tn at hcon hstep
 clear hx hn
 refine hcon.mono ?_
 rintro e V2 ⟨rfl,hs,hb⟩
 have RUN1:Hid (runs (DP bs) ((((((((((([]++[.num 1 255 0])++[.num 1 255 1])++[.num 1 255 2])++[.num 1 255 3])++[.num 2 9999 4])++[.num 2 9999 5])++[.num 2 9999 6])++[.num 2 9999 7])++[.num 2 9999 8])++[.num 2 9999 9])++[.num 4 2147483647 10]) zRl s0=.ok ([I x0,I x1,I x2,I x3,I x4,I x5,I x6,I x7,I x8,I x9,I x10],tn)):=Lib.hid (runs_snoc RUN0.out hstep)
 have HB1:=Lib.hid (HB.out.step hb)
 have HS1:=Lib.hid hs
 clear RUN0 hstep hcon HB HS hs hb
 have c0:V2.cell? ⟨p,10,none⟩=some (I 0):=HB1.out.cell 0 10 rfl rfl
 have f0:V2.frozen? ⟨p,10,none⟩=false:=HB1.out.frozen 0 10 rfl
 go_upto_region 13 with fail
 have hput:=HB1.out.set 0 10 rfl (I x10)
 have hds:=HS1.out.but (But.set p 10 V2 (I x10)) hBp
 simp only [List.set_cons_succ,List.set_cons_zero,List.setIfInBounds_toArray] at hput
 clear c0 f0 HB1 HS1
 generalize World.setCell V2 _ _=V3 at hput hds ⊢
 clear V2 V t
 rename World=>V
 rename St=>t
 have HB:=Lib.hid hput
 have HS:=Lib.hid hds
 have RUN0:=RUN1
 clear hput hds RUN1
 go_wp2_with (first | (refine Row.wpList_load_g 75 _ rfl (by first | rfl | (go_simp;done) | fail) ⟨p,0,none⟩ rfl [I x0,I x1,I x2,I x3,I x4,I x5,I x6,I x7,I x8,I x9,I x10] _ (by have:=Row.lies_of_block (HB.out.at 0 rfl);simpa using this) Tryz.underlying75 rfl info_rail ?_) | (refine wpList_store_row rfl 75 _ _ rfl gz #[I x0,I x1,I x2,I x3,I x4,I x5,I x6,I x7,I x8,I x9,I x10] rfl rfl 75 _ (HB.out.at 1 rfl) info_rail rfl (by simp [Value.oneCell']) ?_))
 have hput:=HB.out.put 1 rfl #[I x0,I x1,I x2,I x3,I x4,I x5,I x6,I x7,I x8,I x9,I x10]
 have hds:=HS.out.but (But.row #[I x0,I x1,I x2,I x3,I x4,I x5,I x6,I x7,I x8,I x9,I x10] (HB.out.at 1 rfl) rfl) (by omega)
 simp only [List.set_cons_succ,List.set_cons_zero] at hput
 generalize World.setRow V gz _=V3 at hput hds ⊢
 have HB3:=Lib.hid hput
 have HS3:=Lib.hid hds
 clear hput hds
 go_wp2_with fail
 (try simp only [Exit.inBlock,Exit.then])
 refine bodyPost_ret (v:=.agg #[I x0,I x1,I x2,I x3,I x4,I x5,I x6,I x7,I x8,I x9,I x10]) ?_ rfl ⟨[I x0,I x1,I x2,I x3,I x4,I x5,I x6,I x7,I x8,I x9,I x10],t,RUN0.out,rfl,HS3.out,HB3.out.bel⟩
 exact results_cell_row rfl _ _ gz 75 _ (0,0) _ rfl (HB3.out.at 1 rfl) Tryz.underlying75 rfl info_rail
end
end Dp
namespace SetM
def low (s:Int):Nat:=(s % 256).toNat
theorem low_lt (s:Int):low s < 256:=by unfold low;omega
def has (s p:Int):Bool:=decide (0≤p) && (low s).testBit p.toNat
def bit (p:Int):Nat:=if 0≤p∧p < 8 then 2 ^ p.toNat else 0
def withN (s p:Int):Nat:=low s ||| bit p
theorem toNat_low (s:Int):(BitVec.ofInt 64 s).toNat % 256=low s:=by
 rw [BitVec.toNat_ofInt]
 unfold low
 show (s % ((18446744073709551616:Nat):Int)).toNat % 256=_
 omega
theorem toNat_ofNat (b:Nat) (h:b < 256):(BitVec.ofInt 64 (b:Int)).toNat=b:=by
 rw [BitVec.toNat_ofInt]
 show ((b:Int) % ((18446744073709551616:Nat):Int)).toNat=_
 omega
theorem wrap_small (n:Nat) (h:n < 256):IntKind.i64.wrap (n:Int)=n:=by
 rw [IntKind.wrap_i64];omega
theorem and_low (s:Int) (b:Nat) (h:b < 256):bits .and .i64 s (b:Int)=((low s &&& b:Nat):Int):=by
 show IntKind.i64.wrap ((BitVec.ofInt 64 s &&& BitVec.ofInt 64 (b:Int)).toNat:Nat)=_
 rw [BitVec.toNat_and,toNat_ofNat b h]
 have h1:(BitVec.ofInt 64 s).toNat &&& b < 256:=Nat.and_lt_two_pow (n:=8) _ h
 have h2:((BitVec.ofInt 64 s).toNat &&& b) % 2 ^ 8=_:=Nat.and_mod_two_pow
 rw [wrap_small _ h1,← toNat_low s]
 rw [Nat.mod_eq_of_lt h1,Nat.mod_eq_of_lt (show b < 2 ^ 8 from h)] at h2
 rw [h2]
theorem bit_lt (p:Int):bit p < 256:=by
 unfold bit
 split
 ·rename_i h
  have:2 ^ p.toNat≤2 ^ 7:=Nat.pow_le_pow_right (by decide) (by omega)
  omega
 ·decide
theorem with_lt (s p:Int):withN s p < 256:=Nat.or_lt_two_pow (n:=8) (low_lt s) (bit_lt p)
theorem test_high (m k:Nat) (h:m < 256) (hk:8≤k):m.testBit k=false :=
 Nat.testBit_lt_two_pow (Nat.lt_of_lt_of_le h (Nat.pow_le_pow_right (n:=2) (by decide) hk:2 ^ 8≤2 ^ k))
theorem test_bit (p:Int) (k:Nat):(bit p).testBit k=decide ((k:Int)=p∧k < 8):=by
 unfold bit
 split
 ·rename_i h
  rw [Nat.testBit_two_pow]
  rw [Bool.eq_iff_iff,decide_eq_true_iff,decide_eq_true_iff]
  omega
 ·rename_i h
  rw [Nat.zero_testBit]
  symm
  rw [decide_eq_false_iff_not]
  omega
theorem has_neg (s p:Int) (h:p < 0):has s p=false:=by unfold has;rw [decide_eq_false (by omega)];rfl
theorem has_big (s p:Int) (h:8≤p):has s p=false:=by
 unfold has;rw [test_high _ _ (low_lt s) (by omega),Bool.and_false]
theorem has_nat (s:Int) (k:Nat):has s k=(low s).testBit k:=by unfold has;simp
theorem has_shr (s:Int) (k:Nat) (h:k < 8):bits .and .i64 (s / 2 ^ k) 1=if has s k then 1 else 0:=by
 have h1:=and_low (s / 2 ^ k) 1 (by decide)
 have h2:low (s / 2 ^ k) &&& 1=low s / 2 ^ k % 2:=by
  rw [Nat.and_one_is_mod]
  have h3:k=0∨k=1∨k=2∨k=3∨k=4∨k=5∨k=6∨k=7:=by omega
  unfold low
  rcases h3 with rfl | rfl | rfl | rfl | rfl | rfl | rfl | rfl
  all_goals (simp only [Nat.reducePow,Int.reducePow];omega)
 rw [h2] at h1
 rw [has_nat,Nat.testBit_eq_decide_div_mod_eq]
 rw [show ((1:Nat):Int)=1 from rfl] at h1
 rw [h1]
 have h4:low s / 2 ^ k % 2 < 2:=Nat.mod_lt _ (by decide)
 split <;> rename_i h5
 ·rw [of_decide_eq_true h5];rfl
 ·have:low s / 2 ^ k % 2=0:=by simp at h5;omega
  rw [this];rfl
def upto (s:Int) (k:Nat):List Int:=((List.range k).filter fun j=>(low s).testBit j).map Int.ofNat
def list (s:Int):List Int:=upto s 8
theorem upto_zero (s:Int):upto s 0=[]:=rfl
theorem upto_hit (s:Int) (k:Nat) (h:has s k=true):upto s (k+1)=upto s k++[(k:Int)]:=by
 rw [has_nat] at h
 unfold upto;rw [List.range_succ,List.filter_append,List.map_append];simp [h]
theorem upto_miss (s:Int) (k:Nat) (h:has s k=false):upto s (k+1)=upto s k:=by
 rw [has_nat] at h
 unfold upto;rw [List.range_succ,List.filter_append,List.map_append];simp [h]
theorem upto_len (s:Int) (k:Nat):(upto s k).length≤k:=by
 unfold upto;rw [List.length_map];have:=List.length_filter_le (fun j=>(low s).testBit j) (List.range k);simpa using this
theorem list_len (s:Int):(list s).length≤8:=upto_len s 8
theorem mem_list (s p:Int):p ∈ list s ↔ has s p=true:=by
 unfold list upto
 rw [List.mem_map]
 constructor
 ·rintro ⟨j,hj,rfl⟩
  rw [List.mem_filter] at hj
  rw [show Int.ofNat j=(j:Int) from rfl,has_nat];exact hj.2
 ·intro h
  have h0:0≤p:=by
   by_cases h1:0≤p
   ·exact h1
   ·rw [has_neg s p (by omega)] at h;cases h
  have h8:p < 8:=by
   by_cases h1:p < 8
   ·exact h1
   ·rw [has_big s p (by omega)] at h;cases h
  obtain ⟨k,rfl⟩:=Int.eq_ofNat_of_zero_le h0
  rw [has_nat] at h
  have h9:k < 8:=by omega
  exact ⟨k,List.mem_filter.2 ⟨List.mem_range.2 h9,h⟩,rfl⟩
theorem list_bd (s p:Int) (h:p ∈ list s):0≤p∧p < 8:=by
 unfold list upto at h
 obtain ⟨j,hj,rfl⟩:=List.mem_map.1 h
 have:=List.mem_range.1 (List.mem_filter.1 hj).1
 rw [show Int.ofNat j=(j:Int) from rfl]
 omega
def of (l:List Int):Nat:=l.foldl (fun m p=>m ||| bit p) 0
theorem of_snoc (l:List Int) (p:Int):of (l++[p])=of l ||| bit p:=by unfold of;rw [List.foldl_append];rfl
theorem fold_lt (l:List Int) (m:Nat) (h:m < 256):l.foldl (fun m p=>m ||| bit p) m < 256:=by
 induction l generalizing m with
 | nil=>exact h
 | cons p l ih=>exact ih _ (Nat.or_lt_two_pow (n:=8) h (bit_lt p))
theorem of_lt (l:List Int):of l < 256:=fold_lt l 0 (by decide)
theorem fold_test (l:List Int) (m k:Nat):(l.foldl (fun m p=>m ||| bit p) m).testBit k=(m.testBit k || decide ((k:Int) ∈ l∧k < 8)):=by
 induction l generalizing m with
 | nil=>simp
 | cons p l ih =>
  rw [List.foldl_cons,ih,Nat.testBit_or,test_bit,Bool.or_assoc]
  congr 1
  rw [Bool.eq_iff_iff,Bool.or_eq_true,decide_eq_true_iff,decide_eq_true_iff,decide_eq_true_iff,List.mem_cons]
  constructor
  ·rintro (⟨a,b⟩ | ⟨a,b⟩)
   ·exact ⟨.inl a,b⟩
   ·exact ⟨.inr a,b⟩
  ·rintro ⟨a | a,b⟩
   ·exact .inl ⟨a,b⟩
   ·exact .inr ⟨a,b⟩
theorem of_test (l:List Int) (k:Nat):(of l).testBit k=decide ((k:Int) ∈ l∧k < 8):=by
 unfold of;rw [fold_test,Nat.zero_testBit,Bool.false_or]
theorem eq_of {m m':Nat} (h:m < 256) (h':m' < 256) (e:∀ k,k < 8→m.testBit k=m'.testBit k):m=m':=by
 apply Nat.eq_of_testBit_eq
 intro k
 by_cases hk:k < 8
 ·exact e k hk
 ·rw [test_high m k h (by omega),test_high m' k h' (by omega)]
def refOf (l:List Int):Nat→Nat
 | 0=>0
 | k+1=>if (k:Int) ∈ l then refOf l k ||| 2 ^ k else refOf l k
theorem refOf_hit (l:List Int) (k:Nat) (h:(k:Int) ∈ l):refOf l (k+1)=refOf l k ||| 2 ^ k:=by rw [refOf,if_pos h]
theorem refOf_miss (l:List Int) (k:Nat) (h:¬ (k:Int) ∈ l):refOf l (k+1)=refOf l k:=by rw [refOf,if_neg h]
theorem refOf_lt (l:List Int) (k:Nat):refOf l k < 2 ^ k:=by
 induction k with
 | zero=>exact Nat.one_pos
 | succ k ih =>
  have h1:refOf l k < 2 ^ (k+1):=Nat.lt_of_lt_of_le ih (Nat.pow_le_pow_right (by decide) (by omega))
  rw [refOf]
  split
  ·exact Nat.or_lt_two_pow h1 (Nat.pow_lt_pow_right (by decide) (by omega))
  ·exact h1
theorem refOf_test (l:List Int) (k j:Nat):(refOf l k).testBit j=decide (j < k∧(j:Int) ∈ l):=by
 induction k with
 | zero=>simp [refOf]
 | succ k ih =>
  by_cases h:(k:Int) ∈ l
  ·rw [refOf_hit l k h,Nat.testBit_or,ih,Nat.testBit_two_pow,Bool.eq_iff_iff,Bool.or_eq_true,decide_eq_true_iff,decide_eq_true_iff,decide_eq_true_iff]
   constructor
   ·rintro (⟨a,b⟩ | rfl)
    ·exact ⟨by omega,b⟩
    ·exact ⟨by omega,h⟩
   ·rintro ⟨a,b⟩
    by_cases e:k=j
    ·exact .inr e
    ·exact .inl ⟨by omega,b⟩
  ·rw [refOf_miss l k h,ih,Bool.eq_iff_iff,decide_eq_true_iff,decide_eq_true_iff]
   constructor
   ·rintro ⟨a,b⟩
    exact ⟨by omega,b⟩
   ·rintro ⟨a,b⟩
    have:j ≠ k:=by rintro rfl;exact h b
    exact ⟨by omega,b⟩
theorem refOf_eq (l:List Int):refOf l 8=of l:=by
 refine eq_of (refOf_lt l 8) (of_lt l) fun k hk=>?_
 rw [refOf_test,of_test,Bool.eq_iff_iff,decide_eq_true_iff,decide_eq_true_iff,and_comm]
theorem list_test (s:Int) (k:Nat) (hk:k < 8):decide ((k:Int) ∈ list s∧k < 8)=(low s).testBit k:=by
 rw [Bool.eq_iff_iff,decide_eq_true_iff,mem_list,has_nat]
 exact ⟨fun h=>h.1,fun h=>⟨h,hk⟩⟩
theorem of_list (s:Int):of (list s)=low s:=by
 refine eq_of (of_lt _) (low_lt s) fun k hk=>?_
 rw [of_test,list_test s k hk]
theorem of_with (s p:Int):of (list s++[p])=withN s p:=by
 rw [of_snoc,of_list];rfl
end SetM
namespace RefS
open Go.ChangeShapes Go.WideShapes Go.ChangeAt Go.RowKit
open Go.Proofs.YtjdeemmaaiecnaaGreat
theorem ret_int {k:IntKind} {a b:Int} (h:a=b):Ending.returned (.int k a)=.returned (.int k b):=by rw [h]
theorem ret_bool {a b:Bool} (h:a=b):Ending.returned (.bool a)=.returned (.bool b):=by rw [h]
theorem eight {p:Int} (h:0≤p) (h':p < 8):p=0∨p=1∨p=2∨p=3∨p=4∨p=5∨p=6∨p=7:=by omega
theorem shr_has (s:Int) (k:Nat) (h:k < 8):(bits .and .i64 (s / 2 ^ k) 1 == 1)=SetM.has s k:=by
 rw [SetM.has_shr s k h]
 cases SetM.has s k <;> rfl
theorem rhas_any (s p:Int) (w:World):Calls Tryz.prog 100 #[.int .i64 s,.int .i64 p] w fun e w'=>e=.returned (.bool (SetM.has s p))∧w=w':=by
 by_cases h1:p < 0
 ·have HB:=Lib.hid (SetM.has_neg s p h1)
  go_enter Tryz.func100,Tryz.ntmps100
  go_wp2
  go_ret
  exact ⟨ret_bool HB.out.symm,rfl⟩
 by_cases h2:8≤p
 ·have HB:=Lib.hid (SetM.has_big s p h2)
  go_enter Tryz.func100,Tryz.ntmps100
  go_wp2
  go_ret
  exact ⟨ret_bool HB.out.symm,rfl⟩
 rcases eight (p:=p) (by omega) (by omega) with rfl | rfl | rfl | rfl | rfl | rfl | rfl | rfl
 ·have HB:=Lib.hid (show (bits .and .i64 s 1 == 1)=SetM.has s 0 from by have:=shr_has s 0 (by decide);simpa using this)
  clear h1 h2
  go_enter Tryz.func100,Tryz.ntmps100
  go_wp2
  go_ret
  exact ⟨ret_bool HB.out,rfl⟩
 ·have HB:=Lib.hid (show (bits .and .i64 (s / 2) 1 == 1)=SetM.has s 1 from shr_has s 1 (by decide))
  clear h1 h2
  go_enter Tryz.func100,Tryz.ntmps100
  go_wp2
  go_ret
  exact ⟨ret_bool HB.out,rfl⟩
 ·have HB:=Lib.hid (show (bits .and .i64 (s / 4) 1 == 1)=SetM.has s 2 from shr_has s 2 (by decide))
  clear h1 h2
  go_enter Tryz.func100,Tryz.ntmps100
  go_wp2
  go_ret
  exact ⟨ret_bool HB.out,rfl⟩
 ·have HB:=Lib.hid (show (bits .and .i64 (s / 8) 1 == 1)=SetM.has s 3 from shr_has s 3 (by decide))
  clear h1 h2
  go_enter Tryz.func100,Tryz.ntmps100
  go_wp2
  go_ret
  exact ⟨ret_bool HB.out,rfl⟩
 ·have HB:=Lib.hid (show (bits .and .i64 (s / 16) 1 == 1)=SetM.has s 4 from shr_has s 4 (by decide))
  clear h1 h2
  go_enter Tryz.func100,Tryz.ntmps100
  go_wp2
  go_ret
  exact ⟨ret_bool HB.out,rfl⟩
 ·have HB:=Lib.hid (show (bits .and .i64 (s / 32) 1 == 1)=SetM.has s 5 from shr_has s 5 (by decide))
  clear h1 h2
  go_enter Tryz.func100,Tryz.ntmps100
  go_wp2
  go_ret
  exact ⟨ret_bool HB.out,rfl⟩
 ·have HB:=Lib.hid (show (bits .and .i64 (s / 64) 1 == 1)=SetM.has s 6 from shr_has s 6 (by decide))
  clear h1 h2
  go_enter Tryz.func100,Tryz.ntmps100
  go_wp2
  go_ret
  exact ⟨ret_bool HB.out,rfl⟩
 ·have HB:=Lib.hid (show (bits .and .i64 (s / 128) 1 == 1)=SetM.has s 7 from shr_has s 7 (by decide))
  clear h1 h2
  go_enter Tryz.func100,Tryz.ntmps100
  go_wp2
  go_ret
  exact ⟨ret_bool HB.out,rfl⟩
theorem info3:(Tryz.prog.info? 3).map (fun i=>(i.zero,i.size,i.bytes))=some (some (.int .i64 0),1,8):=by kernel_rfl
def Owns (B:Nat) (W:World) (v:Value) (l:List Int):Prop:=W.ownsRow B 3 1 v l.length (l.map (Value.int .i64))∧(v=.slice none 0 0 ↔ l=[])
def Gave (w:World) (l:List Int) (e:Ending) (W':World):Prop:=∃ v,e=.returned v∧Owns w.heap.size W' v l∧Below w.heap.size w W'
theorem row_blk {W:World} {n₀ e size k:Nat} {v:Value} {xs:List Value} (h:W.ownsRow n₀ e size v k xs) (j:Nat) (hj:v.ownBlock=some j):n₀≤j:=by
 rcases h.2 with ⟨rfl,_⟩ | ⟨g,cap,cur,rfl,hb,_,_⟩
 ·simp [Value.ownBlock] at hj
 ·obtain rfl:g=j:=by simpa [Value.ownBlock] using hj
  exact hb
theorem map_snoc (pre:List Int) (x:Int):pre.map (Value.int .i64)++[.int .i64 x]=(pre++[x]).map (Value.int .i64):=by simp
theorem add_zero (x:Addr):x.add 0=x:=by cases x;simp [Addr.add]
def Row (w:World) (a:Option Addr) (l:List Int):Prop:=l.length≤maxLen∧(l=[]∨∃ x,a=some x∧∀ i,i < l.length→w.cell? (x.add i)=some (.int .i64 (l.getD i 0)))
theorem Row.cells {w:World} {a:Option Addr} {l:List Int} (h:Row w a l) {k:Nat} (hk:k < l.length):∃ x,a=some x∧∀ i,i < l.length→w.cell? (x.add i)=some (.int .i64 (l.getD i 0)):=by
 rcases h.2 with rfl | h
 ·simp at hk
 ·exact h
theorem Row.below {w w':World} {a:Option Addr} {l:List Int} (h:Row w a l) (hb:Below w.heap.size w w'):Row w' a l:=by
 refine ⟨h.1,?_⟩
 rcases h.2 with h | ⟨x,hx,hc⟩
 ·exact .inl h
 ·exact .inr ⟨x,hx,fun i hi=>(hb.cell (World.block_lt_of_cell? w _ (hc i hi))).trans (hc i hi)⟩
theorem row_of {B:Nat} {w:World} {v:Value} {l:List Int} (h:Owns B w v l):∃ a cap,v=.slice a l.length cap∧Row w a l:=by
 rcases h.1.2 with ⟨rfl,h0⟩ | ⟨g,cap,cur,rfl,h1,h2,h3,h4,h5,h6⟩
 ·have:l=[]:=h.2.1 rfl
  subst this
  exact ⟨none,0,rfl,Nat.zero_le _,.inl rfl⟩
 ·refine ⟨_,cap,rfl,by omega,.inr ⟨_,rfl,fun i hi=>?_⟩⟩
  exact h.1.cells (g:=g) rfl i (.int .i64 (l.getD i 0)) (by rw [List.getElem?_map,List.getD_eq_getElem?_getD,List.getElem?_eq_getElem hi];rfl)
theorem take_succ (l:List Int) (k:Nat) (h:k < l.length):l.take (k+1)=l.take k++[l.getD k 0]:=by
 rw [List.take_succ_eq_append_getElem h,List.getD_eq_getElem?_getD,List.getElem?_eq_getElem h];rfl
theorem or_small (m b:Nat) (hm:m < 256) (hb:b < 256):bits .or .i64 (m:Int) (b:Int)=((m ||| b:Nat):Int) :=
 (bits_nat .i64 8 (by decide) (fun n h0 h1=>by rw [IntKind.wrap_i64];omega) m b hm hb).2
theorem ref_lt (l:List Int) (k:Nat) (h:k≤8):SetM.refOf l k < 256:=Nat.lt_of_lt_of_le (SetM.refOf_lt l k) (Nat.pow_le_pow_right (n:=2) (by decide) h:2 ^ k≤2 ^ 8)
theorem ref_or (l:List Int) (k:Nat) (h:k < 8) (hm:(k:Int) ∈ l):bits .or .i64 (SetM.refOf l k:Nat) ((2 ^ k:Nat):Int)=(SetM.refOf l (k+1):Nat):=by
 rw [or_small _ _ (ref_lt l k (by omega)) (show 2 ^ k < 2 ^ 8 from Nat.pow_lt_pow_right (by decide) h),SetM.refOf_hit l k hm]
theorem wrap_pow (k:Nat) (h:k < 8):wrap64 ((2:Int) ^ k)=((2 ^ k:Nat):Int):=by
 have h3:k=0∨k=1∨k=2∨k=3∨k=4∨k=5∨k=6∨k=7:=by omega
 rcases h3 with rfl | rfl | rfl | rfl | rfl | rfl | rfl | rfl <;> decide +kernel
theorem ref_or2 (l:List Int) (k:Nat) (h:k < 8) (hm:(k:Int) ∈ l):bits .or .i64 (SetM.refOf l k:Nat) (wrap64 ((2:Int) ^ k))=(SetM.refOf l (k+1):Nat):=by
 rw [wrap_pow k h,ref_or l k h hm]
theorem first_at {l:List Int} {p:Int} (h:p ∈ l):∃ j,j < l.length∧l.getD j 0=p∧∀ i,i < j→l.getD i 0 ≠ p:=by
 induction l with
 | nil=>simp at h
 | cons y l ih =>
  by_cases e:y=p
  ·exact ⟨0,by simp,by simpa using e,fun i hi=>by omega⟩
  ·obtain ⟨j,h1,h2,h3⟩:=ih (by simpa [Ne.symm e] using h)
   refine ⟨j+1,by simp;omega,by simpa using h2,fun i hi=>?_⟩
   cases i with
   | zero=>simpa using e
   | succ i=>simpa using h3 i (by omega)
theorem rof_any (a:Option Addr) (cap:Nat) (l:List Int) (w:World) (h:Row w a l) :
  Calls Tryz.prog 71 #[.slice a l.length cap] w fun e w'=>e=.returned (.int .i64 (SetM.of l:Nat))∧w=w':=by
 have h1:=h.1
 unfold maxLen at h1
 have Hr:=Lib.hid h
 clear h
 go_enter Tryz.func71,Tryz.ntmps71
 go_wp2
 go_loop [3,4] (fun t p=>∃ k:Nat,k≤8∧p=.int .i64 k∧t=.int .i64 (SetM.refOf l k:Nat)) (fun _ p=>8 - (intOf p).toNat)
 case atStart=>exact ⟨0,Nat.zero_le _,rfl,rfl⟩
 case round =>
  obtain ⟨k,hk,rfl,rfl⟩:=hrel
  by_cases hlt:k < 8
  ·by_cases hm:(k:Int) ∈ l
   ·have HS:=Lib.hid (ref_or2 l k hlt hm)
    obtain ⟨j,hj,hjk,hjn⟩:=first_at hm
    have Hj:=Lib.hid hjk
    have Hn:=Lib.hid hjn
    clear hjk hjn hm
    go_wp2
    go_loop [3,5] (fun t i=>∃ m:Nat,m≤j∧i=.int .i64 m∧t=.int .i64 (SetM.refOf l k:Nat)) (fun _ i=>j - (intOf i).toNat)
    case atStart=>exact ⟨0,Nat.zero_le _,rfl,rfl⟩
    case round =>
     obtain ⟨m,hm,rfl,rfl⟩:=hrel
     have hml:m < l.length:=by omega
     obtain ⟨x,rfl,hc⟩:=Hr.out.cells hml
     have hcell:=hc m hml
     clear hc
     by_cases hmj:m < j
     ·have hne:=Hn.out m hmj
      generalize l.getD m 0=y at hne hcell
      go_wp2
      go_round
      case rel=>exact ⟨m+1,by omega,by go_num,rfl⟩
      case measure=>simp [intOf];omega
     ·obtain rfl:m=j:=by omega
      rw [Hj.out] at hcell
      go_wp2
      go_round
      case rel=>exact ⟨k+1,by omega,by go_num,by rw [HS.out]⟩
      case measure=>simp [intOf];omega
   ·have HS:=Lib.hid (SetM.refOf_miss l k hm)
    have Hm:Hid (∀ i,i < l.length→l.getD i 0 ≠ (k:Int)):=Lib.hid (fun i hi e=>hm (by rw [← e,List.getD_eq_getElem?_getD,List.getElem?_eq_getElem hi];exact List.getElem_mem hi))
    clear hm
    go_wp2
    go_loop [3,5] (fun t i=>∃ m:Nat,m≤l.length∧i=.int .i64 m∧t=.int .i64 (SetM.refOf l k:Nat)) (fun _ i=>l.length - (intOf i).toNat)
    case atStart=>exact ⟨0,Nat.zero_le _,rfl,rfl⟩
    case round =>
     obtain ⟨m,hm,rfl,rfl⟩:=hrel
     by_cases hml:m < l.length
     ·obtain ⟨x,rfl,hc⟩:=Hr.out.cells hml
      have hcell:=hc m hml
      clear hc
      have hne:=Hm.out m hml
      generalize l.getD m 0=y at hne hcell
      go_wp2
      go_round
      case rel=>exact ⟨m+1,by omega,by go_num,rfl⟩
      case measure=>simp [intOf];omega
     ·go_wp2
      go_round
      case rel=>exact ⟨k+1,by omega,by go_num,by rw [HS.out]⟩
      case measure=>simp [intOf];omega
  ·have HS:=Lib.hid (SetM.refOf_eq l)
   obtain rfl:k=8:=by omega
   go_wp2
   go_ret
   exact ⟨ret_int (by rw [HS.out]),rfl⟩
theorem list_snoc {B:Nat} {l:List Int} {x:Int} {v':Value} {w1:World} (h:w1.ownsRow B 3 1 v' (l.length+1) (l.map (Value.int .i64)++[.int .i64 x])) (hn:¬ v'=.slice none 0 0):Owns B w1 v' (l++[x]):=by
 refine ⟨?_,?_⟩
 ·rw [List.length_append,← map_snoc];exact h
 ·simp [hn]
theorem rlist_any (s:Int) (w:World):Calls Tryz.prog 72 #[.int .i64 s] w (Gave w (SetM.list s)):=by
 obtain ⟨i0,hi,hz0,hz1,hz2⟩:=info_parts info3
 go_enter Tryz.func72,Tryz.ntmps72
 go_wp2
 go_loopw [3,4] (fun v p wr=>∃ k:Nat,k≤8∧p=.int .i64 k∧Owns w.heap.size wr v (SetM.upto s k)∧Below w.heap.size w wr) (fun _ p _=>8 - (intOf p).toNat)
 case atStart=>exact ⟨0,Nat.zero_le _,rfl,⟨World.ownsRow_nil _ _ _ _,by simp [SetM.upto_zero]⟩,Below.refl _ _⟩
 case round =>
  obtain ⟨k,hk,rfl,⟨hown,hnil⟩,hbel⟩:=hrel
  have hB:=hbel.size
  have Hn:=Lib.hid hnil
  clear hnil
  by_cases hlt:k < 8
  ·have hul:=SetM.upto_len s k
   by_cases hh:SetM.has s k=true
   ·have Hs:=Lib.hid (SetM.upto_hit s k hh)
    go_wp2_with (first
     | (go_at_call 100;refine (rhas_any _ _ _).mono ?_;rintro e w' ⟨rfl,rfl⟩;rw [hh])
     | (at_builtin;refine wpList_append_own _ rfl _ _ 42 rfl w.heap.size 3 i0 (.int .i64 0) 1 8 Tryz.underlying42 hi hz0 hz1 hz2 rfl (by decide) _ _ _ rfl (hown.alloc _) ⟨wr.heap.size,0,none⟩ 1 1 [.int .i64 (k:Int)] rfl rfl ?c1 ?c2 ?c3 ?c4 ?c5 ?_))
    case c1 =>
     intro j u hj
     match j,hj with
     | 0,hj=>simp at hj;subst hj;simp [Addr.add]
    case c2=>intro u hu;simp at hu;subst hu;rfl
    case c3=>unfold maxLen;omega
    case c4=>omega
    case c5=>simp;omega
    intro v' w1 hown' hgrow hnil'
    have hbel':Below w.heap.size w w1:=(hbel.alloc (by omega) _).grown hgrow (by simp;omega) fun j hj=>row_blk hown j hj
    have Hown:=Lib.hid (list_snoc hown' hnil')
    clear hown' hgrow hown hnil'
    go_wp2
    go_roundw
    case rel=>exact ⟨k+1,by omega,by go_num,by rw [Hs.out];exact Hown.out,hbel'⟩
    case measure=>simp [intOf];omega
   ·have hh':SetM.has s k=false:=by simpa using hh
    have Hs:=Lib.hid (SetM.upto_miss s k hh')
    clear hh
    go_wp2_with (go_at_call 100;refine (rhas_any _ _ _).mono ?_;rintro e w' ⟨rfl,rfl⟩;rw [hh'])
    go_roundw
    case rel=>exact ⟨k+1,by omega,by go_num,by rw [Hs.out];exact ⟨hown,Hn.out⟩,hbel⟩
    case measure=>simp [intOf];omega
  ·obtain rfl:k=8:=by omega
   go_wp2
   go_ret
   exact ⟨_,rfl,⟨hown,Hn.out⟩,hbel⟩
theorem rwith_any (s p:Int) (w:World):Calls Tryz.prog 37 #[.int .i64 s,.int .i64 p] w fun e w'=>e=.returned (.int .i64 (SetM.withN s p:Nat))∧Below w.heap.size w w':=by
 obtain ⟨i0,hi,hz0,hz1,hz2⟩:=info_parts info3
 have hl8:=SetM.list_len s
 have HS:=Lib.hid (SetM.of_with s p)
 go_enter Tryz.func37,Tryz.ntmps37
 go_wp2_with fail
 refine (rlist_any _ _).mono ?_
 rintro e w1 ⟨v,rfl,⟨hown,hnil⟩,hbel⟩
 have hB:=hbel.size
 clear hnil
 go_wp2_with (at_builtin;refine wpList_append_own _ rfl _ _ 42 rfl w.heap.size 3 i0 (.int .i64 0) 1 8 Tryz.underlying42 hi hz0 hz1 hz2 rfl (by decide) _ _ _ rfl (hown.alloc _) ⟨w1.heap.size,0,none⟩ 1 1 [.int .i64 p] rfl rfl ?c1 ?c2 ?c3 ?c4 ?c5 ?_)
 case c1 =>
  intro j u hj
  match j,hj with
  | 0,hj=>simp at hj;subst hj;simp [Addr.add]
 case c2=>intro u hu;simp at hu;subst hu;rfl
 case c3=>unfold maxLen;omega
 case c4=>omega
 case c5=>simp;omega
 intro v' w2 hown' hgrow hnil'
 have hbel':Below w.heap.size w w2:=(hbel.alloc (by omega) _).grown hgrow (by simp;omega) fun j hj=>row_blk hown j hj
 obtain ⟨L,hL⟩:∃ L,SetM.list s++[p]=L:=⟨_,rfl⟩
 have hrow':=list_snoc hown' hnil'
 rw [hL] at HS hrow'
 obtain ⟨a,cap,rfl,hrow⟩:=row_of hrow'
 have Hrow:=Lib.hid hrow
 clear hown' hgrow hown hnil' hrow hrow' hL
 go_wp2_with (go_at_call 71;refine (rof_any _ _ L _ Hrow.out).mono ?_;rintro e w' ⟨rfl,rfl⟩)
 go_ret
 exact ⟨ret_int (by rw [HS.out]),hbel'⟩
theorem place_any (v n:Int) (w:World) (h:0 < n) (h':n≤9223372036854775807) :
  Calls Tryz.prog 12 #[.int .i64 v,.int .i64 n] w fun e w'=>e=.returned (.int .i64 (v % n))∧w=w':=by
 have hm:=Int.emod_nonneg v (show n ≠ 0 by omega)
 have hm2:=Int.emod_lt_of_pos v h
 have ht:0≤v.tmod n∧v % n=v.tmod n∨v.tmod n < 0∧v % n=v.tmod n+n:=by
  have h1:=Int.tmod_eq_emod (a:=v) (b:=n)
  split at h1 <;> omega
 have hb : -9223372036854775808≤v.tmod n∧v.tmod n≤9223372036854775807:=by omega
 obtain ⟨hb1,hb2⟩:=hb
 have hn0:n ≠ 0:=by omega
 rcases ht with ⟨ht,he⟩ | ⟨ht,he⟩
 ·have He:=Lib.hid he
  clear he hm hm2
  go_enter Tryz.func12,Tryz.ntmps12
  go_wp2
  go_ret
  exact ⟨ret_int (by rw [He.out]),rfl⟩
 ·have He:=Lib.hid he
  clear he hm hm2
  go_enter Tryz.func12,Tryz.ntmps12
  go_wp2
  go_ret
  exact ⟨ret_int (by rw [He.out]),rfl⟩
open Tab in
def num (L:List Int) (i:Int) (n:Int):Int:=L.getD i.toNat 0 % n
open Tab in
theorem at_any (a:Option Addr) (cap:Nat) (L:List Int) (i:Int) (w:World) (h:IntRow w ⟨a,cap⟩ L) (h0:0≤i) :
  Calls Tryz.prog 70 #[.slice a L.length cap,.int .i64 i] w fun e w'=>e=.returned (.int .i64 (L.getD i.toNat 0))∧w=w':=by
 have hl:=h.len
 unfold maxLen at hl
 obtain ⟨k,rfl⟩:=Int.eq_ofNat_of_zero_le h0
 by_cases hk:k < L.length
 ·have hv:=List.getElem?_eq_getElem hk
  generalize hu:L[k]=u at hv
  obtain ⟨x,hx,hc⟩:=IntRow.at h hv
  obtain rfl:a=some x:=hx
  have HE:Hid (u=L.getD ((k:Int)).toNat 0):=Lib.hid (by rw [Int.toNat_natCast,List.getD_eq_getElem?_getD,hv];rfl)
  generalize L.getD ((k:Int)).toNat 0=r at HE ⊢
  clear hv hu h
  go_enter Tryz.func70,Tryz.ntmps70
  go_wp2
  go_ret
  exact ⟨ret_int HE.out,rfl⟩
 ·have HE:Hid (0=L.getD ((k:Int)).toNat 0):=Lib.hid (by rw [Int.toNat_natCast,List.getD_eq_getElem?_getD,List.getElem?_eq_none (by omega)];rfl)
  generalize L.getD ((k:Int)).toNat 0=r at HE ⊢
  clear h
  go_enter Tryz.func70,Tryz.ntmps70
  go_wp2
  go_ret
  exact ⟨ret_int HE.out,rfl⟩
open Tab in
theorem from_any (a:Option Addr) (cap:Nat) (L:List Int) (i n:Int) (w:World) (h:IntRow w ⟨a,cap⟩ L) (h0:0≤i) (hn:0 < n) (hn':n≤1000) :
  Calls Tryz.prog 36 #[.slice a L.length cap,.int .i64 i,.int .i64 n] w fun e w'=>e=.returned (.int .i64 (num L i n))∧w=w':=by
 have H:=Lib.hid h
 clear h
 go_enter Tryz.func36,Tryz.ntmps36
 go_wp2_with fail
 refine (at_any a cap L i w H.out h0).mono ?_
 rintro e w' ⟨rfl,rfl⟩
 have HE:Hid (L.getD i.toNat 0 % n=num L i n):=Lib.hid rfl
 generalize L.getD i.toNat 0=v at HE ⊢
 go_wp2_with fail
 refine (place_any v n _ hn (by omega)).mono ?_
 rintro e w' ⟨rfl,rfl⟩
 go_wp2
 go_ret
 exact ⟨ret_int HE.out,rfl⟩
theorem num_range (L:List Int) (i n:Int) (hn:0 < n):0≤num L i n∧num L i n < n:=⟨Int.emod_nonneg _ (by omega),Int.emod_lt_of_pos _ hn⟩
end RefS
namespace Gath
open Go Go.RowKit
open Tab
section
variable {α:Type} {enc:α→List Value} {size:Nat} {B:Nat} {w w':World} {e:TypeId} {v:Value} {l:List α}
def Owns (enc:α→List Value) (size B:Nat) (w:World) (e:TypeId) (v:Value) (l:List α):Prop:=w.ownsRow B e size v l.length (l.flatMap enc)
theorem Owns.nil:Owns enc size B w e (.slice none 0 0) ([]:List α):=World.ownsRow_nil _ _ _ _
theorem Owns.snoc {x:α} {v':Value} (h:w.ownsRow B e size v' (l.length+1) (l.flatMap enc++enc x)):Owns enc size B w e v' (l++[x]):=by
 unfold Owns
 rw [List.length_append,List.flatMap_append,List.flatMap_cons,List.flatMap_nil,List.append_nil]
 exact h
theorem Owns.below (h:Owns enc size B w e v l) (hb:Below w.heap.size w w'):Owns enc size B w' e v l :=
 World.ownsRow.kept (row:=none) h ⟨hb.os,hb.tape,hb.output,hb.size,fun j hj _=>hb.block j hj⟩ (by cases hv:v.ownBlock <;> simp)
theorem Owns.mono {B':Nat} (h:Owns enc size B w e v l) (hb:B'≤B):Owns enc size B' w e v l:=by
 refine ⟨h.1,?_⟩
 rcases h.2 with hn | ⟨g,cap,cur,rfl,h1,h2⟩
 ·exact .inl hn
 ·exact .inr ⟨g,cap,cur,rfl,by omega,h2⟩
theorem Owns.blk (h:Owns enc size B w e v l) (j:Nat) (hj:v.ownBlock=some j):B≤j:=by
 rcases h.2 with ⟨rfl,_⟩ | ⟨g,cap,cur,rfl,hb,_,_⟩
 ·simp [Value.ownBlock] at hj
 ·obtain rfl:g=j:=by simpa [Value.ownBlock] using hj
  exact hb
theorem flat_at (henc:∀ x,(enc x).length=size):∀ (l:List α) (i:Nat) (x:α),l[i]?=some x→((l.flatMap enc).drop (i*size)).take size=enc x
 | [],i,x,h=>by simp at h
 | y :: l,0,x,h=>by
  obtain rfl:y=x:=by simpa using h
  rw [Nat.zero_mul,List.drop_zero,List.flatMap_cons,← henc y,List.take_left]
 | y :: l,i+1,x,h=>by
  rw [List.flatMap_cons,Nat.add_mul,Nat.one_mul,Nat.add_comm,← henc y,List.drop_append,List.drop_of_length_le (by omega),List.nil_append,Nat.add_sub_cancel_left,henc y]
  exact flat_at henc l i x (by simpa using h)
theorem Owns.row (h:Owns enc size B w e v l) (henc:∀ x,(enc x).length=size):∃ s:Sl,v=s.val l.length∧RowOf size enc w s l:=by
 rcases h.2 with ⟨rfl,h0⟩ | ⟨g,cap,cur,rfl,h1,h2,h3,h4,h5,h6⟩
 ·have:l=[]:=List.eq_nil_of_length_eq_zero h0
  subst this
  exact ⟨⟨none,0⟩,rfl,RowOf.nil w⟩
 ·refine ⟨⟨some ⟨g,0,none⟩,cap⟩,rfl,.inr ⟨_,rfl,h3,h4,fun i x hx j u hu=>?_⟩⟩
  have hi:i < l.length:=(List.getElem?_eq_some_iff.1 hx).1
  have hj:j < size:=by rw [← henc x];exact (List.getElem?_eq_some_iff.1 hu).1
  rw [Addr.add_mid,Nat.zero_add,Addr.add_mid,cell_of_row _ _ _ _ _ _ h2]
  have hf:=flat_at henc l i x hx
  rw [← h6] at hf
  rw [← hf] at hu
  have hlt:i*size+j < l.length*size:=by
   have:(i+1)*size≤l.length*size:=Nat.mul_le_mul_right _ hi
   rw [Nat.add_mul,Nat.one_mul] at this
   omega
  rw [List.getElem?_take,if_pos hj,List.getElem?_drop,List.getElem?_take,if_pos hlt,Array.getElem?_toList] at hu
  exact hu
end
end Gath
namespace GenG
open Go.ChangeShapes Go.WideShapes Go.ChangeAt Go.RowKit
open Tab Gath
open RefS (num from_any num_range ret_int)
def seg (p m:Nat):List Int:=(List.range m).map fun i=>((p+i:Nat):Int)
theorem seg_len (p m:Nat):(seg p m).length=m:=by simp [seg]
theorem seg_succ (p m:Nat):seg p (m+1)=seg p m++[((p+m:Nat):Int)]:=by unfold seg;rw [List.range_succ,List.map_append];rfl
def lim (G g:Nat):Nat:=9+g - G
def want0 (L:List Int) (g:Nat):Nat:=(num L (1+2*g) 3).toNat
def want1 (L:List Int) (g:Nat) (m:Nat):Nat:=if num L (2+2*g) 3=0∧m=0 then 1 else (num L (2+2*g) 3).toNat
def n0 (L:List Int) (G g p:Nat):Nat:=min (want0 L g) (lim G g - p)
def n1 (L:List Int) (G g p:Nat):Nat:=min (want1 L g (n0 L G g p)) (lim G g - (p+n0 L G g p))
def grpD (L:List Int) (G g p:Nat):List Int × List Int:=(seg p (n0 L G g p),seg (p+n0 L G g p) (n1 L G g p))
def upTo (L:List Int) (G:Nat):Nat→List (List Int × List Int) × Nat
 | 0=>([],0)
 | g+1=>((upTo L G g).1++[grpD L G g (upTo L G g).2],(upTo L G g).2+n0 L G g (upTo L G g).2+n1 L G g (upTo L G g).2)
def genG (L:List Int):Nat:=(1+num L 0 3).toNat
def genGs (L:List Int):List (List Int × List Int):=(upTo L (genG L) (genG L)).1
def genN (L:List Int):Nat:=(upTo L (genG L) (genG L)).2
theorem genG_range (L:List Int):1≤genG L∧genG L≤3:=by have:=num_range L 0 3 (by omega);unfold genG;omega
theorem want0_le (L:List Int) (g:Nat):want0 L g≤2:=by have:=num_range L (1+2*g) 3 (by omega);unfold want0;omega
theorem want1_le (L:List Int) (g m:Nat):want1 L g m≤2:=by have:=num_range L (2+2*g) 3 (by omega);unfold want1;split <;> omega
theorem up_le (L:List Int) (G:Nat) (hG:G≤3):∀ g,g≤G→(upTo L G g).2≤8
 | 0,_=>Nat.zero_le _
 | g+1,h=>by
  have:=up_le L G hG g (by omega)
  show (upTo L G g).2+n0 L G g (upTo L G g).2+n1 L G g (upTo L G g).2≤8
  unfold n1 n0 lim
  omega
theorem up_len (L:List Int) (G:Nat):∀ g,(upTo L G g).1.length=g
 | 0=>rfl
 | g+1=>by show ((upTo L G g).1++[_]).length=g+1;rw [List.length_append,up_len L G g];rfl
def RowI (w:World) (s:Sl) (l:List Int):Prop:=IntRow w s l∧∀ x,s.a=some x→∃ cs:Array Value,w.heap[x.block]?=some (.cells cs 3 (0,0))
theorem RowI.below {w w':World} {s:Sl} {l:List Int} (h:RowI w s l) (hb:Below w.heap.size w w'):RowI w' s l:=⟨h.1.below hb,fun x hx=>by
 obtain ⟨cs,hc⟩:=h.2 x hx
 exact ⟨cs,(hb.block _ (Array.getElem?_eq_some_iff.1 hc).1).trans hc⟩⟩
theorem add_block (x:Addr) (k:Nat):(x.add k).block=x.block:=by unfold Addr.add;split <;> rfl
theorem RowI.grown {w w':World} {s:Sl} {l:List Int} {row:Option Nat} (h:RowI w s l) (hg:w.grownBy w' row) (hne:∀ x,s.a=some x→some x.block ≠ row):RowI w' s l:=by
 refine ⟨?_,fun x hx=>?_⟩
 ·rcases h.1 with h | ⟨x,h1,h2,h3,h4⟩
  ·exact .inl h
  ·exact .inr ⟨x,h1,h2,h3,fun i v hv j u hu=>hg.cell (h4 i v hv j u hu) (by rw [add_block,add_block];exact hne x h1)⟩
 ·obtain ⟨cs,hc⟩:=h.2 x hx
  exact ⟨cs,(hg.block _ (Array.getElem?_eq_some_iff.1 hc).1 (hne x hx)).trans hc⟩
theorem RowI.ne {w:World} {s:Sl} {l:List Int} {b:Nat} {cs:Array Value} {t:TypeId} (h:RowI w s l) (hb:w.heap[b]?=some (.cells cs t (0,0))) (ht:t ≠ 3):∀ x,s.a=some x→x.block ≠ b:=by
 intro x hx e
 obtain ⟨ds,hc⟩:=h.2 x hx
 rw [e,hb] at hc
 simp at hc
 exact ht hc.2
theorem grown_set (W:World) (b i:Nat) (v:Value):W.grownBy (W.setCell ⟨b,i,none⟩ v) (some b) :=
 ⟨rfl,rfl,rfl,by simp,fun j _ hj=>heap_setCell_other _ _ _ _ (fun e=>hj (by rw [e]))⟩
theorem own_row {B:Nat} {w:World} {v:Value} {l:List Int} (h:Owns (fun n=>[I n]) 1 B w 3 v l):∃ s:Sl,v=s.val l.length∧RowI w s l:=by
 obtain ⟨s,hs,hr⟩:=Owns.row h (enc:=fun n=>[I n]) (fun _=>rfl)
 refine ⟨s,hs,hr,fun x hx=>?_⟩
 rcases h.2 with ⟨e,_⟩ | ⟨g,cap,cur,e,h1,h2,_⟩
 ·rw [hs] at e
  simp [Sl.val,hx] at e
 ·rw [hs] at e
  simp [Sl.val,hx] at e
  obtain ⟨rfl,_⟩:=e
  exact ⟨cur,h2⟩
theorem own_kept {α:Type} {enc:α→List Value} {n B:Nat} {w w':World} {t:TypeId} {v:Value} {l:List α} {row:Option Nat} (h:Owns enc n B w t v l) (hg:w.grownBy w' row) (hne:∀ m,v.ownBlock=some m→row ≠ some m):Owns enc n B w' t v l :=
 World.ownsRow.kept h hg (by
  cases e:v.ownBlock with
  | none=>exact .inl rfl
  | some m=>exact .inr (fun e'=>hne m e e'.symm))
theorem own_lt {α:Type} {enc:α→List Value} {n B:Nat} {w:World} {t:TypeId} {v:Value} {l:List α} (h:Owns enc n B w t v l):∀ m,v.ownBlock=some m→m < w.heap.size:=by
 intro m hm
 rcases h.2 with ⟨rfl,_⟩ | ⟨g,cap,cur,rfl,h1,h2,_⟩
 ·simp [Value.ownBlock] at hm
 ·simp [Value.ownBlock] at hm
  subst hm
  exact (Array.getElem?_eq_some_iff.1 h2).1
theorem own_type {α:Type} {enc:α→List Value} {n B:Nat} {w:World} {t:TypeId} {v:Value} {l:List α} (h:Owns enc n B w t v l):∀ m,v.ownBlock=some m→∃ cs:Array Value,w.heap[m]?=some (.cells cs t (0,0)):=by
 intro m hm
 rcases h.2 with ⟨rfl,_⟩ | ⟨g,cap,cur,rfl,h1,h2,_⟩
 ·simp [Value.ownBlock] at hm
 ·simp [Value.ownBlock] at hm
  subst hm
  exact ⟨cur,h2⟩
theorem own_ne {α:Type} {enc:α→List Value} {n B:Nat} {w:World} {t t':TypeId} {v:Value} {l:List α} {b:Nat} {cs:Array Value} (h:Owns enc n B w t v l) (hb:w.heap[b]?=some (.cells cs t' (0,0))) (ht:t' ≠ t):v.ownBlock ≠ some b:=by
 intro e
 obtain ⟨ds,hd⟩:=own_type h b e
 rw [hb] at hd
 simp at hd
 exact ht hd.2
theorem grown_below {w w':World} (hb:Below w.heap.size w w') (row:Option Nat):w.grownBy w' row:=⟨hb.os,hb.tape,hb.output,hb.size,fun j hj _=>hb.block j hj⟩
theorem grown_trans {w w1 w2:World} {b:Nat} {row:Option Nat} (h:w.grownBy w1 (some b)) (h2:w1.grownBy w2 row) (hr:∀ m,row=some m→m=b∨w.heap.size≤m):w.grownBy w2 (some b):=by
 refine ⟨h2.os.trans h.os,h2.tape.trans h.tape,h2.output.trans h.output,Nat.le_trans h.size h2.size,fun j hj hne=>?_⟩
 rw [h2.block j (Nat.lt_of_lt_of_le hj h.size) (fun e=>by rcases hr j e.symm with e' | e';exact hne (by rw [e']);omega),h.block j hj hne]
structure G0 (Bg:Nat) (w1:World) (a:Option Addr) (c:Nat) (p i:Nat) (W:World):Prop where
 bel:Below Bg w1 W
 box:W.heap[Bg]?=some (.cells #[.slice a i c,.slice none 0 0] 68 (0,0))
 own:Owns (fun n=>[I n]) 1 (Bg+1) W 3 (.slice a i c) (seg p i)
theorem G0.step {Bg:Nat} {w1 W W':World} {a:Option Addr} {c p i:Nat} (h:G0 Bg w1 a c p i W) (hb:Below W.heap.size W W') (hB:Bg≤W.heap.size):G0 Bg w1 a c p i W' :=
 ⟨h.bel.trans (hb.mono hB),(hb.block _ (Array.getElem?_eq_some_iff.1 h.box).1).trans h.box,h.own.below hb⟩
theorem G0.put {Bg:Nat} {w1 W W':World} {a:Option Addr} {c p i:Nat} {v':Value} (h:G0 Bg w1 a c p i W) (hB:Bg+1≤W.heap.size) (hg:W.grownBy W' (Value.slice a i c).ownBlock)
  (ho:W'.ownsRow (Bg+1) 3 1 v' (i+1) ((seg p i).flatMap (fun n=>[I n])++[I ((p+i:Nat):Int)])) :
  (W'.heap[Bg]?=some (.cells #[.slice a i c,.slice none 0 0] 68 (0,0)))∧∃ a' c',v'=.slice a' (i+1) c'∧G0 Bg w1 a' c' p (i+1) (W'.setCell ⟨Bg,0,none⟩ v'):=by
 have hne:some Bg ≠ (Value.slice a i c).ownBlock:=fun e=>by have:=h.own.blk _ e.symm;omega
 have hbx:=(hg.block Bg (by omega) hne).trans h.box
 have hO:Owns (fun n=>[I n]) 1 (Bg+1) W' 3 v' (seg p (i+1)):=by
  rw [seg_succ];refine Owns.snoc ?_;rw [seg_len];exact ho
 obtain ⟨⟨a',c'⟩,hs,hr⟩:=own_row hO
 rw [seg_len] at hs
 refine ⟨hbx,a',c',hs,?_⟩
 have hB':Bg≤W'.heap.size:=Nat.le_trans (by omega) hg.size
 refine ⟨?_,?_,?_⟩
 ·exact (h.bel.grown hg (by omega) (fun k hk=>by have:=h.own.blk k hk;omega)).setCell (p:=⟨Bg,0,none⟩) (Nat.le_refl _) v'
 ·rw [heap_setCell_same _ _ _ _ _ _ hbx,hs];rfl
 ·rw [hs] at hO ⊢
  exact own_kept hO (grown_set _ _ _ _) (fun m hm e=>by have:=hO.blk m hm;cases e;omega)
structure G1 (Bg:Nat) (w1:World) (B1:Nat) (a:Option Addr) (c:Nat) (p m:Nat) (a1:Option Addr) (c1:Nat) (i:Nat) (W:World):Prop where
 bel:Below Bg w1 W
 box:W.heap[Bg]?=some (.cells #[.slice a m c,.slice a1 i c1] 68 (0,0))
 own:Owns (fun n=>[I n]) 1 (Bg+1) W 3 (.slice a m c) (seg p m)
 lt:∀ j,(Value.slice a m c).ownBlock=some j→j < B1
 own1:Owns (fun n=>[I n]) 1 B1 W 3 (.slice a1 i c1) (seg (p+m) i)
 sz:B1≤W.heap.size
theorem G0.next {Bg:Nat} {w1 W:World} {a:Option Addr} {c p m:Nat} (h:G0 Bg w1 a c p m W):G1 Bg w1 W.heap.size a c p m none 0 0 W :=
 ⟨h.bel,h.box,h.own,own_lt h.own,Owns.nil,Nat.le_refl _⟩
theorem G1.step {Bg B1:Nat} {w1 W W':World} {a a1:Option Addr} {c p m c1 i:Nat} (h:G1 Bg w1 B1 a c p m a1 c1 i W) (hb:Below W.heap.size W W') (hB:Bg≤W.heap.size):G1 Bg w1 B1 a c p m a1 c1 i W' :=
 ⟨h.bel.trans (hb.mono hB),(hb.block _ (Array.getElem?_eq_some_iff.1 h.box).1).trans h.box,h.own.below hb,h.lt,h.own1.below hb,Nat.le_trans h.sz hb.size⟩
theorem G1.put {Bg B1:Nat} {w1 W W':World} {a a1:Option Addr} {c p m c1 i:Nat} {v':Value} (h:G1 Bg w1 B1 a c p m a1 c1 i W) (h1:Bg < B1) (hB:B1≤W.heap.size) (hg:W.grownBy W' (Value.slice a1 i c1).ownBlock)
  (ho:W'.ownsRow B1 3 1 v' (i+1) ((seg (p+m) i).flatMap (fun n=>[I n])++[I ((p+m+i:Nat):Int)])) :
  (W'.heap[Bg]?=some (.cells #[.slice a m c,.slice a1 i c1] 68 (0,0)))∧∃ a' c',v'=.slice a' (i+1) c'∧G1 Bg w1 B1 a c p m a' c' (i+1) (W'.setCell ⟨Bg,1,none⟩ v'):=by
 have hne:some Bg ≠ (Value.slice a1 i c1).ownBlock:=fun e=>by have:=h.own1.blk _ e.symm;omega
 have hbx:=(hg.block Bg (by omega) hne).trans h.box
 have hO:Owns (fun n=>[I n]) 1 B1 W' 3 v' (seg (p+m) (i+1)):=by
  rw [seg_succ];refine Owns.snoc ?_;rw [seg_len];exact ho
 have hO0:Owns (fun n=>[I n]) 1 (Bg+1) W' 3 (.slice a m c) (seg p m):=own_kept h.own hg (fun j hj e=>by have:=h.lt j hj;have:=h.own1.blk j e;omega)
 obtain ⟨⟨a',c'⟩,hs,hr⟩:=own_row hO
 rw [seg_len] at hs
 refine ⟨hbx,a',c',hs,?_⟩
 have hB':Bg≤W'.heap.size:=Nat.le_trans (by omega) hg.size
 refine ⟨?_,?_,?_,h.lt,?_,by simp;exact Nat.le_trans h.sz hg.size⟩
 ·exact (h.bel.grown hg (by omega) (fun k hk=>by have:=h.own1.blk k hk;omega)).setCell (p:=⟨Bg,1,none⟩) (Nat.le_refl _) v'
 ·rw [heap_setCell_same _ _ _ _ _ _ hbx,hs];rfl
 ·exact own_kept hO0 (grown_set _ _ _ _) (fun m hm e=>by have:=hO0.blk m hm;cases e;omega)
 ·rw [hs] at hO ⊢
  exact own_kept hO (grown_set _ _ _ _) (fun m hm e=>by have:=hO.blk m hm;cases e;omega)
structure GS (w:World) (tb:Nat) (cs:List Value) (ga:Option Addr) (gc:Nat) (g:Nat) (gs:List Gr) (W:World):Prop where
 gb:w.grownBy W (some tb)
 tbk:W.heap[tb]?=some (.cells (cs.set 104 (.slice ga g gc)).toArray 33 (0,0))
 own:Owns Gr.cells 2 w.heap.size W 68 (.slice ga g gc) gs
 len:gs.length=g
 rows:∀ x ∈ gs,RowI W x.s0 x.r0∧RowI W x.s1 x.r1
theorem GS.step {w W W':World} {tb:Nat} {cs:List Value} {ga:Option Addr} {gc g:Nat} {gs:List Gr} (h:GS w tb cs ga gc g gs W) (hb:Below W.heap.size W W'):GS w tb cs ga gc g gs W' :=
 ⟨grown_trans h.gb (grown_below hb none) (fun m e=>by cases e),(hb.block _ (Array.getElem?_eq_some_iff.1 h.tbk).1).trans h.tbk,h.own.below hb,h.len,fun x hx=>⟨(h.rows x hx).1.below hb,(h.rows x hx).2.below hb⟩⟩
theorem GS.put {w W W':World} {tb:Nat} {cs:List Value} {ga:Option Addr} {gc g:Nat} {gs:List Gr} {v':Value} (x:Gr) (h:GS w tb cs ga gc g gs W) (hx:RowI W x.s0 x.r0∧RowI W x.s1 x.r1) (hg:W.grownBy W' (Value.slice ga g gc).ownBlock) (hc:cs.length=131)
  (ho:W'.ownsRow w.heap.size 68 2 v' (g+1) (gs.flatMap Gr.cells++x.cells)) :
  (W'.heap[tb]?=some (.cells (cs.set 104 (.slice ga g gc)).toArray 33 (0,0)))∧∃ a' c',v'=.slice a' (g+1) c'∧GS w tb cs a' c' (g+1) (gs++[x]) (W'.setCell ⟨tb,104,none⟩ v'):=by
 have hne:some tb ≠ (Value.slice ga g gc).ownBlock:=fun e=>own_ne h.own h.tbk (by decide) e.symm
 have hbx:=(hg.block tb (Array.getElem?_eq_some_iff.1 h.tbk).1 hne).trans h.tbk
 have hO:Owns Gr.cells 2 w.heap.size W' 68 v' (gs++[x]):=Owns.snoc (by rw [h.len];exact ho)
 obtain ⟨⟨a',c'⟩,hs,hr⟩:=Owns.row hO (fun _=>rfl)
 have hs2:v'=.slice a' (g+1) c':=by rw [hs,List.length_append,h.len];rfl
 have hK:∀ s l,RowI W s l→RowI (W'.setCell ⟨tb,104,none⟩ v') s l:=fun s l hr=>by
  have h1:RowI W' s l:=hr.grown hg (fun y hy e=>by
   obtain ⟨ds,hd⟩:=own_type h.own _ e.symm
   exact hr.ne hd (by decide) y hy rfl)
  exact h1.grown (grown_set _ _ _ _) (fun y hy e=>h1.ne hbx (by decide) y hy (by cases e;rfl))
 refine ⟨hbx,a',c',hs2,?_,?_,?_,by rw [List.length_append,h.len];rfl,?_⟩
 ·exact grown_trans (grown_trans h.gb hg (fun m e=>.inr (h.own.blk m e))) (grown_set _ _ _ _) (fun m e=>.inl (by cases e;rfl))
 ·rw [heap_setCell_same _ _ _ _ _ _ hbx,hs2]
  simp
 ·rw [← hs2]
  exact own_kept hO (grown_set _ _ _ _) (fun m hm e=>by cases e;exact own_ne hO hbx (by decide) hm)
 ·intro y hy
  rcases List.mem_append.1 hy with hy | hy
  ·exact ⟨hK _ _ (h.rows y hy).1,hK _ _ (h.rows y hy).2⟩
  ·obtain rfl:y=x:=by simpa using hy
   exact ⟨hK _ _ hx.1,hK _ _ hx.2⟩
theorem from_at (a:Option Addr) (cap:Nat) (L:List Int) (i j n:Int) (hij:i=j) (w:World) (h:IntRow w ⟨a,cap⟩ L) (h0:0≤i) (hn:0 < n) (hn':n≤1000) :
  Calls Tryz.prog 36 #[.slice a L.length cap,.int .i64 i,.int .i64 n] w fun e w'=>e=.returned (.int .i64 (num L j n))∧w=w':=by
 subst hij;exact from_any a cap L i n w h h0 hn hn'
theorem infoGz:(Tryz.prog.info? 68).map (fun i=>(i.zero,i.size))=some (some (.agg #[.slice none 0 0,.slice none 0 0]),2):=by kernel_rfl
theorem infoG2:(Tryz.prog.info? 68).map (·.size)=some 2:=by kernel_rfl
theorem infoG3:(Tryz.prog.info? 68).map (fun i=>(i.zero,i.size,i.bytes))=some (some (.agg #[.slice none 0 0,.slice none 0 0]),2,48):=by kernel_rfl
end GenG
namespace Dp
open Go Go.RowKit Go.ChangeShapes
open Tab Po
open Rd (Rd But)
open Nm (St)
open Put (lim)
open Gath (Owns)
abbrev idL (l:List Value):List Value:=l
section
variable {B g:Nat} {ad:Option Addr} {cap:Nat} {bs:List Nat} {s:St} {W V U:World}
theorem Ds.keep (h:Ds B g ad cap bs s W) (hs:W.heap.size≤V.heap.size) (hk:∀ j,j < B→V.heap[j]?=W.heap[j]?):Ds B g ad cap bs s V:=by
 have hg:=hk g h.gl
 have hc:∀ i,V.cell? ⟨g,i,none⟩=W.cell? ⟨g,i,none⟩:=fun i=>World.cell?_of_block (w:=W) (a:=⟨g,i,none⟩) hg
 refine ⟨⟨Nat.lt_of_lt_of_le h.rd.lt hs,?_,h.rd.off,(hc 0).trans h.rd.c0,(hc 1).trans h.rd.c1,(hc 2).trans h.rd.c2,(hc 3).trans h.rd.c3,fun i=>(World.frozen?_of_block (w:=W) (a:=⟨g,i,none⟩) hg).trans (h.rd.fz i),h.rd.cap_le⟩,h.good,h.len,h.lo,h.gl,Nat.le_trans h.bl hs⟩
 refine ⟨h.rd.row.1,h.rd.row.2.1,?_⟩
 rcases h.rd.row.2.2 with h0 | ⟨x,hx,hcl⟩
 ·exact .inl h0
 ·by_cases hb:bs=[]
  ·exact .inl hb
  ·refine .inr ⟨x,hx,fun i hi=>?_⟩
   rw [← hcl i hi]
   refine World.cell?_of_block (hk _ ?_)
   have:=h.lo hb x hx
   unfold Addr.add
   split <;> exact this
theorem Ds.grown (h:Ds B g ad cap bs s W) {row:Option Nat} (hg:W.grownBy V row) (hr:∀ m,row=some m→B≤m):Ds B g ad cap bs s V :=
 h.keep hg.size (fun j hj=>hg.block j (Nat.lt_of_lt_of_le hj h.bl) (fun e=>by have:=hr j e.symm;omega))
theorem butGrown {g:Nat} (h:But g W V) {row:Option Nat} (hg:V.grownBy U row) (hr:∀ m,row=some m→W.heap.size≤m):But g W U:=by
 have hne:∀ k,k < W.heap.size→some k ≠ row:=fun k hk e=>by have:=hr k e.symm;omega
 refine ⟨hg.os.trans h.os,hg.tape.trans h.tape,hg.output.trans h.output,Nat.le_trans h.size hg.size,fun k hk hkg=>(hg.block k (Nat.lt_of_lt_of_le hk h.size) (hne k hk)).trans (h.block k hk hkg),fun k hk=>?_⟩
 rw [← h.shape k hk]
 unfold World.shape?
 rw [hg.block k (Nat.lt_of_lt_of_le hk h.size) (hne k hk)]
theorem owns_but {α:Type} {enc:α→List Value} {n B0:Nat} {t:TypeId} {v:Value} {l:List α} (h:Owns enc n B0 W t v l) (hb:But g W V) (hg:g < B0):Owns enc n B0 V t v l :=
 GenG.own_kept h (row:=some g) ⟨hb.os,hb.tape,hb.output,hb.size,fun j hj hne=>hb.block j hj (fun e=>hne (by rw [e]))⟩ (fun m hm e=>by have:=h.blk m hm;have:=Option.some.inj e;omega)
end
theorem num_in (l:List Nat) (s:St) (size:Nat) {high:Int} (h:0≤high):∃ n:Nat,(Nm.num l s size 0 high).1=n∧(n:Int)≤high:=by
 unfold Nm.num
 (repeat' split)
 ·exact ⟨0,rfl,h⟩
 ·exact ⟨0,rfl,h⟩
 ·exact ⟨0,rfl,h⟩
 ·rename_i hn
  exact ⟨_,rfl,by omega⟩
section
variable {B g:Nat} {ad:Option Addr} {cap:Nat} {bs:List Nat}
theorem info3:(Tryz.prog.info? 3).map (fun i=>(i.zero,i.size,i.bytes))=some (some (.int .i64 0),1,8):=by kernel_rfl
theorem row_d (s0:St) (W:World) (h:Ds B g ad cap bs s0 W):Calls Tryz.prog 62 #[ptr g] W fun e W'=>∃ r s' v,rowN (DP bs) s0=.ok (r,s')∧e=.returned v∧Owns idL 1 W.heap.size W' 3 v r∧r.length≤8∧Ds B g ad cap bs s' W'∧But g W W':=by
 obtain ⟨i0,hi,hz0,hz1,hz2⟩:=info_parts info3
 have hg:g < W.heap.size:=Nat.lt_of_lt_of_le h.gl h.bl
 have hBW:=h.bl
 have hcon:=num_d s0 1 8 W h
 have hnum:(DP bs).num s0 1 8 0=.ok ((Nm.num bs s0 (lim 1 7) 0 8).1,(Nm.num bs s0 (lim 1 7) 0 8).2):=rfl
 obtain ⟨n,hn,hn8⟩:=num_in bs s0 (lim 1 7) (high:=8) (by decide)
 rw [hn] at hcon hnum
 generalize (Nm.num bs s0 (lim 1 7) 0 8).2=s1 at hcon hnum
 have HNUM:=Lib.hid hnum
 clear hnum hn h
 go_enter Tryz.func62,Tryz.ntmps62
 go_wp2_with fail
 refine hcon.mono ?_
 rintro e W1 ⟨rfl,hs1,hb1⟩
 have HS1:=Lib.hid hs1
 have HB1:=Lib.hid hb1
 clear hs1 hb1 hcon
 go_wp2_with fail
 go_loopw [3,5] (fun v i wr=>∃ (q:Nat) (r:List (List Value)) (t:St),q≤n∧i=.int .i64 q∧eachs (DP bs) [.num 1 7 0] (List.replicate q [I 0]) s1=.ok (r,t)∧r.length=q∧Owns idL 1 W.heap.size wr 3 v r∧Ds B g ad cap bs t wr∧But g W wr) (fun _ i _=>n - (intOf i).toNat)
 case atStart=>exact ⟨0,[],s1,Nat.zero_le _,rfl,rfl,rfl,Owns.nil,HS1.out,HB1.out⟩
 case round =>
  obtain ⟨q,r,t,hq,rfl,hea,hrl,hown,hds,hbt⟩:=hrel
  have HE:=Lib.hid hea
  have HB:=Lib.hid hbt
  clear hea hbt HS1 HB1
  by_cases hlt:q < n
  ·have hc2:=num_d t 1 7 wr hds
   have hrun:runs (DP bs) [.num 1 7 0] [I 0] t=.ok ([I (Nm.num bs t (lim 1 7) 0 7).1],(Nm.num bs t (lim 1 7) 0 7).2):=rfl
   generalize (Nm.num bs t (lim 1 7) 0 7).1=y at hc2 hrun
   generalize (Nm.num bs t (lim 1 7) 0 7).2=t2 at hc2 hrun
   have HR:=Lib.hid hrun
   clear hrun hds
   go_wp2_with fail
   refine hc2.mono ?_
   rintro e V2 ⟨rfl,hd2,hb2⟩
   have hown2:Owns idL 1 W.heap.size V2 3 (_) r:=owns_but hown hb2 hg
   have hbw:But g W V2:=HB.out.trans hb2
   have HD2:=Lib.hid hd2
   have HBW:=Lib.hid hbw
   have hsz:=hbw.size
   clear hc2 hown hb2 HB hd2 hbw
   go_wp2_with (at_builtin;refine wpList_append_own _ rfl _ _ 42 rfl W.heap.size 3 i0 (.int .i64 0) 1 8 Tryz.underlying42 hi hz0 hz1 hz2 rfl (by decide) _ _ _ rfl (World.ownsRow.alloc hown2 _) ⟨V2.heap.size,0,none⟩ 1 1 [I y] rfl rfl ?c1 ?c2 ?c3 ?c4 ?c5 ?_)
   case c1 =>
    intro j u hj
    match j,hj with
    | 0,hj=>simp at hj;subst hj;simp [Addr.add]
   case c2=>intro u hu;simp at hu;subst hu;rfl
   case c3=>unfold maxLen;omega
   case c4=>omega
   case c5=>simp;omega
   intro v' w1 hown' hgrow hnil'
   have hbk:=fun j hj=>hown2.blk j hj
   have hbel:Below V2.heap.size V2 (V2.alloc (.cells #[I y] 3)):=(Below.refl _ _).alloc (Nat.le_refl _) _
   have hB3:But g W w1:=butGrown (HBW.out.trans (But.of hbel)) hgrow (fun m hm=>hbk m hm)
   have hD3:Ds B g ad cap bs t2 w1:=(HD2.out.mem hbel).grown hgrow (fun m hm=>by have:=hbk m hm;omega)
   have hfl:r.flatten=r.flatMap idL:=by rw [List.flatMap_def];simp [idL]
   rw [hfl,← hrl] at hown'
   have Hown:=Lib.hid (Owns.snoc (enc:=idL) (x:=[I y]) hown')
   clear hown' hgrow hown2 hnil' hbel hbk
   go_wp2
   go_roundw
   case rel=>exact ⟨q+1,r++[[I y]],t2,by omega,by go_num,rep_next HE.out HR.out,by rw [List.length_append,hrl];rfl,Hown.out,hD3,hB3⟩
   case measure=>simp [intOf];omega
  ·obtain rfl:q=n:=by omega
   go_wp2
   go_ret
   exact ⟨r,t,_,by
    unfold rowN listN
    rw [HNUM.out]
    exact HE.out,rfl,hown,by omega,hds,HB.out⟩
end
end Dp
namespace Dp
open Go Go.RowKit Go.ChangeShapes
open Tab Po
open Rd (Rd But)
open Nm (St)
open Put (lim)
open Gath (Owns)
open Clone (zTab zHd)
abbrev Zd:Type:=(Value × Value) × (List (List Value) × List (List Value))
def zcD (z:Zd):List Value:=[z.1.1,z.1.2]
def RowsD (B0:Nat) (W:World) (zs:List Zd):Prop:=∀ z ∈ zs,Owns idL 1 B0 W 3 z.1.1 z.2.1∧Owns idL 1 B0 W 3 z.1.2 z.2.2
structure Lists where
 gv:Value
 zs:List Zd
 dv:Value
 ds:List (List Value)
 rv:Value
 rs:List (List Value)
 bv:Value
 bs:List (List Value)
structure Hold (B0:Nat) (L:Lists) (W:World):Prop where
 gr:Owns zcD 2 B0 W 68 L.gv L.zs
 rw:RowsD B0 W L.zs
 dt:Owns idL 7 B0 W 71 L.dv L.ds
 rl:Owns idL 11 B0 W 75 L.rv L.rs
 bu:Owns idL 2 B0 W 77 L.bv L.bs
section
variable {B0 g:Nat} {L:Lists} {W V:World}
theorem Hold.nil:Hold B0 ⟨nl,[],nl,[],nl,[],nl,[]⟩ W:=⟨Owns.nil,fun z hz=>by simp at hz,Owns.nil,Owns.nil,Owns.nil⟩
theorem Hold.but (h:Hold B0 L W) (hb:But g W V) (hg:g < B0):Hold B0 L V :=
 ⟨owns_but h.gr hb hg,fun z hz=>⟨owns_but (h.rw z hz).1 hb hg,owns_but (h.rw z hz).2 hb hg⟩,owns_but h.dt hb hg,owns_but h.rl hb hg,owns_but h.bu hb hg⟩
theorem own_other {α:Type} {enc:α→List Value} {n:Nat} {t:TypeId} {v:Value} {l:List α} {row:Option Nat} {t2:TypeId} (h:Owns enc n B0 W t v l) (hg:W.grownBy V row) (hr:∀ m,row=some m→∃ cs:Array Value,W.heap[m]?=some (.cells cs t2 (0,0))) (ht:t2 ≠ t):Owns enc n B0 V t v l :=
 GenG.own_kept h hg (fun m hm e=>by
  obtain ⟨cs,hc⟩:=hr m e
  exact GenG.own_ne h hc ht hm)
theorem Hold.box (h:Hold B0 L W) {row:Option Nat} (hg:W.grownBy V row) (hr:∀ m,row=some m→∃ cs:Array Value,W.heap[m]?=some (.cells cs 33 (0,0))):Hold B0 L V :=
 ⟨own_other h.gr hg hr (by decide),fun z hz=>⟨own_other (h.rw z hz).1 hg hr (by decide),own_other (h.rw z hz).2 hg hr (by decide)⟩,own_other h.dt hg hr (by decide),own_other h.rl hg hr (by decide),own_other h.bu hg hr (by decide)⟩
theorem Hold.bus1 (h:Hold B0 L W) {b i:Nat} {v:Value} (hb:B0≤b) (hne:L.bv.ownBlock ≠ some b) {cs:Array Value} (hc:W.heap[b]?=some (.cells cs 77 (0,0))):Hold B0 L (W.setCell ⟨b,i,none⟩ v) :=
 have hg:=GenG.grown_set W b i v
 have hr:∀ m,some b=some m→∃ cs:Array Value,W.heap[m]?=some (.cells cs 77 (0,0)):=fun m e=>by cases e;exact ⟨cs,hc⟩
 ⟨own_other h.gr hg hr (by decide),fun z hz=>⟨own_other (h.rw z hz).1 hg hr (by decide),own_other (h.rw z hz).2 hg hr (by decide)⟩,own_other h.dt hg hr (by decide),own_other h.rl hg hr (by decide),GenG.own_kept h.bu hg (fun m hm e=>hne (by rw [hm,← e]))⟩
theorem Hold.growG (h:Hold B0 L W) {gv:Value} {z:Zd} (hg:W.grownBy V L.gv.ownBlock) (ho:Owns zcD 2 B0 V 68 gv (L.zs++[z])) (h1:Owns idL 1 B0 W 3 z.1.1 z.2.1) (h2:Owns idL 1 B0 W 3 z.1.2 z.2.2):Hold B0 { L with gv:=gv,zs:=L.zs++[z] } V :=
 have hr:=GenG.own_type h.gr
 ⟨ho,fun y hy=>by
  rcases List.mem_append.1 hy with hy | hy
  ·exact ⟨own_other (h.rw y hy).1 hg hr (by decide),own_other (h.rw y hy).2 hg hr (by decide)⟩
  ·rw [List.mem_singleton] at hy
   subst hy
   exact ⟨own_other h1 hg hr (by decide),own_other h2 hg hr (by decide)⟩,own_other h.dt hg hr (by decide),own_other h.rl hg hr (by decide),own_other h.bu hg hr (by decide)⟩
theorem Hold.growD (h:Hold B0 L W) {dv:Value} {d:List Value} (hg:W.grownBy V L.dv.ownBlock) (ho:Owns idL 7 B0 V 71 dv (L.ds++[d])):Hold B0 { L with dv:=dv,ds:=L.ds++[d] } V :=
 have hr:=GenG.own_type h.dt
 ⟨own_other h.gr hg hr (by decide),fun z hz=>⟨own_other (h.rw z hz).1 hg hr (by decide),own_other (h.rw z hz).2 hg hr (by decide)⟩,ho,own_other h.rl hg hr (by decide),own_other h.bu hg hr (by decide)⟩
theorem Hold.growR (h:Hold B0 L W) {rv:Value} {d:List Value} (hg:W.grownBy V L.rv.ownBlock) (ho:Owns idL 11 B0 V 75 rv (L.rs++[d])):Hold B0 { L with rv:=rv,rs:=L.rs++[d] } V :=
 have hr:=GenG.own_type h.rl
 ⟨own_other h.gr hg hr (by decide),fun z hz=>⟨own_other (h.rw z hz).1 hg hr (by decide),own_other (h.rw z hz).2 hg hr (by decide)⟩,own_other h.dt hg hr (by decide),ho,own_other h.bu hg hr (by decide)⟩
theorem Hold.growB (h:Hold B0 L W) {bv:Value} {d:List Value} (hg:W.grownBy V L.bv.ownBlock) (ho:Owns idL 2 B0 V 77 bv (L.bs++[d])):Hold B0 { L with bv:=bv,bs:=L.bs++[d] } V :=
 have hr:=GenG.own_type h.bu
 ⟨own_other h.gr hg hr (by decide),fun z hz=>⟨own_other (h.rw z hz).1 hg hr (by decide),own_other (h.rw z hz).2 hg hr (by decide)⟩,own_other h.dt hg hr (by decide),own_other h.rl hg hr (by decide),ho⟩
end
structure Dq (B g:Nat) (ad:Option Addr) (cap:Nat) (bs:List Nat) (W0:World) (tb gz:Nat) (Z:Array Value) (C:List Value) (L:Lists) (s:St) (W:World):Prop where
 tbl:W.heap[tb]?=some (.cells C.toArray 33 (0,0))
 res:W.heap[gz]?=some (.cells Z 33 (0,0))
 but:But g W0 W
 ds:Ds B g ad cap bs s W
 hold:Hold W0.heap.size L W
 t0:W0.heap.size≤tb
 z0:W0.heap.size≤gz
 ne:tb ≠ gz
 b0:B≤W0.heap.size
section
variable {B g:Nat} {ad:Option Addr} {cap:Nat} {bs:List Nat} {W0:World} {tb gz:Nat} {Z:Array Value} {C:List Value} {L:Lists} {s s':St} {W V:World}
theorem Dq.gl (h:Dq B g ad cap bs W0 tb gz Z C L s W):g < W0.heap.size:=Nat.lt_of_lt_of_le h.ds.gl h.b0
theorem Dq.step (h:Dq B g ad cap bs W0 tb gz Z C L s W) (hb:But g W V) (hd:Ds B g ad cap bs s' V):Dq B g ad cap bs W0 tb gz Z C L s' V :=
 have hg:=h.gl
 have ht:=h.t0
 have hz:=h.z0
 ⟨(hb.block tb (Array.getElem?_eq_some_iff.1 h.tbl).1 (by omega)).trans h.tbl,(hb.block gz (Array.getElem?_eq_some_iff.1 h.res).1 (by omega)).trans h.res,h.but.trans hb,hd,h.hold.but hb hg,ht,hz,h.ne,h.b0⟩
theorem Dq.mem (h:Dq B g ad cap bs W0 tb gz Z C L s W) (hb:Below W.heap.size W V):Dq B g ad cap bs W0 tb gz Z C L s V:=h.step (But.of hb) (h.ds.mem hb)
theorem Dq.put (h:Dq B g ad cap bs W0 tb gz Z C L s W) (C':List Value):Dq B g ad cap bs W0 tb gz Z C' L s (W.setRow tb C'.toArray):=by
 have ht:=h.t0
 have hg:W.grownBy (W.setRow tb C'.toArray) (some tb):=⟨rfl,rfl,rfl,by simp [World.setRow],fun j _ hj=>setRow_other _ _ _ _ (fun e=>hj (by rw [e]))⟩
 exact ⟨setRow_heap _ _ _ _ _ _ h.tbl,(setRow_other _ _ _ _ (Ne.symm h.ne)).trans h.res,butGrown h.but hg (fun m e=>by cases e;exact ht),h.ds.grown hg (fun m e=>by cases e;exact Nat.le_trans h.b0 ht),
  h.hold.box hg (fun m e=>by cases e;exact ⟨_,h.tbl⟩),ht,h.z0,h.ne,h.b0⟩
theorem Dq.set (h:Dq B g ad cap bs W0 tb gz Z C L s W) (j:Nat) (v:Value):Dq B g ad cap bs W0 tb gz Z (C.set j v) L s (W.setCell ⟨tb,j,none⟩ v):=by
 have e:W.setCell ⟨tb,j,none⟩ v=W.setRow tb (C.set j v).toArray:=by
  rw [setCell_eq_setRow W tb j C.toArray 33 (0,0) v h.tbl,List.setIfInBounds_toArray]
 rw [e]
 exact h.put _
theorem Dq.grown (h:Dq B g ad cap bs W0 tb gz Z C L s W) {L':Lists} {row:Option Nat} {t:TypeId} (hg:W.grownBy V row) (hr:∀ m,row=some m→W0.heap.size≤m∧∃ cs:Array Value,W.heap[m]?=some (.cells cs t (0,0))) (ht:t ≠ 33) (hl:Hold W0.heap.size L' V):Dq B g ad cap bs W0 tb gz Z C L' s V:=by
 have hne:∀ b,(∃ cs:Array Value,W.heap[b]?=some (.cells cs 33 (0,0)))→some b ≠ row:=fun b ⟨cs,hc⟩ e=>by
  obtain ⟨_,cs2,h2⟩:=hr b e.symm
  rw [hc] at h2
  injection h2 with h3
  injection h3 with h4 h5
  exact ht h5.symm
 exact ⟨(hg.block tb (Array.getElem?_eq_some_iff.1 h.tbl).1 (hne tb ⟨_,h.tbl⟩)).trans h.tbl,(hg.block gz (Array.getElem?_eq_some_iff.1 h.res).1 (hne gz ⟨_,h.res⟩)).trans h.res,butGrown h.but hg (fun m e=>(hr m e).1),h.ds.grown hg (fun m e=>Nat.le_trans h.b0 (hr m e).1),hl,h.t0,h.z0,h.ne,h.b0⟩
theorem Dq.bus (h:Dq B g ad cap bs W0 tb gz Z C L s W) {nb i:Nat} {v:Value} {cs:Array Value} (hn:W0.heap.size≤nb) (hne:L.bv.ownBlock ≠ some nb) (hc:W.heap[nb]?=some (.cells cs 77 (0,0))):Dq B g ad cap bs W0 tb gz Z C L s (W.setCell ⟨nb,i,none⟩ v) :=
 h.grown (row:=some nb) (t:=77) (GenG.grown_set W nb i v) (fun m e=>by cases e;exact ⟨hn,cs,hc⟩) (by decide) (h.hold.bus1 hn hne hc)
theorem Dq.at (h:Dq B g ad cap bs W0 tb gz Z C L s W) {j:Nat} {v:Value} (hv:C[j]?=some v):W.cell? ⟨tb,j,none⟩=some v:=by
 rw [cell_of_row _ _ _ _ _ _ h.tbl];simpa using hv
theorem Dq.fz (h:Dq B g ad cap bs W0 tb gz Z C L s W) (j:Nat):W.frozen? ⟨tb,j,none⟩=false:=frozen_of_row _ _ _ _ _ h.tbl
end
theorem dfew {bs:List Nat} (hb:∀ x ∈ bs,x < 256):∀ most (s:St) y (s1:St),(DP bs).num s 1 most 0=.ok (y,s1)→∃ n:Nat,y=n∧n≤1000:=by
 intro most s y s1 h
 have h1:(Nm.num bs s (lim 1 7) 0 most).1=y:=congrArg Prod.fst (Except.ok.inj h)
 subst h1
 have hv:=Nx.val_lt bs s.k (lim 1 7) hb
 rw [show lim 1 7=1 by decide] at hv ⊢
 unfold Nm.num
 (repeat' split)
 ·exact ⟨0,rfl,by omega⟩
 ·exact ⟨0,rfl,by omega⟩
 ·exact ⟨0,rfl,by omega⟩
 ·exact ⟨_,rfl,by omega⟩
theorem owns_row {β:Type} {f:β→List Value} {n B0:Nat} {w:World} {t:TypeId} {v:Value} {l:List β} {xs:List (List Value)} (e:l.map f=xs) (hn:∀ b,(f b).length=n) (h:Owns idL n B0 w t v xs):∃ s:Sl,v=s.val l.length∧RowOf n f w s l:=by
 subst e
 have h2:Owns f n B0 w t v l:=by
  unfold Owns at h ⊢
  rwa [List.length_map,List.flatMap_map] at h
 exact h2.row hn
theorem dq_tab {B0:Nat} {x:Raw} (h:RawOk x) {L:Lists} {W:World} (hd:Hold B0 L W) (hz:L.zs.map (·.2)=x.gs) (h1:L.ds=x.ds) (h2:L.rs=x.rs) (h3:L.bs=x.bs) :
  ∃ H,bx x.ph.flatten L.gv x.cf L.dv L.rv L.bv x.tm x.fl x.tk=(tabOf x).cells H∧IsTab W H (tabOf x):=by
 have hraw:=raw_tab h
 have e1:(tabOf x).phases.map Ph.cells=x.ph:=congrArg Raw.ph hraw
 have e3:(tabOf x).conflict.map I=x.cf:=congrArg Raw.cf hraw
 have e4:(tabOf x).dets.map Det.cells=x.ds:=congrArg Raw.ds hraw
 have e5:(tabOf x).rails.map Rl.cells=x.rs:=congrArg Raw.rs hraw
 have e6:(tabOf x).buses.map Bs.cells=x.bs:=congrArg Raw.bs hraw
 have e7:[I (tabOf x).extend,I (tabOf x).budget,I (tabOf x).start,I (tabOf x).revert,I (tabOf x).least]=x.tm:=congrArg Raw.tm hraw
 have e8:(tabOf x).flash.map I=x.fl:=congrArg Raw.fl hraw
 have e9:[I (tabOf x).window,I (tabOf x).share]=x.tk:=congrArg Raw.tk hraw
 have egs:(tabOf x).groups=x.gs.map (fun g=>(ofRow g.1,ofRow g.2)):=rfl
 generalize tabOf x=T at *
 have d4:=hd.dt;have d5:=hd.rl;have d6:=hd.bu
 rw [h1] at d4
 rw [h2] at d5
 rw [h3] at d6
 obtain ⟨sd,hsd,rd⟩:=owns_row (f:=Det.cells) e4 (fun _=>rfl) d4
 obtain ⟨sr,hsr,rr⟩:=owns_row (f:=Rl.cells) e5 (fun _=>rfl) d5
 obtain ⟨sb,hsb,rb⟩:=owns_row (f:=Bs.cells) e6 (fun _=>rfl) d6
 obtain ⟨sg,hsg,rg⟩:=hd.gr.row (fun _=>rfl)
 have hzl:L.zs.length=T.groups.length:=by rw [egs,List.length_map,← hz,List.length_map]
 have hex:∀ zs':List Zd,(∀ z ∈ zs',z ∈ L.zs)→∃ gs:List Gr,gs.map Gr.cells=zs'.map zcD∧gs.map Gr.data=zs'.map (fun z=>(ofRow z.2.1,ofRow z.2.2))∧∀ g ∈ gs,g.ok W:=by
  intro zs'
  induction zs' with
  | nil=>intro _;exact ⟨[],rfl,rfl,fun g hg=>by simp at hg⟩
  | cons z zs' ih =>
   intro ha
   have hm:=ha z (by simp)
   have hm2:z.2 ∈ x.gs:=by rw [← hz];exact List.mem_map_of_mem hm
   have hk:=h.gs _ hm2
   obtain ⟨r0,r1⟩:=hd.rw z hm
   obtain ⟨s0,q0,w0⟩:=owns_row (f:=fun n=>[I n]) (ofRow_cells hk.1) (fun _=>rfl) r0
   obtain ⟨s1,q1,w1⟩:=owns_row (f:=fun n=>[I n]) (ofRow_cells hk.2) (fun _=>rfl) r1
   obtain ⟨gs,i1,i2,i3⟩:=ih (fun z' hz'=>ha z' (by simp [hz']))
   refine ⟨⟨ofRow z.2.1,ofRow z.2.2,s0,s1⟩ :: gs,?_,by rw [List.map_cons,List.map_cons,i2];rfl,fun g' hg'=>?_⟩
   ·rw [List.map_cons,List.map_cons,i1]
    congr 1
    unfold Gr.cells zcD
    rw [q0,q1]
   ·rcases List.mem_cons.1 hg' with rfl | hg'
    ·exact ⟨w0,w1⟩
    ·exact i3 g' hg'
 obtain ⟨gs,f1,f2,f3⟩:=hex L.zs (fun _ h=>h)
 have hgd:gs.map Gr.data=T.groups:=by
  rw [f2,egs,← hz,List.map_map]
  rfl
 have hgl:gs.length=L.zs.length:=by have:=congrArg List.length f1;rwa [List.length_map,List.length_map] at this
 have hgrow:RowOf 2 Gr.cells W sg gs:=by
  rcases rg with ⟨a1,a2,a3⟩ | ⟨y,a1,a2,a3,a4⟩
  ·exact .inl ⟨a1,a2,List.eq_nil_of_length_eq_zero (by rw [hgl,a3];rfl)⟩
  ·refine .inr ⟨y,a1,by rw [hgl];exact a2,a3,fun i v hv=>?_⟩
   have h5:(gs.map Gr.cells)[i]?=some v.cells:=by rw [List.getElem?_map,hv];rfl
   rw [f1,List.getElem?_map] at h5
   obtain ⟨z,hz1,hz2⟩:=Option.map_eq_some_iff.1 h5
   rw [← hz2]
   exact a4 i z hz1
 refine ⟨⟨sg,sd,sr,sb⟩,?_,⟨?_,?_,?_,⟨gs,hgd,hgrow,f3⟩,rd,rr,rb⟩⟩
 ·unfold bx Tab.cells
  rw [← e1,flat_map,e3,hsd,hsr,hsb,hsg,e8,← e7,← e9,hzl]
  rfl
 ·have:=congrArg List.length e1
  rw [List.length_map] at this
  rw [this,h.pn]
 ·have:=congrArg List.length e3
  rw [List.length_map] at this
  have h5:=congrArg List.length h.cf
  rw [List.length_map,List.length_replicate] at h5
  rw [this,h5]
 ·have:=congrArg List.length e8
  rw [List.length_map] at this
  have h5:=congrArg List.length h.fl
  rw [List.length_map,List.length_replicate] at h5
  rw [this,h5]
def Keep (B0:Nat) (W V:World):Prop:=∀ (b:Nat) (o:Obj),B0≤b→W.heap[b]?=some o→V.heap[b]?=some o
theorem owns_keep {α:Type} {enc:α→List Value} {n B0:Nat} {W V:World} {t:TypeId} {v:Value} {l:List α} (h:Owns enc n B0 W t v l) (hk:Keep B0 W V):Owns enc n B0 V t v l:=by
 refine ⟨h.1,?_⟩
 rcases h.2 with h0 | ⟨g,cap,cur,e,hb,hg,rest⟩
 ·exact .inl h0
 ·exact .inr ⟨g,cap,cur,e,hb,hk g _ hb hg,rest⟩
theorem Hold.keep {B0:Nat} {L:Lists} {W V:World} (h:Hold B0 L W) (hk:Keep B0 W V):Hold B0 L V :=
 ⟨owns_keep h.gr hk,fun z hz=>⟨owns_keep (h.rw z hz).1 hk,owns_keep (h.rw z hz).2 hk⟩,owns_keep h.dt hk,owns_keep h.rl hk,owns_keep h.bu hk⟩
theorem cells_inj {T:Tab} {h k:Hd} (e:T.cells h=T.cells k):h=k:=by
 obtain ⟨⟨a1,c1⟩,⟨a2,c2⟩,⟨a3,c3⟩,⟨a4,c4⟩⟩:=h
 obtain ⟨⟨b1,d1⟩,⟨b2,d2⟩,⟨b3,d3⟩,⟨b4,d4⟩⟩:=k
 unfold Tab.cells at e
 have e1:=List.append_cancel_left e
 injection e1 with e2 e3
 have e4:=List.append_cancel_left e3
 injection e4 with e5 e6
 injection e6 with e7 e8
 injection e8 with e9 e10
 simp only [Sl.val,Value.slice.injEq] at e2 e5 e7 e9
 obtain ⟨rfl,_,rfl⟩:=e2
 obtain ⟨rfl,_,rfl⟩:=e5
 obtain ⟨rfl,_,rfl⟩:=e7
 obtain ⟨rfl,_,rfl⟩:=e9
 rfl
theorem dq_keep {B0:Nat} {x:Raw} (h:RawOk x) {L:Lists} {W:World} (hd:Hold B0 L W) (hz:L.zs.map (·.2)=x.gs) (h1:L.ds=x.ds) (h2:L.rs=x.rs) (h3:L.bs=x.bs) :
  ∃ H,bx x.ph.flatten L.gv x.cf L.dv L.rv L.bv x.tm x.fl x.tk=(tabOf x).cells H∧IsTab W H (tabOf x)∧∀ V,Keep B0 W V→IsTab V H (tabOf x):=by
 obtain ⟨H,hc,ht⟩:=dq_tab h hd hz h1 h2 h3
 refine ⟨H,hc,ht,fun V hk=>?_⟩
 obtain ⟨H3,hc3,ht3⟩:=dq_tab h (hd.keep hk) hz h1 h2 h3
 rw [cells_inj (hc.symm.trans hc3)]
 exact ht3
end Dp
end Go.Proofs.YtjdeemmaaiecnaaGreat
