/- 12 texts in one file, in build order. -/
import Derived.Test.YtjdeemmaaiecnaaGreatRows
import Derived.Test.YtjdeemmaaiecnaaGreatPart05
import Derived.Test.YtjdeemmaaiecnaaGreatPart01
import Derived.StillTailTactics
import Derived.Test.YtjdeemmaaiecnaaGreatPart04
import Derived.Test.YtjdeemmaaiecnaaGreatPart02
import Derived.Great.BuildSlice
set_option linter.unusedVariables false
set_option linter.unusedSimpArgs false
set_option linter.unusedSectionVars false
set_option maxHeartbeats 8000000
set_option maxRecDepth 100000
namespace Go.Proofs.YtjdeemmaaiecnaaGreat
namespace Po
open Go Go.RowKit Go.ChangeShapes
open Tab
abbrev Zr:Type:=(Option Addr × Option Addr) × (List (List Value) × List (List Value))
def zc (z:Zr):List Value:=[slc z.1.1 z.2.1,slc z.1.2 z.2.2]
abbrev zz:List Value:=[.slice none 0 0,.slice none 0 0]
def Rows (n0:Nat) (W:World) (zs:List Zr):Prop:=∀ z ∈ zs,NewRow n0 W z.1.1 z.2.1 3∧NewRow n0 W z.1.2 z.2.2 3
def grpsN (P:PP):Nat→P.σ→Except Flt (List (List (List Value) × List (List Value)) × P.σ)
 | 0,s=>.ok ([],s)
 | n+1,s=>match grpsN P n s with
  | .error f=>.error f
  | .ok (ys,s')=>match grpN P s' with
   | .error f=>.error f
   | .ok (y,s2)=>.ok (ys++[y],s2)
theorem grps_error {P:PP} {q:Nat} {s:P.σ} {f:Flt}:∀ {n:Nat},q < n→grpsN P (q+1) s=.error f→grpsN P n s=.error f
 | 0,h,_=>absurd h (by omega)
 | n+1,h,he=>by
  by_cases e:q=n
  ·subst e;exact he
  ·rw [grpsN,grps_error (n:=n) (by omega) he]
def listG (P:PP) (most:Int) (s:P.σ):Except Flt (List (List (List Value) × List (List Value)) × P.σ):=match P.num s 1 most 0 with
 | .error f=>.error f
 | .ok (y,s1)=>grpsN P y.toNat s1
def EndsGs (P:PP) (R:P.σ→World→Prop) (B c oc:Nat) (ccs:Array Value) (ct:TypeId) (r:Except Flt (List (List (List Value) × List (List Value)) × P.σ)) (W:World) (e:Ending) (W':World):Prop:=match r with
 | .ok (ys,s')=>e=.returned (.tuple #[])∧R s' W'∧Mv B c W W'∧∃ (a:Option Addr) (zs:List Zr),zs.map (·.2)=ys∧W'.heap[c]?=some (.cells (ccs.setIfInBounds oc (.slice a ys.length ys.length)) ct (0,0))∧(ys ≠ []→∃ b,W.heap.size≤b∧a=some ⟨b,0,none⟩∧W'.heap[b]?=some (.cells (zs.flatMap zc).toArray 68 (0,0)))∧Rows W.heap.size W' zs
 | .error f=>e=.panicked [{ v:=fault f,recovered:=false }]∧Below B W W'
theorem zs_len {zs:List Zr} {q:Nat} (h:zs.length=q):(zs.flatMap zc).length=q*2:=by rw [Copy.flat_len (enc:=zc) (n:=2) (fun _=>rfl),h]
theorem zz_cons {n q:Nat} (h:q < n):(List.replicate (n - q) zz).flatten=.slice none 0 0 :: .slice none 0 0 :: (List.replicate (n - (q+1)) zz).flatten:=by
 rw [show n - q=n - (q+1)+1 by omega,List.replicate_succ,List.flatten_cons]
 rfl
theorem zs_at0 {zs:List Zr} {n q:Nat} (h:zs.length=q) (hq:q < n):(zs.flatMap zc++(List.replicate (n - q) zz).flatten).toArray[q*2]?=some (.slice none 0 0):=by
 rw [List.getElem?_toArray,List.getElem?_append_right (by rw [zs_len h];omega),zs_len h,Nat.sub_self,zz_cons hq]
 rfl
theorem zs_at1 {zs:List Zr} {n q:Nat} (h:zs.length=q) (hq:q < n):(zs.flatMap zc++(List.replicate (n - q) zz).flatten).toArray[q*2+1]?=some (.slice none 0 0):=by
 rw [List.getElem?_toArray,List.getElem?_append_right (by rw [zs_len h];omega),zs_len h,show q*2+1 - q*2=1 by omega,zz_cons hq]
 rfl
theorem zs_set {zs:List Zr} {n q:Nat} {a0 a1:Option Addr} {y:List (List Value) × List (List Value)} (h:zs.length=q) (hq:q < n):(((zs.flatMap zc++(List.replicate (n - q) zz).flatten).toArray.setIfInBounds (q*2) (slc a0 y.1)).setIfInBounds (q*2+1) (slc a1 y.2))=((zs++[((a0,a1),y)]).flatMap zc++(List.replicate (n - (q+1)) zz).flatten).toArray:=by
 rw [List.setIfInBounds_toArray,List.setIfInBounds_toArray,List.set_append_right _ _ (by rw [zs_len h];omega),List.set_append_right _ _ (by rw [zs_len h];omega),zs_len h,Nat.sub_self,show q*2+1 - q*2=1 by omega,zz_cons hq,List.flatMap_append,List.append_assoc]
 rfl
section
variable {P:PP} {R:P.σ→World→Prop} {B:Nat} {ok:Nat→Nat × Nat→Prop} {ti:TypeId} {v rv:Value} {FN FF FG:FuncId}
theorem newG_any (PT:Port P R B ok ti v rv FN FF FG) (few8:∀ s y s1,P.num s 1 8 0=.ok (y,s1)→∃ n:Nat,y=n∧n≤1000)
  {s:P.σ} {W:World} {most:Int} (hR:R s W) (hB:B≤W.heap.size) (few:∀ y s1,P.num s 1 most 0=.ok (y,s1)→∃ n:Nat,y=n∧n≤1000)
  {c oc:Nat} {ccs:Array Value} {ct:TypeId} (hc:W.heap[c]?=some (.cells ccs ct (0,0))) (hct:¬ Pt ct) (hcB:B≤c) (hca:ccs[oc]?=some (.slice none 0 0)) (hfit:Fit (listG P most s)) :
  Calls Tryz.prog 48 #[.iface ti v,.int .i64 most,.pointer (some ⟨c,oc,none⟩),.func (.func 49) #[] #[]] W (EndsGs P R B c oc ccs ct (listG P most s) W):=by
 have hm:=PT.mn
 have en:=PT.en
 have en':∀ (args:Array Value) (w:World),(callFunc 49 args).run Tryz.prog w=.ok (.enter 49 args) w:=fun _ _=>rfl
 have HCT:=Lib.hid hct
 have HC:=Lib.hid hc
 have FW:=Lib.hid few
 have HR:=Lib.hid hR
 have HCA:=Lib.hid hca
 have k1:W.cell? ⟨c,oc,none⟩=some (.slice none 0 0):=by rw [cell_of_row _ _ _ _ _ _ hc];exact hca
 have hcl:=(Array.getElem?_eq_some_iff.1 hc).1
 have hb1:Below W.heap.size W (W.alloc (.cells #[I 0] 3)):=(Below.refl _ _).alloc (Nat.le_refl _) _
 have hst:=PT.stay s W _ hR hb1.size (fun j cs t fr hj _=>hb1.block j (Array.getElem?_eq_some_iff.1 hj).1)
 have hfn:Fit (Sp.run P [I 0] s (.num 1 most 0)):=fun h=>by
  simp only [Sp.run,List.getElem?_cons_zero] at h
  cases hp:P.num s 1 most 0 with
  | ok y=>rw [hp] at h;cases h
  | error f=>rw [hp] at h;cases h;exact hfit (by unfold listG;rw [hp])
 have HFIT:=Lib.hid hfit
 clear hfit
 have hnum:=Lib.hid (PT.num s (W.alloc (.cells #[I 0] 3)) W.heap.size 0 #[I 0] 3 (0,0) [I 0] 1 most 0 0 hst (Nat.le_trans hB hb1.size) (PT.new _ hB) (.inr (by decide)) (by simp) (by rw [wrt_same (by simp) (by intro j hj;match j,hj with | 0,_=>rfl)];exact heap_alloc_new W _) rfl hfn)
 clear hct hc hR hca hst hfn few
 have HLP:Hid (listG P most s=match P.num s 1 most 0 with
   | .error f=>.error f
   | .ok (y,s1)=>grpsN P y.toNat s1):=Lib.hid rfl
 generalize listG P most s=r0 at HLP HFIT ⊢
 go_enter Tryz.func48,Tryz.ntmps48
 go_upto_region 1 with fail
 generalize World.alloc W _=W1 at hb1 hnum ⊢
 generalize hnb:W.heap.size=nb at hb1 hnum ⊢
 have HB1:=Lib.hid hb1
 clear hb1
 go_wp2_with fail
 refine hnum.out.mono ?_
 intro e W2 he
 simp only [Sp.run,List.getElem?_cons_zero] at he
 cases hr:P.num s 1 most 0 with
 | error f =>
  rw [hr] at he HLP
  obtain ⟨rfl,h2⟩:=he
  refine ⟨rfl,?_⟩
  rw [HLP.out]
  exact ⟨rfl,(HB1.out.mono (by omega)).trans h2⟩
 | ok y =>
 obtain ⟨y,s1⟩:=y
 obtain ⟨n,rfl,hn2⟩:=FW.out _ _ hr
 rw [hr] at he HLP
 dsimp only at HLP
 rw [Int.toNat_natCast] at HLP
 have HFE:Hid (Fit (grpsN P n s1)):=Lib.hid (by have:=HFIT.out;rw [HLP.out] at this;exact this)
 clear HFIT FW
 obtain ⟨rfl,h2,h3,h4⟩:=he
 have hwn:wrt #[I 0] 0 ([I 0].set 0 (I (n:Int)))=#[I (n:Int)]:=wrt_full rfl
 rw [hwn] at h4
 clear hwn
 have hC2:=h3.keep ((HB1.out.block c (by rw [← hnb];exact hcl)).trans HC.out) (.inr HCT.out) (by omega)
 have kn:W2.cell? ⟨nb,0,none⟩=some (I (n:Int)):=by rw [cell_of_row _ _ _ _ _ _ h4];rfl
 have k1:W2.cell? ⟨c,oc,none⟩=some (.slice none 0 0):=by rw [cell_of_row _ _ _ _ _ _ hC2];exact HCA.out
 have HM:Hid (Mv B c W W2):=Lib.hid ⟨(HB1.out.mono (by omega)).trans h3.low,fun j cs t fr hj hjt hjb=>by
  have hjl:=(Array.getElem?_eq_some_iff.1 hj).1
  have h1:=(HB1.out.block j (by omega)).trans hj
  exact (h3.other j cs t fr h1 hjt (by omega)).trans (HB1.out.block j (by omega))⟩
 have HR2:=Lib.hid h2
 have HC2:=Lib.hid hC2
 have HNB:=Lib.hid h4
 have HBS:Hid (B≤W2.heap.size):=Lib.hid (Nat.le_trans (Nat.le_trans hB HB1.out.size) h3.low.size)
 clear h2 h3 h4 hC2 hnum hr HC HB1 HR
 go_upto_region 2 with fail
 have q1:∀ p:QB.By W2.heap.size W2,p.world.cell? ⟨nb,0,none⟩=some (I (n:Int)):=fun p=>(p.below.cell (World.block_lt_of_cell? W2 _ kn)).trans kn
 have q2:∀ p:QB.By W2.heap.size W2,p.world.cell? ⟨c,oc,none⟩=some (.slice none 0 0):=fun p=>(p.below.cell (World.block_lt_of_cell? W2 _ k1)).trans k1
 refine QB.region_below W2.heap.size (by kernel_rfl) (by kernel_rfl) ?_
 repeat (quiet_step (fail))
 refine wpQuiet_nil ?_
 intro _ hw'
 obtain ⟨p,rfl⟩:=hw'
 have k2:=q2 p
 have kn2:=q1 p
 have HRV:=Lib.hid (PT.stay s1 W2 p.world HR2.out p.below.size (fun j cs t fr hj _=>p.below.block j (Array.getElem?_eq_some_iff.1 hj).1))
 have HMV:=Lib.hid (HM.out.trans (Mv.of p.below HBS.out))
 have HCV:Hid (p.world.heap[c]?=some (.cells ccs ct (0,0))):=Lib.hid ((p.below.block c (Array.getElem?_eq_some_iff.1 HC2.out).1).trans HC2.out)
 have HBV:Hid (B≤p.world.heap.size):=Lib.hid (Nat.le_trans HBS.out p.below.size)
 have HNV:Hid (p.world.heap[nb]?=some (.cells #[I (n:Int)] 3 (0,0))):=Lib.hid ((p.below.block nb (Array.getElem?_eq_some_iff.1 HNB.out).1).trans HNB.out)
 clear q1 q2 kn k1 HM HR2 HC2 HBS HNB
 generalize p.world=V at k2 kn2 HRV HMV HCV HBV HNV ⊢
 rcases Nat.eq_zero_or_pos n with h0 | h0
 ·subst h0
  have hne:((((0:Nat):Int)) != 0)=false:=by decide
  go_wp2_with fail
  refine wp_loop_rounds 1 ?_
  rw [rounds_succ]
  go_wp2
  go_end0
  rw [HLP.out]
  exact ⟨rfl,HRV.out,HMV.out,none,[],rfl,by rw [List.length_nil,put_same HCA.out];exact HCV.out,fun h=>absurd rfl h,fun z hz=>by cases hz⟩
 have hne:((n:Int) != 0)=true:=by simp;omega
 go_wp2_with (at_make;refine Copy.wpList_make_zero rfl _ _ 27 68 rfl Tryz.underlying27 _ _ _ Clone.zG (by rfl) n (by first | rfl | go_simp) (by first | rfl | go_simp) hn2 (by decide) ?_)
 intro V2 hg2 hb2 hs2
 generalize hbb:V.heap.size=b at hg2 ⊢
 have hC3:=(hb2.block c (Array.getElem?_eq_some_iff.1 HCV.out).1).trans HCV.out
 have c1:V2.cell? ⟨c,oc,none⟩=some (.slice none 0 0):=by rw [cell_of_row _ _ _ _ _ _ hC3];exact HCA.out
 have f1:V2.frozen? ⟨c,oc,none⟩=false:=frozen_of_row _ _ _ _ _ hC3
 go_wp2_with fail
 rw [setCell_eq_setRow _ _ _ _ _ _ _ hC3]
 have hC4:=setRow_heap V2 c _ (ccs.setIfInBounds oc (.slice (some ⟨b,0,none⟩) n n)) ct (0,0) hC3
 have hbut:Rd.But c V2 (V2.setRow c (ccs.setIfInBounds oc (.slice (some ⟨b,0,none⟩) n n))):=by
  rw [← setCell_eq_setRow _ _ _ _ _ _ _ hC3]
  exact Rd.But.set c _ V2 _
 have hst:∀ k,k ≠ c→(V2.setRow c (ccs.setIfInBounds oc (.slice (some ⟨b,0,none⟩) n n))).heap[k]?=V2.heap[k]?:=fun k hk=>setRow_other _ _ _ _ hk
 generalize V2.setRow c _=V3 at hC4 hbut hst ⊢
 have hoc:oc < ccs.size:=(Array.getElem?_eq_some_iff.1 HCA.out).1
 have HCC:Hid ((ccs.setIfInBounds oc (.slice (some ⟨b,0,none⟩) n n))[oc]?=some (.slice (some ⟨b,0,none⟩) n n)):=Lib.hid (by rw [Array.getElem?_setIfInBounds,if_pos rfl,if_pos hoc])
 have hcV:=(Array.getElem?_eq_some_iff.1 HCV.out).1
 have HRW:Hid (R s1 V3):=Lib.hid (PT.stay s1 V V3 HRV.out (Nat.le_trans hb2.size hbut.size) (fun j cs t fr hj hp=>by
  have hjc:j ≠ c:=fun e=>by
   subst e
   have h1:=HCV.out
   rw [hj] at h1
   cases h1
   exact HCT.out hp
  exact (hst j hjc).trans (hb2.block j (Array.getElem?_eq_some_iff.1 hj).1)))
 have HMW:Hid (Mv B c W V3):=Lib.hid (HMV.out.trans ((Mv.of hb2 HBV.out).trans ⟨hbut.below (Nat.le_trans HBV.out hb2.size) hcB,fun j cs t fr hj hp hjc=>hst j hjc⟩))
 have HB0:Hid (V3.heap[b]?=some (.cells ((([]:List Zr).flatMap zc)++(List.replicate (n - 0) zz).flatten).toArray 68 (0,0))):=Lib.hid (by
  rw [hst b (by omega),hg2,Nat.sub_zero]
  first | rfl | simp [zz])
 have HCW0:=Lib.hid hC4
 have HNW:Hid (W.heap.size≤b):=Lib.hid (by rw [← hbb];exact HMV.out.low.size)
 have HBb:Hid (B≤b):=Lib.hid (by rw [← hbb];exact HBV.out)
 have hcb:c ≠ b:=by omega
 clear hC3 hC4 hbut hst c1 f1 hg2 hb2 hs2 k2 kn2 HRV HMV HCV HBV HNV hbb HCA hoc
 obtain ⟨cc2,hcc⟩:∃ cc2,cc2=ccs.setIfInBounds oc (.slice (some ⟨b,0,none⟩) n n):=⟨_,rfl⟩
 rw [← hcc] at HCC HCW0
 have HQ:=Lib.hid hcc
 clear hcc
 go_loopw [31] (fun i wr=>∃ (q:Nat) (zs:List Zr) (s':P.σ),q≤n∧i=.int .i64 (q:Int)∧zs.length=q∧grpsN P q s1=.ok (zs.map (·.2),s')∧R s' wr∧Mv B c W wr∧b < wr.heap.size∧wr.heap[c]?=some (.cells cc2 ct (0,0))∧wr.heap[b]?=some (.cells (zs.flatMap zc++(List.replicate (n - q) zz).flatten).toArray 68 (0,0))∧Rows (b+1) wr zs) (fun i _=>n - (intOf i).toNat)
 case atStart=>exact ⟨0,[],s1,by omega,rfl,rfl,rfl,HRW.out,HMW.out,(Array.getElem?_eq_some_iff.1 HB0.out).1,HCW0.out,HB0.out,fun z hz=>by cases hz⟩
 case round =>
  obtain ⟨q,zs,s',hq,rfl,hzl,hrun,hr,hmv,hbs,hcv,hbv,hrw⟩:=hrel
  have HE:=Lib.hid hrun
  have HS:=Lib.hid hr
  have HM:=Lib.hid hmv
  have HCW:=Lib.hid hcv
  have HBW:=Lib.hid hbv
  have HRO:=Lib.hid hrw
  clear hrun hr hmv hcv hbv hrw
  by_cases hlt:q < n
  ·have kc:wr.cell? ⟨c,oc,none⟩=some (.slice (some ⟨b,0,none⟩) n n):=by rw [cell_of_row _ _ _ _ _ _ HCW.out];exact HCC.out
   have HER:Hid (∀ f,grpN P s'=.error f→grpsN P n s1=.error f):=Lib.hid (fun f h=>grps_error hlt (by unfold grpsN;rw [HE.out];dsimp only;rw [h]))
   have hcall:=Lib.hid (grp_any PT few8 HS.out (Nat.le_trans hB HM.out.low.size) HBW.out (by decide) HBb.out (zs_at0 hzl hlt) (zs_at1 hzl hlt) (fun h=>HFE.out (HER.out _ h)))
   go_wp2_with fail
   refine hcall.out.mono ?_
   intro e W' he
   cases hrx:grpN P s' with
   | error f =>
    rw [hrx] at he
    obtain ⟨rfl,h2⟩:=he
    refine ⟨rfl,?_⟩
    rw [HLP.out]
    (try dsimp only)
    rw [HER.out f hrx]
    exact ⟨rfl,HM.out.low.trans h2⟩
   | ok y =>
    obtain ⟨y,s2⟩:=y
    rw [hrx] at he
    obtain ⟨rfl,h2,h3,a0,a1,h4,h5,h6⟩:=he
    rw [zs_set hzl hlt] at h4
    have H2:=Lib.hid h2
    have H3:=Lib.hid (HM.out.off h3 HNW.out)
    have H4:=Lib.hid h4
    have HC4:=Lib.hid (h3.keep HCW.out (.inr HCT.out) hcb)
    have HEN:Hid (grpsN P (q+1) s1=.ok ((zs++[((a0,a1),y)]).map (·.2),s2)):=Lib.hid (by unfold grpsN;rw [HE.out];dsimp only;rw [hrx,List.map_append];rfl)
    have HR4:Hid (Rows (b+1) W' (zs++[((a0,a1),y)])):=Lib.hid (fun z hz=>by
     rcases List.mem_append.1 hz with hz | hz
     ·exact ⟨(HRO.out z hz).1.keep h3 (by omega) (by decide),(HRO.out z hz).2.keep h3 (by omega) (by decide)⟩
     ·obtain rfl:=List.mem_singleton.1 hz
      exact ⟨h5.weak hbs,h6.weak hbs⟩)
    have hbs':b < W'.heap.size:=Nat.lt_of_lt_of_le hbs h3.low.size
    clear h2 h3 h4 h5 h6 kc hrx
    go_wp2
    go_roundw
    case rel=>exact ⟨q+1,zs++[((a0,a1),y)],s2,by omega,by go_num,by rw [List.length_append,hzl];rfl,HEN.out,H2.out,H3.out,hbs',HC4.out,H4.out,HR4.out⟩
    case measure=>simp [intOf];omega
  ·obtain rfl:n=q:=by omega
   have HZL:=Lib.hid hzl
   clear hzl
   go_wp2
   go_end0
   rw [HLP.out]
   (try dsimp only)
   rw [HE.out]
   refine ⟨rfl,HS.out,HM.out,some ⟨b,0,none⟩,zs,rfl,by rw [List.length_map,HZL.out,← HQ.out];exact HCW.out,fun _=>⟨b,HNW.out,rfl,?_⟩,fun z hz=>⟨(HRO.out z hz).1.weak (by have:=HNW.out;omega),(HRO.out z hz).2.weak (by have:=HNW.out;omega)⟩⟩
   have:=HBW.out
   rwa [Nat.sub_self,List.replicate_zero,List.flatten_nil,List.append_nil] at this
end
end Po
namespace Po
open Go Go.RowKit Go.ChangeShapes
open Tab
def andThen {α β:Type} (r:Except Flt α) (k:α→Except Flt β):Except Flt β:=match r with
 | .error f=>.error f
 | .ok x=>k x
theorem andThen_ok {α β:Type} (x:α) (k:α→Except Flt β):andThen (.ok x) k=k x:=rfl
theorem andThen_error {α β:Type} (f:Flt) (k:α→Except Flt β):andThen (.error f) k=.error f:=rfl
structure Raw where
 ph:List (List Value)
 gs:List (List (List Value) × List (List Value))
 cf:List Value
 ds:List (List Value)
 rs:List (List Value)
 bs:List (List Value)
 tm:List Value
 fl:List Value
 tk:List Value
def zPh:List Value:=[.bool false,I 0,I 0,I 0,I 0,I 0,I 0,I 0,I 0,I 0,I 0,.bool false,.bool false]
def zDt:List Value:=[I 0,.float .f64 0,.float .f64 0,.float .f64 0,.float .f64 0,I 0,I 0]
def zRl:List Value:=[I 0,I 0,I 0,I 0,I 0,I 0,I 0,I 0,I 0,I 0,I 0]
def zBs:List Value:=[I 0,I 0]
abbrev stPh:List Sp:=(([]:List Sp)++([.flg 0])++(([1,2,3,4,5,6,7,8,9]:List Nat).map (.num 2 9999))++([.num 1 3 10])++([.flg 11])++([.flg 12]))
abbrev stD:List Sp:=(([]:List Sp)++([.num 1 7 0])++([.flt true 1])++([.flt true 2])++([.flt false 3])++([.flt false 4])++(([5,6]:List Nat).map (.num 2 9999)))
abbrev stR:List Sp:=(([]:List Sp)++(([0,1,2,3]:List Nat).map (.num 1 255))++(([4,5,6,7,8,9]:List Nat).map (.num 2 9999))++(([10]:List Nat).map (.num 4 2147483647)))
abbrev stB:List Sp:=(([]:List Sp)++(([0]:List Nat).map (.num 1 255))++(([1]:List Nat).map (.num 2 9999)))
abbrev st8 (most:Int) (q:Nat):List Sp:=(List.range q).map (Sp.num 1 most)
def parts (P:PP) (s:P.σ):Except Flt (Raw × P.σ) :=
 andThen (eachs P stPh (List.replicate 8 zPh) s) fun x1 =>
 andThen (listG P 4 x1.2) fun x2 =>
 andThen (runs P (st8 255 8) (List.replicate 8 (I 0)) x2.2) fun x3 =>
 andThen (listN P 16 stD [I 0,.float .f64 0,.float .f64 0,.float .f64 0,.float .f64 0,I 0,I 0] x3.2) fun x4 =>
 andThen (listN P 4 stR [I 0,I 0,I 0,I 0,I 0,I 0,I 0,I 0,I 0,I 0,I 0] x4.2) fun x5 =>
 andThen (listN P 4 stB [I 0,I 0] x5.2) fun x6 =>
 andThen (runs P ([0,1,2,3,4].map (Sp.num 2 9999)) (List.replicate 5 (I 0)) x6.2) fun x7 =>
 andThen (runs P (st8 2 8) (List.replicate 8 (I 0)) x7.2) fun x8 =>
 andThen (runs P ([0,1].map (Sp.num 4 2147483647)) (List.replicate 2 (I 0)) x8.2) fun x9 =>
 .ok (⟨x1.1,x2.1,x3.1,x4.1,x5.1,x6.1,x7.1,x8.1,x9.1⟩,x9.2)
def bx (PH:List Value) (g:Value) (cf:List Value) (d r b:Value) (tm fl tk:List Value):List Value:=PH++(g :: (cf++(d :: r :: b :: (tm++(fl++tk)))))
abbrev nl:Value:=.slice none 0 0
theorem wrt_seg {cs:List Value} {A l C l':List Value} {k:Nat} (e:cs=A++(l++C)) (hk:A.length=k) (h:l'.length=l.length):wrt cs.toArray k l'=(A++(l'++C)).toArray:=by
 subst e hk
 unfold wrt
 simp only
 rw [List.take_left' rfl,h,← List.drop_drop,List.drop_left' rfl,List.drop_left' rfl,List.append_assoc]
theorem wrt_own {cs:List Value} {A l C:List Value} {k:Nat} (e:cs=A++(l++C)) (hk:A.length=k):wrt cs.toArray k l=cs.toArray:=by
 rw [wrt_seg e hk rfl,← e]
theorem set_seg {cs:List Value} {A C:List Value} {k:Nat} {x:Value} (v:Value) (e:cs=A++(x :: C)) (hk:A.length=k):cs.toArray.setIfInBounds k v=(A++(v :: C)).toArray:=by
 subst e hk
 rw [List.setIfInBounds_toArray,List.set_append_right _ _ (Nat.le_refl _),Nat.sub_self]
 rfl
theorem at_seg {cs:List Value} {A C:List Value} {k:Nat} {x:Value} (e:cs=A++(x :: C)) (hk:A.length=k):cs.toArray[k]?=some x:=by
 subst e hk
 rw [List.getElem?_toArray,List.getElem?_append_right (Nat.le_refl _),Nat.sub_self]
 rfl
theorem len_seg {cs:List Value} {A l C:List Value} {k:Nat} (e:cs=A++(l++C)) (hk:A.length=k):k+l.length≤cs.toArray.size:=by
 subst e hk
 rw [List.size_toArray,List.length_append,List.length_append]
 omega
theorem runs_kinds {P:PP} {st:List Sp} {n:Nat} {s:P.σ} {l':List Value} {s':P.σ} (h:runs P st (List.replicate n (I 0)) s=.ok (l',s')):l'.length=n∧∀ j,j < n→∃ x,l'[j]?=some (I x):=by
 have h1:=runs_kind P st h
 have h2:=runs_len P st h
 rw [List.length_replicate] at h2
 refine ⟨h2,fun j hj=>?_⟩
 refine int_at h1 (j:=j) ?_
 rw [List.map_replicate,List.getElem?_replicate,if_pos hj]
 rfl
end Po
namespace Po
open Go Go.RowKit Go.ChangeShapes
open Tab
theorem ints_rep {n j:Nat} {js:List Nat} (hj:j ∈ js) (h:∀ j ∈ js,j < n):∃ x,(List.replicate n (I 0))[j]?=some (I x):=⟨0,by rw [List.getElem?_replicate,if_pos (h j hj)]⟩
theorem st8_split (m:Int) {q:Nat} (h:q < 8):st8 m 8=st8 m q++([.num 1 m q]++(st8 m 8).drop (q+1)):=by
 rw [List.singleton_append]
 have h1:(st8 m 8).drop q=.num 1 m q :: (st8 m 8).drop (q+1):=by
  rw [List.drop_eq_getElem_cons (by simpa using h)]
  simp
 rw [← h1]
 have h2:st8 m q=(st8 m 8).take q:=by
  unfold st8
  rw [← List.map_take,List.take_range,Nat.min_eq_left (by omega)]
 rw [h2,List.take_append_drop]
theorem st8_error {P:PP} {m:Int} {q:Nat} {l l':List Value} {s s':P.σ} {f:Flt} (h:q < 8) (h1:runs P (st8 m q) l s=.ok (l',s')) (h2:Sp.run P l' s' (.num 1 m q)=.error f):runs P (st8 m 8) l s=.error f:=by
 rw [st8_split m h,runs_append,h1]
 dsimp only
 rw [runs_append,runs_one,h2]
theorem st8_next {P:PP} {m:Int} {q:Nat} {l l' l2:List Value} {s s' s2:P.σ} (h1:runs P (st8 m q) l s=.ok (l',s')) (h2:Sp.run P l' s' (.num 1 m q)=.ok (l2,s2)):runs P (st8 m (q+1)) l s=.ok (l2,s2):=by
 unfold st8
 rw [List.range_succ,List.map_append,runs_append,h1]
 dsimp only
 rw [show [q].map (Sp.num 1 m)=[.num 1 m q] from rfl,runs_one,h2]
theorem rep_split {z:List Value} {q:Nat} (h:q < 8):List.replicate 8 z=List.replicate q z++([z]++List.replicate (8 - (q+1)) z):=by
 rw [List.singleton_append,← List.replicate_succ,List.replicate_append_replicate]
 congr 1
 omega
theorem rep_error {P:PP} {st:List Sp} {z:List Value} {q:Nat} {ys:List (List Value)} {s s':P.σ} {f:Flt} (h:q < 8) (h1:eachs P st (List.replicate q z) s=.ok (ys,s')) (h2:runs P st z s'=.error f):eachs P st (List.replicate 8 z) s=.error f:=by
 rw [rep_split h,eachs_append,h1]
 dsimp only
 rw [eachs_append,eachs_one,h2]
theorem rep_next {P:PP} {st:List Sp} {z x:List Value} {q:Nat} {ys:List (List Value)} {s s' s2:P.σ} (h1:eachs P st (List.replicate q z) s=.ok (ys,s')) (h2:runs P st z s'=.ok (x,s2)):eachs P st (List.replicate (q+1) z) s=.ok (ys++[x],s2):=by
 rw [show List.replicate (q+1) z=List.replicate q z++[z] from List.replicate_succ',eachs_append,h1]
 dsimp only
 rw [eachs_one,h2]
theorem rep_flat {z:List Value} {q:Nat} (h:q < 8):(List.replicate (8 - q) z).flatten=z++(List.replicate (8 - (q+1)) z).flatten:=by
 rw [show 8 - q=8 - (q+1)+1 by omega,List.replicate_succ,List.flatten_cons]
theorem rep_len {P:PP} {st:List Sp} {z:List Value} {q n:Nat} {ys:List (List Value)} {s s':P.σ} (hz:z.length=n) (h:eachs P st (List.replicate q z) s=.ok (ys,s')):ys.flatten.length=q*n:=by
 rw [List.length_flatten,eachs_len P st h,List.map_replicate,List.sum_replicate_nat,hz]
def EndsT (P:PP) (R:P.σ→World→Prop) (B tb:Nat) (r:Except Flt (Raw × P.σ)) (W:World) (e:Ending) (W':World):Prop:=match r with
 | .ok (x,s')=>e=.returned (.tuple #[])∧R s' W'∧Mv B tb W W'∧∃ ga da ra ba zs,W'.heap[tb]?=some (.cells (bx x.ph.flatten (.slice ga x.gs.length x.gs.length) x.cf (slc da x.ds) (slc ra x.rs) (slc ba x.bs) x.tm x.fl x.tk).toArray 33 (0,0))∧zs.map (·.2)=x.gs∧(x.gs ≠ []→∃ b,tb+1≤b∧ga=some ⟨b,0,none⟩∧W'.heap[b]?=some (.cells (zs.flatMap zc).toArray 68 (0,0)))∧Rows (tb+1) W' zs∧NewRow (tb+1) W' da x.ds 71∧NewRow (tb+1) W' ra x.rs 75∧NewRow (tb+1) W' ba x.bs 77
 | .error f=>e=.panicked [{ v:=fault f,recovered:=false }]∧Below B W W'
section
variable {P:PP} {R:P.σ→World→Prop} {B:Nat} {ok:Nat→Nat × Nat→Prop} {ti:TypeId} {v rv:Value} {FN FF FG:FuncId}
theorem newT_any (PT:Port P R B ok ti v rv FN FF FG) (FEW:Hid (∀ most s y s1,P.num s 1 most 0=.ok (y,s1)→∃ n:Nat,y=n∧n≤1000)) {s:P.σ} {W:World} (hR:R s W) (hB:B≤W.heap.size) {tb:Nat} (htb:W.heap[tb]?=some (.cells (bx (List.replicate 8 zPh).flatten nl (List.replicate 8 (I 0)) nl nl nl (List.replicate 5 (I 0)) (List.replicate 8 (I 0)) (List.replicate 2 (I 0))).toArray 33 (0,0))) (hB2:B≤tb) (hfit:Fit (parts P s)) :
  Calls Tryz.prog 20 #[.iface ti v,.pointer (some ⟨tb,0,none⟩)] W (EndsT P R B tb (parts P s) W):=by
 have hm:=PT.mn
 have na:=PT.nn
 have en:=PT.en
 have htl:=(Array.getElem?_eq_some_iff.1 htb).1
 have HBX:=Lib.hid htb
 have HS:=Lib.hid hR
 have HFIT:=Lib.hid hfit
 have HTB:=Lib.hid (PT.new tb hB2)
 obtain ⟨res,hres⟩:∃ r,r=parts P s:=⟨_,rfl⟩
 rw [← hres] at HFIT ⊢
 unfold parts at hres
 have HRES:=Lib.hid hres
 clear hres
 clear htb hR hfit
 go_enter Tryz.func20,Tryz.ntmps20
 go_wp2_with fail
 go_loopw [7] (fun i wr=>∃ (q:Nat) (ys:List (List Value)) (s':P.σ),q≤8∧i=.int .i64 (q:Int)∧eachs P stPh (List.replicate q zPh) s=.ok (ys,s')∧R s' wr∧Mv B tb W wr∧wr.heap[tb]?=some (.cells (ys.flatten++((List.replicate (8 - q) zPh).flatten++(nl :: ((List.replicate 8 (I 0))++(nl :: nl :: nl :: ((List.replicate 5 (I 0))++((List.replicate 8 (I 0))++(List.replicate 2 (I 0))))))))).toArray 33 (0,0))) (fun i _=>8 - (intOf i).toNat)
 case atStart=>exact ⟨0,[],s,by omega,rfl,rfl,HS.out,Mv.refl _ _ _,HBX.out⟩
 case round =>
  obtain ⟨q,ys,s',hq,rfl,hrun,hr,hmv,hbv⟩:=hrel
  have HE:=Lib.hid hrun
  have HM:=Lib.hid hmv
  have HBV:=Lib.hid hbv
  have HS1:=Lib.hid hr
  have hyl:=rep_len (z:=zPh) (n:=13) rfl hrun
  clear hrun hmv hbv hr HS HBX
  by_cases hlt:q < 8
  ·have e1:ys.flatten++((List.replicate (8 - q) zPh).flatten++(nl :: ((List.replicate 8 (I 0))++(nl :: nl :: nl :: ((List.replicate 5 (I 0))++((List.replicate 8 (I 0))++(List.replicate 2 (I 0))))))))=ys.flatten++(zPh++((List.replicate (8 - (q+1)) zPh).flatten++(nl :: ((List.replicate 8 (I 0))++(nl :: nl :: nl :: ((List.replicate 5 (I 0))++((List.replicate 8 (I 0))++(List.replicate 2 (I 0))))))))):=by rw [rep_flat hlt,List.append_assoc]
   have HE1:=Lib.hid e1
   have hfA:Fit (runs P stPh zPh s'):=fun h=>HFIT.out (by rw [HRES.out,rep_error hlt HE.out h];rfl)
   have hcall:=Lib.hid (phase_any PT (l:=zPh) (b:=tb) (o:=q*13) (cs:=(ys.flatten++((List.replicate (8 - q) zPh).flatten++(nl :: ((List.replicate 8 (I 0))++(nl :: nl :: nl :: ((List.replicate 5 (I 0))++((List.replicate 8 (I 0))++(List.replicate 2 (I 0))))))))).toArray) (t:=33) (fr:=(0,0)) rfl HS1.out (Nat.le_trans hB HM.out.low.size) HTB.out (.inr (by decide)) (len_seg e1 hyl) (by rw [wrt_own e1 hyl];exact HBV.out) hfA)
   clear hfA e1
   go_wp2_with fail
   refine hcall.out.mono ?_
   intro e W' he
   cases hr:runs P stPh zPh s' with
   | error f =>
    have he2:Ends P R B tb (q*13) _ 33 (0,0) (runs P stPh zPh s') wr e W':=he
    rw [hr] at he2
    obtain ⟨rfl,h2⟩:=he2
    refine ⟨rfl,?_⟩
    rw [HRES.out,rep_error hlt HE.out hr]
    exact ⟨rfl,HM.out.low.trans h2⟩
   | ok y =>
    obtain ⟨x,s2⟩:=y
    have he2:Ends P R B tb (q*13) _ 33 (0,0) (runs P stPh zPh s') wr e W':=he
    rw [hr] at he2
    obtain ⟨rfl,h2,h3,h4⟩:=he2
    rw [wrt_seg HE1.out hyl (runs_len P stPh hr)] at h4
    have H2:=Lib.hid h2
    have H3:=Lib.hid (HM.out.trans h3)
    have H4:=Lib.hid h4
    have HEN:=Lib.hid (rep_next HE.out hr)
    clear h2 h3 h4 he hr hcall
    go_wp2
    go_roundw
    case rel=>exact ⟨q+1,ys++[x],s2,by omega,by go_num,HEN.out,H2.out,H3.out,by rw [H4.out,List.flatten_append,List.flatten_singleton,List.append_assoc]⟩
    case measure=>simp [intOf];omega
  ·obtain rfl:q=8:=by omega
   have h9:=HRES.out
   rw [HE.out,andThen_ok] at h9
   dsimp only at h9
   have HRES:=Lib.hid h9
   clear h9
   have HBX:Hid (wr.heap[tb]?=some (.cells (bx ys.flatten nl (List.replicate 8 (I 0)) nl nl nl (List.replicate 5 (I 0)) (List.replicate 8 (I 0)) (List.replicate 2 (I 0))).toArray 33 (0,0))):=Lib.hid (by rw [HBV.out];rfl)
   obtain ⟨PH,hPH⟩:∃ PH,PH=ys.flatten:=⟨_,rfl⟩
   have hPL:PH.length=104:=by rw [hPH];exact hyl
   have HPH:=Lib.hid hPH
   rw [← hPH] at HBX
   have HS:=HS1
   have hCL:((List.replicate 8 (I 0)):List Value).length=8:=rfl
   clear HE HBV HS1 hyl hPH
   have hfA:Fit (listG P 4 s'):=fun h=>HFIT.out (by rw [HRES.out,h,andThen_error])
   have hcall:=Lib.hid (newG_any PT (FEW.out 8) (most:=4) HS.out (Nat.le_trans hB HM.out.low.size) (FEW.out 4 s') HBX.out (oc:=104) (by decide) hB2 (at_seg (A:=PH) rfl hPL) hfA)
   clear hfA
   go_wp2_with fail
   refine hcall.out.mono ?_
   intro e W1 he
   cases hr:listG P 4 s' with
   | error f =>
    rw [hr] at he HRES
    obtain ⟨rfl,h2⟩:=he
    refine ⟨rfl,?_⟩
    rw [HRES.out]
    exact ⟨rfl,HM.out.low.trans h2⟩
   | ok y =>
   obtain ⟨gs,s1⟩:=y
   rw [hr] at he
   have h9:=HRES.out
   rw [hr,andThen_ok] at h9
   dsimp only at h9
   have HRES:=Lib.hid h9
   clear h9
   obtain ⟨rfl,hR2,hM2,ga,zs,hzs,hb2,hg2,hr2⟩:=he
   rw [set_seg (cs:=bx PH nl (List.replicate 8 (I 0)) nl nl nl (List.replicate 5 (I 0)) (List.replicate 8 (I 0)) (List.replicate 2 (I 0))) (A:=PH) _ rfl hPL] at hb2
   have HBX:Hid (W1.heap[tb]?=some (.cells (bx PH (.slice ga gs.length gs.length) (List.replicate 8 (I 0)) nl nl nl (List.replicate 5 (I 0)) (List.replicate 8 (I 0)) (List.replicate 2 (I 0))).toArray 33 (0,0))):=Lib.hid hb2
   have HZS:=Lib.hid hzs
   have htw:tb+1≤wr.heap.size:=Nat.lt_of_lt_of_le htl HM.out.low.size
   obtain ⟨K1,HK,HKM,HKD1⟩:∃ K:World→Prop,Hid (K W1)∧Hid (∀ V U,Mv B tb V U→K V→K U)∧Hid (∀ V,K V→(gs ≠ []→∃ b,tb+1≤b∧ga=some ⟨b,0,none⟩∧V.heap[b]?=some (.cells (zs.flatMap zc).toArray 68 (0,0)))∧Rows (tb+1) V zs) :=
    ⟨fun V=>(gs ≠ []→∃ b,tb+1≤b∧ga=some ⟨b,0,none⟩∧V.heap[b]?=some (.cells (zs.flatMap zc).toArray 68 (0,0)))∧Rows (tb+1) V zs,
     Lib.hid ⟨fun h=>by obtain ⟨b,h1,h2,h3⟩:=hg2 h;exact ⟨b,by omega,h2,h3⟩,fun z hz=>⟨(hr2 z hz).1.weak htw,(hr2 z hz).2.weak htw⟩⟩,
     Lib.hid (fun V U hm h=>⟨fun hx=>by obtain ⟨b,h1,h2,h3⟩:=h.1 hx;exact ⟨b,h1,h2,hm.keep h3 (.inr (by decide)) (by omega)⟩,fun z hz=>⟨(h.2 z hz).1.keep hm (by omega) (by decide),(h.2 z hz).2.keep hm (by omega) (by decide)⟩⟩),Lib.hid (fun V h=>h)⟩
   have HM:=Lib.hid (HM.out.trans hM2)
   have HS:=Lib.hid hR2
   clear hR2 hM2 hb2 hg2 hr2 hzs hr hcall
   generalize hgv:(Value.slice ga gs.length gs.length)=gv at HBX
   have HGV:=Lib.hid hgv
   clear hgv
   go_wp2_with fail
   go_loopw [23] (fun i wr=>∃ (q:Nat) (cf:List Value) (s':P.σ),q≤8∧i=.int .i64 (q:Int)∧runs P (st8 255 q) (List.replicate 8 (I 0)) s1=.ok (cf,s')∧R s' wr∧Mv B tb W wr∧K1 wr∧wr.heap[tb]?=some (.cells (bx PH gv cf nl nl nl (List.replicate 5 (I 0)) (List.replicate 8 (I 0)) (List.replicate 2 (I 0))).toArray 33 (0,0))) (fun i _=>8 - (intOf i).toNat)
   case atStart=>exact ⟨0,(List.replicate 8 (I 0)),s1,by omega,rfl,rfl,HS.out,HM.out,HK.out,HBX.out⟩
   case round =>
    obtain ⟨q,cf,s',hq,rfl,hrun,hr,hmv,hk,hbv⟩:=hrel
    have HE:=Lib.hid hrun
    have HM:=Lib.hid hmv
    have HBV:=Lib.hid hbv
    have HS1:=Lib.hid hr
    have HK:=Lib.hid hk
    obtain ⟨hcl,hci⟩:=runs_kinds hrun
    clear hrun hmv hbv hr hk HS HBX
    by_cases hlt:q < 8
    ·obtain ⟨x,hx⟩:=hci q hlt
     have e1:bx PH gv cf nl nl nl (List.replicate 5 (I 0)) (List.replicate 8 (I 0)) (List.replicate 2 (I 0))=(PH++[gv])++(cf++(nl :: nl :: nl :: ((List.replicate 5 (I 0))++((List.replicate 8 (I 0))++(List.replicate 2 (I 0)))))):=by simp [bx]
     have hA1:(PH++[gv]).length=105:=by rw [List.length_append,hPL];rfl
     have HE1:=Lib.hid e1
     have hfA:Fit (Sp.run P cf s' (.num 1 255 q)):=fun h=>HFIT.out (by rw [HRES.out,st8_error hlt HE.out h,andThen_error])
     have hal:Below wr.heap.size wr (wr.alloc (.cells #[.pointer (some ⟨tb,105+q,none⟩)] 105)):=(Below.refl _ _).alloc (Nat.le_refl _) _
     have htw:=(Array.getElem?_eq_some_iff.1 HBV.out).1
     have hcall:=Lib.hid (sets_any PT (l:=cf) (b:=tb) (o:=105) (cs:=(bx PH gv cf nl nl nl (List.replicate 5 (I 0)) (List.replicate 8 (I 0)) (List.replicate 2 (I 0))).toArray) (t:=33) (fr:=(0,0)) (lb:=wr.heap.size) (fr2:=(0,0)) (cap:=1) (n:=1) [q] rfl (by decide) (PT.stay s' wr _ HS1.out hal.size (fun j cs t fr hj _=>hal.block j (Array.getElem?_eq_some_iff.1 hj).1)) (Nat.le_trans (Nat.le_trans hB HM.out.low.size) hal.size) HTB.out (.inr (by decide)) (len_seg e1 hA1) (by rw [wrt_own e1 hA1];exact (hal.block tb htw).trans HBV.out) (fun j hj=>by obtain rfl:=List.mem_singleton.1 hj;exact ⟨x,hx⟩) (heap_alloc_new wr _) (by omega) (Nat.le_refl _) (by rw [show [q].map (Sp.num 1 255)=[.num 1 255 q] from rfl,runs_one];exact hfA))
     have HAL:=Lib.hid hal
     clear hfA e1 hal hx hci
     go_wp2_with fail
     refine hcall.out.mono ?_
     intro e W' he
     rw [show [q].map (Sp.num 1 255)=[.num 1 255 q] from rfl,runs_one] at he
     cases hr:Sp.run P cf s' (.num 1 255 q) with
     | error f =>
      rw [hr] at he
      obtain ⟨rfl,h2⟩:=he
      refine ⟨rfl,?_⟩
      rw [HRES.out,st8_error hlt HE.out hr]
      exact ⟨rfl,HM.out.low.trans ((HAL.out.mono (Nat.le_trans hB HM.out.low.size)).trans h2)⟩
     | ok y =>
      obtain ⟨cf2,s2⟩:=y
      rw [hr] at he
      obtain ⟨rfl,h2,h3,h4⟩:=he
      rw [wrt_seg HE1.out hA1 (by have:=run_len P _ hr;exact this)] at h4
      have hmm:=(Mv.of (b:=tb) HAL.out (Nat.le_trans hB HM.out.low.size)).trans h3
      have H2:=Lib.hid h2
      have H3:=Lib.hid (HM.out.trans hmm)
      have H4:Hid (W'.heap[tb]?=some (.cells (bx PH gv cf2 nl nl nl (List.replicate 5 (I 0)) (List.replicate 8 (I 0)) (List.replicate 2 (I 0))).toArray 33 (0,0))):=Lib.hid (by rw [h4];simp [bx])
      have HK2:=Lib.hid (HKM.out _ _ hmm HK.out)
      have HEN:=Lib.hid (st8_next HE.out hr)
      clear h2 h3 h4 hr hcall hmm
      go_wp2
      go_roundw
      case rel=>exact ⟨q+1,cf2,s2,by omega,by go_num,HEN.out,H2.out,H3.out,HK2.out,H4.out⟩
      case measure=>simp [intOf];omega
    ·obtain rfl:q=8:=by omega
     have h9:=HRES.out
     rw [HE.out,andThen_ok] at h9
     dsimp only at h9
     have HRES:=Lib.hid h9
     have HBX:=HBV
     have HS:=HS1
     have hCL:=hcl
     clear h9 HE HBV HS1 hcl hci
     have e1:bx PH gv cf nl nl nl (List.replicate 5 (I 0)) (List.replicate 8 (I 0)) (List.replicate 2 (I 0))=(PH++(gv :: cf))++(nl :: (nl :: nl :: ((List.replicate 5 (I 0))++((List.replicate 8 (I 0))++(List.replicate 2 (I 0)))))):=by simp [bx]
     have hA1:((PH++(gv :: cf))).length=113:=by simp [hPL,hCL]
     have hfA:Fit (listN P 16 stD [I 0,.float .f64 0,.float .f64 0,.float .f64 0,.float .f64 0,I 0,I 0] s'):=fun h=>HFIT.out (by rw [HRES.out,h,andThen_error])
     have htw:tb+1≤wr.heap.size:=Nat.lt_of_lt_of_le htl HM.out.low.size
     have hcall:=Lib.hid (newD_any PT (st:=stD) (fun _ _=>rfl) (Lib.hid (fun W s l b o cs t fr hk hR hB hok ht hl hb hf=>detector_any PT hk hR hB hok ht hl hb hf)) rfl HS.out (Nat.le_trans hB HM.out.low.size) (FEW.out 16 s') HBX.out (oc:=113) (by decide) hB2 (at_seg e1 hA1) hfA)
     clear hfA
     go_wp2_with fail
     refine hcall.out.mono ?_
     intro e W2 he
     cases hr:listN P 16 stD [I 0,.float .f64 0,.float .f64 0,.float .f64 0,.float .f64 0,I 0,I 0] s' with
     | error f =>
      rw [hr] at he HRES
      obtain ⟨rfl,h2⟩:=he
      refine ⟨rfl,?_⟩
      rw [HRES.out]
      exact ⟨rfl,HM.out.low.trans h2⟩
     | ok y =>
     obtain ⟨ds,s2⟩:=y
     rw [hr] at he
     have h9:=HRES.out
     rw [hr,andThen_ok] at h9
     dsimp only at h9
     have HRES:=Lib.hid h9
     clear h9
     obtain ⟨rfl,hR2,hM2,ad,hb2,hn2⟩:=he
     rw [set_seg (cs:=bx PH gv cf nl nl nl (List.replicate 5 (I 0)) (List.replicate 8 (I 0)) (List.replicate 2 (I 0))) _ e1 hA1] at hb2
     obtain ⟨dv,hdv⟩:∃ x,x=slc ad ds:=⟨_,rfl⟩
     rw [show Value.slice ad ds.length ds.length=dv from hdv.symm] at hb2
     have HBX:Hid (W2.heap[tb]?=some (.cells (bx PH gv cf dv nl nl (List.replicate 5 (I 0)) (List.replicate 8 (I 0)) (List.replicate 2 (I 0))).toArray 33 (0,0))):=Lib.hid (by rw [hb2];simp [bx])
     have HdV:=Lib.hid hdv
     clear hdv
     obtain ⟨K2,HK,HKM,HKDd⟩:∃ K:World→Prop,Hid (K W2)∧Hid (∀ V U,Mv B tb V U→K V→K U)∧Hid (∀ V,K V→K1 V∧NewRow (tb+1) V ad ds 71) :=
      ⟨fun V=>K1 V∧NewRow (tb+1) V ad ds 71,Lib.hid ⟨HKM.out _ _ hM2 HK.out,(show NewRow wr.heap.size W2 ad ds 71 from hn2).weak htw⟩,Lib.hid (fun V U hm h=>⟨HKM.out _ _ hm h.1,h.2.keep hm (by omega) (by decide)⟩),Lib.hid (fun V h=>h)⟩
     have HM:=Lib.hid (HM.out.trans hM2)
     have HS:=Lib.hid hR2
     clear hR2 hM2 hb2 hn2 hr hcall e1 hA1 htw
     have e1:bx PH gv cf dv nl nl (List.replicate 5 (I 0)) (List.replicate 8 (I 0)) (List.replicate 2 (I 0))=(PH++(gv :: (cf++[dv])))++(nl :: (nl :: ((List.replicate 5 (I 0))++((List.replicate 8 (I 0))++(List.replicate 2 (I 0)))))):=by simp [bx]
     have hA1:((PH++(gv :: (cf++[dv])))).length=114:=by simp [hPL,hCL]
     have hfA:Fit (listN P 4 stR [I 0,I 0,I 0,I 0,I 0,I 0,I 0,I 0,I 0,I 0,I 0] s2):=fun h=>HFIT.out (by rw [HRES.out,h,andThen_error])
     have htw:tb+1≤W2.heap.size:=Nat.lt_of_lt_of_le htl HM.out.low.size
     have hcall:=Lib.hid (newR_any PT (st:=stR) (fun _ _=>rfl) (Lib.hid (fun W s l b o cs t fr hk hR hB hok ht hl hb hf=>rail_any PT hk hR hB hok ht hl hb hf)) rfl HS.out (Nat.le_trans hB HM.out.low.size) (FEW.out 4 s2) HBX.out (oc:=114) (by decide) hB2 (at_seg e1 hA1) hfA)
     clear hfA
     go_wp2_with fail
     refine hcall.out.mono ?_
     intro e W3 he
     cases hr:listN P 4 stR [I 0,I 0,I 0,I 0,I 0,I 0,I 0,I 0,I 0,I 0,I 0] s2 with
     | error f =>
      rw [hr] at he HRES
      obtain ⟨rfl,h2⟩:=he
      refine ⟨rfl,?_⟩
      rw [HRES.out]
      exact ⟨rfl,HM.out.low.trans h2⟩
     | ok y =>
     obtain ⟨rs,s3⟩:=y
     rw [hr] at he
     have h9:=HRES.out
     rw [hr,andThen_ok] at h9
     dsimp only at h9
     have HRES:=Lib.hid h9
     clear h9
     obtain ⟨rfl,hR2,hM2,ar,hb2,hn2⟩:=he
     rw [set_seg (cs:=bx PH gv cf dv nl nl (List.replicate 5 (I 0)) (List.replicate 8 (I 0)) (List.replicate 2 (I 0))) _ e1 hA1] at hb2
     obtain ⟨rlv,hrlv⟩:∃ x,x=slc ar rs:=⟨_,rfl⟩
     rw [show Value.slice ar rs.length rs.length=rlv from hrlv.symm] at hb2
     have HBX:Hid (W3.heap[tb]?=some (.cells (bx PH gv cf dv rlv nl (List.replicate 5 (I 0)) (List.replicate 8 (I 0)) (List.replicate 2 (I 0))).toArray 33 (0,0))):=Lib.hid (by rw [hb2];simp [bx])
     have HrV:=Lib.hid hrlv
     clear hrlv
     obtain ⟨K3,HK,HKM,HKDr⟩:∃ K:World→Prop,Hid (K W3)∧Hid (∀ V U,Mv B tb V U→K V→K U)∧Hid (∀ V,K V→K2 V∧NewRow (tb+1) V ar rs 75) :=
      ⟨fun V=>K2 V∧NewRow (tb+1) V ar rs 75,Lib.hid ⟨HKM.out _ _ hM2 HK.out,(show NewRow W2.heap.size W3 ar rs 75 from hn2).weak htw⟩,Lib.hid (fun V U hm h=>⟨HKM.out _ _ hm h.1,h.2.keep hm (by omega) (by decide)⟩),Lib.hid (fun V h=>h)⟩
     have HM:=Lib.hid (HM.out.trans hM2)
     have HS:=Lib.hid hR2
     clear hR2 hM2 hb2 hn2 hr hcall e1 hA1 htw
     have e1:bx PH gv cf dv rlv nl (List.replicate 5 (I 0)) (List.replicate 8 (I 0)) (List.replicate 2 (I 0))=(PH++(gv :: (cf++[dv,rlv])))++(nl :: ((List.replicate 5 (I 0))++((List.replicate 8 (I 0))++(List.replicate 2 (I 0))))):=by simp [bx]
     have hA1:((PH++(gv :: (cf++[dv,rlv])))).length=115:=by simp [hPL,hCL]
     have hfA:Fit (listN P 4 stB [I 0,I 0] s3):=fun h=>HFIT.out (by rw [HRES.out,h,andThen_error])
     have htw:tb+1≤W3.heap.size:=Nat.lt_of_lt_of_le htl HM.out.low.size
     have hcall:=Lib.hid (newS_any PT (st:=stB) (fun _ _=>rfl) (Lib.hid (fun W s l b o cs t fr hk hR hB hok ht hl hb hf=>bus_any PT hk hR hB hok ht hl hb hf)) rfl HS.out (Nat.le_trans hB HM.out.low.size) (FEW.out 4 s3) HBX.out (oc:=115) (by decide) hB2 (at_seg e1 hA1) hfA)
     clear hfA
     go_wp2_with fail
     refine hcall.out.mono ?_
     intro e W4 he
     cases hr:listN P 4 stB [I 0,I 0] s3 with
     | error f =>
      rw [hr] at he HRES
      obtain ⟨rfl,h2⟩:=he
      refine ⟨rfl,?_⟩
      rw [HRES.out]
      exact ⟨rfl,HM.out.low.trans h2⟩
     | ok y =>
     obtain ⟨bs,s4⟩:=y
     rw [hr] at he
     have h9:=HRES.out
     rw [hr,andThen_ok] at h9
     dsimp only at h9
     have HRES:=Lib.hid h9
     clear h9
     obtain ⟨rfl,hR2,hM2,ab,hb2,hn2⟩:=he
     rw [set_seg (cs:=bx PH gv cf dv rlv nl (List.replicate 5 (I 0)) (List.replicate 8 (I 0)) (List.replicate 2 (I 0))) _ e1 hA1] at hb2
     obtain ⟨bv,hbv⟩:∃ x,x=slc ab bs:=⟨_,rfl⟩
     rw [show Value.slice ab bs.length bs.length=bv from hbv.symm] at hb2
     have HBX:Hid (W4.heap[tb]?=some (.cells (bx PH gv cf dv rlv bv (List.replicate 5 (I 0)) (List.replicate 8 (I 0)) (List.replicate 2 (I 0))).toArray 33 (0,0))):=Lib.hid (by rw [hb2];simp [bx])
     have HbV:=Lib.hid hbv
     clear hbv
     obtain ⟨K4,HK,HKM,HKDb⟩:∃ K:World→Prop,Hid (K W4)∧Hid (∀ V U,Mv B tb V U→K V→K U)∧Hid (∀ V,K V→K3 V∧NewRow (tb+1) V ab bs 77) :=
      ⟨fun V=>K3 V∧NewRow (tb+1) V ab bs 77,Lib.hid ⟨HKM.out _ _ hM2 HK.out,(show NewRow W3.heap.size W4 ab bs 77 from hn2).weak htw⟩,Lib.hid (fun V U hm h=>⟨HKM.out _ _ hm h.1,h.2.keep hm (by omega) (by decide)⟩),Lib.hid (fun V h=>h)⟩
     have HM:=Lib.hid (HM.out.trans hM2)
     have HS:=Lib.hid hR2
     clear hR2 hM2 hb2 hn2 hr hcall e1 hA1 htw
     go_upto_region 14 with fail
     refine QT.region1 W4.heap.size 16 (by kernel_rfl) (by kernel_rfl) (by kernel_rfl) (by kernel_rfl) (v:=.iface ti v) (fun _ _ _ h=>h) (Or.inl ⟨by rfl,fun w'=>by go_simp;try rfl⟩) ?_
     dsimp only [Act.put]
     simp only [List.setIfInBounds_toArray,List.set_cons_zero,List.set_cons_succ,List.take_succ_cons,List.take_zero,List.drop_succ_cons,List.drop_zero]
     repeat (quiet_step (fail))
     refine wpQuiet_nil ?_
     intro _ hw'
     obtain ⟨p,rfl⟩:=hw'
     have hBW:=Nat.le_trans hB HM.out.low.size
     have htw:=(Array.getElem?_eq_some_iff.1 HBX.out).1
     have hBX2:=(p.below.block tb htw).trans HBX.out
     have hS2:=PT.stay s4 W4 p.world HS.out p.below.size (fun j cs t fr hj _=>p.below.block j (Array.getElem?_eq_some_iff.1 hj).1)
     have hmp:Mv B tb W4 p.world:=Mv.of p.below hBW
     have HK:=Lib.hid (HKM.out _ _ hmp HK.out)
     have HM:=Lib.hid (HM.out.trans hmp)
     have hBV:=Nat.le_trans hB HM.out.low.size
     clear hBW htw hmp
     generalize p.world=V5 at hBX2 hS2 HK HM hBV ⊢
     (try simp only [List.drop_succ_cons,List.drop_zero])
     have e1:bx PH gv cf dv rlv bv (List.replicate 5 (I 0)) (List.replicate 8 (I 0)) (List.replicate 2 (I 0))=(PH++(gv :: (cf++[dv,rlv,bv])))++((List.replicate 5 (I 0))++((List.replicate 8 (I 0))++(List.replicate 2 (I 0)))):=by simp [bx]
     have hA1:((PH++(gv :: (cf++[dv,rlv,bv])))).length=116:=by simp [hPL,hCL]
     have hfA:Fit (runs P ([0,1,2,3,4].map (Sp.num 2 9999)) (List.replicate 5 (I 0)) s4):=fun h=>HFIT.out (by rw [HRES.out,h,andThen_error])
     have hal:Below V5.heap.size V5 (V5.alloc (.cells #[.pointer (some ⟨tb,116,none⟩),.pointer (some ⟨tb,117,none⟩),.pointer (some ⟨tb,118,none⟩),.pointer (some ⟨tb,119,none⟩),.pointer (some ⟨tb,120,none⟩)] 105)):=(Below.refl _ _).alloc (Nat.le_refl _) _
     have htw:=(Array.getElem?_eq_some_iff.1 hBX2).1
     have hcall:Hid (Calls Tryz.prog 57 #[.iface ti v,.slice (some ⟨V5.heap.size,0,none⟩) 5 5] (V5.alloc (.cells #[.pointer (some ⟨tb,116,none⟩),.pointer (some ⟨tb,117,none⟩),.pointer (some ⟨tb,118,none⟩),.pointer (some ⟨tb,119,none⟩),.pointer (some ⟨tb,120,none⟩)] 105)) (Ends P R B tb 116 (bx PH gv cf dv rlv bv (List.replicate 5 (I 0)) (List.replicate 8 (I 0)) (List.replicate 2 (I 0))).toArray 33 (0,0) (runs P ([0,1,2,3,4].map (Sp.num 2 9999)) (List.replicate 5 (I 0)) s4) (V5.alloc (.cells #[.pointer (some ⟨tb,116,none⟩),.pointer (some ⟨tb,117,none⟩),.pointer (some ⟨tb,118,none⟩),.pointer (some ⟨tb,119,none⟩),.pointer (some ⟨tb,120,none⟩)] 105)))):=Lib.hid (times_any PT (l:=(List.replicate 5 (I 0))) (b:=tb) (o:=116) (cs:=(bx PH gv cf dv rlv bv (List.replicate 5 (I 0)) (List.replicate 8 (I 0)) (List.replicate 2 (I 0))).toArray) (t:=33) (fr:=(0,0)) (lb:=V5.heap.size) (fr2:=(0,0)) (cap:=5) (n:=5) [0,1,2,3,4] rfl (by decide) (PT.stay s4 V5 _ hS2 hal.size (fun j cs t fr hj _=>hal.block j (Array.getElem?_eq_some_iff.1 hj).1)) (Nat.le_trans hBV hal.size) HTB.out (.inr (by decide)) (len_seg e1 hA1) (by rw [wrt_own e1 hA1];exact (hal.block tb htw).trans hBX2) (fun j hj=>ints_rep hj (by decide)) (heap_alloc_new V5 _) (by omega) (Nat.le_refl _) hfA)
     have HMA:=Lib.hid ((Mv.of (b:=tb) hal hBV))
     have HBV:=Lib.hid hBV
     clear hfA hal hBX2 hS2 hBV htw HS HBX
     go_wp2_with fail
     refine hcall.out.mono ?_
     intro e W5 he
     cases hr:runs P ([0,1,2,3,4].map (Sp.num 2 9999)) (List.replicate 5 (I 0)) s4 with
     | error f =>
      rw [hr] at he HRES
      obtain ⟨rfl,h2⟩:=he
      refine ⟨rfl,?_⟩
      rw [HRES.out]
      exact ⟨rfl,HM.out.low.trans (HMA.out.low.trans h2)⟩
     | ok y =>
     obtain ⟨tm,s5⟩:=y
     rw [hr] at he
     have h9:=HRES.out
     rw [hr,andThen_ok] at h9
     dsimp only at h9
     have HRES:=Lib.hid h9
     clear h9
     obtain ⟨rfl,hR2,hM2,hb2⟩:=he
     rw [wrt_seg e1 hA1 (by rw [runs_len P _ hr])] at hb2
     have HBX:Hid (W5.heap[tb]?=some (.cells (bx PH gv cf dv rlv bv tm (List.replicate 8 (I 0)) (List.replicate 2 (I 0))).toArray 33 (0,0))):=Lib.hid (by rw [hb2];simp [bx])
     have hmm:=HMA.out.trans hM2
     have HK:=Lib.hid (HKM.out _ _ hmm HK.out)
     have HM:=Lib.hid (HM.out.trans hmm)
     have HS:=Lib.hid hR2
     have hXL:=(runs_kinds hr).1
     clear hR2 hM2 hb2 hr hcall e1 hA1 hmm HMA HBV
     have hTL:=hXL
     clear hXL
     go_wp2_with fail
     go_loopw [68] (fun i wr=>∃ (q:Nat) (fl:List Value) (s':P.σ),q≤8∧i=.int .i64 (q:Int)∧runs P (st8 2 q) (List.replicate 8 (I 0)) s5=.ok (fl,s')∧R s' wr∧Mv B tb W wr∧K4 wr∧wr.heap[tb]?=some (.cells (bx PH gv cf dv rlv bv tm fl (List.replicate 2 (I 0))).toArray 33 (0,0))) (fun i _=>8 - (intOf i).toNat)
     case atStart=>exact ⟨0,(List.replicate 8 (I 0)),s5,by omega,rfl,rfl,HS.out,HM.out,HK.out,HBX.out⟩
     case round =>
      obtain ⟨q,fl,s',hq,rfl,hrun,hr,hmv,hk,hbv⟩:=hrel
      have HE:=Lib.hid hrun
      have HM:=Lib.hid hmv
      have HBX:=Lib.hid hbv
      have HS:=Lib.hid hr
      have HK:=Lib.hid hk
      obtain ⟨hfl,hci⟩:=runs_kinds hrun
      clear hrun hmv hbv hr hk
      by_cases hlt:q < 8
      ·obtain ⟨x,hx⟩:=hci q hlt
       go_upto_region 18 with fail
       refine QB.region_tail 9 (by kernel_rfl) (by kernel_rfl) ?_
       have e1:bx PH gv cf dv rlv bv tm fl (List.replicate 2 (I 0))=(PH++(gv :: (cf++(dv :: rlv :: bv :: tm))))++(fl++(List.replicate 2 (I 0))):=by simp [bx]
       have hA1:(PH++(gv :: (cf++(dv :: rlv :: bv :: tm)))).length=121:=by simp [hPL,hCL,hTL]
       have HE1:=Lib.hid e1
       have hfA:Fit (Sp.run P fl s' (.num 1 2 q)):=fun h=>HFIT.out (by rw [HRES.out,st8_error hlt HE.out h,andThen_error])
       have hal:Below wr.heap.size wr wr.drew:=(Below.refl _ _).drew
       have htw:=(Array.getElem?_eq_some_iff.1 HBX.out).1
       have hbw:=Nat.le_trans hB HM.out.low.size
       have hcall:=Lib.hid (PT.num s' wr.drew tb 121 (bx PH gv cf dv rlv bv tm fl (List.replicate 2 (I 0))).toArray 33 (0,0) fl 1 2 q x (PT.stay s' wr _ HS.out hal.size (fun j cs t fr hj _=>hal.block j (Array.getElem?_eq_some_iff.1 hj).1)) (Nat.le_trans hbw hal.size) HTB.out (.inr (by decide)) (len_seg e1 hA1) (by rw [wrt_own e1 hA1];exact (hal.block tb htw).trans HBX.out) hx hfA)
       have HAL:=Lib.hid (Mv.of (b:=tb) hal hbw)
       clear hfA e1 hal hx hci htw hbw HBX HS
       generalize wr.drew=V at hcall HAL ⊢
       simp only [List.take_succ_cons,List.take_zero,List.drop_succ_cons,List.drop_zero]
       repeat still_step
       refine wpStill_nil ?_
       go_wp2_with fail
       refine hcall.out.mono ?_
       intro e W' he
       cases hr:Sp.run P fl s' (.num 1 2 q) with
       | error f =>
        rw [hr] at he
        obtain ⟨rfl,h2⟩:=he
        refine ⟨rfl,?_⟩
        rw [HRES.out,st8_error hlt HE.out hr]
        exact ⟨rfl,HM.out.low.trans (HAL.out.low.trans h2)⟩
       | ok y =>
        obtain ⟨fl2,s2⟩:=y
        rw [hr] at he
        obtain ⟨rfl,h2,h3,h4⟩:=he
        rw [wrt_seg HE1.out hA1 (by have:=run_len P _ hr;exact this)] at h4
        have hmm:=HAL.out.trans h3
        have H2:=Lib.hid h2
        have H3:=Lib.hid (HM.out.trans hmm)
        have H4:Hid (W'.heap[tb]?=some (.cells (bx PH gv cf dv rlv bv tm fl2 (List.replicate 2 (I 0))).toArray 33 (0,0))):=Lib.hid (by rw [h4];simp [bx])
        have HK2:=Lib.hid (HKM.out _ _ hmm HK.out)
        have HEN:=Lib.hid (st8_next HE.out hr)
        clear h2 h3 h4 hr hcall hmm
        go_wp2
        go_roundw
        case rel=>exact ⟨q+1,fl2,s2,by omega,by go_num,HEN.out,H2.out,H3.out,HK2.out,H4.out⟩
        case measure=>simp [intOf];omega
      ·obtain rfl:q=8:=by omega
       have h9:=HRES.out
       rw [HE.out,andThen_ok] at h9
       dsimp only at h9
       have HRES:=Lib.hid h9
       clear h9 HE hci
       go_upto_region 20 with fail
       refine QT.region1 wr.heap.size 7 (by kernel_rfl) (by kernel_rfl) (by kernel_rfl) (by kernel_rfl) (v:=.iface ti v) (fun _ _ _ h=>h) (Or.inl ⟨by rfl,fun w'=>by go_simp;try rfl⟩) ?_
       dsimp only [Act.put]
       simp only [List.setIfInBounds_toArray,List.set_cons_zero,List.set_cons_succ,List.take_succ_cons,List.take_zero,List.drop_succ_cons,List.drop_zero]
       repeat (quiet_step (fail))
       refine wpQuiet_nil ?_
       intro _ hw'
       obtain ⟨p,rfl⟩:=hw'
       have hBW:=Nat.le_trans hB HM.out.low.size
       have htw:=(Array.getElem?_eq_some_iff.1 HBX.out).1
       have hBX2:=(p.below.block tb htw).trans HBX.out
       have hS2:=PT.stay s' wr p.world HS.out p.below.size (fun j cs t fr hj _=>p.below.block j (Array.getElem?_eq_some_iff.1 hj).1)
       have hmp:Mv B tb wr p.world:=Mv.of p.below hBW
       have HK:=Lib.hid (HKM.out _ _ hmp HK.out)
       have HM:=Lib.hid (HM.out.trans hmp)
       have hBV:=Nat.le_trans hB HM.out.low.size
       clear hBW htw hmp
       generalize p.world=V9 at hBX2 hS2 HK HM hBV ⊢
       (try simp only [List.drop_succ_cons,List.drop_zero])
       have e1:bx PH gv cf dv rlv bv tm fl (List.replicate 2 (I 0))=(PH++(gv :: (cf++(dv :: rlv :: bv :: (tm++fl)))))++((List.replicate 2 (I 0))++([]:List Value)):=by simp [bx]
       have hA1:((PH++(gv :: (cf++(dv :: rlv :: bv :: (tm++fl)))))).length=129:=by simp [hPL,hCL,hTL,hfl]
       have hfA:Fit (runs P ([0,1].map (Sp.num 4 2147483647)) (List.replicate 2 (I 0)) s'):=fun h=>HFIT.out (by rw [HRES.out,h,andThen_error])
       have hal:Below V9.heap.size V9 (V9.alloc (.cells #[.pointer (some ⟨tb,129,none⟩),.pointer (some ⟨tb,130,none⟩)] 105)):=(Below.refl _ _).alloc (Nat.le_refl _) _
       have htw:=(Array.getElem?_eq_some_iff.1 hBX2).1
       have hcall:Hid (Calls Tryz.prog 58 #[.iface ti v,.slice (some ⟨V9.heap.size,0,none⟩) 2 2] (V9.alloc (.cells #[.pointer (some ⟨tb,129,none⟩),.pointer (some ⟨tb,130,none⟩)] 105)) (Ends P R B tb 129 (bx PH gv cf dv rlv bv tm fl (List.replicate 2 (I 0))).toArray 33 (0,0) (runs P ([0,1].map (Sp.num 4 2147483647)) (List.replicate 2 (I 0)) s') (V9.alloc (.cells #[.pointer (some ⟨tb,129,none⟩),.pointer (some ⟨tb,130,none⟩)] 105)))):=Lib.hid (ticks_any PT (l:=(List.replicate 2 (I 0))) (b:=tb) (o:=129) (cs:=(bx PH gv cf dv rlv bv tm fl (List.replicate 2 (I 0))).toArray) (t:=33) (fr:=(0,0)) (lb:=V9.heap.size) (fr2:=(0,0)) (cap:=2) (n:=2) [0,1] rfl (by decide) (PT.stay s' V9 _ hS2 hal.size (fun j cs t fr hj _=>hal.block j (Array.getElem?_eq_some_iff.1 hj).1)) (Nat.le_trans hBV hal.size) HTB.out (.inr (by decide)) (len_seg e1 hA1) (by rw [wrt_own e1 hA1];exact (hal.block tb htw).trans hBX2) (fun j hj=>ints_rep hj (by decide)) (heap_alloc_new V9 _) (by omega) (Nat.le_refl _) hfA)
       have HMA:=Lib.hid ((Mv.of (b:=tb) hal hBV))
       have HBV:=Lib.hid hBV
       clear hfA hal hBX2 hS2 hBV htw HS HBX
       go_wp2_with fail
       refine hcall.out.mono ?_
       intro e W9 he
       cases hr:runs P ([0,1].map (Sp.num 4 2147483647)) (List.replicate 2 (I 0)) s' with
       | error f =>
        rw [hr] at he HRES
        obtain ⟨rfl,h2⟩:=he
        refine ⟨rfl,?_⟩
        rw [HRES.out]
        exact ⟨rfl,HM.out.low.trans (HMA.out.low.trans h2)⟩
       | ok y =>
       obtain ⟨tk,s7⟩:=y
       rw [hr] at he
       have h9:=HRES.out
       rw [hr,andThen_ok] at h9
       dsimp only at h9
       have HRES:=Lib.hid h9
       clear h9
       obtain ⟨rfl,hR2,hM2,hb2⟩:=he
       rw [wrt_seg e1 hA1 (by rw [runs_len P _ hr])] at hb2
       have HBX:Hid (W9.heap[tb]?=some (.cells (bx PH gv cf dv rlv bv tm fl tk).toArray 33 (0,0))):=Lib.hid (by rw [hb2];simp [bx])
       have hmm:=HMA.out.trans hM2
       have HK:=Lib.hid (HKM.out _ _ hmm HK.out)
       have HM:=Lib.hid (HM.out.trans hmm)
       have HS:=Lib.hid hR2
       have hXL:=(runs_kinds hr).1
       clear hR2 hM2 hb2 hr hcall e1 hA1 hmm HMA HBV
       clear hXL
       go_wp2
       go_end0
       have k4:=HKDb.out _ HK.out
       have k3:=HKDr.out _ k4.1
       have k2:=HKDd.out _ k3.1
       have k1:=HKD1.out _ k2.1
       rw [HRES.out]
       exact ⟨rfl,HS.out,HM.out,ga,ad,ar,ab,zs,by rw [HBX.out,← HGV.out,HdV.out,HrV.out,HbV.out,HPH.out],HZS.out,k1.1,k1.2,k2.2,k3.2,k4.2⟩
end
end Po
namespace Rr
open Go Go.RowKit Go.ChangeShapes
open Tab
open Po
open Rd (Rd But)
open Put (lim)
open Go.Proofs.YtjdeemmaaiecnaaGreat.B (Own own_row own_below)
def may (lv:Bool) (x:Nat):Bool:=if lv=true then MayF.level x else MayF.span x
def RP (bs:List Nat):PP where
 σ:=Nat
 num s size most _:=if (Nm.num bs ⟨s,0,0⟩ (lim size 7) 0 most).2.code=0 then .ok ((Nm.num bs ⟨s,0,0⟩ (lim size 7) 0 most).1,(Nm.num bs ⟨s,0,0⟩ (lim size 7) 0 most).2.k) else .error ((Nm.num bs ⟨s,0,0⟩ (lim size 7) 0 most).2.code,(Nm.num bs ⟨s,0,0⟩ (lim size 7) 0 most).2.fat)
 flt s lv _:=if (Nm.flt bs ⟨s,0,0⟩).2.code=0 then (if may lv (Nm.flt bs ⟨s,0,0⟩).1=true then .ok ((Nm.flt bs ⟨s,0,0⟩).1,(Nm.flt bs ⟨s,0,0⟩).2.k) else .error (4,s)) else .error ((Nm.flt bs ⟨s,0,0⟩).2.code,(Nm.flt bs ⟨s,0,0⟩).2.fat)
 flg s _:=if (Nm.num bs ⟨s,0,0⟩ 1 0 1).2.code=0 then .ok (decide ((Nm.num bs ⟨s,0,0⟩ 1 0 1).1=1),(Nm.num bs ⟨s,0,0⟩ 1 0 1).2.k) else .error ((Nm.num bs ⟨s,0,0⟩ 1 0 1).2.code,(Nm.num bs ⟨s,0,0⟩ 1 0 1).2.fat)
structure RS (B g:Nat) (ad:Option Addr) (cap:Nat) (bs:List Nat) (s:Nat) (W:World):Prop where
 rd:Rd W g ad cap bs s 0 0
 le:s≤bs.length
 len:bs.length≤10000
 ge:B≤g
 shp:W.shape? g=some (95,4)
 own:Own B W (.slice ad bs.length cap) bs
 b8:∀ x ∈ bs,x < 256
section
variable {B g:Nat} {ad:Option Addr} {cap:Nat} {bs:List Nat} {s s':Nat} {W W':World}
theorem shape_cells {W:World} {g n:Nat} {t:TypeId} (h:W.shape? g=some (t,n)):∃ cs fr,W.heap[g]?=some (.cells cs t fr)∧cs.size=n:=by
 unfold World.shape? at h
 split at h
 ·rename_i c e fr hc
  cases h
  exact ⟨c,fr,hc,rfl⟩
 ·cases h
theorem own_stay {v:Value} {l:List Nat} (h:Own B W v l) (hk:∀ (j:Nat) (cs:Array Value),W.heap[j]?=some (.cells cs 5 (0,0))→W'.heap[j]?=W.heap[j]?):Own B W' v l:=by
 refine ⟨h.1,?_⟩
 rcases h.2 with h0 | ⟨g,c,cur,h1,h2,h3,h4⟩
 ·exact .inl h0
 ·exact .inr ⟨g,c,cur,h1,h2,(hk g cur h3).trans h3,h4⟩
theorem RS.stay (h:RS B g ad cap bs s W) (hs:W.heap.size≤W'.heap.size) (hk:∀ (j:Nat) (cs:Array Value) (t:TypeId) (fr:Nat × Nat),W.heap[j]?=some (.cells cs t fr)→Pt t→W'.heap[j]?=W.heap[j]?):RS B g ad cap bs s W':=by
 obtain ⟨cs,fr,hg,hn⟩:=shape_cells h.shp
 have hg':=hk g cs _ fr hg (.inr (.inr rfl))
 have hown:=own_stay (W':=W') h.own (fun j cs hj=>hk j cs _ _ hj (.inl rfl))
 have hcell:∀ i,W'.cell? ⟨g,i,none⟩=W.cell? ⟨g,i,none⟩:=fun i=>World.cell?_of_block (w:=W) (a:=⟨g,i,none⟩) hg'
 obtain ⟨a,c,e,hr⟩:=own_row hown h.b8
 cases e
 exact ⟨⟨Nat.lt_of_lt_of_le h.rd.lt hs,hr,h.rd.off,(hcell 0).trans h.rd.c0,(hcell 1).trans h.rd.c1,(hcell 2).trans h.rd.c2,(hcell 3).trans h.rd.c3,fun i=>(World.frozen?_of_block (w:=W) (a:=⟨g,i,none⟩) hg').trans (h.rd.fz i),h.rd.cap_le⟩,
  h.le,h.len,h.ge,by unfold World.shape?;rw [hg',hg];simp [hn],hown,h.b8⟩
theorem RS.mem (h:RS B g ad cap bs s W) (hb:Below W.heap.size W W'):RS B g ad cap bs s W':=h.stay hb.size (fun j cs t fr hj _=>hb.block j (Array.getElem?_eq_some_iff.1 hj).1)
theorem RS.but (h:RS B g ad cap bs s W) (hr:Rd W' g ad cap bs s' 0 0) (hb:But g W W') (hle:s'≤bs.length):RS B g ad cap bs s' W':=by
 obtain ⟨cs,fr,hg,hn⟩:=shape_cells h.shp
 refine ⟨hr,hle,h.len,h.ge,(hb.shape g h.rd.lt).trans h.shp,own_stay h.own (fun j cs2 hj=>hb.block j (Array.getElem?_eq_some_iff.1 hj).1 (fun e=>by subst e;rw [hg] at hj;cases hj)),h.b8⟩
end
theorem want_ok (g:Nat) (ad:Option Addr) (cap:Nat) (l:List Nat) (k:Nat) (w:World) (h:Rd w g ad cap l k 0 0) :
  Calls Tryz.prog 113 #[rdr g] w fun e w'=>e=.returned (.tuple #[])∧Below w.heap.size w w':=by
 have hb:=(Below.refl w.heap.size w).alloc (Nat.le_refl _) (.cells #[.pointer (some ⟨g,0,none⟩)] 55)
 have hg:=heap_alloc_new w (.cells #[.pointer (some ⟨g,0,none⟩)] 55)
 have HR:=Lib.hid (h.below hb)
 have HB:=Lib.hid hb
 have HE:Hid (Same.Eqs 36 [I 0,I 0] [I 0,I 0] true):=Lib.hid (by have:=fault_eqs 0 0 0 0;simpa using this)
 clear h hb
 go_enter Tryz.func113,Tryz.ntmps113
 go_upto_region 1 with fail
 generalize World.alloc w _=v at HR HB hg ⊢
 have k0:v.cell? ⟨w.heap.size,0,none⟩=some (.pointer (some ⟨g,0,none⟩)):=by rw [cell_of_row _ _ _ _ _ _ hg];rfl
 go_wp2_with fail
 refine (Rd.fault_any g ad cap l k 0 0 v HR.out).mono ?_
 rintro e v1 ⟨rfl,hb1⟩
 go_upto_region 2 with fail
 have hb2:=hb1.alloc hb1.size (.cells #[I 0,I 0] 36)
 have hg2:=heap_alloc_new v1 (.cells #[I 0,I 0] 36)
 generalize World.alloc v1 _=v2 at hb2 hg2 ⊢
 generalize v1.heap.size=nb at hg2 ⊢
 have HB2:Hid (Below w.heap.size w v2):=Lib.hid (HB.out.trans (hb2.mono HB.out.size))
 have HG:=Lib.hid hg2
 clear hb1 hb2 hg2 k0 hg
 have LF:Hid (Lies v2 ⟨nb,0,none⟩ [I 0,I 0]):=Lib.hid (by have:=Row.lies_of_block HG.out;simpa using this)
 go_wp2_with (first | (refine Row.wpList_load_g 36 _ rfl (by first | rfl | go_simp) ⟨nb,0,none⟩ rfl [I 0,I 0] _ LF.out Tryz.underlying36 rfl infoF ?_) | (refine Row.wpList_neq 36 _ _ _ rfl rfl #[I 0,I 0] #[I 0,I 0] rfl rfl guardF true HE.out ?_))
 go_end0
 exact ⟨rfl,HB2.out⟩
theorem rfin {B g b o:Nat} {ad:Option Addr} {cap:Nat} {bs:List Nat} {s s':Nat} {code fat:Int} {cs:Array Value} {t:TypeId} {l:List Value} {j:Nat} {x:Value} {W v v1:World} (hR:RS B g ad cap bs s v) (hv:Below W.heap.size W v) (hB:B≤W.heap.size) (ht:b < B∨¬ Pt t) (hl:o+l.length≤cs.size) (hb:W.heap[b]?=some (.cells (wrt cs o l) t (0,0)))
  (hj:j < l.length) (hrd:Rd v1 g ad cap bs s' code fat) (hbut:But g v v1) (hbB:B≤b) :
  b ≠ g∧v1.heap[b]?=some (.cells (wrt cs o l) t (0,0))∧v1.setCell ⟨b,o+j,none⟩ x=v1.setRow b (wrt cs o (l.set j x))∧(v1.setRow b (wrt cs o (l.set j x))).heap[b]?=some (.cells (wrt cs o (l.set j x)) t (0,0)) ∧
   (∀ (k:Nat) (c2:Array Value) (t2:TypeId) (f2:Nat × Nat),W.heap[k]?=some (.cells c2 t2 f2)→¬ Pt t2→k ≠ b→(v1.setRow b (wrt cs o (l.set j x))).heap[k]?=W.heap[k]?)∧Rd (v1.setRow b (wrt cs o (l.set j x))) g ad cap bs s' code fat∧But b v1 (v1.setRow b (wrt cs o (l.set j x)))∧(code=0→fat=0→s'≤bs.length→RS B g ad cap bs s' (v1.setRow b (wrt cs o (l.set j x)))):=by
 obtain ⟨gc,gf,hg,_⟩:=shape_cells hR.shp
 have hb1:=(hv.block b (Array.getElem?_eq_some_iff.1 hb).1).trans hb
 have hne:b ≠ g:=by
  intro e
  subst e
  rw [hg] at hb1
  cases hb1
  rcases ht with ht | ht
  ·exact absurd hR.ge (by omega)
  ·exact ht (.inr (.inr rfl))
 have hb2:=(hbut.block b (Array.getElem?_eq_some_iff.1 hb1).1 hne).trans hb1
 have hs:v1.setCell ⟨b,o+j,none⟩ x=v1.setRow b (wrt cs o (l.set j x)):=by
  rw [setCell_eq_setRow v1 b (o+j) _ t (0,0) x hb2,wrt_set hl hj]
 have hbb:But b v1 (v1.setRow b (wrt cs o (l.set j x))):=by rw [← hs];exact But.set b _ v1 x
 have hoff:bs ≠ []→∀ y,ad=some y→y.block ≠ b:=by
  intro hne2 y hy e
  subst hy
  rcases hR.own.2 with ⟨h0,h1⟩ | ⟨g2,c2,cur,h1,h2,h3,_⟩
  ·exact hne2 (List.eq_nil_of_length_eq_zero h1)
  ·cases h1
   simp only at e
   subst e
   rw [hb1] at h3
   cases h3
   rcases ht with ht | ht
   ·omega
   ·exact ht (.inl rfl)
 have hrd2:=hrd.but hbb (Ne.symm hne) hoff
 refine ⟨hne,hb2,hs,setRow_heap _ _ _ _ _ _ hb2,fun k c2 t2 f2 hk hp hkb=>?_,hrd2,hbb,fun e1 e2 hle=>?_⟩
 rotate_left
 ·subst e1 e2
  refine ⟨hrd2,hle,hR.len,hR.ge,(hbb.shape g (Nat.lt_of_lt_of_le hR.rd.lt hbut.size)).trans ((hbut.shape g hR.rd.lt).trans hR.shp),own_stay hR.own (fun k c2 hk=>?_),hR.b8⟩
  have hkb:k ≠ b:=fun e=>by
   subst e
   rw [hb1] at hk
   cases hk
   rcases ht with ht | ht
   ·omega
   ·exact ht (.inl rfl)
  have hkg:k ≠ g:=fun e=>by subst e;rw [hg] at hk;cases hk
  rw [setRow_other _ _ _ _ hkb]
  exact hbut.block k (Array.getElem?_eq_some_iff.1 hk).1 hkg
 rw [setRow_other _ _ _ _ hkb]
 have hkl:=(Array.getElem?_eq_some_iff.1 hk).1
 have h1:=(hv.block k hkl).trans hk
 have hkg:k ≠ g:=fun e=>by subst e;rw [hg] at h1;cases h1;exact hp (.inr (.inr rfl))
 exact (hbut.block k (Array.getElem?_eq_some_iff.1 h1).1 hkg).trans (hv.block k hkl)
theorem rnumber {B g:Nat} {ad:Option Addr} {cap:Nat} {bs:List Nat} (s:Nat) (W:World) (b o:Nat) (cs:Array Value) (t:TypeId) (fr:Nat × Nat) (l:List Value) (size most:Int) (j:Nat) (x:Int) (hR:RS B g ad cap bs s W) (hB:B≤W.heap.size) (hok:fr=(0,0)∧B≤b) (ht:b < B∨¬ Pt t) (hl:o+l.length≤cs.size) (hb:W.heap[b]?=some (.cells (wrt cs o l) t fr)) (hx:l[j]?=some (I x)) :
  Calls Tryz.prog 91 #[rdr g,.int .i64 size,.int .i64 most,.pointer (some ⟨b,o+j,none⟩)] W (Po.Ends (RP bs) (RS B g ad cap bs) B b o cs t fr (Sp.run (RP bs) l s (.num size most j)) W):=by
 obtain ⟨rfl,hbB⟩:=hok
 have hj:j < l.length:=(List.getElem?_eq_some_iff.1 hx).1
 have hB0:=(Below.refl W.heap.size W).alloc (Nat.le_refl _) (.cells #[.pointer (some ⟨g,0,none⟩)] 55)
 have hg0:=heap_alloc_new W (.cells #[.pointer (some ⟨g,0,none⟩)] 55)
 have hR0:=hR.mem hB0
 have hnx:=fun v (hr:Rd v g ad cap bs s 0 0)=>Nm.num_any g ad cap bs ⟨s,0,0⟩ size 0 most v hr hR.len ⟨hR.le,fun _=>rfl⟩
 have hgd:=Nm.num_good bs ⟨s,0,0⟩ (lim size 7) 0 most ⟨hR.le,fun _=>rfl⟩
 have hrun:Sp.run (RP bs) l s (.num size most j)=if (Nm.num bs ⟨s,0,0⟩ (lim size 7) 0 most).2.code=0 then .ok (l.set j (I (Nm.num bs ⟨s,0,0⟩ (lim size 7) 0 most).1),(Nm.num bs ⟨s,0,0⟩ (lim size 7) 0 most).2.k) else .error ((Nm.num bs ⟨s,0,0⟩ (lim size 7) 0 most).2.code,(Nm.num bs ⟨s,0,0⟩ (lim size 7) 0 most).2.fat):=by
  simp only [Sp.run,hx,RP]
  by_cases hc:(Nm.num bs ⟨s,0,0⟩ (lim size 7) 0 most).2.code=0
  ·simp only [hc,if_true]
  ·simp only [hc,if_false]
 generalize Nm.num bs ⟨s,0,0⟩ (lim size 7) 0 most=nn at hnx hgd hrun
 obtain ⟨nv,k',code,fat⟩:=nn
 dsimp only at hrun hnx hgd
 have HRUN:=Lib.hid hrun
 have HNX:=Lib.hid hnx
 have HGD:=Lib.hid hgd
 have HRR:=Lib.hid hR0
 have HB0:=Lib.hid hB0
 have HBB:=Lib.hid hb
 have HT:=Lib.hid ht
 have HLN:=Lib.hid hl
 generalize Sp.run (RP bs) l s (.num size most j)=res at HRUN ⊢
 clear hrun hnx hgd hR0 hB0 hb ht hl hx
 go_enter Tryz.func91,Tryz.ntmps91
 go_upto_region 1 with fail
 generalize World.alloc W _=v at HRR HB0 hg0 ⊢
 generalize hrb:W.heap.size=rb at hg0 ⊢
 have k0:v.cell? ⟨rb,0,none⟩=some (.pointer (some ⟨g,0,none⟩)):=by rw [cell_of_row _ _ _ _ _ _ hg0];rfl
 go_wp2_with fail
 refine (HNX.out v HRR.out.rd).mono ?_
 rintro e v1 ⟨rfl,hrd,hbut⟩
 obtain ⟨h1,h2,h3,h4,h5,h6,h7,h8⟩:=rfin (x:=I nv) HRR.out HB0.out hB HT.out HLN.out HBB.out hj hrd hbut hbB
 have hbl:=(Array.getElem?_eq_some_iff.1 HBB.out).1
 have hrb1:=(hbut.block rb (Array.getElem?_eq_some_iff.1 hg0).1 (fun e=>by
  obtain ⟨gc,gf,hg,_⟩:=shape_cells HRR.out.shp
  rw [e,hg] at hg0;cases hg0)).trans hg0
 have c1:∃ y,v1.cell? ⟨b,o+j,none⟩=some y:=⟨_,by rw [cell_of_row _ _ _ _ _ _ h2,wrt_at HLN.out hj];exact List.getElem?_eq_getElem hj⟩
 obtain ⟨y,c1⟩:=c1
 have f1:v1.frozen? ⟨b,o+j,none⟩=false:=frozen_of_row _ _ _ _ _ h2
 have hrb2:=(h7.block rb (Array.getElem?_eq_some_iff.1 hrb1).1 (by omega)).trans hrb1
 have H3:=Lib.hid h3
 have HBU:=Lib.hid hbut
 clear k0 hg0 hrb1 hrd h2
 go_upto_region 2 with fail
 clear c1 f1
 (try rw [h3])
 generalize v1.setRow b (wrt cs o (l.set j (I nv)))=v2 at h4 h5 h6 h7 h8 hrb2 ⊢
 have LR:Hid (Lies v2 ⟨rb,0,none⟩ [.pointer (some ⟨g,0,none⟩)]):=Lib.hid (by have:=Row.lies_of_block hrb2;simpa using this)
 have HLOW:Hid (Below B W v2):=Lib.hid (((HB0.out.mono hB).trans (HBU.out.below (Nat.le_trans hB HB0.out.size) HRR.out.ge)).trans (h7.below (Nat.le_trans (Nat.le_trans hB HB0.out.size) HBU.out.size) hbB))
 have H4:=Lib.hid h4
 have H5:=Lib.hid h5
 have H6:=Lib.hid h6
 have H8:=Lib.hid h8
 clear h3 h4 h5 h6 h7 h8 hrb2
 by_cases hc:code=0
 ·subst hc
  obtain rfl:fat=0:=HGD.out.2 rfl
  have hw:=Lib.hid (want_ok g ad cap bs k' v2 H6.out)
  go_wp2_with (refine Row.wpList_load_g 55 _ rfl (by first | rfl | go_simp) ⟨rb,0,none⟩ rfl [.pointer (some ⟨g,0,none⟩)] _ LR.out Tryz.underlying55 rfl infoRd ?_)
  refine hw.out.mono ?_
  rintro e v3 ⟨rfl,hb3⟩
  have HB3:=Lib.hid hb3
  clear hb3
  go_wp2
  go_end0
  rw [HRUN.out]
  (first | rw [if_pos rfl] | simp only [if_true])
  have hR2:RS B g ad cap bs k' v2:=by first | exact H8.out rfl rfl HGD.out.1 | exact H8.out trivial trivial HGD.out.1 | exact H8.out trivial rfl HGD.out.1
  refine ⟨rfl,hR2.mem HB3.out,⟨HLOW.out.trans (HB3.out.mono (Nat.le_trans hB HLOW.out.size)),fun k c2 t2 f2 hk hp hkb=>?_⟩,(HB3.out.block b (Array.getElem?_eq_some_iff.1 H4.out).1).trans H4.out⟩
  have h8:=H5.out k c2 t2 f2 hk hp hkb
  exact (HB3.out.block k (Array.getElem?_eq_some_iff.1 (h8.trans hk)).1).trans h8
 ·have hw:=Lib.hid (want_bad g ad cap bs k' code fat v2 H6.out hc)
  go_wp2_with (refine Row.wpList_load_g 55 _ rfl (by first | rfl | go_simp) ⟨rb,0,none⟩ rfl [.pointer (some ⟨g,0,none⟩)] _ LR.out Tryz.underlying55 rfl infoRd ?_)
  refine hw.out.mono ?_
  rintro e v3 ⟨rfl,hb3⟩
  refine ⟨rfl,?_⟩
  rw [HRUN.out,if_neg hc]
  exact ⟨rfl,HLOW.out.trans (hb3.mono (Nat.le_trans hB HLOW.out.size))⟩
end Rr
namespace Rr
open Go Go.RowKit Go.ChangeShapes
open Tab
open Po
open Rd (Rd But)
open Put (lim)
open Go.Proofs.YtjdeemmaaiecnaaGreat.B (Own own_row own_below)
theorem rflag {B g:Nat} {ad:Option Addr} {cap:Nat} {bs:List Nat} (s:Nat) (W:World) (b o:Nat) (cs:Array Value) (t:TypeId) (fr:Nat × Nat) (l:List Value) (j:Nat) (x:Bool) (hR:RS B g ad cap bs s W) (hB:B≤W.heap.size) (hok:fr=(0,0)∧B≤b) (ht:b < B∨¬ Pt t) (hl:o+l.length≤cs.size) (hb:W.heap[b]?=some (.cells (wrt cs o l) t fr)) (hx:l[j]?=some (.bool x)) :
  Calls Tryz.prog 151 #[rdr g,.pointer (some ⟨b,o+j,none⟩)] W (Po.Ends (RP bs) (RS B g ad cap bs) B b o cs t fr (Sp.run (RP bs) l s (.flg j)) W):=by
 obtain ⟨rfl,hbB⟩:=hok
 have hj:j < l.length:=(List.getElem?_eq_some_iff.1 hx).1
 have hB0:=(Below.refl W.heap.size W).alloc (Nat.le_refl _) (.cells #[.pointer (some ⟨g,0,none⟩)] 55)
 have hg0:=heap_alloc_new W (.cells #[.pointer (some ⟨g,0,none⟩)] 55)
 have hR0:=hR.mem hB0
 have hnx:=fun v (hr:Rd v g ad cap bs s 0 0)=>Nm.bool_any g ad cap bs ⟨s,0,0⟩ v hr hR.len ⟨hR.le,fun _=>rfl⟩
 have hgd:=Nm.num_good bs ⟨s,0,0⟩ 1 0 1 ⟨hR.le,fun _=>rfl⟩
 have hrun:Sp.run (RP bs) l s (.flg j)=if (Nm.num bs ⟨s,0,0⟩ 1 0 1).2.code=0 then .ok (l.set j (.bool (decide ((Nm.num bs ⟨s,0,0⟩ 1 0 1).1=1))),(Nm.num bs ⟨s,0,0⟩ 1 0 1).2.k) else .error ((Nm.num bs ⟨s,0,0⟩ 1 0 1).2.code,(Nm.num bs ⟨s,0,0⟩ 1 0 1).2.fat):=by
  simp only [Sp.run,hx,RP]
  by_cases hc:(Nm.num bs ⟨s,0,0⟩ 1 0 1).2.code=0
  ·simp only [hc,if_true]
  ·simp only [hc,if_false]
 generalize Nm.num bs ⟨s,0,0⟩ 1 0 1=nn at hnx hgd hrun
 obtain ⟨nv,k',code,fat⟩:=nn
 dsimp only at hrun hnx hgd
 have HRUN:=Lib.hid hrun
 have HNX:=Lib.hid hnx
 have HGD:=Lib.hid hgd
 have HRR:=Lib.hid hR0
 have HB0:=Lib.hid hB0
 have HBB:=Lib.hid hb
 have HT:=Lib.hid ht
 have HLN:=Lib.hid hl
 generalize Sp.run (RP bs) l s (.flg j)=res at HRUN ⊢
 clear hrun hnx hgd hR0 hB0 hb ht hl hx
 go_enter Tryz.func151,Tryz.ntmps151
 go_upto_region 1 with fail
 generalize World.alloc W _=v at HRR HB0 hg0 ⊢
 generalize hrb:W.heap.size=rb at hg0 ⊢
 have k0:v.cell? ⟨rb,0,none⟩=some (.pointer (some ⟨g,0,none⟩)):=by rw [cell_of_row _ _ _ _ _ _ hg0];rfl
 go_wp2_with fail
 refine (HNX.out v HRR.out.rd).mono ?_
 rintro e v1 ⟨rfl,hrd,hbut⟩
 obtain ⟨h1,h2,h3,h4,h5,h6,h7,h8⟩:=rfin (x:=.bool (decide (nv=1))) HRR.out HB0.out hB HT.out HLN.out HBB.out hj hrd hbut hbB
 have hbl:=(Array.getElem?_eq_some_iff.1 HBB.out).1
 have hrb1:=(hbut.block rb (Array.getElem?_eq_some_iff.1 hg0).1 (fun e=>by
  obtain ⟨gc,gf,hg,_⟩:=shape_cells HRR.out.shp
  rw [e,hg] at hg0;cases hg0)).trans hg0
 have c1:∃ y,v1.cell? ⟨b,o+j,none⟩=some y:=⟨_,by rw [cell_of_row _ _ _ _ _ _ h2,wrt_at HLN.out hj];exact List.getElem?_eq_getElem hj⟩
 obtain ⟨y,c1⟩:=c1
 have f1:v1.frozen? ⟨b,o+j,none⟩=false:=frozen_of_row _ _ _ _ _ h2
 have hrb2:=(h7.block rb (Array.getElem?_eq_some_iff.1 hrb1).1 (by omega)).trans hrb1
 have H3:=Lib.hid h3
 have HBU:=Lib.hid hbut
 clear k0 hg0 hrb1 hrd h2
 go_upto_region 2 with fail
 clear c1 f1
 (try rw [h3])
 generalize v1.setRow b (wrt cs o (l.set j (.bool (decide (nv=1)))))=v2 at h4 h5 h6 h7 h8 hrb2 ⊢
 have LR:Hid (Lies v2 ⟨rb,0,none⟩ [.pointer (some ⟨g,0,none⟩)]):=Lib.hid (by have:=Row.lies_of_block hrb2;simpa using this)
 have HLOW:Hid (Below B W v2):=Lib.hid (((HB0.out.mono hB).trans (HBU.out.below (Nat.le_trans hB HB0.out.size) HRR.out.ge)).trans (h7.below (Nat.le_trans (Nat.le_trans hB HB0.out.size) HBU.out.size) hbB))
 have H4:=Lib.hid h4
 have H5:=Lib.hid h5
 have H6:=Lib.hid h6
 have H8:=Lib.hid h8
 clear h3 h4 h5 h6 h7 h8 hrb2
 by_cases hc:code=0
 ·subst hc
  obtain rfl:fat=0:=HGD.out.2 rfl
  have hw:=Lib.hid (want_ok g ad cap bs k' v2 H6.out)
  go_wp2_with (refine Row.wpList_load_g 55 _ rfl (by first | rfl | go_simp) ⟨rb,0,none⟩ rfl [.pointer (some ⟨g,0,none⟩)] _ LR.out Tryz.underlying55 rfl infoRd ?_)
  refine hw.out.mono ?_
  rintro e v3 ⟨rfl,hb3⟩
  have HB3:=Lib.hid hb3
  clear hb3
  go_wp2
  go_end0
  rw [HRUN.out]
  (first | rw [if_pos rfl] | simp only [if_true])
  have hR2:RS B g ad cap bs k' v2:=by first | exact H8.out rfl rfl HGD.out.1 | exact H8.out trivial trivial HGD.out.1 | exact H8.out trivial rfl HGD.out.1
  refine ⟨rfl,hR2.mem HB3.out,⟨HLOW.out.trans (HB3.out.mono (Nat.le_trans hB HLOW.out.size)),fun k c2 t2 f2 hk hp hkb=>?_⟩,(HB3.out.block b (Array.getElem?_eq_some_iff.1 H4.out).1).trans H4.out⟩
  have h8:=H5.out k c2 t2 f2 hk hp hkb
  exact (HB3.out.block k (Array.getElem?_eq_some_iff.1 (h8.trans hk)).1).trans h8
 ·have hw:=Lib.hid (want_bad g ad cap bs k' code fat v2 H6.out hc)
  go_wp2_with (refine Row.wpList_load_g 55 _ rfl (by first | rfl | go_simp) ⟨rb,0,none⟩ rfl [.pointer (some ⟨g,0,none⟩)] _ LR.out Tryz.underlying55 rfl infoRd ?_)
  refine hw.out.mono ?_
  rintro e v3 ⟨rfl,hb3⟩
  refine ⟨rfl,?_⟩
  rw [HRUN.out,if_neg hc]
  exact ⟨rfl,HLOW.out.trans (hb3.mono (Nat.le_trans hB HLOW.out.size))⟩
end Rr
namespace Ml
open Go Go.RowKit Go.ChangeShapes
open Tab Clone
open May (infoD)
def mT (d:Det):Tab:={ zTab with dets:=[d] }
def mH (g:Nat):Hd:=⟨⟨none,0⟩,⟨some ⟨g,0,none⟩,1⟩,⟨none,0⟩,⟨none,0⟩⟩
theorem builtM (d:Det) (g:Nat):Tryz.prog.built 33 [(3,.slice (some ⟨g,0,none⟩) 1 1)]=some ((mT d).cells (mH g)).toArray:=by kernel_rfl
theorem m_is (d:Det) {w:World} {g:Nat} (hg:w.heap[g]?=some (.cells d.cells.toArray 71 (0,0))):IsTab w (mH g) (mT d) :=
 ⟨rfl,rfl,rfl,⟨[],rfl,RowOf.nil w,fun g hg=>by simp at hg⟩,.inr ⟨_,rfl,Nat.le_refl _,by show 1≤maxLen;decide,fun i v hi=>by
  match i,hi with
  | 0,hi =>
   obtain rfl:d=v:=Option.some.inj hi
   rw [Nat.zero_mul,Tab.add_zero]
   have:=Row.lies_of_block hg
   simpa using this
  | i+1,hi=>simp [mT] at hi⟩,RowOf.nil w,RowOf.nil w⟩
theorem m_may (d:Det):May.tabMay (mT d)=May.Det.may d:=by
 have e1:May.listMay 8 May.Ph.may (mT d).phases=true:=show May.listMay 8 May.Ph.may zTab.phases=true by decide +kernel
 have e2:May.listMay 4 May.groupMay (mT d).groups=true:=show May.listMay 4 May.groupMay zTab.groups=true by decide +kernel
 have e3:May.allIn 255 (mT d).conflict=true:=show May.allIn 255 zTab.conflict=true by decide +kernel
 have e4:May.listMay 16 May.Det.may (mT d).dets=May.Det.may d:=by simp [May.listMay,mT]
 have e5:May.listMay 4 May.Rl.may (mT d).rails=true:=show May.listMay 4 May.Rl.may zTab.rails=true by decide +kernel
 have e6:May.listMay 4 May.Bs.may (mT d).buses=true:=show May.listMay 4 May.Bs.may zTab.buses=true by decide +kernel
 have e7:May.allIn 9999 [(mT d).extend,(mT d).budget,(mT d).start,(mT d).revert,(mT d).least]=true:=show May.allIn 9999 [zTab.extend,zTab.budget,zTab.start,zTab.revert,zTab.least]=true by decide +kernel
 have e8:May.allIn 2 (mT d).flash=true:=show May.allIn 2 zTab.flash=true by decide +kernel
 have e9:May.allIn 2147483647 [(mT d).window,(mT d).share]=true:=show May.allIn 2147483647 [zTab.window,zTab.share]=true by decide +kernel
 unfold May.tabMay
 rw [e1,e2,e3,e4,e5,e6,e7,e8,e9]
 simp
theorem mdet_any (d:Det) (W:World):Calls Tryz.prog 114 #[.agg d.cells.toArray] W fun e W'=>e=.returned (.bool (May.Det.may d))∧Below W.heap.size W W':=by
 obtain ⟨p0,p1,p2,p3,p4,p5,p6⟩:=d
 simp only [Det.cells]
 have hb:=(Below.refl W.heap.size W).alloc (Nat.le_refl _) (.cells #[I p0,F p1,F p2,F p3,F p4,I p5,I p6] 71)
 have hg:=heap_alloc_new W (.cells #[I p0,F p1,F p2,F p3,F p4,I p5,I p6] 71)
 have BM:=Lib.hid (builtM ⟨p0,p1,p2,p3,p4,p5,p6⟩)
 have MI:Hid (∀ (g:Nat) (V:World),V.heap[g]?=some (.cells #[I p0,F p1,F p2,F p3,F p4,I p5,I p6] 71 (0,0))→Calls Tryz.prog 42 #[.agg ((mT ⟨p0,p1,p2,p3,p4,p5,p6⟩).cells (mH g)).toArray] V fun e W'=>e=.returned (.bool (May.Det.may ⟨p0,p1,p2,p3,p4,p5,p6⟩))∧Below V.heap.size V W'):=Lib.hid (fun g V hg=>by rw [← m_may];exact May.may_any (mT ⟨p0,p1,p2,p3,p4,p5,p6⟩) (mH g) V (m_is ⟨p0,p1,p2,p3,p4,p5,p6⟩ hg))
 have ID:(Tryz.prog.info? 71).map (·.size)=some [I p0,F p1,F p2,F p3,F p4,I p5,I p6].length:=infoD
 go_enter Tryz.func114,Tryz.ntmps114
 go_upto_region 1 with fail
 generalize World.alloc W _=v at hb hg ⊢
 have HB:=Lib.hid hb
 have LD:Hid (Lies v ⟨W.heap.size,0,none⟩ [I p0,F p1,F p2,F p3,F p4,I p5,I p6]):=Lib.hid (by have:=Row.lies_of_block hg;simpa using this)
 clear hb hg
 go_wp2_with (first | (refine Row.wpList_load_g 71 _ rfl (by first | rfl | go_simp) ⟨W.heap.size,0,none⟩ rfl [I p0,F p1,F p2,F p3,F p4,I p5,I p6] _ LD.out Tryz.underlying71 rfl ID ?_) | (refine Held.wpList_build1 rfl 33 3 (.tmp 4) rfl (.slice (some ⟨v.heap.size,0,none⟩) 1 1) rfl _ (BM.out _) ?_))
 have hc:=Lib.hid (MI.out v.heap.size (v.alloc (.cells #[I p0,F p1,F p2,F p3,F p4,I p5,I p6] 71)) (heap_alloc_new v _))
 refine hc.out.mono ?_
 rintro e v2 ⟨rfl,hb⟩
 have HB2:=Lib.hid (HB.out.trans ((((Below.refl v.heap.size v).alloc (Nat.le_refl _) _).trans (hb.mono (by simp))).mono HB.out.size))
 clear hb
 go_wp2
 go_ret
 exact ⟨rfl,HB2.out⟩
theorem may_lv (x:Nat):May.Det.may ⟨0,x,4607182418800017408,0,0,0,0⟩=MayF.level x:=by
 have e1:May.allIn 7 [0]=true:=by decide
 have e2:MayF.level 4607182418800017408=true:=by decide +kernel
 have e3:MayF.span 0=true:=by decide +kernel
 have e4:May.allIn 9999 [0,0]=true:=by decide
 show (May.allIn 7 [0] && (MayF.level x && (MayF.level 4607182418800017408 && (MayF.span 0 && (MayF.span 0 && May.allIn 9999 [0,0])))))=_
 rw [e1,e2,e3,e4];simp
theorem may_sp (x:Nat):May.Det.may ⟨0,4607182418800017408,4607182418800017408,x,0,0,0⟩=MayF.span x:=by
 have e1:May.allIn 7 [0]=true:=by decide
 have e2:MayF.level 4607182418800017408=true:=by decide +kernel
 have e3:MayF.span 0=true:=by decide +kernel
 have e4:May.allIn 9999 [0,0]=true:=by decide
 show (May.allIn 7 [0] && (MayF.level 4607182418800017408 && (MayF.level 4607182418800017408 && (MayF.span x && (MayF.span 0 && May.allIn 9999 [0,0])))))=_
 rw [e1,e2,e3,e4];simp
theorem mlv_any (x:Nat) (W:World):Calls Tryz.prog 95 #[.float .f64 x] W fun e W'=>e=.returned (.bool (MayF.level x))∧Below W.heap.size W W':=by
 have HC:=Lib.hid (mdet_any ⟨0,x,4607182418800017408,0,0,0,0⟩ W)
 rw [may_lv] at HC
 go_enter Tryz.func95,Tryz.ntmps95
 go_wp2_with fail
 refine HC.out.mono ?_
 rintro e v2 ⟨rfl,hb⟩
 have HB:=Lib.hid hb
 clear hb
 go_wp2
 go_ret
 exact ⟨rfl,HB.out⟩
theorem msp_any (x:Nat) (W:World):Calls Tryz.prog 96 #[.float .f64 x] W fun e W'=>e=.returned (.bool (MayF.span x))∧Below W.heap.size W W':=by
 have HC:=Lib.hid (mdet_any ⟨0,4607182418800017408,4607182418800017408,x,0,0,0⟩ W)
 rw [may_sp] at HC
 go_enter Tryz.func96,Tryz.ntmps96
 go_wp2_with fail
 refine HC.out.mono ?_
 rintro e v2 ⟨rfl,hb⟩
 have HB:=Lib.hid hb
 clear hb
 go_wp2
 go_ret
 exact ⟨rfl,HB.out⟩
end Ml
namespace Rr
open Go Go.RowKit Go.ChangeShapes
open Tab
open Po
open Rd (Rd But)
open Put (lim)
open Go.Proofs.YtjdeemmaaiecnaaGreat.B (Own own_row own_below)
theorem run_store_float {P:Program} {w:World} {a:Addr} {u:Value} {k:FloatKind} {v:Nat} (h:w.cell? a=some u) (hf:w.frozen? a=false):Sem.run P (store a (.float k v)) w=.ok () (w.setCell a (.float k v)):=by
 rw [run_store P w a _ _ rfl]
 simp [stored,h,hf]
theorem rfloat0 {F:FuncId} (en':∀ (args:Array Value) (w:World),(callFunc F args).run Tryz.prog w=.ok (.enter F args) w) {B g:Nat} {ad:Option Addr} {cap:Nat} {bs:List Nat} (s:Nat) (W:World) (b o:Nat) (cs:Array Value) (t:TypeId) (fr:Nat × Nat) (l:List Value) (lv:Bool) (j x:Nat) (hR:RS B g ad cap bs s W) (hB:B≤W.heap.size) (hok:fr=(0,0)∧B≤b) (ht:b < B∨¬ Pt t) (hl:o+l.length≤cs.size) (hb:W.heap[b]?=some (.cells (wrt cs o l) t fr)) (hx:l[j]?=some (.float .f64 x)) (HMF:Hid (∀ y V,Calls Tryz.prog F #[.float .f64 y] V fun e V'=>e=.returned (.bool (may lv y))∧Below V.heap.size V V')) :
  Calls Tryz.prog 152 #[rdr g,.pointer (some ⟨b,o+j,none⟩),.func (.func F) #[] #[]] W (Po.Ends (RP bs) (RS B g ad cap bs) B b o cs t fr (Sp.run (RP bs) l s (.flt lv j)) W):=by
 obtain ⟨rfl,hbB⟩:=hok
 have hj:j < l.length:=(List.getElem?_eq_some_iff.1 hx).1
 have hB0:=(Below.refl W.heap.size W).alloc (Nat.le_refl _) (.cells #[.pointer (some ⟨g,0,none⟩)] 55)
 have hg0:=heap_alloc_new W (.cells #[.pointer (some ⟨g,0,none⟩)] 55)
 have hR0:=hR.mem hB0
 have hnx:=fun v (hr:Rd v g ad cap bs s 0 0)=>Nm.float_any g ad cap bs ⟨s,0,0⟩ v hr hR.len ⟨hR.le,fun _=>rfl⟩
 have hgd:=Nm.flt_good bs ⟨s,0,0⟩ ⟨hR.le,fun _=>rfl⟩
 have hrun:Sp.run (RP bs) l s (.flt lv j)=if (Nm.flt bs ⟨s,0,0⟩).2.code=0 then (if may lv (Nm.flt bs ⟨s,0,0⟩).1=true then .ok (l.set j (.float .f64 (Nm.flt bs ⟨s,0,0⟩).1),(Nm.flt bs ⟨s,0,0⟩).2.k) else .error (4,s)) else .error ((Nm.flt bs ⟨s,0,0⟩).2.code,(Nm.flt bs ⟨s,0,0⟩).2.fat):=by
  simp only [Sp.run,hx,RP]
  by_cases hc:(Nm.flt bs ⟨s,0,0⟩).2.code=0
  ·simp only [hc,if_true]
   by_cases hm:may lv (Nm.flt bs ⟨s,0,0⟩).1=true
   ·simp [hm]
   ·simp [hm]
  ·simp only [hc,if_false]
 generalize Nm.flt bs ⟨s,0,0⟩=nn at hnx hgd hrun
 obtain ⟨nv,k',code,fat⟩:=nn
 dsimp only at hrun hnx hgd
 have HRUN:=Lib.hid hrun
 have HNX:=Lib.hid hnx
 have HGD:=Lib.hid hgd
 have HRR:=Lib.hid hR0
 have HB0:=Lib.hid hB0
 have HBB:=Lib.hid hb
 have HT:=Lib.hid ht
 have HLN:=Lib.hid hl
 generalize Sp.run (RP bs) l s (.flt lv j)=res at HRUN ⊢
 clear hrun hnx hgd hR0 hB0 hb ht hl hx
 go_enter Tryz.func152,Tryz.ntmps152
 go_upto_region 1 with fail
 generalize World.alloc W _=v at HRR HB0 hg0 ⊢
 generalize hrb:W.heap.size=rb at hg0 ⊢
 have k0:v.cell? ⟨rb,0,none⟩=some (.pointer (some ⟨g,0,none⟩)):=by rw [cell_of_row _ _ _ _ _ _ hg0];rfl
 go_wp2_with fail
 refine (Rd.at_any g ad cap bs s 0 0 v HRR.out.rd).mono ?_
 rintro e vA ⟨rfl,rfl⟩
 go_wp2_with fail
 refine (HNX.out v HRR.out.rd).mono ?_
 rintro e v1 ⟨rfl,hrd,hbut⟩
 obtain ⟨h1,h2,h3,h4,h5,h6,h7,h8⟩:=rfin (x:=.float .f64 nv) HRR.out HB0.out hB HT.out HLN.out HBB.out hj hrd hbut hbB
 have hbl:=(Array.getElem?_eq_some_iff.1 HBB.out).1
 have hrb1:=(hbut.block rb (Array.getElem?_eq_some_iff.1 hg0).1 (fun e=>by
  obtain ⟨gc,gf,hg,_⟩:=shape_cells HRR.out.shp
  rw [e,hg] at hg0;cases hg0)).trans hg0
 have c1:∃ y,v1.cell? ⟨b,o+j,none⟩=some y:=⟨_,by rw [cell_of_row _ _ _ _ _ _ h2,wrt_at HLN.out hj];exact List.getElem?_eq_getElem hj⟩
 obtain ⟨y,c1⟩:=c1
 have f1:v1.frozen? ⟨b,o+j,none⟩=false:=frozen_of_row _ _ _ _ _ h2
 have hrb2:=(h7.block rb (Array.getElem?_eq_some_iff.1 hrb1).1 (by omega)).trans hrb1
 have H3:=Lib.hid h3
 have HBU:=Lib.hid hbut
 clear k0 hg0 hrb1 hrd h2
 have hsf:Sem.run Tryz.prog (store ⟨b,o+j,none⟩ (.float .f64 nv)) v1=.ok () (v1.setCell ⟨b,o+j,none⟩ (.float .f64 nv)):=run_store_float c1 f1
 go_upto_region 3 with fail
 clear c1 f1 hsf
 (try rw [h3])
 generalize v1.setRow b (wrt cs o (l.set j (.float .f64 nv)))=v2 at h4 h5 h6 h7 h8 hrb2 ⊢
 have LR:Hid (Lies v2 ⟨rb,0,none⟩ [.pointer (some ⟨g,0,none⟩)]):=Lib.hid (by have:=Row.lies_of_block hrb2;simpa using this)
 have HLOW:Hid (Below B W v2):=Lib.hid (((HB0.out.mono hB).trans (HBU.out.below (Nat.le_trans hB HB0.out.size) HRR.out.ge)).trans (h7.below (Nat.le_trans (Nat.le_trans hB HB0.out.size) HBU.out.size) hbB))
 have H4:=Lib.hid h4
 have H5:=Lib.hid h5
 have H6:=Lib.hid h6
 have H8:=Lib.hid h8
 clear h3 h4 h5 h6 h7 h8 hrb2
 by_cases hc:code=0
 ·subst hc
  obtain rfl:fat=0:=HGD.out.2 rfl
  have hw:=Lib.hid (want_ok g ad cap bs k' v2 H6.out)
  go_wp2_with (refine Row.wpList_load_g 55 _ rfl (by first | rfl | go_simp) ⟨rb,0,none⟩ rfl [.pointer (some ⟨g,0,none⟩)] _ LR.out Tryz.underlying55 rfl infoRd ?_)
  refine hw.out.mono ?_
  rintro e v3 ⟨rfl,hb3⟩
  have HB3:=Lib.hid hb3
  clear hb3
  have hR2:RS B g ad cap bs k' v2:=by first | exact H8.out rfl rfl HGD.out.1 | exact H8.out trivial trivial HGD.out.1 | exact H8.out trivial rfl HGD.out.1
  have h43:=(HB3.out.block b (Array.getElem?_eq_some_iff.1 H4.out).1).trans H4.out
  have cx:v3.cell? ⟨b,o+j,none⟩=some (.float .f64 nv):=by rw [cell_of_row _ _ _ _ _ _ h43,wrt_at (by rw [List.length_set];exact HLN.out) (by rw [List.length_set];exact hj)];simp [hj]
  have HMV:Hid (Mv B b W v3):=Lib.hid ⟨HLOW.out.trans (HB3.out.mono (Nat.le_trans hB HLOW.out.size)),fun k c2 t2 f2 hk hp hkb=>by
   have h8:=H5.out k c2 t2 f2 hk hp hkb
   exact (HB3.out.block k (Array.getElem?_eq_some_iff.1 (h8.trans hk)).1).trans h8⟩
  have HR3:=Lib.hid (hR2.mem HB3.out)
  have H43:=Lib.hid h43
  have HML:=Lib.hid (HMF.out nv v3)
  have HMAY:Hid (∀ m,may lv nv=m→res=if m=true then .ok (l.set j (.float .f64 nv),k') else .error (4,s)):=Lib.hid (fun m hm=>by rw [HRUN.out,← hm];first | rw [if_pos rfl] | simp only [if_true])
  clear hR2 h43
  go_wp2_with fail
  refine HML.out.mono ?_
  rintro e v4 ⟨rfl,hb4⟩
  cases hm:may lv nv with
  | true =>
   have hr:=HMAY.out true hm
   have HB4:=Lib.hid hb4
   clear hb4 hm
   go_wp2
   go_end0
   rw [hr]
   (first | rw [if_pos rfl] | simp only [if_true])
   refine ⟨rfl,HR3.out.mem HB4.out,⟨HMV.out.low.trans (HB4.out.mono (Nat.le_trans hB HMV.out.low.size)),fun k c2 t2 f2 hk hp hkb=>?_⟩,(HB4.out.block b (Array.getElem?_eq_some_iff.1 H43.out).1).trans H43.out⟩
   have h8:=HMV.out.other k c2 t2 f2 hk hp hkb
   exact (HB4.out.block k (Array.getElem?_eq_some_iff.1 (h8.trans hk)).1).trans h8
  | false =>
   have hr:=HMAY.out false hm
   have HB4:=Lib.hid hb4
   clear hb4 hm
   go_wp2_with fail
   refine (fail_any 4 s v4).mono ?_
   rintro e v5 ⟨rfl,rfl⟩
   refine ⟨rfl,?_⟩
   (try rw [hr])
   (try rw [if_neg (by simp)])
   exact ⟨rfl,HMV.out.low.trans (HB4.out.mono (Nat.le_trans hB HMV.out.low.size))⟩
 ·have hw:=Lib.hid (want_bad g ad cap bs k' code fat v2 H6.out hc)
  go_wp2_with (refine Row.wpList_load_g 55 _ rfl (by first | rfl | go_simp) ⟨rb,0,none⟩ rfl [.pointer (some ⟨g,0,none⟩)] _ LR.out Tryz.underlying55 rfl infoRd ?_)
  refine hw.out.mono ?_
  rintro e v3 ⟨rfl,hb3⟩
  refine ⟨rfl,?_⟩
  rw [HRUN.out,if_neg hc]
  exact ⟨rfl,HLOW.out.trans (hb3.mono (Nat.le_trans hB HLOW.out.size))⟩
theorem rfloat {B g:Nat} {ad:Option Addr} {cap:Nat} {bs:List Nat} (s:Nat) (W:World) (b o:Nat) (cs:Array Value) (t:TypeId) (fr:Nat × Nat) (l:List Value) (lv:Bool) (j x:Nat) (hR:RS B g ad cap bs s W) (hB:B≤W.heap.size) (hok:fr=(0,0)∧B≤b) (ht:b < B∨¬ Pt t) (hl:o+l.length≤cs.size) (hb:W.heap[b]?=some (.cells (wrt cs o l) t fr)) (hx:l[j]?=some (.float .f64 x)) :
  Calls Tryz.prog 152 #[rdr g,.pointer (some ⟨b,o+j,none⟩),.func (.func (if lv=true then 95 else 96)) #[] #[]] W (Po.Ends (RP bs) (RS B g ad cap bs) B b o cs t fr (Sp.run (RP bs) l s (.flt lv j)) W):=by
 cases lv
 ·rw [if_neg (by simp)]
  exact rfloat0 (fun _ _=>rfl) s W b o cs t fr l false j x hR hB hok ht hl hb hx (Lib.hid (fun y V=>Ml.msp_any y V))
 ·rw [if_pos rfl]
  exact rfloat0 (fun _ _=>rfl) s W b o cs t fr l true j x hR hB hok ht hl hb hx (Lib.hid (fun y V=>Ml.mlv_any y V))
end Rr
namespace Rr
open Go Go.RowKit
open Tab
open Po
theorem rport {B g:Nat} {ad:Option Addr} {cap:Nat} {bs:List Nat}:Port (RP bs) (RS B g ad cap bs) B (fun b fr=>fr=(0,0)∧B≤b) 55 (rdr g) (rdr g) 91 152 151 where
 mn:=fun n w=>rfl
 mf:=fun n w=>rfl
 mg:=fun n w=>rfl
 nn:=fun n w=>rfl
 nf:=fun n w=>rfl
 ng:=fun n w=>rfl
 en:=fun args w=>rfl
 ef:=fun args w=>rfl
 eg:=fun args w=>rfl
 stay:=fun s W W' h hs hk=>h.stay hs hk
 new:=fun b hb=>⟨rfl,hb⟩
 num:=fun s W b o cs t fr l size most j x hR hB hok ht hl hb hx _=>rnumber s W b o cs t fr l size most j x hR hB hok ht hl hb hx
 flt:=fun s W b o cs t fr l lv j x hR hB hok ht hl hb hx _=>rfloat s W b o cs t fr l lv j x hR hB hok ht hl hb hx
 flg:=fun s W b o cs t fr l j x hR hB hok ht hl hb hx _=>rflag s W b o cs t fr l j x hR hB hok ht hl hb hx
end Rr
namespace Po
open Go Go.RowKit
open Tab
structure Roomy (P:PP):Prop where
 num:∀ s size most x,Fit (P.num s size most x)
 flt:∀ s lv x,Fit (P.flt s lv x)
 flg:∀ s x,Fit (P.flg s x)
section
variable {P:PP}
theorem Roomy.run (h:Roomy P) (l:List Value) (s:P.σ) (c:Sp):Fit (c.run P l s):=by
 intro e
 cases c <;> simp only [Sp.run] at e <;> split at e <;> (try split at e) <;> (try cases e)
 ·rename_i hx;exact h.num _ _ _ _ hx
 ·rename_i hx;exact h.flt _ _ _ hx
 ·rename_i hx;exact h.flg _ _ hx
theorem Roomy.runs (h:Roomy P):∀ (cs:List Sp) (l:List Value) (s:P.σ),Fit (runs P cs l s)
 | [],l,s=>by intro e;cases e
 | c :: cs,l,s=>by
  intro e
  rw [Po.runs] at e
  cases hc:c.run P l s with
  | ok r=>rw [hc] at e;exact h.runs cs _ _ e
  | error f=>rw [hc] at e;cases e;exact h.run l s c hc
theorem Roomy.eachs (h:Roomy P) (st:List Sp):∀ (xs:List (List Value)) (s:P.σ),Fit (eachs P st xs s)
 | [],s=>by intro e;cases e
 | x :: xs,s=>by
  intro e
  rw [Po.eachs] at e
  cases hc:Po.runs P st x s with
  | error f=>rw [hc] at e;cases e;exact h.runs _ _ _ hc
  | ok r =>
   rw [hc] at e
   cases h2:Po.eachs P st xs r.2 with
   | error f=>simp only [h2] at e;cases e;exact h.eachs st _ _ h2
   | ok r2=>simp only [h2] at e;cases e
theorem Roomy.listN (h:Roomy P) (most:Int) (st:List Sp) (zr:List Value) (s:P.σ):Fit (listN P most st zr s):=by
 intro e
 unfold Po.listN at e
 split at e
 ·rename_i hx;cases e;exact h.num _ _ _ _ hx
 ·exact h.eachs _ _ _ e
theorem Roomy.grpN (h:Roomy P) (s:P.σ):Fit (grpN P s):=by
 intro e
 unfold Po.grpN at e
 split at e
 ·rename_i hx;cases e;exact h.listN _ _ _ _ hx
 ·split at e
  ·rename_i hx;cases e;exact h.listN _ _ _ _ hx
  ·cases e
theorem Roomy.grpsN (h:Roomy P):∀ (n:Nat) (s:P.σ),Fit (grpsN P n s)
 | 0,s=>by intro e;cases e
 | n+1,s=>by
  intro e
  rw [Po.grpsN] at e
  split at e
  ·rename_i hx;cases e;exact h.grpsN n s hx
  ·split at e
   ·rename_i hx;cases e;exact h.grpN _ hx
   ·cases e
theorem Roomy.listG (h:Roomy P) (most:Int) (s:P.σ):Fit (listG P most s):=by
 intro e
 unfold Po.listG at e
 split at e
 ·rename_i hx;cases e;exact h.num _ _ _ _ hx
 ·exact h.grpsN _ _ e
theorem fit_then {α β:Type} {r:Except Flt α} {k:α→Except Flt β} (h:Fit r) (hk:∀ x,Fit (k x)):Fit (andThen r k):=by
 intro e
 cases r with
 | error f=>rw [andThen_error] at e;cases e;exact h rfl
 | ok x=>exact hk x e
theorem Roomy.parts (h:Roomy P) (s:P.σ):Fit (parts P s):=by
 unfold Po.parts
 refine fit_then (h.eachs _ _ _) fun _=>fit_then (h.listG _ _) fun _=>fit_then (h.runs _ _ _) fun _=>fit_then (h.listN _ _ _ _) fun _=>fit_then (h.listN _ _ _ _) fun _=>fit_then (h.listN _ _ _ _) fun _=>fit_then (h.runs _ _ _) fun _=>fit_then (h.runs _ _ _) fun _=>fit_then (h.runs _ _ _) fun _=>?_
 intro e
 cases e
end
theorem num_code (bs:List Nat) (s size:Nat) (low high:Int):(Nm.num bs ⟨s,0,0⟩ size low high).2.code ≠ -1:=by
 unfold Nm.num
 (repeat' split) <;> simp
theorem flt_code (bs:List Nat) (s:Nat):(Nm.flt bs ⟨s,0,0⟩).2.code ≠ -1:=by
 unfold Nm.flt
 (repeat' split) <;> simp
theorem rroomy (bs:List Nat):Roomy (Rr.RP bs) where
 num:=fun s size most x e=>by
  simp only [Rr.RP] at e
  split at e
  ·cases e
  ·exact num_code bs s _ _ _ (congrArg Prod.fst (Except.error.inj e))
 flt:=fun s lv x e=>by
  simp only [Rr.RP] at e
  split at e
  ·split at e <;> cases e
  ·exact flt_code bs s (congrArg Prod.fst (Except.error.inj e))
 flg:=fun s x e=>by
  simp only [Rr.RP] at e
  split at e
  ·cases e
  ·exact num_code bs s _ _ _ (congrArg Prod.fst (Except.error.inj e))
theorem rfew {bs:List Nat} (hb:∀ x ∈ bs,x < 256):∀ most (s:Nat) y (s1:Nat),(Rr.RP bs).num s 1 most 0=.ok (y,s1)→∃ n:Nat,y=n∧n≤1000:=by
 intro most s y s1 h
 simp only [Rr.RP] at h
 split at h
 ·have h1:=congrArg Prod.fst (Except.ok.inj h)
  simp only at h1
  subst h1
  have hv:=Nx.val_lt bs s (Put.lim 1 7) hb
  have hl:Put.lim 1 7=1:=by decide
  rw [hl] at hv
  unfold Nm.num
  (repeat' split)
  ·exact ⟨0,rfl,by omega⟩
  ·exact ⟨0,rfl,by omega⟩
  ·exact ⟨0,rfl,by omega⟩
  ·refine ⟨_,rfl,?_⟩
   simp only [hl]
   omega
 ·cases h
end Po
namespace Po
open Go Go.RowKit Go.ChangeShapes
open Tab
def iv:Value→Int
 | .int _ x=>x
 | _=>0
def bv:Value→Bool
 | .bool x=>x
 | _=>false
def fv:Value→Nat
 | .float _ x=>x
 | _=>0
theorem kcons {l:List Value} {k:Nat} {ks:List Nat} (h:l.map kind=k :: ks):∃ v l',l=v :: l'∧kind v=k∧l'.map kind=ks:=by
 cases l with
 | nil=>cases h
 | cons v l' =>
  rw [List.map_cons] at h
  injection h with h1 h2
  exact ⟨v,l',rfl,h1,h2⟩
theorem knil {l:List Value} (h:l.map kind=[]):l=[]:=List.map_eq_nil_iff.1 h
theorem ints_iv:∀ {l:List Value} {n:Nat},l.map kind=List.replicate n 0→(l.map iv).map I=l
 | [],_,_=>rfl
 | v :: l,0,h=>by cases h
 | v :: l,n+1,h=>by
  rw [List.map_cons,List.replicate_succ] at h
  injection h with h1 h2
  obtain ⟨x,rfl⟩:=kind0 h1
  rw [List.map_cons,List.map_cons,ints_iv h2]
  rfl
def ofPh (l:List Value):Ph:=⟨bv (l.getD 0 (.bool false)),iv (l.getD 1 (.bool false)),iv (l.getD 2 (.bool false)),iv (l.getD 3 (.bool false)),iv (l.getD 4 (.bool false)),iv (l.getD 5 (.bool false)),iv (l.getD 6 (.bool false)),iv (l.getD 7 (.bool false)),iv (l.getD 8 (.bool false)),iv (l.getD 9 (.bool false)),iv (l.getD 10 (.bool false)),bv (l.getD 11 (.bool false)),bv (l.getD 12 (.bool false))⟩
theorem ofPh_cells {l:List Value} (h:l.map kind=zPh.map kind):(ofPh l).cells=l:=by
 rw [show zPh.map kind=[1,0,0,0,0,0,0,0,0,0,0,1,1] from rfl] at h
 obtain ⟨v0,l0,rfl,h0,g0⟩:=kcons h
 obtain ⟨x0,rfl⟩:=kind1 h0
 obtain ⟨v1,l1,rfl,h1,g1⟩:=kcons g0
 obtain ⟨x1,rfl⟩:=kind0 h1
 obtain ⟨v2,l2,rfl,h2,g2⟩:=kcons g1
 obtain ⟨x2,rfl⟩:=kind0 h2
 obtain ⟨v3,l3,rfl,h3,g3⟩:=kcons g2
 obtain ⟨x3,rfl⟩:=kind0 h3
 obtain ⟨v4,l4,rfl,h4,g4⟩:=kcons g3
 obtain ⟨x4,rfl⟩:=kind0 h4
 obtain ⟨v5,l5,rfl,h5,g5⟩:=kcons g4
 obtain ⟨x5,rfl⟩:=kind0 h5
 obtain ⟨v6,l6,rfl,h6,g6⟩:=kcons g5
 obtain ⟨x6,rfl⟩:=kind0 h6
 obtain ⟨v7,l7,rfl,h7,g7⟩:=kcons g6
 obtain ⟨x7,rfl⟩:=kind0 h7
 obtain ⟨v8,l8,rfl,h8,g8⟩:=kcons g7
 obtain ⟨x8,rfl⟩:=kind0 h8
 obtain ⟨v9,l9,rfl,h9,g9⟩:=kcons g8
 obtain ⟨x9,rfl⟩:=kind0 h9
 obtain ⟨v10,l10,rfl,h10,g10⟩:=kcons g9
 obtain ⟨x10,rfl⟩:=kind0 h10
 obtain ⟨v11,l11,rfl,h11,g11⟩:=kcons g10
 obtain ⟨x11,rfl⟩:=kind1 h11
 obtain ⟨v12,l12,rfl,h12,g12⟩:=kcons g11
 obtain ⟨x12,rfl⟩:=kind1 h12
 obtain rfl:=knil g12
 rfl
def ofDet (l:List Value):Det:=⟨iv (l.getD 0 (.bool false)),fv (l.getD 1 (.bool false)),fv (l.getD 2 (.bool false)),fv (l.getD 3 (.bool false)),fv (l.getD 4 (.bool false)),iv (l.getD 5 (.bool false)),iv (l.getD 6 (.bool false))⟩
theorem ofDet_cells {l:List Value} (h:l.map kind=zDt.map kind):(ofDet l).cells=l:=by
 rw [show zDt.map kind=[0,2,2,2,2,0,0] from rfl] at h
 obtain ⟨v0,l0,rfl,h0,g0⟩:=kcons h
 obtain ⟨x0,rfl⟩:=kind0 h0
 obtain ⟨v1,l1,rfl,h1,g1⟩:=kcons g0
 obtain ⟨x1,rfl⟩:=kind2 h1
 obtain ⟨v2,l2,rfl,h2,g2⟩:=kcons g1
 obtain ⟨x2,rfl⟩:=kind2 h2
 obtain ⟨v3,l3,rfl,h3,g3⟩:=kcons g2
 obtain ⟨x3,rfl⟩:=kind2 h3
 obtain ⟨v4,l4,rfl,h4,g4⟩:=kcons g3
 obtain ⟨x4,rfl⟩:=kind2 h4
 obtain ⟨v5,l5,rfl,h5,g5⟩:=kcons g4
 obtain ⟨x5,rfl⟩:=kind0 h5
 obtain ⟨v6,l6,rfl,h6,g6⟩:=kcons g5
 obtain ⟨x6,rfl⟩:=kind0 h6
 obtain rfl:=knil g6
 rfl
def ofRl (l:List Value):Rl:=⟨iv (l.getD 0 (.bool false)),iv (l.getD 1 (.bool false)),iv (l.getD 2 (.bool false)),iv (l.getD 3 (.bool false)),iv (l.getD 4 (.bool false)),iv (l.getD 5 (.bool false)),iv (l.getD 6 (.bool false)),iv (l.getD 7 (.bool false)),iv (l.getD 8 (.bool false)),iv (l.getD 9 (.bool false)),iv (l.getD 10 (.bool false))⟩
theorem ofRl_cells {l:List Value} (h:l.map kind=zRl.map kind):(ofRl l).cells=l:=by
 rw [show zRl.map kind=[0,0,0,0,0,0,0,0,0,0,0] from rfl] at h
 obtain ⟨v0,l0,rfl,h0,g0⟩:=kcons h
 obtain ⟨x0,rfl⟩:=kind0 h0
 obtain ⟨v1,l1,rfl,h1,g1⟩:=kcons g0
 obtain ⟨x1,rfl⟩:=kind0 h1
 obtain ⟨v2,l2,rfl,h2,g2⟩:=kcons g1
 obtain ⟨x2,rfl⟩:=kind0 h2
 obtain ⟨v3,l3,rfl,h3,g3⟩:=kcons g2
 obtain ⟨x3,rfl⟩:=kind0 h3
 obtain ⟨v4,l4,rfl,h4,g4⟩:=kcons g3
 obtain ⟨x4,rfl⟩:=kind0 h4
 obtain ⟨v5,l5,rfl,h5,g5⟩:=kcons g4
 obtain ⟨x5,rfl⟩:=kind0 h5
 obtain ⟨v6,l6,rfl,h6,g6⟩:=kcons g5
 obtain ⟨x6,rfl⟩:=kind0 h6
 obtain ⟨v7,l7,rfl,h7,g7⟩:=kcons g6
 obtain ⟨x7,rfl⟩:=kind0 h7
 obtain ⟨v8,l8,rfl,h8,g8⟩:=kcons g7
 obtain ⟨x8,rfl⟩:=kind0 h8
 obtain ⟨v9,l9,rfl,h9,g9⟩:=kcons g8
 obtain ⟨x9,rfl⟩:=kind0 h9
 obtain ⟨v10,l10,rfl,h10,g10⟩:=kcons g9
 obtain ⟨x10,rfl⟩:=kind0 h10
 obtain rfl:=knil g10
 rfl
def ofBs (l:List Value):Bs:=⟨iv (l.getD 0 (.bool false)),iv (l.getD 1 (.bool false))⟩
theorem ofBs_cells {l:List Value} (h:l.map kind=zBs.map kind):(ofBs l).cells=l:=by
 rw [show zBs.map kind=[0,0] from rfl] at h
 obtain ⟨v0,l0,rfl,h0,g0⟩:=kcons h
 obtain ⟨x0,rfl⟩:=kind0 h0
 obtain ⟨v1,l1,rfl,h1,g1⟩:=kcons g0
 obtain ⟨x1,rfl⟩:=kind0 h1
 obtain rfl:=knil g1
 rfl
theorem row_iv {r:List Value} (h:r.map kind=[0]):[I (iv (r.getD 0 (.bool false)))]=r:=by
 obtain ⟨v,l,rfl,h0,g0⟩:=kcons h
 obtain ⟨x,rfl⟩:=kind0 h0
 obtain rfl:=knil g0
 rfl
def ofRow (r:List (List Value)):List Int:=r.map fun c=>iv (c.getD 0 (.bool false))
theorem ofRow_cells {r:List (List Value)} (h:∀ c ∈ r,c.map kind=[0]):(ofRow r).map (fun n=>[I n])=r:=by
 unfold ofRow
 rw [List.map_map]
 conv=>rhs;rw [← List.map_id r]
 exact List.map_congr_left fun c hc=>row_iv (h c hc)
theorem map_of {β:Type} {f:List Value→β} {g:β→List Value} {l:List (List Value)} (h:∀ r ∈ l,g (f r)=r):(l.map f).map g=l:=by
 rw [List.map_map]
 conv=>rhs;rw [← List.map_id l]
 exact List.map_congr_left h
def tabOf (x:Raw):Tab :=
 ⟨x.ph.map ofPh,x.gs.map (fun g=>(ofRow g.1,ofRow g.2)),x.cf.map iv,x.ds.map ofDet,x.rs.map ofRl,x.bs.map ofBs,
  iv (x.tm.getD 0 (.bool false)),iv (x.tm.getD 1 (.bool false)),iv (x.tm.getD 2 (.bool false)),iv (x.tm.getD 3 (.bool false)),iv (x.tm.getD 4 (.bool false)),x.fl.map iv,iv (x.tk.getD 0 (.bool false)),iv (x.tk.getD 1 (.bool false))⟩
def rawOf (T:Tab):Raw:=⟨T.phases.map Ph.cells,T.groups.map (fun g=>(g.1.map (fun n=>[I n]),g.2.map (fun n=>[I n]))),T.conflict.map I,T.dets.map Det.cells,T.rails.map Rl.cells,T.buses.map Bs.cells,[I T.extend,I T.budget,I T.start,I T.revert,I T.least],T.flash.map I,[I T.window,I T.share]⟩
structure RawOk (x:Raw):Prop where
 pn:x.ph.length=8
 ph:∀ r ∈ x.ph,r.map kind=zPh.map kind
 gs:∀ g ∈ x.gs,(∀ r ∈ g.1,r.map kind=[0])∧∀ r ∈ g.2,r.map kind=[0]
 cf:x.cf.map kind=List.replicate 8 0
 ds:∀ r ∈ x.ds,r.map kind=zDt.map kind
 rs:∀ r ∈ x.rs,r.map kind=zRl.map kind
 bs:∀ r ∈ x.bs,r.map kind=zBs.map kind
 tm:x.tm.map kind=List.replicate 5 0
 fl:x.fl.map kind=List.replicate 8 0
 tk:x.tk.map kind=List.replicate 2 0
 gn:x.gs.length≤1000∧∀ g ∈ x.gs,g.1.length≤1000∧g.2.length≤1000
 ln:x.ds.length≤1000∧x.rs.length≤1000∧x.bs.length≤1000
theorem five {l:List Value} (h:l.map kind=List.replicate 5 0):l=[I (iv (l.getD 0 (.bool false))),I (iv (l.getD 1 (.bool false))),I (iv (l.getD 2 (.bool false))),I (iv (l.getD 3 (.bool false))),I (iv (l.getD 4 (.bool false)))]:=by
 rw [show List.replicate 5 0=[0,0,0,0,0] from rfl] at h
 obtain ⟨v0,l0,rfl,h0,g0⟩:=kcons h
 obtain ⟨x0,rfl⟩:=kind0 h0
 obtain ⟨v1,l1,rfl,h1,g1⟩:=kcons g0
 obtain ⟨x1,rfl⟩:=kind0 h1
 obtain ⟨v2,l2,rfl,h2,g2⟩:=kcons g1
 obtain ⟨x2,rfl⟩:=kind0 h2
 obtain ⟨v3,l3,rfl,h3,g3⟩:=kcons g2
 obtain ⟨x3,rfl⟩:=kind0 h3
 obtain ⟨v4,l4,rfl,h4,g4⟩:=kcons g3
 obtain ⟨x4,rfl⟩:=kind0 h4
 obtain rfl:=knil g4
 rfl
theorem two {l:List Value} (h:l.map kind=List.replicate 2 0):l=[I (iv (l.getD 0 (.bool false))),I (iv (l.getD 1 (.bool false)))]:=by
 rw [show List.replicate 2 0=[0,0] from rfl] at h
 obtain ⟨v0,l0,rfl,h0,g0⟩:=kcons h
 obtain ⟨x0,rfl⟩:=kind0 h0
 obtain ⟨v1,l1,rfl,h1,g1⟩:=kcons g0
 obtain ⟨x1,rfl⟩:=kind0 h1
 obtain rfl:=knil g1
 rfl
theorem raw_tab {x:Raw} (h:RawOk x):rawOf (tabOf x)=x:=by
 obtain ⟨ph,gs,cf,ds,rs,bs,tm,fl,tk⟩:=x
 unfold rawOf tabOf
 simp only
 have hg:(gs.map (fun g=>(ofRow g.1,ofRow g.2))).map (fun g=>(g.1.map (fun n=>[I n]),g.2.map (fun n=>[I n])))=gs:=by
  rw [List.map_map]
  conv=>rhs;rw [← List.map_id gs]
  refine List.map_congr_left fun g hg=>?_
  have:=h.gs g hg
  simp only [Function.comp,id]
  rw [ofRow_cells this.1,ofRow_cells this.2]
 rw [map_of (fun r hr=>ofPh_cells (h.ph r hr)),hg,ints_iv h.cf,map_of (fun r hr=>ofDet_cells (h.ds r hr)),map_of (fun r hr=>ofRl_cells (h.rs r hr)),map_of (fun r hr=>ofBs_cells (h.bs r hr)),← five h.tm,ints_iv h.fl,← two h.tk]
theorem flat_map {β:Type} {g:β→List Value} (l:List β):(l.map g).flatten=l.flatMap g:=(List.flatMap_def ..).symm
section
variable {W:World}
theorem slc_row {β:Type} {g:β→List Value} {n n0:Nat} {a:Option Addr} {xs:List (List Value)} {T:TypeId} (l:List β) (hx:l.map g=xs) (hg:∀ v,(g v).length=n) (h:NewRow n0 W a xs T) (hl:xs.length≤1000):∃ s:Sl,slc a xs=s.val l.length∧RowOf n g W s l:=by
 have hlen:l.length=xs.length:=by rw [← hx,List.length_map]
 refine ⟨⟨a,xs.length⟩,by unfold slc;rw [hlen],?_⟩
 by_cases he:xs=[]
 ·subst he
  obtain rfl:l=[]:=List.map_eq_nil_iff.1 hx
  cases a with
  | none=>exact .inl ⟨rfl,rfl,rfl⟩
  | some y=>exact .inr ⟨y,rfl,Nat.le_refl _,Nat.zero_le _,fun i v hv=>by simp at hv⟩
 ·obtain ⟨b,_,rfl,hb⟩:=h he
  subst hx
  rw [flat_map] at hb
  have:=Copy.row_of_block hg l hb (by rw [List.length_map] at hl;unfold maxLen;omega)
  rw [List.length_map]
  exact this
theorem got_tab {x:Raw} (h:RawOk x) {n0:Nat} {ga da ra ba:Option Addr} {zs:List Zr} (hz:zs.map (·.2)=x.gs) (hgb:x.gs ≠ []→∃ b,n0≤b∧ga=some ⟨b,0,none⟩∧W.heap[b]?=some (.cells (zs.flatMap zc).toArray 68 (0,0))) (hr:Rows n0 W zs)
  (hd:NewRow n0 W da x.ds 71) (hl:NewRow n0 W ra x.rs 75) (hb:NewRow n0 W ba x.bs 77) :
  ∃ H,bx x.ph.flatten (.slice ga x.gs.length x.gs.length) x.cf (slc da x.ds) (slc ra x.rs) (slc ba x.bs) x.tm x.fl x.tk=(tabOf x).cells H∧IsTab W H (tabOf x):=by
 have hraw:=raw_tab h
 have e1:(tabOf x).phases.map Ph.cells=x.ph:=congrArg Raw.ph hraw
 have e3:(tabOf x).conflict.map I=x.cf:=congrArg Raw.cf hraw
 have e4:(tabOf x).dets.map Det.cells=x.ds:=congrArg Raw.ds hraw
 have e5:(tabOf x).rails.map Rl.cells=x.rs:=congrArg Raw.rs hraw
 have e6:(tabOf x).buses.map Bs.cells=x.bs:=congrArg Raw.bs hraw
 have e7:[I (tabOf x).extend,I (tabOf x).budget,I (tabOf x).start,I (tabOf x).revert,I (tabOf x).least]=x.tm:=congrArg Raw.tm hraw
 have e8:(tabOf x).flash.map I=x.fl:=congrArg Raw.fl hraw
 have e9:[I (tabOf x).window,I (tabOf x).share]=x.tk:=congrArg Raw.tk hraw
 have egs:(tabOf x).groups=x.gs.map (fun g=>(ofRow g.1,ofRow g.2)):=rfl
 generalize tabOf x=T at *
 obtain ⟨sd,hsd,rd⟩:=slc_row (g:=Det.cells) (n:=7) T.dets e4 (fun _=>rfl) hd h.ln.1
 obtain ⟨sr,hsr,rr⟩:=slc_row (g:=Rl.cells) (n:=11) T.rails e5 (fun _=>rfl) hl h.ln.2.1
 obtain ⟨sb,hsb,rb⟩:=slc_row (g:=Bs.cells) (n:=2) T.buses e6 (fun _=>rfl) hb h.ln.2.2
 have hgn:T.groups.length=x.gs.length:=by rw [egs,List.length_map]
 have hgrp:∃ gs:List Gr,gs.map Gr.data=T.groups∧GroupsLie W ⟨ga,x.gs.length⟩ gs:=by
  have hall:∀ z ∈ zs,∃ g:Gr,g.cells=zc z∧g.data=(ofRow z.2.1,ofRow z.2.2)∧g.ok W:=by
   intro z hz2
   have hm:z.2 ∈ x.gs:=by rw [← hz];exact List.mem_map_of_mem hz2
   obtain ⟨r0,r1⟩:=hr z hz2
   have hk:=h.gs _ hm
   have hn:=h.gn.2 _ hm
   obtain ⟨s0,q0,w0⟩:=slc_row (g:=fun n=>[I n]) (n:=1) (ofRow z.2.1) (ofRow_cells hk.1) (fun _=>rfl) r0 hn.1
   obtain ⟨s1,q1,w1⟩:=slc_row (g:=fun n=>[I n]) (n:=1) (ofRow z.2.2) (ofRow_cells hk.2) (fun _=>rfl) r1 hn.2
   exact ⟨⟨ofRow z.2.1,ofRow z.2.2,s0,s1⟩,by unfold zc Gr.cells;rw [q0,q1],rfl,w0,w1⟩
  have hex:∀ zs':List Zr,(∀ z ∈ zs',∃ g:Gr,g.cells=zc z∧g.data=(ofRow z.2.1,ofRow z.2.2)∧g.ok W)→∃ gs:List Gr,gs.flatMap Gr.cells=zs'.flatMap zc∧gs.map Gr.data=zs'.map (fun z=>(ofRow z.2.1,ofRow z.2.2))∧gs.length=zs'.length∧∀ g ∈ gs,g.ok W:=by
   intro zs'
   induction zs' with
   | nil=>intro _;exact ⟨[],rfl,rfl,rfl,fun g hg=>by simp at hg⟩
   | cons z zs' ih =>
    intro ha
    obtain ⟨g,g1,g2,g3⟩:=ha z (by simp)
    obtain ⟨gs,i1,i2,i3,i4⟩:=ih (fun z' hz'=>ha z' (by simp [hz']))
    refine ⟨g :: gs,by rw [List.flatMap_cons,List.flatMap_cons,g1,i1],by rw [List.map_cons,List.map_cons,g2,i2],by rw [List.length_cons,List.length_cons,i3],fun g' hg'=>?_⟩
    rcases List.mem_cons.1 hg' with rfl | hg'
    ·exact g3
    ·exact i4 g' hg'
  obtain ⟨gs,f1,f2,f3,f4⟩:=hex zs hall
  have hzl:zs.length=x.gs.length:=by rw [← hz,List.length_map]
  refine ⟨gs,?_,?_,f4⟩
  ·rw [f2,egs,← hz,List.map_map]
   rfl
  ·by_cases he:x.gs=[]
   ·have hgl:gs=[]:=List.eq_nil_of_length_eq_zero (by rw [f3,hzl,he];rfl)
    subst hgl
    rw [he]
    cases ga with
    | none=>exact .inl ⟨rfl,rfl,rfl⟩
    | some y=>exact .inr ⟨y,rfl,Nat.le_refl _,Nat.zero_le _,fun i v hv=>by simp at hv⟩
   ·obtain ⟨b,_,rfl,hb⟩:=hgb he
    rw [← f1] at hb
    have:=Copy.row_of_block (enc:=Gr.cells) (n:=2) (fun _=>rfl) gs hb (by rw [f3,hzl];have:=h.gn.1;unfold maxLen;omega)
    rwa [f3,hzl] at this
 refine ⟨⟨⟨ga,x.gs.length⟩,sd,sr,sb⟩,?_,⟨?_,?_,?_,hgrp,rd,rr,rb⟩⟩
 ·unfold bx Tab.cells
  rw [← e1,flat_map,e3,← hsd,← hsr,← hsb,e8,← e7,← e9]
  show _=_++(Value.slice ga T.groups.length x.gs.length :: _)
  rw [hgn]
  rfl
 ·have:=congrArg List.length e1
  rw [List.length_map] at this
  rw [this,h.pn]
 ·have:=congrArg List.length e3
  rw [List.length_map] at this
  have h2:=congrArg List.length h.cf
  rw [List.length_map,List.length_replicate] at h2
  rw [this,h2]
 ·have:=congrArg List.length e8
  rw [List.length_map] at this
  have h2:=congrArg List.length h.fl
  rw [List.length_map,List.length_replicate] at h2
  rw [this,h2]
end
section
variable {P:PP}
theorem eachs_kind {st:List Sp}:∀ {xs:List (List Value)} {s:P.σ} {ys:List (List Value)} {s':P.σ},eachs P st xs s=.ok (ys,s')→ys.map (List.map kind)=xs.map (List.map kind)
 | [],s,ys,s',h=>by cases h;rfl
 | x :: xs,s,ys,s',h=>by
  rw [eachs] at h
  cases h1:runs P st x s with
  | error f=>rw [h1] at h;cases h
  | ok r =>
   rw [h1] at h
   simp only at h
   cases h2:eachs P st xs r.2 with
   | error f=>rw [h2] at h;cases h
   | ok q =>
    rw [h2] at h
    cases h
    rw [List.map_cons,List.map_cons,eachs_kind h2,runs_kind P st h1]
theorem reps_kind {st:List Sp} {z:List Value} {n:Nat} {s:P.σ} {ys:List (List Value)} {s':P.σ} (h:eachs P st (List.replicate n z) s=.ok (ys,s')):ys.length=n∧∀ r ∈ ys,r.map kind=z.map kind:=by
 have h1:=eachs_kind h
 rw [List.map_replicate] at h1
 have h2:=congrArg List.length h1
 rw [List.length_map,List.length_replicate] at h2
 refine ⟨h2,fun r hr=>?_⟩
 have h3:r.map kind ∈ ys.map (List.map kind):=List.mem_map_of_mem hr
 rw [h1] at h3
 exact List.eq_of_mem_replicate h3
theorem listN_kind (FEW:∀ most s y s1,P.num s 1 most 0=.ok (y,s1)→∃ n:Nat,y=n∧n≤1000) {most:Int} {st:List Sp} {z:List Value} {s:P.σ} {ys:List (List Value)} {s':P.σ} (h:listN P most st z s=.ok (ys,s')):ys.length≤1000∧∀ r ∈ ys,r.map kind=z.map kind:=by
 unfold listN at h
 cases h1:P.num s 1 most 0 with
 | error f=>rw [h1] at h;cases h
 | ok r =>
  rw [h1] at h
  obtain ⟨y,s1⟩:=r
  obtain ⟨n,hn,hn2⟩:=FEW _ _ _ _ h1
  have h2:=reps_kind h
  refine ⟨?_,h2.2⟩
  rw [h2.1,hn]
  exact hn2
theorem grpsN_kind (FEW:∀ most s y s1,P.num s 1 most 0=.ok (y,s1)→∃ n:Nat,y=n∧n≤1000):∀ {n:Nat} {s:P.σ} {ys:List (List (List Value) × List (List Value))} {s':P.σ},grpsN P n s=.ok (ys,s')→ys.length=n∧∀ g ∈ ys,((∀ r ∈ g.1,r.map kind=[0])∧∀ r ∈ g.2,r.map kind=[0])∧g.1.length≤1000∧g.2.length≤1000
 | 0,s,ys,s',h=>by cases h;exact ⟨rfl,fun g hg=>by simp at hg⟩
 | n+1,s,ys,s',h=>by
  rw [grpsN] at h
  cases h1:grpsN P n s with
  | error f=>rw [h1] at h;cases h
  | ok r =>
   rw [h1] at h
   simp only at h
   cases h2:grpN P r.2 with
   | error f=>rw [h2] at h;cases h
   | ok q =>
    rw [h2] at h
    cases h
    obtain ⟨i1,i2⟩:=grpsN_kind FEW h1
    refine ⟨by rw [List.length_append,i1];rfl,fun g hg=>?_⟩
    rcases List.mem_append.1 hg with hg | hg
    ·exact i2 g hg
    ·rw [List.mem_singleton] at hg
     subst hg
     unfold grpN at h2
     cases h3:rowN P r.2 with
     | error f=>rw [h3] at h2;cases h2
     | ok a =>
      rw [h3] at h2
      simp only at h2
      cases h4:rowN P a.2 with
      | error f=>rw [h4] at h2;cases h2
      | ok b =>
       rw [h4] at h2
       cases h2
       have k3:=listN_kind FEW h3
       have k4:=listN_kind FEW h4
       exact ⟨⟨k3.2,k4.2⟩,k3.1,k4.1⟩
theorem then_ok {α β:Type} {r:Except Flt α} {k:α→Except Flt β} {y:β} (h:andThen r k=.ok y):∃ x,r=.ok x∧k x=.ok y:=by
 cases r with
 | error f=>cases h
 | ok x=>exact ⟨x,rfl,h⟩
theorem parts_ok (FEW:∀ most s y s1,P.num s 1 most 0=.ok (y,s1)→∃ n:Nat,y=n∧n≤1000) {s:P.σ} {x:Raw} {s':P.σ} (h:parts P s=.ok (x,s')):RawOk x:=by
 unfold parts at h
 obtain ⟨x1,h1,h⟩:=then_ok h
 obtain ⟨x2,h2,h⟩:=then_ok h
 obtain ⟨x3,h3,h⟩:=then_ok h
 obtain ⟨x4,h4,h⟩:=then_ok h
 obtain ⟨x5,h5,h⟩:=then_ok h
 obtain ⟨x6,h6,h⟩:=then_ok h
 obtain ⟨x7,h7,h⟩:=then_ok h
 obtain ⟨x8,h8,h⟩:=then_ok h
 obtain ⟨x9,h9,h⟩:=then_ok h
 cases h
 have k1:=reps_kind h1
 have k3:=runs_kind P _ h3
 have k7:=runs_kind P _ h7
 have k8:=runs_kind P _ h8
 have k9:=runs_kind P _ h9
 rw [List.map_replicate] at k3 k7 k8 k9
 have k4:=listN_kind FEW h4
 have k5:=listN_kind FEW h5
 have k6:=listN_kind FEW h6
 have k2:x2.1.length≤1000∧∀ g ∈ x2.1,((∀ r ∈ g.1,r.map kind=[0])∧∀ r ∈ g.2,r.map kind=[0])∧g.1.length≤1000∧g.2.length≤1000:=by
  unfold listG at h2
  cases hn:P.num x1.2 1 4 0 with
  | error f=>rw [hn] at h2;cases h2
  | ok r =>
   rw [hn] at h2
   obtain ⟨y,s1⟩:=r
   obtain ⟨n,hy,hn2⟩:=FEW _ _ _ _ hn
   have:=grpsN_kind FEW h2
   refine ⟨?_,this.2⟩
   rw [this.1,hy]
   exact hn2
 exact ⟨k1.1,k1.2,fun g hg=>(k2.2 g hg).1,k3,k4.2,k5.2,k6.2,k7,k8,k9,⟨k2.1,fun g hg=>(k2.2 g hg).2⟩,k4.1,k5.1,k6.1⟩
end
end Po
namespace Bk
open Go.ChangeShapes Go.WideShapes Go.ChangeAt Go.RowKit
open B Put Nx
theorem be_low (k:Nat) (n:Int):(be (low k n):Int)=n % 2 ^ (8*k):=by
 induction k with
 | zero=>simp [low,be]
 | succ k ih =>
  have hp:(2:Int) ^ (8*(k+1))=2 ^ (8*k)*256:=by rw [show 8*(k+1)=8*k+8 by omega,Int.pow_add];rfl
  have hpos:(0:Int) < 2 ^ (8*k):=Int.pow_pos (by decide)
  rw [low,be_cons,low_len,hp,Int.natCast_add,Int.natCast_mul,ih,Int.toNat_of_nonneg (by omega),div_mod n _ hpos]
  have h1:=Int.emod_emod_of_dvd n (Int.dvd_mul_right (2 ^ (8*k)) 256)
  rw [← h1]
  have h2:=Int.emod_add_mul_ediv (n % (2 ^ (8*k)*256)) (2 ^ (8*k))
  have h3:((256 ^ k:Nat):Int)=2 ^ (8*k):=by
   rw [Int.natCast_pow,Int.pow_mul];rfl
  rw [h3,Int.mul_comm (n % (2 ^ (8*k)*256) / 2 ^ (8*k))]
  omega
end Bk
namespace By
open Go Go.RowKit
open Tab Po
open Rr (RP may)
open Put (low low_len low_lt low_mod lim)
open Nx (val be be_cons)
section
variable {bs:List Nat}
theorem rp_num (s:Nat) (size most x:Int) (hm:0≤most):(RP bs).num s size most x=if bs.length < s+lim size 7 then .error (2,(bs.length:Int)) else if most < (val bs s (lim size 7):Int) then .error (4,(s:Int)) else .ok ((val bs s (lim size 7):Int),s+lim size 7):=by
 simp only [RP,Nm.num]
 by_cases h1:bs.length < s+lim size 7
 ·simp [h1]
 ·by_cases h2:most < (val bs s (lim size 7):Int)
  ·simp [h1,h2]
  ·have h3:¬ ((val bs s (lim size 7):Int) < 0∨most < (val bs s (lim size 7):Int)):=by omega
   have h4:¬ (val bs s (lim size 7):Int) < 0:=by omega
   simp [h1,h2,h4]
theorem rp_flt (s:Nat) (lv:Bool) (x:Nat):(RP bs).flt s lv x=if bs.length < s+8 then .error (2,(bs.length:Int)) else if may lv (val bs s 8)=true then .ok (val bs s 8,s+8) else .error (4,(s:Int)):=by
 simp only [RP,Nm.flt]
 by_cases h1:bs.length < s+8
 ·simp [h1]
 ·simp [h1]
theorem rp_flg (s:Nat) (x:Bool):(RP bs).flg s x=if bs.length < s+1 then .error (2,(bs.length:Int)) else if 1 < val bs s 1 then .error (4,(s:Int)) else .ok (decide (val bs s 1=1),s+1):=by
 simp only [RP,Nm.num]
 by_cases h1:bs.length < s+1
 ·simp [h1]
 ·by_cases h2:1 < val bs s 1
  ·have h3:(1:Int) < (val bs s 1:Int):=by omega
   simp [h1,h2,h3]
  ·have h3:¬ (1:Int) < (val bs s 1:Int):=by omega
   have h4:¬ ((val bs s 1:Int) < 0∨(1:Int) < (val bs s 1:Int)):=by omega
   simp only [h1,h2,h4,if_false]
   simp
   omega
end
def jS:Sp→Nat
 | .num _ _ j=>j
 | .flt _ j=>j
 | .flg j=>j
def encS:Sp→Value→List Nat
 | .num size _ _,.int _ x=>low (lim size 7) x
 | .flt _ _,.float _ x=>low 8 (x:Int)
 | .flg _,.bool b=>[if b=true then 1 else 0]
 | _,_=>[]
def goodS:Sp→Value→Bool
 | .num _ most _,.int .i64 x=>decide (0≤x) && decide (x≤most)
 | .flt lv _,.float .f64 x=>may lv x && decide (x < 18446744073709551616)
 | .flg _,.bool _=>true
 | _,_=>false
def kS:Sp→Nat
 | .num _ _ _=>0
 | .flt _ _=>2
 | .flg _=>1
def fitS:Sp→Bool
 | .num size most _=>decide (0≤most) && decide (most < 2 ^ (8*lim size 7))
 | _=>true
theorem low_be:∀ (l:List Nat),(∀ x ∈ l,x < 256)→low l.length (be l:Int)=l
 | [],_=>rfl
 | x :: l,h=>by
  have hx:x < 256:=h x (by simp)
  have hl:∀ y ∈ l,y < 256:=fun y hy=>h y (by simp [hy])
  have hp:(2:Int) ^ (8*l.length)=((256 ^ l.length:Nat):Int):=by rw [Int.natCast_pow,Int.pow_mul];rfl
  have hb:be l < 256 ^ l.length:=by
   have:=Bk.be_low l.length (be l:Int)
   rw [low_be l hl] at this
   have hpos:(0:Int) < 2 ^ (8*l.length):=Int.pow_pos (by decide)
   have h2:=Int.emod_lt_of_pos (be l:Int) hpos
   rw [← this,hp] at h2
   omega
  rw [List.length_cons,low,be_cons,hp]
  have hpos:0 < 256 ^ l.length:=Nat.pow_pos (by decide)
  have e1:((x*256 ^ l.length+be l:Nat):Int) / ((256 ^ l.length:Nat):Int)=x:=by
   rw [← Int.natCast_ediv,Nat.mul_comm,Nat.mul_add_div hpos,Nat.div_eq_of_lt hb,Nat.add_zero]
  rw [e1]
  have e2:((x:Int) % 256).toNat=x:=by omega
  rw [e2]
  congr 1
  have e3:low l.length ((x*256 ^ l.length+be l:Nat):Int)=low l.length (be l:Int):=by
   refine low_mod _ _ _ ?_
   rw [hp,Int.natCast_add,Int.natCast_mul,Int.add_comm,Int.add_mul_emod_self_right]
  rw [e3,low_be l hl]
theorem val_low {bs:List Nat} (hb:∀ x ∈ bs,x < 256) {s k:Nat} (h:s+k≤bs.length):bs.drop s=low k (val bs s k:Int)++bs.drop (s+k):=by
 have hl:((bs.drop s).take k).length=k:=by rw [List.length_take,List.length_drop];omega
 have h1:=low_be ((bs.drop s).take k) (fun x hx=>hb x (List.mem_of_mem_drop (List.mem_of_mem_take hx)))
 rw [hl] at h1
 unfold val
 rw [h1,← List.drop_drop,List.take_append_drop]
section
variable {bs:List Nat}
theorem step_bwd (hb:∀ x ∈ bs,x < 256) {c:Sp} {l l':List Value} {s s':Nat} {u:Value} (hu:l[jS c]?=some u) (hk:kind u=kS c) (hf:fitS c=true) (h:Sp.run (RP bs) l s c=.ok (l',s')) :
  ∃ v,l'=l.set (jS c) v∧goodS c v=true∧s'=s+(encS c v).length∧s'≤bs.length∧bs.drop s=encS c v++bs.drop s':=by
 cases c with
 | num size most j =>
  obtain ⟨x,rfl⟩:=kind0 hk
  simp only [fitS,Bool.and_eq_true,decide_eq_true_eq] at hf
  simp only [Sp.run] at h
  rw [show l[j]?=some (I x) from hu] at h
  dsimp only at h
  rw [rp_num s size most x (by omega)] at h
  by_cases h1:bs.length < s+lim size 7
  ·rw [if_pos h1] at h;cases h
  ·rw [if_neg h1] at h
   by_cases h2:most < (val bs s (lim size 7):Int)
   ·rw [if_pos h2] at h;cases h
   ·rw [if_neg h2] at h
    cases h
    refine ⟨I (val bs s (lim size 7)),rfl,by simp [goodS];omega,by simp [encS,low_len],by omega,?_⟩
    simp only [encS]
    exact val_low hb (by omega)
 | flt lv j =>
  obtain ⟨x,rfl⟩:=kind2 hk
  simp only [Sp.run] at h
  rw [show l[j]?=some (.float .f64 x) from hu] at h
  dsimp only at h
  rw [rp_flt] at h
  by_cases h1:bs.length < s+8
  ·rw [if_pos h1] at h;cases h
  ·rw [if_neg h1] at h
   by_cases h2:may lv (val bs s 8)=true
   ·rw [if_pos h2] at h
    cases h
    have hlt:=Nx.val_lt bs s 8 hb
    refine ⟨.float .f64 (val bs s 8),rfl,?_,by simp [encS,low_len],by omega,?_⟩
    ·simp only [goodS,h2,Bool.true_and,decide_eq_true_eq]
     have:(256:Nat) ^ 8=18446744073709551616:=by decide
     omega
    ·simp only [encS]
     exact val_low hb (by omega)
   ·rw [if_neg h2] at h;cases h
 | flg j =>
  obtain ⟨x,rfl⟩:=kind1 hk
  simp only [Sp.run] at h
  rw [show l[j]?=some (.bool x) from hu] at h
  dsimp only at h
  rw [rp_flg] at h
  by_cases h1:bs.length < s+1
  ·rw [if_pos h1] at h;cases h
  ·rw [if_neg h1] at h
   by_cases h2:1 < val bs s 1
   ·rw [if_pos h2] at h;cases h
   ·rw [if_neg h2] at h
    cases h
    refine ⟨.bool (decide (val bs s 1=1)),rfl,rfl,by simp [encS],by omega,?_⟩
    have h3:=val_low hb (s:=s) (k:=1) (by omega)
    rw [h3]
    congr 1
    generalize val bs s 1=y at h2
    rcases (show y=0∨y=1 by omega) with rfl | rfl <;> simp [encS,low]
end
end By
end Go.Proofs.YtjdeemmaaiecnaaGreat
