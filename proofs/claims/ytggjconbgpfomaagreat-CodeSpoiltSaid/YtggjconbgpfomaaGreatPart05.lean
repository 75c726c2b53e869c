/- 5 texts in one file, in build order. -/
import Derived.Test.YtggjconbgpfomaaGreatRows
import Derived.Test.YtggjconbgpfomaaGreatPart01
import Derived.Test.YtggjconbgpfomaaGreatPart04
import Derived.BigQuiet
import Derived.StillTailTactics
set_option linter.unusedVariables false
set_option linter.unusedSimpArgs false
set_option linter.unusedSectionVars false
set_option maxHeartbeats 8000000
set_option maxRecDepth 100000
namespace Go.Proofs.YtggjconbgpfomaaGreat
namespace Po
open Go Go.RowKit Go.ChangeShapes
open Tab
def listN (P:PP) (most:Int) (st:List Sp) (zr:List Value) (s:P.σ):Except Flt (List (List Value) × P.σ):=match P.num s 1 most 0 with
 | .error f=>.error f
 | .ok (y,s1)=>eachs P st (List.replicate y.toNat zr) s1
def EndsN (P:PP) (R:P.σ→World→Prop) (B c oc:Nat) (ccs:Array Value) (ct:TypeId) (T:TypeId) (r:Except Flt (List (List Value) × P.σ)) (W:World) (e:Ending) (W':World):Prop:=match r with
 | .ok (xs',s')=>e=.returned (.tuple #[])∧R s' W'∧Mv B c W W'∧∃ (a:Option Addr),W'.heap[c]?=some (.cells (ccs.setIfInBounds oc (.slice a xs'.length xs'.length)) ct (0,0))∧(xs' ≠ []→∃ b,W.heap.size≤b∧a=some ⟨b,0,none⟩∧W'.heap[b]?=some (.cells xs'.flatten.toArray T (0,0)))
 | .error f=>e=.panicked [{ v:=fault f,recovered:=false }]∧Below B W W'
theorem wrt_full {cs:Array Value} {l:List Value} (h:cs.size=l.length):wrt cs 0 l=l.toArray:=by
 unfold wrt
 rw [List.take_zero,List.nil_append,Nat.zero_add,List.drop_of_length_le (by rw [Array.length_toList];omega),List.append_nil]
theorem put_same {cs:Array Value} {i:Nat} {v:Value} (h:cs[i]?=some v):cs.setIfInBounds i v=cs:=by
 apply Array.ext_getElem?
 intro j
 rw [Array.getElem?_setIfInBounds]
 split
 ·rename_i e
  subst e
  rw [if_pos (Array.getElem?_eq_some_iff.1 h).1,h]
 ·rfl
theorem Mv.off {B b c:Nat} {W V U:World} (h:Mv B c W V) (k:Mv B b V U) (hb:W.heap.size≤b):Mv B c W U :=
 ⟨h.low.trans k.low,fun j cs t fr hj ht hc=>by
  have h1:=h.other j cs t fr hj ht hc
  have hl:=(Array.getElem?_eq_some_iff.1 hj).1
  exact (k.other j cs t fr (h1.trans hj) ht (by omega)).trans h1⟩
section
variable {P:PP} {R:P.σ→World→Prop} {B:Nat} {ok:Nat→Nat × Nat→Prop} {ti:TypeId} {v rv:Value} {FN FF FG:FuncId}
theorem newI_any (PT:Port P R B ok ti v rv FN FF FG) {F:FuncId} {st:List Sp} {ks:List Nat} (en':∀ (args:Array Value) (w:World),(callFunc F args).run Tryz.prog w=.ok (.enter F args) w)
  (EF:Hid (∀ (W:World) (s:P.σ) (l:List Value) (b o:Nat) (cs:Array Value) (t:TypeId) (fr:Nat × Nat),l.map kind=ks→R s W→B≤W.heap.size→ok b fr→(b < B∨¬ Pt t)→o+l.length≤cs.size→W.heap[b]?=some (.cells (wrt cs o l) t fr)→Fit (runs P st l s)→Calls Tryz.prog F #[.iface ti v,.pointer (some ⟨b,o,none⟩)] W (Ends P R B b o cs t fr (runs P st l s) W)))
  {s:P.σ} {W:World} {most:Int} (hks:([I 0]:List Value).map kind=ks) (hR:R s W) (hB:B≤W.heap.size) (few:∀ y s1,P.num s 1 most 0=.ok (y,s1)→∃ n:Nat,y=n∧n≤1000)
  {c oc:Nat} {ccs:Array Value} {ct:TypeId} (hc:W.heap[c]?=some (.cells ccs ct (0,0))) (hct:¬ Pt ct) (hcB:B≤c) (hca:ccs[oc]?=some (.slice none 0 0)) (hfit:Fit (listN P most st [I 0] s)) :
  Calls Tryz.prog 106 #[.iface ti v,.int .i64 most,.pointer (some ⟨c,oc,none⟩),.func (.func F) #[] #[]] W (EndsN P R B c oc ccs ct 3 (listN P most st [I 0] s) W):=by
 have hm:=PT.mn
 have en:=PT.en
 have HKS:=Lib.hid hks
 have HCT:=Lib.hid hct
 have HC:=Lib.hid hc
 have FW:=Lib.hid few
 have HR:=Lib.hid hR
 have HCA:=Lib.hid hca
 have k1:W.cell? ⟨c,oc,none⟩=some (.slice none 0 0):=by rw [cell_of_row _ _ _ _ _ _ hc];exact hca
 have hcl:=(Array.getElem?_eq_some_iff.1 hc).1
 have hb1:Below W.heap.size W (W.alloc (.cells #[I 0] 3)):=(Below.refl _ _).alloc (Nat.le_refl _) _
 have hst:=PT.stay s W _ hR hb1.size (fun j cs t fr hj _=>hb1.block j (Array.getElem?_eq_some_iff.1 hj).1)
 have hfn:Fit (Sp.run P [I 0] s (.num 1 most 0)):=fun h=>by
  simp only [Sp.run,List.getElem?_cons_zero] at h
  cases hp:P.num s 1 most 0 with
  | ok y=>rw [hp] at h;cases h
  | error f=>rw [hp] at h;cases h;exact hfit (by unfold listN;rw [hp])
 have HFIT:=Lib.hid hfit
 clear hfit
 have hnum:=Lib.hid (PT.num s (W.alloc (.cells #[I 0] 3)) W.heap.size 0 #[I 0] 3 (0,0) [I 0] 1 most 0 0 hst (Nat.le_trans hB hb1.size) (PT.new _ hB) (.inr (by decide)) (by simp) (by rw [wrt_same (by simp) (by intro j hj;match j,hj with | 0,_=>rfl)];exact heap_alloc_new W _) rfl hfn)
 clear hks hct hc few hR hca hst hfn
 obtain ⟨zr,hzr⟩:∃ zr:List Value,zr=[I 0]:=⟨_,rfl⟩
 have hzl:zr.length=1:=by rw [hzr];rfl
 rw [← hzr] at HKS HFIT ⊢
 have HZR:=Lib.hid hzr
 have HZL:=Lib.hid hzl
 clear hzr hzl
 have HLP:Hid (listN P most st zr s=match P.num s 1 most 0 with
   | .error f=>.error f
   | .ok (y,s1)=>eachs P st (List.replicate y.toNat zr) s1):=Lib.hid rfl
 generalize listN P most st zr s=r0 at HLP HFIT ⊢
 go_enter Tryz.func106,Tryz.ntmps106
 go_upto_region 1 with fail
 generalize World.alloc W _=W1 at hb1 hnum ⊢
 generalize hnb:W.heap.size=nb at hb1 hnum ⊢
 have HB1:=Lib.hid hb1
 clear hb1
 go_wp2_with fail
 refine hnum.out.mono ?_
 intro e W2 he
 simp only [Sp.run,List.getElem?_cons_zero] at he
 cases hr:P.num s 1 most 0 with
 | error f =>
  rw [hr] at he HLP
  obtain ⟨rfl,h2⟩:=he
  refine ⟨rfl,?_⟩
  rw [HLP.out]
  exact ⟨rfl,(HB1.out.mono (by omega)).trans h2⟩
 | ok y =>
 obtain ⟨y,s1⟩:=y
 obtain ⟨n,rfl,hn2⟩:=FW.out _ _ hr
 rw [hr] at he HLP
 obtain ⟨xs,hxs⟩:∃ xs,xs=List.replicate n zr:=⟨_,rfl⟩
 have hn:xs.length=n:=by rw [hxs,List.length_replicate]
 have hk:∀ x ∈ xs,x.map kind=ks∧x.length=1:=fun x hx=>by
  rw [hxs] at hx
  obtain rfl:=List.eq_of_mem_replicate hx
  exact ⟨HKS.out,HZL.out⟩
 have HN:=Lib.hid hn
 have HK:=Lib.hid hk
 have HXS:=Lib.hid hxs
 dsimp only at HLP
 rw [Int.toNat_natCast,← hxs] at HLP
 clear hn hk hxs
 have HFE:Hid (Fit (eachs P st xs s1)):=Lib.hid (by have:=HFIT.out;rw [HLP.out] at this;exact this)
 clear HFIT FW
 obtain ⟨rfl,h2,h3,h4⟩:=he
 have hwn:wrt #[I 0] 0 ([I 0].set 0 (I (n:Int)))=#[I (n:Int)]:=wrt_full rfl
 rw [hwn] at h4
 clear hwn
 have hC2:=h3.keep ((HB1.out.block c (by rw [← hnb];exact hcl)).trans HC.out) (.inr HCT.out) (by omega)
 have kn:W2.cell? ⟨nb,0,none⟩=some (I (n:Int)):=by rw [cell_of_row _ _ _ _ _ _ h4];rfl
 have k1:W2.cell? ⟨c,oc,none⟩=some (.slice none 0 0):=by rw [cell_of_row _ _ _ _ _ _ hC2];exact HCA.out
 have HM:Hid (Mv B c W W2):=Lib.hid ⟨(HB1.out.mono (by omega)).trans h3.low,fun j cs t fr hj hjt hjb=>by
  have hjl:=(Array.getElem?_eq_some_iff.1 hj).1
  have h1:=(HB1.out.block j (by omega)).trans hj
  exact (h3.other j cs t fr h1 hjt (by omega)).trans (HB1.out.block j (by omega))⟩
 have HR2:=Lib.hid h2
 have HC2:=Lib.hid hC2
 have HNB:=Lib.hid h4
 have HBS:Hid (B≤W2.heap.size):=Lib.hid (Nat.le_trans (Nat.le_trans hB HB1.out.size) h3.low.size)
 clear h2 h3 h4 hC2 hnum hr HC HB1 HR
 go_upto_region 2 with fail
 have q1:∀ p:QB.By W2.heap.size W2,p.world.cell? ⟨nb,0,none⟩=some (I (n:Int)):=fun p=>(p.below.cell (World.block_lt_of_cell? W2 _ kn)).trans kn
 have q2:∀ p:QB.By W2.heap.size W2,p.world.cell? ⟨c,oc,none⟩=some (.slice none 0 0):=fun p=>(p.below.cell (World.block_lt_of_cell? W2 _ k1)).trans k1
 refine QB.region_below W2.heap.size (by kernel_rfl) (by kernel_rfl) ?_
 repeat (quiet_step (fail))
 refine wpQuiet_nil ?_
 intro _ hw'
 obtain ⟨p,rfl⟩:=hw'
 have k2:=q2 p
 have kn2:=q1 p
 have HRV:=Lib.hid (PT.stay s1 W2 p.world HR2.out p.below.size (fun j cs t fr hj _=>p.below.block j (Array.getElem?_eq_some_iff.1 hj).1))
 have HMV:=Lib.hid (HM.out.trans (Mv.of p.below HBS.out))
 have HCV:Hid (p.world.heap[c]?=some (.cells ccs ct (0,0))):=Lib.hid ((p.below.block c (Array.getElem?_eq_some_iff.1 HC2.out).1).trans HC2.out)
 have HBV:Hid (B≤p.world.heap.size):=Lib.hid (Nat.le_trans HBS.out p.below.size)
 have HNV:Hid (p.world.heap[nb]?=some (.cells #[I (n:Int)] 3 (0,0))):=Lib.hid ((p.below.block nb (Array.getElem?_eq_some_iff.1 HNB.out).1).trans HNB.out)
 clear q1 q2 kn k1 HM HR2 HC2 HBS HNB
 generalize p.world=V at k2 kn2 HRV HMV HCV HBV HNV ⊢
 rcases Nat.eq_zero_or_pos n with h0 | h0
 ·subst h0
  obtain rfl:=List.eq_nil_of_length_eq_zero HN.out
  have hne:((((0:Nat):Int)) != 0)=false:=by decide
  go_wp2_with fail
  refine wp_loop_rounds 1 ?_
  rw [rounds_succ]
  go_wp2
  go_end0
  rw [HLP.out]
  exact ⟨rfl,HRV.out,HMV.out,none,by rw [List.length_nil,put_same HCA.out];exact HCV.out,fun h=>absurd rfl h⟩
 have hne:((n:Int) != 0)=true:=by simp;omega
 go_wp2_with (at_make;refine Copy.wpList_make_zero rfl _ _ 46 3 rfl Tryz.underlying46 _ _ _ Clone.zI (by rfl) n (by first | rfl | go_simp) (by first | rfl | go_simp) hn2 (by decide) ?_)
 intro V2 hg2 hb2 hs2
 generalize hbb:V.heap.size=b at hg2 ⊢
 have hC3:=(hb2.block c (Array.getElem?_eq_some_iff.1 HCV.out).1).trans HCV.out
 have c1:V2.cell? ⟨c,oc,none⟩=some (.slice none 0 0):=by rw [cell_of_row _ _ _ _ _ _ hC3];exact HCA.out
 have f1:V2.frozen? ⟨c,oc,none⟩=false:=frozen_of_row _ _ _ _ _ hC3
 go_wp2_with fail
 rw [setCell_eq_setRow _ _ _ _ _ _ _ hC3]
 have hC4:=setRow_heap V2 c _ (ccs.setIfInBounds oc (.slice (some ⟨b,0,none⟩) n n)) ct (0,0) hC3
 have hbut:Rd.But c V2 (V2.setRow c (ccs.setIfInBounds oc (.slice (some ⟨b,0,none⟩) n n))):=by
  rw [← setCell_eq_setRow _ _ _ _ _ _ _ hC3]
  exact Rd.But.set c _ V2 _
 have hst:∀ k,k ≠ c→(V2.setRow c (ccs.setIfInBounds oc (.slice (some ⟨b,0,none⟩) n n))).heap[k]?=V2.heap[k]?:=fun k hk=>setRow_other _ _ _ _ hk
 generalize V2.setRow c _=V3 at hC4 hbut hst ⊢
 have hoc:oc < ccs.size:=(Array.getElem?_eq_some_iff.1 HCA.out).1
 have HCC:Hid ((ccs.setIfInBounds oc (.slice (some ⟨b,0,none⟩) n n))[oc]?=some (.slice (some ⟨b,0,none⟩) n n)):=Lib.hid (by rw [Array.getElem?_setIfInBounds,if_pos rfl,if_pos hoc])
 have hcV:=(Array.getElem?_eq_some_iff.1 HCV.out).1
 have HRW:Hid (R s1 V3):=Lib.hid (PT.stay s1 V V3 HRV.out (Nat.le_trans hb2.size hbut.size) (fun j cs t fr hj hp=>by
  have hjc:j ≠ c:=fun e=>by
   subst e
   have h1:=HCV.out
   rw [hj] at h1
   cases h1
   exact HCT.out hp
  exact (hst j hjc).trans (hb2.block j (Array.getElem?_eq_some_iff.1 hj).1)))
 have HMW:Hid (Mv B c W V3):=Lib.hid (HMV.out.trans ((Mv.of hb2 HBV.out).trans ⟨hbut.below (Nat.le_trans HBV.out hb2.size) hcB,fun j cs t fr hj hp hjc=>hst j hjc⟩))
 have HZF:Hid (xs.flatten=(List.replicate n zr).flatten):=Lib.hid (by rw [HXS.out])
 have HB0:Hid (V3.heap[b]?=some (.cells (wrt xs.flatten.toArray 0 xs.flatten) 3 (0,0))):=Lib.hid (by
  rw [wrt_full (by simp),hst b (by omega),hg2,HZF.out,HZR.out] <;> simp)
 have HCW0:=Lib.hid hC4
 have HNW:Hid (W.heap.size≤b):=Lib.hid (by rw [← hbb];exact HMV.out.low.size)
 have HBb:Hid (B≤b):=Lib.hid (by rw [← hbb];exact HBV.out)
 have hcb:c ≠ b:=by omega
 clear hC3 hC4 hbut hst c1 f1 hg2 hb2 hs2 k2 kn2 HRV HMV HCV HBV HNV hbb HXS HZF HCA hoc
 obtain ⟨cc2,hcc⟩:∃ cc2,cc2=ccs.setIfInBounds oc (.slice (some ⟨b,0,none⟩) n n):=⟨_,rfl⟩
 rw [← hcc] at HCC HCW0
 have HQ:=Lib.hid hcc
 clear hcc
 have HXL:Hid (∀ q,(xs.take q).flatten.length=min q n*1):=Lib.hid (fun q=>by
  rw [List.length_flatten,show (xs.take q).map List.length=List.replicate (min q n) 1 from List.eq_replicate_iff.2 ⟨by rw [List.length_map,List.length_take,HN.out],fun m hm=>by
   obtain ⟨x,hx,rfl⟩:=List.mem_map.1 hm
   exact (HK.out x (List.mem_of_mem_take hx)).2⟩,List.sum_replicate_nat])
 have HCS:Hid (xs.flatten.toArray.size=n*1):=Lib.hid (by
  have h3:=HXL.out n
  rw [List.take_of_length_le (by rw [HN.out];omega),Nat.min_self] at h3
  rw [List.size_toArray,h3])
 obtain ⟨cs,hcs⟩:∃ cs,cs=xs.flatten.toArray:=⟨_,rfl⟩
 rw [← hcs] at HCS HB0
 clear hcs
 go_loopw [31] (fun i wr=>∃ (q:Nat) (ys:List (List Value)) (s':P.σ),q≤n∧i=.int .i64 (q:Int)∧eachs P st (xs.take q) s1=.ok (ys,s')∧R s' wr∧Mv B c W wr∧wr.heap[c]?=some (.cells cc2 ct (0,0))∧wr.heap[b]?=some (.cells (wrt cs 0 (ys.flatten++(xs.drop q).flatten)) 3 (0,0))) (fun i _=>n - (intOf i).toNat)
 case atStart=>exact ⟨0,[],s1,by omega,rfl,rfl,HRW.out,HMW.out,HCW0.out,HB0.out⟩
 case round =>
  obtain ⟨q,ys,s',hq,rfl,hrun,hr,hmv,hcv,hbv⟩:=hrel
  have HE:=Lib.hid hrun
  have HS:=Lib.hid hr
  have HM:=Lib.hid hmv
  have HCW:=Lib.hid hcv
  have HBW:=Lib.hid hbv
  clear hrun hr hmv hcv hbv
  have hyl:ys.flatten.length=q:=by
   have h1:=eachs_len P st HE.out
   have h2:=HXL.out q
   rw [List.length_flatten] at h2 ⊢
   rw [h1,h2,Nat.min_eq_left hq,Nat.mul_one]
  by_cases hlt:q < n
  ·obtain ⟨x,hx⟩:∃ x,xs[q]?=some x:=⟨_,List.getElem?_eq_getElem (by rw [HN.out];exact hlt)⟩
   have hdrop:xs.drop q=x :: xs.drop (q+1):=by
    have hq':q < xs.length:=by rw [HN.out];exact hlt
    rw [List.drop_eq_getElem_cons hq']
    congr 1
    exact (List.getElem?_eq_some_iff.1 hx).2
   obtain ⟨hxk,hxl⟩:=HK.out x (List.mem_of_getElem? hx)
   have htot:0+(ys.flatten++(x++(xs.drop (q+1)).flatten)).length≤cs.size:=by
    have h1:(xs.drop (q+1)).flatten.length+(xs.take (q+1)).flatten.length=xs.flatten.length:=by
     have:=congrArg List.length (show (xs.take (q+1)++xs.drop (q+1)).flatten=xs.flatten by rw [List.take_append_drop])
     rw [List.flatten_append,List.length_append] at this
     omega
    have h2:=HXL.out (q+1)
    have h3:=HXL.out n
    rw [List.take_of_length_le (by rw [HN.out];omega)] at h3
    have h4:=HCS.out
    rw [Nat.min_eq_left (by omega)] at h2 h3
    rw [List.length_append,List.length_append,hyl,hxl]
    omega
   have hseg:=HBW.out
   rw [hdrop,List.flatten_cons] at hseg
   have hseg2:=hseg
   rw [← wrt_mid' (y:=x) hyl htot rfl,Nat.zero_add] at hseg2
   have kc:wr.cell? ⟨c,oc,none⟩=some (.slice (some ⟨b,0,none⟩) n n):=by rw [cell_of_row _ _ _ _ _ _ HCW.out];exact HCC.out
   have HXQ:=Lib.hid hx
   have HER:Hid (∀ f,runs P st x s'=.error f→eachs P st xs s1=.error f):=Lib.hid (fun f h=>by
    have e:xs=xs.take q++([x]++xs.drop (q+1)):=by
     rw [List.singleton_append,← hdrop,List.take_append_drop]
    rw [e,eachs_append,HE.out]
    (try dsimp only)
    rw [eachs_append,eachs_one,h])
   have hcall:=Lib.hid (EF.out wr s' x b (q) (wrt cs 0 (ys.flatten++(x++(xs.drop (q+1)).flatten))) 3 (0,0) hxk HS.out (Nat.le_trans hB HM.out.low.size) (PT.new _ HBb.out) (.inr (by decide)) (by rw [wrt_size htot,hxl];rw [List.length_append,List.length_append,hyl,hxl] at htot;omega) hseg2 (fun h=>HFE.out (HER.out _ h)))
   have HT1:=Lib.hid htot
   have HYL:=Lib.hid hyl
   have HXX:=Lib.hid hxl
   clear hseg hseg2 htot hyl hxl hx hxk hdrop
   have HA:Hid (∀ zs s2,eachs P st [x] s'=.ok (zs,s2)→eachs P st (xs.take (q+1)) s1=.ok (ys++zs,s2)):=Lib.hid (fun zs s2 h=>by
    rw [List.take_add_one,HXQ.out]
    show eachs P st (xs.take q++[x]) s1=_
    rw [eachs_append,HE.out]
    (try dsimp only)
    rw [h])
   go_wp2_with fail
   refine hcall.out.mono ?_
   intro e W' he
   cases hrx:runs P st x s' with
   | error f =>
    rw [hrx] at he
    obtain ⟨rfl,h2⟩:=he
    refine ⟨rfl,?_⟩
    rw [HLP.out]
    (try dsimp only)
    rw [HER.out f hrx]
    exact ⟨rfl,HM.out.low.trans h2⟩
   | ok y =>
    obtain ⟨x',s2⟩:=y
    rw [hrx] at he
    obtain ⟨rfl,h2,h3,h4⟩:=he
    have hxl':=runs_len P st hrx
    have hwm:=wrt_mid' HYL.out HT1.out hxl'
    rw [Nat.zero_add] at hwm
    rw [hwm] at h4
    have H2:=Lib.hid h2
    have H3:=Lib.hid (HM.out.off h3 HNW.out)
    have H4:=Lib.hid h4
    have HC4:=Lib.hid (h3.keep HCW.out (.inr HCT.out) hcb)
    have HEN:=Lib.hid (HA.out [x'] s2 (by rw [eachs_one,hrx]))
    clear h2 h3 h4 kc hxl' hrx hwm
    go_wp2
    go_roundw
    case rel=>exact ⟨q+1,ys++[x'],s2,by omega,by go_num,HEN.out,H2.out,H3.out,HC4.out,by rw [List.flatten_append,List.flatten_singleton,List.append_assoc];exact H4.out⟩
    case measure=>simp [intOf];omega
  ·obtain rfl:n=q:=by omega
   have HF:Hid (eachs P st xs s1=.ok (ys,s')):=Lib.hid (by have:=HE.out;rwa [List.take_of_length_le (by rw [HN.out];omega)] at this)
   have HYN:Hid (ys.length=n):=Lib.hid (by
    have:=congrArg List.length (eachs_len P st HF.out)
    rwa [List.length_map,List.length_map,HN.out] at this)
   have HYL:=Lib.hid hyl
   clear hyl
   go_wp2
   go_end0
   rw [HLP.out]
   (try dsimp only)
   rw [HF.out]
   refine ⟨rfl,HS.out,HM.out,some ⟨b,0,none⟩,by rw [HYN.out,← HQ.out];exact HCW.out,fun _=>⟨b,HNW.out,rfl,?_⟩⟩
   have:=HBW.out
   rwa [List.drop_of_length_le (by rw [HN.out];omega),List.flatten_nil,List.append_nil,wrt_full (by rw [HYL.out,HCS.out];omega)] at this
theorem newD_any (PT:Port P R B ok ti v rv FN FF FG) {F:FuncId} {st:List Sp} {ks:List Nat} (en':∀ (args:Array Value) (w:World),(callFunc F args).run Tryz.prog w=.ok (.enter F args) w)
  (EF:Hid (∀ (W:World) (s:P.σ) (l:List Value) (b o:Nat) (cs:Array Value) (t:TypeId) (fr:Nat × Nat),l.map kind=ks→R s W→B≤W.heap.size→ok b fr→(b < B∨¬ Pt t)→o+l.length≤cs.size→W.heap[b]?=some (.cells (wrt cs o l) t fr)→Fit (runs P st l s)→Calls Tryz.prog F #[.iface ti v,.pointer (some ⟨b,o,none⟩)] W (Ends P R B b o cs t fr (runs P st l s) W)))
  {s:P.σ} {W:World} {most:Int} (hks:([I 0,.float .f64 0,.float .f64 0,.float .f64 0,.float .f64 0,I 0,I 0]:List Value).map kind=ks) (hR:R s W) (hB:B≤W.heap.size) (few:∀ y s1,P.num s 1 most 0=.ok (y,s1)→∃ n:Nat,y=n∧n≤1000)
  {c oc:Nat} {ccs:Array Value} {ct:TypeId} (hc:W.heap[c]?=some (.cells ccs ct (0,0))) (hct:¬ Pt ct) (hcB:B≤c) (hca:ccs[oc]?=some (.slice none 0 0)) (hfit:Fit (listN P most st [I 0,.float .f64 0,.float .f64 0,.float .f64 0,.float .f64 0,I 0,I 0] s)) :
  Calls Tryz.prog 68 #[.iface ti v,.int .i64 most,.pointer (some ⟨c,oc,none⟩),.func (.func F) #[] #[]] W (EndsN P R B c oc ccs ct 80 (listN P most st [I 0,.float .f64 0,.float .f64 0,.float .f64 0,.float .f64 0,I 0,I 0] s) W):=by
 have hm:=PT.mn
 have en:=PT.en
 have HKS:=Lib.hid hks
 have HCT:=Lib.hid hct
 have HC:=Lib.hid hc
 have FW:=Lib.hid few
 have HR:=Lib.hid hR
 have HCA:=Lib.hid hca
 have k1:W.cell? ⟨c,oc,none⟩=some (.slice none 0 0):=by rw [cell_of_row _ _ _ _ _ _ hc];exact hca
 have hcl:=(Array.getElem?_eq_some_iff.1 hc).1
 have hb1:Below W.heap.size W (W.alloc (.cells #[I 0] 3)):=(Below.refl _ _).alloc (Nat.le_refl _) _
 have hst:=PT.stay s W _ hR hb1.size (fun j cs t fr hj _=>hb1.block j (Array.getElem?_eq_some_iff.1 hj).1)
 have hfn:Fit (Sp.run P [I 0] s (.num 1 most 0)):=fun h=>by
  simp only [Sp.run,List.getElem?_cons_zero] at h
  cases hp:P.num s 1 most 0 with
  | ok y=>rw [hp] at h;cases h
  | error f=>rw [hp] at h;cases h;exact hfit (by unfold listN;rw [hp])
 have HFIT:=Lib.hid hfit
 clear hfit
 have hnum:=Lib.hid (PT.num s (W.alloc (.cells #[I 0] 3)) W.heap.size 0 #[I 0] 3 (0,0) [I 0] 1 most 0 0 hst (Nat.le_trans hB hb1.size) (PT.new _ hB) (.inr (by decide)) (by simp) (by rw [wrt_same (by simp) (by intro j hj;match j,hj with | 0,_=>rfl)];exact heap_alloc_new W _) rfl hfn)
 clear hks hct hc few hR hca hst hfn
 obtain ⟨zr,hzr⟩:∃ zr:List Value,zr=[I 0,.float .f64 0,.float .f64 0,.float .f64 0,.float .f64 0,I 0,I 0]:=⟨_,rfl⟩
 have hzl:zr.length=7:=by rw [hzr];rfl
 rw [← hzr] at HKS HFIT ⊢
 have HZR:=Lib.hid hzr
 have HZL:=Lib.hid hzl
 clear hzr hzl
 have HLP:Hid (listN P most st zr s=match P.num s 1 most 0 with
   | .error f=>.error f
   | .ok (y,s1)=>eachs P st (List.replicate y.toNat zr) s1):=Lib.hid rfl
 generalize listN P most st zr s=r0 at HLP HFIT ⊢
 go_enter Tryz.func68,Tryz.ntmps68
 go_upto_region 1 with fail
 generalize World.alloc W _=W1 at hb1 hnum ⊢
 generalize hnb:W.heap.size=nb at hb1 hnum ⊢
 have HB1:=Lib.hid hb1
 clear hb1
 go_wp2_with fail
 refine hnum.out.mono ?_
 intro e W2 he
 simp only [Sp.run,List.getElem?_cons_zero] at he
 cases hr:P.num s 1 most 0 with
 | error f =>
  rw [hr] at he HLP
  obtain ⟨rfl,h2⟩:=he
  refine ⟨rfl,?_⟩
  rw [HLP.out]
  exact ⟨rfl,(HB1.out.mono (by omega)).trans h2⟩
 | ok y =>
 obtain ⟨y,s1⟩:=y
 obtain ⟨n,rfl,hn2⟩:=FW.out _ _ hr
 rw [hr] at he HLP
 obtain ⟨xs,hxs⟩:∃ xs,xs=List.replicate n zr:=⟨_,rfl⟩
 have hn:xs.length=n:=by rw [hxs,List.length_replicate]
 have hk:∀ x ∈ xs,x.map kind=ks∧x.length=7:=fun x hx=>by
  rw [hxs] at hx
  obtain rfl:=List.eq_of_mem_replicate hx
  exact ⟨HKS.out,HZL.out⟩
 have HN:=Lib.hid hn
 have HK:=Lib.hid hk
 have HXS:=Lib.hid hxs
 dsimp only at HLP
 rw [Int.toNat_natCast,← hxs] at HLP
 clear hn hk hxs
 have HFE:Hid (Fit (eachs P st xs s1)):=Lib.hid (by have:=HFIT.out;rw [HLP.out] at this;exact this)
 clear HFIT FW
 obtain ⟨rfl,h2,h3,h4⟩:=he
 have hwn:wrt #[I 0] 0 ([I 0].set 0 (I (n:Int)))=#[I (n:Int)]:=wrt_full rfl
 rw [hwn] at h4
 clear hwn
 have hC2:=h3.keep ((HB1.out.block c (by rw [← hnb];exact hcl)).trans HC.out) (.inr HCT.out) (by omega)
 have kn:W2.cell? ⟨nb,0,none⟩=some (I (n:Int)):=by rw [cell_of_row _ _ _ _ _ _ h4];rfl
 have k1:W2.cell? ⟨c,oc,none⟩=some (.slice none 0 0):=by rw [cell_of_row _ _ _ _ _ _ hC2];exact HCA.out
 have HM:Hid (Mv B c W W2):=Lib.hid ⟨(HB1.out.mono (by omega)).trans h3.low,fun j cs t fr hj hjt hjb=>by
  have hjl:=(Array.getElem?_eq_some_iff.1 hj).1
  have h1:=(HB1.out.block j (by omega)).trans hj
  exact (h3.other j cs t fr h1 hjt (by omega)).trans (HB1.out.block j (by omega))⟩
 have HR2:=Lib.hid h2
 have HC2:=Lib.hid hC2
 have HNB:=Lib.hid h4
 have HBS:Hid (B≤W2.heap.size):=Lib.hid (Nat.le_trans (Nat.le_trans hB HB1.out.size) h3.low.size)
 clear h2 h3 h4 hC2 hnum hr HC HB1 HR
 go_upto_region 2 with fail
 have q1:∀ p:QB.By W2.heap.size W2,p.world.cell? ⟨nb,0,none⟩=some (I (n:Int)):=fun p=>(p.below.cell (World.block_lt_of_cell? W2 _ kn)).trans kn
 have q2:∀ p:QB.By W2.heap.size W2,p.world.cell? ⟨c,oc,none⟩=some (.slice none 0 0):=fun p=>(p.below.cell (World.block_lt_of_cell? W2 _ k1)).trans k1
 refine QB.region_below W2.heap.size (by kernel_rfl) (by kernel_rfl) ?_
 repeat (quiet_step (fail))
 refine wpQuiet_nil ?_
 intro _ hw'
 obtain ⟨p,rfl⟩:=hw'
 have k2:=q2 p
 have kn2:=q1 p
 have HRV:=Lib.hid (PT.stay s1 W2 p.world HR2.out p.below.size (fun j cs t fr hj _=>p.below.block j (Array.getElem?_eq_some_iff.1 hj).1))
 have HMV:=Lib.hid (HM.out.trans (Mv.of p.below HBS.out))
 have HCV:Hid (p.world.heap[c]?=some (.cells ccs ct (0,0))):=Lib.hid ((p.below.block c (Array.getElem?_eq_some_iff.1 HC2.out).1).trans HC2.out)
 have HBV:Hid (B≤p.world.heap.size):=Lib.hid (Nat.le_trans HBS.out p.below.size)
 have HNV:Hid (p.world.heap[nb]?=some (.cells #[I (n:Int)] 3 (0,0))):=Lib.hid ((p.below.block nb (Array.getElem?_eq_some_iff.1 HNB.out).1).trans HNB.out)
 clear q1 q2 kn k1 HM HR2 HC2 HBS HNB
 generalize p.world=V at k2 kn2 HRV HMV HCV HBV HNV ⊢
 rcases Nat.eq_zero_or_pos n with h0 | h0
 ·subst h0
  obtain rfl:=List.eq_nil_of_length_eq_zero HN.out
  have hne:((((0:Nat):Int)) != 0)=false:=by decide
  go_wp2_with fail
  refine wp_loop_rounds 1 ?_
  rw [rounds_succ]
  go_wp2
  go_end0
  rw [HLP.out]
  exact ⟨rfl,HRV.out,HMV.out,none,by rw [List.length_nil,put_same HCA.out];exact HCV.out,fun h=>absurd rfl h⟩
 have hne:((n:Int) != 0)=true:=by simp;omega
 go_wp2_with (at_make;refine Copy.wpList_make_zero rfl _ _ 27 80 rfl Tryz.underlying27 _ _ _ Clone.zD (by rfl) n (by first | rfl | go_simp) (by first | rfl | go_simp) hn2 (by decide) ?_)
 intro V2 hg2 hb2 hs2
 generalize hbb:V.heap.size=b at hg2 ⊢
 have hC3:=(hb2.block c (Array.getElem?_eq_some_iff.1 HCV.out).1).trans HCV.out
 have c1:V2.cell? ⟨c,oc,none⟩=some (.slice none 0 0):=by rw [cell_of_row _ _ _ _ _ _ hC3];exact HCA.out
 have f1:V2.frozen? ⟨c,oc,none⟩=false:=frozen_of_row _ _ _ _ _ hC3
 go_wp2_with fail
 rw [setCell_eq_setRow _ _ _ _ _ _ _ hC3]
 have hC4:=setRow_heap V2 c _ (ccs.setIfInBounds oc (.slice (some ⟨b,0,none⟩) n n)) ct (0,0) hC3
 have hbut:Rd.But c V2 (V2.setRow c (ccs.setIfInBounds oc (.slice (some ⟨b,0,none⟩) n n))):=by
  rw [← setCell_eq_setRow _ _ _ _ _ _ _ hC3]
  exact Rd.But.set c _ V2 _
 have hst:∀ k,k ≠ c→(V2.setRow c (ccs.setIfInBounds oc (.slice (some ⟨b,0,none⟩) n n))).heap[k]?=V2.heap[k]?:=fun k hk=>setRow_other _ _ _ _ hk
 generalize V2.setRow c _=V3 at hC4 hbut hst ⊢
 have hoc:oc < ccs.size:=(Array.getElem?_eq_some_iff.1 HCA.out).1
 have HCC:Hid ((ccs.setIfInBounds oc (.slice (some ⟨b,0,none⟩) n n))[oc]?=some (.slice (some ⟨b,0,none⟩) n n)):=Lib.hid (by rw [Array.getElem?_setIfInBounds,if_pos rfl,if_pos hoc])
 have hcV:=(Array.getElem?_eq_some_iff.1 HCV.out).1
 have HRW:Hid (R s1 V3):=Lib.hid (PT.stay s1 V V3 HRV.out (Nat.le_trans hb2.size hbut.size) (fun j cs t fr hj hp=>by
  have hjc:j ≠ c:=fun e=>by
   subst e
   have h1:=HCV.out
   rw [hj] at h1
   cases h1
   exact HCT.out hp
  exact (hst j hjc).trans (hb2.block j (Array.getElem?_eq_some_iff.1 hj).1)))
 have HMW:Hid (Mv B c W V3):=Lib.hid (HMV.out.trans ((Mv.of hb2 HBV.out).trans ⟨hbut.below (Nat.le_trans HBV.out hb2.size) hcB,fun j cs t fr hj hp hjc=>hst j hjc⟩))
 have HZF:Hid (xs.flatten=(List.replicate n zr).flatten):=Lib.hid (by rw [HXS.out])
 have HB0:Hid (V3.heap[b]?=some (.cells (wrt xs.flatten.toArray 0 xs.flatten) 80 (0,0))):=Lib.hid (by
  rw [wrt_full (by simp),hst b (by omega),hg2,HZF.out,HZR.out] <;> simp)
 have HCW0:=Lib.hid hC4
 have HNW:Hid (W.heap.size≤b):=Lib.hid (by rw [← hbb];exact HMV.out.low.size)
 have HBb:Hid (B≤b):=Lib.hid (by rw [← hbb];exact HBV.out)
 have hcb:c ≠ b:=by omega
 clear hC3 hC4 hbut hst c1 f1 hg2 hb2 hs2 k2 kn2 HRV HMV HCV HBV HNV hbb HXS HZF HCA hoc
 obtain ⟨cc2,hcc⟩:∃ cc2,cc2=ccs.setIfInBounds oc (.slice (some ⟨b,0,none⟩) n n):=⟨_,rfl⟩
 rw [← hcc] at HCC HCW0
 have HQ:=Lib.hid hcc
 clear hcc
 have HXL:Hid (∀ q,(xs.take q).flatten.length=min q n*7):=Lib.hid (fun q=>by
  rw [List.length_flatten,show (xs.take q).map List.length=List.replicate (min q n) 7 from List.eq_replicate_iff.2 ⟨by rw [List.length_map,List.length_take,HN.out],fun m hm=>by
   obtain ⟨x,hx,rfl⟩:=List.mem_map.1 hm
   exact (HK.out x (List.mem_of_mem_take hx)).2⟩,List.sum_replicate_nat])
 have HCS:Hid (xs.flatten.toArray.size=n*7):=Lib.hid (by
  have h3:=HXL.out n
  rw [List.take_of_length_le (by rw [HN.out];omega),Nat.min_self] at h3
  rw [List.size_toArray,h3])
 obtain ⟨cs,hcs⟩:∃ cs,cs=xs.flatten.toArray:=⟨_,rfl⟩
 rw [← hcs] at HCS HB0
 clear hcs
 go_loopw [31] (fun i wr=>∃ (q:Nat) (ys:List (List Value)) (s':P.σ),q≤n∧i=.int .i64 (q:Int)∧eachs P st (xs.take q) s1=.ok (ys,s')∧R s' wr∧Mv B c W wr∧wr.heap[c]?=some (.cells cc2 ct (0,0))∧wr.heap[b]?=some (.cells (wrt cs 0 (ys.flatten++(xs.drop q).flatten)) 80 (0,0))) (fun i _=>n - (intOf i).toNat)
 case atStart=>exact ⟨0,[],s1,by omega,rfl,rfl,HRW.out,HMW.out,HCW0.out,HB0.out⟩
 case round =>
  obtain ⟨q,ys,s',hq,rfl,hrun,hr,hmv,hcv,hbv⟩:=hrel
  have HE:=Lib.hid hrun
  have HS:=Lib.hid hr
  have HM:=Lib.hid hmv
  have HCW:=Lib.hid hcv
  have HBW:=Lib.hid hbv
  clear hrun hr hmv hcv hbv
  have hyl:ys.flatten.length=q*7:=by
   have h1:=eachs_len P st HE.out
   have h2:=HXL.out q
   rw [List.length_flatten] at h2 ⊢
   rw [h1,h2,Nat.min_eq_left hq]
  by_cases hlt:q < n
  ·obtain ⟨x,hx⟩:∃ x,xs[q]?=some x:=⟨_,List.getElem?_eq_getElem (by rw [HN.out];exact hlt)⟩
   have hdrop:xs.drop q=x :: xs.drop (q+1):=by
    have hq':q < xs.length:=by rw [HN.out];exact hlt
    rw [List.drop_eq_getElem_cons hq']
    congr 1
    exact (List.getElem?_eq_some_iff.1 hx).2
   obtain ⟨hxk,hxl⟩:=HK.out x (List.mem_of_getElem? hx)
   have htot:0+(ys.flatten++(x++(xs.drop (q+1)).flatten)).length≤cs.size:=by
    have h1:(xs.drop (q+1)).flatten.length+(xs.take (q+1)).flatten.length=xs.flatten.length:=by
     have:=congrArg List.length (show (xs.take (q+1)++xs.drop (q+1)).flatten=xs.flatten by rw [List.take_append_drop])
     rw [List.flatten_append,List.length_append] at this
     omega
    have h2:=HXL.out (q+1)
    have h3:=HXL.out n
    rw [List.take_of_length_le (by rw [HN.out];omega)] at h3
    have h4:=HCS.out
    rw [Nat.min_eq_left (by omega)] at h2 h3
    rw [List.length_append,List.length_append,hyl,hxl]
    omega
   have hseg:=HBW.out
   rw [hdrop,List.flatten_cons] at hseg
   have hseg2:=hseg
   rw [← wrt_mid' (y:=x) hyl htot rfl,Nat.zero_add] at hseg2
   have kc:wr.cell? ⟨c,oc,none⟩=some (.slice (some ⟨b,0,none⟩) n n):=by rw [cell_of_row _ _ _ _ _ _ HCW.out];exact HCC.out
   have HXQ:=Lib.hid hx
   have HER:Hid (∀ f,runs P st x s'=.error f→eachs P st xs s1=.error f):=Lib.hid (fun f h=>by
    have e:xs=xs.take q++([x]++xs.drop (q+1)):=by
     rw [List.singleton_append,← hdrop,List.take_append_drop]
    rw [e,eachs_append,HE.out]
    (try dsimp only)
    rw [eachs_append,eachs_one,h])
   have hcall:=Lib.hid (EF.out wr s' x b (q*7) (wrt cs 0 (ys.flatten++(x++(xs.drop (q+1)).flatten))) 80 (0,0) hxk HS.out (Nat.le_trans hB HM.out.low.size) (PT.new _ HBb.out) (.inr (by decide)) (by rw [wrt_size htot,hxl];rw [List.length_append,List.length_append,hyl,hxl] at htot;omega) hseg2 (fun h=>HFE.out (HER.out _ h)))
   have HT1:=Lib.hid htot
   have HYL:=Lib.hid hyl
   have HXX:=Lib.hid hxl
   clear hseg hseg2 htot hyl hxl hx hxk hdrop
   have HA:Hid (∀ zs s2,eachs P st [x] s'=.ok (zs,s2)→eachs P st (xs.take (q+1)) s1=.ok (ys++zs,s2)):=Lib.hid (fun zs s2 h=>by
    rw [List.take_add_one,HXQ.out]
    show eachs P st (xs.take q++[x]) s1=_
    rw [eachs_append,HE.out]
    (try dsimp only)
    rw [h])
   go_wp2_with fail
   refine hcall.out.mono ?_
   intro e W' he
   cases hrx:runs P st x s' with
   | error f =>
    rw [hrx] at he
    obtain ⟨rfl,h2⟩:=he
    refine ⟨rfl,?_⟩
    rw [HLP.out]
    (try dsimp only)
    rw [HER.out f hrx]
    exact ⟨rfl,HM.out.low.trans h2⟩
   | ok y =>
    obtain ⟨x',s2⟩:=y
    rw [hrx] at he
    obtain ⟨rfl,h2,h3,h4⟩:=he
    have hxl':=runs_len P st hrx
    have hwm:=wrt_mid' HYL.out HT1.out hxl'
    rw [Nat.zero_add] at hwm
    rw [hwm] at h4
    have H2:=Lib.hid h2
    have H3:=Lib.hid (HM.out.off h3 HNW.out)
    have H4:=Lib.hid h4
    have HC4:=Lib.hid (h3.keep HCW.out (.inr HCT.out) hcb)
    have HEN:=Lib.hid (HA.out [x'] s2 (by rw [eachs_one,hrx]))
    clear h2 h3 h4 kc hxl' hrx hwm
    go_wp2
    go_roundw
    case rel=>exact ⟨q+1,ys++[x'],s2,by omega,by go_num,HEN.out,H2.out,H3.out,HC4.out,by rw [List.flatten_append,List.flatten_singleton,List.append_assoc];exact H4.out⟩
    case measure=>simp [intOf];omega
  ·obtain rfl:n=q:=by omega
   have HF:Hid (eachs P st xs s1=.ok (ys,s')):=Lib.hid (by have:=HE.out;rwa [List.take_of_length_le (by rw [HN.out];omega)] at this)
   have HYN:Hid (ys.length=n):=Lib.hid (by
    have:=congrArg List.length (eachs_len P st HF.out)
    rwa [List.length_map,List.length_map,HN.out] at this)
   have HYL:=Lib.hid hyl
   clear hyl
   go_wp2
   go_end0
   rw [HLP.out]
   (try dsimp only)
   rw [HF.out]
   refine ⟨rfl,HS.out,HM.out,some ⟨b,0,none⟩,by rw [HYN.out,← HQ.out];exact HCW.out,fun _=>⟨b,HNW.out,rfl,?_⟩⟩
   have:=HBW.out
   rwa [List.drop_of_length_le (by rw [HN.out];omega),List.flatten_nil,List.append_nil,wrt_full (by rw [HYL.out,HCS.out])] at this
theorem newR_any (PT:Port P R B ok ti v rv FN FF FG) {F:FuncId} {st:List Sp} {ks:List Nat} (en':∀ (args:Array Value) (w:World),(callFunc F args).run Tryz.prog w=.ok (.enter F args) w)
  (EF:Hid (∀ (W:World) (s:P.σ) (l:List Value) (b o:Nat) (cs:Array Value) (t:TypeId) (fr:Nat × Nat),l.map kind=ks→R s W→B≤W.heap.size→ok b fr→(b < B∨¬ Pt t)→o+l.length≤cs.size→W.heap[b]?=some (.cells (wrt cs o l) t fr)→Fit (runs P st l s)→Calls Tryz.prog F #[.iface ti v,.pointer (some ⟨b,o,none⟩)] W (Ends P R B b o cs t fr (runs P st l s) W)))
  {s:P.σ} {W:World} {most:Int} (hks:([I 0,I 0,I 0,I 0,I 0,I 0,I 0,I 0,I 0,I 0,I 0]:List Value).map kind=ks) (hR:R s W) (hB:B≤W.heap.size) (few:∀ y s1,P.num s 1 most 0=.ok (y,s1)→∃ n:Nat,y=n∧n≤1000)
  {c oc:Nat} {ccs:Array Value} {ct:TypeId} (hc:W.heap[c]?=some (.cells ccs ct (0,0))) (hct:¬ Pt ct) (hcB:B≤c) (hca:ccs[oc]?=some (.slice none 0 0)) (hfit:Fit (listN P most st [I 0,I 0,I 0,I 0,I 0,I 0,I 0,I 0,I 0,I 0,I 0] s)) :
  Calls Tryz.prog 70 #[.iface ti v,.int .i64 most,.pointer (some ⟨c,oc,none⟩),.func (.func F) #[] #[]] W (EndsN P R B c oc ccs ct 84 (listN P most st [I 0,I 0,I 0,I 0,I 0,I 0,I 0,I 0,I 0,I 0,I 0] s) W):=by
 have hm:=PT.mn
 have en:=PT.en
 have HKS:=Lib.hid hks
 have HCT:=Lib.hid hct
 have HC:=Lib.hid hc
 have FW:=Lib.hid few
 have HR:=Lib.hid hR
 have HCA:=Lib.hid hca
 have k1:W.cell? ⟨c,oc,none⟩=some (.slice none 0 0):=by rw [cell_of_row _ _ _ _ _ _ hc];exact hca
 have hcl:=(Array.getElem?_eq_some_iff.1 hc).1
 have hb1:Below W.heap.size W (W.alloc (.cells #[I 0] 3)):=(Below.refl _ _).alloc (Nat.le_refl _) _
 have hst:=PT.stay s W _ hR hb1.size (fun j cs t fr hj _=>hb1.block j (Array.getElem?_eq_some_iff.1 hj).1)
 have hfn:Fit (Sp.run P [I 0] s (.num 1 most 0)):=fun h=>by
  simp only [Sp.run,List.getElem?_cons_zero] at h
  cases hp:P.num s 1 most 0 with
  | ok y=>rw [hp] at h;cases h
  | error f=>rw [hp] at h;cases h;exact hfit (by unfold listN;rw [hp])
 have HFIT:=Lib.hid hfit
 clear hfit
 have hnum:=Lib.hid (PT.num s (W.alloc (.cells #[I 0] 3)) W.heap.size 0 #[I 0] 3 (0,0) [I 0] 1 most 0 0 hst (Nat.le_trans hB hb1.size) (PT.new _ hB) (.inr (by decide)) (by simp) (by rw [wrt_same (by simp) (by intro j hj;match j,hj with | 0,_=>rfl)];exact heap_alloc_new W _) rfl hfn)
 clear hks hct hc few hR hca hst hfn
 obtain ⟨zr,hzr⟩:∃ zr:List Value,zr=[I 0,I 0,I 0,I 0,I 0,I 0,I 0,I 0,I 0,I 0,I 0]:=⟨_,rfl⟩
 have hzl:zr.length=11:=by rw [hzr];rfl
 rw [← hzr] at HKS HFIT ⊢
 have HZR:=Lib.hid hzr
 have HZL:=Lib.hid hzl
 clear hzr hzl
 have HLP:Hid (listN P most st zr s=match P.num s 1 most 0 with
   | .error f=>.error f
   | .ok (y,s1)=>eachs P st (List.replicate y.toNat zr) s1):=Lib.hid rfl
 generalize listN P most st zr s=r0 at HLP HFIT ⊢
 go_enter Tryz.func70,Tryz.ntmps70
 go_upto_region 1 with fail
 generalize World.alloc W _=W1 at hb1 hnum ⊢
 generalize hnb:W.heap.size=nb at hb1 hnum ⊢
 have HB1:=Lib.hid hb1
 clear hb1
 go_wp2_with fail
 refine hnum.out.mono ?_
 intro e W2 he
 simp only [Sp.run,List.getElem?_cons_zero] at he
 cases hr:P.num s 1 most 0 with
 | error f =>
  rw [hr] at he HLP
  obtain ⟨rfl,h2⟩:=he
  refine ⟨rfl,?_⟩
  rw [HLP.out]
  exact ⟨rfl,(HB1.out.mono (by omega)).trans h2⟩
 | ok y =>
 obtain ⟨y,s1⟩:=y
 obtain ⟨n,rfl,hn2⟩:=FW.out _ _ hr
 rw [hr] at he HLP
 obtain ⟨xs,hxs⟩:∃ xs,xs=List.replicate n zr:=⟨_,rfl⟩
 have hn:xs.length=n:=by rw [hxs,List.length_replicate]
 have hk:∀ x ∈ xs,x.map kind=ks∧x.length=11:=fun x hx=>by
  rw [hxs] at hx
  obtain rfl:=List.eq_of_mem_replicate hx
  exact ⟨HKS.out,HZL.out⟩
 have HN:=Lib.hid hn
 have HK:=Lib.hid hk
 have HXS:=Lib.hid hxs
 dsimp only at HLP
 rw [Int.toNat_natCast,← hxs] at HLP
 clear hn hk hxs
 have HFE:Hid (Fit (eachs P st xs s1)):=Lib.hid (by have:=HFIT.out;rw [HLP.out] at this;exact this)
 clear HFIT FW
 obtain ⟨rfl,h2,h3,h4⟩:=he
 have hwn:wrt #[I 0] 0 ([I 0].set 0 (I (n:Int)))=#[I (n:Int)]:=wrt_full rfl
 rw [hwn] at h4
 clear hwn
 have hC2:=h3.keep ((HB1.out.block c (by rw [← hnb];exact hcl)).trans HC.out) (.inr HCT.out) (by omega)
 have kn:W2.cell? ⟨nb,0,none⟩=some (I (n:Int)):=by rw [cell_of_row _ _ _ _ _ _ h4];rfl
 have k1:W2.cell? ⟨c,oc,none⟩=some (.slice none 0 0):=by rw [cell_of_row _ _ _ _ _ _ hC2];exact HCA.out
 have HM:Hid (Mv B c W W2):=Lib.hid ⟨(HB1.out.mono (by omega)).trans h3.low,fun j cs t fr hj hjt hjb=>by
  have hjl:=(Array.getElem?_eq_some_iff.1 hj).1
  have h1:=(HB1.out.block j (by omega)).trans hj
  exact (h3.other j cs t fr h1 hjt (by omega)).trans (HB1.out.block j (by omega))⟩
 have HR2:=Lib.hid h2
 have HC2:=Lib.hid hC2
 have HNB:=Lib.hid h4
 have HBS:Hid (B≤W2.heap.size):=Lib.hid (Nat.le_trans (Nat.le_trans hB HB1.out.size) h3.low.size)
 clear h2 h3 h4 hC2 hnum hr HC HB1 HR
 go_upto_region 2 with fail
 have q1:∀ p:QB.By W2.heap.size W2,p.world.cell? ⟨nb,0,none⟩=some (I (n:Int)):=fun p=>(p.below.cell (World.block_lt_of_cell? W2 _ kn)).trans kn
 have q2:∀ p:QB.By W2.heap.size W2,p.world.cell? ⟨c,oc,none⟩=some (.slice none 0 0):=fun p=>(p.below.cell (World.block_lt_of_cell? W2 _ k1)).trans k1
 refine QB.region_below W2.heap.size (by kernel_rfl) (by kernel_rfl) ?_
 repeat (quiet_step (fail))
 refine wpQuiet_nil ?_
 intro _ hw'
 obtain ⟨p,rfl⟩:=hw'
 have k2:=q2 p
 have kn2:=q1 p
 have HRV:=Lib.hid (PT.stay s1 W2 p.world HR2.out p.below.size (fun j cs t fr hj _=>p.below.block j (Array.getElem?_eq_some_iff.1 hj).1))
 have HMV:=Lib.hid (HM.out.trans (Mv.of p.below HBS.out))
 have HCV:Hid (p.world.heap[c]?=some (.cells ccs ct (0,0))):=Lib.hid ((p.below.block c (Array.getElem?_eq_some_iff.1 HC2.out).1).trans HC2.out)
 have HBV:Hid (B≤p.world.heap.size):=Lib.hid (Nat.le_trans HBS.out p.below.size)
 have HNV:Hid (p.world.heap[nb]?=some (.cells #[I (n:Int)] 3 (0,0))):=Lib.hid ((p.below.block nb (Array.getElem?_eq_some_iff.1 HNB.out).1).trans HNB.out)
 clear q1 q2 kn k1 HM HR2 HC2 HBS HNB
 generalize p.world=V at k2 kn2 HRV HMV HCV HBV HNV ⊢
 rcases Nat.eq_zero_or_pos n with h0 | h0
 ·subst h0
  obtain rfl:=List.eq_nil_of_length_eq_zero HN.out
  have hne:((((0:Nat):Int)) != 0)=false:=by decide
  go_wp2_with fail
  refine wp_loop_rounds 1 ?_
  rw [rounds_succ]
  go_wp2
  go_end0
  rw [HLP.out]
  exact ⟨rfl,HRV.out,HMV.out,none,by rw [List.length_nil,put_same HCA.out];exact HCV.out,fun h=>absurd rfl h⟩
 have hne:((n:Int) != 0)=true:=by simp;omega
 go_wp2_with (at_make;refine Copy.wpList_make_zero rfl _ _ 28 84 rfl Tryz.underlying28 _ _ _ Clone.zR (by rfl) n (by first | rfl | go_simp) (by first | rfl | go_simp) hn2 (by decide) ?_)
 intro V2 hg2 hb2 hs2
 generalize hbb:V.heap.size=b at hg2 ⊢
 have hC3:=(hb2.block c (Array.getElem?_eq_some_iff.1 HCV.out).1).trans HCV.out
 have c1:V2.cell? ⟨c,oc,none⟩=some (.slice none 0 0):=by rw [cell_of_row _ _ _ _ _ _ hC3];exact HCA.out
 have f1:V2.frozen? ⟨c,oc,none⟩=false:=frozen_of_row _ _ _ _ _ hC3
 go_wp2_with fail
 rw [setCell_eq_setRow _ _ _ _ _ _ _ hC3]
 have hC4:=setRow_heap V2 c _ (ccs.setIfInBounds oc (.slice (some ⟨b,0,none⟩) n n)) ct (0,0) hC3
 have hbut:Rd.But c V2 (V2.setRow c (ccs.setIfInBounds oc (.slice (some ⟨b,0,none⟩) n n))):=by
  rw [← setCell_eq_setRow _ _ _ _ _ _ _ hC3]
  exact Rd.But.set c _ V2 _
 have hst:∀ k,k ≠ c→(V2.setRow c (ccs.setIfInBounds oc (.slice (some ⟨b,0,none⟩) n n))).heap[k]?=V2.heap[k]?:=fun k hk=>setRow_other _ _ _ _ hk
 generalize V2.setRow c _=V3 at hC4 hbut hst ⊢
 have hoc:oc < ccs.size:=(Array.getElem?_eq_some_iff.1 HCA.out).1
 have HCC:Hid ((ccs.setIfInBounds oc (.slice (some ⟨b,0,none⟩) n n))[oc]?=some (.slice (some ⟨b,0,none⟩) n n)):=Lib.hid (by rw [Array.getElem?_setIfInBounds,if_pos rfl,if_pos hoc])
 have hcV:=(Array.getElem?_eq_some_iff.1 HCV.out).1
 have HRW:Hid (R s1 V3):=Lib.hid (PT.stay s1 V V3 HRV.out (Nat.le_trans hb2.size hbut.size) (fun j cs t fr hj hp=>by
  have hjc:j ≠ c:=fun e=>by
   subst e
   have h1:=HCV.out
   rw [hj] at h1
   cases h1
   exact HCT.out hp
  exact (hst j hjc).trans (hb2.block j (Array.getElem?_eq_some_iff.1 hj).1)))
 have HMW:Hid (Mv B c W V3):=Lib.hid (HMV.out.trans ((Mv.of hb2 HBV.out).trans ⟨hbut.below (Nat.le_trans HBV.out hb2.size) hcB,fun j cs t fr hj hp hjc=>hst j hjc⟩))
 have HZF:Hid (xs.flatten=(List.replicate n zr).flatten):=Lib.hid (by rw [HXS.out])
 have HB0:Hid (V3.heap[b]?=some (.cells (wrt xs.flatten.toArray 0 xs.flatten) 84 (0,0))):=Lib.hid (by
  rw [wrt_full (by simp),hst b (by omega),hg2,HZF.out,HZR.out] <;> simp)
 have HCW0:=Lib.hid hC4
 have HNW:Hid (W.heap.size≤b):=Lib.hid (by rw [← hbb];exact HMV.out.low.size)
 have HBb:Hid (B≤b):=Lib.hid (by rw [← hbb];exact HBV.out)
 have hcb:c ≠ b:=by omega
 clear hC3 hC4 hbut hst c1 f1 hg2 hb2 hs2 k2 kn2 HRV HMV HCV HBV HNV hbb HXS HZF HCA hoc
 obtain ⟨cc2,hcc⟩:∃ cc2,cc2=ccs.setIfInBounds oc (.slice (some ⟨b,0,none⟩) n n):=⟨_,rfl⟩
 rw [← hcc] at HCC HCW0
 have HQ:=Lib.hid hcc
 clear hcc
 have HXL:Hid (∀ q,(xs.take q).flatten.length=min q n*11):=Lib.hid (fun q=>by
  rw [List.length_flatten,show (xs.take q).map List.length=List.replicate (min q n) 11 from List.eq_replicate_iff.2 ⟨by rw [List.length_map,List.length_take,HN.out],fun m hm=>by
   obtain ⟨x,hx,rfl⟩:=List.mem_map.1 hm
   exact (HK.out x (List.mem_of_mem_take hx)).2⟩,List.sum_replicate_nat])
 have HCS:Hid (xs.flatten.toArray.size=n*11):=Lib.hid (by
  have h3:=HXL.out n
  rw [List.take_of_length_le (by rw [HN.out];omega),Nat.min_self] at h3
  rw [List.size_toArray,h3])
 obtain ⟨cs,hcs⟩:∃ cs,cs=xs.flatten.toArray:=⟨_,rfl⟩
 rw [← hcs] at HCS HB0
 clear hcs
 go_loopw [31] (fun i wr=>∃ (q:Nat) (ys:List (List Value)) (s':P.σ),q≤n∧i=.int .i64 (q:Int)∧eachs P st (xs.take q) s1=.ok (ys,s')∧R s' wr∧Mv B c W wr∧wr.heap[c]?=some (.cells cc2 ct (0,0))∧wr.heap[b]?=some (.cells (wrt cs 0 (ys.flatten++(xs.drop q).flatten)) 84 (0,0))) (fun i _=>n - (intOf i).toNat)
 case atStart=>exact ⟨0,[],s1,by omega,rfl,rfl,HRW.out,HMW.out,HCW0.out,HB0.out⟩
 case round =>
  obtain ⟨q,ys,s',hq,rfl,hrun,hr,hmv,hcv,hbv⟩:=hrel
  have HE:=Lib.hid hrun
  have HS:=Lib.hid hr
  have HM:=Lib.hid hmv
  have HCW:=Lib.hid hcv
  have HBW:=Lib.hid hbv
  clear hrun hr hmv hcv hbv
  have hyl:ys.flatten.length=q*11:=by
   have h1:=eachs_len P st HE.out
   have h2:=HXL.out q
   rw [List.length_flatten] at h2 ⊢
   rw [h1,h2,Nat.min_eq_left hq]
  by_cases hlt:q < n
  ·obtain ⟨x,hx⟩:∃ x,xs[q]?=some x:=⟨_,List.getElem?_eq_getElem (by rw [HN.out];exact hlt)⟩
   have hdrop:xs.drop q=x :: xs.drop (q+1):=by
    have hq':q < xs.length:=by rw [HN.out];exact hlt
    rw [List.drop_eq_getElem_cons hq']
    congr 1
    exact (List.getElem?_eq_some_iff.1 hx).2
   obtain ⟨hxk,hxl⟩:=HK.out x (List.mem_of_getElem? hx)
   have htot:0+(ys.flatten++(x++(xs.drop (q+1)).flatten)).length≤cs.size:=by
    have h1:(xs.drop (q+1)).flatten.length+(xs.take (q+1)).flatten.length=xs.flatten.length:=by
     have:=congrArg List.length (show (xs.take (q+1)++xs.drop (q+1)).flatten=xs.flatten by rw [List.take_append_drop])
     rw [List.flatten_append,List.length_append] at this
     omega
    have h2:=HXL.out (q+1)
    have h3:=HXL.out n
    rw [List.take_of_length_le (by rw [HN.out];omega)] at h3
    have h4:=HCS.out
    rw [Nat.min_eq_left (by omega)] at h2 h3
    rw [List.length_append,List.length_append,hyl,hxl]
    omega
   have hseg:=HBW.out
   rw [hdrop,List.flatten_cons] at hseg
   have hseg2:=hseg
   rw [← wrt_mid' (y:=x) hyl htot rfl,Nat.zero_add] at hseg2
   have kc:wr.cell? ⟨c,oc,none⟩=some (.slice (some ⟨b,0,none⟩) n n):=by rw [cell_of_row _ _ _ _ _ _ HCW.out];exact HCC.out
   have HXQ:=Lib.hid hx
   have HER:Hid (∀ f,runs P st x s'=.error f→eachs P st xs s1=.error f):=Lib.hid (fun f h=>by
    have e:xs=xs.take q++([x]++xs.drop (q+1)):=by
     rw [List.singleton_append,← hdrop,List.take_append_drop]
    rw [e,eachs_append,HE.out]
    (try dsimp only)
    rw [eachs_append,eachs_one,h])
   have hcall:=Lib.hid (EF.out wr s' x b (q*11) (wrt cs 0 (ys.flatten++(x++(xs.drop (q+1)).flatten))) 84 (0,0) hxk HS.out (Nat.le_trans hB HM.out.low.size) (PT.new _ HBb.out) (.inr (by decide)) (by rw [wrt_size htot,hxl];rw [List.length_append,List.length_append,hyl,hxl] at htot;omega) hseg2 (fun h=>HFE.out (HER.out _ h)))
   have HT1:=Lib.hid htot
   have HYL:=Lib.hid hyl
   have HXX:=Lib.hid hxl
   clear hseg hseg2 htot hyl hxl hx hxk hdrop
   have HA:Hid (∀ zs s2,eachs P st [x] s'=.ok (zs,s2)→eachs P st (xs.take (q+1)) s1=.ok (ys++zs,s2)):=Lib.hid (fun zs s2 h=>by
    rw [List.take_add_one,HXQ.out]
    show eachs P st (xs.take q++[x]) s1=_
    rw [eachs_append,HE.out]
    (try dsimp only)
    rw [h])
   go_wp2_with fail
   refine hcall.out.mono ?_
   intro e W' he
   cases hrx:runs P st x s' with
   | error f =>
    rw [hrx] at he
    obtain ⟨rfl,h2⟩:=he
    refine ⟨rfl,?_⟩
    rw [HLP.out]
    (try dsimp only)
    rw [HER.out f hrx]
    exact ⟨rfl,HM.out.low.trans h2⟩
   | ok y =>
    obtain ⟨x',s2⟩:=y
    rw [hrx] at he
    obtain ⟨rfl,h2,h3,h4⟩:=he
    have hxl':=runs_len P st hrx
    have hwm:=wrt_mid' HYL.out HT1.out hxl'
    rw [Nat.zero_add] at hwm
    rw [hwm] at h4
    have H2:=Lib.hid h2
    have H3:=Lib.hid (HM.out.off h3 HNW.out)
    have H4:=Lib.hid h4
    have HC4:=Lib.hid (h3.keep HCW.out (.inr HCT.out) hcb)
    have HEN:=Lib.hid (HA.out [x'] s2 (by rw [eachs_one,hrx]))
    clear h2 h3 h4 kc hxl' hrx hwm
    go_wp2
    go_roundw
    case rel=>exact ⟨q+1,ys++[x'],s2,by omega,by go_num,HEN.out,H2.out,H3.out,HC4.out,by rw [List.flatten_append,List.flatten_singleton,List.append_assoc];exact H4.out⟩
    case measure=>simp [intOf];omega
  ·obtain rfl:n=q:=by omega
   have HF:Hid (eachs P st xs s1=.ok (ys,s')):=Lib.hid (by have:=HE.out;rwa [List.take_of_length_le (by rw [HN.out];omega)] at this)
   have HYN:Hid (ys.length=n):=Lib.hid (by
    have:=congrArg List.length (eachs_len P st HF.out)
    rwa [List.length_map,List.length_map,HN.out] at this)
   have HYL:=Lib.hid hyl
   clear hyl
   go_wp2
   go_end0
   rw [HLP.out]
   (try dsimp only)
   rw [HF.out]
   refine ⟨rfl,HS.out,HM.out,some ⟨b,0,none⟩,by rw [HYN.out,← HQ.out];exact HCW.out,fun _=>⟨b,HNW.out,rfl,?_⟩⟩
   have:=HBW.out
   rwa [List.drop_of_length_le (by rw [HN.out];omega),List.flatten_nil,List.append_nil,wrt_full (by rw [HYL.out,HCS.out])] at this
theorem newS_any (PT:Port P R B ok ti v rv FN FF FG) {F:FuncId} {st:List Sp} {ks:List Nat} (en':∀ (args:Array Value) (w:World),(callFunc F args).run Tryz.prog w=.ok (.enter F args) w)
  (EF:Hid (∀ (W:World) (s:P.σ) (l:List Value) (b o:Nat) (cs:Array Value) (t:TypeId) (fr:Nat × Nat),l.map kind=ks→R s W→B≤W.heap.size→ok b fr→(b < B∨¬ Pt t)→o+l.length≤cs.size→W.heap[b]?=some (.cells (wrt cs o l) t fr)→Fit (runs P st l s)→Calls Tryz.prog F #[.iface ti v,.pointer (some ⟨b,o,none⟩)] W (Ends P R B b o cs t fr (runs P st l s) W)))
  {s:P.σ} {W:World} {most:Int} (hks:([I 0,I 0]:List Value).map kind=ks) (hR:R s W) (hB:B≤W.heap.size) (few:∀ y s1,P.num s 1 most 0=.ok (y,s1)→∃ n:Nat,y=n∧n≤1000)
  {c oc:Nat} {ccs:Array Value} {ct:TypeId} (hc:W.heap[c]?=some (.cells ccs ct (0,0))) (hct:¬ Pt ct) (hcB:B≤c) (hca:ccs[oc]?=some (.slice none 0 0)) (hfit:Fit (listN P most st [I 0,I 0] s)) :
  Calls Tryz.prog 72 #[.iface ti v,.int .i64 most,.pointer (some ⟨c,oc,none⟩),.func (.func F) #[] #[]] W (EndsN P R B c oc ccs ct 86 (listN P most st [I 0,I 0] s) W):=by
 have hm:=PT.mn
 have en:=PT.en
 have HKS:=Lib.hid hks
 have HCT:=Lib.hid hct
 have HC:=Lib.hid hc
 have FW:=Lib.hid few
 have HR:=Lib.hid hR
 have HCA:=Lib.hid hca
 have k1:W.cell? ⟨c,oc,none⟩=some (.slice none 0 0):=by rw [cell_of_row _ _ _ _ _ _ hc];exact hca
 have hcl:=(Array.getElem?_eq_some_iff.1 hc).1
 have hb1:Below W.heap.size W (W.alloc (.cells #[I 0] 3)):=(Below.refl _ _).alloc (Nat.le_refl _) _
 have hst:=PT.stay s W _ hR hb1.size (fun j cs t fr hj _=>hb1.block j (Array.getElem?_eq_some_iff.1 hj).1)
 have hfn:Fit (Sp.run P [I 0] s (.num 1 most 0)):=fun h=>by
  simp only [Sp.run,List.getElem?_cons_zero] at h
  cases hp:P.num s 1 most 0 with
  | ok y=>rw [hp] at h;cases h
  | error f=>rw [hp] at h;cases h;exact hfit (by unfold listN;rw [hp])
 have HFIT:=Lib.hid hfit
 clear hfit
 have hnum:=Lib.hid (PT.num s (W.alloc (.cells #[I 0] 3)) W.heap.size 0 #[I 0] 3 (0,0) [I 0] 1 most 0 0 hst (Nat.le_trans hB hb1.size) (PT.new _ hB) (.inr (by decide)) (by simp) (by rw [wrt_same (by simp) (by intro j hj;match j,hj with | 0,_=>rfl)];exact heap_alloc_new W _) rfl hfn)
 clear hks hct hc few hR hca hst hfn
 obtain ⟨zr,hzr⟩:∃ zr:List Value,zr=[I 0,I 0]:=⟨_,rfl⟩
 have hzl:zr.length=2:=by rw [hzr];rfl
 rw [← hzr] at HKS HFIT ⊢
 have HZR:=Lib.hid hzr
 have HZL:=Lib.hid hzl
 clear hzr hzl
 have HLP:Hid (listN P most st zr s=match P.num s 1 most 0 with
   | .error f=>.error f
   | .ok (y,s1)=>eachs P st (List.replicate y.toNat zr) s1):=Lib.hid rfl
 generalize listN P most st zr s=r0 at HLP HFIT ⊢
 go_enter Tryz.func72,Tryz.ntmps72
 go_upto_region 1 with fail
 generalize World.alloc W _=W1 at hb1 hnum ⊢
 generalize hnb:W.heap.size=nb at hb1 hnum ⊢
 have HB1:=Lib.hid hb1
 clear hb1
 go_wp2_with fail
 refine hnum.out.mono ?_
 intro e W2 he
 simp only [Sp.run,List.getElem?_cons_zero] at he
 cases hr:P.num s 1 most 0 with
 | error f =>
  rw [hr] at he HLP
  obtain ⟨rfl,h2⟩:=he
  refine ⟨rfl,?_⟩
  rw [HLP.out]
  exact ⟨rfl,(HB1.out.mono (by omega)).trans h2⟩
 | ok y =>
 obtain ⟨y,s1⟩:=y
 obtain ⟨n,rfl,hn2⟩:=FW.out _ _ hr
 rw [hr] at he HLP
 obtain ⟨xs,hxs⟩:∃ xs,xs=List.replicate n zr:=⟨_,rfl⟩
 have hn:xs.length=n:=by rw [hxs,List.length_replicate]
 have hk:∀ x ∈ xs,x.map kind=ks∧x.length=2:=fun x hx=>by
  rw [hxs] at hx
  obtain rfl:=List.eq_of_mem_replicate hx
  exact ⟨HKS.out,HZL.out⟩
 have HN:=Lib.hid hn
 have HK:=Lib.hid hk
 have HXS:=Lib.hid hxs
 dsimp only at HLP
 rw [Int.toNat_natCast,← hxs] at HLP
 clear hn hk hxs
 have HFE:Hid (Fit (eachs P st xs s1)):=Lib.hid (by have:=HFIT.out;rw [HLP.out] at this;exact this)
 clear HFIT FW
 obtain ⟨rfl,h2,h3,h4⟩:=he
 have hwn:wrt #[I 0] 0 ([I 0].set 0 (I (n:Int)))=#[I (n:Int)]:=wrt_full rfl
 rw [hwn] at h4
 clear hwn
 have hC2:=h3.keep ((HB1.out.block c (by rw [← hnb];exact hcl)).trans HC.out) (.inr HCT.out) (by omega)
 have kn:W2.cell? ⟨nb,0,none⟩=some (I (n:Int)):=by rw [cell_of_row _ _ _ _ _ _ h4];rfl
 have k1:W2.cell? ⟨c,oc,none⟩=some (.slice none 0 0):=by rw [cell_of_row _ _ _ _ _ _ hC2];exact HCA.out
 have HM:Hid (Mv B c W W2):=Lib.hid ⟨(HB1.out.mono (by omega)).trans h3.low,fun j cs t fr hj hjt hjb=>by
  have hjl:=(Array.getElem?_eq_some_iff.1 hj).1
  have h1:=(HB1.out.block j (by omega)).trans hj
  exact (h3.other j cs t fr h1 hjt (by omega)).trans (HB1.out.block j (by omega))⟩
 have HR2:=Lib.hid h2
 have HC2:=Lib.hid hC2
 have HNB:=Lib.hid h4
 have HBS:Hid (B≤W2.heap.size):=Lib.hid (Nat.le_trans (Nat.le_trans hB HB1.out.size) h3.low.size)
 clear h2 h3 h4 hC2 hnum hr HC HB1 HR
 go_upto_region 2 with fail
 have q1:∀ p:QB.By W2.heap.size W2,p.world.cell? ⟨nb,0,none⟩=some (I (n:Int)):=fun p=>(p.below.cell (World.block_lt_of_cell? W2 _ kn)).trans kn
 have q2:∀ p:QB.By W2.heap.size W2,p.world.cell? ⟨c,oc,none⟩=some (.slice none 0 0):=fun p=>(p.below.cell (World.block_lt_of_cell? W2 _ k1)).trans k1
 refine QB.region_below W2.heap.size (by kernel_rfl) (by kernel_rfl) ?_
 repeat (quiet_step (fail))
 refine wpQuiet_nil ?_
 intro _ hw'
 obtain ⟨p,rfl⟩:=hw'
 have k2:=q2 p
 have kn2:=q1 p
 have HRV:=Lib.hid (PT.stay s1 W2 p.world HR2.out p.below.size (fun j cs t fr hj _=>p.below.block j (Array.getElem?_eq_some_iff.1 hj).1))
 have HMV:=Lib.hid (HM.out.trans (Mv.of p.below HBS.out))
 have HCV:Hid (p.world.heap[c]?=some (.cells ccs ct (0,0))):=Lib.hid ((p.below.block c (Array.getElem?_eq_some_iff.1 HC2.out).1).trans HC2.out)
 have HBV:Hid (B≤p.world.heap.size):=Lib.hid (Nat.le_trans HBS.out p.below.size)
 have HNV:Hid (p.world.heap[nb]?=some (.cells #[I (n:Int)] 3 (0,0))):=Lib.hid ((p.below.block nb (Array.getElem?_eq_some_iff.1 HNB.out).1).trans HNB.out)
 clear q1 q2 kn k1 HM HR2 HC2 HBS HNB
 generalize p.world=V at k2 kn2 HRV HMV HCV HBV HNV ⊢
 rcases Nat.eq_zero_or_pos n with h0 | h0
 ·subst h0
  obtain rfl:=List.eq_nil_of_length_eq_zero HN.out
  have hne:((((0:Nat):Int)) != 0)=false:=by decide
  go_wp2_with fail
  refine wp_loop_rounds 1 ?_
  rw [rounds_succ]
  go_wp2
  go_end0
  rw [HLP.out]
  exact ⟨rfl,HRV.out,HMV.out,none,by rw [List.length_nil,put_same HCA.out];exact HCV.out,fun h=>absurd rfl h⟩
 have hne:((n:Int) != 0)=true:=by simp;omega
 go_wp2_with (at_make;refine Copy.wpList_make_zero rfl _ _ 29 86 rfl Tryz.underlying29 _ _ _ Clone.zB (by rfl) n (by first | rfl | go_simp) (by first | rfl | go_simp) hn2 (by decide) ?_)
 intro V2 hg2 hb2 hs2
 generalize hbb:V.heap.size=b at hg2 ⊢
 have hC3:=(hb2.block c (Array.getElem?_eq_some_iff.1 HCV.out).1).trans HCV.out
 have c1:V2.cell? ⟨c,oc,none⟩=some (.slice none 0 0):=by rw [cell_of_row _ _ _ _ _ _ hC3];exact HCA.out
 have f1:V2.frozen? ⟨c,oc,none⟩=false:=frozen_of_row _ _ _ _ _ hC3
 go_wp2_with fail
 rw [setCell_eq_setRow _ _ _ _ _ _ _ hC3]
 have hC4:=setRow_heap V2 c _ (ccs.setIfInBounds oc (.slice (some ⟨b,0,none⟩) n n)) ct (0,0) hC3
 have hbut:Rd.But c V2 (V2.setRow c (ccs.setIfInBounds oc (.slice (some ⟨b,0,none⟩) n n))):=by
  rw [← setCell_eq_setRow _ _ _ _ _ _ _ hC3]
  exact Rd.But.set c _ V2 _
 have hst:∀ k,k ≠ c→(V2.setRow c (ccs.setIfInBounds oc (.slice (some ⟨b,0,none⟩) n n))).heap[k]?=V2.heap[k]?:=fun k hk=>setRow_other _ _ _ _ hk
 generalize V2.setRow c _=V3 at hC4 hbut hst ⊢
 have hoc:oc < ccs.size:=(Array.getElem?_eq_some_iff.1 HCA.out).1
 have HCC:Hid ((ccs.setIfInBounds oc (.slice (some ⟨b,0,none⟩) n n))[oc]?=some (.slice (some ⟨b,0,none⟩) n n)):=Lib.hid (by rw [Array.getElem?_setIfInBounds,if_pos rfl,if_pos hoc])
 have hcV:=(Array.getElem?_eq_some_iff.1 HCV.out).1
 have HRW:Hid (R s1 V3):=Lib.hid (PT.stay s1 V V3 HRV.out (Nat.le_trans hb2.size hbut.size) (fun j cs t fr hj hp=>by
  have hjc:j ≠ c:=fun e=>by
   subst e
   have h1:=HCV.out
   rw [hj] at h1
   cases h1
   exact HCT.out hp
  exact (hst j hjc).trans (hb2.block j (Array.getElem?_eq_some_iff.1 hj).1)))
 have HMW:Hid (Mv B c W V3):=Lib.hid (HMV.out.trans ((Mv.of hb2 HBV.out).trans ⟨hbut.below (Nat.le_trans HBV.out hb2.size) hcB,fun j cs t fr hj hp hjc=>hst j hjc⟩))
 have HZF:Hid (xs.flatten=(List.replicate n zr).flatten):=Lib.hid (by rw [HXS.out])
 have HB0:Hid (V3.heap[b]?=some (.cells (wrt xs.flatten.toArray 0 xs.flatten) 86 (0,0))):=Lib.hid (by
  rw [wrt_full (by simp),hst b (by omega),hg2,HZF.out,HZR.out] <;> simp)
 have HCW0:=Lib.hid hC4
 have HNW:Hid (W.heap.size≤b):=Lib.hid (by rw [← hbb];exact HMV.out.low.size)
 have HBb:Hid (B≤b):=Lib.hid (by rw [← hbb];exact HBV.out)
 have hcb:c ≠ b:=by omega
 clear hC3 hC4 hbut hst c1 f1 hg2 hb2 hs2 k2 kn2 HRV HMV HCV HBV HNV hbb HXS HZF HCA hoc
 obtain ⟨cc2,hcc⟩:∃ cc2,cc2=ccs.setIfInBounds oc (.slice (some ⟨b,0,none⟩) n n):=⟨_,rfl⟩
 rw [← hcc] at HCC HCW0
 have HQ:=Lib.hid hcc
 clear hcc
 have HXL:Hid (∀ q,(xs.take q).flatten.length=min q n*2):=Lib.hid (fun q=>by
  rw [List.length_flatten,show (xs.take q).map List.length=List.replicate (min q n) 2 from List.eq_replicate_iff.2 ⟨by rw [List.length_map,List.length_take,HN.out],fun m hm=>by
   obtain ⟨x,hx,rfl⟩:=List.mem_map.1 hm
   exact (HK.out x (List.mem_of_mem_take hx)).2⟩,List.sum_replicate_nat])
 have HCS:Hid (xs.flatten.toArray.size=n*2):=Lib.hid (by
  have h3:=HXL.out n
  rw [List.take_of_length_le (by rw [HN.out];omega),Nat.min_self] at h3
  rw [List.size_toArray,h3])
 obtain ⟨cs,hcs⟩:∃ cs,cs=xs.flatten.toArray:=⟨_,rfl⟩
 rw [← hcs] at HCS HB0
 clear hcs
 go_loopw [31] (fun i wr=>∃ (q:Nat) (ys:List (List Value)) (s':P.σ),q≤n∧i=.int .i64 (q:Int)∧eachs P st (xs.take q) s1=.ok (ys,s')∧R s' wr∧Mv B c W wr∧wr.heap[c]?=some (.cells cc2 ct (0,0))∧wr.heap[b]?=some (.cells (wrt cs 0 (ys.flatten++(xs.drop q).flatten)) 86 (0,0))) (fun i _=>n - (intOf i).toNat)
 case atStart=>exact ⟨0,[],s1,by omega,rfl,rfl,HRW.out,HMW.out,HCW0.out,HB0.out⟩
 case round =>
  obtain ⟨q,ys,s',hq,rfl,hrun,hr,hmv,hcv,hbv⟩:=hrel
  have HE:=Lib.hid hrun
  have HS:=Lib.hid hr
  have HM:=Lib.hid hmv
  have HCW:=Lib.hid hcv
  have HBW:=Lib.hid hbv
  clear hrun hr hmv hcv hbv
  have hyl:ys.flatten.length=q*2:=by
   have h1:=eachs_len P st HE.out
   have h2:=HXL.out q
   rw [List.length_flatten] at h2 ⊢
   rw [h1,h2,Nat.min_eq_left hq]
  by_cases hlt:q < n
  ·obtain ⟨x,hx⟩:∃ x,xs[q]?=some x:=⟨_,List.getElem?_eq_getElem (by rw [HN.out];exact hlt)⟩
   have hdrop:xs.drop q=x :: xs.drop (q+1):=by
    have hq':q < xs.length:=by rw [HN.out];exact hlt
    rw [List.drop_eq_getElem_cons hq']
    congr 1
    exact (List.getElem?_eq_some_iff.1 hx).2
   obtain ⟨hxk,hxl⟩:=HK.out x (List.mem_of_getElem? hx)
   have htot:0+(ys.flatten++(x++(xs.drop (q+1)).flatten)).length≤cs.size:=by
    have h1:(xs.drop (q+1)).flatten.length+(xs.take (q+1)).flatten.length=xs.flatten.length:=by
     have:=congrArg List.length (show (xs.take (q+1)++xs.drop (q+1)).flatten=xs.flatten by rw [List.take_append_drop])
     rw [List.flatten_append,List.length_append] at this
     omega
    have h2:=HXL.out (q+1)
    have h3:=HXL.out n
    rw [List.take_of_length_le (by rw [HN.out];omega)] at h3
    have h4:=HCS.out
    rw [Nat.min_eq_left (by omega)] at h2 h3
    rw [List.length_append,List.length_append,hyl,hxl]
    omega
   have hseg:=HBW.out
   rw [hdrop,List.flatten_cons] at hseg
   have hseg2:=hseg
   rw [← wrt_mid' (y:=x) hyl htot rfl,Nat.zero_add] at hseg2
   have kc:wr.cell? ⟨c,oc,none⟩=some (.slice (some ⟨b,0,none⟩) n n):=by rw [cell_of_row _ _ _ _ _ _ HCW.out];exact HCC.out
   have HXQ:=Lib.hid hx
   have HER:Hid (∀ f,runs P st x s'=.error f→eachs P st xs s1=.error f):=Lib.hid (fun f h=>by
    have e:xs=xs.take q++([x]++xs.drop (q+1)):=by
     rw [List.singleton_append,← hdrop,List.take_append_drop]
    rw [e,eachs_append,HE.out]
    (try dsimp only)
    rw [eachs_append,eachs_one,h])
   have hcall:=Lib.hid (EF.out wr s' x b (q*2) (wrt cs 0 (ys.flatten++(x++(xs.drop (q+1)).flatten))) 86 (0,0) hxk HS.out (Nat.le_trans hB HM.out.low.size) (PT.new _ HBb.out) (.inr (by decide)) (by rw [wrt_size htot,hxl];rw [List.length_append,List.length_append,hyl,hxl] at htot;omega) hseg2 (fun h=>HFE.out (HER.out _ h)))
   have HT1:=Lib.hid htot
   have HYL:=Lib.hid hyl
   have HXX:=Lib.hid hxl
   clear hseg hseg2 htot hyl hxl hx hxk hdrop
   have HA:Hid (∀ zs s2,eachs P st [x] s'=.ok (zs,s2)→eachs P st (xs.take (q+1)) s1=.ok (ys++zs,s2)):=Lib.hid (fun zs s2 h=>by
    rw [List.take_add_one,HXQ.out]
    show eachs P st (xs.take q++[x]) s1=_
    rw [eachs_append,HE.out]
    (try dsimp only)
    rw [h])
   go_wp2_with fail
   refine hcall.out.mono ?_
   intro e W' he
   cases hrx:runs P st x s' with
   | error f =>
    rw [hrx] at he
    obtain ⟨rfl,h2⟩:=he
    refine ⟨rfl,?_⟩
    rw [HLP.out]
    (try dsimp only)
    rw [HER.out f hrx]
    exact ⟨rfl,HM.out.low.trans h2⟩
   | ok y =>
    obtain ⟨x',s2⟩:=y
    rw [hrx] at he
    obtain ⟨rfl,h2,h3,h4⟩:=he
    have hxl':=runs_len P st hrx
    have hwm:=wrt_mid' HYL.out HT1.out hxl'
    rw [Nat.zero_add] at hwm
    rw [hwm] at h4
    have H2:=Lib.hid h2
    have H3:=Lib.hid (HM.out.off h3 HNW.out)
    have H4:=Lib.hid h4
    have HC4:=Lib.hid (h3.keep HCW.out (.inr HCT.out) hcb)
    have HEN:=Lib.hid (HA.out [x'] s2 (by rw [eachs_one,hrx]))
    clear h2 h3 h4 kc hxl' hrx hwm
    go_wp2
    go_roundw
    case rel=>exact ⟨q+1,ys++[x'],s2,by omega,by go_num,HEN.out,H2.out,H3.out,HC4.out,by rw [List.flatten_append,List.flatten_singleton,List.append_assoc];exact H4.out⟩
    case measure=>simp [intOf];omega
  ·obtain rfl:n=q:=by omega
   have HF:Hid (eachs P st xs s1=.ok (ys,s')):=Lib.hid (by have:=HE.out;rwa [List.take_of_length_le (by rw [HN.out];omega)] at this)
   have HYN:Hid (ys.length=n):=Lib.hid (by
    have:=congrArg List.length (eachs_len P st HF.out)
    rwa [List.length_map,List.length_map,HN.out] at this)
   have HYL:=Lib.hid hyl
   clear hyl
   go_wp2
   go_end0
   rw [HLP.out]
   (try dsimp only)
   rw [HF.out]
   refine ⟨rfl,HS.out,HM.out,some ⟨b,0,none⟩,by rw [HYN.out,← HQ.out];exact HCW.out,fun _=>⟨b,HNW.out,rfl,?_⟩⟩
   have:=HBW.out
   rwa [List.drop_of_length_le (by rw [HN.out];omega),List.flatten_nil,List.append_nil,wrt_full (by rw [HYL.out,HCS.out])] at this
end
end Po
namespace Po
open Go Go.RowKit Go.ChangeShapes
open Tab
def NewRow (n0:Nat) (W:World) (a:Option Addr) (xs:List (List Value)) (T:TypeId):Prop:=xs ≠ []→∃ b,n0≤b∧a=some ⟨b,0,none⟩∧W.heap[b]?=some (.cells xs.flatten.toArray T (0,0))
theorem NewRow.keep {n0 c B:Nat} {W V:World} {a:Option Addr} {xs:List (List Value)} {T:TypeId} (h:NewRow n0 W a xs T) (k:Mv B c W V) (hc:c < n0) (hT:¬ Pt T):NewRow n0 V a xs T:=fun hx=>by
 obtain ⟨b,h1,h2,h3⟩:=h hx
 exact ⟨b,h1,h2,k.keep h3 (.inr hT) (by omega)⟩
theorem NewRow.weak {n0 n1:Nat} {W:World} {a:Option Addr} {xs:List (List Value)} {T:TypeId} (h:NewRow n0 W a xs T) (hn:n1≤n0):NewRow n1 W a xs T:=fun hx=>by
 obtain ⟨b,h1,h2,h3⟩:=h hx
 exact ⟨b,by omega,h2,h3⟩
def rowN (P:PP) (s:P.σ):Except Flt (List (List Value) × P.σ):=listN P 8 [.num 1 7 0] [I 0] s
def grpN (P:PP) (s:P.σ):Except Flt ((List (List Value) × List (List Value)) × P.σ):=match rowN P s with
 | .error f=>.error f
 | .ok (r0,s1)=>match rowN P s1 with
  | .error f=>.error f
  | .ok (r1,s2)=>.ok ((r0,r1),s2)
def slc (a:Option Addr) (xs:List (List Value)):Value:=.slice a xs.length xs.length
def EndsP (P:PP) (R:P.σ→World→Prop) (B c oc:Nat) (ccs:Array Value) (ct:TypeId) (r:Except Flt ((List (List Value) × List (List Value)) × P.σ)) (W:World) (e:Ending) (W':World):Prop:=match r with
 | .ok (g,s')=>e=.returned (.tuple #[])∧R s' W'∧Mv B c W W'∧∃ a0 a1,W'.heap[c]?=some (.cells ((ccs.setIfInBounds oc (slc a0 g.1)).setIfInBounds (oc+1) (slc a1 g.2)) ct (0,0))∧NewRow W.heap.size W' a0 g.1 3∧NewRow W.heap.size W' a1 g.2 3
 | .error f=>e=.panicked [{ v:=fault f,recovered:=false }]∧Below B W W'
section
variable {P:PP} {R:P.σ→World→Prop} {B:Nat} {ok:Nat→Nat × Nat→Prop} {ti:TypeId} {v rv:Value} {FN FF FG:FuncId}
theorem place_each (PT:Port P R B ok ti v rv FN FF FG) (W:World) (s:P.σ) (l:List Value) (b o:Nat) (cs:Array Value) (t:TypeId) (fr:Nat × Nat) (hk:l.map kind=[0]) (hR:R s W) (hB:B≤W.heap.size) (hok:ok b fr) (ht:b < B∨¬ Pt t) (hl:o+l.length≤cs.size) (hb:W.heap[b]?=some (.cells (wrt cs o l) t fr)) (hf:Fit (runs P [.num 1 7 0] l s)) :
  Calls Tryz.prog 107 #[.iface ti v,.pointer (some ⟨b,o,none⟩)] W (Ends P R B b o cs t fr (runs P [.num 1 7 0] l s) W):=by
 obtain ⟨x,hx⟩:=int_at hk (j:=0) rfl
 rw [runs_one] at hf ⊢
 exact place_any PT hR hB hok ht hl hb hx hf
theorem row_any (PT:Port P R B ok ti v rv FN FF FG) (few:∀ s y s1,P.num s 1 8 0=.ok (y,s1)→∃ n:Nat,y=n∧n≤1000) {s:P.σ} {W:World} (hR:R s W) (hB:B≤W.heap.size)
  {c oc:Nat} {ccs:Array Value} {ct:TypeId} (hc:W.heap[c]?=some (.cells ccs ct (0,0))) (hct:¬ Pt ct) (hcB:B≤c) (hca:ccs[oc]?=some (.slice none 0 0)) (hfit:Fit (rowN P s)) :
  Calls Tryz.prog 106 #[.iface ti v,.int .i64 8,.pointer (some ⟨c,oc,none⟩),.func (.func 107) #[] #[]] W (EndsN P R B c oc ccs ct 3 (rowN P s) W) :=
 newI_any PT (fun _ _=>rfl) (Lib.hid (place_each PT)) rfl hR hB (few s) hc hct hcB hca hfit
theorem grp_any (PT:Port P R B ok ti v rv FN FF FG) (few:∀ s y s1,P.num s 1 8 0=.ok (y,s1)→∃ n:Nat,y=n∧n≤1000) {s:P.σ} {W:World} (hR:R s W) (hB:B≤W.heap.size)
  {c oc:Nat} {ccs:Array Value} {ct:TypeId} (hc:W.heap[c]?=some (.cells ccs ct (0,0))) (hct:¬ Pt ct) (hcB:B≤c) (h0:ccs[oc]?=some (.slice none 0 0)) (h1:ccs[oc+1]?=some (.slice none 0 0)) (hfit:Fit (grpN P s)) :
  Calls Tryz.prog 66 #[.iface ti v,.pointer (some ⟨c,oc,none⟩)] W (EndsP P R B c oc ccs ct (grpN P s) W):=by
 have hf0:Fit (rowN P s):=fun h=>hfit (by unfold grpN;rw [h])
 have HC0:=Lib.hid (row_any PT few hR hB hc hct hcB h0 hf0)
 have hcl:=(Array.getElem?_eq_some_iff.1 hc).1
 have HSEC:Hid (∀ r0 s1 V a0,rowN P s=.ok (r0,s1)→R s1 V→Mv B c W V→V.heap[c]?=some (.cells (ccs.setIfInBounds oc (slc a0 r0)) ct (0,0))→Calls Tryz.prog 106 #[.iface ti v,.int .i64 8,.pointer (some ⟨c,oc+1,none⟩),.func (.func 107) #[] #[]] V (EndsN P R B c (oc+1) (ccs.setIfInBounds oc (slc a0 r0)) ct 3 (rowN P s1) V)):=Lib.hid (fun r0 s1 V a0 hr hR1 hm hV=>by
  refine row_any PT few hR1 (Nat.le_trans hB hm.low.size) hV hct hcB ?_ (fun h=>hfit (by unfold grpN;rw [hr];dsimp only;rw [h]))
  rw [Array.getElem?_setIfInBounds,if_neg (by omega)]
  exact h1)
 have HG:Hid (grpN P s=match rowN P s with
 | .error f=>.error f
 | .ok (r0,s1)=>match rowN P s1 with
  | .error f=>.error f
  | .ok (r1,s2)=>.ok ((r0,r1),s2)):=Lib.hid rfl
 have HCT:=Lib.hid hct
 generalize hres:grpN P s=res at HG ⊢
 clear PT few hR hc h0 h1 hfit hf0 hct hres
 go_enter Tryz.func66,Tryz.ntmps66
 go_wp2_with fail
 refine wp_loop_rounds 3 ?_
 rw [rounds_succ]
 go_wp2_with fail
 refine HC0.out.mono ?_
 intro e V he
 cases hr:rowN P s with
 | error f =>
  rw [hr] at he
  obtain ⟨rfl,h2⟩:=he
  refine ⟨rfl,?_⟩
  rw [HG.out,hr]
  exact ⟨rfl,h2⟩
 | ok y =>
 obtain ⟨r0,s1⟩:=y
 rw [hr] at he
 obtain ⟨rfl,hR1,hm1,a0,hV,hn0⟩:=he
 have HS:=Lib.hid (HSEC.out r0 s1 V a0 hr hR1 hm1 hV)
 have HM1:=Lib.hid hm1
 have HN0:Hid (NewRow W.heap.size V a0 r0 3):=Lib.hid hn0
 have HR0:=Lib.hid hr
 clear hR1 hm1 hV hn0 hr HSEC HC0
 go_wp2_with fail
 rw [rounds_succ]
 go_wp2_with fail
 refine HS.out.mono ?_
 intro e V' he
 cases hr:rowN P s1 with
 | error f =>
  rw [hr] at he
  obtain ⟨rfl,h2⟩:=he
  refine ⟨rfl,?_⟩
  rw [HG.out,HR0.out]
  dsimp only
  rw [hr]
  exact ⟨rfl,HM1.out.low.trans h2⟩
 | ok y =>
 obtain ⟨r1,s2⟩:=y
 rw [hr] at he
 obtain ⟨rfl,hR2,hm2,a1,hV2,hn1⟩:=he
 have H2:=Lib.hid hR2
 have HM2:=Lib.hid hm2
 have HV2:=Lib.hid hV2
 have HN1:Hid (NewRow V.heap.size V' a1 r1 3):=Lib.hid hn1
 have HR1:=Lib.hid hr
 clear hR2 hm2 hV2 hn1 hr HS
 go_wp2_with fail
 rw [rounds_succ]
 go_wp2
 go_end0
 rw [HG.out,HR0.out]
 dsimp only
 rw [HR1.out]
 exact ⟨rfl,H2.out,HM1.out.trans HM2.out,a0,a1,HV2.out,HN0.out.keep HM2.out hcl (by decide),HN1.out.weak HM1.out.low.size⟩
end
end Po
namespace Po
open Go Go.RowKit Go.ChangeShapes
open Tab
abbrev Zr:Type:=(Option Addr × Option Addr) × (List (List Value) × List (List Value))
def zc (z:Zr):List Value:=[slc z.1.1 z.2.1,slc z.1.2 z.2.2]
abbrev zz:List Value:=[.slice none 0 0,.slice none 0 0]
def Rows (n0:Nat) (W:World) (zs:List Zr):Prop:=∀ z ∈ zs,NewRow n0 W z.1.1 z.2.1 3∧NewRow n0 W z.1.2 z.2.2 3
def grpsN (P:PP):Nat→P.σ→Except Flt (List (List (List Value) × List (List Value)) × P.σ)
 | 0,s=>.ok ([],s)
 | n+1,s=>match grpsN P n s with
  | .error f=>.error f
  | .ok (ys,s')=>match grpN P s' with
   | .error f=>.error f
   | .ok (y,s2)=>.ok (ys++[y],s2)
theorem grps_error {P:PP} {q:Nat} {s:P.σ} {f:Flt}:∀ {n:Nat},q < n→grpsN P (q+1) s=.error f→grpsN P n s=.error f
 | 0,h,_=>absurd h (by omega)
 | n+1,h,he=>by
  by_cases e:q=n
  ·subst e;exact he
  ·rw [grpsN,grps_error (n:=n) (by omega) he]
def listG (P:PP) (most:Int) (s:P.σ):Except Flt (List (List (List Value) × List (List Value)) × P.σ):=match P.num s 1 most 0 with
 | .error f=>.error f
 | .ok (y,s1)=>grpsN P y.toNat s1
def EndsGs (P:PP) (R:P.σ→World→Prop) (B c oc:Nat) (ccs:Array Value) (ct:TypeId) (r:Except Flt (List (List (List Value) × List (List Value)) × P.σ)) (W:World) (e:Ending) (W':World):Prop:=match r with
 | .ok (ys,s')=>e=.returned (.tuple #[])∧R s' W'∧Mv B c W W'∧∃ (a:Option Addr) (zs:List Zr),zs.map (·.2)=ys∧W'.heap[c]?=some (.cells (ccs.setIfInBounds oc (.slice a ys.length ys.length)) ct (0,0))∧(ys ≠ []→∃ b,W.heap.size≤b∧a=some ⟨b,0,none⟩∧W'.heap[b]?=some (.cells (zs.flatMap zc).toArray 55 (0,0)))∧Rows W.heap.size W' zs
 | .error f=>e=.panicked [{ v:=fault f,recovered:=false }]∧Below B W W'
theorem zs_len {zs:List Zr} {q:Nat} (h:zs.length=q):(zs.flatMap zc).length=q*2:=by rw [Copy.flat_len (enc:=zc) (n:=2) (fun _=>rfl),h]
theorem zz_cons {n q:Nat} (h:q < n):(List.replicate (n - q) zz).flatten=.slice none 0 0 :: .slice none 0 0 :: (List.replicate (n - (q+1)) zz).flatten:=by
 rw [show n - q=n - (q+1)+1 by omega,List.replicate_succ,List.flatten_cons]
 rfl
theorem zs_at0 {zs:List Zr} {n q:Nat} (h:zs.length=q) (hq:q < n):(zs.flatMap zc++(List.replicate (n - q) zz).flatten).toArray[q*2]?=some (.slice none 0 0):=by
 rw [List.getElem?_toArray,List.getElem?_append_right (by rw [zs_len h];omega),zs_len h,Nat.sub_self,zz_cons hq]
 rfl
theorem zs_at1 {zs:List Zr} {n q:Nat} (h:zs.length=q) (hq:q < n):(zs.flatMap zc++(List.replicate (n - q) zz).flatten).toArray[q*2+1]?=some (.slice none 0 0):=by
 rw [List.getElem?_toArray,List.getElem?_append_right (by rw [zs_len h];omega),zs_len h,show q*2+1 - q*2=1 by omega,zz_cons hq]
 rfl
theorem zs_set {zs:List Zr} {n q:Nat} {a0 a1:Option Addr} {y:List (List Value) × List (List Value)} (h:zs.length=q) (hq:q < n):(((zs.flatMap zc++(List.replicate (n - q) zz).flatten).toArray.setIfInBounds (q*2) (slc a0 y.1)).setIfInBounds (q*2+1) (slc a1 y.2))=((zs++[((a0,a1),y)]).flatMap zc++(List.replicate (n - (q+1)) zz).flatten).toArray:=by
 rw [List.setIfInBounds_toArray,List.setIfInBounds_toArray,List.set_append_right _ _ (by rw [zs_len h];omega),List.set_append_right _ _ (by rw [zs_len h];omega),zs_len h,Nat.sub_self,show q*2+1 - q*2=1 by omega,zz_cons hq,List.flatMap_append,List.append_assoc]
 rfl
section
variable {P:PP} {R:P.σ→World→Prop} {B:Nat} {ok:Nat→Nat × Nat→Prop} {ti:TypeId} {v rv:Value} {FN FF FG:FuncId}
theorem newG_any (PT:Port P R B ok ti v rv FN FF FG) (few8:∀ s y s1,P.num s 1 8 0=.ok (y,s1)→∃ n:Nat,y=n∧n≤1000)
  {s:P.σ} {W:World} {most:Int} (hR:R s W) (hB:B≤W.heap.size) (few:∀ y s1,P.num s 1 most 0=.ok (y,s1)→∃ n:Nat,y=n∧n≤1000)
  {c oc:Nat} {ccs:Array Value} {ct:TypeId} (hc:W.heap[c]?=some (.cells ccs ct (0,0))) (hct:¬ Pt ct) (hcB:B≤c) (hca:ccs[oc]?=some (.slice none 0 0)) (hfit:Fit (listG P most s)) :
  Calls Tryz.prog 65 #[.iface ti v,.int .i64 most,.pointer (some ⟨c,oc,none⟩),.func (.func 66) #[] #[]] W (EndsGs P R B c oc ccs ct (listG P most s) W):=by
 have hm:=PT.mn
 have en:=PT.en
 have en':∀ (args:Array Value) (w:World),(callFunc 66 args).run Tryz.prog w=.ok (.enter 66 args) w:=fun _ _=>rfl
 have HCT:=Lib.hid hct
 have HC:=Lib.hid hc
 have FW:=Lib.hid few
 have HR:=Lib.hid hR
 have HCA:=Lib.hid hca
 have k1:W.cell? ⟨c,oc,none⟩=some (.slice none 0 0):=by rw [cell_of_row _ _ _ _ _ _ hc];exact hca
 have hcl:=(Array.getElem?_eq_some_iff.1 hc).1
 have hb1:Below W.heap.size W (W.alloc (.cells #[I 0] 3)):=(Below.refl _ _).alloc (Nat.le_refl _) _
 have hst:=PT.stay s W _ hR hb1.size (fun j cs t fr hj _=>hb1.block j (Array.getElem?_eq_some_iff.1 hj).1)
 have hfn:Fit (Sp.run P [I 0] s (.num 1 most 0)):=fun h=>by
  simp only [Sp.run,List.getElem?_cons_zero] at h
  cases hp:P.num s 1 most 0 with
  | ok y=>rw [hp] at h;cases h
  | error f=>rw [hp] at h;cases h;exact hfit (by unfold listG;rw [hp])
 have HFIT:=Lib.hid hfit
 clear hfit
 have hnum:=Lib.hid (PT.num s (W.alloc (.cells #[I 0] 3)) W.heap.size 0 #[I 0] 3 (0,0) [I 0] 1 most 0 0 hst (Nat.le_trans hB hb1.size) (PT.new _ hB) (.inr (by decide)) (by simp) (by rw [wrt_same (by simp) (by intro j hj;match j,hj with | 0,_=>rfl)];exact heap_alloc_new W _) rfl hfn)
 clear hct hc hR hca hst hfn few
 have HLP:Hid (listG P most s=match P.num s 1 most 0 with
   | .error f=>.error f
   | .ok (y,s1)=>grpsN P y.toNat s1):=Lib.hid rfl
 generalize listG P most s=r0 at HLP HFIT ⊢
 go_enter Tryz.func65,Tryz.ntmps65
 go_upto_region 1 with fail
 generalize World.alloc W _=W1 at hb1 hnum ⊢
 generalize hnb:W.heap.size=nb at hb1 hnum ⊢
 have HB1:=Lib.hid hb1
 clear hb1
 go_wp2_with fail
 refine hnum.out.mono ?_
 intro e W2 he
 simp only [Sp.run,List.getElem?_cons_zero] at he
 cases hr:P.num s 1 most 0 with
 | error f =>
  rw [hr] at he HLP
  obtain ⟨rfl,h2⟩:=he
  refine ⟨rfl,?_⟩
  rw [HLP.out]
  exact ⟨rfl,(HB1.out.mono (by omega)).trans h2⟩
 | ok y =>
 obtain ⟨y,s1⟩:=y
 obtain ⟨n,rfl,hn2⟩:=FW.out _ _ hr
 rw [hr] at he HLP
 dsimp only at HLP
 rw [Int.toNat_natCast] at HLP
 have HFE:Hid (Fit (grpsN P n s1)):=Lib.hid (by have:=HFIT.out;rw [HLP.out] at this;exact this)
 clear HFIT FW
 obtain ⟨rfl,h2,h3,h4⟩:=he
 have hwn:wrt #[I 0] 0 ([I 0].set 0 (I (n:Int)))=#[I (n:Int)]:=wrt_full rfl
 rw [hwn] at h4
 clear hwn
 have hC2:=h3.keep ((HB1.out.block c (by rw [← hnb];exact hcl)).trans HC.out) (.inr HCT.out) (by omega)
 have kn:W2.cell? ⟨nb,0,none⟩=some (I (n:Int)):=by rw [cell_of_row _ _ _ _ _ _ h4];rfl
 have k1:W2.cell? ⟨c,oc,none⟩=some (.slice none 0 0):=by rw [cell_of_row _ _ _ _ _ _ hC2];exact HCA.out
 have HM:Hid (Mv B c W W2):=Lib.hid ⟨(HB1.out.mono (by omega)).trans h3.low,fun j cs t fr hj hjt hjb=>by
  have hjl:=(Array.getElem?_eq_some_iff.1 hj).1
  have h1:=(HB1.out.block j (by omega)).trans hj
  exact (h3.other j cs t fr h1 hjt (by omega)).trans (HB1.out.block j (by omega))⟩
 have HR2:=Lib.hid h2
 have HC2:=Lib.hid hC2
 have HNB:=Lib.hid h4
 have HBS:Hid (B≤W2.heap.size):=Lib.hid (Nat.le_trans (Nat.le_trans hB HB1.out.size) h3.low.size)
 clear h2 h3 h4 hC2 hnum hr HC HB1 HR
 go_upto_region 2 with fail
 have q1:∀ p:QB.By W2.heap.size W2,p.world.cell? ⟨nb,0,none⟩=some (I (n:Int)):=fun p=>(p.below.cell (World.block_lt_of_cell? W2 _ kn)).trans kn
 have q2:∀ p:QB.By W2.heap.size W2,p.world.cell? ⟨c,oc,none⟩=some (.slice none 0 0):=fun p=>(p.below.cell (World.block_lt_of_cell? W2 _ k1)).trans k1
 refine QB.region_below W2.heap.size (by kernel_rfl) (by kernel_rfl) ?_
 repeat (quiet_step (fail))
 refine wpQuiet_nil ?_
 intro _ hw'
 obtain ⟨p,rfl⟩:=hw'
 have k2:=q2 p
 have kn2:=q1 p
 have HRV:=Lib.hid (PT.stay s1 W2 p.world HR2.out p.below.size (fun j cs t fr hj _=>p.below.block j (Array.getElem?_eq_some_iff.1 hj).1))
 have HMV:=Lib.hid (HM.out.trans (Mv.of p.below HBS.out))
 have HCV:Hid (p.world.heap[c]?=some (.cells ccs ct (0,0))):=Lib.hid ((p.below.block c (Array.getElem?_eq_some_iff.1 HC2.out).1).trans HC2.out)
 have HBV:Hid (B≤p.world.heap.size):=Lib.hid (Nat.le_trans HBS.out p.below.size)
 have HNV:Hid (p.world.heap[nb]?=some (.cells #[I (n:Int)] 3 (0,0))):=Lib.hid ((p.below.block nb (Array.getElem?_eq_some_iff.1 HNB.out).1).trans HNB.out)
 clear q1 q2 kn k1 HM HR2 HC2 HBS HNB
 generalize p.world=V at k2 kn2 HRV HMV HCV HBV HNV ⊢
 rcases Nat.eq_zero_or_pos n with h0 | h0
 ·subst h0
  have hne:((((0:Nat):Int)) != 0)=false:=by decide
  go_wp2_with fail
  refine wp_loop_rounds 1 ?_
  rw [rounds_succ]
  go_wp2
  go_end0
  rw [HLP.out]
  exact ⟨rfl,HRV.out,HMV.out,none,[],rfl,by rw [List.length_nil,put_same HCA.out];exact HCV.out,fun h=>absurd rfl h,fun z hz=>by cases hz⟩
 have hne:((n:Int) != 0)=true:=by simp;omega
 go_wp2_with (at_make;refine Copy.wpList_make_zero rfl _ _ 25 55 rfl Tryz.underlying25 _ _ _ Clone.zG (by rfl) n (by first | rfl | go_simp) (by first | rfl | go_simp) hn2 (by decide) ?_)
 intro V2 hg2 hb2 hs2
 generalize hbb:V.heap.size=b at hg2 ⊢
 have hC3:=(hb2.block c (Array.getElem?_eq_some_iff.1 HCV.out).1).trans HCV.out
 have c1:V2.cell? ⟨c,oc,none⟩=some (.slice none 0 0):=by rw [cell_of_row _ _ _ _ _ _ hC3];exact HCA.out
 have f1:V2.frozen? ⟨c,oc,none⟩=false:=frozen_of_row _ _ _ _ _ hC3
 go_wp2_with fail
 rw [setCell_eq_setRow _ _ _ _ _ _ _ hC3]
 have hC4:=setRow_heap V2 c _ (ccs.setIfInBounds oc (.slice (some ⟨b,0,none⟩) n n)) ct (0,0) hC3
 have hbut:Rd.But c V2 (V2.setRow c (ccs.setIfInBounds oc (.slice (some ⟨b,0,none⟩) n n))):=by
  rw [← setCell_eq_setRow _ _ _ _ _ _ _ hC3]
  exact Rd.But.set c _ V2 _
 have hst:∀ k,k ≠ c→(V2.setRow c (ccs.setIfInBounds oc (.slice (some ⟨b,0,none⟩) n n))).heap[k]?=V2.heap[k]?:=fun k hk=>setRow_other _ _ _ _ hk
 generalize V2.setRow c _=V3 at hC4 hbut hst ⊢
 have hoc:oc < ccs.size:=(Array.getElem?_eq_some_iff.1 HCA.out).1
 have HCC:Hid ((ccs.setIfInBounds oc (.slice (some ⟨b,0,none⟩) n n))[oc]?=some (.slice (some ⟨b,0,none⟩) n n)):=Lib.hid (by rw [Array.getElem?_setIfInBounds,if_pos rfl,if_pos hoc])
 have hcV:=(Array.getElem?_eq_some_iff.1 HCV.out).1
 have HRW:Hid (R s1 V3):=Lib.hid (PT.stay s1 V V3 HRV.out (Nat.le_trans hb2.size hbut.size) (fun j cs t fr hj hp=>by
  have hjc:j ≠ c:=fun e=>by
   subst e
   have h1:=HCV.out
   rw [hj] at h1
   cases h1
   exact HCT.out hp
  exact (hst j hjc).trans (hb2.block j (Array.getElem?_eq_some_iff.1 hj).1)))
 have HMW:Hid (Mv B c W V3):=Lib.hid (HMV.out.trans ((Mv.of hb2 HBV.out).trans ⟨hbut.below (Nat.le_trans HBV.out hb2.size) hcB,fun j cs t fr hj hp hjc=>hst j hjc⟩))
 have HB0:Hid (V3.heap[b]?=some (.cells ((([]:List Zr).flatMap zc)++(List.replicate (n - 0) zz).flatten).toArray 55 (0,0))):=Lib.hid (by
  rw [hst b (by omega),hg2,Nat.sub_zero]
  first | rfl | simp [zz])
 have HCW0:=Lib.hid hC4
 have HNW:Hid (W.heap.size≤b):=Lib.hid (by rw [← hbb];exact HMV.out.low.size)
 have HBb:Hid (B≤b):=Lib.hid (by rw [← hbb];exact HBV.out)
 have hcb:c ≠ b:=by omega
 clear hC3 hC4 hbut hst c1 f1 hg2 hb2 hs2 k2 kn2 HRV HMV HCV HBV HNV hbb HCA hoc
 obtain ⟨cc2,hcc⟩:∃ cc2,cc2=ccs.setIfInBounds oc (.slice (some ⟨b,0,none⟩) n n):=⟨_,rfl⟩
 rw [← hcc] at HCC HCW0
 have HQ:=Lib.hid hcc
 clear hcc
 go_loopw [31] (fun i wr=>∃ (q:Nat) (zs:List Zr) (s':P.σ),q≤n∧i=.int .i64 (q:Int)∧zs.length=q∧grpsN P q s1=.ok (zs.map (·.2),s')∧R s' wr∧Mv B c W wr∧b < wr.heap.size∧wr.heap[c]?=some (.cells cc2 ct (0,0))∧wr.heap[b]?=some (.cells (zs.flatMap zc++(List.replicate (n - q) zz).flatten).toArray 55 (0,0))∧Rows (b+1) wr zs) (fun i _=>n - (intOf i).toNat)
 case atStart=>exact ⟨0,[],s1,by omega,rfl,rfl,rfl,HRW.out,HMW.out,(Array.getElem?_eq_some_iff.1 HB0.out).1,HCW0.out,HB0.out,fun z hz=>by cases hz⟩
 case round =>
  obtain ⟨q,zs,s',hq,rfl,hzl,hrun,hr,hmv,hbs,hcv,hbv,hrw⟩:=hrel
  have HE:=Lib.hid hrun
  have HS:=Lib.hid hr
  have HM:=Lib.hid hmv
  have HCW:=Lib.hid hcv
  have HBW:=Lib.hid hbv
  have HRO:=Lib.hid hrw
  clear hrun hr hmv hcv hbv hrw
  by_cases hlt:q < n
  ·have kc:wr.cell? ⟨c,oc,none⟩=some (.slice (some ⟨b,0,none⟩) n n):=by rw [cell_of_row _ _ _ _ _ _ HCW.out];exact HCC.out
   have HER:Hid (∀ f,grpN P s'=.error f→grpsN P n s1=.error f):=Lib.hid (fun f h=>grps_error hlt (by unfold grpsN;rw [HE.out];dsimp only;rw [h]))
   have hcall:=Lib.hid (grp_any PT few8 HS.out (Nat.le_trans hB HM.out.low.size) HBW.out (by decide) HBb.out (zs_at0 hzl hlt) (zs_at1 hzl hlt) (fun h=>HFE.out (HER.out _ h)))
   go_wp2_with fail
   refine hcall.out.mono ?_
   intro e W' he
   cases hrx:grpN P s' with
   | error f =>
    rw [hrx] at he
    obtain ⟨rfl,h2⟩:=he
    refine ⟨rfl,?_⟩
    rw [HLP.out]
    (try dsimp only)
    rw [HER.out f hrx]
    exact ⟨rfl,HM.out.low.trans h2⟩
   | ok y =>
    obtain ⟨y,s2⟩:=y
    rw [hrx] at he
    obtain ⟨rfl,h2,h3,a0,a1,h4,h5,h6⟩:=he
    rw [zs_set hzl hlt] at h4
    have H2:=Lib.hid h2
    have H3:=Lib.hid (HM.out.off h3 HNW.out)
    have H4:=Lib.hid h4
    have HC4:=Lib.hid (h3.keep HCW.out (.inr HCT.out) hcb)
    have HEN:Hid (grpsN P (q+1) s1=.ok ((zs++[((a0,a1),y)]).map (·.2),s2)):=Lib.hid (by unfold grpsN;rw [HE.out];dsimp only;rw [hrx,List.map_append];rfl)
    have HR4:Hid (Rows (b+1) W' (zs++[((a0,a1),y)])):=Lib.hid (fun z hz=>by
     rcases List.mem_append.1 hz with hz | hz
     ·exact ⟨(HRO.out z hz).1.keep h3 (by omega) (by decide),(HRO.out z hz).2.keep h3 (by omega) (by decide)⟩
     ·obtain rfl:=List.mem_singleton.1 hz
      exact ⟨h5.weak hbs,h6.weak hbs⟩)
    have hbs':b < W'.heap.size:=Nat.lt_of_lt_of_le hbs h3.low.size
    clear h2 h3 h4 h5 h6 kc hrx
    go_wp2
    go_roundw
    case rel=>exact ⟨q+1,zs++[((a0,a1),y)],s2,by omega,by go_num,by rw [List.length_append,hzl];rfl,HEN.out,H2.out,H3.out,hbs',HC4.out,H4.out,HR4.out⟩
    case measure=>simp [intOf];omega
  ·obtain rfl:n=q:=by omega
   have HZL:=Lib.hid hzl
   clear hzl
   go_wp2
   go_end0
   rw [HLP.out]
   (try dsimp only)
   rw [HE.out]
   refine ⟨rfl,HS.out,HM.out,some ⟨b,0,none⟩,zs,rfl,by rw [List.length_map,HZL.out,← HQ.out];exact HCW.out,fun _=>⟨b,HNW.out,rfl,?_⟩,fun z hz=>⟨(HRO.out z hz).1.weak (by have:=HNW.out;omega),(HRO.out z hz).2.weak (by have:=HNW.out;omega)⟩⟩
   have:=HBW.out
   rwa [Nat.sub_self,List.replicate_zero,List.flatten_nil,List.append_nil] at this
end
end Po
namespace Po
open Go Go.RowKit Go.ChangeShapes
open Tab
def andThen {α β:Type} (r:Except Flt α) (k:α→Except Flt β):Except Flt β:=match r with
 | .error f=>.error f
 | .ok x=>k x
theorem andThen_ok {α β:Type} (x:α) (k:α→Except Flt β):andThen (.ok x) k=k x:=rfl
theorem andThen_error {α β:Type} (f:Flt) (k:α→Except Flt β):andThen (.error f) k=.error f:=rfl
structure Raw where
 ph:List (List Value)
 gs:List (List (List Value) × List (List Value))
 cf:List Value
 ds:List (List Value)
 rs:List (List Value)
 bs:List (List Value)
 tm:List Value
 fl:List Value
 tk:List Value
def zPh:List Value:=[.bool false,I 0,I 0,I 0,I 0,I 0,I 0,I 0,I 0,I 0,I 0,.bool false,.bool false]
def zDt:List Value:=[I 0,.float .f64 0,.float .f64 0,.float .f64 0,.float .f64 0,I 0,I 0]
def zRl:List Value:=[I 0,I 0,I 0,I 0,I 0,I 0,I 0,I 0,I 0,I 0,I 0]
def zBs:List Value:=[I 0,I 0]
abbrev stPh:List Sp:=(([]:List Sp)++([.flg 0])++(([1,2,3,4,5,6,7,8,9]:List Nat).map (.num 2 9999))++([.num 1 3 10])++([.flg 11])++([.flg 12]))
abbrev stD:List Sp:=(([]:List Sp)++([.num 1 7 0])++([.flt true 1])++([.flt true 2])++([.flt false 3])++([.flt false 4])++(([5,6]:List Nat).map (.num 2 9999)))
abbrev stR:List Sp:=(([]:List Sp)++(([0,1,2,3]:List Nat).map (.num 1 255))++(([4,5,6,7,8,9]:List Nat).map (.num 2 9999))++(([10]:List Nat).map (.num 4 2147483647)))
abbrev stB:List Sp:=(([]:List Sp)++(([0]:List Nat).map (.num 1 255))++(([1]:List Nat).map (.num 2 9999)))
abbrev st8 (most:Int) (q:Nat):List Sp:=(List.range q).map (Sp.num 1 most)
def parts (P:PP) (s:P.σ):Except Flt (Raw × P.σ) :=
 andThen (eachs P stPh (List.replicate 8 zPh) s) fun x1 =>
 andThen (listG P 4 x1.2) fun x2 =>
 andThen (runs P (st8 255 8) (List.replicate 8 (I 0)) x2.2) fun x3 =>
 andThen (listN P 16 stD [I 0,.float .f64 0,.float .f64 0,.float .f64 0,.float .f64 0,I 0,I 0] x3.2) fun x4 =>
 andThen (listN P 4 stR [I 0,I 0,I 0,I 0,I 0,I 0,I 0,I 0,I 0,I 0,I 0] x4.2) fun x5 =>
 andThen (listN P 4 stB [I 0,I 0] x5.2) fun x6 =>
 andThen (runs P ([0,1,2,3,4].map (Sp.num 2 9999)) (List.replicate 5 (I 0)) x6.2) fun x7 =>
 andThen (runs P (st8 2 8) (List.replicate 8 (I 0)) x7.2) fun x8 =>
 andThen (runs P ([0,1].map (Sp.num 4 2147483647)) (List.replicate 2 (I 0)) x8.2) fun x9 =>
 .ok (⟨x1.1,x2.1,x3.1,x4.1,x5.1,x6.1,x7.1,x8.1,x9.1⟩,x9.2)
def bx (PH:List Value) (g:Value) (cf:List Value) (d r b:Value) (tm fl tk:List Value):List Value:=PH++(g :: (cf++(d :: r :: b :: (tm++(fl++tk)))))
abbrev nl:Value:=.slice none 0 0
theorem wrt_seg {cs:List Value} {A l C l':List Value} {k:Nat} (e:cs=A++(l++C)) (hk:A.length=k) (h:l'.length=l.length):wrt cs.toArray k l'=(A++(l'++C)).toArray:=by
 subst e hk
 unfold wrt
 simp only
 rw [List.take_left' rfl,h,← List.drop_drop,List.drop_left' rfl,List.drop_left' rfl,List.append_assoc]
theorem wrt_own {cs:List Value} {A l C:List Value} {k:Nat} (e:cs=A++(l++C)) (hk:A.length=k):wrt cs.toArray k l=cs.toArray:=by
 rw [wrt_seg e hk rfl,← e]
theorem set_seg {cs:List Value} {A C:List Value} {k:Nat} {x:Value} (v:Value) (e:cs=A++(x :: C)) (hk:A.length=k):cs.toArray.setIfInBounds k v=(A++(v :: C)).toArray:=by
 subst e hk
 rw [List.setIfInBounds_toArray,List.set_append_right _ _ (Nat.le_refl _),Nat.sub_self]
 rfl
theorem at_seg {cs:List Value} {A C:List Value} {k:Nat} {x:Value} (e:cs=A++(x :: C)) (hk:A.length=k):cs.toArray[k]?=some x:=by
 subst e hk
 rw [List.getElem?_toArray,List.getElem?_append_right (Nat.le_refl _),Nat.sub_self]
 rfl
theorem len_seg {cs:List Value} {A l C:List Value} {k:Nat} (e:cs=A++(l++C)) (hk:A.length=k):k+l.length≤cs.toArray.size:=by
 subst e hk
 rw [List.size_toArray,List.length_append,List.length_append]
 omega
theorem runs_kinds {P:PP} {st:List Sp} {n:Nat} {s:P.σ} {l':List Value} {s':P.σ} (h:runs P st (List.replicate n (I 0)) s=.ok (l',s')):l'.length=n∧∀ j,j < n→∃ x,l'[j]?=some (I x):=by
 have h1:=runs_kind P st h
 have h2:=runs_len P st h
 rw [List.length_replicate] at h2
 refine ⟨h2,fun j hj=>?_⟩
 refine int_at h1 (j:=j) ?_
 rw [List.map_replicate,List.getElem?_replicate,if_pos hj]
 rfl
end Po
namespace Po
open Go Go.RowKit Go.ChangeShapes
open Tab
theorem ints_rep {n j:Nat} {js:List Nat} (hj:j ∈ js) (h:∀ j ∈ js,j < n):∃ x,(List.replicate n (I 0))[j]?=some (I x):=⟨0,by rw [List.getElem?_replicate,if_pos (h j hj)]⟩
theorem st8_split (m:Int) {q:Nat} (h:q < 8):st8 m 8=st8 m q++([.num 1 m q]++(st8 m 8).drop (q+1)):=by
 rw [List.singleton_append]
 have h1:(st8 m 8).drop q=.num 1 m q :: (st8 m 8).drop (q+1):=by
  rw [List.drop_eq_getElem_cons (by simpa using h)]
  simp
 rw [← h1]
 have h2:st8 m q=(st8 m 8).take q:=by
  unfold st8
  rw [← List.map_take,List.take_range,Nat.min_eq_left (by omega)]
 rw [h2,List.take_append_drop]
theorem st8_error {P:PP} {m:Int} {q:Nat} {l l':List Value} {s s':P.σ} {f:Flt} (h:q < 8) (h1:runs P (st8 m q) l s=.ok (l',s')) (h2:Sp.run P l' s' (.num 1 m q)=.error f):runs P (st8 m 8) l s=.error f:=by
 rw [st8_split m h,runs_append,h1]
 dsimp only
 rw [runs_append,runs_one,h2]
theorem st8_next {P:PP} {m:Int} {q:Nat} {l l' l2:List Value} {s s' s2:P.σ} (h1:runs P (st8 m q) l s=.ok (l',s')) (h2:Sp.run P l' s' (.num 1 m q)=.ok (l2,s2)):runs P (st8 m (q+1)) l s=.ok (l2,s2):=by
 unfold st8
 rw [List.range_succ,List.map_append,runs_append,h1]
 dsimp only
 rw [show [q].map (Sp.num 1 m)=[.num 1 m q] from rfl,runs_one,h2]
theorem rep_split {z:List Value} {q:Nat} (h:q < 8):List.replicate 8 z=List.replicate q z++([z]++List.replicate (8 - (q+1)) z):=by
 rw [List.singleton_append,← List.replicate_succ,List.replicate_append_replicate]
 congr 1
 omega
theorem rep_error {P:PP} {st:List Sp} {z:List Value} {q:Nat} {ys:List (List Value)} {s s':P.σ} {f:Flt} (h:q < 8) (h1:eachs P st (List.replicate q z) s=.ok (ys,s')) (h2:runs P st z s'=.error f):eachs P st (List.replicate 8 z) s=.error f:=by
 rw [rep_split h,eachs_append,h1]
 dsimp only
 rw [eachs_append,eachs_one,h2]
theorem rep_next {P:PP} {st:List Sp} {z x:List Value} {q:Nat} {ys:List (List Value)} {s s' s2:P.σ} (h1:eachs P st (List.replicate q z) s=.ok (ys,s')) (h2:runs P st z s'=.ok (x,s2)):eachs P st (List.replicate (q+1) z) s=.ok (ys++[x],s2):=by
 rw [show List.replicate (q+1) z=List.replicate q z++[z] from List.replicate_succ',eachs_append,h1]
 dsimp only
 rw [eachs_one,h2]
theorem rep_flat {z:List Value} {q:Nat} (h:q < 8):(List.replicate (8 - q) z).flatten=z++(List.replicate (8 - (q+1)) z).flatten:=by
 rw [show 8 - q=8 - (q+1)+1 by omega,List.replicate_succ,List.flatten_cons]
theorem rep_len {P:PP} {st:List Sp} {z:List Value} {q n:Nat} {ys:List (List Value)} {s s':P.σ} (hz:z.length=n) (h:eachs P st (List.replicate q z) s=.ok (ys,s')):ys.flatten.length=q*n:=by
 rw [List.length_flatten,eachs_len P st h,List.map_replicate,List.sum_replicate_nat,hz]
def EndsT (P:PP) (R:P.σ→World→Prop) (B tb:Nat) (r:Except Flt (Raw × P.σ)) (W:World) (e:Ending) (W':World):Prop:=match r with
 | .ok (x,s')=>e=.returned (.tuple #[])∧R s' W'∧Mv B tb W W'∧∃ ga da ra ba zs,W'.heap[tb]?=some (.cells (bx x.ph.flatten (.slice ga x.gs.length x.gs.length) x.cf (slc da x.ds) (slc ra x.rs) (slc ba x.bs) x.tm x.fl x.tk).toArray 31 (0,0))∧zs.map (·.2)=x.gs∧(x.gs ≠ []→∃ b,tb+1≤b∧ga=some ⟨b,0,none⟩∧W'.heap[b]?=some (.cells (zs.flatMap zc).toArray 55 (0,0)))∧Rows (tb+1) W' zs∧NewRow (tb+1) W' da x.ds 80∧NewRow (tb+1) W' ra x.rs 84∧NewRow (tb+1) W' ba x.bs 86
 | .error f=>e=.panicked [{ v:=fault f,recovered:=false }]∧Below B W W'
section
variable {P:PP} {R:P.σ→World→Prop} {B:Nat} {ok:Nat→Nat × Nat→Prop} {ti:TypeId} {v rv:Value} {FN FF FG:FuncId}
theorem newT_any (PT:Port P R B ok ti v rv FN FF FG) (FEW:Hid (∀ most s y s1,P.num s 1 most 0=.ok (y,s1)→∃ n:Nat,y=n∧n≤1000)) {s:P.σ} {W:World} (hR:R s W) (hB:B≤W.heap.size) {tb:Nat} (htb:W.heap[tb]?=some (.cells (bx (List.replicate 8 zPh).flatten nl (List.replicate 8 (I 0)) nl nl nl (List.replicate 5 (I 0)) (List.replicate 8 (I 0)) (List.replicate 2 (I 0))).toArray 31 (0,0))) (hB2:B≤tb) (hfit:Fit (parts P s)) :
  Calls Tryz.prog 26 #[.iface ti v,.pointer (some ⟨tb,0,none⟩)] W (EndsT P R B tb (parts P s) W):=by
 have hm:=PT.mn
 have na:=PT.nn
 have en:=PT.en
 have htl:=(Array.getElem?_eq_some_iff.1 htb).1
 have HBX:=Lib.hid htb
 have HS:=Lib.hid hR
 have HFIT:=Lib.hid hfit
 have HTB:=Lib.hid (PT.new tb hB2)
 obtain ⟨res,hres⟩:∃ r,r=parts P s:=⟨_,rfl⟩
 rw [← hres] at HFIT ⊢
 unfold parts at hres
 have HRES:=Lib.hid hres
 clear hres
 clear htb hR hfit
 go_enter Tryz.func26,Tryz.ntmps26
 go_wp2_with fail
 go_loopw [7] (fun i wr=>∃ (q:Nat) (ys:List (List Value)) (s':P.σ),q≤8∧i=.int .i64 (q:Int)∧eachs P stPh (List.replicate q zPh) s=.ok (ys,s')∧R s' wr∧Mv B tb W wr∧wr.heap[tb]?=some (.cells (ys.flatten++((List.replicate (8 - q) zPh).flatten++(nl :: ((List.replicate 8 (I 0))++(nl :: nl :: nl :: ((List.replicate 5 (I 0))++((List.replicate 8 (I 0))++(List.replicate 2 (I 0))))))))).toArray 31 (0,0))) (fun i _=>8 - (intOf i).toNat)
 case atStart=>exact ⟨0,[],s,by omega,rfl,rfl,HS.out,Mv.refl _ _ _,HBX.out⟩
 case round =>
  obtain ⟨q,ys,s',hq,rfl,hrun,hr,hmv,hbv⟩:=hrel
  have HE:=Lib.hid hrun
  have HM:=Lib.hid hmv
  have HBV:=Lib.hid hbv
  have HS1:=Lib.hid hr
  have hyl:=rep_len (z:=zPh) (n:=13) rfl hrun
  clear hrun hmv hbv hr HS HBX
  by_cases hlt:q < 8
  ·have e1:ys.flatten++((List.replicate (8 - q) zPh).flatten++(nl :: ((List.replicate 8 (I 0))++(nl :: nl :: nl :: ((List.replicate 5 (I 0))++((List.replicate 8 (I 0))++(List.replicate 2 (I 0))))))))=ys.flatten++(zPh++((List.replicate (8 - (q+1)) zPh).flatten++(nl :: ((List.replicate 8 (I 0))++(nl :: nl :: nl :: ((List.replicate 5 (I 0))++((List.replicate 8 (I 0))++(List.replicate 2 (I 0))))))))):=by rw [rep_flat hlt,List.append_assoc]
   have HE1:=Lib.hid e1
   have hfA:Fit (runs P stPh zPh s'):=fun h=>HFIT.out (by rw [HRES.out,rep_error hlt HE.out h];rfl)
   have hcall:=Lib.hid (phase_any PT (l:=zPh) (b:=tb) (o:=q*13) (cs:=(ys.flatten++((List.replicate (8 - q) zPh).flatten++(nl :: ((List.replicate 8 (I 0))++(nl :: nl :: nl :: ((List.replicate 5 (I 0))++((List.replicate 8 (I 0))++(List.replicate 2 (I 0))))))))).toArray) (t:=31) (fr:=(0,0)) rfl HS1.out (Nat.le_trans hB HM.out.low.size) HTB.out (.inr (by decide)) (len_seg e1 hyl) (by rw [wrt_own e1 hyl];exact HBV.out) hfA)
   clear hfA e1
   go_wp2_with fail
   refine hcall.out.mono ?_
   intro e W' he
   cases hr:runs P stPh zPh s' with
   | error f =>
    have he2:Ends P R B tb (q*13) _ 31 (0,0) (runs P stPh zPh s') wr e W':=he
    rw [hr] at he2
    obtain ⟨rfl,h2⟩:=he2
    refine ⟨rfl,?_⟩
    rw [HRES.out,rep_error hlt HE.out hr]
    exact ⟨rfl,HM.out.low.trans h2⟩
   | ok y =>
    obtain ⟨x,s2⟩:=y
    have he2:Ends P R B tb (q*13) _ 31 (0,0) (runs P stPh zPh s') wr e W':=he
    rw [hr] at he2
    obtain ⟨rfl,h2,h3,h4⟩:=he2
    rw [wrt_seg HE1.out hyl (runs_len P stPh hr)] at h4
    have H2:=Lib.hid h2
    have H3:=Lib.hid (HM.out.trans h3)
    have H4:=Lib.hid h4
    have HEN:=Lib.hid (rep_next HE.out hr)
    clear h2 h3 h4 he hr hcall
    go_wp2
    go_roundw
    case rel=>exact ⟨q+1,ys++[x],s2,by omega,by go_num,HEN.out,H2.out,H3.out,by rw [H4.out,List.flatten_append,List.flatten_singleton,List.append_assoc]⟩
    case measure=>simp [intOf];omega
  ·obtain rfl:q=8:=by omega
   have h9:=HRES.out
   rw [HE.out,andThen_ok] at h9
   dsimp only at h9
   have HRES:=Lib.hid h9
   clear h9
   have HBX:Hid (wr.heap[tb]?=some (.cells (bx ys.flatten nl (List.replicate 8 (I 0)) nl nl nl (List.replicate 5 (I 0)) (List.replicate 8 (I 0)) (List.replicate 2 (I 0))).toArray 31 (0,0))):=Lib.hid (by rw [HBV.out];rfl)
   obtain ⟨PH,hPH⟩:∃ PH,PH=ys.flatten:=⟨_,rfl⟩
   have hPL:PH.length=104:=by rw [hPH];exact hyl
   have HPH:=Lib.hid hPH
   rw [← hPH] at HBX
   have HS:=HS1
   have hCL:((List.replicate 8 (I 0)):List Value).length=8:=rfl
   clear HE HBV HS1 hyl hPH
   have hfA:Fit (listG P 4 s'):=fun h=>HFIT.out (by rw [HRES.out,h,andThen_error])
   have hcall:=Lib.hid (newG_any PT (FEW.out 8) (most:=4) HS.out (Nat.le_trans hB HM.out.low.size) (FEW.out 4 s') HBX.out (oc:=104) (by decide) hB2 (at_seg (A:=PH) rfl hPL) hfA)
   clear hfA
   go_wp2_with fail
   refine hcall.out.mono ?_
   intro e W1 he
   cases hr:listG P 4 s' with
   | error f =>
    rw [hr] at he HRES
    obtain ⟨rfl,h2⟩:=he
    refine ⟨rfl,?_⟩
    rw [HRES.out]
    exact ⟨rfl,HM.out.low.trans h2⟩
   | ok y =>
   obtain ⟨gs,s1⟩:=y
   rw [hr] at he
   have h9:=HRES.out
   rw [hr,andThen_ok] at h9
   dsimp only at h9
   have HRES:=Lib.hid h9
   clear h9
   obtain ⟨rfl,hR2,hM2,ga,zs,hzs,hb2,hg2,hr2⟩:=he
   rw [set_seg (cs:=bx PH nl (List.replicate 8 (I 0)) nl nl nl (List.replicate 5 (I 0)) (List.replicate 8 (I 0)) (List.replicate 2 (I 0))) (A:=PH) _ rfl hPL] at hb2
   have HBX:Hid (W1.heap[tb]?=some (.cells (bx PH (.slice ga gs.length gs.length) (List.replicate 8 (I 0)) nl nl nl (List.replicate 5 (I 0)) (List.replicate 8 (I 0)) (List.replicate 2 (I 0))).toArray 31 (0,0))):=Lib.hid hb2
   have HZS:=Lib.hid hzs
   have htw:tb+1≤wr.heap.size:=Nat.lt_of_lt_of_le htl HM.out.low.size
   obtain ⟨K1,HK,HKM,HKD1⟩:∃ K:World→Prop,Hid (K W1)∧Hid (∀ V U,Mv B tb V U→K V→K U)∧Hid (∀ V,K V→(gs ≠ []→∃ b,tb+1≤b∧ga=some ⟨b,0,none⟩∧V.heap[b]?=some (.cells (zs.flatMap zc).toArray 55 (0,0)))∧Rows (tb+1) V zs) :=
    ⟨fun V=>(gs ≠ []→∃ b,tb+1≤b∧ga=some ⟨b,0,none⟩∧V.heap[b]?=some (.cells (zs.flatMap zc).toArray 55 (0,0)))∧Rows (tb+1) V zs,
     Lib.hid ⟨fun h=>by obtain ⟨b,h1,h2,h3⟩:=hg2 h;exact ⟨b,by omega,h2,h3⟩,fun z hz=>⟨(hr2 z hz).1.weak htw,(hr2 z hz).2.weak htw⟩⟩,
     Lib.hid (fun V U hm h=>⟨fun hx=>by obtain ⟨b,h1,h2,h3⟩:=h.1 hx;exact ⟨b,h1,h2,hm.keep h3 (.inr (by decide)) (by omega)⟩,fun z hz=>⟨(h.2 z hz).1.keep hm (by omega) (by decide),(h.2 z hz).2.keep hm (by omega) (by decide)⟩⟩),Lib.hid (fun V h=>h)⟩
   have HM:=Lib.hid (HM.out.trans hM2)
   have HS:=Lib.hid hR2
   clear hR2 hM2 hb2 hg2 hr2 hzs hr hcall
   generalize hgv:(Value.slice ga gs.length gs.length)=gv at HBX
   have HGV:=Lib.hid hgv
   clear hgv
   go_wp2_with fail
   go_loopw [23] (fun i wr=>∃ (q:Nat) (cf:List Value) (s':P.σ),q≤8∧i=.int .i64 (q:Int)∧runs P (st8 255 q) (List.replicate 8 (I 0)) s1=.ok (cf,s')∧R s' wr∧Mv B tb W wr∧K1 wr∧wr.heap[tb]?=some (.cells (bx PH gv cf nl nl nl (List.replicate 5 (I 0)) (List.replicate 8 (I 0)) (List.replicate 2 (I 0))).toArray 31 (0,0))) (fun i _=>8 - (intOf i).toNat)
   case atStart=>exact ⟨0,(List.replicate 8 (I 0)),s1,by omega,rfl,rfl,HS.out,HM.out,HK.out,HBX.out⟩
   case round =>
    obtain ⟨q,cf,s',hq,rfl,hrun,hr,hmv,hk,hbv⟩:=hrel
    have HE:=Lib.hid hrun
    have HM:=Lib.hid hmv
    have HBV:=Lib.hid hbv
    have HS1:=Lib.hid hr
    have HK:=Lib.hid hk
    obtain ⟨hcl,hci⟩:=runs_kinds hrun
    clear hrun hmv hbv hr hk HS HBX
    by_cases hlt:q < 8
    ·obtain ⟨x,hx⟩:=hci q hlt
     have e1:bx PH gv cf nl nl nl (List.replicate 5 (I 0)) (List.replicate 8 (I 0)) (List.replicate 2 (I 0))=(PH++[gv])++(cf++(nl :: nl :: nl :: ((List.replicate 5 (I 0))++((List.replicate 8 (I 0))++(List.replicate 2 (I 0)))))):=by simp [bx]
     have hA1:(PH++[gv]).length=105:=by rw [List.length_append,hPL];rfl
     have HE1:=Lib.hid e1
     have hfA:Fit (Sp.run P cf s' (.num 1 255 q)):=fun h=>HFIT.out (by rw [HRES.out,st8_error hlt HE.out h,andThen_error])
     have hal:Below wr.heap.size wr (wr.alloc (.cells #[.pointer (some ⟨tb,105+q,none⟩)] 117)):=(Below.refl _ _).alloc (Nat.le_refl _) _
     have htw:=(Array.getElem?_eq_some_iff.1 HBV.out).1
     have hcall:=Lib.hid (sets_any PT (l:=cf) (b:=tb) (o:=105) (cs:=(bx PH gv cf nl nl nl (List.replicate 5 (I 0)) (List.replicate 8 (I 0)) (List.replicate 2 (I 0))).toArray) (t:=31) (fr:=(0,0)) (lb:=wr.heap.size) (fr2:=(0,0)) (cap:=1) (n:=1) [q] rfl (by decide) (PT.stay s' wr _ HS1.out hal.size (fun j cs t fr hj _=>hal.block j (Array.getElem?_eq_some_iff.1 hj).1)) (Nat.le_trans (Nat.le_trans hB HM.out.low.size) hal.size) HTB.out (.inr (by decide)) (len_seg e1 hA1) (by rw [wrt_own e1 hA1];exact (hal.block tb htw).trans HBV.out) (fun j hj=>by obtain rfl:=List.mem_singleton.1 hj;exact ⟨x,hx⟩) (heap_alloc_new wr _) (by omega) (Nat.le_refl _) (by rw [show [q].map (Sp.num 1 255)=[.num 1 255 q] from rfl,runs_one];exact hfA))
     have HAL:=Lib.hid hal
     clear hfA e1 hal hx hci
     go_wp2_with fail
     refine hcall.out.mono ?_
     intro e W' he
     rw [show [q].map (Sp.num 1 255)=[.num 1 255 q] from rfl,runs_one] at he
     cases hr:Sp.run P cf s' (.num 1 255 q) with
     | error f =>
      rw [hr] at he
      obtain ⟨rfl,h2⟩:=he
      refine ⟨rfl,?_⟩
      rw [HRES.out,st8_error hlt HE.out hr]
      exact ⟨rfl,HM.out.low.trans ((HAL.out.mono (Nat.le_trans hB HM.out.low.size)).trans h2)⟩
     | ok y =>
      obtain ⟨cf2,s2⟩:=y
      rw [hr] at he
      obtain ⟨rfl,h2,h3,h4⟩:=he
      rw [wrt_seg HE1.out hA1 (by have:=run_len P _ hr;exact this)] at h4
      have hmm:=(Mv.of (b:=tb) HAL.out (Nat.le_trans hB HM.out.low.size)).trans h3
      have H2:=Lib.hid h2
      have H3:=Lib.hid (HM.out.trans hmm)
      have H4:Hid (W'.heap[tb]?=some (.cells (bx PH gv cf2 nl nl nl (List.replicate 5 (I 0)) (List.replicate 8 (I 0)) (List.replicate 2 (I 0))).toArray 31 (0,0))):=Lib.hid (by rw [h4];simp [bx])
      have HK2:=Lib.hid (HKM.out _ _ hmm HK.out)
      have HEN:=Lib.hid (st8_next HE.out hr)
      clear h2 h3 h4 hr hcall hmm
      go_wp2
      go_roundw
      case rel=>exact ⟨q+1,cf2,s2,by omega,by go_num,HEN.out,H2.out,H3.out,HK2.out,H4.out⟩
      case measure=>simp [intOf];omega
    ·obtain rfl:q=8:=by omega
     have h9:=HRES.out
     rw [HE.out,andThen_ok] at h9
     dsimp only at h9
     have HRES:=Lib.hid h9
     have HBX:=HBV
     have HS:=HS1
     have hCL:=hcl
     clear h9 HE HBV HS1 hcl hci
     have e1:bx PH gv cf nl nl nl (List.replicate 5 (I 0)) (List.replicate 8 (I 0)) (List.replicate 2 (I 0))=(PH++(gv :: cf))++(nl :: (nl :: nl :: ((List.replicate 5 (I 0))++((List.replicate 8 (I 0))++(List.replicate 2 (I 0)))))):=by simp [bx]
     have hA1:((PH++(gv :: cf))).length=113:=by simp [hPL,hCL]
     have hfA:Fit (listN P 16 stD [I 0,.float .f64 0,.float .f64 0,.float .f64 0,.float .f64 0,I 0,I 0] s'):=fun h=>HFIT.out (by rw [HRES.out,h,andThen_error])
     have htw:tb+1≤wr.heap.size:=Nat.lt_of_lt_of_le htl HM.out.low.size
     have hcall:=Lib.hid (newD_any PT (st:=stD) (fun _ _=>rfl) (Lib.hid (fun W s l b o cs t fr hk hR hB hok ht hl hb hf=>detector_any PT hk hR hB hok ht hl hb hf)) rfl HS.out (Nat.le_trans hB HM.out.low.size) (FEW.out 16 s') HBX.out (oc:=113) (by decide) hB2 (at_seg e1 hA1) hfA)
     clear hfA
     go_wp2_with fail
     refine hcall.out.mono ?_
     intro e W2 he
     cases hr:listN P 16 stD [I 0,.float .f64 0,.float .f64 0,.float .f64 0,.float .f64 0,I 0,I 0] s' with
     | error f =>
      rw [hr] at he HRES
      obtain ⟨rfl,h2⟩:=he
      refine ⟨rfl,?_⟩
      rw [HRES.out]
      exact ⟨rfl,HM.out.low.trans h2⟩
     | ok y =>
     obtain ⟨ds,s2⟩:=y
     rw [hr] at he
     have h9:=HRES.out
     rw [hr,andThen_ok] at h9
     dsimp only at h9
     have HRES:=Lib.hid h9
     clear h9
     obtain ⟨rfl,hR2,hM2,ad,hb2,hn2⟩:=he
     rw [set_seg (cs:=bx PH gv cf nl nl nl (List.replicate 5 (I 0)) (List.replicate 8 (I 0)) (List.replicate 2 (I 0))) _ e1 hA1] at hb2
     obtain ⟨dv,hdv⟩:∃ x,x=slc ad ds:=⟨_,rfl⟩
     rw [show Value.slice ad ds.length ds.length=dv from hdv.symm] at hb2
     have HBX:Hid (W2.heap[tb]?=some (.cells (bx PH gv cf dv nl nl (List.replicate 5 (I 0)) (List.replicate 8 (I 0)) (List.replicate 2 (I 0))).toArray 31 (0,0))):=Lib.hid (by rw [hb2];simp [bx])
     have HdV:=Lib.hid hdv
     clear hdv
     obtain ⟨K2,HK,HKM,HKDd⟩:∃ K:World→Prop,Hid (K W2)∧Hid (∀ V U,Mv B tb V U→K V→K U)∧Hid (∀ V,K V→K1 V∧NewRow (tb+1) V ad ds 80) :=
      ⟨fun V=>K1 V∧NewRow (tb+1) V ad ds 80,Lib.hid ⟨HKM.out _ _ hM2 HK.out,(show NewRow wr.heap.size W2 ad ds 80 from hn2).weak htw⟩,Lib.hid (fun V U hm h=>⟨HKM.out _ _ hm h.1,h.2.keep hm (by omega) (by decide)⟩),Lib.hid (fun V h=>h)⟩
     have HM:=Lib.hid (HM.out.trans hM2)
     have HS:=Lib.hid hR2
     clear hR2 hM2 hb2 hn2 hr hcall e1 hA1 htw
     have e1:bx PH gv cf dv nl nl (List.replicate 5 (I 0)) (List.replicate 8 (I 0)) (List.replicate 2 (I 0))=(PH++(gv :: (cf++[dv])))++(nl :: (nl :: ((List.replicate 5 (I 0))++((List.replicate 8 (I 0))++(List.replicate 2 (I 0)))))):=by simp [bx]
     have hA1:((PH++(gv :: (cf++[dv])))).length=114:=by simp [hPL,hCL]
     have hfA:Fit (listN P 4 stR [I 0,I 0,I 0,I 0,I 0,I 0,I 0,I 0,I 0,I 0,I 0] s2):=fun h=>HFIT.out (by rw [HRES.out,h,andThen_error])
     have htw:tb+1≤W2.heap.size:=Nat.lt_of_lt_of_le htl HM.out.low.size
     have hcall:=Lib.hid (newR_any PT (st:=stR) (fun _ _=>rfl) (Lib.hid (fun W s l b o cs t fr hk hR hB hok ht hl hb hf=>rail_any PT hk hR hB hok ht hl hb hf)) rfl HS.out (Nat.le_trans hB HM.out.low.size) (FEW.out 4 s2) HBX.out (oc:=114) (by decide) hB2 (at_seg e1 hA1) hfA)
     clear hfA
     go_wp2_with fail
     refine hcall.out.mono ?_
     intro e W3 he
     cases hr:listN P 4 stR [I 0,I 0,I 0,I 0,I 0,I 0,I 0,I 0,I 0,I 0,I 0] s2 with
     | error f =>
      rw [hr] at he HRES
      obtain ⟨rfl,h2⟩:=he
      refine ⟨rfl,?_⟩
      rw [HRES.out]
      exact ⟨rfl,HM.out.low.trans h2⟩
     | ok y =>
     obtain ⟨rs,s3⟩:=y
     rw [hr] at he
     have h9:=HRES.out
     rw [hr,andThen_ok] at h9
     dsimp only at h9
     have HRES:=Lib.hid h9
     clear h9
     obtain ⟨rfl,hR2,hM2,ar,hb2,hn2⟩:=he
     rw [set_seg (cs:=bx PH gv cf dv nl nl (List.replicate 5 (I 0)) (List.replicate 8 (I 0)) (List.replicate 2 (I 0))) _ e1 hA1] at hb2
     obtain ⟨rlv,hrlv⟩:∃ x,x=slc ar rs:=⟨_,rfl⟩
     rw [show Value.slice ar rs.length rs.length=rlv from hrlv.symm] at hb2
     have HBX:Hid (W3.heap[tb]?=some (.cells (bx PH gv cf dv rlv nl (List.replicate 5 (I 0)) (List.replicate 8 (I 0)) (List.replicate 2 (I 0))).toArray 31 (0,0))):=Lib.hid (by rw [hb2];simp [bx])
     have HrV:=Lib.hid hrlv
     clear hrlv
     obtain ⟨K3,HK,HKM,HKDr⟩:∃ K:World→Prop,Hid (K W3)∧Hid (∀ V U,Mv B tb V U→K V→K U)∧Hid (∀ V,K V→K2 V∧NewRow (tb+1) V ar rs 84) :=
      ⟨fun V=>K2 V∧NewRow (tb+1) V ar rs 84,Lib.hid ⟨HKM.out _ _ hM2 HK.out,(show NewRow W2.heap.size W3 ar rs 84 from hn2).weak htw⟩,Lib.hid (fun V U hm h=>⟨HKM.out _ _ hm h.1,h.2.keep hm (by omega) (by decide)⟩),Lib.hid (fun V h=>h)⟩
     have HM:=Lib.hid (HM.out.trans hM2)
     have HS:=Lib.hid hR2
     clear hR2 hM2 hb2 hn2 hr hcall e1 hA1 htw
     have e1:bx PH gv cf dv rlv nl (List.replicate 5 (I 0)) (List.replicate 8 (I 0)) (List.replicate 2 (I 0))=(PH++(gv :: (cf++[dv,rlv])))++(nl :: ((List.replicate 5 (I 0))++((List.replicate 8 (I 0))++(List.replicate 2 (I 0))))):=by simp [bx]
     have hA1:((PH++(gv :: (cf++[dv,rlv])))).length=115:=by simp [hPL,hCL]
     have hfA:Fit (listN P 4 stB [I 0,I 0] s3):=fun h=>HFIT.out (by rw [HRES.out,h,andThen_error])
     have htw:tb+1≤W3.heap.size:=Nat.lt_of_lt_of_le htl HM.out.low.size
     have hcall:=Lib.hid (newS_any PT (st:=stB) (fun _ _=>rfl) (Lib.hid (fun W s l b o cs t fr hk hR hB hok ht hl hb hf=>bus_any PT hk hR hB hok ht hl hb hf)) rfl HS.out (Nat.le_trans hB HM.out.low.size) (FEW.out 4 s3) HBX.out (oc:=115) (by decide) hB2 (at_seg e1 hA1) hfA)
     clear hfA
     go_wp2_with fail
     refine hcall.out.mono ?_
     intro e W4 he
     cases hr:listN P 4 stB [I 0,I 0] s3 with
     | error f =>
      rw [hr] at he HRES
      obtain ⟨rfl,h2⟩:=he
      refine ⟨rfl,?_⟩
      rw [HRES.out]
      exact ⟨rfl,HM.out.low.trans h2⟩
     | ok y =>
     obtain ⟨bs,s4⟩:=y
     rw [hr] at he
     have h9:=HRES.out
     rw [hr,andThen_ok] at h9
     dsimp only at h9
     have HRES:=Lib.hid h9
     clear h9
     obtain ⟨rfl,hR2,hM2,ab,hb2,hn2⟩:=he
     rw [set_seg (cs:=bx PH gv cf dv rlv nl (List.replicate 5 (I 0)) (List.replicate 8 (I 0)) (List.replicate 2 (I 0))) _ e1 hA1] at hb2
     obtain ⟨bv,hbv⟩:∃ x,x=slc ab bs:=⟨_,rfl⟩
     rw [show Value.slice ab bs.length bs.length=bv from hbv.symm] at hb2
     have HBX:Hid (W4.heap[tb]?=some (.cells (bx PH gv cf dv rlv bv (List.replicate 5 (I 0)) (List.replicate 8 (I 0)) (List.replicate 2 (I 0))).toArray 31 (0,0))):=Lib.hid (by rw [hb2];simp [bx])
     have HbV:=Lib.hid hbv
     clear hbv
     obtain ⟨K4,HK,HKM,HKDb⟩:∃ K:World→Prop,Hid (K W4)∧Hid (∀ V U,Mv B tb V U→K V→K U)∧Hid (∀ V,K V→K3 V∧NewRow (tb+1) V ab bs 86) :=
      ⟨fun V=>K3 V∧NewRow (tb+1) V ab bs 86,Lib.hid ⟨HKM.out _ _ hM2 HK.out,(show NewRow W3.heap.size W4 ab bs 86 from hn2).weak htw⟩,Lib.hid (fun V U hm h=>⟨HKM.out _ _ hm h.1,h.2.keep hm (by omega) (by decide)⟩),Lib.hid (fun V h=>h)⟩
     have HM:=Lib.hid (HM.out.trans hM2)
     have HS:=Lib.hid hR2
     clear hR2 hM2 hb2 hn2 hr hcall e1 hA1 htw
     go_upto_region 14 with fail
     refine QT.region1 W4.heap.size 16 (by kernel_rfl) (by kernel_rfl) (by kernel_rfl) (by kernel_rfl) (v:=.iface ti v) (fun _ _ _ h=>h) (Or.inl ⟨by rfl,fun w'=>by go_simp;try rfl⟩) ?_
     dsimp only [Act.put]
     simp only [List.setIfInBounds_toArray,List.set_cons_zero,List.set_cons_succ,List.take_succ_cons,List.take_zero,List.drop_succ_cons,List.drop_zero]
     repeat (quiet_step (fail))
     refine wpQuiet_nil ?_
     intro _ hw'
     obtain ⟨p,rfl⟩:=hw'
     have hBW:=Nat.le_trans hB HM.out.low.size
     have htw:=(Array.getElem?_eq_some_iff.1 HBX.out).1
     have hBX2:=(p.below.block tb htw).trans HBX.out
     have hS2:=PT.stay s4 W4 p.world HS.out p.below.size (fun j cs t fr hj _=>p.below.block j (Array.getElem?_eq_some_iff.1 hj).1)
     have hmp:Mv B tb W4 p.world:=Mv.of p.below hBW
     have HK:=Lib.hid (HKM.out _ _ hmp HK.out)
     have HM:=Lib.hid (HM.out.trans hmp)
     have hBV:=Nat.le_trans hB HM.out.low.size
     clear hBW htw hmp
     generalize p.world=V5 at hBX2 hS2 HK HM hBV ⊢
     (try simp only [List.drop_succ_cons,List.drop_zero])
     have e1:bx PH gv cf dv rlv bv (List.replicate 5 (I 0)) (List.replicate 8 (I 0)) (List.replicate 2 (I 0))=(PH++(gv :: (cf++[dv,rlv,bv])))++((List.replicate 5 (I 0))++((List.replicate 8 (I 0))++(List.replicate 2 (I 0)))):=by simp [bx]
     have hA1:((PH++(gv :: (cf++[dv,rlv,bv])))).length=116:=by simp [hPL,hCL]
     have hfA:Fit (runs P ([0,1,2,3,4].map (Sp.num 2 9999)) (List.replicate 5 (I 0)) s4):=fun h=>HFIT.out (by rw [HRES.out,h,andThen_error])
     have hal:Below V5.heap.size V5 (V5.alloc (.cells #[.pointer (some ⟨tb,116,none⟩),.pointer (some ⟨tb,117,none⟩),.pointer (some ⟨tb,118,none⟩),.pointer (some ⟨tb,119,none⟩),.pointer (some ⟨tb,120,none⟩)] 117)):=(Below.refl _ _).alloc (Nat.le_refl _) _
     have htw:=(Array.getElem?_eq_some_iff.1 hBX2).1
     have hcall:Hid (Calls Tryz.prog 74 #[.iface ti v,.slice (some ⟨V5.heap.size,0,none⟩) 5 5] (V5.alloc (.cells #[.pointer (some ⟨tb,116,none⟩),.pointer (some ⟨tb,117,none⟩),.pointer (some ⟨tb,118,none⟩),.pointer (some ⟨tb,119,none⟩),.pointer (some ⟨tb,120,none⟩)] 117)) (Ends P R B tb 116 (bx PH gv cf dv rlv bv (List.replicate 5 (I 0)) (List.replicate 8 (I 0)) (List.replicate 2 (I 0))).toArray 31 (0,0) (runs P ([0,1,2,3,4].map (Sp.num 2 9999)) (List.replicate 5 (I 0)) s4) (V5.alloc (.cells #[.pointer (some ⟨tb,116,none⟩),.pointer (some ⟨tb,117,none⟩),.pointer (some ⟨tb,118,none⟩),.pointer (some ⟨tb,119,none⟩),.pointer (some ⟨tb,120,none⟩)] 117)))):=Lib.hid (times_any PT (l:=(List.replicate 5 (I 0))) (b:=tb) (o:=116) (cs:=(bx PH gv cf dv rlv bv (List.replicate 5 (I 0)) (List.replicate 8 (I 0)) (List.replicate 2 (I 0))).toArray) (t:=31) (fr:=(0,0)) (lb:=V5.heap.size) (fr2:=(0,0)) (cap:=5) (n:=5) [0,1,2,3,4] rfl (by decide) (PT.stay s4 V5 _ hS2 hal.size (fun j cs t fr hj _=>hal.block j (Array.getElem?_eq_some_iff.1 hj).1)) (Nat.le_trans hBV hal.size) HTB.out (.inr (by decide)) (len_seg e1 hA1) (by rw [wrt_own e1 hA1];exact (hal.block tb htw).trans hBX2) (fun j hj=>ints_rep hj (by decide)) (heap_alloc_new V5 _) (by omega) (Nat.le_refl _) hfA)
     have HMA:=Lib.hid ((Mv.of (b:=tb) hal hBV))
     have HBV:=Lib.hid hBV
     clear hfA hal hBX2 hS2 hBV htw HS HBX
     go_wp2_with fail
     refine hcall.out.mono ?_
     intro e W5 he
     cases hr:runs P ([0,1,2,3,4].map (Sp.num 2 9999)) (List.replicate 5 (I 0)) s4 with
     | error f =>
      rw [hr] at he HRES
      obtain ⟨rfl,h2⟩:=he
      refine ⟨rfl,?_⟩
      rw [HRES.out]
      exact ⟨rfl,HM.out.low.trans (HMA.out.low.trans h2)⟩
     | ok y =>
     obtain ⟨tm,s5⟩:=y
     rw [hr] at he
     have h9:=HRES.out
     rw [hr,andThen_ok] at h9
     dsimp only at h9
     have HRES:=Lib.hid h9
     clear h9
     obtain ⟨rfl,hR2,hM2,hb2⟩:=he
     rw [wrt_seg e1 hA1 (by rw [runs_len P _ hr])] at hb2
     have HBX:Hid (W5.heap[tb]?=some (.cells (bx PH gv cf dv rlv bv tm (List.replicate 8 (I 0)) (List.replicate 2 (I 0))).toArray 31 (0,0))):=Lib.hid (by rw [hb2];simp [bx])
     have hmm:=HMA.out.trans hM2
     have HK:=Lib.hid (HKM.out _ _ hmm HK.out)
     have HM:=Lib.hid (HM.out.trans hmm)
     have HS:=Lib.hid hR2
     have hXL:=(runs_kinds hr).1
     clear hR2 hM2 hb2 hr hcall e1 hA1 hmm HMA HBV
     have hTL:=hXL
     clear hXL
     go_wp2_with fail
     go_loopw [68] (fun i wr=>∃ (q:Nat) (fl:List Value) (s':P.σ),q≤8∧i=.int .i64 (q:Int)∧runs P (st8 2 q) (List.replicate 8 (I 0)) s5=.ok (fl,s')∧R s' wr∧Mv B tb W wr∧K4 wr∧wr.heap[tb]?=some (.cells (bx PH gv cf dv rlv bv tm fl (List.replicate 2 (I 0))).toArray 31 (0,0))) (fun i _=>8 - (intOf i).toNat)
     case atStart=>exact ⟨0,(List.replicate 8 (I 0)),s5,by omega,rfl,rfl,HS.out,HM.out,HK.out,HBX.out⟩
     case round =>
      obtain ⟨q,fl,s',hq,rfl,hrun,hr,hmv,hk,hbv⟩:=hrel
      have HE:=Lib.hid hrun
      have HM:=Lib.hid hmv
      have HBX:=Lib.hid hbv
      have HS:=Lib.hid hr
      have HK:=Lib.hid hk
      obtain ⟨hfl,hci⟩:=runs_kinds hrun
      clear hrun hmv hbv hr hk
      by_cases hlt:q < 8
      ·obtain ⟨x,hx⟩:=hci q hlt
       go_upto_region 18 with fail
       refine QB.region_tail 9 (by kernel_rfl) (by kernel_rfl) ?_
       have e1:bx PH gv cf dv rlv bv tm fl (List.replicate 2 (I 0))=(PH++(gv :: (cf++(dv :: rlv :: bv :: tm))))++(fl++(List.replicate 2 (I 0))):=by simp [bx]
       have hA1:(PH++(gv :: (cf++(dv :: rlv :: bv :: tm)))).length=121:=by simp [hPL,hCL,hTL]
       have HE1:=Lib.hid e1
       have hfA:Fit (Sp.run P fl s' (.num 1 2 q)):=fun h=>HFIT.out (by rw [HRES.out,st8_error hlt HE.out h,andThen_error])
       have hal:Below wr.heap.size wr wr.drew:=(Below.refl _ _).drew
       have htw:=(Array.getElem?_eq_some_iff.1 HBX.out).1
       have hbw:=Nat.le_trans hB HM.out.low.size
       have hcall:=Lib.hid (PT.num s' wr.drew tb 121 (bx PH gv cf dv rlv bv tm fl (List.replicate 2 (I 0))).toArray 31 (0,0) fl 1 2 q x (PT.stay s' wr _ HS.out hal.size (fun j cs t fr hj _=>hal.block j (Array.getElem?_eq_some_iff.1 hj).1)) (Nat.le_trans hbw hal.size) HTB.out (.inr (by decide)) (len_seg e1 hA1) (by rw [wrt_own e1 hA1];exact (hal.block tb htw).trans HBX.out) hx hfA)
       have HAL:=Lib.hid (Mv.of (b:=tb) hal hbw)
       clear hfA e1 hal hx hci htw hbw HBX HS
       generalize wr.drew=V at hcall HAL ⊢
       simp only [List.take_succ_cons,List.take_zero,List.drop_succ_cons,List.drop_zero]
       repeat still_step
       refine wpStill_nil ?_
       go_wp2_with fail
       refine hcall.out.mono ?_
       intro e W' he
       cases hr:Sp.run P fl s' (.num 1 2 q) with
       | error f =>
        rw [hr] at he
        obtain ⟨rfl,h2⟩:=he
        refine ⟨rfl,?_⟩
        rw [HRES.out,st8_error hlt HE.out hr]
        exact ⟨rfl,HM.out.low.trans (HAL.out.low.trans h2)⟩
       | ok y =>
        obtain ⟨fl2,s2⟩:=y
        rw [hr] at he
        obtain ⟨rfl,h2,h3,h4⟩:=he
        rw [wrt_seg HE1.out hA1 (by have:=run_len P _ hr;exact this)] at h4
        have hmm:=HAL.out.trans h3
        have H2:=Lib.hid h2
        have H3:=Lib.hid (HM.out.trans hmm)
        have H4:Hid (W'.heap[tb]?=some (.cells (bx PH gv cf dv rlv bv tm fl2 (List.replicate 2 (I 0))).toArray 31 (0,0))):=Lib.hid (by rw [h4];simp [bx])
        have HK2:=Lib.hid (HKM.out _ _ hmm HK.out)
        have HEN:=Lib.hid (st8_next HE.out hr)
        clear h2 h3 h4 hr hcall hmm
        go_wp2
        go_roundw
        case rel=>exact ⟨q+1,fl2,s2,by omega,by go_num,HEN.out,H2.out,H3.out,HK2.out,H4.out⟩
        case measure=>simp [intOf];omega
      ·obtain rfl:q=8:=by omega
       have h9:=HRES.out
       rw [HE.out,andThen_ok] at h9
       dsimp only at h9
       have HRES:=Lib.hid h9
       clear h9 HE hci
       go_upto_region 20 with fail
       refine QT.region1 wr.heap.size 7 (by kernel_rfl) (by kernel_rfl) (by kernel_rfl) (by kernel_rfl) (v:=.iface ti v) (fun _ _ _ h=>h) (Or.inl ⟨by rfl,fun w'=>by go_simp;try rfl⟩) ?_
       dsimp only [Act.put]
       simp only [List.setIfInBounds_toArray,List.set_cons_zero,List.set_cons_succ,List.take_succ_cons,List.take_zero,List.drop_succ_cons,List.drop_zero]
       repeat (quiet_step (fail))
       refine wpQuiet_nil ?_
       intro _ hw'
       obtain ⟨p,rfl⟩:=hw'
       have hBW:=Nat.le_trans hB HM.out.low.size
       have htw:=(Array.getElem?_eq_some_iff.1 HBX.out).1
       have hBX2:=(p.below.block tb htw).trans HBX.out
       have hS2:=PT.stay s' wr p.world HS.out p.below.size (fun j cs t fr hj _=>p.below.block j (Array.getElem?_eq_some_iff.1 hj).1)
       have hmp:Mv B tb wr p.world:=Mv.of p.below hBW
       have HK:=Lib.hid (HKM.out _ _ hmp HK.out)
       have HM:=Lib.hid (HM.out.trans hmp)
       have hBV:=Nat.le_trans hB HM.out.low.size
       clear hBW htw hmp
       generalize p.world=V9 at hBX2 hS2 HK HM hBV ⊢
       (try simp only [List.drop_succ_cons,List.drop_zero])
       have e1:bx PH gv cf dv rlv bv tm fl (List.replicate 2 (I 0))=(PH++(gv :: (cf++(dv :: rlv :: bv :: (tm++fl)))))++((List.replicate 2 (I 0))++([]:List Value)):=by simp [bx]
       have hA1:((PH++(gv :: (cf++(dv :: rlv :: bv :: (tm++fl)))))).length=129:=by simp [hPL,hCL,hTL,hfl]
       have hfA:Fit (runs P ([0,1].map (Sp.num 4 2147483647)) (List.replicate 2 (I 0)) s'):=fun h=>HFIT.out (by rw [HRES.out,h,andThen_error])
       have hal:Below V9.heap.size V9 (V9.alloc (.cells #[.pointer (some ⟨tb,129,none⟩),.pointer (some ⟨tb,130,none⟩)] 117)):=(Below.refl _ _).alloc (Nat.le_refl _) _
       have htw:=(Array.getElem?_eq_some_iff.1 hBX2).1
       have hcall:Hid (Calls Tryz.prog 75 #[.iface ti v,.slice (some ⟨V9.heap.size,0,none⟩) 2 2] (V9.alloc (.cells #[.pointer (some ⟨tb,129,none⟩),.pointer (some ⟨tb,130,none⟩)] 117)) (Ends P R B tb 129 (bx PH gv cf dv rlv bv tm fl (List.replicate 2 (I 0))).toArray 31 (0,0) (runs P ([0,1].map (Sp.num 4 2147483647)) (List.replicate 2 (I 0)) s') (V9.alloc (.cells #[.pointer (some ⟨tb,129,none⟩),.pointer (some ⟨tb,130,none⟩)] 117)))):=Lib.hid (ticks_any PT (l:=(List.replicate 2 (I 0))) (b:=tb) (o:=129) (cs:=(bx PH gv cf dv rlv bv tm fl (List.replicate 2 (I 0))).toArray) (t:=31) (fr:=(0,0)) (lb:=V9.heap.size) (fr2:=(0,0)) (cap:=2) (n:=2) [0,1] rfl (by decide) (PT.stay s' V9 _ hS2 hal.size (fun j cs t fr hj _=>hal.block j (Array.getElem?_eq_some_iff.1 hj).1)) (Nat.le_trans hBV hal.size) HTB.out (.inr (by decide)) (len_seg e1 hA1) (by rw [wrt_own e1 hA1];exact (hal.block tb htw).trans hBX2) (fun j hj=>ints_rep hj (by decide)) (heap_alloc_new V9 _) (by omega) (Nat.le_refl _) hfA)
       have HMA:=Lib.hid ((Mv.of (b:=tb) hal hBV))
       have HBV:=Lib.hid hBV
       clear hfA hal hBX2 hS2 hBV htw HS HBX
       go_wp2_with fail
       refine hcall.out.mono ?_
       intro e W9 he
       cases hr:runs P ([0,1].map (Sp.num 4 2147483647)) (List.replicate 2 (I 0)) s' with
       | error f =>
        rw [hr] at he HRES
        obtain ⟨rfl,h2⟩:=he
        refine ⟨rfl,?_⟩
        rw [HRES.out]
        exact ⟨rfl,HM.out.low.trans (HMA.out.low.trans h2)⟩
       | ok y =>
       obtain ⟨tk,s7⟩:=y
       rw [hr] at he
       have h9:=HRES.out
       rw [hr,andThen_ok] at h9
       dsimp only at h9
       have HRES:=Lib.hid h9
       clear h9
       obtain ⟨rfl,hR2,hM2,hb2⟩:=he
       rw [wrt_seg e1 hA1 (by rw [runs_len P _ hr])] at hb2
       have HBX:Hid (W9.heap[tb]?=some (.cells (bx PH gv cf dv rlv bv tm fl tk).toArray 31 (0,0))):=Lib.hid (by rw [hb2];simp [bx])
       have hmm:=HMA.out.trans hM2
       have HK:=Lib.hid (HKM.out _ _ hmm HK.out)
       have HM:=Lib.hid (HM.out.trans hmm)
       have HS:=Lib.hid hR2
       have hXL:=(runs_kinds hr).1
       clear hR2 hM2 hb2 hr hcall e1 hA1 hmm HMA HBV
       clear hXL
       go_wp2
       go_end0
       have k4:=HKDb.out _ HK.out
       have k3:=HKDr.out _ k4.1
       have k2:=HKDd.out _ k3.1
       have k1:=HKD1.out _ k2.1
       rw [HRES.out]
       exact ⟨rfl,HS.out,HM.out,ga,ad,ar,ab,zs,by rw [HBX.out,← HGV.out,HdV.out,HrV.out,HbV.out,HPH.out],HZS.out,k1.1,k1.2,k2.2,k3.2,k4.2⟩
end
end Po
end Go.Proofs.YtggjconbgpfomaaGreat
