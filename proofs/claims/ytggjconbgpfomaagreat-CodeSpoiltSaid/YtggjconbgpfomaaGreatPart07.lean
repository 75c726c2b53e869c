/- 12 texts in one file, in build order. -/
import Derived.Test.YtggjconbgpfomaaGreatRows
import Derived.Test.YtggjconbgpfomaaGreatPart06
import Derived.Test.YtggjconbgpfomaaGreatPart04
import Derived.Laws.BitsLemmas
import Derived.Test.YtggjconbgpfomaaGreatPart01
import Derived.OwnWalk
import Derived.WalkKit
import Derived.ProofKit
import Derived.IntWalk
import Derived.Lib.Hide
import Derived.LoopTactic
import Derived.Below
import Derived.BigQuiet
import Derived.Deep.QuietTactic
import Derived.Test.YtggjconbgpfomaaGreatPart02
import Derived.Test.YtggjconbgpfomaaGreatPart03
import Derived.Great.BuildSlice
import Derived.Deep.Cut
import Derived.StillTailTactics
set_option linter.unusedVariables false
set_option linter.unusedSimpArgs false
set_option linter.unusedSectionVars false
set_option maxHeartbeats 8000000
set_option maxRecDepth 100000
namespace Go.Proofs.YtggjconbgpfomaaGreat
namespace Rr
open Go Go.RowKit Go.ChangeShapes
open Tab
open Po
open Rd (Rd But)
open Clone (zTab zHd info31 z_is)
def Kp (n0:Nat) (W V:World):Prop:=∀ (j:Nat) (cs:Array Value) (t:TypeId) (fr:Nat × Nat),W.heap[j]?=some (.cells cs t fr)→¬ Pt t→n0≤j→V.heap[j]?=W.heap[j]?
section
variable {n0:Nat} {W V U:World}
theorem Kp.trans (h:Kp n0 W V) (k:Kp n0 V U):Kp n0 W U:=fun j cs t fr hj ht hn=>(k j cs t fr ((h j cs t fr hj ht hn).trans hj) ht hn).trans (h j cs t fr hj ht hn)
theorem Kp.mv {B b:Nat} (h:Mv B b W V) (hb:b < n0):Kp n0 W V:=fun j cs t fr hj ht hn=>h.other j cs t fr hj ht (by omega)
theorem Kp.mem (h:Below W.heap.size W V):Kp n0 W V:=fun j cs t fr hj ht hn=>h.block j (Array.getElem?_eq_some_iff.1 hj).1
theorem Kp.but {g:Nat} (h:But g W V) (hg:g < n0):Kp n0 W V:=fun j cs t fr hj ht hn=>h.block j (Array.getElem?_eq_some_iff.1 hj).1 (by omega)
theorem Kp.row {g:Nat} (cs2:Array Value) (hg:g < n0):Kp n0 W (W.setRow g cs2):=fun j cs t fr hj ht hn=>setRow_other _ _ _ _ (by omega)
theorem newKp {a:Option Addr} {xs:List (List Value)} {T:TypeId} (h:NewRow n0 W a xs T) (k:Kp n0 W V) (hT:¬ Pt T):NewRow n0 V a xs T:=fun hx=>by
 obtain ⟨b,h1,h2,h3⟩:=h hx
 exact ⟨b,h1,h2,(k b _ _ _ h3 hT h1).trans h3⟩
structure Got (x:Raw) (n0:Nat) (ga da ra ba:Option Addr) (zs:List Zr) (W:World):Prop where
 z:zs.map (·.2)=x.gs
 g:x.gs ≠ []→∃ b,n0≤b∧ga=some ⟨b,0,none⟩∧W.heap[b]?=some (.cells (zs.flatMap zc).toArray 55 (0,0))
 r:Po.Rows n0 W zs
 d:NewRow n0 W da x.ds 80
 l:NewRow n0 W ra x.rs 84
 b:NewRow n0 W ba x.bs 86
theorem Got.kp {x:Raw} {ga da ra ba:Option Addr} {zs:List Zr} (h:Got x n0 ga da ra ba zs W) (k:Kp n0 W V):Got x n0 ga da ra ba zs V :=
 ⟨h.z,fun hx=>by
  obtain ⟨b,h1,h2,h3⟩:=h.g hx
  exact ⟨b,h1,h2,(k b _ _ _ h3 (by decide) h1).trans h3⟩,fun z hz=>⟨newKp (h.r z hz).1 k (by decide),newKp (h.r z hz).2 k (by decide)⟩,newKp h.d k (by decide),newKp h.l k (by decide),newKp h.b k (by decide)⟩
end
def decR (bs:List Nat):Except Flt Raw:=if 2048 < bs.length then .error (1,0) else andThen (headR bs) fun s1=>andThen (parts (RP bs) s1) fun x=>andThen (sumR bs x.2) fun s3=>andThen (endR bs s3) fun _=>.ok x.1
def EndsDec (r:Except Flt Raw) (w:World) (e:Ending) (w':World):Prop:=Below w.heap.size w w'∧match r with
 | .error f=>e=.returned (.tuple #[.agg (zTab.cells zHd).toArray,.agg #[I f.1,I f.2]])
 | .ok x=>∃ hd,e=.returned (.tuple #[.agg ((tabOf x).cells hd).toArray,.agg #[I 0,I 0]])∧IsTab w' hd (tabOf x)
theorem dclo_idle (b:Nat) (z0 z1:Int) (w:World) (hc:w.heap[b]?=some (.cells #[I z0,I z1] 40 (0,0))) :
  CallsD Tryz.prog 29 #[.pointer (some ⟨b,0,none⟩)] .returning w fun e u' w'=>e=.returned (.tuple #[])∧u'=.returning∧But b w w'∧w'.heap[b]?=some (.cells #[I 0,I 0] 40 (0,0)):=by
 refine callsD_of_wpS Tryz.func29 rfl fun c₀ cs hu=>?_
 apply wpS_region
 simp [wpOpsS,go_sem,recoverD,hu]
 refine (caught_nil _).mono ?_
 rintro e w' ⟨rfl,hb⟩
 have hc1:=(hb.block b (Array.getElem?_eq_some_iff.1 hc).1).trans hc
 have c0:w'.cell? ⟨b,0,none⟩=some (I z0):=by rw [cell_of_row _ _ _ _ _ _ hc1];rfl
 have c1:w'.cell? ⟨b,1,none⟩=some (I z1):=by rw [cell_of_row _ _ _ _ _ _ hc1];rfl
 have f0:w'.frozen? ⟨b,0,none⟩=false:=frozen_of_row _ _ _ _ _ hc1
 have f1:w'.frozen? ⟨b,1,none⟩=false:=frozen_of_row _ _ _ _ _ hc1
 have hs1:w'.setCell ⟨b,0,none⟩ (I 0)=w'.setRow b #[I 0,I z1]:=setCell_eq_setRow w' b 0 #[I z0,I z1] 40 (0,0) (I 0) hc1
 have hr1:=setRow_heap w' b _ #[I 0,I z1] _ _ hc1
 have hs2:(w'.setRow b #[I 0,I z1]).setCell ⟨b,1,none⟩ (I 0)=(w'.setRow b #[I 0,I z1]).setRow b #[I 0,I 0]:=setCell_eq_setRow _ b 1 #[I 0,I z1] 40 (0,0) (I 0) hr1
 have hr2:=setRow_heap _ b _ #[I 0,I 0] _ _ hr1
 rw [← hs2,← hs1] at hr2
 have hbut:But b w ((w'.setCell ⟨b,0,none⟩ (I 0)).setCell ⟨b,1,none⟩ (I 0)):=((But.of hb).trans (But.set b 0 w' _)).trans (But.set b 1 _ _)
 clear hs1 hs2 hr1
 simp [wpOpsS,go_sem,c0,f0,c1,f1,World.cell?_setCell_other,bodyPostS,results,Tryz.results29]
 cases c₀
 simp_all
theorem dec_is (bs:List Nat) (ad:Option Addr) (cap:Nat) (w:World) (hrow:Go.Proofs.YtggjconbgpfomaaGreat.B.Row w ad bs) (hlen:bs.length≤10000) (hnil:ad=none→cap=0) (hcap:bs.length≤cap) :
  Calls Tryz.prog 14 #[.slice ad bs.length cap] w (EndsDec (decR bs) w):=by
 have hmf:∀ (fn:Fn) (first cap:Array Value) (w:World),(Instr.makeFunc fn first cap).run Tryz.prog w=.ok (.func fn first cap) w:=fun _ _ _ _=>rfl
 have hmi:∀ (v:Value) (w:World),(Instr.makeInterface 69 v).run Tryz.prog w=.ok (.iface 69 v) w:=fun _ _=>rfl
 obtain ⟨res,hres⟩:∃ r,decR bs=r:=⟨_,rfl⟩
 rw [hres]
 have HRES:=Lib.hid hres
 clear hres
 have hz:=(zero_of_info info31).1
 have ZS:(zTab.cells zHd).toArray.size=131:=(cells_ok (z_is w)).size
 have ZI0:(Tryz.prog.info? 31).map (·.size)=some (zTab.cells zHd).toArray.size:=by rw [ZS];kernel_rfl
 have ZB:(bx (List.replicate 8 zPh).flatten nl (List.replicate 8 (I 0)) nl nl nl (List.replicate 5 (I 0)) (List.replicate 8 (I 0)) (List.replicate 2 (I 0))).toArray=(zTab.cells zHd).toArray:=rfl
 obtain ⟨Z,hZ⟩:∃ Z,(zTab.cells zHd).toArray=Z:=⟨_,rfl⟩
 rw [hZ] at hz ZI0 ZB ZS
 have EZ:=Lib.hid hZ
 have ZI:=Lib.hid ZI0
 have EB:=Lib.hid ZB
 have EZS:=Lib.hid ZS
 clear ZI0 ZB ZS
 have hb1:=(Below.refl w.heap.size w).alloc (Nat.le_refl _) (.cells Z 31)
 have hb2:=hb1.alloc hb1.size (.cells #[I 0,I 0] 40)
 have hg1:=heap_alloc_new w (.cells Z 31)
 have hg2:=heap_alloc_new (w.alloc (.cells Z 31)) (.cells #[I 0,I 0] 40)
 have hs1:(w.alloc (.cells Z 31)).heap.size=w.heap.size+1:=by simp
 rw [hs1] at hg2
 have hg3:((w.alloc (.cells Z 31)).alloc (.cells #[I 0,I 0] 40)).heap[w.heap.size]?=some (.cells Z 31 (0,0)):=by
  rw [Below.heap_alloc _ _ _ (by rw [hs1];omega)];exact hg1
 clear hZ hb1 hg1 hs1
 have HROW:=Lib.hid hrow
 have HLEN:=Lib.hid hlen
 have HNIL:=Lib.hid hnil
 have HCAP:=Lib.hid hcap
 clear hrow hlen hnil hcap
 obtain ⟨len,hln⟩:∃ n,bs.length=n:=⟨_,rfl⟩
 rw [hln]
 have HLN:=Lib.hid hln
 clear hln
 go_enter_defers Tryz.func14,Tryz.ntmps14
 go_upto_region 2 with fail
 generalize World.alloc (World.alloc w _) _=v at hb2 hg2 hg3 ⊢
 have HB:=Lib.hid hb2
 have hvs:=HB.out.size
 generalize hfb:w.heap.size+1=fb at hg2 ⊢
 generalize htb:w.heap.size=tb at hg3 ⊢
 have HF:=Lib.hid hg2
 have HT:=Lib.hid hg3
 clear hb2 hg2 hg3
 by_cases hbig:2048 < len
 ·go_wp2_with fail
  refine (fail_any 1 0 _).mono ?_
  rintro e v3 ⟨rfl,rfl⟩
  have e2:res=.error (1,0):=by
   rw [← HRES.out]
   unfold decR
   rw [if_pos (by rw [HLN.out];exact hbig)]
  have hlow:Below v.heap.size v v:=Below.refl _ _
  have hF3:=(hlow.block fb (Array.getElem?_eq_some_iff.1 HF.out).1).trans HF.out
  have hT3:=(hlow.block tb (Array.getElem?_eq_some_iff.1 HT.out).1).trans HT.out
  (try go_wp2)
  refine leaves_cons (f:=29) (args:=#[.pointer (some ⟨fb,0,none⟩)]) (by simp) (by simp [go_sem]) ?_
  refine (dclo_panic fb 0 0 (1) (0) v hF3).mono ?_
  rintro e u' w'' ⟨rfl,rfl,hbut,hF4⟩
  have hT4:=(hbut.block tb (Array.getElem?_eq_some_iff.1 hT3).1 (by omega)).trans hT3
  have hBB:Below w.heap.size w w'':=(HB.out.trans (hlow.mono HB.out.size)).trans (hbut.below (Nat.le_trans HB.out.size hlow.size) (by omega))
  refine ⟨_,results_two rfl _ w'' tb fb 31 40 Z #[I (1),I (0)] _ _ rfl rfl hT4 hF4 Tryz.underlying31 rfl ZI.out Tryz.underlying40 rfl infoF,hBB,?_⟩
  (try rw [e2])
  rw [← EZ.out]
 have HBIG:Hid (¬ 2048 < bs.length):=Lib.hid (by rw [HLN.out];exact hbig)
 go_wp2_with fail
 rw [← HLN.out]
 refine (Rd.new_own ad cap bs v (HROW.out.below (HB.out)) (by have:=HLEN.out;omega) HNIL.out).mono ?_
 rintro e v1 ⟨g,ad',cap',rfl,hg,_,hrd,hown,hshp,hb⟩
 have hst:RS v.heap.size g ad' cap' bs 0 v1:=⟨hrd,Nat.zero_le _,by have:=HLEN.out;omega,hg,hshp,hown,HROW.out.2.1⟩
 go_upto_region 5 with fail
 have hb3:=hb.alloc hb.size (.cells #[.pointer (some ⟨g,0,none⟩)] 69)
 have hr3:=heap_alloc_new v1 (.cells #[.pointer (some ⟨g,0,none⟩)] 69)
 have hst3:=hst.mem ((Below.refl v1.heap.size v1).alloc (Nat.le_refl _) (.cells #[.pointer (some ⟨g,0,none⟩)] 69))
 have hrb0:v.heap.size≤v1.heap.size:=hb.size
 generalize World.alloc v1 _=v2 at hb3 hr3 hst3 ⊢
 generalize v1.heap.size=rb at hr3 hrb0 ⊢
 have LR:Hid (∀ W,(∀ b,Mv v.heap.size b v2 W)→Lies W ⟨rb,0,none⟩ [.pointer (some ⟨g,0,none⟩)]):=Lib.hid (fun W hm=>by have:=Row.lies_of_block (((hm (rb+1)).other rb _ _ _ hr3 (by decide) (by omega)).trans hr3);simpa using this)
 have HRB:=Lib.hid hr3
 have HST:=Lib.hid hst3
 have HB2:=Lib.hid hb3
 clear hb hb3 hr3 hst hst3 hrd hown hshp hg
 go_wp2_with (refine Row.wpList_load_g 69 _ rfl (by first | rfl | (go_simp;done) | fail) ⟨rb,0,none⟩ rfl [.pointer (some ⟨g,0,none⟩)] _ (LR.out _ (fun b=>Mv.refl _ _ _)) Tryz.underlying69 rfl infoRd ?_)
 refine (head_any v2 HST.out HB2.out.size).mono ?_
 intro e v3 hE
 obtain ⟨r1,hr1⟩:∃ r,headR bs=r:=⟨_,rfl⟩
 rw [hr1] at hE
 cases r1 with
 | error fl =>
  obtain ⟨fc,fa⟩:=fl
  obtain ⟨rfl,hb4⟩:=hE
  have e2:res=.error (fc,fa):=by
   rw [← HRES.out]
   unfold decR
   rw [if_neg HBIG.out,hr1]
   rfl
  have hlow:Below v.heap.size v v3:=HB2.out.trans hb4
  have hF3:=(hlow.block fb (Array.getElem?_eq_some_iff.1 HF.out).1).trans HF.out
  have hT3:=(hlow.block tb (Array.getElem?_eq_some_iff.1 HT.out).1).trans HT.out
  (try go_wp2)
  refine leaves_cons (f:=29) (args:=#[.pointer (some ⟨fb,0,none⟩)]) (by simp) (by simp [go_sem]) ?_
  refine (dclo_panic fb 0 0 (fc) (fa) v3 hF3).mono ?_
  rintro e u' w'' ⟨rfl,rfl,hbut,hF4⟩
  have hT4:=(hbut.block tb (Array.getElem?_eq_some_iff.1 hT3).1 (by omega)).trans hT3
  have hBB:Below w.heap.size w w'':=(HB.out.trans (hlow.mono HB.out.size)).trans (hbut.below (Nat.le_trans HB.out.size hlow.size) (by omega))
  refine ⟨_,results_two rfl _ w'' tb fb 31 40 Z #[I (fc),I (fa)] _ _ rfl rfl hT4 hF4 Tryz.underlying31 rfl ZI.out Tryz.underlying40 rfl infoF,hBB,?_⟩
  (try rw [e2])
  rw [← EZ.out]
 | ok s1 =>
  obtain ⟨rfl,hst4,hmv4⟩:=hE
  have HR1:=Lib.hid hr1
  have HST4:=Lib.hid hst4
  have HM4:Hid (∀ b,Mv v.heap.size b v2 v3):=Lib.hid hmv4
  clear hr1 hst4 hmv4 HST
  go_upto_region 7 with fail
  have ha:=heap_alloc_new v3 (.cells Z 31)
  have hba:=(Below.refl v3.heap.size v3).alloc (Nat.le_refl _) (.cells Z 31)
  have hst5:=HST4.out.mem hba
  have hB3:v.heap.size≤v3.heap.size:=Nat.le_trans HB2.out.size (HM4.out 0).low.size
  have hm5:∀ b,Mv v.heap.size b v2 (v3.alloc (.cells Z 31)):=fun b=>(HM4.out b).trans (Mv.of hba hB3)
  have hB5:v.heap.size≤(v3.alloc (.cells Z 31)).heap.size:=Nat.le_trans hB3 hba.size
  have hrr:rb < v3.heap.size:=Nat.lt_of_lt_of_le (Array.getElem?_eq_some_iff.1 HRB.out).1 (HM4.out 0).low.size
  generalize World.alloc v3 _=v4 at ha hst5 hm5 hB5 ⊢
  generalize v3.heap.size=rt at ha hB3 hrr ⊢
  have HM5:=Lib.hid hm5
  have HST5:=Lib.hid hst5
  have HA:=Lib.hid ha
  clear ha hst5 hm5 HST4 HM4 hba
  have CP:=Lib.hid (newT_any (PT:=rport (B:=v.heap.size) (g:=g) (ad:=ad') (cap:=cap') (bs:=bs)) (Lib.hid (rfew HROW.out.2.1)) (s:=s1) HST5.out hB5 (tb:=rt) (by rw [EB.out];exact HA.out) hB3 ((rroomy bs).parts s1))
  go_wp2_with (refine Row.wpList_load_g 69 _ rfl (by first | rfl | (go_simp;done) | fail) ⟨rb,0,none⟩ rfl [.pointer (some ⟨g,0,none⟩)] _ (LR.out _ (fun b=>HM5.out b)) Tryz.underlying69 rfl infoRd ?_)
  refine CP.out.mono ?_
  clear CP
  intro e v5 hE
  obtain ⟨r2,hr2⟩:∃ r,parts (RP bs) s1=r:=⟨_,rfl⟩
  rw [hr2] at hE
  have hlow5:Below v.heap.size v v4:=HB2.out.trans (HM5.out 0).low
  cases r2 with
  | error fl =>
   obtain ⟨fc,fa⟩:=fl
   obtain ⟨rfl,hb4⟩:=hE
   have e2:res=.error (fc,fa):=by
    rw [← HRES.out]
    unfold decR
    rw [if_neg HBIG.out,HR1.out,andThen_ok,hr2]
    rfl
   have hlow:Below v.heap.size v v5:=hlow5.trans hb4
   have hF3:=(hlow.block fb (Array.getElem?_eq_some_iff.1 HF.out).1).trans HF.out
   have hT3:=(hlow.block tb (Array.getElem?_eq_some_iff.1 HT.out).1).trans HT.out
   (try go_wp2)
   refine leaves_cons (f:=29) (args:=#[.pointer (some ⟨fb,0,none⟩)]) (by simp) (by simp [go_sem]) ?_
   refine (dclo_panic fb 0 0 (fc) (fa) v5 hF3).mono ?_
   rintro e u' w'' ⟨rfl,rfl,hbut,hF4⟩
   have hT4:=(hbut.block tb (Array.getElem?_eq_some_iff.1 hT3).1 (by omega)).trans hT3
   have hBB:Below w.heap.size w w'':=(HB.out.trans (hlow.mono HB.out.size)).trans (hbut.below (Nat.le_trans HB.out.size hlow.size) (by omega))
   refine ⟨_,results_two rfl _ w'' tb fb 31 40 Z #[I (fc),I (fa)] _ _ rfl rfl hT4 hF4 Tryz.underlying31 rfl ZI.out Tryz.underlying40 rfl infoF,hBB,?_⟩
   (try rw [e2])
   rw [← EZ.out]
  | ok xs =>
   obtain ⟨x,s2⟩:=xs
   obtain ⟨rfl,hst6,hmv6,ga,da,ra,ba,zs,hbx,hz1,hz2,hz3,hz4,hz5,hz6⟩:=hE
   have hok:=parts_ok (rfew HROW.out.2.1) hr2
   have HR2:=Lib.hid hr2
   have HST6:Hid (RS v.heap.size g ad' cap' bs s2 v5):=Lib.hid hst6
   have HGOT:Hid (Got x (rt+1) ga da ra ba zs v5):=Lib.hid ⟨hz1,hz2,hz3,hz4,hz5,hz6⟩
   have HOK:=Lib.hid hok
   have HBX:=Lib.hid hbx
   have HM6:=Lib.hid hmv6
   have hB6:v.heap.size≤v5.heap.size:=Nat.le_trans hB5 hmv6.low.size
   have hlow6:Below v.heap.size v v5:=hlow5.trans hmv6.low
   have LR6:Hid (∀ W,(∀ b,Mv v.heap.size b v5 W)→Lies W ⟨rb,0,none⟩ [.pointer (some ⟨g,0,none⟩)]):=Lib.hid (fun W hm=>by
    have h1:=((HM5.out rt).other rb _ _ _ HRB.out (by decide) (by omega)).trans HRB.out
    have h2:=(HM6.out.other rb _ _ _ h1 (by decide) (by omega)).trans h1
    have:=Row.lies_of_block (((hm (rb+1)).other rb _ _ _ h2 (by decide) (by omega)).trans h2)
    simpa using this)
   clear hst6 hmv6 hbx hz1 hz2 hz3 hz4 hz5 hz6 hr2 hok HST5
   have CS:=Lib.hid (sum_any (bs:=bs) (ad:=ad') (cap:=cap') s2 v5 HST6.out hB6 ad cap (fun W hb=>HROW.out.below (HB.out.trans ((hlow6.trans hb).mono HB.out.size))) HCAP.out)
   go_wp2_with (refine Row.wpList_load_g 69 _ rfl (by first | rfl | (go_simp;done) | fail) ⟨rb,0,none⟩ rfl [.pointer (some ⟨g,0,none⟩)] _ (LR6.out _ (fun b=>Mv.refl _ _ _)) Tryz.underlying69 rfl infoRd ?_)
   refine CS.out.mono ?_
   clear CS
   intro e v6 hE
   obtain ⟨r3,hr3⟩:∃ r,sumR bs s2=r:=⟨_,rfl⟩
   rw [hr3] at hE
   cases r3 with
   | error fl =>
    obtain ⟨fc,fa⟩:=fl
    obtain ⟨rfl,hb4⟩:=hE
    have e2:res=.error (fc,fa):=by
     rw [← HRES.out]
     unfold decR
     rw [if_neg HBIG.out,HR1.out,andThen_ok,HR2.out,andThen_ok,hr3]
     rfl
    have hlow:Below v.heap.size v v6:=hlow6.trans hb4
    have hF3:=(hlow.block fb (Array.getElem?_eq_some_iff.1 HF.out).1).trans HF.out
    have hT3:=(hlow.block tb (Array.getElem?_eq_some_iff.1 HT.out).1).trans HT.out
    (try go_wp2)
    refine leaves_cons (f:=29) (args:=#[.pointer (some ⟨fb,0,none⟩)]) (by simp) (by simp [go_sem]) ?_
    refine (dclo_panic fb 0 0 (fc) (fa) v6 hF3).mono ?_
    rintro e u' w'' ⟨rfl,rfl,hbut,hF4⟩
    have hT4:=(hbut.block tb (Array.getElem?_eq_some_iff.1 hT3).1 (by omega)).trans hT3
    have hBB:Below w.heap.size w w'':=(HB.out.trans (hlow.mono HB.out.size)).trans (hbut.below (Nat.le_trans HB.out.size hlow.size) (by omega))
    refine ⟨_,results_two rfl _ w'' tb fb 31 40 Z #[I (fc),I (fa)] _ _ rfl rfl hT4 hF4 Tryz.underlying31 rfl ZI.out Tryz.underlying40 rfl infoF,hBB,?_⟩
    (try rw [e2])
    rw [← EZ.out]
   | ok s3 =>
    obtain ⟨rfl,hst7,hmv7⟩:=hE
    have HR3:=Lib.hid hr3
    have HST7:Hid (RS v.heap.size g ad' cap' bs s3 v6):=Lib.hid hst7
    have HM7:Hid (∀ b,Mv v.heap.size b v5 v6):=Lib.hid hmv7
    have hB7:v.heap.size≤v6.heap.size:=Nat.le_trans hB6 (hmv7 0).low.size
    have hlow7:Below v.heap.size v v6:=hlow6.trans (hmv7 0).low
    clear hr3 hst7 hmv7 HST6
    go_wp2_with (refine Row.wpList_load_g 69 _ rfl (by first | rfl | (go_simp;done) | fail) ⟨rb,0,none⟩ rfl [.pointer (some ⟨g,0,none⟩)] _ (LR6.out _ (fun b=>HM7.out b)) Tryz.underlying69 rfl infoRd ?_)
    refine (end_any s3 v6 HST7.out hB7).mono ?_
    intro e v7 hE
    obtain ⟨r4,hr4⟩:∃ r,endR bs s3=r:=⟨_,rfl⟩
    rw [hr4] at hE
    cases r4 with
    | error fl =>
     obtain ⟨fc,fa⟩:=fl
     obtain ⟨rfl,hb4⟩:=hE
     have e2:res=.error (fc,fa):=by
      rw [← HRES.out]
      unfold decR
      rw [if_neg HBIG.out,HR1.out,andThen_ok,HR2.out,andThen_ok,HR3.out,andThen_ok,hr4]
      rfl
     have hlow:Below v.heap.size v v7:=hlow7.trans hb4
     have hF3:=(hlow.block fb (Array.getElem?_eq_some_iff.1 HF.out).1).trans HF.out
     have hT3:=(hlow.block tb (Array.getElem?_eq_some_iff.1 HT.out).1).trans HT.out
     (try go_wp2)
     refine leaves_cons (f:=29) (args:=#[.pointer (some ⟨fb,0,none⟩)]) (by simp) (by simp [go_sem]) ?_
     refine (dclo_panic fb 0 0 (fc) (fa) v7 hF3).mono ?_
     rintro e u' w'' ⟨rfl,rfl,hbut,hF4⟩
     have hT4:=(hbut.block tb (Array.getElem?_eq_some_iff.1 hT3).1 (by omega)).trans hT3
     have hBB:Below w.heap.size w w'':=(HB.out.trans (hlow.mono HB.out.size)).trans (hbut.below (Nat.le_trans HB.out.size hlow.size) (by omega))
     refine ⟨_,results_two rfl _ w'' tb fb 31 40 Z #[I (fc),I (fa)] _ _ rfl rfl hT4 hF4 Tryz.underlying31 rfl ZI.out Tryz.underlying40 rfl infoF,hBB,?_⟩
     (try rw [e2])
     rw [← EZ.out]
    | ok s4 =>
     obtain ⟨rfl,hst8,hmv8⟩:=hE
     have e2:res=.ok x:=by
      rw [← HRES.out]
      unfold decR
      rw [if_neg HBIG.out,HR1.out,andThen_ok,HR2.out,andThen_ok,HR3.out,andThen_ok,hr4]
      rfl
     have hm8:∀ b,Mv v.heap.size b v5 v7:=fun b=>(HM7.out b).trans (hmv8 b)
     have hbx8:=((hm8 (rt+1)).other rt _ _ _ HBX.out (by decide) (by omega)).trans HBX.out
     have hgot8:=HGOT.out.kp (Kp.mv (hm8 0) (by omega))
     have hlow8:Below v.heap.size v v7:=hlow6.trans (hm8 0).low
     obtain ⟨hd0,hcs,htab⟩:=got_tab HOK.out hgot8.z hgot8.g hgot8.r hgot8.d hgot8.l hgot8.b
     have CO:=cells_ok htab
     have hcs2:∃ c:List Value,c=(tabOf x).cells hd0:=⟨_,rfl⟩
     obtain ⟨c,hc⟩:=hcs2
     rw [hcs,← hc] at hbx8
     rw [← hc] at CO
     have csl:c.length=131:=by have:=CO.size;rwa [List.size_toArray] at this
     have ONE:=CO.one
     have HC:=Lib.hid hc
     have HCS:=Lib.hid hcs
     have HG8:=Lib.hid hgot8
     have HBX8:=Lib.hid hbx8
     have IC:Hid ((Tryz.prog.info? 31).map (·.size)=some c.length):=Lib.hid (by rw [csl];kernel_rfl)
     clear hcs hc hgot8 hbx8 htab CO hst8 hmv8 hr4 HM7 HST7
     have hT8:=(hlow8.block tb (Array.getElem?_eq_some_iff.1 HT.out).1).trans HT.out
     have hF8:=(hlow8.block fb (Array.getElem?_eq_some_iff.1 HF.out).1).trans HF.out
     have HT8:=Lib.hid hT8
     have hF9:(v7.setRow tb c.toArray).heap[fb]?=some (.cells #[I 0,I 0] 40 (0,0)):=by rw [setRow_other _ _ _ _ (by omega)];exact hF8
     have HF9:=Lib.hid hF9
     have IC2:Hid ((Tryz.prog.info? 31).map (·.size)=some c.toArray.size):=Lib.hid (by rw [List.size_toArray];exact IC.out)
     have ISZ:Hid (Z.size=c.toArray.size):=Lib.hid (by rw [EZS.out,List.size_toArray,csl])
     have HONE:=Lib.hid ONE
     have HL8:=Lib.hid hlow8
     clear hT8 hF9 hF8 ONE csl hlow8
     go_wp2_with (first | (refine Row.wpList_load_g 31 _ rfl (by first | rfl | (go_simp;done) | fail) ⟨rt,0,none⟩ rfl c _ (by have:=Row.lies_of_block HBX8.out;simpa using this) Tryz.underlying31 rfl IC.out ?_) | (refine wpList_store_row rfl 31 _ _ rfl tb c.toArray rfl rfl 31 _ HT8.out IC2.out ISZ.out HONE.out ?_) | (refine wpList_store_row rfl 40 _ _ rfl fb #[I 0,I 0] rfl rfl 40 _ HF9.out infoF rfl (by simp [Value.oneCell']) ?_))
     have hT9:((v7.setRow tb c.toArray).setRow fb #[I 0,I 0]).heap[tb]?=some (.cells c.toArray 31 (0,0)):=by
      rw [setRow_other _ _ _ _ (by omega)]
      exact setRow_heap _ _ _ _ _ _ HT8.out
     have hF9:=setRow_heap _ fb _ #[I 0,I 0] _ _ HF9.out
     have hlow9:Below w.heap.size w ((v7.setRow tb c.toArray).setRow fb #[I 0,I 0]):=below_setRow (below_setRow (HB.out.trans (HL8.out.mono HB.out.size)) (by omega) _) (by omega) _
     have hgot9:=(HG8.out.kp (Kp.row c.toArray (show tb < rt+1 by omega))).kp (Kp.row #[I 0,I 0] (show fb < rt+1 by omega))
     generalize (v7.setRow tb c.toArray).setRow fb #[I 0,I 0]=v9 at hT9 hF9 hlow9 hgot9 ⊢
     (try go_wp2)
     refine leaves_cons (f:=29) (args:=#[.pointer (some ⟨fb,0,none⟩)]) (by simp) (by simp [go_sem]) ?_
     refine (dclo_idle fb 0 0 v9 hF9).mono ?_
     rintro e u' w'' ⟨rfl,rfl,hbut,hF4⟩
     have hT4:=(hbut.block tb (Array.getElem?_eq_some_iff.1 hT9).1 (by omega)).trans hT9
     have hgot4:=hgot9.kp (Kp.but hbut (show fb < rt+1 by omega))
     have hBB:Below w.heap.size w w'':=hlow9.trans (hbut.below hlow9.size (by omega))
     obtain ⟨hd9,hcs9,htab9⟩:=got_tab HOK.out hgot4.z hgot4.g hgot4.r hgot4.d hgot4.l hgot4.b
     have hc9:c=(tabOf x).cells hd9:=by rw [HC.out,← HCS.out];exact hcs9
     refine ⟨_,results_two rfl _ w'' tb fb 31 40 c.toArray #[I 0,I 0] _ _ rfl rfl hT4 hF4 Tryz.underlying31 rfl IC2.out Tryz.underlying40 rfl infoF,hBB,?_⟩
     (try rw [e2])
     exact ⟨hd9,by rw [hc9],htab9⟩
end Rr
namespace By
open Go Go.RowKit
open Tab Po
open Rr (RP may decR headR sumR endR)
open Put (low low_len low_lt low_mod lim)
open Nx (val be be_cons)
open Cd (puts phB detB rlB bsB rowB grB listB itemsB bodyB sealB B8)
open CrcM (crc)
open May (allIn inB tabMay listMay groupMay rowMay)
def kdB (st:List Sp) (z:List Value):Bool:=st.all fun c=>match z[jS c]? with
 | some u=>kind u == kS c
 | none=>false
theorem kd_of {st:List Sp} {z:List Value} (h:kdB st z=true):∀ c ∈ st,∃ u,z[jS c]?=some u∧kind u=kS c:=fun c hc=>by
 have h1:=List.all_eq_true.1 h c hc
 cases hu:z[jS c]? with
 | none=>rw [hu] at h1;cases h1
 | some u=>rw [hu] at h1;exact ⟨u,rfl,by simpa using h1⟩
theorem st_ph:St stPh zPh where
 fit:=by decide +kernel
 nd:=by decide
 kd:=kd_of (by decide)
 all:=fun L h=>by rw [← ofPh_cells h];rfl
theorem st_dt:St stD zDt where
 fit:=by decide +kernel
 nd:=by decide
 kd:=kd_of (by decide)
 all:=fun L h=>by rw [← ofDet_cells h];rfl
theorem st_rl:St stR zRl where
 fit:=by decide +kernel
 nd:=by decide
 kd:=kd_of (by decide)
 all:=fun L h=>by rw [← ofRl_cells h];rfl
theorem st_bs:St stB zBs where
 fit:=by decide +kernel
 nd:=by decide
 kd:=kd_of (by decide)
 all:=fun L h=>by rw [← ofBs_cells h];rfl
abbrev stT:List Sp:=[0,1,2,3,4].map (Sp.num 2 9999)
abbrev stK:List Sp:=[0,1].map (Sp.num 4 2147483647)
theorem all8 {m:Int} {L:List Value} (h:L.map kind=(List.replicate 8 (I 0)).map kind):sets L (st8 m 8) (List.replicate 8 (I 0))=L:=by
 rw [List.map_replicate] at h
 have h1:=ints_iv (n:=8) h
 have hl:=congrArg List.length h
 rw [List.length_map,List.length_replicate] at hl
 obtain ⟨a0,a1,a2,a3,a4,a5,a6,a7,rfl⟩:=eight hl
 rw [← h1]
 rfl
theorem st_c8:St (st8 255 8) (List.replicate 8 (I 0)) where
 fit:=by decide +kernel
 nd:=by decide
 kd:=kd_of (by decide)
 all:=fun L h=>all8 h
theorem st_f8:St (st8 2 8) (List.replicate 8 (I 0)) where
 fit:=by decide +kernel
 nd:=by decide
 kd:=kd_of (by decide)
 all:=fun L h=>all8 h
theorem st_t:St stT (List.replicate 5 (I 0)) where
 fit:=by decide +kernel
 nd:=by decide
 kd:=kd_of (by decide)
 all:=fun L h=>by
  rw [List.map_replicate] at h
  rw [five h]
  rfl
theorem st_k:St stK (List.replicate 2 (I 0)) where
 fit:=by decide +kernel
 nd:=by decide
 kd:=kd_of (by decide)
 all:=fun L h=>by
  rw [List.map_replicate] at h
  rw [two h]
  rfl
def encR (x:Raw):List Nat:=x.ph.flatMap (encs stPh)++(grpsE x.gs++(encs (st8 255 8) x.cf++(listE (encs stD) x.ds++(listE (encs stR) x.rs++(listE (encs stB) x.bs++(encs stT x.tm++(encs (st8 2 8) x.fl++encs stK x.tk)))))))
structure GoodR (x:Raw):Prop where
 ph:∀ r ∈ x.ph,goods stPh r=true
 gn:(x.gs.length:Int)≤4
 gs:∀ g ∈ x.gs,gG g=true
 cf:goods (st8 255 8) x.cf=true
 dn:(x.ds.length:Int)≤16
 ds:∀ r ∈ x.ds,goods stD r=true
 rn:(x.rs.length:Int)≤4
 rs:∀ r ∈ x.rs,goods stR r=true
 bn:(x.bs.length:Int)≤4
 bs:∀ r ∈ x.bs,goods stB r=true
 tm:goods stT x.tm=true
 fl:goods (st8 2 8) x.fl=true
 tk:goods stK x.tk=true
section
variable {P:PP}
theorem parts_intro {x:Raw} {s s1 s2 s3 s4 s5 s6 s7 s8 s9:P.σ} (h1:eachs P stPh (List.replicate 8 zPh) s=.ok (x.ph,s1)) (h2:listG P 4 s1=.ok (x.gs,s2)) (h3:runs P (st8 255 8) (List.replicate 8 (I 0)) s2=.ok (x.cf,s3)) (h4:listN P 16 stD zDt s3=.ok (x.ds,s4)) (h5:listN P 4 stR zRl s4=.ok (x.rs,s5)) (h6:listN P 4 stB zBs s5=.ok (x.bs,s6)) (h7:runs P stT (List.replicate 5 (I 0)) s6=.ok (x.tm,s7)) (h8:runs P (st8 2 8) (List.replicate 8 (I 0)) s7=.ok (x.fl,s8)) (h9:runs P stK (List.replicate 2 (I 0)) s8=.ok (x.tk,s9)):parts P s=.ok (x,s9):=by
 unfold parts
 rw [h1,andThen_ok]
 simp only
 rw [h2,andThen_ok]
 simp only
 rw [h3,andThen_ok]
 simp only
 rw [show listN P 16 stD [I 0,.float .f64 0,.float .f64 0,.float .f64 0,.float .f64 0,I 0,I 0] s3=_ from h4,andThen_ok]
 simp only
 rw [show listN P 4 stR [I 0,I 0,I 0,I 0,I 0,I 0,I 0,I 0,I 0,I 0,I 0] s4=_ from h5,andThen_ok]
 simp only
 rw [show listN P 4 stB [I 0,I 0] s5=_ from h6,andThen_ok]
 simp only
 rw [h7,andThen_ok]
 simp only
 rw [h8,andThen_ok]
 simp only
 rw [h9,andThen_ok]
theorem parts_inv {x:Raw} {s s9:P.σ} (h:parts P s=.ok (x,s9)):∃ s1 s2 s3 s4 s5 s6 s7 s8,eachs P stPh (List.replicate 8 zPh) s=.ok (x.ph,s1)∧listG P 4 s1=.ok (x.gs,s2)∧runs P (st8 255 8) (List.replicate 8 (I 0)) s2=.ok (x.cf,s3)∧listN P 16 stD zDt s3=.ok (x.ds,s4)∧listN P 4 stR zRl s4=.ok (x.rs,s5)∧listN P 4 stB zBs s5=.ok (x.bs,s6)∧runs P stT (List.replicate 5 (I 0)) s6=.ok (x.tm,s7)∧runs P (st8 2 8) (List.replicate 8 (I 0)) s7=.ok (x.fl,s8)∧runs P stK (List.replicate 2 (I 0)) s8=.ok (x.tk,s9):=by
 unfold parts at h
 obtain ⟨x1,h1,h⟩:=Po.then_ok h
 obtain ⟨x2,h2,h⟩:=Po.then_ok h
 obtain ⟨x3,h3,h⟩:=Po.then_ok h
 obtain ⟨x4,h4,h⟩:=Po.then_ok h
 obtain ⟨x5,h5,h⟩:=Po.then_ok h
 obtain ⟨x6,h6,h⟩:=Po.then_ok h
 obtain ⟨x7,h7,h⟩:=Po.then_ok h
 obtain ⟨x8,h8,h⟩:=Po.then_ok h
 obtain ⟨x9,h9,h⟩:=Po.then_ok h
 cases h
 exact ⟨x1.2,x2.2,x3.2,x4.2,x5.2,x6.2,x7.2,x8.2,h1,h2,h3,h4,h5,h6,h7,h8,h9⟩
end
section
variable {bs:List Nat}
theorem eachs8_fwd {x:Raw} (h:RawOk x) {s s':Nat} {m:List Nat} (hg:∀ r ∈ x.ph,goods stPh r=true) (hd:bs.drop s=x.ph.flatMap (encs stPh)++m) (hs:s≤bs.length) (e:s'=s+(x.ph.flatMap (encs stPh)).length):eachs (RP bs) stPh (List.replicate 8 zPh) s=.ok (x.ph,s'):=by
 have:=eachs_fwd st_ph x.ph (fun L hL=>⟨h.ph L hL,hg L hL⟩) hd hs e
 rwa [h.pn] at this
theorem run_fwd {st:List Sp} {z L:List Value} (H:St st z) (hk:L.map kind=z.map kind) (hg:goods st L=true) {s s':Nat} {m:List Nat} (hd:bs.drop s=encs st L++m) (hs:s≤bs.length) (e:s'=s+(encs st L).length):runs (RP bs) st z s=.ok (L,s'):=by
 have:=runs_fwd st (l:=z) hk.symm hg H.fit hd hs e
 rwa [H.all L hk] at this
theorem parts_fwd {x:Raw} (h:RawOk x) (g:GoodR x) {s s':Nat} {m:List Nat} (hd:bs.drop s=encR x++m) (hs:s≤bs.length) (e:s'=s+(encR x).length):parts (RP bs) s=.ok (x,s'):=by
 unfold encR at hd e
 simp only [List.append_assoc] at hd
 simp only [List.length_append] at e
 have kz:∀ {n:Nat},(List.replicate n (I 0)).map kind=List.replicate n 0:=fun {n}=>by rw [List.map_replicate];rfl
 have d1:=drop_after hd
 have l1:=le_after hd hs
 have d2:=drop_after d1
 have l2:=le_after d1 l1
 have d3:=drop_after d2
 have l3:=le_after d2 l2
 have d4:=drop_after d3
 have l4:=le_after d3 l3
 have d5:=drop_after d4
 have l5:=le_after d4 l4
 have d6:=drop_after d5
 have l6:=le_after d5 l5
 have d7:=drop_after d6
 have l7:=le_after d6 l6
 have d8:=drop_after d7
 have l8:=le_after d7 l7
 exact parts_intro (eachs8_fwd h g.ph hd hs rfl) (listG_fwd g.gn (fun y hy=>⟨⟨fun L hL=>(h.gs y hy).1 L hL,fun L hL=>(h.gs y hy).2 L hL⟩,g.gs y hy⟩) d1 l1 rfl) (run_fwd st_c8 (by rw [h.cf,kz]) g.cf d2 l2 rfl)
  (list_fwd st_dt (fun L hL=>⟨h.ds L hL,g.ds L hL⟩) g.dn (by decide) d3 l3 rfl) (list_fwd st_rl (fun L hL=>⟨h.rs L hL,g.rs L hL⟩) g.rn (by decide) d4 l4 rfl) (list_fwd st_bs (fun L hL=>⟨h.bs L hL,g.bs L hL⟩) g.bn (by decide) d5 l5 rfl)
  (run_fwd st_t (by rw [h.tm,kz]) g.tm d6 l6 rfl) (run_fwd st_f8 (by rw [h.fl,kz]) g.fl d7 l7 rfl) (run_fwd st_k (by rw [h.tk,kz]) g.tk d8 l8 (by omega))
theorem parts_bwd (hb:∀ x ∈ bs,x < 256) {x:Raw} {s s':Nat} (hs:s≤bs.length) (h:parts (RP bs) s=.ok (x,s')):GoodR x∧s'=s+(encR x).length∧s'≤bs.length∧bs.drop s=encR x++bs.drop s':=by
 obtain ⟨s1,s2,s3,s4,s5,s6,s7,s8,h1,h2,h3,h4,h5,h6,h7,h8,h9⟩:=parts_inv h
 obtain ⟨a1,b1,c1,e1⟩:=eachs_bwd hb st_ph 8 hs h1
 obtain ⟨n2,a2,b2,c2,e2⟩:=listG_bwd hb c1 h2
 obtain ⟨a3,b3,c3,e3,_⟩:=runs_bwd hb _ st_c8.kd st_c8.nd st_c8.fit c2 h3
 obtain ⟨n4,a4,b4,c4,e4⟩:=list_bwd hb st_dt (by decide) c3 h4
 obtain ⟨n5,a5,b5,c5,e5⟩:=list_bwd hb st_rl (by decide) c4 h5
 obtain ⟨n6,a6,b6,c6,e6⟩:=list_bwd hb st_bs (by decide) c5 h6
 obtain ⟨a7,b7,c7,e7,_⟩:=runs_bwd hb _ st_t.kd st_t.nd st_t.fit c6 h7
 obtain ⟨a8,b8,c8,e8,_⟩:=runs_bwd hb _ st_f8.kd st_f8.nd st_f8.fit c7 h8
 obtain ⟨a9,b9,c9,e9,_⟩:=runs_bwd hb _ st_k.kd st_k.nd st_k.fit c8 h9
 refine ⟨⟨a1,n2,a2,a3,n4,a4,n5,a5,n6,a6,a7,a8,a9⟩,?_,c9,?_⟩
 ·unfold encR
  simp only [List.length_append]
  omega
 ·unfold encR
  rw [e1,e2,e3,e4,e5,e6,e7,e8,e9]
  simp only [List.append_assoc]
end
theorem one_low (b:Bool):low 1 (Cd.one b)=[if b=true then 1 else 0]:=by cases b <;> decide +kernel
theorem enc_ph (p:Ph):encs stPh p.cells=phB p:=by
 have h:encs stPh p.cells=[if p.on=true then 1 else 0]++(low 2 p.min++(low 2 p.gap++(low 2 p.max++(low 2 p.top++(low 2 p.step++(low 2 p.yellow++(low 2 p.red++(low 2 p.walk++(low 2 p.blinks++(low 1 p.recall++([if p.lock=true then 1 else 0]++([if p.rest=true then 1 else 0]++[])))))))))))):=rfl
 rw [h]
 simp [phB,puts,one_low]
theorem enc_dt (p:Det):encs stD p.cells=detB p:=by
 have h:encs stD p.cells=low 1 p.phase++(low 8 (p.on:Int)++(low 8 (p.off:Int)++(low 8 (p.delay:Int)++(low 8 (p.extend:Int)++(low 2 p.maxOn++(low 2 p.maxOff++[])))))):=rfl
 rw [h]
 simp [detB,puts,one_low]
theorem enc_rl (p:Rl):encs stR p.cells=rlB p:=by
 have h:encs stR p.cells=low 1 p.bars++(low 1 p.clear++(low 1 p.dwell++(low 1 p.exit++(low 2 p.delay++(low 2 p.green++(low 2 p.foot++(low 2 p.hold++(low 2 p.stay++(low 2 p.most++(low 4 p.limit++[])))))))))):=rfl
 rw [h]
 simp [rlB,puts,one_low]
theorem enc_bs (p:Bs):encs stB p.cells=bsB p:=by
 have h:encs stB p.cells=low 1 p.set++(low 2 p.lock++[]):=rfl
 rw [h]
 simp [bsB,puts]
theorem enc_int (n:Int):encs stI [I n]=low 1 n:=by
 have h:encs stI [I n]=low 1 n++[]:=rfl
 rw [h,List.append_nil]
theorem may_ph (p:Ph):goods stPh p.cells=May.Ph.may p:=by
 rw [Bool.eq_iff_iff]
 simp [goods,May.Ph.may,allIn,inB,goodS,jS,Ph.cells,and_assoc]
theorem may_rl (p:Rl):goods stR p.cells=May.Rl.may p:=by
 rw [Bool.eq_iff_iff]
 simp [goods,May.Rl.may,allIn,inB,goodS,jS,Rl.cells,and_assoc]
theorem may_bs (p:Bs):goods stB p.cells=May.Bs.may p:=by
 rw [Bool.eq_iff_iff]
 simp [goods,May.Bs.may,allIn,inB,goodS,jS,Bs.cells,and_assoc]
theorem may_int (n:Int):goods stI [I n]=inB 7 n:=by
 rw [Bool.eq_iff_iff]
 simp [goods,inB,goodS,jS]
def fitD (d:Det):Prop:=d.on < 18446744073709551616∧d.off < 18446744073709551616∧d.delay < 18446744073709551616∧d.extend < 18446744073709551616
theorem may_dt (p:Det):goods stD p.cells=true ↔ May.Det.may p=true∧fitD p:=by
 simp [goods,May.Det.may,allIn,inB,goodS,jS,Det.cells,may,fitD]
 constructor
 ·rintro ⟨a,⟨b,b2⟩,⟨c,c2⟩,⟨d,d2⟩,⟨e,e2⟩,f⟩
  simp_all
 ·rintro ⟨⟨a,b,c,d,e,f⟩,b2,c2,d2,e2⟩
  simp_all
end By
namespace By
open Go Go.RowKit
open Tab Po
open Rr (RP may decR headR sumR endR)
open Put (low low_len low_lt low_mod lim)
open Nx (val be be_cons)
open Cd (puts phB detB rlB bsB rowB grB listB itemsB bodyB sealB B8)
open CrcM (crc)
open May (allIn inB tabMay listMay groupMay rowMay)
def fitT (T:Tab):Prop:=∀ d ∈ T.dets,fitD d
structure Len8 (T:Tab):Prop where
 p:T.phases.length=8
 c:T.conflict.length=8
 f:T.flash.length=8
theorem flat_of {α:Type} {f:List Value→List Nat} {g:α→List Value} {h:α→List Nat} (e:∀ a,f (g a)=h a) (l:List α):(l.map g).flatMap f=l.flatMap h:=by
 rw [List.flatMap_map]
 congr 1
 funext a
 exact e a
theorem list_of {α:Type} {f:List Value→List Nat} {g:α→List Value} {h:α→List Nat} (e:∀ a,f (g a)=h a) (l:List α):listE f (l.map g)=listB h l:=by
 unfold listE listB
 rw [List.length_map,flat_of e]
theorem row_enc (l:List Int):rowE (l.map (fun n=>[I n]))=rowB l:=by
 unfold rowE
 rw [list_of (f:=encs stI) (g:=fun n=>[I n]) (h:=low 1) enc_int]
 rfl
theorem grps_enc (gs:List (List Int × List Int)):grpsE (gs.map (fun g=>(g.1.map (fun n=>[I n]),g.2.map (fun n=>[I n]))))=listB grB gs:=by
 unfold grpsE listB
 rw [List.length_map,List.flatMap_map]
 congr 1
 congr 1
 funext g
 unfold grpE grB
 simp only
 rw [row_enc,row_enc]
theorem enc_8 {m:Int} {l:List Int} (h:l.length=8):encs (st8 m 8) (l.map I)=puts 1 l:=by
 obtain ⟨a0,a1,a2,a3,a4,a5,a6,a7,rfl⟩:=eight h
 rfl
theorem may_8 {m:Int} {l:List Int} (h:l.length=8):goods (st8 m 8) (l.map I)=allIn m l:=by
 obtain ⟨a0,a1,a2,a3,a4,a5,a6,a7,rfl⟩:=eight h
 rw [Bool.eq_iff_iff]
 simp [goods,st8,List.range,List.range.loop,allIn,inB,goodS,jS,and_assoc]
theorem enc_raw {T:Tab} (h:Len8 T):encR (rawOf T)=itemsB T:=by
 unfold encR rawOf itemsB
 simp only
 rw [flat_of enc_ph,grps_enc,enc_8 h.c,list_of enc_dt,list_of enc_rl,list_of enc_bs,enc_8 h.f]
 rfl
theorem row_good (l:List Int):rowG (l.map (fun n=>[I n]))=rowMay l:=by
 unfold rowG rowMay allIn
 rw [List.length_map,List.all_map]
 congr 1
 ·by_cases h:l.length≤8
  ·rw [decide_eq_true h,decide_eq_true (by omega)]
  ·rw [decide_eq_false h,decide_eq_false (by omega)]
 ·congr 1
  funext n
  exact may_int n
theorem grp_good (g:List Int × List Int):gG (g.1.map (fun n=>[I n]),g.2.map (fun n=>[I n]))=groupMay g:=by
 unfold gG groupMay
 simp only
 rw [row_good,row_good]
theorem may_t (a b c d e:Int):goods stT [I a,I b,I c,I d,I e]=allIn 9999 [a,b,c,d,e]:=by
 rw [Bool.eq_iff_iff]
 simp [goods,allIn,inB,goodS,jS,and_assoc]
theorem may_k (a b:Int):goods stK [I a,I b]=allIn 2147483647 [a,b]:=by
 rw [Bool.eq_iff_iff]
 simp [goods,allIn,inB,goodS,jS,and_assoc]
theorem list_may {α:Type} {m:Int} {f:α→Bool} {l:List α}:listMay m f l=true ↔ (l.length:Int)≤m∧∀ v ∈ l,f v=true:=by
 unfold listMay
 rw [Bool.and_eq_true,decide_eq_true_eq,List.all_eq_true]
theorem all_of {α:Type} {g:α→List Value} {f:List Value→Bool} {l:List α}:(∀ r ∈ l.map g,f r=true) ↔ ∀ v ∈ l,f (g v)=true:=by
 constructor
 ·intro h v hv;exact h _ (List.mem_map_of_mem hv)
 ·intro h r hr
  obtain ⟨v,hv,rfl⟩:=List.mem_map.1 hr
  exact h v hv
theorem good_raw {T:Tab} (h:Len8 T):GoodR (rawOf T) ↔ tabMay T=true∧fitT T:=by
 unfold tabMay
 simp only [Bool.and_eq_true,list_may]
 constructor
 ·intro g
  have gp:=g.ph;have gg:=g.gs;have gc:=g.cf;have gd:=g.ds;have gr:=g.rs;have gb:=g.bs;have gt:=g.tm;have gf:=g.fl;have gk:=g.tk
  have n1:=g.gn;have n2:=g.dn;have n3:=g.rn;have n4:=g.bn
  simp only [rawOf,List.length_map] at gp gg gc gd gr gb gt gf gk n1 n2 n3 n4
  rw [may_8 h.c] at gc
  rw [may_8 h.f] at gf
  rw [may_t] at gt
  rw [may_k] at gk
  have gd2:=all_of.1 gd
  refine ⟨⟨⟨by rw [h.p];decide,fun v hv=>by have:=all_of.1 gp v hv;rwa [may_ph] at this⟩,⟨n1,fun v hv=>?_⟩,gc,⟨n2,fun v hv=>((may_dt v).1 (gd2 v hv)).1⟩,⟨n3,fun v hv=>by have:=all_of.1 gr v hv;rwa [may_rl] at this⟩,⟨n4,fun v hv=>by have:=all_of.1 gb v hv;rwa [may_bs] at this⟩,gt,gf,gk⟩,fun d hd=>((may_dt d).1 (gd2 d hd)).2⟩
  have:=gg _ (List.mem_map_of_mem hv)
  rwa [grp_good] at this
 ·rintro ⟨⟨⟨_,p⟩,⟨n1,gs⟩,c,⟨n2,d⟩,⟨n3,r⟩,⟨n4,b⟩,t,f,k⟩,fd⟩
  refine ⟨all_of.2 fun v hv=>by rw [may_ph];exact p v hv,?_,?_,?_,?_,all_of.2 fun v hv=>(may_dt v).2 ⟨d v hv,fd v hv⟩,?_,all_of.2 fun v hv=>by rw [may_rl];exact r v hv,?_,all_of.2 fun v hv=>by rw [may_bs];exact b v hv,?_,?_,?_⟩
  ·simp only [rawOf,List.length_map];exact n1
  ·intro g hg
   obtain ⟨v,hv,rfl⟩:=List.mem_map.1 hg
   rw [grp_good];exact gs v hv
  ·simp only [rawOf];rw [may_8 h.c];exact c
  ·simp only [rawOf,List.length_map];exact n2
  ·simp only [rawOf,List.length_map];exact n3
  ·simp only [rawOf,List.length_map];exact n4
  ·simp only [rawOf];rw [may_t];exact t
  ·simp only [rawOf];rw [may_8 h.f];exact f
  ·simp only [rawOf];rw [may_k];exact k
theorem kinds_I (l:List Int):(l.map I).map kind=List.replicate l.length 0:=by
 rw [List.map_map,List.eq_replicate_iff]
 refine ⟨by rw [List.length_map],fun b hb=>?_⟩
 obtain ⟨x,_,rfl⟩:=List.mem_map.1 hb
 rfl
theorem raw_ok {T:Tab} (h:Len8 T) (g:T.groups.length≤1000∧∀ y ∈ T.groups,y.1.length≤1000∧y.2.length≤1000) (n:T.dets.length≤1000∧T.rails.length≤1000∧T.buses.length≤1000):RawOk (rawOf T):=by
 have m:∀ {α:Type} {f:α→List Value} {ks:List Nat} {l:List α},(∀ a,(f a).map kind=ks)→∀ r ∈ l.map f,r.map kind=ks:=fun {α f ks l} hf r hr=>by
  obtain ⟨v,_,rfl⟩:=List.mem_map.1 hr
  exact hf v
 refine ⟨by simp only [rawOf,List.length_map];exact h.p,m fun _=>rfl,fun y hy=>?_,?_,m fun _=>rfl,m fun _=>rfl,m fun _=>rfl,rfl,?_,rfl,⟨by simp only [rawOf,List.length_map];exact g.1,fun y hy=>?_⟩,?_⟩
 ·obtain ⟨v,_,rfl⟩:=List.mem_map.1 hy
  exact ⟨m fun _=>rfl,m fun _=>rfl⟩
 ·simp only [rawOf];rw [kinds_I,h.c]
 ·simp only [rawOf];rw [kinds_I,h.f]
 ·obtain ⟨v,hv,rfl⟩:=List.mem_map.1 hy
  simp only [List.length_map]
  exact g.2 v hv
 ·simp only [rawOf,List.length_map];exact n
theorem head_fwd {bs m:List Nat} (h:bs=[88,66,1]++m):headR bs=.ok 3:=by
 have hl:3≤bs.length:=by rw [h];simp
 have hv:val bs 0 3=5784065:=by rw [h];rfl
 unfold headR
 rw [rp_num (0:Nat) 3 16777215 0 (by decide),show lim 3 7=3 by decide,if_neg (by omega),hv,if_neg (by decide)]
 rfl
theorem head_bwd {bs:List Nat} (hb:∀ x ∈ bs,x < 256) {s:Nat} (h:headR bs=.ok s):s=3∧3≤bs.length∧bs=[88,66,1]++bs.drop 3:=by
 unfold headR at h
 rw [rp_num (0:Nat) 3 16777215 0 (by decide),show lim 3 7=3 by decide] at h
 by_cases h1:bs.length < 0+3
 ·rw [if_pos h1] at h;cases h
 ·rw [if_neg h1] at h
  by_cases h2:(16777215:Int) < (val bs 0 3:Int)
  ·rw [if_pos h2] at h;cases h
  ·rw [if_neg h2] at h
   simp only at h
   by_cases h3:(val bs 0 3:Int)=5784065
   ·rw [if_pos h3] at h
    have h4:0+3=s:=Except.ok.inj h
    have h5:=val_low hb (s:=0) (k:=3) (by omega)
    rw [h3,List.drop_zero,show low 3 5784065=[88,66,1] by decide +kernel] at h5
    exact ⟨by omega,by omega,h5⟩
   ·rw [if_neg h3] at h;cases h
theorem sum_fwd {bs m:List Nat} {s:Nat} (hd:bs.drop s=low 2 ((crc 65535 (bs.take s):Nat):Int)++m) (hs:s≤bs.length):sumR bs s=.ok (s+2):=by
 have h1:=le_after hd hs
 rw [low_len] at h1
 have hlt:=CrcM.crc_lt 65535 (bs.take s) (by decide)
 have hv:=val_of (k:=2) hd (by omega) (by show ((crc 65535 (bs.take s):Nat):Int) < 65536;omega)
 unfold sumR
 rw [rp_num s 2 65535 0 (by decide),show lim 2 7=2 by decide,if_neg (by omega),if_neg (by omega),hv]
 exact if_pos rfl
theorem sum_bwd {bs:List Nat} (hb:∀ x ∈ bs,x < 256) {s s':Nat} (h:sumR bs s=.ok s'):s'=s+2∧s'≤bs.length∧bs.drop s=low 2 ((crc 65535 (bs.take s):Nat):Int)++bs.drop s':=by
 unfold sumR at h
 rw [rp_num s 2 65535 0 (by decide),show lim 2 7=2 by decide] at h
 by_cases h1:bs.length < s+2
 ·rw [if_pos h1] at h;cases h
 ·rw [if_neg h1] at h
  by_cases h2:(65535:Int) < (val bs s 2:Int)
  ·rw [if_pos h2] at h;cases h
  ·rw [if_neg h2] at h
   simp only at h
   by_cases h3:(val bs s 2:Int)=((crc 65535 (bs.take s):Nat):Int)
   ·rw [if_pos h3] at h
    have h4:s+2=s':=Except.ok.inj h
    subst h4
    refine ⟨rfl,by omega,?_⟩
    rw [← h3]
    exact val_low hb (by omega)
   ·rw [if_neg h3] at h;cases h
theorem dec_fwd {T:Tab} (h:Len8 T) (hm:tabMay T=true) (hf:fitT T) {m:List Nat} (hlen:(sealB (bodyB T)).length+m.length≤2048) :
  decR (sealB (bodyB T)++m)=if m=[] then .ok (rawOf T) else .error (6,((sealB (bodyB T)).length:Int)):=by
 have hg:=(good_raw h).2 ⟨hm,hf⟩
 have hgn:T.groups.length≤4∧∀ y ∈ T.groups,y.1.length≤8∧y.2.length≤8:=by
  unfold tabMay at hm
  simp only [Bool.and_eq_true,list_may] at hm
  refine ⟨by have:=hm.2.1.1;omega,fun y hy=>?_⟩
  have:=hm.2.1.2 y hy
  unfold groupMay rowMay at this
  simp only [Bool.and_eq_true,decide_eq_true_eq] at this
  exact ⟨this.1.1,this.2.1⟩
 have hln:T.dets.length≤16∧T.rails.length≤4∧T.buses.length≤4:=by
  unfold tabMay at hm
  simp only [Bool.and_eq_true,list_may] at hm
  have h1:=hm.2.2.2.1.1;have h2:=hm.2.2.2.2.1.1;have h3:=hm.2.2.2.2.2.1.1
  omega
 have hok:=raw_ok h ⟨by omega,fun y hy=>by have:=hgn.2 y hy;omega⟩ ⟨by omega,by omega,by omega⟩
 obtain ⟨body,hbody⟩:∃ b,bodyB T=b:=⟨_,rfl⟩
 have hb2:body=[88,66,1]++encR (rawOf T):=by rw [← hbody,enc_raw h];rfl
 rw [hbody] at hlen ⊢
 obtain ⟨cr,hcr⟩:∃ c,crc 65535 body=c:=⟨_,rfl⟩
 have hs:sealB body=body++low 2 (cr:Int):=by unfold sealB;rw [hcr]
 have hsl:(sealB body).length=body.length+2:=by rw [hs,List.length_append,low_len]
 obtain ⟨bs,hbs⟩:∃ b,sealB body++m=b:=⟨_,rfl⟩
 rw [hbs]
 have e1:bs=body++(low 2 (cr:Int)++m):=by rw [← hbs,hs,List.append_assoc]
 have e2:bs=[88,66,1]++(encR (rawOf T)++(low 2 (cr:Int)++m)):=by rw [e1,hb2,List.append_assoc]
 have hl:bs.length=body.length+2+m.length:=by rw [e1,List.length_append,List.length_append,low_len];omega
 have hbl:body.length=3+(encR (rawOf T)).length:=by rw [hb2,List.length_append];rfl
 have d3:bs.drop 3=encR (rawOf T)++(low 2 (cr:Int)++m):=by rw [e2];rfl
 have hp:=parts_fwd hok hg d3 (by omega) (s':=body.length) (by omega)
 have dB:bs.drop body.length=low 2 (cr:Int)++m:=by rw [e1,List.drop_left' rfl]
 have tB:bs.take body.length=body:=by rw [e1,List.take_left' rfl]
 have hsum:=sum_fwd (bs:=bs) (s:=body.length) (m:=m) (by rw [tB,hcr];exact dB) (by omega)
 unfold decR
 rw [if_neg (by omega),head_fwd e2,andThen_ok,hp,andThen_ok]
 simp only
 rw [hsum,andThen_ok]
 unfold endR
 by_cases hm0:m=[]
 ·subst hm0
  rw [if_pos rfl,if_neg (by rw [hl];simp)]
  rfl
 ·have:0 < m.length:=List.length_pos_iff.2 hm0
  rw [if_neg hm0,if_pos (by omega),andThen_error,hsl]
theorem dec_inv {bs:List Nat} {x:Raw} (h:decR bs=.ok x):bs.length≤2048∧∃ (s1 s2 s3 s4:Nat),headR bs=.ok s1∧parts (RP bs) s1=.ok (x,s2)∧sumR bs s2=.ok s3∧endR bs s3=.ok s4:=by
 unfold decR at h
 by_cases hbig:2048 < bs.length
 ·rw [if_pos hbig] at h;cases h
 ·rw [if_neg hbig] at h
  obtain ⟨s1,h1,h⟩:=Po.then_ok h
  obtain ⟨x2,h2,h⟩:=Po.then_ok h
  obtain ⟨s3,h3,h⟩:=Po.then_ok h
  obtain ⟨s4,h4,h⟩:=Po.then_ok h
  cases h
  exact ⟨by omega,s1,x2.2,s3,s4,h1,h2,h3,h4⟩
theorem dec_bwd {bs:List Nat} (hb:∀ x ∈ bs,x < 256) {x:Raw} (h:decR bs=.ok x):RawOk x∧bs=sealB (bodyB (tabOf x))∧tabMay (tabOf x)=true∧fitT (tabOf x)∧Len8 (tabOf x)∧bs.length≤2048:=by
 obtain ⟨hbig,s1,s2,s3,s4,h1,h2,h3,h4⟩:=dec_inv h
 obtain ⟨rfl,hl3,e3⟩:=head_bwd hb h1
 have hok:=parts_ok (rfew hb) h2
 obtain ⟨hg,hs2,hl2,hd2⟩:=parts_bwd hb hl3 h2
 obtain ⟨rfl,hl4,hd4⟩:=sum_bwd hb h3
 unfold endR at h4
 by_cases he:s2+2 < bs.length
 ·rw [if_pos he] at h4;cases h4
 have hraw:=raw_tab hok
 have hlen:Len8 (tabOf x):=by
  refine ⟨?_,?_,?_⟩
  ·simp only [tabOf,List.length_map];exact hok.pn
  ·simp only [tabOf,List.length_map]
   have:=congrArg List.length hok.cf
   rwa [List.length_map,List.length_replicate] at this
  ·simp only [tabOf,List.length_map]
   have:=congrArg List.length hok.fl
   rwa [List.length_map,List.length_replicate] at this
 have hbody:bodyB (tabOf x)=[88,66,1]++encR x:=by
  have he:encR x=itemsB (tabOf x):=by have:=enc_raw hlen;rwa [hraw] at this
  rw [he];rfl
 have hg2:GoodR (rawOf (tabOf x)):=by rw [hraw];exact hg
 have hmf:=(good_raw hlen).1 hg2
 refine ⟨hok,?_,hmf.1,hmf.2,hlen,by omega⟩
 have hnil:bs.drop (s2+2)=[]:=List.drop_eq_nil_of_le (by omega)
 rw [hnil,List.append_nil] at hd4
 have htake:bs.take s2=bodyB (tabOf x):=by
  have t1:bs.take s2++bs.drop s2=bs:=List.take_append_drop _ _
  rw [hbody]
  have t2:bs=([88,66,1]++encR x)++bs.drop s2:=by
   rw [List.append_assoc,← hd2];exact e3
  conv=>lhs;rw [t2]
  refine List.take_left' ?_
  rw [List.length_append,hs2]
  rfl
 rw [htake] at hd4
 unfold sealB
 rw [← hd4,← htake,List.take_append_drop]
end By
namespace By
open Go Go.RowKit
open Tab Po
open Rr (decR EndsDec dec_is)
open Cd (bodyB sealB B8)
open May (tabMay)
theorem own_slice {n:Nat} {W:World} {v:Value} {l:List Nat} (h:B.Own n W v l) (hl:∀ x ∈ l,x < 256):∃ a cap,v=.slice a l.length cap∧B.Row W a l∧l.length≤cap∧(a=none→cap=0):=by
 obtain ⟨a,c,e,hr⟩:=B.own_row h hl
 rcases h.2 with ⟨h1,h2⟩ | ⟨g,cap,cur,h1,h2,h3,h4,h5⟩
 ·rw [e] at h1
  injection h1 with q1 q2 q3
  exact ⟨_,_,e,hr,by omega,fun _=>q3⟩
 ·rw [e] at h1
  injection h1 with q1 q2 q3
  subst q1 q3
  exact ⟨_,_,e,hr,h4,fun h=>by cases h⟩
theorem seal_lt (T:Tab):∀ x ∈ sealB (bodyB T),x < 256:=(B8.body T).app (B8.low _ _)
theorem enc_bytes {T:Tab} {hd:Hd} {w:World} (ht:IsTab w hd T) (hm:tabMay T=true):Calls Tryz.prog 11 #[.agg (T.cells hd).toArray] w fun e w'=>∃ a cap,e=.returned (.tuple #[.slice a (sealB (bodyB T)).length cap,I 0])∧B.Row w' a (sealB (bodyB T))∧(sealB (bodyB T)).length≤cap∧(a=none→cap=0)∧Below w.heap.size w w' :=
 (Po.enc_good ht hm).mono fun e w' ⟨v,h1,h2,h3⟩=>by
  obtain ⟨a,cap,rfl,hr,hc,hn⟩:=own_slice h2 (seal_lt T)
  exact ⟨a,cap,h1,hr,hc,hn,h3⟩
theorem dec_err {bs:List Nat} {fl:Flt} (hd:decR bs=.error fl) {a:Option Addr} {cap:Nat} {w:World} (hr:B.Row w a bs) (hl:bs.length≤10000) (hc:bs.length≤cap) (hn:a=none→cap=0) :
  Calls Tryz.prog 14 #[.slice a bs.length cap] w fun e w'=>e=.returned (.tuple #[.agg (Clone.zTab.cells Clone.zHd).toArray,.agg #[I fl.1,I fl.2]])∧Below w.heap.size w w' :=
 (dec_is _ a cap w hr hl hn hc).mono fun e w' h=>by
  unfold EndsDec at h
  rw [hd] at h
  exact ⟨h.2,h.1⟩
end By
namespace SetM
def low (s:Int):Nat:=(s % 256).toNat
theorem low_lt (s:Int):low s < 256:=by unfold low;omega
def has (s p:Int):Bool:=decide (0≤p) && (low s).testBit p.toNat
def bit (p:Int):Nat:=if 0≤p∧p < 8 then 2 ^ p.toNat else 0
def withN (s p:Int):Nat:=low s ||| bit p
theorem toNat_low (s:Int):(BitVec.ofInt 64 s).toNat % 256=low s:=by
 rw [BitVec.toNat_ofInt]
 unfold low
 show (s % ((18446744073709551616:Nat):Int)).toNat % 256=_
 omega
theorem toNat_ofNat (b:Nat) (h:b < 256):(BitVec.ofInt 64 (b:Int)).toNat=b:=by
 rw [BitVec.toNat_ofInt]
 show ((b:Int) % ((18446744073709551616:Nat):Int)).toNat=_
 omega
theorem wrap_small (n:Nat) (h:n < 256):IntKind.i64.wrap (n:Int)=n:=by
 rw [IntKind.wrap_i64];omega
theorem and_low (s:Int) (b:Nat) (h:b < 256):bits .and .i64 s (b:Int)=((low s &&& b:Nat):Int):=by
 show IntKind.i64.wrap ((BitVec.ofInt 64 s &&& BitVec.ofInt 64 (b:Int)).toNat:Nat)=_
 rw [BitVec.toNat_and,toNat_ofNat b h]
 have h1:(BitVec.ofInt 64 s).toNat &&& b < 256:=Nat.and_lt_two_pow (n:=8) _ h
 have h2:((BitVec.ofInt 64 s).toNat &&& b) % 2 ^ 8=_:=Nat.and_mod_two_pow
 rw [wrap_small _ h1,← toNat_low s]
 rw [Nat.mod_eq_of_lt h1,Nat.mod_eq_of_lt (show b < 2 ^ 8 from h)] at h2
 rw [h2]
theorem bit_lt (p:Int):bit p < 256:=by
 unfold bit
 split
 ·rename_i h
  have:2 ^ p.toNat≤2 ^ 7:=Nat.pow_le_pow_right (by decide) (by omega)
  omega
 ·decide
theorem with_lt (s p:Int):withN s p < 256:=Nat.or_lt_two_pow (n:=8) (low_lt s) (bit_lt p)
theorem test_high (m k:Nat) (h:m < 256) (hk:8≤k):m.testBit k=false :=
 Nat.testBit_lt_two_pow (Nat.lt_of_lt_of_le h (Nat.pow_le_pow_right (n:=2) (by decide) hk:2 ^ 8≤2 ^ k))
theorem test_bit (p:Int) (k:Nat):(bit p).testBit k=decide ((k:Int)=p∧k < 8):=by
 unfold bit
 split
 ·rename_i h
  rw [Nat.testBit_two_pow]
  rw [Bool.eq_iff_iff,decide_eq_true_iff,decide_eq_true_iff]
  omega
 ·rename_i h
  rw [Nat.zero_testBit]
  symm
  rw [decide_eq_false_iff_not]
  omega
theorem has_neg (s p:Int) (h:p < 0):has s p=false:=by unfold has;rw [decide_eq_false (by omega)];rfl
theorem has_big (s p:Int) (h:8≤p):has s p=false:=by
 unfold has;rw [test_high _ _ (low_lt s) (by omega),Bool.and_false]
theorem has_nat (s:Int) (k:Nat):has s k=(low s).testBit k:=by unfold has;simp
theorem has_shr (s:Int) (k:Nat) (h:k < 8):bits .and .i64 (s / 2 ^ k) 1=if has s k then 1 else 0:=by
 have h1:=and_low (s / 2 ^ k) 1 (by decide)
 have h2:low (s / 2 ^ k) &&& 1=low s / 2 ^ k % 2:=by
  rw [Nat.and_one_is_mod]
  have h3:k=0∨k=1∨k=2∨k=3∨k=4∨k=5∨k=6∨k=7:=by omega
  unfold low
  rcases h3 with rfl | rfl | rfl | rfl | rfl | rfl | rfl | rfl
  all_goals (simp only [Nat.reducePow,Int.reducePow];omega)
 rw [h2] at h1
 rw [has_nat,Nat.testBit_eq_decide_div_mod_eq]
 rw [show ((1:Nat):Int)=1 from rfl] at h1
 rw [h1]
 have h4:low s / 2 ^ k % 2 < 2:=Nat.mod_lt _ (by decide)
 split <;> rename_i h5
 ·rw [of_decide_eq_true h5];rfl
 ·have:low s / 2 ^ k % 2=0:=by simp at h5;omega
  rw [this];rfl
def upto (s:Int) (k:Nat):List Int:=((List.range k).filter fun j=>(low s).testBit j).map Int.ofNat
def list (s:Int):List Int:=upto s 8
theorem upto_zero (s:Int):upto s 0=[]:=rfl
theorem upto_hit (s:Int) (k:Nat) (h:has s k=true):upto s (k+1)=upto s k++[(k:Int)]:=by
 rw [has_nat] at h
 unfold upto;rw [List.range_succ,List.filter_append,List.map_append];simp [h]
theorem upto_miss (s:Int) (k:Nat) (h:has s k=false):upto s (k+1)=upto s k:=by
 rw [has_nat] at h
 unfold upto;rw [List.range_succ,List.filter_append,List.map_append];simp [h]
theorem upto_len (s:Int) (k:Nat):(upto s k).length≤k:=by
 unfold upto;rw [List.length_map];have:=List.length_filter_le (fun j=>(low s).testBit j) (List.range k);simpa using this
theorem list_len (s:Int):(list s).length≤8:=upto_len s 8
theorem mem_list (s p:Int):p ∈ list s ↔ has s p=true:=by
 unfold list upto
 rw [List.mem_map]
 constructor
 ·rintro ⟨j,hj,rfl⟩
  rw [List.mem_filter] at hj
  rw [show Int.ofNat j=(j:Int) from rfl,has_nat];exact hj.2
 ·intro h
  have h0:0≤p:=by
   by_cases h1:0≤p
   ·exact h1
   ·rw [has_neg s p (by omega)] at h;cases h
  have h8:p < 8:=by
   by_cases h1:p < 8
   ·exact h1
   ·rw [has_big s p (by omega)] at h;cases h
  obtain ⟨k,rfl⟩:=Int.eq_ofNat_of_zero_le h0
  rw [has_nat] at h
  have h9:k < 8:=by omega
  exact ⟨k,List.mem_filter.2 ⟨List.mem_range.2 h9,h⟩,rfl⟩
theorem list_bd (s p:Int) (h:p ∈ list s):0≤p∧p < 8:=by
 unfold list upto at h
 obtain ⟨j,hj,rfl⟩:=List.mem_map.1 h
 have:=List.mem_range.1 (List.mem_filter.1 hj).1
 rw [show Int.ofNat j=(j:Int) from rfl]
 omega
def of (l:List Int):Nat:=l.foldl (fun m p=>m ||| bit p) 0
theorem of_snoc (l:List Int) (p:Int):of (l++[p])=of l ||| bit p:=by unfold of;rw [List.foldl_append];rfl
theorem fold_lt (l:List Int) (m:Nat) (h:m < 256):l.foldl (fun m p=>m ||| bit p) m < 256:=by
 induction l generalizing m with
 | nil=>exact h
 | cons p l ih=>exact ih _ (Nat.or_lt_two_pow (n:=8) h (bit_lt p))
theorem of_lt (l:List Int):of l < 256:=fold_lt l 0 (by decide)
theorem fold_test (l:List Int) (m k:Nat):(l.foldl (fun m p=>m ||| bit p) m).testBit k=(m.testBit k || decide ((k:Int) ∈ l∧k < 8)):=by
 induction l generalizing m with
 | nil=>simp
 | cons p l ih =>
  rw [List.foldl_cons,ih,Nat.testBit_or,test_bit,Bool.or_assoc]
  congr 1
  rw [Bool.eq_iff_iff,Bool.or_eq_true,decide_eq_true_iff,decide_eq_true_iff,decide_eq_true_iff,List.mem_cons]
  constructor
  ·rintro (⟨a,b⟩ | ⟨a,b⟩)
   ·exact ⟨.inl a,b⟩
   ·exact ⟨.inr a,b⟩
  ·rintro ⟨a | a,b⟩
   ·exact .inl ⟨a,b⟩
   ·exact .inr ⟨a,b⟩
theorem of_test (l:List Int) (k:Nat):(of l).testBit k=decide ((k:Int) ∈ l∧k < 8):=by
 unfold of;rw [fold_test,Nat.zero_testBit,Bool.false_or]
theorem eq_of {m m':Nat} (h:m < 256) (h':m' < 256) (e:∀ k,k < 8→m.testBit k=m'.testBit k):m=m':=by
 apply Nat.eq_of_testBit_eq
 intro k
 by_cases hk:k < 8
 ·exact e k hk
 ·rw [test_high m k h (by omega),test_high m' k h' (by omega)]
def refOf (l:List Int):Nat→Nat
 | 0=>0
 | k+1=>if (k:Int) ∈ l then refOf l k ||| 2 ^ k else refOf l k
theorem refOf_hit (l:List Int) (k:Nat) (h:(k:Int) ∈ l):refOf l (k+1)=refOf l k ||| 2 ^ k:=by rw [refOf,if_pos h]
theorem refOf_miss (l:List Int) (k:Nat) (h:¬ (k:Int) ∈ l):refOf l (k+1)=refOf l k:=by rw [refOf,if_neg h]
theorem refOf_lt (l:List Int) (k:Nat):refOf l k < 2 ^ k:=by
 induction k with
 | zero=>exact Nat.one_pos
 | succ k ih =>
  have h1:refOf l k < 2 ^ (k+1):=Nat.lt_of_lt_of_le ih (Nat.pow_le_pow_right (by decide) (by omega))
  rw [refOf]
  split
  ·exact Nat.or_lt_two_pow h1 (Nat.pow_lt_pow_right (by decide) (by omega))
  ·exact h1
theorem refOf_test (l:List Int) (k j:Nat):(refOf l k).testBit j=decide (j < k∧(j:Int) ∈ l):=by
 induction k with
 | zero=>simp [refOf]
 | succ k ih =>
  by_cases h:(k:Int) ∈ l
  ·rw [refOf_hit l k h,Nat.testBit_or,ih,Nat.testBit_two_pow,Bool.eq_iff_iff,Bool.or_eq_true,decide_eq_true_iff,decide_eq_true_iff,decide_eq_true_iff]
   constructor
   ·rintro (⟨a,b⟩ | rfl)
    ·exact ⟨by omega,b⟩
    ·exact ⟨by omega,h⟩
   ·rintro ⟨a,b⟩
    by_cases e:k=j
    ·exact .inr e
    ·exact .inl ⟨by omega,b⟩
  ·rw [refOf_miss l k h,ih,Bool.eq_iff_iff,decide_eq_true_iff,decide_eq_true_iff]
   constructor
   ·rintro ⟨a,b⟩
    exact ⟨by omega,b⟩
   ·rintro ⟨a,b⟩
    have:j ≠ k:=by rintro rfl;exact h b
    exact ⟨by omega,b⟩
theorem refOf_eq (l:List Int):refOf l 8=of l:=by
 refine eq_of (refOf_lt l 8) (of_lt l) fun k hk=>?_
 rw [refOf_test,of_test,Bool.eq_iff_iff,decide_eq_true_iff,decide_eq_true_iff,and_comm]
theorem list_test (s:Int) (k:Nat) (hk:k < 8):decide ((k:Int) ∈ list s∧k < 8)=(low s).testBit k:=by
 rw [Bool.eq_iff_iff,decide_eq_true_iff,mem_list,has_nat]
 exact ⟨fun h=>h.1,fun h=>⟨h,hk⟩⟩
theorem of_list (s:Int):of (list s)=low s:=by
 refine eq_of (of_lt _) (low_lt s) fun k hk=>?_
 rw [of_test,list_test s k hk]
theorem of_with (s p:Int):of (list s++[p])=withN s p:=by
 rw [of_snoc,of_list];rfl
end SetM
namespace RefS
open Go.ChangeShapes Go.WideShapes Go.ChangeAt Go.RowKit
open Go.Proofs.YtggjconbgpfomaaGreat
theorem ret_int {k:IntKind} {a b:Int} (h:a=b):Ending.returned (.int k a)=.returned (.int k b):=by rw [h]
theorem ret_bool {a b:Bool} (h:a=b):Ending.returned (.bool a)=.returned (.bool b):=by rw [h]
theorem eight {p:Int} (h:0≤p) (h':p < 8):p=0∨p=1∨p=2∨p=3∨p=4∨p=5∨p=6∨p=7:=by omega
theorem shr_has (s:Int) (k:Nat) (h:k < 8):(bits .and .i64 (s / 2 ^ k) 1 == 1)=SetM.has s k:=by
 rw [SetM.has_shr s k h]
 cases SetM.has s k <;> rfl
theorem rhas_any (s p:Int) (w:World):Calls Tryz.prog 118 #[.int .i64 s,.int .i64 p] w fun e w'=>e=.returned (.bool (SetM.has s p))∧w=w':=by
 by_cases h1:p < 0
 ·have HB:=Lib.hid (SetM.has_neg s p h1)
  go_enter Tryz.func118,Tryz.ntmps118
  go_wp2
  go_ret
  exact ⟨ret_bool HB.out.symm,rfl⟩
 by_cases h2:8≤p
 ·have HB:=Lib.hid (SetM.has_big s p h2)
  go_enter Tryz.func118,Tryz.ntmps118
  go_wp2
  go_ret
  exact ⟨ret_bool HB.out.symm,rfl⟩
 rcases eight (p:=p) (by omega) (by omega) with rfl | rfl | rfl | rfl | rfl | rfl | rfl | rfl
 ·have HB:=Lib.hid (show (bits .and .i64 s 1 == 1)=SetM.has s 0 from by have:=shr_has s 0 (by decide);simpa using this)
  clear h1 h2
  go_enter Tryz.func118,Tryz.ntmps118
  go_wp2
  go_ret
  exact ⟨ret_bool HB.out,rfl⟩
 ·have HB:=Lib.hid (show (bits .and .i64 (s / 2) 1 == 1)=SetM.has s 1 from shr_has s 1 (by decide))
  clear h1 h2
  go_enter Tryz.func118,Tryz.ntmps118
  go_wp2
  go_ret
  exact ⟨ret_bool HB.out,rfl⟩
 ·have HB:=Lib.hid (show (bits .and .i64 (s / 4) 1 == 1)=SetM.has s 2 from shr_has s 2 (by decide))
  clear h1 h2
  go_enter Tryz.func118,Tryz.ntmps118
  go_wp2
  go_ret
  exact ⟨ret_bool HB.out,rfl⟩
 ·have HB:=Lib.hid (show (bits .and .i64 (s / 8) 1 == 1)=SetM.has s 3 from shr_has s 3 (by decide))
  clear h1 h2
  go_enter Tryz.func118,Tryz.ntmps118
  go_wp2
  go_ret
  exact ⟨ret_bool HB.out,rfl⟩
 ·have HB:=Lib.hid (show (bits .and .i64 (s / 16) 1 == 1)=SetM.has s 4 from shr_has s 4 (by decide))
  clear h1 h2
  go_enter Tryz.func118,Tryz.ntmps118
  go_wp2
  go_ret
  exact ⟨ret_bool HB.out,rfl⟩
 ·have HB:=Lib.hid (show (bits .and .i64 (s / 32) 1 == 1)=SetM.has s 5 from shr_has s 5 (by decide))
  clear h1 h2
  go_enter Tryz.func118,Tryz.ntmps118
  go_wp2
  go_ret
  exact ⟨ret_bool HB.out,rfl⟩
 ·have HB:=Lib.hid (show (bits .and .i64 (s / 64) 1 == 1)=SetM.has s 6 from shr_has s 6 (by decide))
  clear h1 h2
  go_enter Tryz.func118,Tryz.ntmps118
  go_wp2
  go_ret
  exact ⟨ret_bool HB.out,rfl⟩
 ·have HB:=Lib.hid (show (bits .and .i64 (s / 128) 1 == 1)=SetM.has s 7 from shr_has s 7 (by decide))
  clear h1 h2
  go_enter Tryz.func118,Tryz.ntmps118
  go_wp2
  go_ret
  exact ⟨ret_bool HB.out,rfl⟩
theorem info3:(Tryz.prog.info? 3).map (fun i=>(i.zero,i.size,i.bytes))=some (some (.int .i64 0),1,8):=by kernel_rfl
def Owns (B:Nat) (W:World) (v:Value) (l:List Int):Prop:=W.ownsRow B 3 1 v l.length (l.map (Value.int .i64))∧(v=.slice none 0 0 ↔ l=[])
def Gave (w:World) (l:List Int) (e:Ending) (W':World):Prop:=∃ v,e=.returned v∧Owns w.heap.size W' v l∧Below w.heap.size w W'
theorem row_blk {W:World} {n₀ e size k:Nat} {v:Value} {xs:List Value} (h:W.ownsRow n₀ e size v k xs) (j:Nat) (hj:v.ownBlock=some j):n₀≤j:=by
 rcases h.2 with ⟨rfl,_⟩ | ⟨g,cap,cur,rfl,hb,_,_⟩
 ·simp [Value.ownBlock] at hj
 ·obtain rfl:g=j:=by simpa [Value.ownBlock] using hj
  exact hb
theorem map_snoc (pre:List Int) (x:Int):pre.map (Value.int .i64)++[.int .i64 x]=(pre++[x]).map (Value.int .i64):=by simp
theorem add_zero (x:Addr):x.add 0=x:=by cases x;simp [Addr.add]
def Row (w:World) (a:Option Addr) (l:List Int):Prop:=l.length≤maxLen∧(l=[]∨∃ x,a=some x∧∀ i,i < l.length→w.cell? (x.add i)=some (.int .i64 (l.getD i 0)))
theorem Row.cells {w:World} {a:Option Addr} {l:List Int} (h:Row w a l) {k:Nat} (hk:k < l.length):∃ x,a=some x∧∀ i,i < l.length→w.cell? (x.add i)=some (.int .i64 (l.getD i 0)):=by
 rcases h.2 with rfl | h
 ·simp at hk
 ·exact h
theorem Row.below {w w':World} {a:Option Addr} {l:List Int} (h:Row w a l) (hb:Below w.heap.size w w'):Row w' a l:=by
 refine ⟨h.1,?_⟩
 rcases h.2 with h | ⟨x,hx,hc⟩
 ·exact .inl h
 ·exact .inr ⟨x,hx,fun i hi=>(hb.cell (World.block_lt_of_cell? w _ (hc i hi))).trans (hc i hi)⟩
theorem row_of {B:Nat} {w:World} {v:Value} {l:List Int} (h:Owns B w v l):∃ a cap,v=.slice a l.length cap∧Row w a l:=by
 rcases h.1.2 with ⟨rfl,h0⟩ | ⟨g,cap,cur,rfl,h1,h2,h3,h4,h5,h6⟩
 ·have:l=[]:=h.2.1 rfl
  subst this
  exact ⟨none,0,rfl,Nat.zero_le _,.inl rfl⟩
 ·refine ⟨_,cap,rfl,by omega,.inr ⟨_,rfl,fun i hi=>?_⟩⟩
  exact h.1.cells (g:=g) rfl i (.int .i64 (l.getD i 0)) (by rw [List.getElem?_map,List.getD_eq_getElem?_getD,List.getElem?_eq_getElem hi];rfl)
theorem take_succ (l:List Int) (k:Nat) (h:k < l.length):l.take (k+1)=l.take k++[l.getD k 0]:=by
 rw [List.take_succ_eq_append_getElem h,List.getD_eq_getElem?_getD,List.getElem?_eq_getElem h];rfl
theorem or_small (m b:Nat) (hm:m < 256) (hb:b < 256):bits .or .i64 (m:Int) (b:Int)=((m ||| b:Nat):Int) :=
 (bits_nat .i64 8 (by decide) (fun n h0 h1=>by rw [IntKind.wrap_i64];omega) m b hm hb).2
theorem ref_lt (l:List Int) (k:Nat) (h:k≤8):SetM.refOf l k < 256:=Nat.lt_of_lt_of_le (SetM.refOf_lt l k) (Nat.pow_le_pow_right (n:=2) (by decide) h:2 ^ k≤2 ^ 8)
theorem ref_or (l:List Int) (k:Nat) (h:k < 8) (hm:(k:Int) ∈ l):bits .or .i64 (SetM.refOf l k:Nat) ((2 ^ k:Nat):Int)=(SetM.refOf l (k+1):Nat):=by
 rw [or_small _ _ (ref_lt l k (by omega)) (show 2 ^ k < 2 ^ 8 from Nat.pow_lt_pow_right (by decide) h),SetM.refOf_hit l k hm]
theorem wrap_pow (k:Nat) (h:k < 8):wrap64 ((2:Int) ^ k)=((2 ^ k:Nat):Int):=by
 have h3:k=0∨k=1∨k=2∨k=3∨k=4∨k=5∨k=6∨k=7:=by omega
 rcases h3 with rfl | rfl | rfl | rfl | rfl | rfl | rfl | rfl <;> decide +kernel
theorem ref_or2 (l:List Int) (k:Nat) (h:k < 8) (hm:(k:Int) ∈ l):bits .or .i64 (SetM.refOf l k:Nat) (wrap64 ((2:Int) ^ k))=(SetM.refOf l (k+1):Nat):=by
 rw [wrap_pow k h,ref_or l k h hm]
theorem first_at {l:List Int} {p:Int} (h:p ∈ l):∃ j,j < l.length∧l.getD j 0=p∧∀ i,i < j→l.getD i 0 ≠ p:=by
 induction l with
 | nil=>simp at h
 | cons y l ih =>
  by_cases e:y=p
  ·exact ⟨0,by simp,by simpa using e,fun i hi=>by omega⟩
  ·obtain ⟨j,h1,h2,h3⟩:=ih (by simpa [Ne.symm e] using h)
   refine ⟨j+1,by simp;omega,by simpa using h2,fun i hi=>?_⟩
   cases i with
   | zero=>simpa using e
   | succ i=>simpa using h3 i (by omega)
theorem rof_any (a:Option Addr) (cap:Nat) (l:List Int) (w:World) (h:Row w a l) :
  Calls Tryz.prog 96 #[.slice a l.length cap] w fun e w'=>e=.returned (.int .i64 (SetM.of l:Nat))∧w=w':=by
 have h1:=h.1
 unfold maxLen at h1
 have Hr:=Lib.hid h
 clear h
 go_enter Tryz.func96,Tryz.ntmps96
 go_wp2
 go_loop [3,4] (fun t p=>∃ k:Nat,k≤8∧p=.int .i64 k∧t=.int .i64 (SetM.refOf l k:Nat)) (fun _ p=>8 - (intOf p).toNat)
 case atStart=>exact ⟨0,Nat.zero_le _,rfl,rfl⟩
 case round =>
  obtain ⟨k,hk,rfl,rfl⟩:=hrel
  by_cases hlt:k < 8
  ·by_cases hm:(k:Int) ∈ l
   ·have HS:=Lib.hid (ref_or2 l k hlt hm)
    obtain ⟨j,hj,hjk,hjn⟩:=first_at hm
    have Hj:=Lib.hid hjk
    have Hn:=Lib.hid hjn
    clear hjk hjn hm
    go_wp2
    go_loop [3,5] (fun t i=>∃ m:Nat,m≤j∧i=.int .i64 m∧t=.int .i64 (SetM.refOf l k:Nat)) (fun _ i=>j - (intOf i).toNat)
    case atStart=>exact ⟨0,Nat.zero_le _,rfl,rfl⟩
    case round =>
     obtain ⟨m,hm,rfl,rfl⟩:=hrel
     have hml:m < l.length:=by omega
     obtain ⟨x,rfl,hc⟩:=Hr.out.cells hml
     have hcell:=hc m hml
     clear hc
     by_cases hmj:m < j
     ·have hne:=Hn.out m hmj
      generalize l.getD m 0=y at hne hcell
      go_wp2
      go_round
      case rel=>exact ⟨m+1,by omega,by go_num,rfl⟩
      case measure=>simp [intOf];omega
     ·obtain rfl:m=j:=by omega
      rw [Hj.out] at hcell
      go_wp2
      go_round
      case rel=>exact ⟨k+1,by omega,by go_num,by rw [HS.out]⟩
      case measure=>simp [intOf];omega
   ·have HS:=Lib.hid (SetM.refOf_miss l k hm)
    have Hm:Hid (∀ i,i < l.length→l.getD i 0 ≠ (k:Int)):=Lib.hid (fun i hi e=>hm (by rw [← e,List.getD_eq_getElem?_getD,List.getElem?_eq_getElem hi];exact List.getElem_mem hi))
    clear hm
    go_wp2
    go_loop [3,5] (fun t i=>∃ m:Nat,m≤l.length∧i=.int .i64 m∧t=.int .i64 (SetM.refOf l k:Nat)) (fun _ i=>l.length - (intOf i).toNat)
    case atStart=>exact ⟨0,Nat.zero_le _,rfl,rfl⟩
    case round =>
     obtain ⟨m,hm,rfl,rfl⟩:=hrel
     by_cases hml:m < l.length
     ·obtain ⟨x,rfl,hc⟩:=Hr.out.cells hml
      have hcell:=hc m hml
      clear hc
      have hne:=Hm.out m hml
      generalize l.getD m 0=y at hne hcell
      go_wp2
      go_round
      case rel=>exact ⟨m+1,by omega,by go_num,rfl⟩
      case measure=>simp [intOf];omega
     ·go_wp2
      go_round
      case rel=>exact ⟨k+1,by omega,by go_num,by rw [HS.out]⟩
      case measure=>simp [intOf];omega
  ·have HS:=Lib.hid (SetM.refOf_eq l)
   obtain rfl:k=8:=by omega
   go_wp2
   go_ret
   exact ⟨ret_int (by rw [HS.out]),rfl⟩
theorem list_snoc {B:Nat} {l:List Int} {x:Int} {v':Value} {w1:World} (h:w1.ownsRow B 3 1 v' (l.length+1) (l.map (Value.int .i64)++[.int .i64 x])) (hn:¬ v'=.slice none 0 0):Owns B w1 v' (l++[x]):=by
 refine ⟨?_,?_⟩
 ·rw [List.length_append,← map_snoc];exact h
 ·simp [hn]
theorem rlist_any (s:Int) (w:World):Calls Tryz.prog 97 #[.int .i64 s] w (Gave w (SetM.list s)):=by
 obtain ⟨i0,hi,hz0,hz1,hz2⟩:=info_parts info3
 go_enter Tryz.func97,Tryz.ntmps97
 go_wp2
 go_loopw [3,4] (fun v p wr=>∃ k:Nat,k≤8∧p=.int .i64 k∧Owns w.heap.size wr v (SetM.upto s k)∧Below w.heap.size w wr) (fun _ p _=>8 - (intOf p).toNat)
 case atStart=>exact ⟨0,Nat.zero_le _,rfl,⟨World.ownsRow_nil _ _ _ _,by simp [SetM.upto_zero]⟩,Below.refl _ _⟩
 case round =>
  obtain ⟨k,hk,rfl,⟨hown,hnil⟩,hbel⟩:=hrel
  have hB:=hbel.size
  have Hn:=Lib.hid hnil
  clear hnil
  by_cases hlt:k < 8
  ·have hul:=SetM.upto_len s k
   by_cases hh:SetM.has s k=true
   ·have Hs:=Lib.hid (SetM.upto_hit s k hh)
    go_wp2_with (first
     | (go_at_call 118;refine (rhas_any _ _ _).mono ?_;rintro e w' ⟨rfl,rfl⟩;rw [hh])
     | (at_builtin;refine wpList_append_own _ rfl _ _ 46 rfl w.heap.size 3 i0 (.int .i64 0) 1 8 Tryz.underlying46 hi hz0 hz1 hz2 rfl (by decide) _ _ _ rfl (hown.alloc _) ⟨wr.heap.size,0,none⟩ 1 1 [.int .i64 (k:Int)] rfl rfl ?c1 ?c2 ?c3 ?c4 ?c5 ?_))
    case c1 =>
     intro j u hj
     match j,hj with
     | 0,hj=>simp at hj;subst hj;simp [Addr.add]
    case c2=>intro u hu;simp at hu;subst hu;rfl
    case c3=>unfold maxLen;omega
    case c4=>omega
    case c5=>simp;omega
    intro v' w1 hown' hgrow hnil'
    have hbel':Below w.heap.size w w1:=(hbel.alloc (by omega) _).grown hgrow (by simp;omega) fun j hj=>row_blk hown j hj
    have Hown:=Lib.hid (list_snoc hown' hnil')
    clear hown' hgrow hown hnil'
    go_wp2
    go_roundw
    case rel=>exact ⟨k+1,by omega,by go_num,by rw [Hs.out];exact Hown.out,hbel'⟩
    case measure=>simp [intOf];omega
   ·have hh':SetM.has s k=false:=by simpa using hh
    have Hs:=Lib.hid (SetM.upto_miss s k hh')
    clear hh
    go_wp2_with (go_at_call 118;refine (rhas_any _ _ _).mono ?_;rintro e w' ⟨rfl,rfl⟩;rw [hh'])
    go_roundw
    case rel=>exact ⟨k+1,by omega,by go_num,by rw [Hs.out];exact ⟨hown,Hn.out⟩,hbel⟩
    case measure=>simp [intOf];omega
  ·obtain rfl:k=8:=by omega
   go_wp2
   go_ret
   exact ⟨_,rfl,⟨hown,Hn.out⟩,hbel⟩
theorem rwith_any (s p:Int) (w:World):Calls Tryz.prog 45 #[.int .i64 s,.int .i64 p] w fun e w'=>e=.returned (.int .i64 (SetM.withN s p:Nat))∧Below w.heap.size w w':=by
 obtain ⟨i0,hi,hz0,hz1,hz2⟩:=info_parts info3
 have hl8:=SetM.list_len s
 have HS:=Lib.hid (SetM.of_with s p)
 go_enter Tryz.func45,Tryz.ntmps45
 go_wp2_with fail
 refine (rlist_any _ _).mono ?_
 rintro e w1 ⟨v,rfl,⟨hown,hnil⟩,hbel⟩
 have hB:=hbel.size
 clear hnil
 go_wp2_with (at_builtin;refine wpList_append_own _ rfl _ _ 46 rfl w.heap.size 3 i0 (.int .i64 0) 1 8 Tryz.underlying46 hi hz0 hz1 hz2 rfl (by decide) _ _ _ rfl (hown.alloc _) ⟨w1.heap.size,0,none⟩ 1 1 [.int .i64 p] rfl rfl ?c1 ?c2 ?c3 ?c4 ?c5 ?_)
 case c1 =>
  intro j u hj
  match j,hj with
  | 0,hj=>simp at hj;subst hj;simp [Addr.add]
 case c2=>intro u hu;simp at hu;subst hu;rfl
 case c3=>unfold maxLen;omega
 case c4=>omega
 case c5=>simp;omega
 intro v' w2 hown' hgrow hnil'
 have hbel':Below w.heap.size w w2:=(hbel.alloc (by omega) _).grown hgrow (by simp;omega) fun j hj=>row_blk hown j hj
 obtain ⟨L,hL⟩:∃ L,SetM.list s++[p]=L:=⟨_,rfl⟩
 have hrow':=list_snoc hown' hnil'
 rw [hL] at HS hrow'
 obtain ⟨a,cap,rfl,hrow⟩:=row_of hrow'
 have Hrow:=Lib.hid hrow
 clear hown' hgrow hown hnil' hrow hrow' hL
 go_wp2_with (go_at_call 96;refine (rof_any _ _ L _ Hrow.out).mono ?_;rintro e w' ⟨rfl,rfl⟩)
 go_ret
 exact ⟨ret_int (by rw [HS.out]),hbel'⟩
theorem place_any (v n:Int) (w:World) (h:0 < n) (h':n≤9223372036854775807) :
  Calls Tryz.prog 20 #[.int .i64 v,.int .i64 n] w fun e w'=>e=.returned (.int .i64 (v % n))∧w=w':=by
 have hm:=Int.emod_nonneg v (show n ≠ 0 by omega)
 have hm2:=Int.emod_lt_of_pos v h
 have ht:0≤v.tmod n∧v % n=v.tmod n∨v.tmod n < 0∧v % n=v.tmod n+n:=by
  have h1:=Int.tmod_eq_emod (a:=v) (b:=n)
  split at h1 <;> omega
 have hb : -9223372036854775808≤v.tmod n∧v.tmod n≤9223372036854775807:=by omega
 obtain ⟨hb1,hb2⟩:=hb
 have hn0:n ≠ 0:=by omega
 rcases ht with ⟨ht,he⟩ | ⟨ht,he⟩
 ·have He:=Lib.hid he
  clear he hm hm2
  go_enter Tryz.func20,Tryz.ntmps20
  go_wp2
  go_ret
  exact ⟨ret_int (by rw [He.out]),rfl⟩
 ·have He:=Lib.hid he
  clear he hm hm2
  go_enter Tryz.func20,Tryz.ntmps20
  go_wp2
  go_ret
  exact ⟨ret_int (by rw [He.out]),rfl⟩
open Tab in
def num (L:List Int) (i:Int) (n:Int):Int:=L.getD i.toNat 0 % n
open Tab in
theorem at_any (a:Option Addr) (cap:Nat) (L:List Int) (i:Int) (w:World) (h:IntRow w ⟨a,cap⟩ L) (h0:0≤i) :
  Calls Tryz.prog 95 #[.slice a L.length cap,.int .i64 i] w fun e w'=>e=.returned (.int .i64 (L.getD i.toNat 0))∧w=w':=by
 have hl:=h.len
 unfold maxLen at hl
 obtain ⟨k,rfl⟩:=Int.eq_ofNat_of_zero_le h0
 by_cases hk:k < L.length
 ·have hv:=List.getElem?_eq_getElem hk
  generalize hu:L[k]=u at hv
  obtain ⟨x,hx,hc⟩:=IntRow.at h hv
  obtain rfl:a=some x:=hx
  have HE:Hid (u=L.getD ((k:Int)).toNat 0):=Lib.hid (by rw [Int.toNat_natCast,List.getD_eq_getElem?_getD,hv];rfl)
  generalize L.getD ((k:Int)).toNat 0=r at HE ⊢
  clear hv hu h
  go_enter Tryz.func95,Tryz.ntmps95
  go_wp2
  go_ret
  exact ⟨ret_int HE.out,rfl⟩
 ·have HE:Hid (0=L.getD ((k:Int)).toNat 0):=Lib.hid (by rw [Int.toNat_natCast,List.getD_eq_getElem?_getD,List.getElem?_eq_none (by omega)];rfl)
  generalize L.getD ((k:Int)).toNat 0=r at HE ⊢
  clear h
  go_enter Tryz.func95,Tryz.ntmps95
  go_wp2
  go_ret
  exact ⟨ret_int HE.out,rfl⟩
open Tab in
theorem from_any (a:Option Addr) (cap:Nat) (L:List Int) (i n:Int) (w:World) (h:IntRow w ⟨a,cap⟩ L) (h0:0≤i) (hn:0 < n) (hn':n≤1000) :
  Calls Tryz.prog 44 #[.slice a L.length cap,.int .i64 i,.int .i64 n] w fun e w'=>e=.returned (.int .i64 (num L i n))∧w=w':=by
 have H:=Lib.hid h
 clear h
 go_enter Tryz.func44,Tryz.ntmps44
 go_wp2_with fail
 refine (at_any a cap L i w H.out h0).mono ?_
 rintro e w' ⟨rfl,rfl⟩
 have HE:Hid (L.getD i.toNat 0 % n=num L i n):=Lib.hid rfl
 generalize L.getD i.toNat 0=v at HE ⊢
 go_wp2_with fail
 refine (place_any v n _ hn (by omega)).mono ?_
 rintro e w' ⟨rfl,rfl⟩
 go_wp2
 go_ret
 exact ⟨ret_int HE.out,rfl⟩
theorem num_range (L:List Int) (i n:Int) (hn:0 < n):0≤num L i n∧num L i n < n:=⟨Int.emod_nonneg _ (by omega),Int.emod_lt_of_pos _ hn⟩
end RefS
namespace Gath
open Go Go.RowKit
open Tab
section
variable {α:Type} {enc:α→List Value} {size:Nat} {B:Nat} {w w':World} {e:TypeId} {v:Value} {l:List α}
def Owns (enc:α→List Value) (size B:Nat) (w:World) (e:TypeId) (v:Value) (l:List α):Prop:=w.ownsRow B e size v l.length (l.flatMap enc)
theorem Owns.nil:Owns enc size B w e (.slice none 0 0) ([]:List α):=World.ownsRow_nil _ _ _ _
theorem Owns.snoc {x:α} {v':Value} (h:w.ownsRow B e size v' (l.length+1) (l.flatMap enc++enc x)):Owns enc size B w e v' (l++[x]):=by
 unfold Owns
 rw [List.length_append,List.flatMap_append,List.flatMap_cons,List.flatMap_nil,List.append_nil]
 exact h
theorem Owns.below (h:Owns enc size B w e v l) (hb:Below w.heap.size w w'):Owns enc size B w' e v l :=
 World.ownsRow.kept (row:=none) h ⟨hb.os,hb.tape,hb.output,hb.size,fun j hj _=>hb.block j hj⟩ (by cases hv:v.ownBlock <;> simp)
theorem Owns.mono {B':Nat} (h:Owns enc size B w e v l) (hb:B'≤B):Owns enc size B' w e v l:=by
 refine ⟨h.1,?_⟩
 rcases h.2 with hn | ⟨g,cap,cur,rfl,h1,h2⟩
 ·exact .inl hn
 ·exact .inr ⟨g,cap,cur,rfl,by omega,h2⟩
theorem Owns.blk (h:Owns enc size B w e v l) (j:Nat) (hj:v.ownBlock=some j):B≤j:=by
 rcases h.2 with ⟨rfl,_⟩ | ⟨g,cap,cur,rfl,hb,_,_⟩
 ·simp [Value.ownBlock] at hj
 ·obtain rfl:g=j:=by simpa [Value.ownBlock] using hj
  exact hb
theorem flat_at (henc:∀ x,(enc x).length=size):∀ (l:List α) (i:Nat) (x:α),l[i]?=some x→((l.flatMap enc).drop (i*size)).take size=enc x
 | [],i,x,h=>by simp at h
 | y :: l,0,x,h=>by
  obtain rfl:y=x:=by simpa using h
  rw [Nat.zero_mul,List.drop_zero,List.flatMap_cons,← henc y,List.take_left]
 | y :: l,i+1,x,h=>by
  rw [List.flatMap_cons,Nat.add_mul,Nat.one_mul,Nat.add_comm,← henc y,List.drop_append,List.drop_of_length_le (by omega),List.nil_append,Nat.add_sub_cancel_left,henc y]
  exact flat_at henc l i x (by simpa using h)
theorem Owns.row (h:Owns enc size B w e v l) (henc:∀ x,(enc x).length=size):∃ s:Sl,v=s.val l.length∧RowOf size enc w s l:=by
 rcases h.2 with ⟨rfl,h0⟩ | ⟨g,cap,cur,rfl,h1,h2,h3,h4,h5,h6⟩
 ·have:l=[]:=List.eq_nil_of_length_eq_zero h0
  subst this
  exact ⟨⟨none,0⟩,rfl,RowOf.nil w⟩
 ·refine ⟨⟨some ⟨g,0,none⟩,cap⟩,rfl,.inr ⟨_,rfl,h3,h4,fun i x hx j u hu=>?_⟩⟩
  have hi:i < l.length:=(List.getElem?_eq_some_iff.1 hx).1
  have hj:j < size:=by rw [← henc x];exact (List.getElem?_eq_some_iff.1 hu).1
  rw [Addr.add_mid,Nat.zero_add,Addr.add_mid,cell_of_row _ _ _ _ _ _ h2]
  have hf:=flat_at henc l i x hx
  rw [← h6] at hf
  rw [← hf] at hu
  have hlt:i*size+j < l.length*size:=by
   have:(i+1)*size≤l.length*size:=Nat.mul_le_mul_right _ hi
   rw [Nat.add_mul,Nat.one_mul] at this
   omega
  rw [List.getElem?_take,if_pos hj,List.getElem?_drop,List.getElem?_take,if_pos hlt,Array.getElem?_toList] at hu
  exact hu
end
end Gath
namespace GenG
open Go.ChangeShapes Go.WideShapes Go.ChangeAt Go.RowKit
open Tab Gath
open RefS (num from_any num_range ret_int)
def seg (p m:Nat):List Int:=(List.range m).map fun i=>((p+i:Nat):Int)
theorem seg_len (p m:Nat):(seg p m).length=m:=by simp [seg]
theorem seg_succ (p m:Nat):seg p (m+1)=seg p m++[((p+m:Nat):Int)]:=by unfold seg;rw [List.range_succ,List.map_append];rfl
def lim (G g:Nat):Nat:=9+g - G
def want0 (L:List Int) (g:Nat):Nat:=(num L (1+2*g) 3).toNat
def want1 (L:List Int) (g:Nat) (m:Nat):Nat:=if num L (2+2*g) 3=0∧m=0 then 1 else (num L (2+2*g) 3).toNat
def n0 (L:List Int) (G g p:Nat):Nat:=min (want0 L g) (lim G g - p)
def n1 (L:List Int) (G g p:Nat):Nat:=min (want1 L g (n0 L G g p)) (lim G g - (p+n0 L G g p))
def grpD (L:List Int) (G g p:Nat):List Int × List Int:=(seg p (n0 L G g p),seg (p+n0 L G g p) (n1 L G g p))
def upTo (L:List Int) (G:Nat):Nat→List (List Int × List Int) × Nat
 | 0=>([],0)
 | g+1=>((upTo L G g).1++[grpD L G g (upTo L G g).2],(upTo L G g).2+n0 L G g (upTo L G g).2+n1 L G g (upTo L G g).2)
def genG (L:List Int):Nat:=(1+num L 0 3).toNat
def genGs (L:List Int):List (List Int × List Int):=(upTo L (genG L) (genG L)).1
def genN (L:List Int):Nat:=(upTo L (genG L) (genG L)).2
theorem genG_range (L:List Int):1≤genG L∧genG L≤3:=by have:=num_range L 0 3 (by omega);unfold genG;omega
theorem want0_le (L:List Int) (g:Nat):want0 L g≤2:=by have:=num_range L (1+2*g) 3 (by omega);unfold want0;omega
theorem want1_le (L:List Int) (g m:Nat):want1 L g m≤2:=by have:=num_range L (2+2*g) 3 (by omega);unfold want1;split <;> omega
theorem up_le (L:List Int) (G:Nat) (hG:G≤3):∀ g,g≤G→(upTo L G g).2≤8
 | 0,_=>Nat.zero_le _
 | g+1,h=>by
  have:=up_le L G hG g (by omega)
  show (upTo L G g).2+n0 L G g (upTo L G g).2+n1 L G g (upTo L G g).2≤8
  unfold n1 n0 lim
  omega
theorem up_len (L:List Int) (G:Nat):∀ g,(upTo L G g).1.length=g
 | 0=>rfl
 | g+1=>by show ((upTo L G g).1++[_]).length=g+1;rw [List.length_append,up_len L G g];rfl
def RowI (w:World) (s:Sl) (l:List Int):Prop:=IntRow w s l∧∀ x,s.a=some x→∃ cs:Array Value,w.heap[x.block]?=some (.cells cs 3 (0,0))
theorem RowI.below {w w':World} {s:Sl} {l:List Int} (h:RowI w s l) (hb:Below w.heap.size w w'):RowI w' s l:=⟨h.1.below hb,fun x hx=>by
 obtain ⟨cs,hc⟩:=h.2 x hx
 exact ⟨cs,(hb.block _ (Array.getElem?_eq_some_iff.1 hc).1).trans hc⟩⟩
theorem add_block (x:Addr) (k:Nat):(x.add k).block=x.block:=by unfold Addr.add;split <;> rfl
theorem RowI.grown {w w':World} {s:Sl} {l:List Int} {row:Option Nat} (h:RowI w s l) (hg:w.grownBy w' row) (hne:∀ x,s.a=some x→some x.block ≠ row):RowI w' s l:=by
 refine ⟨?_,fun x hx=>?_⟩
 ·rcases h.1 with h | ⟨x,h1,h2,h3,h4⟩
  ·exact .inl h
  ·exact .inr ⟨x,h1,h2,h3,fun i v hv j u hu=>hg.cell (h4 i v hv j u hu) (by rw [add_block,add_block];exact hne x h1)⟩
 ·obtain ⟨cs,hc⟩:=h.2 x hx
  exact ⟨cs,(hg.block _ (Array.getElem?_eq_some_iff.1 hc).1 (hne x hx)).trans hc⟩
theorem RowI.ne {w:World} {s:Sl} {l:List Int} {b:Nat} {cs:Array Value} {t:TypeId} (h:RowI w s l) (hb:w.heap[b]?=some (.cells cs t (0,0))) (ht:t ≠ 3):∀ x,s.a=some x→x.block ≠ b:=by
 intro x hx e
 obtain ⟨ds,hc⟩:=h.2 x hx
 rw [e,hb] at hc
 simp at hc
 exact ht hc.2
theorem grown_set (W:World) (b i:Nat) (v:Value):W.grownBy (W.setCell ⟨b,i,none⟩ v) (some b) :=
 ⟨rfl,rfl,rfl,by simp,fun j _ hj=>heap_setCell_other _ _ _ _ (fun e=>hj (by rw [e]))⟩
theorem own_row {B:Nat} {w:World} {v:Value} {l:List Int} (h:Owns (fun n=>[I n]) 1 B w 3 v l):∃ s:Sl,v=s.val l.length∧RowI w s l:=by
 obtain ⟨s,hs,hr⟩:=Owns.row h (enc:=fun n=>[I n]) (fun _=>rfl)
 refine ⟨s,hs,hr,fun x hx=>?_⟩
 rcases h.2 with ⟨e,_⟩ | ⟨g,cap,cur,e,h1,h2,_⟩
 ·rw [hs] at e
  simp [Sl.val,hx] at e
 ·rw [hs] at e
  simp [Sl.val,hx] at e
  obtain ⟨rfl,_⟩:=e
  exact ⟨cur,h2⟩
theorem own_kept {α:Type} {enc:α→List Value} {n B:Nat} {w w':World} {t:TypeId} {v:Value} {l:List α} {row:Option Nat} (h:Owns enc n B w t v l) (hg:w.grownBy w' row) (hne:∀ m,v.ownBlock=some m→row ≠ some m):Owns enc n B w' t v l :=
 World.ownsRow.kept h hg (by
  cases e:v.ownBlock with
  | none=>exact .inl rfl
  | some m=>exact .inr (fun e'=>hne m e e'.symm))
theorem own_lt {α:Type} {enc:α→List Value} {n B:Nat} {w:World} {t:TypeId} {v:Value} {l:List α} (h:Owns enc n B w t v l):∀ m,v.ownBlock=some m→m < w.heap.size:=by
 intro m hm
 rcases h.2 with ⟨rfl,_⟩ | ⟨g,cap,cur,rfl,h1,h2,_⟩
 ·simp [Value.ownBlock] at hm
 ·simp [Value.ownBlock] at hm
  subst hm
  exact (Array.getElem?_eq_some_iff.1 h2).1
theorem own_type {α:Type} {enc:α→List Value} {n B:Nat} {w:World} {t:TypeId} {v:Value} {l:List α} (h:Owns enc n B w t v l):∀ m,v.ownBlock=some m→∃ cs:Array Value,w.heap[m]?=some (.cells cs t (0,0)):=by
 intro m hm
 rcases h.2 with ⟨rfl,_⟩ | ⟨g,cap,cur,rfl,h1,h2,_⟩
 ·simp [Value.ownBlock] at hm
 ·simp [Value.ownBlock] at hm
  subst hm
  exact ⟨cur,h2⟩
theorem own_ne {α:Type} {enc:α→List Value} {n B:Nat} {w:World} {t t':TypeId} {v:Value} {l:List α} {b:Nat} {cs:Array Value} (h:Owns enc n B w t v l) (hb:w.heap[b]?=some (.cells cs t' (0,0))) (ht:t' ≠ t):v.ownBlock ≠ some b:=by
 intro e
 obtain ⟨ds,hd⟩:=own_type h b e
 rw [hb] at hd
 simp at hd
 exact ht hd.2
theorem grown_below {w w':World} (hb:Below w.heap.size w w') (row:Option Nat):w.grownBy w' row:=⟨hb.os,hb.tape,hb.output,hb.size,fun j hj _=>hb.block j hj⟩
theorem grown_trans {w w1 w2:World} {b:Nat} {row:Option Nat} (h:w.grownBy w1 (some b)) (h2:w1.grownBy w2 row) (hr:∀ m,row=some m→m=b∨w.heap.size≤m):w.grownBy w2 (some b):=by
 refine ⟨h2.os.trans h.os,h2.tape.trans h.tape,h2.output.trans h.output,Nat.le_trans h.size h2.size,fun j hj hne=>?_⟩
 rw [h2.block j (Nat.lt_of_lt_of_le hj h.size) (fun e=>by rcases hr j e.symm with e' | e';exact hne (by rw [e']);omega),h.block j hj hne]
structure G0 (Bg:Nat) (w1:World) (a:Option Addr) (c:Nat) (p i:Nat) (W:World):Prop where
 bel:Below Bg w1 W
 box:W.heap[Bg]?=some (.cells #[.slice a i c,.slice none 0 0] 55 (0,0))
 own:Owns (fun n=>[I n]) 1 (Bg+1) W 3 (.slice a i c) (seg p i)
theorem G0.step {Bg:Nat} {w1 W W':World} {a:Option Addr} {c p i:Nat} (h:G0 Bg w1 a c p i W) (hb:Below W.heap.size W W') (hB:Bg≤W.heap.size):G0 Bg w1 a c p i W' :=
 ⟨h.bel.trans (hb.mono hB),(hb.block _ (Array.getElem?_eq_some_iff.1 h.box).1).trans h.box,h.own.below hb⟩
theorem G0.put {Bg:Nat} {w1 W W':World} {a:Option Addr} {c p i:Nat} {v':Value} (h:G0 Bg w1 a c p i W) (hB:Bg+1≤W.heap.size) (hg:W.grownBy W' (Value.slice a i c).ownBlock)
  (ho:W'.ownsRow (Bg+1) 3 1 v' (i+1) ((seg p i).flatMap (fun n=>[I n])++[I ((p+i:Nat):Int)])) :
  (W'.heap[Bg]?=some (.cells #[.slice a i c,.slice none 0 0] 55 (0,0)))∧∃ a' c',v'=.slice a' (i+1) c'∧G0 Bg w1 a' c' p (i+1) (W'.setCell ⟨Bg,0,none⟩ v'):=by
 have hne:some Bg ≠ (Value.slice a i c).ownBlock:=fun e=>by have:=h.own.blk _ e.symm;omega
 have hbx:=(hg.block Bg (by omega) hne).trans h.box
 have hO:Owns (fun n=>[I n]) 1 (Bg+1) W' 3 v' (seg p (i+1)):=by
  rw [seg_succ];refine Owns.snoc ?_;rw [seg_len];exact ho
 obtain ⟨⟨a',c'⟩,hs,hr⟩:=own_row hO
 rw [seg_len] at hs
 refine ⟨hbx,a',c',hs,?_⟩
 have hB':Bg≤W'.heap.size:=Nat.le_trans (by omega) hg.size
 refine ⟨?_,?_,?_⟩
 ·exact (h.bel.grown hg (by omega) (fun k hk=>by have:=h.own.blk k hk;omega)).setCell (p:=⟨Bg,0,none⟩) (Nat.le_refl _) v'
 ·rw [heap_setCell_same _ _ _ _ _ _ hbx,hs];rfl
 ·rw [hs] at hO ⊢
  exact own_kept hO (grown_set _ _ _ _) (fun m hm e=>by have:=hO.blk m hm;cases e;omega)
structure G1 (Bg:Nat) (w1:World) (B1:Nat) (a:Option Addr) (c:Nat) (p m:Nat) (a1:Option Addr) (c1:Nat) (i:Nat) (W:World):Prop where
 bel:Below Bg w1 W
 box:W.heap[Bg]?=some (.cells #[.slice a m c,.slice a1 i c1] 55 (0,0))
 own:Owns (fun n=>[I n]) 1 (Bg+1) W 3 (.slice a m c) (seg p m)
 lt:∀ j,(Value.slice a m c).ownBlock=some j→j < B1
 own1:Owns (fun n=>[I n]) 1 B1 W 3 (.slice a1 i c1) (seg (p+m) i)
 sz:B1≤W.heap.size
theorem G0.next {Bg:Nat} {w1 W:World} {a:Option Addr} {c p m:Nat} (h:G0 Bg w1 a c p m W):G1 Bg w1 W.heap.size a c p m none 0 0 W :=
 ⟨h.bel,h.box,h.own,own_lt h.own,Owns.nil,Nat.le_refl _⟩
theorem G1.step {Bg B1:Nat} {w1 W W':World} {a a1:Option Addr} {c p m c1 i:Nat} (h:G1 Bg w1 B1 a c p m a1 c1 i W) (hb:Below W.heap.size W W') (hB:Bg≤W.heap.size):G1 Bg w1 B1 a c p m a1 c1 i W' :=
 ⟨h.bel.trans (hb.mono hB),(hb.block _ (Array.getElem?_eq_some_iff.1 h.box).1).trans h.box,h.own.below hb,h.lt,h.own1.below hb,Nat.le_trans h.sz hb.size⟩
theorem G1.put {Bg B1:Nat} {w1 W W':World} {a a1:Option Addr} {c p m c1 i:Nat} {v':Value} (h:G1 Bg w1 B1 a c p m a1 c1 i W) (h1:Bg < B1) (hB:B1≤W.heap.size) (hg:W.grownBy W' (Value.slice a1 i c1).ownBlock)
  (ho:W'.ownsRow B1 3 1 v' (i+1) ((seg (p+m) i).flatMap (fun n=>[I n])++[I ((p+m+i:Nat):Int)])) :
  (W'.heap[Bg]?=some (.cells #[.slice a m c,.slice a1 i c1] 55 (0,0)))∧∃ a' c',v'=.slice a' (i+1) c'∧G1 Bg w1 B1 a c p m a' c' (i+1) (W'.setCell ⟨Bg,1,none⟩ v'):=by
 have hne:some Bg ≠ (Value.slice a1 i c1).ownBlock:=fun e=>by have:=h.own1.blk _ e.symm;omega
 have hbx:=(hg.block Bg (by omega) hne).trans h.box
 have hO:Owns (fun n=>[I n]) 1 B1 W' 3 v' (seg (p+m) (i+1)):=by
  rw [seg_succ];refine Owns.snoc ?_;rw [seg_len];exact ho
 have hO0:Owns (fun n=>[I n]) 1 (Bg+1) W' 3 (.slice a m c) (seg p m):=own_kept h.own hg (fun j hj e=>by have:=h.lt j hj;have:=h.own1.blk j e;omega)
 obtain ⟨⟨a',c'⟩,hs,hr⟩:=own_row hO
 rw [seg_len] at hs
 refine ⟨hbx,a',c',hs,?_⟩
 have hB':Bg≤W'.heap.size:=Nat.le_trans (by omega) hg.size
 refine ⟨?_,?_,?_,h.lt,?_,by simp;exact Nat.le_trans h.sz hg.size⟩
 ·exact (h.bel.grown hg (by omega) (fun k hk=>by have:=h.own1.blk k hk;omega)).setCell (p:=⟨Bg,1,none⟩) (Nat.le_refl _) v'
 ·rw [heap_setCell_same _ _ _ _ _ _ hbx,hs];rfl
 ·exact own_kept hO0 (grown_set _ _ _ _) (fun m hm e=>by have:=hO0.blk m hm;cases e;omega)
 ·rw [hs] at hO ⊢
  exact own_kept hO (grown_set _ _ _ _) (fun m hm e=>by have:=hO.blk m hm;cases e;omega)
structure GS (w:World) (tb:Nat) (cs:List Value) (ga:Option Addr) (gc:Nat) (g:Nat) (gs:List Gr) (W:World):Prop where
 gb:w.grownBy W (some tb)
 tbk:W.heap[tb]?=some (.cells (cs.set 104 (.slice ga g gc)).toArray 31 (0,0))
 own:Owns Gr.cells 2 w.heap.size W 55 (.slice ga g gc) gs
 len:gs.length=g
 rows:∀ x ∈ gs,RowI W x.s0 x.r0∧RowI W x.s1 x.r1
theorem GS.step {w W W':World} {tb:Nat} {cs:List Value} {ga:Option Addr} {gc g:Nat} {gs:List Gr} (h:GS w tb cs ga gc g gs W) (hb:Below W.heap.size W W'):GS w tb cs ga gc g gs W' :=
 ⟨grown_trans h.gb (grown_below hb none) (fun m e=>by cases e),(hb.block _ (Array.getElem?_eq_some_iff.1 h.tbk).1).trans h.tbk,h.own.below hb,h.len,fun x hx=>⟨(h.rows x hx).1.below hb,(h.rows x hx).2.below hb⟩⟩
theorem GS.put {w W W':World} {tb:Nat} {cs:List Value} {ga:Option Addr} {gc g:Nat} {gs:List Gr} {v':Value} (x:Gr) (h:GS w tb cs ga gc g gs W) (hx:RowI W x.s0 x.r0∧RowI W x.s1 x.r1) (hg:W.grownBy W' (Value.slice ga g gc).ownBlock) (hc:cs.length=131)
  (ho:W'.ownsRow w.heap.size 55 2 v' (g+1) (gs.flatMap Gr.cells++x.cells)) :
  (W'.heap[tb]?=some (.cells (cs.set 104 (.slice ga g gc)).toArray 31 (0,0)))∧∃ a' c',v'=.slice a' (g+1) c'∧GS w tb cs a' c' (g+1) (gs++[x]) (W'.setCell ⟨tb,104,none⟩ v'):=by
 have hne:some tb ≠ (Value.slice ga g gc).ownBlock:=fun e=>own_ne h.own h.tbk (by decide) e.symm
 have hbx:=(hg.block tb (Array.getElem?_eq_some_iff.1 h.tbk).1 hne).trans h.tbk
 have hO:Owns Gr.cells 2 w.heap.size W' 55 v' (gs++[x]):=Owns.snoc (by rw [h.len];exact ho)
 obtain ⟨⟨a',c'⟩,hs,hr⟩:=Owns.row hO (fun _=>rfl)
 have hs2:v'=.slice a' (g+1) c':=by rw [hs,List.length_append,h.len];rfl
 have hK:∀ s l,RowI W s l→RowI (W'.setCell ⟨tb,104,none⟩ v') s l:=fun s l hr=>by
  have h1:RowI W' s l:=hr.grown hg (fun y hy e=>by
   obtain ⟨ds,hd⟩:=own_type h.own _ e.symm
   exact hr.ne hd (by decide) y hy rfl)
  exact h1.grown (grown_set _ _ _ _) (fun y hy e=>h1.ne hbx (by decide) y hy (by cases e;rfl))
 refine ⟨hbx,a',c',hs2,?_,?_,?_,by rw [List.length_append,h.len];rfl,?_⟩
 ·exact grown_trans (grown_trans h.gb hg (fun m e=>.inr (h.own.blk m e))) (grown_set _ _ _ _) (fun m e=>.inl (by cases e;rfl))
 ·rw [heap_setCell_same _ _ _ _ _ _ hbx,hs2]
  simp
 ·rw [← hs2]
  exact own_kept hO (grown_set _ _ _ _) (fun m hm e=>by cases e;exact own_ne hO hbx (by decide) hm)
 ·intro y hy
  rcases List.mem_append.1 hy with hy | hy
  ·exact ⟨hK _ _ (h.rows y hy).1,hK _ _ (h.rows y hy).2⟩
  ·obtain rfl:y=x:=by simpa using hy
   exact ⟨hK _ _ hx.1,hK _ _ hx.2⟩
theorem from_at (a:Option Addr) (cap:Nat) (L:List Int) (i j n:Int) (hij:i=j) (w:World) (h:IntRow w ⟨a,cap⟩ L) (h0:0≤i) (hn:0 < n) (hn':n≤1000) :
  Calls Tryz.prog 44 #[.slice a L.length cap,.int .i64 i,.int .i64 n] w fun e w'=>e=.returned (.int .i64 (num L j n))∧w=w':=by
 subst hij;exact from_any a cap L i n w h h0 hn hn'
theorem infoGz:(Tryz.prog.info? 55).map (fun i=>(i.zero,i.size))=some (some (.agg #[.slice none 0 0,.slice none 0 0]),2):=by kernel_rfl
theorem infoG2:(Tryz.prog.info? 55).map (·.size)=some 2:=by kernel_rfl
theorem infoG3:(Tryz.prog.info? 55).map (fun i=>(i.zero,i.size,i.bytes))=some (some (.agg #[.slice none 0 0,.slice none 0 0]),2,48):=by kernel_rfl
end GenG
namespace Clone
open Go.ChangeShapes Go.WideShapes Go.ChangeAt Go.RowKit
open Tab Copy Owned
open May (chain infoP infoG infoD infoR infoB infoT take_succ')
def D5 (w:World) (B M:Nat) (L0 L1 L2 L3:List Blk) (q:Nat) (w':World):Prop :=
 Below B w w'∧match q with
  | 0=>Owned.Own B w' L0∧w'.heap.size=M+1
  | 1=>Owned.Own B w' L1∧w'.heap.size=M+1+1
  | 2=>Owned.Own B w' L2∧w'.heap.size=M+1+1+1
  | _=>Owned.Own B w' L3
theorem D5.get {w w':World} {B M q:Nat} {L0 L1 L2 L3:List Blk} {x:Blk} (h:D5 w B M L0 L1 L2 L3 q w') (h0:x ∈ L0) (h1:x ∈ L1) (h2:x ∈ L2) (h3:x ∈ L3):w'.heap[x.at_]?=some (.cells x.cells.toArray x.type (0,0)):=by
 match q,h with
 | 0,⟨_,h,_⟩=>exact h.get h0
 | 1,⟨_,h,_⟩=>exact h.get h1
 | 2,⟨_,h,_⟩=>exact h.get h2
 | _+3,⟨_,h⟩=>exact h.get h3
end Clone
namespace Same
open Go.ChangeShapes Go.WideShapes Go.ChangeAt Go.RowKit
open Tab
open May (ret_bool chain take_succ' infoP infoG infoD infoR infoB row_new)
end Same
namespace Same
open Go.ChangeShapes Go.WideShapes Go.ChangeAt Go.RowKit
open Tab
open May (ret_bool chain take_succ' infoP infoG infoD infoR infoB row_new)
end Same
namespace Same
open Go.ChangeShapes Go.WideShapes Go.ChangeAt Go.RowKit
open Tab
open May (ret_bool chain take_succ' infoP infoG infoD infoR infoB row_new St)
theorem below_setRow {B:Nat} {a w:World} (h:Below B a w) {g:Nat} (hg:B≤g) (cs:Array Value):Below B a (w.setRow g cs) :=
 h.trans ⟨rfl,rfl,rfl,by simp [World.setRow],fun j hj=>setRow_other _ _ _ _ (by omega)⟩
end Same
end Go.Proofs.YtggjconbgpfomaaGreat
