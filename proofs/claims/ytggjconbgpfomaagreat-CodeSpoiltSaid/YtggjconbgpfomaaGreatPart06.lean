/- 12 texts in one file, in build order. -/
import Derived.Test.YtggjconbgpfomaaGreatRows
import Derived.Test.YtggjconbgpfomaaGreatPart04
import Derived.Test.YtggjconbgpfomaaGreatPart01
import Derived.Test.YtggjconbgpfomaaGreatPart03
import Derived.Test.YtggjconbgpfomaaGreatPart02
import Derived.Great.BuildSlice
import Derived.Test.YtggjconbgpfomaaGreatPart05
import Derived.Laws.AppendOwnNone
import Derived.OwnWalk
import Derived.StillTailTactics
set_option linter.unusedVariables false
set_option linter.unusedSimpArgs false
set_option linter.unusedSectionVars false
set_option maxHeartbeats 8000000
set_option maxRecDepth 100000
namespace Go.Proofs.YtggjconbgpfomaaGreat
namespace Rr
open Go Go.RowKit Go.ChangeShapes
open Tab
open Po
open Rd (Rd But)
open Put (lim)
open Go.Proofs.YtggjconbgpfomaaGreat.B (Own own_row own_below)
def may (lv:Bool) (x:Nat):Bool:=if lv=true then MayF.level x else MayF.span x
def RP (bs:List Nat):PP where
 σ:=Nat
 num s size most _:=if (Nm.num bs ⟨s,0,0⟩ (lim size 7) 0 most).2.code=0 then .ok ((Nm.num bs ⟨s,0,0⟩ (lim size 7) 0 most).1,(Nm.num bs ⟨s,0,0⟩ (lim size 7) 0 most).2.k) else .error ((Nm.num bs ⟨s,0,0⟩ (lim size 7) 0 most).2.code,(Nm.num bs ⟨s,0,0⟩ (lim size 7) 0 most).2.fat)
 flt s lv _:=if (Nm.flt bs ⟨s,0,0⟩).2.code=0 then (if may lv (Nm.flt bs ⟨s,0,0⟩).1=true then .ok ((Nm.flt bs ⟨s,0,0⟩).1,(Nm.flt bs ⟨s,0,0⟩).2.k) else .error (4,s)) else .error ((Nm.flt bs ⟨s,0,0⟩).2.code,(Nm.flt bs ⟨s,0,0⟩).2.fat)
 flg s _:=if (Nm.num bs ⟨s,0,0⟩ 1 0 1).2.code=0 then .ok (decide ((Nm.num bs ⟨s,0,0⟩ 1 0 1).1=1),(Nm.num bs ⟨s,0,0⟩ 1 0 1).2.k) else .error ((Nm.num bs ⟨s,0,0⟩ 1 0 1).2.code,(Nm.num bs ⟨s,0,0⟩ 1 0 1).2.fat)
structure RS (B g:Nat) (ad:Option Addr) (cap:Nat) (bs:List Nat) (s:Nat) (W:World):Prop where
 rd:Rd W g ad cap bs s 0 0
 le:s≤bs.length
 len:bs.length≤10000
 ge:B≤g
 shp:W.shape? g=some (130,4)
 own:Own B W (.slice ad bs.length cap) bs
 b8:∀ x ∈ bs,x < 256
section
variable {B g:Nat} {ad:Option Addr} {cap:Nat} {bs:List Nat} {s s':Nat} {W W':World}
theorem shape_cells {W:World} {g n:Nat} {t:TypeId} (h:W.shape? g=some (t,n)):∃ cs fr,W.heap[g]?=some (.cells cs t fr)∧cs.size=n:=by
 unfold World.shape? at h
 split at h
 ·rename_i c e fr hc
  cases h
  exact ⟨c,fr,hc,rfl⟩
 ·cases h
theorem own_stay {v:Value} {l:List Nat} (h:Own B W v l) (hk:∀ (j:Nat) (cs:Array Value),W.heap[j]?=some (.cells cs 5 (0,0))→W'.heap[j]?=W.heap[j]?):Own B W' v l:=by
 refine ⟨h.1,?_⟩
 rcases h.2 with h0 | ⟨g,c,cur,h1,h2,h3,h4⟩
 ·exact .inl h0
 ·exact .inr ⟨g,c,cur,h1,h2,(hk g cur h3).trans h3,h4⟩
theorem RS.stay (h:RS B g ad cap bs s W) (hs:W.heap.size≤W'.heap.size) (hk:∀ (j:Nat) (cs:Array Value) (t:TypeId) (fr:Nat × Nat),W.heap[j]?=some (.cells cs t fr)→Pt t→W'.heap[j]?=W.heap[j]?):RS B g ad cap bs s W':=by
 obtain ⟨cs,fr,hg,hn⟩:=shape_cells h.shp
 have hg':=hk g cs _ fr hg (.inr (.inr rfl))
 have hown:=own_stay (W':=W') h.own (fun j cs hj=>hk j cs _ _ hj (.inl rfl))
 have hcell:∀ i,W'.cell? ⟨g,i,none⟩=W.cell? ⟨g,i,none⟩:=fun i=>World.cell?_of_block (w:=W) (a:=⟨g,i,none⟩) hg'
 obtain ⟨a,c,e,hr⟩:=own_row hown h.b8
 cases e
 exact ⟨⟨Nat.lt_of_lt_of_le h.rd.lt hs,hr,h.rd.off,(hcell 0).trans h.rd.c0,(hcell 1).trans h.rd.c1,(hcell 2).trans h.rd.c2,(hcell 3).trans h.rd.c3,fun i=>(World.frozen?_of_block (w:=W) (a:=⟨g,i,none⟩) hg').trans (h.rd.fz i),h.rd.cap_le⟩,
  h.le,h.len,h.ge,by unfold World.shape?;rw [hg',hg];simp [hn],hown,h.b8⟩
theorem RS.mem (h:RS B g ad cap bs s W) (hb:Below W.heap.size W W'):RS B g ad cap bs s W':=h.stay hb.size (fun j cs t fr hj _=>hb.block j (Array.getElem?_eq_some_iff.1 hj).1)
theorem RS.but (h:RS B g ad cap bs s W) (hr:Rd W' g ad cap bs s' 0 0) (hb:But g W W') (hle:s'≤bs.length):RS B g ad cap bs s' W':=by
 obtain ⟨cs,fr,hg,hn⟩:=shape_cells h.shp
 refine ⟨hr,hle,h.len,h.ge,(hb.shape g h.rd.lt).trans h.shp,own_stay h.own (fun j cs2 hj=>hb.block j (Array.getElem?_eq_some_iff.1 hj).1 (fun e=>by subst e;rw [hg] at hj;cases hj)),h.b8⟩
end
theorem want_ok (g:Nat) (ad:Option Addr) (cap:Nat) (l:List Nat) (k:Nat) (w:World) (h:Rd w g ad cap l k 0 0) :
  Calls Tryz.prog 132 #[rdr g] w fun e w'=>e=.returned (.tuple #[])∧Below w.heap.size w w':=by
 have hb:=(Below.refl w.heap.size w).alloc (Nat.le_refl _) (.cells #[.pointer (some ⟨g,0,none⟩)] 69)
 have hg:=heap_alloc_new w (.cells #[.pointer (some ⟨g,0,none⟩)] 69)
 have HR:=Lib.hid (h.below hb)
 have HB:=Lib.hid hb
 have HE:Hid (Same.Eqs 40 [I 0,I 0] [I 0,I 0] true):=Lib.hid (by have:=fault_eqs 0 0 0 0;simpa using this)
 clear h hb
 go_enter Tryz.func132,Tryz.ntmps132
 go_upto_region 1 with fail
 generalize World.alloc w _=v at HR HB hg ⊢
 have k0:v.cell? ⟨w.heap.size,0,none⟩=some (.pointer (some ⟨g,0,none⟩)):=by rw [cell_of_row _ _ _ _ _ _ hg];rfl
 go_wp2_with fail
 refine (Rd.fault_any g ad cap l k 0 0 v HR.out).mono ?_
 rintro e v1 ⟨rfl,hb1⟩
 go_upto_region 2 with fail
 have hb2:=hb1.alloc hb1.size (.cells #[I 0,I 0] 40)
 have hg2:=heap_alloc_new v1 (.cells #[I 0,I 0] 40)
 generalize World.alloc v1 _=v2 at hb2 hg2 ⊢
 generalize v1.heap.size=nb at hg2 ⊢
 have HB2:Hid (Below w.heap.size w v2):=Lib.hid (HB.out.trans (hb2.mono HB.out.size))
 have HG:=Lib.hid hg2
 clear hb1 hb2 hg2 k0 hg
 have LF:Hid (Lies v2 ⟨nb,0,none⟩ [I 0,I 0]):=Lib.hid (by have:=Row.lies_of_block HG.out;simpa using this)
 go_wp2_with (first | (refine Row.wpList_load_g 40 _ rfl (by first | rfl | go_simp) ⟨nb,0,none⟩ rfl [I 0,I 0] _ LF.out Tryz.underlying40 rfl infoF ?_) | (refine Row.wpList_neq 40 _ _ _ rfl rfl #[I 0,I 0] #[I 0,I 0] rfl rfl guardF true HE.out ?_))
 go_end0
 exact ⟨rfl,HB2.out⟩
theorem rfin {B g b o:Nat} {ad:Option Addr} {cap:Nat} {bs:List Nat} {s s':Nat} {code fat:Int} {cs:Array Value} {t:TypeId} {l:List Value} {j:Nat} {x:Value} {W v v1:World} (hR:RS B g ad cap bs s v) (hv:Below W.heap.size W v) (hB:B≤W.heap.size) (ht:b < B∨¬ Pt t) (hl:o+l.length≤cs.size) (hb:W.heap[b]?=some (.cells (wrt cs o l) t (0,0)))
  (hj:j < l.length) (hrd:Rd v1 g ad cap bs s' code fat) (hbut:But g v v1) (hbB:B≤b) :
  b ≠ g∧v1.heap[b]?=some (.cells (wrt cs o l) t (0,0))∧v1.setCell ⟨b,o+j,none⟩ x=v1.setRow b (wrt cs o (l.set j x))∧(v1.setRow b (wrt cs o (l.set j x))).heap[b]?=some (.cells (wrt cs o (l.set j x)) t (0,0)) ∧
   (∀ (k:Nat) (c2:Array Value) (t2:TypeId) (f2:Nat × Nat),W.heap[k]?=some (.cells c2 t2 f2)→¬ Pt t2→k ≠ b→(v1.setRow b (wrt cs o (l.set j x))).heap[k]?=W.heap[k]?)∧Rd (v1.setRow b (wrt cs o (l.set j x))) g ad cap bs s' code fat∧But b v1 (v1.setRow b (wrt cs o (l.set j x)))∧(code=0→fat=0→s'≤bs.length→RS B g ad cap bs s' (v1.setRow b (wrt cs o (l.set j x)))):=by
 obtain ⟨gc,gf,hg,_⟩:=shape_cells hR.shp
 have hb1:=(hv.block b (Array.getElem?_eq_some_iff.1 hb).1).trans hb
 have hne:b ≠ g:=by
  intro e
  subst e
  rw [hg] at hb1
  cases hb1
  rcases ht with ht | ht
  ·exact absurd hR.ge (by omega)
  ·exact ht (.inr (.inr rfl))
 have hb2:=(hbut.block b (Array.getElem?_eq_some_iff.1 hb1).1 hne).trans hb1
 have hs:v1.setCell ⟨b,o+j,none⟩ x=v1.setRow b (wrt cs o (l.set j x)):=by
  rw [setCell_eq_setRow v1 b (o+j) _ t (0,0) x hb2,wrt_set hl hj]
 have hbb:But b v1 (v1.setRow b (wrt cs o (l.set j x))):=by rw [← hs];exact But.set b _ v1 x
 have hoff:bs ≠ []→∀ y,ad=some y→y.block ≠ b:=by
  intro hne2 y hy e
  subst hy
  rcases hR.own.2 with ⟨h0,h1⟩ | ⟨g2,c2,cur,h1,h2,h3,_⟩
  ·exact hne2 (List.eq_nil_of_length_eq_zero h1)
  ·cases h1
   simp only at e
   subst e
   rw [hb1] at h3
   cases h3
   rcases ht with ht | ht
   ·omega
   ·exact ht (.inl rfl)
 have hrd2:=hrd.but hbb (Ne.symm hne) hoff
 refine ⟨hne,hb2,hs,setRow_heap _ _ _ _ _ _ hb2,fun k c2 t2 f2 hk hp hkb=>?_,hrd2,hbb,fun e1 e2 hle=>?_⟩
 rotate_left
 ·subst e1 e2
  refine ⟨hrd2,hle,hR.len,hR.ge,(hbb.shape g (Nat.lt_of_lt_of_le hR.rd.lt hbut.size)).trans ((hbut.shape g hR.rd.lt).trans hR.shp),own_stay hR.own (fun k c2 hk=>?_),hR.b8⟩
  have hkb:k ≠ b:=fun e=>by
   subst e
   rw [hb1] at hk
   cases hk
   rcases ht with ht | ht
   ·omega
   ·exact ht (.inl rfl)
  have hkg:k ≠ g:=fun e=>by subst e;rw [hg] at hk;cases hk
  rw [setRow_other _ _ _ _ hkb]
  exact hbut.block k (Array.getElem?_eq_some_iff.1 hk).1 hkg
 rw [setRow_other _ _ _ _ hkb]
 have hkl:=(Array.getElem?_eq_some_iff.1 hk).1
 have h1:=(hv.block k hkl).trans hk
 have hkg:k ≠ g:=fun e=>by subst e;rw [hg] at h1;cases h1;exact hp (.inr (.inr rfl))
 exact (hbut.block k (Array.getElem?_eq_some_iff.1 h1).1 hkg).trans (hv.block k hkl)
theorem rnumber {B g:Nat} {ad:Option Addr} {cap:Nat} {bs:List Nat} (s:Nat) (W:World) (b o:Nat) (cs:Array Value) (t:TypeId) (fr:Nat × Nat) (l:List Value) (size most:Int) (j:Nat) (x:Int) (hR:RS B g ad cap bs s W) (hB:B≤W.heap.size) (hok:fr=(0,0)∧B≤b) (ht:b < B∨¬ Pt t) (hl:o+l.length≤cs.size) (hb:W.heap[b]?=some (.cells (wrt cs o l) t fr)) (hx:l[j]?=some (I x)) :
  Calls Tryz.prog 114 #[rdr g,.int .i64 size,.int .i64 most,.pointer (some ⟨b,o+j,none⟩)] W (Po.Ends (RP bs) (RS B g ad cap bs) B b o cs t fr (Sp.run (RP bs) l s (.num size most j)) W):=by
 obtain ⟨rfl,hbB⟩:=hok
 have hj:j < l.length:=(List.getElem?_eq_some_iff.1 hx).1
 have hB0:=(Below.refl W.heap.size W).alloc (Nat.le_refl _) (.cells #[.pointer (some ⟨g,0,none⟩)] 69)
 have hg0:=heap_alloc_new W (.cells #[.pointer (some ⟨g,0,none⟩)] 69)
 have hR0:=hR.mem hB0
 have hnx:=fun v (hr:Rd v g ad cap bs s 0 0)=>Nm.num_any g ad cap bs ⟨s,0,0⟩ size 0 most v hr hR.len ⟨hR.le,fun _=>rfl⟩
 have hgd:=Nm.num_good bs ⟨s,0,0⟩ (lim size 7) 0 most ⟨hR.le,fun _=>rfl⟩
 have hrun:Sp.run (RP bs) l s (.num size most j)=if (Nm.num bs ⟨s,0,0⟩ (lim size 7) 0 most).2.code=0 then .ok (l.set j (I (Nm.num bs ⟨s,0,0⟩ (lim size 7) 0 most).1),(Nm.num bs ⟨s,0,0⟩ (lim size 7) 0 most).2.k) else .error ((Nm.num bs ⟨s,0,0⟩ (lim size 7) 0 most).2.code,(Nm.num bs ⟨s,0,0⟩ (lim size 7) 0 most).2.fat):=by
  simp only [Sp.run,hx,RP]
  by_cases hc:(Nm.num bs ⟨s,0,0⟩ (lim size 7) 0 most).2.code=0
  ·simp only [hc,if_true]
  ·simp only [hc,if_false]
 generalize Nm.num bs ⟨s,0,0⟩ (lim size 7) 0 most=nn at hnx hgd hrun
 obtain ⟨nv,k',code,fat⟩:=nn
 dsimp only at hrun hnx hgd
 have HRUN:=Lib.hid hrun
 have HNX:=Lib.hid hnx
 have HGD:=Lib.hid hgd
 have HRR:=Lib.hid hR0
 have HB0:=Lib.hid hB0
 have HBB:=Lib.hid hb
 have HT:=Lib.hid ht
 have HLN:=Lib.hid hl
 generalize Sp.run (RP bs) l s (.num size most j)=res at HRUN ⊢
 clear hrun hnx hgd hR0 hB0 hb ht hl hx
 go_enter Tryz.func114,Tryz.ntmps114
 go_upto_region 1 with fail
 generalize World.alloc W _=v at HRR HB0 hg0 ⊢
 generalize hrb:W.heap.size=rb at hg0 ⊢
 have k0:v.cell? ⟨rb,0,none⟩=some (.pointer (some ⟨g,0,none⟩)):=by rw [cell_of_row _ _ _ _ _ _ hg0];rfl
 go_wp2_with fail
 refine (HNX.out v HRR.out.rd).mono ?_
 rintro e v1 ⟨rfl,hrd,hbut⟩
 obtain ⟨h1,h2,h3,h4,h5,h6,h7,h8⟩:=rfin (x:=I nv) HRR.out HB0.out hB HT.out HLN.out HBB.out hj hrd hbut hbB
 have hbl:=(Array.getElem?_eq_some_iff.1 HBB.out).1
 have hrb1:=(hbut.block rb (Array.getElem?_eq_some_iff.1 hg0).1 (fun e=>by
  obtain ⟨gc,gf,hg,_⟩:=shape_cells HRR.out.shp
  rw [e,hg] at hg0;cases hg0)).trans hg0
 have c1:∃ y,v1.cell? ⟨b,o+j,none⟩=some y:=⟨_,by rw [cell_of_row _ _ _ _ _ _ h2,wrt_at HLN.out hj];exact List.getElem?_eq_getElem hj⟩
 obtain ⟨y,c1⟩:=c1
 have f1:v1.frozen? ⟨b,o+j,none⟩=false:=frozen_of_row _ _ _ _ _ h2
 have hrb2:=(h7.block rb (Array.getElem?_eq_some_iff.1 hrb1).1 (by omega)).trans hrb1
 have H3:=Lib.hid h3
 have HBU:=Lib.hid hbut
 clear k0 hg0 hrb1 hrd h2
 go_upto_region 2 with fail
 clear c1 f1
 (try rw [h3])
 generalize v1.setRow b (wrt cs o (l.set j (I nv)))=v2 at h4 h5 h6 h7 h8 hrb2 ⊢
 have LR:Hid (Lies v2 ⟨rb,0,none⟩ [.pointer (some ⟨g,0,none⟩)]):=Lib.hid (by have:=Row.lies_of_block hrb2;simpa using this)
 have HLOW:Hid (Below B W v2):=Lib.hid (((HB0.out.mono hB).trans (HBU.out.below (Nat.le_trans hB HB0.out.size) HRR.out.ge)).trans (h7.below (Nat.le_trans (Nat.le_trans hB HB0.out.size) HBU.out.size) hbB))
 have H4:=Lib.hid h4
 have H5:=Lib.hid h5
 have H6:=Lib.hid h6
 have H8:=Lib.hid h8
 clear h3 h4 h5 h6 h7 h8 hrb2
 by_cases hc:code=0
 ·subst hc
  obtain rfl:fat=0:=HGD.out.2 rfl
  have hw:=Lib.hid (want_ok g ad cap bs k' v2 H6.out)
  go_wp2_with (refine Row.wpList_load_g 69 _ rfl (by first | rfl | go_simp) ⟨rb,0,none⟩ rfl [.pointer (some ⟨g,0,none⟩)] _ LR.out Tryz.underlying69 rfl infoRd ?_)
  refine hw.out.mono ?_
  rintro e v3 ⟨rfl,hb3⟩
  have HB3:=Lib.hid hb3
  clear hb3
  go_wp2
  go_end0
  rw [HRUN.out]
  (first | rw [if_pos rfl] | simp only [if_true])
  have hR2:RS B g ad cap bs k' v2:=by first | exact H8.out rfl rfl HGD.out.1 | exact H8.out trivial trivial HGD.out.1 | exact H8.out trivial rfl HGD.out.1
  refine ⟨rfl,hR2.mem HB3.out,⟨HLOW.out.trans (HB3.out.mono (Nat.le_trans hB HLOW.out.size)),fun k c2 t2 f2 hk hp hkb=>?_⟩,(HB3.out.block b (Array.getElem?_eq_some_iff.1 H4.out).1).trans H4.out⟩
  have h8:=H5.out k c2 t2 f2 hk hp hkb
  exact (HB3.out.block k (Array.getElem?_eq_some_iff.1 (h8.trans hk)).1).trans h8
 ·have hw:=Lib.hid (want_bad g ad cap bs k' code fat v2 H6.out hc)
  go_wp2_with (refine Row.wpList_load_g 69 _ rfl (by first | rfl | go_simp) ⟨rb,0,none⟩ rfl [.pointer (some ⟨g,0,none⟩)] _ LR.out Tryz.underlying69 rfl infoRd ?_)
  refine hw.out.mono ?_
  rintro e v3 ⟨rfl,hb3⟩
  refine ⟨rfl,?_⟩
  rw [HRUN.out,if_neg hc]
  exact ⟨rfl,HLOW.out.trans (hb3.mono (Nat.le_trans hB HLOW.out.size))⟩
end Rr
namespace Rr
open Go Go.RowKit Go.ChangeShapes
open Tab
open Po
open Rd (Rd But)
open Put (lim)
open Go.Proofs.YtggjconbgpfomaaGreat.B (Own own_row own_below)
theorem rflag {B g:Nat} {ad:Option Addr} {cap:Nat} {bs:List Nat} (s:Nat) (W:World) (b o:Nat) (cs:Array Value) (t:TypeId) (fr:Nat × Nat) (l:List Value) (j:Nat) (x:Bool) (hR:RS B g ad cap bs s W) (hB:B≤W.heap.size) (hok:fr=(0,0)∧B≤b) (ht:b < B∨¬ Pt t) (hl:o+l.length≤cs.size) (hb:W.heap[b]?=some (.cells (wrt cs o l) t fr)) (hx:l[j]?=some (.bool x)) :
  Calls Tryz.prog 167 #[rdr g,.pointer (some ⟨b,o+j,none⟩)] W (Po.Ends (RP bs) (RS B g ad cap bs) B b o cs t fr (Sp.run (RP bs) l s (.flg j)) W):=by
 obtain ⟨rfl,hbB⟩:=hok
 have hj:j < l.length:=(List.getElem?_eq_some_iff.1 hx).1
 have hB0:=(Below.refl W.heap.size W).alloc (Nat.le_refl _) (.cells #[.pointer (some ⟨g,0,none⟩)] 69)
 have hg0:=heap_alloc_new W (.cells #[.pointer (some ⟨g,0,none⟩)] 69)
 have hR0:=hR.mem hB0
 have hnx:=fun v (hr:Rd v g ad cap bs s 0 0)=>Nm.bool_any g ad cap bs ⟨s,0,0⟩ v hr hR.len ⟨hR.le,fun _=>rfl⟩
 have hgd:=Nm.num_good bs ⟨s,0,0⟩ 1 0 1 ⟨hR.le,fun _=>rfl⟩
 have hrun:Sp.run (RP bs) l s (.flg j)=if (Nm.num bs ⟨s,0,0⟩ 1 0 1).2.code=0 then .ok (l.set j (.bool (decide ((Nm.num bs ⟨s,0,0⟩ 1 0 1).1=1))),(Nm.num bs ⟨s,0,0⟩ 1 0 1).2.k) else .error ((Nm.num bs ⟨s,0,0⟩ 1 0 1).2.code,(Nm.num bs ⟨s,0,0⟩ 1 0 1).2.fat):=by
  simp only [Sp.run,hx,RP]
  by_cases hc:(Nm.num bs ⟨s,0,0⟩ 1 0 1).2.code=0
  ·simp only [hc,if_true]
  ·simp only [hc,if_false]
 generalize Nm.num bs ⟨s,0,0⟩ 1 0 1=nn at hnx hgd hrun
 obtain ⟨nv,k',code,fat⟩:=nn
 dsimp only at hrun hnx hgd
 have HRUN:=Lib.hid hrun
 have HNX:=Lib.hid hnx
 have HGD:=Lib.hid hgd
 have HRR:=Lib.hid hR0
 have HB0:=Lib.hid hB0
 have HBB:=Lib.hid hb
 have HT:=Lib.hid ht
 have HLN:=Lib.hid hl
 generalize Sp.run (RP bs) l s (.flg j)=res at HRUN ⊢
 clear hrun hnx hgd hR0 hB0 hb ht hl hx
 go_enter Tryz.func167,Tryz.ntmps167
 go_upto_region 1 with fail
 generalize World.alloc W _=v at HRR HB0 hg0 ⊢
 generalize hrb:W.heap.size=rb at hg0 ⊢
 have k0:v.cell? ⟨rb,0,none⟩=some (.pointer (some ⟨g,0,none⟩)):=by rw [cell_of_row _ _ _ _ _ _ hg0];rfl
 go_wp2_with fail
 refine (HNX.out v HRR.out.rd).mono ?_
 rintro e v1 ⟨rfl,hrd,hbut⟩
 obtain ⟨h1,h2,h3,h4,h5,h6,h7,h8⟩:=rfin (x:=.bool (decide (nv=1))) HRR.out HB0.out hB HT.out HLN.out HBB.out hj hrd hbut hbB
 have hbl:=(Array.getElem?_eq_some_iff.1 HBB.out).1
 have hrb1:=(hbut.block rb (Array.getElem?_eq_some_iff.1 hg0).1 (fun e=>by
  obtain ⟨gc,gf,hg,_⟩:=shape_cells HRR.out.shp
  rw [e,hg] at hg0;cases hg0)).trans hg0
 have c1:∃ y,v1.cell? ⟨b,o+j,none⟩=some y:=⟨_,by rw [cell_of_row _ _ _ _ _ _ h2,wrt_at HLN.out hj];exact List.getElem?_eq_getElem hj⟩
 obtain ⟨y,c1⟩:=c1
 have f1:v1.frozen? ⟨b,o+j,none⟩=false:=frozen_of_row _ _ _ _ _ h2
 have hrb2:=(h7.block rb (Array.getElem?_eq_some_iff.1 hrb1).1 (by omega)).trans hrb1
 have H3:=Lib.hid h3
 have HBU:=Lib.hid hbut
 clear k0 hg0 hrb1 hrd h2
 go_upto_region 2 with fail
 clear c1 f1
 (try rw [h3])
 generalize v1.setRow b (wrt cs o (l.set j (.bool (decide (nv=1)))))=v2 at h4 h5 h6 h7 h8 hrb2 ⊢
 have LR:Hid (Lies v2 ⟨rb,0,none⟩ [.pointer (some ⟨g,0,none⟩)]):=Lib.hid (by have:=Row.lies_of_block hrb2;simpa using this)
 have HLOW:Hid (Below B W v2):=Lib.hid (((HB0.out.mono hB).trans (HBU.out.below (Nat.le_trans hB HB0.out.size) HRR.out.ge)).trans (h7.below (Nat.le_trans (Nat.le_trans hB HB0.out.size) HBU.out.size) hbB))
 have H4:=Lib.hid h4
 have H5:=Lib.hid h5
 have H6:=Lib.hid h6
 have H8:=Lib.hid h8
 clear h3 h4 h5 h6 h7 h8 hrb2
 by_cases hc:code=0
 ·subst hc
  obtain rfl:fat=0:=HGD.out.2 rfl
  have hw:=Lib.hid (want_ok g ad cap bs k' v2 H6.out)
  go_wp2_with (refine Row.wpList_load_g 69 _ rfl (by first | rfl | go_simp) ⟨rb,0,none⟩ rfl [.pointer (some ⟨g,0,none⟩)] _ LR.out Tryz.underlying69 rfl infoRd ?_)
  refine hw.out.mono ?_
  rintro e v3 ⟨rfl,hb3⟩
  have HB3:=Lib.hid hb3
  clear hb3
  go_wp2
  go_end0
  rw [HRUN.out]
  (first | rw [if_pos rfl] | simp only [if_true])
  have hR2:RS B g ad cap bs k' v2:=by first | exact H8.out rfl rfl HGD.out.1 | exact H8.out trivial trivial HGD.out.1 | exact H8.out trivial rfl HGD.out.1
  refine ⟨rfl,hR2.mem HB3.out,⟨HLOW.out.trans (HB3.out.mono (Nat.le_trans hB HLOW.out.size)),fun k c2 t2 f2 hk hp hkb=>?_⟩,(HB3.out.block b (Array.getElem?_eq_some_iff.1 H4.out).1).trans H4.out⟩
  have h8:=H5.out k c2 t2 f2 hk hp hkb
  exact (HB3.out.block k (Array.getElem?_eq_some_iff.1 (h8.trans hk)).1).trans h8
 ·have hw:=Lib.hid (want_bad g ad cap bs k' code fat v2 H6.out hc)
  go_wp2_with (refine Row.wpList_load_g 69 _ rfl (by first | rfl | go_simp) ⟨rb,0,none⟩ rfl [.pointer (some ⟨g,0,none⟩)] _ LR.out Tryz.underlying69 rfl infoRd ?_)
  refine hw.out.mono ?_
  rintro e v3 ⟨rfl,hb3⟩
  refine ⟨rfl,?_⟩
  rw [HRUN.out,if_neg hc]
  exact ⟨rfl,HLOW.out.trans (hb3.mono (Nat.le_trans hB HLOW.out.size))⟩
end Rr
namespace Ml
open Go Go.RowKit Go.ChangeShapes
open Tab Clone
open May (infoD)
def mT (d:Det):Tab:={ zTab with dets:=[d] }
def mH (g:Nat):Hd:=⟨⟨none,0⟩,⟨some ⟨g,0,none⟩,1⟩,⟨none,0⟩,⟨none,0⟩⟩
theorem builtM (d:Det) (g:Nat):Tryz.prog.built 31 [(3,.slice (some ⟨g,0,none⟩) 1 1)]=some ((mT d).cells (mH g)).toArray:=by kernel_rfl
theorem m_is (d:Det) {w:World} {g:Nat} (hg:w.heap[g]?=some (.cells d.cells.toArray 80 (0,0))):IsTab w (mH g) (mT d) :=
 ⟨rfl,rfl,rfl,⟨[],rfl,RowOf.nil w,fun g hg=>by simp at hg⟩,.inr ⟨_,rfl,Nat.le_refl _,by show 1≤maxLen;decide,fun i v hi=>by
  match i,hi with
  | 0,hi =>
   obtain rfl:d=v:=Option.some.inj hi
   rw [Nat.zero_mul,Tab.add_zero]
   have:=Row.lies_of_block hg
   simpa using this
  | i+1,hi=>simp [mT] at hi⟩,RowOf.nil w,RowOf.nil w⟩
theorem m_may (d:Det):May.tabMay (mT d)=May.Det.may d:=by
 have e1:May.listMay 8 May.Ph.may (mT d).phases=true:=show May.listMay 8 May.Ph.may zTab.phases=true by decide +kernel
 have e2:May.listMay 4 May.groupMay (mT d).groups=true:=show May.listMay 4 May.groupMay zTab.groups=true by decide +kernel
 have e3:May.allIn 255 (mT d).conflict=true:=show May.allIn 255 zTab.conflict=true by decide +kernel
 have e4:May.listMay 16 May.Det.may (mT d).dets=May.Det.may d:=by simp [May.listMay,mT]
 have e5:May.listMay 4 May.Rl.may (mT d).rails=true:=show May.listMay 4 May.Rl.may zTab.rails=true by decide +kernel
 have e6:May.listMay 4 May.Bs.may (mT d).buses=true:=show May.listMay 4 May.Bs.may zTab.buses=true by decide +kernel
 have e7:May.allIn 9999 [(mT d).extend,(mT d).budget,(mT d).start,(mT d).revert,(mT d).least]=true:=show May.allIn 9999 [zTab.extend,zTab.budget,zTab.start,zTab.revert,zTab.least]=true by decide +kernel
 have e8:May.allIn 2 (mT d).flash=true:=show May.allIn 2 zTab.flash=true by decide +kernel
 have e9:May.allIn 2147483647 [(mT d).window,(mT d).share]=true:=show May.allIn 2147483647 [zTab.window,zTab.share]=true by decide +kernel
 unfold May.tabMay
 rw [e1,e2,e3,e4,e5,e6,e7,e8,e9]
 simp
theorem mdet_any (d:Det) (W:World):Calls Tryz.prog 128 #[.agg d.cells.toArray] W fun e W'=>e=.returned (.bool (May.Det.may d))∧Below W.heap.size W W':=by
 obtain ⟨p0,p1,p2,p3,p4,p5,p6⟩:=d
 simp only [Det.cells]
 have hb:=(Below.refl W.heap.size W).alloc (Nat.le_refl _) (.cells #[I p0,F p1,F p2,F p3,F p4,I p5,I p6] 80)
 have hg:=heap_alloc_new W (.cells #[I p0,F p1,F p2,F p3,F p4,I p5,I p6] 80)
 have BM:=Lib.hid (builtM ⟨p0,p1,p2,p3,p4,p5,p6⟩)
 have MI:Hid (∀ (g:Nat) (V:World),V.heap[g]?=some (.cells #[I p0,F p1,F p2,F p3,F p4,I p5,I p6] 80 (0,0))→Calls Tryz.prog 23 #[.agg ((mT ⟨p0,p1,p2,p3,p4,p5,p6⟩).cells (mH g)).toArray] V fun e W'=>e=.returned (.bool (May.Det.may ⟨p0,p1,p2,p3,p4,p5,p6⟩))∧Below V.heap.size V W'):=Lib.hid (fun g V hg=>by rw [← m_may];exact May.may_any (mT ⟨p0,p1,p2,p3,p4,p5,p6⟩) (mH g) V (m_is ⟨p0,p1,p2,p3,p4,p5,p6⟩ hg))
 have ID:(Tryz.prog.info? 80).map (·.size)=some [I p0,F p1,F p2,F p3,F p4,I p5,I p6].length:=infoD
 go_enter Tryz.func128,Tryz.ntmps128
 go_upto_region 1 with fail
 generalize World.alloc W _=v at hb hg ⊢
 have HB:=Lib.hid hb
 have LD:Hid (Lies v ⟨W.heap.size,0,none⟩ [I p0,F p1,F p2,F p3,F p4,I p5,I p6]):=Lib.hid (by have:=Row.lies_of_block hg;simpa using this)
 clear hb hg
 go_wp2_with (first | (refine Row.wpList_load_g 80 _ rfl (by first | rfl | go_simp) ⟨W.heap.size,0,none⟩ rfl [I p0,F p1,F p2,F p3,F p4,I p5,I p6] _ LD.out Tryz.underlying80 rfl ID ?_) | (refine Held.wpList_build1 rfl 31 3 (.tmp 4) rfl (.slice (some ⟨v.heap.size,0,none⟩) 1 1) rfl _ (BM.out _) ?_))
 have hc:=Lib.hid (MI.out v.heap.size (v.alloc (.cells #[I p0,F p1,F p2,F p3,F p4,I p5,I p6] 80)) (heap_alloc_new v _))
 refine hc.out.mono ?_
 rintro e v2 ⟨rfl,hb⟩
 have HB2:=Lib.hid (HB.out.trans ((((Below.refl v.heap.size v).alloc (Nat.le_refl _) _).trans (hb.mono (by simp))).mono HB.out.size))
 clear hb
 go_wp2
 go_ret
 exact ⟨rfl,HB2.out⟩
theorem may_lv (x:Nat):May.Det.may ⟨0,x,4607182418800017408,0,0,0,0⟩=MayF.level x:=by
 have e1:May.allIn 7 [0]=true:=by decide
 have e2:MayF.level 4607182418800017408=true:=by decide +kernel
 have e3:MayF.span 0=true:=by decide +kernel
 have e4:May.allIn 9999 [0,0]=true:=by decide
 show (May.allIn 7 [0] && (MayF.level x && (MayF.level 4607182418800017408 && (MayF.span 0 && (MayF.span 0 && May.allIn 9999 [0,0])))))=_
 rw [e1,e2,e3,e4];simp
theorem may_sp (x:Nat):May.Det.may ⟨0,4607182418800017408,4607182418800017408,x,0,0,0⟩=MayF.span x:=by
 have e1:May.allIn 7 [0]=true:=by decide
 have e2:MayF.level 4607182418800017408=true:=by decide +kernel
 have e3:MayF.span 0=true:=by decide +kernel
 have e4:May.allIn 9999 [0,0]=true:=by decide
 show (May.allIn 7 [0] && (MayF.level 4607182418800017408 && (MayF.level 4607182418800017408 && (MayF.span x && (MayF.span 0 && May.allIn 9999 [0,0])))))=_
 rw [e1,e2,e3,e4];simp
theorem mlv_any (x:Nat) (W:World):Calls Tryz.prog 109 #[.float .f64 x] W fun e W'=>e=.returned (.bool (MayF.level x))∧Below W.heap.size W W':=by
 have HC:=Lib.hid (mdet_any ⟨0,x,4607182418800017408,0,0,0,0⟩ W)
 rw [may_lv] at HC
 go_enter Tryz.func109,Tryz.ntmps109
 go_wp2_with fail
 refine HC.out.mono ?_
 rintro e v2 ⟨rfl,hb⟩
 have HB:=Lib.hid hb
 clear hb
 go_wp2
 go_ret
 exact ⟨rfl,HB.out⟩
theorem msp_any (x:Nat) (W:World):Calls Tryz.prog 110 #[.float .f64 x] W fun e W'=>e=.returned (.bool (MayF.span x))∧Below W.heap.size W W':=by
 have HC:=Lib.hid (mdet_any ⟨0,4607182418800017408,4607182418800017408,x,0,0,0⟩ W)
 rw [may_sp] at HC
 go_enter Tryz.func110,Tryz.ntmps110
 go_wp2_with fail
 refine HC.out.mono ?_
 rintro e v2 ⟨rfl,hb⟩
 have HB:=Lib.hid hb
 clear hb
 go_wp2
 go_ret
 exact ⟨rfl,HB.out⟩
end Ml
namespace Rr
open Go Go.RowKit Go.ChangeShapes
open Tab
open Po
open Rd (Rd But)
open Put (lim)
open Go.Proofs.YtggjconbgpfomaaGreat.B (Own own_row own_below)
theorem run_store_float {P:Program} {w:World} {a:Addr} {u:Value} {k:FloatKind} {v:Nat} (h:w.cell? a=some u) (hf:w.frozen? a=false):Sem.run P (store a (.float k v)) w=.ok () (w.setCell a (.float k v)):=by
 rw [run_store P w a _ _ rfl]
 simp [stored,h,hf]
theorem rfloat0 {F:FuncId} (en':∀ (args:Array Value) (w:World),(callFunc F args).run Tryz.prog w=.ok (.enter F args) w) {B g:Nat} {ad:Option Addr} {cap:Nat} {bs:List Nat} (s:Nat) (W:World) (b o:Nat) (cs:Array Value) (t:TypeId) (fr:Nat × Nat) (l:List Value) (lv:Bool) (j x:Nat) (hR:RS B g ad cap bs s W) (hB:B≤W.heap.size) (hok:fr=(0,0)∧B≤b) (ht:b < B∨¬ Pt t) (hl:o+l.length≤cs.size) (hb:W.heap[b]?=some (.cells (wrt cs o l) t fr)) (hx:l[j]?=some (.float .f64 x)) (HMF:Hid (∀ y V,Calls Tryz.prog F #[.float .f64 y] V fun e V'=>e=.returned (.bool (may lv y))∧Below V.heap.size V V')) :
  Calls Tryz.prog 168 #[rdr g,.pointer (some ⟨b,o+j,none⟩),.func (.func F) #[] #[]] W (Po.Ends (RP bs) (RS B g ad cap bs) B b o cs t fr (Sp.run (RP bs) l s (.flt lv j)) W):=by
 obtain ⟨rfl,hbB⟩:=hok
 have hj:j < l.length:=(List.getElem?_eq_some_iff.1 hx).1
 have hB0:=(Below.refl W.heap.size W).alloc (Nat.le_refl _) (.cells #[.pointer (some ⟨g,0,none⟩)] 69)
 have hg0:=heap_alloc_new W (.cells #[.pointer (some ⟨g,0,none⟩)] 69)
 have hR0:=hR.mem hB0
 have hnx:=fun v (hr:Rd v g ad cap bs s 0 0)=>Nm.float_any g ad cap bs ⟨s,0,0⟩ v hr hR.len ⟨hR.le,fun _=>rfl⟩
 have hgd:=Nm.flt_good bs ⟨s,0,0⟩ ⟨hR.le,fun _=>rfl⟩
 have hrun:Sp.run (RP bs) l s (.flt lv j)=if (Nm.flt bs ⟨s,0,0⟩).2.code=0 then (if may lv (Nm.flt bs ⟨s,0,0⟩).1=true then .ok (l.set j (.float .f64 (Nm.flt bs ⟨s,0,0⟩).1),(Nm.flt bs ⟨s,0,0⟩).2.k) else .error (4,s)) else .error ((Nm.flt bs ⟨s,0,0⟩).2.code,(Nm.flt bs ⟨s,0,0⟩).2.fat):=by
  simp only [Sp.run,hx,RP]
  by_cases hc:(Nm.flt bs ⟨s,0,0⟩).2.code=0
  ·simp only [hc,if_true]
   by_cases hm:may lv (Nm.flt bs ⟨s,0,0⟩).1=true
   ·simp [hm]
   ·simp [hm]
  ·simp only [hc,if_false]
 generalize Nm.flt bs ⟨s,0,0⟩=nn at hnx hgd hrun
 obtain ⟨nv,k',code,fat⟩:=nn
 dsimp only at hrun hnx hgd
 have HRUN:=Lib.hid hrun
 have HNX:=Lib.hid hnx
 have HGD:=Lib.hid hgd
 have HRR:=Lib.hid hR0
 have HB0:=Lib.hid hB0
 have HBB:=Lib.hid hb
 have HT:=Lib.hid ht
 have HLN:=Lib.hid hl
 generalize Sp.run (RP bs) l s (.flt lv j)=res at HRUN ⊢
 clear hrun hnx hgd hR0 hB0 hb ht hl hx
 go_enter Tryz.func168,Tryz.ntmps168
 go_upto_region 1 with fail
 generalize World.alloc W _=v at HRR HB0 hg0 ⊢
 generalize hrb:W.heap.size=rb at hg0 ⊢
 have k0:v.cell? ⟨rb,0,none⟩=some (.pointer (some ⟨g,0,none⟩)):=by rw [cell_of_row _ _ _ _ _ _ hg0];rfl
 go_wp2_with fail
 refine (Rd.at_any g ad cap bs s 0 0 v HRR.out.rd).mono ?_
 rintro e vA ⟨rfl,rfl⟩
 go_wp2_with fail
 refine (HNX.out v HRR.out.rd).mono ?_
 rintro e v1 ⟨rfl,hrd,hbut⟩
 obtain ⟨h1,h2,h3,h4,h5,h6,h7,h8⟩:=rfin (x:=.float .f64 nv) HRR.out HB0.out hB HT.out HLN.out HBB.out hj hrd hbut hbB
 have hbl:=(Array.getElem?_eq_some_iff.1 HBB.out).1
 have hrb1:=(hbut.block rb (Array.getElem?_eq_some_iff.1 hg0).1 (fun e=>by
  obtain ⟨gc,gf,hg,_⟩:=shape_cells HRR.out.shp
  rw [e,hg] at hg0;cases hg0)).trans hg0
 have c1:∃ y,v1.cell? ⟨b,o+j,none⟩=some y:=⟨_,by rw [cell_of_row _ _ _ _ _ _ h2,wrt_at HLN.out hj];exact List.getElem?_eq_getElem hj⟩
 obtain ⟨y,c1⟩:=c1
 have f1:v1.frozen? ⟨b,o+j,none⟩=false:=frozen_of_row _ _ _ _ _ h2
 have hrb2:=(h7.block rb (Array.getElem?_eq_some_iff.1 hrb1).1 (by omega)).trans hrb1
 have H3:=Lib.hid h3
 have HBU:=Lib.hid hbut
 clear k0 hg0 hrb1 hrd h2
 have hsf:Sem.run Tryz.prog (store ⟨b,o+j,none⟩ (.float .f64 nv)) v1=.ok () (v1.setCell ⟨b,o+j,none⟩ (.float .f64 nv)):=run_store_float c1 f1
 go_upto_region 3 with fail
 clear c1 f1 hsf
 (try rw [h3])
 generalize v1.setRow b (wrt cs o (l.set j (.float .f64 nv)))=v2 at h4 h5 h6 h7 h8 hrb2 ⊢
 have LR:Hid (Lies v2 ⟨rb,0,none⟩ [.pointer (some ⟨g,0,none⟩)]):=Lib.hid (by have:=Row.lies_of_block hrb2;simpa using this)
 have HLOW:Hid (Below B W v2):=Lib.hid (((HB0.out.mono hB).trans (HBU.out.below (Nat.le_trans hB HB0.out.size) HRR.out.ge)).trans (h7.below (Nat.le_trans (Nat.le_trans hB HB0.out.size) HBU.out.size) hbB))
 have H4:=Lib.hid h4
 have H5:=Lib.hid h5
 have H6:=Lib.hid h6
 have H8:=Lib.hid h8
 clear h3 h4 h5 h6 h7 h8 hrb2
 by_cases hc:code=0
 ·subst hc
  obtain rfl:fat=0:=HGD.out.2 rfl
  have hw:=Lib.hid (want_ok g ad cap bs k' v2 H6.out)
  go_wp2_with (refine Row.wpList_load_g 69 _ rfl (by first | rfl | go_simp) ⟨rb,0,none⟩ rfl [.pointer (some ⟨g,0,none⟩)] _ LR.out Tryz.underlying69 rfl infoRd ?_)
  refine hw.out.mono ?_
  rintro e v3 ⟨rfl,hb3⟩
  have HB3:=Lib.hid hb3
  clear hb3
  have hR2:RS B g ad cap bs k' v2:=by first | exact H8.out rfl rfl HGD.out.1 | exact H8.out trivial trivial HGD.out.1 | exact H8.out trivial rfl HGD.out.1
  have h43:=(HB3.out.block b (Array.getElem?_eq_some_iff.1 H4.out).1).trans H4.out
  have cx:v3.cell? ⟨b,o+j,none⟩=some (.float .f64 nv):=by rw [cell_of_row _ _ _ _ _ _ h43,wrt_at (by rw [List.length_set];exact HLN.out) (by rw [List.length_set];exact hj)];simp [hj]
  have HMV:Hid (Mv B b W v3):=Lib.hid ⟨HLOW.out.trans (HB3.out.mono (Nat.le_trans hB HLOW.out.size)),fun k c2 t2 f2 hk hp hkb=>by
   have h8:=H5.out k c2 t2 f2 hk hp hkb
   exact (HB3.out.block k (Array.getElem?_eq_some_iff.1 (h8.trans hk)).1).trans h8⟩
  have HR3:=Lib.hid (hR2.mem HB3.out)
  have H43:=Lib.hid h43
  have HML:=Lib.hid (HMF.out nv v3)
  have HMAY:Hid (∀ m,may lv nv=m→res=if m=true then .ok (l.set j (.float .f64 nv),k') else .error (4,s)):=Lib.hid (fun m hm=>by rw [HRUN.out,← hm];first | rw [if_pos rfl] | simp only [if_true])
  clear hR2 h43
  go_wp2_with fail
  refine HML.out.mono ?_
  rintro e v4 ⟨rfl,hb4⟩
  cases hm:may lv nv with
  | true =>
   have hr:=HMAY.out true hm
   have HB4:=Lib.hid hb4
   clear hb4 hm
   go_wp2
   go_end0
   rw [hr]
   (first | rw [if_pos rfl] | simp only [if_true])
   refine ⟨rfl,HR3.out.mem HB4.out,⟨HMV.out.low.trans (HB4.out.mono (Nat.le_trans hB HMV.out.low.size)),fun k c2 t2 f2 hk hp hkb=>?_⟩,(HB4.out.block b (Array.getElem?_eq_some_iff.1 H43.out).1).trans H43.out⟩
   have h8:=HMV.out.other k c2 t2 f2 hk hp hkb
   exact (HB4.out.block k (Array.getElem?_eq_some_iff.1 (h8.trans hk)).1).trans h8
  | false =>
   have hr:=HMAY.out false hm
   have HB4:=Lib.hid hb4
   clear hb4 hm
   go_wp2_with fail
   refine (fail_any 4 s v4).mono ?_
   rintro e v5 ⟨rfl,rfl⟩
   refine ⟨rfl,?_⟩
   (try rw [hr])
   (try rw [if_neg (by simp)])
   exact ⟨rfl,HMV.out.low.trans (HB4.out.mono (Nat.le_trans hB HMV.out.low.size))⟩
 ·have hw:=Lib.hid (want_bad g ad cap bs k' code fat v2 H6.out hc)
  go_wp2_with (refine Row.wpList_load_g 69 _ rfl (by first | rfl | go_simp) ⟨rb,0,none⟩ rfl [.pointer (some ⟨g,0,none⟩)] _ LR.out Tryz.underlying69 rfl infoRd ?_)
  refine hw.out.mono ?_
  rintro e v3 ⟨rfl,hb3⟩
  refine ⟨rfl,?_⟩
  rw [HRUN.out,if_neg hc]
  exact ⟨rfl,HLOW.out.trans (hb3.mono (Nat.le_trans hB HLOW.out.size))⟩
theorem rfloat {B g:Nat} {ad:Option Addr} {cap:Nat} {bs:List Nat} (s:Nat) (W:World) (b o:Nat) (cs:Array Value) (t:TypeId) (fr:Nat × Nat) (l:List Value) (lv:Bool) (j x:Nat) (hR:RS B g ad cap bs s W) (hB:B≤W.heap.size) (hok:fr=(0,0)∧B≤b) (ht:b < B∨¬ Pt t) (hl:o+l.length≤cs.size) (hb:W.heap[b]?=some (.cells (wrt cs o l) t fr)) (hx:l[j]?=some (.float .f64 x)) :
  Calls Tryz.prog 168 #[rdr g,.pointer (some ⟨b,o+j,none⟩),.func (.func (if lv=true then 109 else 110)) #[] #[]] W (Po.Ends (RP bs) (RS B g ad cap bs) B b o cs t fr (Sp.run (RP bs) l s (.flt lv j)) W):=by
 cases lv
 ·rw [if_neg (by simp)]
  exact rfloat0 (fun _ _=>rfl) s W b o cs t fr l false j x hR hB hok ht hl hb hx (Lib.hid (fun y V=>Ml.msp_any y V))
 ·rw [if_pos rfl]
  exact rfloat0 (fun _ _=>rfl) s W b o cs t fr l true j x hR hB hok ht hl hb hx (Lib.hid (fun y V=>Ml.mlv_any y V))
end Rr
namespace Rr
open Go Go.RowKit
open Tab
open Po
theorem rport {B g:Nat} {ad:Option Addr} {cap:Nat} {bs:List Nat}:Port (RP bs) (RS B g ad cap bs) B (fun b fr=>fr=(0,0)∧B≤b) 69 (rdr g) (rdr g) 114 168 167 where
 mn:=fun n w=>rfl
 mf:=fun n w=>rfl
 mg:=fun n w=>rfl
 nn:=fun n w=>rfl
 nf:=fun n w=>rfl
 ng:=fun n w=>rfl
 en:=fun args w=>rfl
 ef:=fun args w=>rfl
 eg:=fun args w=>rfl
 stay:=fun s W W' h hs hk=>h.stay hs hk
 new:=fun b hb=>⟨rfl,hb⟩
 num:=fun s W b o cs t fr l size most j x hR hB hok ht hl hb hx _=>rnumber s W b o cs t fr l size most j x hR hB hok ht hl hb hx
 flt:=fun s W b o cs t fr l lv j x hR hB hok ht hl hb hx _=>rfloat s W b o cs t fr l lv j x hR hB hok ht hl hb hx
 flg:=fun s W b o cs t fr l j x hR hB hok ht hl hb hx _=>rflag s W b o cs t fr l j x hR hB hok ht hl hb hx
end Rr
namespace Po
open Go Go.RowKit
open Tab
structure Roomy (P:PP):Prop where
 num:∀ s size most x,Fit (P.num s size most x)
 flt:∀ s lv x,Fit (P.flt s lv x)
 flg:∀ s x,Fit (P.flg s x)
section
variable {P:PP}
theorem Roomy.run (h:Roomy P) (l:List Value) (s:P.σ) (c:Sp):Fit (c.run P l s):=by
 intro e
 cases c <;> simp only [Sp.run] at e <;> split at e <;> (try split at e) <;> (try cases e)
 ·rename_i hx;exact h.num _ _ _ _ hx
 ·rename_i hx;exact h.flt _ _ _ hx
 ·rename_i hx;exact h.flg _ _ hx
theorem Roomy.runs (h:Roomy P):∀ (cs:List Sp) (l:List Value) (s:P.σ),Fit (runs P cs l s)
 | [],l,s=>by intro e;cases e
 | c :: cs,l,s=>by
  intro e
  rw [Po.runs] at e
  cases hc:c.run P l s with
  | ok r=>rw [hc] at e;exact h.runs cs _ _ e
  | error f=>rw [hc] at e;cases e;exact h.run l s c hc
theorem Roomy.eachs (h:Roomy P) (st:List Sp):∀ (xs:List (List Value)) (s:P.σ),Fit (eachs P st xs s)
 | [],s=>by intro e;cases e
 | x :: xs,s=>by
  intro e
  rw [Po.eachs] at e
  cases hc:Po.runs P st x s with
  | error f=>rw [hc] at e;cases e;exact h.runs _ _ _ hc
  | ok r =>
   rw [hc] at e
   cases h2:Po.eachs P st xs r.2 with
   | error f=>simp only [h2] at e;cases e;exact h.eachs st _ _ h2
   | ok r2=>simp only [h2] at e;cases e
theorem Roomy.listN (h:Roomy P) (most:Int) (st:List Sp) (zr:List Value) (s:P.σ):Fit (listN P most st zr s):=by
 intro e
 unfold Po.listN at e
 split at e
 ·rename_i hx;cases e;exact h.num _ _ _ _ hx
 ·exact h.eachs _ _ _ e
theorem Roomy.grpN (h:Roomy P) (s:P.σ):Fit (grpN P s):=by
 intro e
 unfold Po.grpN at e
 split at e
 ·rename_i hx;cases e;exact h.listN _ _ _ _ hx
 ·split at e
  ·rename_i hx;cases e;exact h.listN _ _ _ _ hx
  ·cases e
theorem Roomy.grpsN (h:Roomy P):∀ (n:Nat) (s:P.σ),Fit (grpsN P n s)
 | 0,s=>by intro e;cases e
 | n+1,s=>by
  intro e
  rw [Po.grpsN] at e
  split at e
  ·rename_i hx;cases e;exact h.grpsN n s hx
  ·split at e
   ·rename_i hx;cases e;exact h.grpN _ hx
   ·cases e
theorem Roomy.listG (h:Roomy P) (most:Int) (s:P.σ):Fit (listG P most s):=by
 intro e
 unfold Po.listG at e
 split at e
 ·rename_i hx;cases e;exact h.num _ _ _ _ hx
 ·exact h.grpsN _ _ e
theorem fit_then {α β:Type} {r:Except Flt α} {k:α→Except Flt β} (h:Fit r) (hk:∀ x,Fit (k x)):Fit (andThen r k):=by
 intro e
 cases r with
 | error f=>rw [andThen_error] at e;cases e;exact h rfl
 | ok x=>exact hk x e
theorem Roomy.parts (h:Roomy P) (s:P.σ):Fit (parts P s):=by
 unfold Po.parts
 refine fit_then (h.eachs _ _ _) fun _=>fit_then (h.listG _ _) fun _=>fit_then (h.runs _ _ _) fun _=>fit_then (h.listN _ _ _ _) fun _=>fit_then (h.listN _ _ _ _) fun _=>fit_then (h.listN _ _ _ _) fun _=>fit_then (h.runs _ _ _) fun _=>fit_then (h.runs _ _ _) fun _=>fit_then (h.runs _ _ _) fun _=>?_
 intro e
 cases e
end
theorem num_code (bs:List Nat) (s size:Nat) (low high:Int):(Nm.num bs ⟨s,0,0⟩ size low high).2.code ≠ -1:=by
 unfold Nm.num
 (repeat' split) <;> simp
theorem flt_code (bs:List Nat) (s:Nat):(Nm.flt bs ⟨s,0,0⟩).2.code ≠ -1:=by
 unfold Nm.flt
 (repeat' split) <;> simp
theorem rroomy (bs:List Nat):Roomy (Rr.RP bs) where
 num:=fun s size most x e=>by
  simp only [Rr.RP] at e
  split at e
  ·cases e
  ·exact num_code bs s _ _ _ (congrArg Prod.fst (Except.error.inj e))
 flt:=fun s lv x e=>by
  simp only [Rr.RP] at e
  split at e
  ·split at e <;> cases e
  ·exact flt_code bs s (congrArg Prod.fst (Except.error.inj e))
 flg:=fun s x e=>by
  simp only [Rr.RP] at e
  split at e
  ·cases e
  ·exact num_code bs s _ _ _ (congrArg Prod.fst (Except.error.inj e))
theorem rfew {bs:List Nat} (hb:∀ x ∈ bs,x < 256):∀ most (s:Nat) y (s1:Nat),(Rr.RP bs).num s 1 most 0=.ok (y,s1)→∃ n:Nat,y=n∧n≤1000:=by
 intro most s y s1 h
 simp only [Rr.RP] at h
 split at h
 ·have h1:=congrArg Prod.fst (Except.ok.inj h)
  simp only at h1
  subst h1
  have hv:=Nx.val_lt bs s (Put.lim 1 7) hb
  have hl:Put.lim 1 7=1:=by decide
  rw [hl] at hv
  unfold Nm.num
  (repeat' split)
  ·exact ⟨0,rfl,by omega⟩
  ·exact ⟨0,rfl,by omega⟩
  ·exact ⟨0,rfl,by omega⟩
  ·refine ⟨_,rfl,?_⟩
   simp only [hl]
   omega
 ·cases h
end Po
namespace Po
open Go Go.RowKit Go.ChangeShapes
open Tab
def iv:Value→Int
 | .int _ x=>x
 | _=>0
def bv:Value→Bool
 | .bool x=>x
 | _=>false
def fv:Value→Nat
 | .float _ x=>x
 | _=>0
theorem kcons {l:List Value} {k:Nat} {ks:List Nat} (h:l.map kind=k :: ks):∃ v l',l=v :: l'∧kind v=k∧l'.map kind=ks:=by
 cases l with
 | nil=>cases h
 | cons v l' =>
  rw [List.map_cons] at h
  injection h with h1 h2
  exact ⟨v,l',rfl,h1,h2⟩
theorem knil {l:List Value} (h:l.map kind=[]):l=[]:=List.map_eq_nil_iff.1 h
theorem ints_iv:∀ {l:List Value} {n:Nat},l.map kind=List.replicate n 0→(l.map iv).map I=l
 | [],_,_=>rfl
 | v :: l,0,h=>by cases h
 | v :: l,n+1,h=>by
  rw [List.map_cons,List.replicate_succ] at h
  injection h with h1 h2
  obtain ⟨x,rfl⟩:=kind0 h1
  rw [List.map_cons,List.map_cons,ints_iv h2]
  rfl
def ofPh (l:List Value):Ph:=⟨bv (l.getD 0 (.bool false)),iv (l.getD 1 (.bool false)),iv (l.getD 2 (.bool false)),iv (l.getD 3 (.bool false)),iv (l.getD 4 (.bool false)),iv (l.getD 5 (.bool false)),iv (l.getD 6 (.bool false)),iv (l.getD 7 (.bool false)),iv (l.getD 8 (.bool false)),iv (l.getD 9 (.bool false)),iv (l.getD 10 (.bool false)),bv (l.getD 11 (.bool false)),bv (l.getD 12 (.bool false))⟩
theorem ofPh_cells {l:List Value} (h:l.map kind=zPh.map kind):(ofPh l).cells=l:=by
 rw [show zPh.map kind=[1,0,0,0,0,0,0,0,0,0,0,1,1] from rfl] at h
 obtain ⟨v0,l0,rfl,h0,g0⟩:=kcons h
 obtain ⟨x0,rfl⟩:=kind1 h0
 obtain ⟨v1,l1,rfl,h1,g1⟩:=kcons g0
 obtain ⟨x1,rfl⟩:=kind0 h1
 obtain ⟨v2,l2,rfl,h2,g2⟩:=kcons g1
 obtain ⟨x2,rfl⟩:=kind0 h2
 obtain ⟨v3,l3,rfl,h3,g3⟩:=kcons g2
 obtain ⟨x3,rfl⟩:=kind0 h3
 obtain ⟨v4,l4,rfl,h4,g4⟩:=kcons g3
 obtain ⟨x4,rfl⟩:=kind0 h4
 obtain ⟨v5,l5,rfl,h5,g5⟩:=kcons g4
 obtain ⟨x5,rfl⟩:=kind0 h5
 obtain ⟨v6,l6,rfl,h6,g6⟩:=kcons g5
 obtain ⟨x6,rfl⟩:=kind0 h6
 obtain ⟨v7,l7,rfl,h7,g7⟩:=kcons g6
 obtain ⟨x7,rfl⟩:=kind0 h7
 obtain ⟨v8,l8,rfl,h8,g8⟩:=kcons g7
 obtain ⟨x8,rfl⟩:=kind0 h8
 obtain ⟨v9,l9,rfl,h9,g9⟩:=kcons g8
 obtain ⟨x9,rfl⟩:=kind0 h9
 obtain ⟨v10,l10,rfl,h10,g10⟩:=kcons g9
 obtain ⟨x10,rfl⟩:=kind0 h10
 obtain ⟨v11,l11,rfl,h11,g11⟩:=kcons g10
 obtain ⟨x11,rfl⟩:=kind1 h11
 obtain ⟨v12,l12,rfl,h12,g12⟩:=kcons g11
 obtain ⟨x12,rfl⟩:=kind1 h12
 obtain rfl:=knil g12
 rfl
def ofDet (l:List Value):Det:=⟨iv (l.getD 0 (.bool false)),fv (l.getD 1 (.bool false)),fv (l.getD 2 (.bool false)),fv (l.getD 3 (.bool false)),fv (l.getD 4 (.bool false)),iv (l.getD 5 (.bool false)),iv (l.getD 6 (.bool false))⟩
theorem ofDet_cells {l:List Value} (h:l.map kind=zDt.map kind):(ofDet l).cells=l:=by
 rw [show zDt.map kind=[0,2,2,2,2,0,0] from rfl] at h
 obtain ⟨v0,l0,rfl,h0,g0⟩:=kcons h
 obtain ⟨x0,rfl⟩:=kind0 h0
 obtain ⟨v1,l1,rfl,h1,g1⟩:=kcons g0
 obtain ⟨x1,rfl⟩:=kind2 h1
 obtain ⟨v2,l2,rfl,h2,g2⟩:=kcons g1
 obtain ⟨x2,rfl⟩:=kind2 h2
 obtain ⟨v3,l3,rfl,h3,g3⟩:=kcons g2
 obtain ⟨x3,rfl⟩:=kind2 h3
 obtain ⟨v4,l4,rfl,h4,g4⟩:=kcons g3
 obtain ⟨x4,rfl⟩:=kind2 h4
 obtain ⟨v5,l5,rfl,h5,g5⟩:=kcons g4
 obtain ⟨x5,rfl⟩:=kind0 h5
 obtain ⟨v6,l6,rfl,h6,g6⟩:=kcons g5
 obtain ⟨x6,rfl⟩:=kind0 h6
 obtain rfl:=knil g6
 rfl
def ofRl (l:List Value):Rl:=⟨iv (l.getD 0 (.bool false)),iv (l.getD 1 (.bool false)),iv (l.getD 2 (.bool false)),iv (l.getD 3 (.bool false)),iv (l.getD 4 (.bool false)),iv (l.getD 5 (.bool false)),iv (l.getD 6 (.bool false)),iv (l.getD 7 (.bool false)),iv (l.getD 8 (.bool false)),iv (l.getD 9 (.bool false)),iv (l.getD 10 (.bool false))⟩
theorem ofRl_cells {l:List Value} (h:l.map kind=zRl.map kind):(ofRl l).cells=l:=by
 rw [show zRl.map kind=[0,0,0,0,0,0,0,0,0,0,0] from rfl] at h
 obtain ⟨v0,l0,rfl,h0,g0⟩:=kcons h
 obtain ⟨x0,rfl⟩:=kind0 h0
 obtain ⟨v1,l1,rfl,h1,g1⟩:=kcons g0
 obtain ⟨x1,rfl⟩:=kind0 h1
 obtain ⟨v2,l2,rfl,h2,g2⟩:=kcons g1
 obtain ⟨x2,rfl⟩:=kind0 h2
 obtain ⟨v3,l3,rfl,h3,g3⟩:=kcons g2
 obtain ⟨x3,rfl⟩:=kind0 h3
 obtain ⟨v4,l4,rfl,h4,g4⟩:=kcons g3
 obtain ⟨x4,rfl⟩:=kind0 h4
 obtain ⟨v5,l5,rfl,h5,g5⟩:=kcons g4
 obtain ⟨x5,rfl⟩:=kind0 h5
 obtain ⟨v6,l6,rfl,h6,g6⟩:=kcons g5
 obtain ⟨x6,rfl⟩:=kind0 h6
 obtain ⟨v7,l7,rfl,h7,g7⟩:=kcons g6
 obtain ⟨x7,rfl⟩:=kind0 h7
 obtain ⟨v8,l8,rfl,h8,g8⟩:=kcons g7
 obtain ⟨x8,rfl⟩:=kind0 h8
 obtain ⟨v9,l9,rfl,h9,g9⟩:=kcons g8
 obtain ⟨x9,rfl⟩:=kind0 h9
 obtain ⟨v10,l10,rfl,h10,g10⟩:=kcons g9
 obtain ⟨x10,rfl⟩:=kind0 h10
 obtain rfl:=knil g10
 rfl
def ofBs (l:List Value):Bs:=⟨iv (l.getD 0 (.bool false)),iv (l.getD 1 (.bool false))⟩
theorem ofBs_cells {l:List Value} (h:l.map kind=zBs.map kind):(ofBs l).cells=l:=by
 rw [show zBs.map kind=[0,0] from rfl] at h
 obtain ⟨v0,l0,rfl,h0,g0⟩:=kcons h
 obtain ⟨x0,rfl⟩:=kind0 h0
 obtain ⟨v1,l1,rfl,h1,g1⟩:=kcons g0
 obtain ⟨x1,rfl⟩:=kind0 h1
 obtain rfl:=knil g1
 rfl
theorem row_iv {r:List Value} (h:r.map kind=[0]):[I (iv (r.getD 0 (.bool false)))]=r:=by
 obtain ⟨v,l,rfl,h0,g0⟩:=kcons h
 obtain ⟨x,rfl⟩:=kind0 h0
 obtain rfl:=knil g0
 rfl
def ofRow (r:List (List Value)):List Int:=r.map fun c=>iv (c.getD 0 (.bool false))
theorem ofRow_cells {r:List (List Value)} (h:∀ c ∈ r,c.map kind=[0]):(ofRow r).map (fun n=>[I n])=r:=by
 unfold ofRow
 rw [List.map_map]
 conv=>rhs;rw [← List.map_id r]
 exact List.map_congr_left fun c hc=>row_iv (h c hc)
theorem map_of {β:Type} {f:List Value→β} {g:β→List Value} {l:List (List Value)} (h:∀ r ∈ l,g (f r)=r):(l.map f).map g=l:=by
 rw [List.map_map]
 conv=>rhs;rw [← List.map_id l]
 exact List.map_congr_left h
def tabOf (x:Raw):Tab :=
 ⟨x.ph.map ofPh,x.gs.map (fun g=>(ofRow g.1,ofRow g.2)),x.cf.map iv,x.ds.map ofDet,x.rs.map ofRl,x.bs.map ofBs,
  iv (x.tm.getD 0 (.bool false)),iv (x.tm.getD 1 (.bool false)),iv (x.tm.getD 2 (.bool false)),iv (x.tm.getD 3 (.bool false)),iv (x.tm.getD 4 (.bool false)),x.fl.map iv,iv (x.tk.getD 0 (.bool false)),iv (x.tk.getD 1 (.bool false))⟩
def rawOf (T:Tab):Raw:=⟨T.phases.map Ph.cells,T.groups.map (fun g=>(g.1.map (fun n=>[I n]),g.2.map (fun n=>[I n]))),T.conflict.map I,T.dets.map Det.cells,T.rails.map Rl.cells,T.buses.map Bs.cells,[I T.extend,I T.budget,I T.start,I T.revert,I T.least],T.flash.map I,[I T.window,I T.share]⟩
structure RawOk (x:Raw):Prop where
 pn:x.ph.length=8
 ph:∀ r ∈ x.ph,r.map kind=zPh.map kind
 gs:∀ g ∈ x.gs,(∀ r ∈ g.1,r.map kind=[0])∧∀ r ∈ g.2,r.map kind=[0]
 cf:x.cf.map kind=List.replicate 8 0
 ds:∀ r ∈ x.ds,r.map kind=zDt.map kind
 rs:∀ r ∈ x.rs,r.map kind=zRl.map kind
 bs:∀ r ∈ x.bs,r.map kind=zBs.map kind
 tm:x.tm.map kind=List.replicate 5 0
 fl:x.fl.map kind=List.replicate 8 0
 tk:x.tk.map kind=List.replicate 2 0
 gn:x.gs.length≤1000∧∀ g ∈ x.gs,g.1.length≤1000∧g.2.length≤1000
 ln:x.ds.length≤1000∧x.rs.length≤1000∧x.bs.length≤1000
theorem five {l:List Value} (h:l.map kind=List.replicate 5 0):l=[I (iv (l.getD 0 (.bool false))),I (iv (l.getD 1 (.bool false))),I (iv (l.getD 2 (.bool false))),I (iv (l.getD 3 (.bool false))),I (iv (l.getD 4 (.bool false)))]:=by
 rw [show List.replicate 5 0=[0,0,0,0,0] from rfl] at h
 obtain ⟨v0,l0,rfl,h0,g0⟩:=kcons h
 obtain ⟨x0,rfl⟩:=kind0 h0
 obtain ⟨v1,l1,rfl,h1,g1⟩:=kcons g0
 obtain ⟨x1,rfl⟩:=kind0 h1
 obtain ⟨v2,l2,rfl,h2,g2⟩:=kcons g1
 obtain ⟨x2,rfl⟩:=kind0 h2
 obtain ⟨v3,l3,rfl,h3,g3⟩:=kcons g2
 obtain ⟨x3,rfl⟩:=kind0 h3
 obtain ⟨v4,l4,rfl,h4,g4⟩:=kcons g3
 obtain ⟨x4,rfl⟩:=kind0 h4
 obtain rfl:=knil g4
 rfl
theorem two {l:List Value} (h:l.map kind=List.replicate 2 0):l=[I (iv (l.getD 0 (.bool false))),I (iv (l.getD 1 (.bool false)))]:=by
 rw [show List.replicate 2 0=[0,0] from rfl] at h
 obtain ⟨v0,l0,rfl,h0,g0⟩:=kcons h
 obtain ⟨x0,rfl⟩:=kind0 h0
 obtain ⟨v1,l1,rfl,h1,g1⟩:=kcons g0
 obtain ⟨x1,rfl⟩:=kind0 h1
 obtain rfl:=knil g1
 rfl
theorem raw_tab {x:Raw} (h:RawOk x):rawOf (tabOf x)=x:=by
 obtain ⟨ph,gs,cf,ds,rs,bs,tm,fl,tk⟩:=x
 unfold rawOf tabOf
 simp only
 have hg:(gs.map (fun g=>(ofRow g.1,ofRow g.2))).map (fun g=>(g.1.map (fun n=>[I n]),g.2.map (fun n=>[I n])))=gs:=by
  rw [List.map_map]
  conv=>rhs;rw [← List.map_id gs]
  refine List.map_congr_left fun g hg=>?_
  have:=h.gs g hg
  simp only [Function.comp,id]
  rw [ofRow_cells this.1,ofRow_cells this.2]
 rw [map_of (fun r hr=>ofPh_cells (h.ph r hr)),hg,ints_iv h.cf,map_of (fun r hr=>ofDet_cells (h.ds r hr)),map_of (fun r hr=>ofRl_cells (h.rs r hr)),map_of (fun r hr=>ofBs_cells (h.bs r hr)),← five h.tm,ints_iv h.fl,← two h.tk]
theorem flat_map {β:Type} {g:β→List Value} (l:List β):(l.map g).flatten=l.flatMap g:=(List.flatMap_def ..).symm
section
variable {W:World}
theorem slc_row {β:Type} {g:β→List Value} {n n0:Nat} {a:Option Addr} {xs:List (List Value)} {T:TypeId} (l:List β) (hx:l.map g=xs) (hg:∀ v,(g v).length=n) (h:NewRow n0 W a xs T) (hl:xs.length≤1000):∃ s:Sl,slc a xs=s.val l.length∧RowOf n g W s l:=by
 have hlen:l.length=xs.length:=by rw [← hx,List.length_map]
 refine ⟨⟨a,xs.length⟩,by unfold slc;rw [hlen],?_⟩
 by_cases he:xs=[]
 ·subst he
  obtain rfl:l=[]:=List.map_eq_nil_iff.1 hx
  cases a with
  | none=>exact .inl ⟨rfl,rfl,rfl⟩
  | some y=>exact .inr ⟨y,rfl,Nat.le_refl _,Nat.zero_le _,fun i v hv=>by simp at hv⟩
 ·obtain ⟨b,_,rfl,hb⟩:=h he
  subst hx
  rw [flat_map] at hb
  have:=Copy.row_of_block hg l hb (by rw [List.length_map] at hl;unfold maxLen;omega)
  rw [List.length_map]
  exact this
theorem got_tab {x:Raw} (h:RawOk x) {n0:Nat} {ga da ra ba:Option Addr} {zs:List Zr} (hz:zs.map (·.2)=x.gs) (hgb:x.gs ≠ []→∃ b,n0≤b∧ga=some ⟨b,0,none⟩∧W.heap[b]?=some (.cells (zs.flatMap zc).toArray 55 (0,0))) (hr:Rows n0 W zs)
  (hd:NewRow n0 W da x.ds 80) (hl:NewRow n0 W ra x.rs 84) (hb:NewRow n0 W ba x.bs 86) :
  ∃ H,bx x.ph.flatten (.slice ga x.gs.length x.gs.length) x.cf (slc da x.ds) (slc ra x.rs) (slc ba x.bs) x.tm x.fl x.tk=(tabOf x).cells H∧IsTab W H (tabOf x):=by
 have hraw:=raw_tab h
 have e1:(tabOf x).phases.map Ph.cells=x.ph:=congrArg Raw.ph hraw
 have e3:(tabOf x).conflict.map I=x.cf:=congrArg Raw.cf hraw
 have e4:(tabOf x).dets.map Det.cells=x.ds:=congrArg Raw.ds hraw
 have e5:(tabOf x).rails.map Rl.cells=x.rs:=congrArg Raw.rs hraw
 have e6:(tabOf x).buses.map Bs.cells=x.bs:=congrArg Raw.bs hraw
 have e7:[I (tabOf x).extend,I (tabOf x).budget,I (tabOf x).start,I (tabOf x).revert,I (tabOf x).least]=x.tm:=congrArg Raw.tm hraw
 have e8:(tabOf x).flash.map I=x.fl:=congrArg Raw.fl hraw
 have e9:[I (tabOf x).window,I (tabOf x).share]=x.tk:=congrArg Raw.tk hraw
 have egs:(tabOf x).groups=x.gs.map (fun g=>(ofRow g.1,ofRow g.2)):=rfl
 generalize tabOf x=T at *
 obtain ⟨sd,hsd,rd⟩:=slc_row (g:=Det.cells) (n:=7) T.dets e4 (fun _=>rfl) hd h.ln.1
 obtain ⟨sr,hsr,rr⟩:=slc_row (g:=Rl.cells) (n:=11) T.rails e5 (fun _=>rfl) hl h.ln.2.1
 obtain ⟨sb,hsb,rb⟩:=slc_row (g:=Bs.cells) (n:=2) T.buses e6 (fun _=>rfl) hb h.ln.2.2
 have hgn:T.groups.length=x.gs.length:=by rw [egs,List.length_map]
 have hgrp:∃ gs:List Gr,gs.map Gr.data=T.groups∧GroupsLie W ⟨ga,x.gs.length⟩ gs:=by
  have hall:∀ z ∈ zs,∃ g:Gr,g.cells=zc z∧g.data=(ofRow z.2.1,ofRow z.2.2)∧g.ok W:=by
   intro z hz2
   have hm:z.2 ∈ x.gs:=by rw [← hz];exact List.mem_map_of_mem hz2
   obtain ⟨r0,r1⟩:=hr z hz2
   have hk:=h.gs _ hm
   have hn:=h.gn.2 _ hm
   obtain ⟨s0,q0,w0⟩:=slc_row (g:=fun n=>[I n]) (n:=1) (ofRow z.2.1) (ofRow_cells hk.1) (fun _=>rfl) r0 hn.1
   obtain ⟨s1,q1,w1⟩:=slc_row (g:=fun n=>[I n]) (n:=1) (ofRow z.2.2) (ofRow_cells hk.2) (fun _=>rfl) r1 hn.2
   exact ⟨⟨ofRow z.2.1,ofRow z.2.2,s0,s1⟩,by unfold zc Gr.cells;rw [q0,q1],rfl,w0,w1⟩
  have hex:∀ zs':List Zr,(∀ z ∈ zs',∃ g:Gr,g.cells=zc z∧g.data=(ofRow z.2.1,ofRow z.2.2)∧g.ok W)→∃ gs:List Gr,gs.flatMap Gr.cells=zs'.flatMap zc∧gs.map Gr.data=zs'.map (fun z=>(ofRow z.2.1,ofRow z.2.2))∧gs.length=zs'.length∧∀ g ∈ gs,g.ok W:=by
   intro zs'
   induction zs' with
   | nil=>intro _;exact ⟨[],rfl,rfl,rfl,fun g hg=>by simp at hg⟩
   | cons z zs' ih =>
    intro ha
    obtain ⟨g,g1,g2,g3⟩:=ha z (by simp)
    obtain ⟨gs,i1,i2,i3,i4⟩:=ih (fun z' hz'=>ha z' (by simp [hz']))
    refine ⟨g :: gs,by rw [List.flatMap_cons,List.flatMap_cons,g1,i1],by rw [List.map_cons,List.map_cons,g2,i2],by rw [List.length_cons,List.length_cons,i3],fun g' hg'=>?_⟩
    rcases List.mem_cons.1 hg' with rfl | hg'
    ·exact g3
    ·exact i4 g' hg'
  obtain ⟨gs,f1,f2,f3,f4⟩:=hex zs hall
  have hzl:zs.length=x.gs.length:=by rw [← hz,List.length_map]
  refine ⟨gs,?_,?_,f4⟩
  ·rw [f2,egs,← hz,List.map_map]
   rfl
  ·by_cases he:x.gs=[]
   ·have hgl:gs=[]:=List.eq_nil_of_length_eq_zero (by rw [f3,hzl,he];rfl)
    subst hgl
    rw [he]
    cases ga with
    | none=>exact .inl ⟨rfl,rfl,rfl⟩
    | some y=>exact .inr ⟨y,rfl,Nat.le_refl _,Nat.zero_le _,fun i v hv=>by simp at hv⟩
   ·obtain ⟨b,_,rfl,hb⟩:=hgb he
    rw [← f1] at hb
    have:=Copy.row_of_block (enc:=Gr.cells) (n:=2) (fun _=>rfl) gs hb (by rw [f3,hzl];have:=h.gn.1;unfold maxLen;omega)
    rwa [f3,hzl] at this
 refine ⟨⟨⟨ga,x.gs.length⟩,sd,sr,sb⟩,?_,⟨?_,?_,?_,hgrp,rd,rr,rb⟩⟩
 ·unfold bx Tab.cells
  rw [← e1,flat_map,e3,← hsd,← hsr,← hsb,e8,← e7,← e9]
  show _=_++(Value.slice ga T.groups.length x.gs.length :: _)
  rw [hgn]
  rfl
 ·have:=congrArg List.length e1
  rw [List.length_map] at this
  rw [this,h.pn]
 ·have:=congrArg List.length e3
  rw [List.length_map] at this
  have h2:=congrArg List.length h.cf
  rw [List.length_map,List.length_replicate] at h2
  rw [this,h2]
 ·have:=congrArg List.length e8
  rw [List.length_map] at this
  have h2:=congrArg List.length h.fl
  rw [List.length_map,List.length_replicate] at h2
  rw [this,h2]
end
section
variable {P:PP}
theorem eachs_kind {st:List Sp}:∀ {xs:List (List Value)} {s:P.σ} {ys:List (List Value)} {s':P.σ},eachs P st xs s=.ok (ys,s')→ys.map (List.map kind)=xs.map (List.map kind)
 | [],s,ys,s',h=>by cases h;rfl
 | x :: xs,s,ys,s',h=>by
  rw [eachs] at h
  cases h1:runs P st x s with
  | error f=>rw [h1] at h;cases h
  | ok r =>
   rw [h1] at h
   simp only at h
   cases h2:eachs P st xs r.2 with
   | error f=>rw [h2] at h;cases h
   | ok q =>
    rw [h2] at h
    cases h
    rw [List.map_cons,List.map_cons,eachs_kind h2,runs_kind P st h1]
theorem reps_kind {st:List Sp} {z:List Value} {n:Nat} {s:P.σ} {ys:List (List Value)} {s':P.σ} (h:eachs P st (List.replicate n z) s=.ok (ys,s')):ys.length=n∧∀ r ∈ ys,r.map kind=z.map kind:=by
 have h1:=eachs_kind h
 rw [List.map_replicate] at h1
 have h2:=congrArg List.length h1
 rw [List.length_map,List.length_replicate] at h2
 refine ⟨h2,fun r hr=>?_⟩
 have h3:r.map kind ∈ ys.map (List.map kind):=List.mem_map_of_mem hr
 rw [h1] at h3
 exact List.eq_of_mem_replicate h3
theorem listN_kind (FEW:∀ most s y s1,P.num s 1 most 0=.ok (y,s1)→∃ n:Nat,y=n∧n≤1000) {most:Int} {st:List Sp} {z:List Value} {s:P.σ} {ys:List (List Value)} {s':P.σ} (h:listN P most st z s=.ok (ys,s')):ys.length≤1000∧∀ r ∈ ys,r.map kind=z.map kind:=by
 unfold listN at h
 cases h1:P.num s 1 most 0 with
 | error f=>rw [h1] at h;cases h
 | ok r =>
  rw [h1] at h
  obtain ⟨y,s1⟩:=r
  obtain ⟨n,hn,hn2⟩:=FEW _ _ _ _ h1
  have h2:=reps_kind h
  refine ⟨?_,h2.2⟩
  rw [h2.1,hn]
  exact hn2
theorem grpsN_kind (FEW:∀ most s y s1,P.num s 1 most 0=.ok (y,s1)→∃ n:Nat,y=n∧n≤1000):∀ {n:Nat} {s:P.σ} {ys:List (List (List Value) × List (List Value))} {s':P.σ},grpsN P n s=.ok (ys,s')→ys.length=n∧∀ g ∈ ys,((∀ r ∈ g.1,r.map kind=[0])∧∀ r ∈ g.2,r.map kind=[0])∧g.1.length≤1000∧g.2.length≤1000
 | 0,s,ys,s',h=>by cases h;exact ⟨rfl,fun g hg=>by simp at hg⟩
 | n+1,s,ys,s',h=>by
  rw [grpsN] at h
  cases h1:grpsN P n s with
  | error f=>rw [h1] at h;cases h
  | ok r =>
   rw [h1] at h
   simp only at h
   cases h2:grpN P r.2 with
   | error f=>rw [h2] at h;cases h
   | ok q =>
    rw [h2] at h
    cases h
    obtain ⟨i1,i2⟩:=grpsN_kind FEW h1
    refine ⟨by rw [List.length_append,i1];rfl,fun g hg=>?_⟩
    rcases List.mem_append.1 hg with hg | hg
    ·exact i2 g hg
    ·rw [List.mem_singleton] at hg
     subst hg
     unfold grpN at h2
     cases h3:rowN P r.2 with
     | error f=>rw [h3] at h2;cases h2
     | ok a =>
      rw [h3] at h2
      simp only at h2
      cases h4:rowN P a.2 with
      | error f=>rw [h4] at h2;cases h2
      | ok b =>
       rw [h4] at h2
       cases h2
       have k3:=listN_kind FEW h3
       have k4:=listN_kind FEW h4
       exact ⟨⟨k3.2,k4.2⟩,k3.1,k4.1⟩
theorem then_ok {α β:Type} {r:Except Flt α} {k:α→Except Flt β} {y:β} (h:andThen r k=.ok y):∃ x,r=.ok x∧k x=.ok y:=by
 cases r with
 | error f=>cases h
 | ok x=>exact ⟨x,rfl,h⟩
theorem parts_ok (FEW:∀ most s y s1,P.num s 1 most 0=.ok (y,s1)→∃ n:Nat,y=n∧n≤1000) {s:P.σ} {x:Raw} {s':P.σ} (h:parts P s=.ok (x,s')):RawOk x:=by
 unfold parts at h
 obtain ⟨x1,h1,h⟩:=then_ok h
 obtain ⟨x2,h2,h⟩:=then_ok h
 obtain ⟨x3,h3,h⟩:=then_ok h
 obtain ⟨x4,h4,h⟩:=then_ok h
 obtain ⟨x5,h5,h⟩:=then_ok h
 obtain ⟨x6,h6,h⟩:=then_ok h
 obtain ⟨x7,h7,h⟩:=then_ok h
 obtain ⟨x8,h8,h⟩:=then_ok h
 obtain ⟨x9,h9,h⟩:=then_ok h
 cases h
 have k1:=reps_kind h1
 have k3:=runs_kind P _ h3
 have k7:=runs_kind P _ h7
 have k8:=runs_kind P _ h8
 have k9:=runs_kind P _ h9
 rw [List.map_replicate] at k3 k7 k8 k9
 have k4:=listN_kind FEW h4
 have k5:=listN_kind FEW h5
 have k6:=listN_kind FEW h6
 have k2:x2.1.length≤1000∧∀ g ∈ x2.1,((∀ r ∈ g.1,r.map kind=[0])∧∀ r ∈ g.2,r.map kind=[0])∧g.1.length≤1000∧g.2.length≤1000:=by
  unfold listG at h2
  cases hn:P.num x1.2 1 4 0 with
  | error f=>rw [hn] at h2;cases h2
  | ok r =>
   rw [hn] at h2
   obtain ⟨y,s1⟩:=r
   obtain ⟨n,hy,hn2⟩:=FEW _ _ _ _ hn
   have:=grpsN_kind FEW h2
   refine ⟨?_,this.2⟩
   rw [this.1,hy]
   exact hn2
 exact ⟨k1.1,k1.2,fun g hg=>(k2.2 g hg).1,k3,k4.2,k5.2,k6.2,k7,k8,k9,⟨k2.1,fun g hg=>(k2.2 g hg).2⟩,k4.1,k5.1,k6.1⟩
end
end Po
namespace Bk
open Go.ChangeShapes Go.WideShapes Go.ChangeAt Go.RowKit
open B Put Nx
theorem be_low (k:Nat) (n:Int):(be (low k n):Int)=n % 2 ^ (8*k):=by
 induction k with
 | zero=>simp [low,be]
 | succ k ih =>
  have hp:(2:Int) ^ (8*(k+1))=2 ^ (8*k)*256:=by rw [show 8*(k+1)=8*k+8 by omega,Int.pow_add];rfl
  have hpos:(0:Int) < 2 ^ (8*k):=Int.pow_pos (by decide)
  rw [low,be_cons,low_len,hp,Int.natCast_add,Int.natCast_mul,ih,Int.toNat_of_nonneg (by omega),div_mod n _ hpos]
  have h1:=Int.emod_emod_of_dvd n (Int.dvd_mul_right (2 ^ (8*k)) 256)
  rw [← h1]
  have h2:=Int.emod_add_mul_ediv (n % (2 ^ (8*k)*256)) (2 ^ (8*k))
  have h3:((256 ^ k:Nat):Int)=2 ^ (8*k):=by
   rw [Int.natCast_pow,Int.pow_mul];rfl
  rw [h3,Int.mul_comm (n % (2 ^ (8*k)*256) / 2 ^ (8*k))]
  omega
end Bk
namespace By
open Go Go.RowKit
open Tab Po
open Rr (RP may)
open Put (low low_len low_lt low_mod lim)
open Nx (val be be_cons)
section
variable {bs:List Nat}
theorem rp_num (s:Nat) (size most x:Int) (hm:0≤most):(RP bs).num s size most x=if bs.length < s+lim size 7 then .error (2,(bs.length:Int)) else if most < (val bs s (lim size 7):Int) then .error (4,(s:Int)) else .ok ((val bs s (lim size 7):Int),s+lim size 7):=by
 simp only [RP,Nm.num]
 by_cases h1:bs.length < s+lim size 7
 ·simp [h1]
 ·by_cases h2:most < (val bs s (lim size 7):Int)
  ·simp [h1,h2]
  ·have h3:¬ ((val bs s (lim size 7):Int) < 0∨most < (val bs s (lim size 7):Int)):=by omega
   have h4:¬ (val bs s (lim size 7):Int) < 0:=by omega
   simp [h1,h2,h4]
theorem rp_flt (s:Nat) (lv:Bool) (x:Nat):(RP bs).flt s lv x=if bs.length < s+8 then .error (2,(bs.length:Int)) else if may lv (val bs s 8)=true then .ok (val bs s 8,s+8) else .error (4,(s:Int)):=by
 simp only [RP,Nm.flt]
 by_cases h1:bs.length < s+8
 ·simp [h1]
 ·simp [h1]
theorem rp_flg (s:Nat) (x:Bool):(RP bs).flg s x=if bs.length < s+1 then .error (2,(bs.length:Int)) else if 1 < val bs s 1 then .error (4,(s:Int)) else .ok (decide (val bs s 1=1),s+1):=by
 simp only [RP,Nm.num]
 by_cases h1:bs.length < s+1
 ·simp [h1]
 ·by_cases h2:1 < val bs s 1
  ·have h3:(1:Int) < (val bs s 1:Int):=by omega
   simp [h1,h2,h3]
  ·have h3:¬ (1:Int) < (val bs s 1:Int):=by omega
   have h4:¬ ((val bs s 1:Int) < 0∨(1:Int) < (val bs s 1:Int)):=by omega
   simp only [h1,h2,h4,if_false]
   simp
   omega
end
def jS:Sp→Nat
 | .num _ _ j=>j
 | .flt _ j=>j
 | .flg j=>j
def encS:Sp→Value→List Nat
 | .num size _ _,.int _ x=>low (lim size 7) x
 | .flt _ _,.float _ x=>low 8 (x:Int)
 | .flg _,.bool b=>[if b=true then 1 else 0]
 | _,_=>[]
def goodS:Sp→Value→Bool
 | .num _ most _,.int .i64 x=>decide (0≤x) && decide (x≤most)
 | .flt lv _,.float .f64 x=>may lv x && decide (x < 18446744073709551616)
 | .flg _,.bool _=>true
 | _,_=>false
def kS:Sp→Nat
 | .num _ _ _=>0
 | .flt _ _=>2
 | .flg _=>1
def fitS:Sp→Bool
 | .num size most _=>decide (0≤most) && decide (most < 2 ^ (8*lim size 7))
 | _=>true
theorem good_kind {c:Sp} {v:Value} (h:goodS c v=true):kind v=kS c:=by
 cases c with
 | num size most j =>
  cases v with
  | int k x=>cases k <;> first | rfl | (simp [goodS] at h;done)
  | _=>simp [goodS] at h
 | flt lv j =>
  cases v with
  | float k x=>cases k <;> first | rfl | (simp [goodS] at h;done)
  | _=>simp [goodS] at h
 | flg j =>
  cases v with
  | bool x=>rfl
  | _=>simp [goodS] at h
theorem be_mid (k:Nat) (x:Int) (h0:0≤x) (h1:x < 2 ^ (8*k)):(be (low k x):Int)=x:=by
 rw [Bk.be_low];exact Int.emod_eq_of_lt h0 h1
theorem val_of {bs m:List Nat} {s k:Nat} {x:Int} (h:bs.drop s=low k x++m) (h0:0≤x) (h1:x < 2 ^ (8*k)):(val bs s k:Int)=x:=by
 unfold val
 rw [h,List.take_left' (low_len k x)]
 exact be_mid k x h0 h1
theorem low_be:∀ (l:List Nat),(∀ x ∈ l,x < 256)→low l.length (be l:Int)=l
 | [],_=>rfl
 | x :: l,h=>by
  have hx:x < 256:=h x (by simp)
  have hl:∀ y ∈ l,y < 256:=fun y hy=>h y (by simp [hy])
  have hp:(2:Int) ^ (8*l.length)=((256 ^ l.length:Nat):Int):=by rw [Int.natCast_pow,Int.pow_mul];rfl
  have hb:be l < 256 ^ l.length:=by
   have:=Bk.be_low l.length (be l:Int)
   rw [low_be l hl] at this
   have hpos:(0:Int) < 2 ^ (8*l.length):=Int.pow_pos (by decide)
   have h2:=Int.emod_lt_of_pos (be l:Int) hpos
   rw [← this,hp] at h2
   omega
  rw [List.length_cons,low,be_cons,hp]
  have hpos:0 < 256 ^ l.length:=Nat.pow_pos (by decide)
  have e1:((x*256 ^ l.length+be l:Nat):Int) / ((256 ^ l.length:Nat):Int)=x:=by
   rw [← Int.natCast_ediv,Nat.mul_comm,Nat.mul_add_div hpos,Nat.div_eq_of_lt hb,Nat.add_zero]
  rw [e1]
  have e2:((x:Int) % 256).toNat=x:=by omega
  rw [e2]
  congr 1
  have e3:low l.length ((x*256 ^ l.length+be l:Nat):Int)=low l.length (be l:Int):=by
   refine low_mod _ _ _ ?_
   rw [hp,Int.natCast_add,Int.natCast_mul,Int.add_comm,Int.add_mul_emod_self_right]
  rw [e3,low_be l hl]
theorem val_low {bs:List Nat} (hb:∀ x ∈ bs,x < 256) {s k:Nat} (h:s+k≤bs.length):bs.drop s=low k (val bs s k:Int)++bs.drop (s+k):=by
 have hl:((bs.drop s).take k).length=k:=by rw [List.length_take,List.length_drop];omega
 have h1:=low_be ((bs.drop s).take k) (fun x hx=>hb x (List.mem_of_mem_drop (List.mem_of_mem_take hx)))
 rw [hl] at h1
 unfold val
 rw [h1,← List.drop_drop,List.take_append_drop]
section
variable {bs:List Nat}
theorem step_fwd {c:Sp} {l:List Value} {s:Nat} {u v:Value} {m:List Nat} (hu:l[jS c]?=some u) (hk:kind u=kS c) (hd:bs.drop s=encS c v++m) (hs:s≤bs.length) (hg:goodS c v=true) (hf:fitS c=true) :
  Sp.run (RP bs) l s c=.ok (l.set (jS c) v,s+(encS c v).length):=by
 have hlen:s+(encS c v).length+m.length=bs.length:=by
  have:=congrArg List.length hd
  rw [List.length_drop,List.length_append] at this
  omega
 cases c with
 | num size most j =>
  obtain ⟨x,rfl⟩:=kind0 hk
  obtain ⟨y,rfl⟩:=kind0 (good_kind hg)
  simp only [goodS,Bool.and_eq_true,decide_eq_true_eq] at hg
  simp only [fitS,Bool.and_eq_true,decide_eq_true_eq] at hf
  simp only [encS] at hd hlen ⊢
  rw [low_len] at hlen ⊢
  have hv:=val_of hd hg.1 (by omega)
  simp only [Sp.run]
  rw [show l[j]?=some (I x) from hu]
  dsimp only
  rw [rp_num s size most x (by omega),if_neg (by omega),if_neg (by omega),hv]
  rfl
 | flt lv j =>
  obtain ⟨x,rfl⟩:=kind2 hk
  obtain ⟨y,rfl⟩:=kind2 (good_kind hg)
  simp only [goodS,Bool.and_eq_true,decide_eq_true_eq] at hg
  simp only [encS] at hd hlen ⊢
  rw [low_len] at hlen ⊢
  have hv:=val_of hd (by omega) (by omega)
  have hv2:val bs s 8=y:=by omega
  simp only [Sp.run]
  rw [show l[j]?=some (.float .f64 x) from hu]
  dsimp only
  rw [rp_flt,if_neg (by omega),hv2,if_pos hg.1]
  rfl
 | flg j =>
  obtain ⟨x,rfl⟩:=kind1 hk
  obtain ⟨y,rfl⟩:=kind1 (good_kind hg)
  simp only [encS] at hd hlen ⊢
  simp only [List.length_cons,List.length_nil] at hlen ⊢
  have hv:val bs s 1=if y=true then 1 else 0:=by
   unfold val
   rw [hd]
   cases y <;> rfl
  simp only [Sp.run]
  rw [show l[j]?=some (.bool x) from hu]
  dsimp only
  rw [rp_flg,if_neg (by omega),if_neg (by rw [hv];split <;> omega),hv]
  cases y <;> rfl
theorem step_bwd (hb:∀ x ∈ bs,x < 256) {c:Sp} {l l':List Value} {s s':Nat} {u:Value} (hu:l[jS c]?=some u) (hk:kind u=kS c) (hf:fitS c=true) (h:Sp.run (RP bs) l s c=.ok (l',s')) :
  ∃ v,l'=l.set (jS c) v∧goodS c v=true∧s'=s+(encS c v).length∧s'≤bs.length∧bs.drop s=encS c v++bs.drop s':=by
 cases c with
 | num size most j =>
  obtain ⟨x,rfl⟩:=kind0 hk
  simp only [fitS,Bool.and_eq_true,decide_eq_true_eq] at hf
  simp only [Sp.run] at h
  rw [show l[j]?=some (I x) from hu] at h
  dsimp only at h
  rw [rp_num s size most x (by omega)] at h
  by_cases h1:bs.length < s+lim size 7
  ·rw [if_pos h1] at h;cases h
  ·rw [if_neg h1] at h
   by_cases h2:most < (val bs s (lim size 7):Int)
   ·rw [if_pos h2] at h;cases h
   ·rw [if_neg h2] at h
    cases h
    refine ⟨I (val bs s (lim size 7)),rfl,by simp [goodS];omega,by simp [encS,low_len],by omega,?_⟩
    simp only [encS]
    exact val_low hb (by omega)
 | flt lv j =>
  obtain ⟨x,rfl⟩:=kind2 hk
  simp only [Sp.run] at h
  rw [show l[j]?=some (.float .f64 x) from hu] at h
  dsimp only at h
  rw [rp_flt] at h
  by_cases h1:bs.length < s+8
  ·rw [if_pos h1] at h;cases h
  ·rw [if_neg h1] at h
   by_cases h2:may lv (val bs s 8)=true
   ·rw [if_pos h2] at h
    cases h
    have hlt:=Nx.val_lt bs s 8 hb
    refine ⟨.float .f64 (val bs s 8),rfl,?_,by simp [encS,low_len],by omega,?_⟩
    ·simp only [goodS,h2,Bool.true_and,decide_eq_true_eq]
     have:(256:Nat) ^ 8=18446744073709551616:=by decide
     omega
    ·simp only [encS]
     exact val_low hb (by omega)
   ·rw [if_neg h2] at h;cases h
 | flg j =>
  obtain ⟨x,rfl⟩:=kind1 hk
  simp only [Sp.run] at h
  rw [show l[j]?=some (.bool x) from hu] at h
  dsimp only at h
  rw [rp_flg] at h
  by_cases h1:bs.length < s+1
  ·rw [if_pos h1] at h;cases h
  ·rw [if_neg h1] at h
   by_cases h2:1 < val bs s 1
   ·rw [if_pos h2] at h;cases h
   ·rw [if_neg h2] at h
    cases h
    refine ⟨.bool (decide (val bs s 1=1)),rfl,rfl,by simp [encS],by omega,?_⟩
    have h3:=val_low hb (s:=s) (k:=1) (by omega)
    rw [h3]
    congr 1
    generalize val bs s 1=y at h2
    rcases (show y=0∨y=1 by omega) with rfl | rfl <;> simp [encS,low]
end
end By
namespace By
open Go Go.RowKit
open Tab Po
open Rr (RP may)
open Put (low low_len low_lt low_mod lim)
open Nx (val be be_cons)
abbrev d0:Value:=.bool false
def encs (st:List Sp) (L:List Value):List Nat:=st.flatMap fun c=>encS c (L.getD (jS c) d0)
def sets (L:List Value):List Sp→List Value→List Value
 | [],l=>l
 | c :: st,l=>sets L st (l.set (jS c) (L.getD (jS c) d0))
def goods (st:List Sp) (L:List Value):Bool:=st.all fun c=>match L[jS c]? with
 | some v=>goodS c v
 | none=>false
def fits (st:List Sp):Bool:=st.all fitS
theorem goods_cons {c:Sp} {st:List Sp} {L:List Value} (h:goods (c :: st) L=true):(∃ v,L[jS c]?=some v∧goodS c v=true)∧goods st L=true:=by
 unfold goods at h ⊢
 rw [List.all_cons,Bool.and_eq_true] at h
 refine ⟨?_,h.2⟩
 have h1:=h.1
 cases hv:L[jS c]? with
 | none=>rw [hv] at h1;cases h1
 | some v=>rw [hv] at h1;exact ⟨v,rfl,h1⟩
theorem fits_cons {c:Sp} {st:List Sp} (h:fits (c :: st)=true):fitS c=true∧fits st=true:=by
 unfold fits at h ⊢
 rwa [List.all_cons,Bool.and_eq_true] at h
theorem drop_after {bs a m:List Nat} {s:Nat} (h:bs.drop s=a++m):bs.drop (s+a.length)=m:=by rw [← List.drop_drop,h,List.drop_left' rfl]
theorem le_after {bs a m:List Nat} {s:Nat} (h:bs.drop s=a++m) (hs:s≤bs.length):s+a.length≤bs.length:=by
 have:=congrArg List.length h
 rw [List.length_drop,List.length_append] at this
 omega
section
variable {P:PP}
theorem runs_nil_inv {l L:List Value} {s s':P.σ} (h:runs P [] l s=.ok (L,s')):L=l∧s'=s:=by cases h;exact ⟨rfl,rfl⟩
theorem runs_cons_ok {c:Sp} {st:List Sp} {l l1:List Value} {s s1:P.σ} {r:List Value × P.σ} (h1:Sp.run P l s c=.ok (l1,s1)) (h2:runs P st l1 s1=.ok r):runs P (c :: st) l s=.ok r:=by
 rw [runs,h1]
 exact h2
theorem runs_cons_inv {c:Sp} {st:List Sp} {l:List Value} {s:P.σ} {r:List Value × P.σ} (h:runs P (c :: st) l s=.ok r):∃ l1 s1,Sp.run P l s c=.ok (l1,s1)∧runs P st l1 s1=.ok r:=by
 rw [runs] at h
 cases h1:Sp.run P l s c with
 | error f=>rw [h1] at h;cases h
 | ok q=>rw [h1] at h;exact ⟨q.1,q.2,rfl,h⟩
theorem eachs_cons_ok {st:List Sp} {x x':List Value} {xs ys:List (List Value)} {s s1 s2:P.σ} (h1:runs P st x s=.ok (x',s1)) (h2:eachs P st xs s1=.ok (ys,s2)):eachs P st (x :: xs) s=.ok (x' :: ys,s2):=by
 rw [eachs,h1]
 simp only [h2]
theorem eachs_cons_inv {st:List Sp} {x:List Value} {xs ys:List (List Value)} {s s2:P.σ} (h:eachs P st (x :: xs) s=.ok (ys,s2)):∃ x' s1 ys1,runs P st x s=.ok (x',s1)∧eachs P st xs s1=.ok (ys1,s2)∧ys=x' :: ys1:=by
 rw [eachs] at h
 cases h1:runs P st x s with
 | error f=>rw [h1] at h;cases h
 | ok q =>
  rw [h1] at h
  simp only at h
  cases h2:eachs P st xs q.2 with
  | error f=>rw [h2] at h;cases h
  | ok r=>rw [h2] at h;cases h;exact ⟨q.1,q.2,r.1,rfl,h2,rfl⟩
theorem listN_ok {most:Int} {st:List Sp} {z:List Value} {s s1:P.σ} {n:Nat} {r:List (List Value) × P.σ} (h1:P.num s 1 most 0=.ok ((n:Int),s1)) (h2:eachs P st (List.replicate n z) s1=.ok r):listN P most st z s=.ok r:=by
 unfold listN
 rw [h1]
 exact h2
theorem listN_inv {most:Int} {st:List Sp} {z:List Value} {s:P.σ} {r:List (List Value) × P.σ} (h:listN P most st z s=.ok r):∃ y s1,P.num s 1 most 0=.ok (y,s1)∧eachs P st (List.replicate y.toNat z) s1=.ok r:=by
 unfold listN at h
 cases h1:P.num s 1 most 0 with
 | error f=>rw [h1] at h;cases h
 | ok q=>rw [h1] at h;exact ⟨q.1,q.2,rfl,h⟩
theorem grpN_ok {s s1 s2:P.σ} {r0 r1:List (List Value)} (h1:rowN P s=.ok (r0,s1)) (h2:rowN P s1=.ok (r1,s2)):grpN P s=.ok ((r0,r1),s2):=by
 unfold grpN
 rw [h1]
 simp only [h2]
theorem grpN_inv {s s2:P.σ} {g:List (List Value) × List (List Value)} (h:grpN P s=.ok (g,s2)):∃ s1,rowN P s=.ok (g.1,s1)∧rowN P s1=.ok (g.2,s2):=by
 unfold grpN at h
 cases h1:rowN P s with
 | error f=>rw [h1] at h;cases h
 | ok a =>
  rw [h1] at h
  simp only at h
  cases h2:rowN P a.2 with
  | error f=>rw [h2] at h;cases h
  | ok b=>rw [h2] at h;cases h;exact ⟨a.2,rfl,h2⟩
theorem grps_succ_ok {n:Nat} {s s1 s2:P.σ} {gs:List (List (List Value) × List (List Value))} {g:List (List Value) × List (List Value)} (h1:grpsN P n s=.ok (gs,s1)) (h2:grpN P s1=.ok (g,s2)):grpsN P (n+1) s=.ok (gs++[g],s2):=by
 rw [grpsN,h1]
 simp only [h2]
theorem grps_succ_inv {n:Nat} {s s2:P.σ} {gs:List (List (List Value) × List (List Value))} (h:grpsN P (n+1) s=.ok (gs,s2)):∃ g1 s1 g,grpsN P n s=.ok (g1,s1)∧grpN P s1=.ok (g,s2)∧gs=g1++[g]:=by
 rw [grpsN] at h
 cases h1:grpsN P n s with
 | error f=>rw [h1] at h;cases h
 | ok a =>
  rw [h1] at h
  simp only at h
  cases h2:grpN P a.2 with
  | error f=>rw [h2] at h;cases h
  | ok b=>rw [h2] at h;cases h;exact ⟨a.1,a.2,b.1,rfl,h2,rfl⟩
theorem listG_ok {most:Int} {s s1:P.σ} {n:Nat} {r:List (List (List Value) × List (List Value)) × P.σ} (h1:P.num s 1 most 0=.ok ((n:Int),s1)) (h2:grpsN P n s1=.ok r):listG P most s=.ok r:=by
 unfold listG
 rw [h1]
 exact h2
theorem listG_inv {most:Int} {s:P.σ} {r:List (List (List Value) × List (List Value)) × P.σ} (h:listG P most s=.ok r):∃ y s1,P.num s 1 most 0=.ok (y,s1)∧grpsN P y.toNat s1=.ok r:=by
 unfold listG at h
 cases h1:P.num s 1 most 0 with
 | error f=>rw [h1] at h;cases h
 | ok q=>rw [h1] at h;exact ⟨q.1,q.2,rfl,h⟩
end
section
variable {bs:List Nat}
theorem runs_fwd {L:List Value}:∀ (st:List Sp) {l:List Value} {s s':Nat} {m:List Nat},l.map kind=L.map kind→goods st L=true→fits st=true→bs.drop s=encs st L++m→s≤bs.length→s'=s+(encs st L).length →
  runs (RP bs) st l s=.ok (sets L st l,s')
 | [],l,s,s',m,hk,hg,hf,hd,hs,e=>by subst e;rfl
 | c :: st,l,s,s',m,hk,hg,hf,hd,hs,e=>by
  obtain ⟨⟨v,hv,hgv⟩,hg2⟩:=goods_cons hg
  obtain ⟨hf1,hf2⟩:=fits_cons hf
  have hvd:L.getD (jS c) d0=v:=by rw [List.getD_eq_getElem?_getD,hv];rfl
  have he:encs (c :: st) L=encS c v++encs st L:=by unfold encs;rw [List.flatMap_cons,hvd]
  rw [he,List.append_assoc] at hd
  have hl:∃ u,l[jS c]?=some u∧kind u=kind v:=by
   have h1:(l.map kind)[jS c]?=(L.map kind)[jS c]?:=by rw [hk]
   rw [List.getElem?_map,List.getElem?_map,hv] at h1
   obtain ⟨u,h2,h3⟩:=Option.map_eq_some_iff.1 h1
   exact ⟨u,h2,h3⟩
  obtain ⟨u,hu,hku⟩:=hl
  have h1:=step_fwd (l:=l) hu (by rw [hku];exact good_kind hgv) hd hs hgv hf1
  have hk2:(l.set (jS c) v).map kind=L.map kind:=by rw [map_set hu hku.symm,hk]
  have hs2:sets L (c :: st) l=sets L st (l.set (jS c) v):=by rw [sets,hvd]
  rw [hs2]
  exact runs_cons_ok h1 (runs_fwd st hk2 hg2 hf2 (drop_after hd) (le_after hd hs) (by rw [e,he,List.length_append];omega))
theorem runs_bwd (hb:∀ x ∈ bs,x < 256):∀ (st:List Sp) {l L:List Value} {s s':Nat},(∀ c ∈ st,∃ u,l[jS c]?=some u∧kind u=kS c)→(st.map jS).Nodup→fits st=true→s≤bs.length→runs (RP bs) st l s=.ok (L,s') →
  goods st L=true∧s'=s+(encs st L).length∧s'≤bs.length∧bs.drop s=encs st L++bs.drop s'∧∀ i,i ∉ st.map jS→L[i]?=l[i]?
 | [],l,L,s,s',hk,hn,hf,hs,h=>by
  obtain ⟨rfl,h2⟩:=runs_nil_inv h
  have h2:s'=s:=h2
  subst h2
  exact ⟨rfl,rfl,hs,rfl,fun _ _=>rfl⟩
 | c :: st,l,L,s,s',hk,hn,hf,hs,h=>by
  obtain ⟨hf1,hf2⟩:=fits_cons hf
  rw [List.map_cons,List.nodup_cons] at hn
  obtain ⟨u,hu,hku⟩:=hk c (by simp)
  obtain ⟨l1,s1,h1,h2⟩:=runs_cons_inv h
  obtain ⟨v,rfl,hgv,hs0,hs1,hd1⟩:=step_bwd hb hu hku hf1 h1
  have hk2:∀ c' ∈ st,∃ u,(l.set (jS c) v)[jS c']?=some u∧kind u=kS c':=fun c' hc'=>by
   obtain ⟨u',h2,h3⟩:=hk c' (by simp [hc'])
   refine ⟨u',?_,h3⟩
   rw [List.getElem?_set,if_neg (fun e=>hn.1 (by rw [e];exact List.mem_map_of_mem hc'))]
   exact h2
  obtain ⟨i1,i2,i3,i4,i5⟩:=runs_bwd hb st hk2 hn.2 hf2 hs1 h2
  have hLv:L[jS c]?=some v:=by
   rw [i5 _ hn.1,List.getElem?_set,if_pos rfl,if_pos (List.getElem?_eq_some_iff.1 hu).1]
  have hvd:L.getD (jS c) d0=v:=by rw [List.getD_eq_getElem?_getD,hLv];rfl
  have he:encs (c :: st) L=encS c v++encs st L:=by unfold encs;rw [List.flatMap_cons,hvd]
  refine ⟨?_,?_,i3,?_,fun i hi=>?_⟩
  ·unfold goods at i1 ⊢
   rw [List.all_cons,i1,hLv,Bool.and_true]
   exact hgv
  ·rw [he,List.length_append,i2,hs0];omega
  ·rw [he,List.append_assoc,← i4];exact hd1
  ·rw [List.map_cons,List.mem_cons,not_or] at hi
   rw [i5 i hi.2,List.getElem?_set,if_neg (fun e=>hi.1 e.symm)]
structure St (st:List Sp) (z:List Value):Prop where
 fit:fits st=true
 nd:(st.map jS).Nodup
 kd:∀ c ∈ st,∃ u,z[jS c]?=some u∧kind u=kS c
 all:∀ L,L.map kind=z.map kind→sets L st z=L
theorem eachs_fwd {st:List Sp} {z:List Value} (H:St st z):∀ (Ls:List (List Value)) {s s':Nat} {m:List Nat},(∀ L ∈ Ls,L.map kind=z.map kind∧goods st L=true)→bs.drop s=Ls.flatMap (encs st)++m→s≤bs.length→s'=s+(Ls.flatMap (encs st)).length →
  eachs (RP bs) st (List.replicate Ls.length z) s=.ok (Ls,s')
 | [],s,s',m,hk,hd,hs,e=>by subst e;rfl
 | L :: Ls,s,s',m,hk,hd,hs,e=>by
  rw [List.flatMap_cons,List.append_assoc] at hd
  obtain ⟨k1,k2⟩:=hk L (by simp)
  have h1:=runs_fwd st (l:=z) k1.symm k2 H.fit hd hs rfl
  rw [H.all L k1] at h1
  exact eachs_cons_ok h1 (eachs_fwd H Ls (fun L' h'=>hk L' (by simp [h'])) (drop_after hd) (le_after hd hs) (by rw [e,List.flatMap_cons,List.length_append];omega))
theorem eachs_bwd (hb:∀ x ∈ bs,x < 256) {st:List Sp} {z:List Value} (H:St st z):∀ (n:Nat) {ys:List (List Value)} {s s':Nat},s≤bs.length→eachs (RP bs) st (List.replicate n z) s=.ok (ys,s') →
  (∀ y ∈ ys,goods st y=true)∧s'=s+(ys.flatMap (encs st)).length∧s'≤bs.length∧bs.drop s=ys.flatMap (encs st)++bs.drop s'
 | 0,ys,s,s',hs,h=>by
  have h2:(Except.ok ([],s):Except Flt (List (List Value) × Nat))=.ok (ys,s'):=h
  cases h2
  exact ⟨fun y hy=>by simp at hy,rfl,hs,rfl⟩
 | n+1,ys,s,s',hs,h=>by
  obtain ⟨L,s1,ys1,h1,h2,rfl⟩:=eachs_cons_inv (x:=z) (xs:=List.replicate n z) h
  obtain ⟨a1,a2,a3,a4,_⟩:=runs_bwd hb st H.kd H.nd H.fit hs h1
  obtain ⟨b1,b2,b3,b4⟩:=eachs_bwd hb H n a3 h2
  refine ⟨fun y hy=>?_,?_,b3,?_⟩
  ·rcases List.mem_cons.1 hy with rfl | hy
   ·exact a1
   ·exact b1 y hy
  ·rw [List.flatMap_cons,List.length_append,b2,a2];omega
  ·rw [List.flatMap_cons,List.append_assoc,← b4];exact a4
def listE (f:List Value→List Nat) (xs:List (List Value)):List Nat:=low 1 (xs.length:Int)++xs.flatMap f
theorem lim1:lim 1 7=1:=by decide
theorem cnt_fwd {s n:Nat} {most:Int} {m:List Nat} (hd:bs.drop s=low 1 (n:Int)++m) (hn:(n:Int)≤most) (hm:most < 256) (hs:s≤bs.length):(RP bs).num s 1 most 0=.ok ((n:Int),s+1):=by
 have h1:=le_after hd hs
 rw [low_len] at h1
 have hv:=val_of (k:=1) hd (by omega) (by show (n:Int) < 256;omega)
 rw [rp_num s 1 most 0 (by omega),lim1,if_neg (by omega),if_neg (by omega),hv]
theorem cnt_bwd (hb:∀ x ∈ bs,x < 256) {s s1:Nat} {most y:Int} (hm:0≤most) (h:(RP bs).num s 1 most 0=.ok (y,s1)):∃ n:Nat,y=n∧(n:Int)≤most∧s1=s+1∧s1≤bs.length∧bs.drop s=low 1 (n:Int)++bs.drop s1:=by
 rw [rp_num s 1 most 0 hm,lim1] at h
 by_cases h1:bs.length < s+1
 ·rw [if_pos h1] at h;cases h
 ·rw [if_neg h1] at h
  by_cases h2:most < (val bs s 1:Int)
  ·rw [if_pos h2] at h;cases h
  ·rw [if_neg h2] at h
   cases h
   exact ⟨_,rfl,by omega,rfl,by omega,val_low hb (by omega)⟩
theorem list_fwd {st:List Sp} {z:List Value} (H:St st z) {Ls:List (List Value)} {most:Int} {s s':Nat} {m:List Nat} (hk:∀ L ∈ Ls,L.map kind=z.map kind∧goods st L=true) (hn:(Ls.length:Int)≤most) (hm:most < 256) (hd:bs.drop s=listE (encs st) Ls++m) (hs:s≤bs.length) (e:s'=s+(listE (encs st) Ls).length) :
  listN (RP bs) most st z s=.ok (Ls,s'):=by
 unfold listE at hd e
 rw [List.append_assoc] at hd
 have h1:=cnt_fwd hd hn hm hs
 have h2:=le_after hd hs
 have h3:=drop_after hd
 rw [List.length_append] at e
 rw [low_len] at h2 h3 e
 exact listN_ok h1 (eachs_fwd H Ls hk h3 h2 (by omega))
theorem list_bwd (hb:∀ x ∈ bs,x < 256) {st:List Sp} {z:List Value} (H:St st z) {ys:List (List Value)} {most:Int} (hm:0≤most) {s s':Nat} (hs:s≤bs.length) (h:listN (RP bs) most st z s=.ok (ys,s')) :
  (ys.length:Int)≤most∧(∀ y ∈ ys,goods st y=true)∧s'=s+(listE (encs st) ys).length∧s'≤bs.length∧bs.drop s=listE (encs st) ys++bs.drop s':=by
 obtain ⟨y,s1,h1,h2⟩:=listN_inv h
 obtain ⟨n,rfl,hn,hs0,hs1,hd⟩:=cnt_bwd hb hm h1
 rw [Int.toNat_natCast] at h2
 have hl:=(reps_kind h2).1
 obtain ⟨b1,b2,b3,b4⟩:=eachs_bwd hb H n hs1 h2
 refine ⟨by rw [hl];exact hn,b1,?_,b3,?_⟩
 ·unfold listE;rw [List.length_append,low_len,b2,hs0];omega
 ·unfold listE;rw [List.append_assoc,← b4,hl];exact hd
abbrev stI:List Sp:=[.num 1 7 0]
theorem stI_ok:St stI [I 0] where
 fit:=by decide
 nd:=by decide
 kd:=fun c hc=>by simp at hc;subst hc;exact ⟨I 0,rfl,rfl⟩
 all:=fun L h=>by
  obtain ⟨v,l,rfl,h0,g0⟩:=kcons (k:=0) (ks:=[]) h
  obtain rfl:=knil g0
  rfl
abbrev rowE (r:List (List Value)):List Nat:=listE (encs stI) r
def grpE (g:List (List Value) × List (List Value)):List Nat:=rowE g.1++rowE g.2
def rowG (r:List (List Value)):Bool:=decide ((r.length:Int)≤8) && r.all (goods stI)
def rowK (r:List (List Value)):Prop:=∀ L ∈ r,L.map kind=[I 0].map kind
theorem row_fwd {r:List (List Value)} {s s':Nat} {m:List Nat} (hk:rowK r) (hg:rowG r=true) (hd:bs.drop s=rowE r++m) (hs:s≤bs.length) (e:s'=s+(rowE r).length):rowN (RP bs) s=.ok (r,s'):=by
 unfold rowG at hg
 rw [Bool.and_eq_true,decide_eq_true_eq,List.all_eq_true] at hg
 exact list_fwd stI_ok (fun L hL=>⟨hk L hL,hg.2 L hL⟩) hg.1 (by decide) hd hs e
theorem row_bwd (hb:∀ x ∈ bs,x < 256) {r:List (List Value)} {s s':Nat} (hs:s≤bs.length) (h:rowN (RP bs) s=.ok (r,s')):rowG r=true∧s'=s+(rowE r).length∧s'≤bs.length∧bs.drop s=rowE r++bs.drop s':=by
 obtain ⟨a1,a2,a3,a4,a5⟩:=list_bwd hb stI_ok (by decide) hs h
 refine ⟨?_,a3,a4,a5⟩
 unfold rowG
 rw [Bool.and_eq_true,decide_eq_true_eq,List.all_eq_true]
 exact ⟨a1,a2⟩
theorem grp_fwd {g:List (List Value) × List (List Value)} {s s':Nat} {m:List Nat} (hk:rowK g.1∧rowK g.2) (hg:rowG g.1=true∧rowG g.2=true) (hd:bs.drop s=grpE g++m) (hs:s≤bs.length) (e:s'=s+(grpE g).length):grpN (RP bs) s=.ok (g,s'):=by
 unfold grpE at hd e
 rw [List.append_assoc] at hd
 rw [List.length_append] at e
 exact grpN_ok (row_fwd hk.1 hg.1 hd hs rfl) (row_fwd hk.2 hg.2 (drop_after hd) (le_after hd hs) (by omega))
theorem grp_bwd (hb:∀ x ∈ bs,x < 256) {g:List (List Value) × List (List Value)} {s s':Nat} (hs:s≤bs.length) (h:grpN (RP bs) s=.ok (g,s')):(rowG g.1=true∧rowG g.2=true)∧s'=s+(grpE g).length∧s'≤bs.length∧bs.drop s=grpE g++bs.drop s':=by
 obtain ⟨s1,h1,h2⟩:=grpN_inv h
 obtain ⟨a1,a2,a3,a4⟩:=row_bwd hb hs h1
 obtain ⟨b1,b2,b3,b4⟩:=row_bwd hb a3 h2
 refine ⟨⟨a1,b1⟩,?_,b3,?_⟩
 ·unfold grpE;rw [List.length_append,b2,a2];omega
 ·unfold grpE;rw [List.append_assoc,← b4];exact a4
def gK (g:List (List Value) × List (List Value)):Prop:=rowK g.1∧rowK g.2
def gG (g:List (List Value) × List (List Value)):Bool:=rowG g.1 && rowG g.2
theorem grps_fwd:∀ (n:Nat) {gs:List (List (List Value) × List (List Value))} {s s':Nat} {m:List Nat},gs.length=n→(∀ g ∈ gs,gK g∧gG g=true)→bs.drop s=gs.flatMap grpE++m→s≤bs.length→s'=s+(gs.flatMap grpE).length→grpsN (RP bs) n s=.ok (gs,s')
 | 0,gs,s,s',m,hn,hk,hd,hs,e=>by
  obtain rfl:=List.eq_nil_of_length_eq_zero hn
  subst e
  rfl
 | n+1,gs,s,s',m,hn,hk,hd,hs,e=>by
  obtain ⟨gs1,g,rfl⟩:∃ l g,gs=l++[g]:=by
   rcases List.eq_nil_or_concat gs with rfl | ⟨l,g,rfl⟩
   ·simp at hn
   ·exact ⟨l,g,by simp⟩
  rw [List.length_append] at hn
  simp only [List.length_cons,List.length_nil] at hn
  rw [List.flatMap_append,List.append_assoc] at hd
  rw [List.flatMap_append,List.length_append] at e
  simp only [List.flatMap_cons,List.flatMap_nil,List.append_nil] at hd e
  have hgk:=hk g (by simp)
  have hg2:=hgk.2
  unfold gG at hg2
  rw [Bool.and_eq_true] at hg2
  exact grps_succ_ok (grps_fwd n (by omega) (fun g' hg'=>hk g' (by simp [hg'])) hd hs rfl) (grp_fwd hgk.1 hg2 (drop_after hd) (le_after hd hs) (by omega))
theorem grps_bwd (hb:∀ x ∈ bs,x < 256):∀ (n:Nat) {gs:List (List (List Value) × List (List Value))} {s s':Nat},s≤bs.length→grpsN (RP bs) n s=.ok (gs,s')→gs.length=n∧(∀ g ∈ gs,gG g=true)∧s'=s+(gs.flatMap grpE).length∧s'≤bs.length∧bs.drop s=gs.flatMap grpE++bs.drop s'
 | 0,gs,s,s',hs,h=>by
  have h2:(Except.ok ([],s):Except Flt (List (List (List Value) × List (List Value)) × Nat))=.ok (gs,s'):=h
  cases h2
  exact ⟨rfl,fun g hg=>by simp at hg,rfl,hs,rfl⟩
 | n+1,gs,s,s',hs,h=>by
  obtain ⟨g1,s1,g,h1,h2,rfl⟩:=grps_succ_inv h
  obtain ⟨a1,a2,a3,a4,a5⟩:=grps_bwd hb n hs h1
  obtain ⟨b1,b2,b3,b4⟩:=grp_bwd hb a4 h2
  refine ⟨by rw [List.length_append,a1];rfl,fun g' hg'=>?_,?_,b3,?_⟩
  ·rcases List.mem_append.1 hg' with hg' | hg'
   ·exact a2 g' hg'
   ·rw [List.mem_singleton] at hg'
    subst hg'
    unfold gG
    rw [b1.1,b1.2]
    rfl
  ·rw [List.flatMap_append,List.length_append,b2,a3]
   simp only [List.flatMap_cons,List.flatMap_nil,List.append_nil]
   omega
  ·rw [List.flatMap_append,List.append_assoc]
   simp only [List.flatMap_cons,List.flatMap_nil,List.append_nil]
   rw [← b4];exact a5
def grpsE (gs:List (List (List Value) × List (List Value))):List Nat:=low 1 (gs.length:Int)++gs.flatMap grpE
theorem listG_fwd {gs:List (List (List Value) × List (List Value))} {s s':Nat} {m:List Nat} (hn:(gs.length:Int)≤4) (hk:∀ g ∈ gs,gK g∧gG g=true) (hd:bs.drop s=grpsE gs++m) (hs:s≤bs.length) (e:s'=s+(grpsE gs).length):listG (RP bs) 4 s=.ok (gs,s'):=by
 unfold grpsE at hd e
 rw [List.append_assoc] at hd
 have h1:=cnt_fwd hd hn (by decide) hs
 have h2:=le_after hd hs
 have h3:=drop_after hd
 rw [List.length_append] at e
 rw [low_len] at h2 h3 e
 exact listG_ok h1 (grps_fwd _ rfl hk h3 h2 (by omega))
theorem listG_bwd (hb:∀ x ∈ bs,x < 256) {gs:List (List (List Value) × List (List Value))} {s s':Nat} (hs:s≤bs.length) (h:listG (RP bs) 4 s=.ok (gs,s')):(gs.length:Int)≤4∧(∀ g ∈ gs,gG g=true)∧s'=s+(grpsE gs).length∧s'≤bs.length∧bs.drop s=grpsE gs++bs.drop s':=by
 obtain ⟨y,s1,h1,h2⟩:=listG_inv h
 obtain ⟨n,rfl,hn,hs0,hs1,hd⟩:=cnt_bwd hb (by decide) h1
 rw [Int.toNat_natCast] at h2
 obtain ⟨b0,b1,b2,b3,b4⟩:=grps_bwd hb n hs1 h2
 refine ⟨by rw [b0];exact hn,b1,?_,b3,?_⟩
 ·unfold grpsE;rw [List.length_append,low_len,b2,hs0];omega
 ·unfold grpsE;rw [List.append_assoc,← b4,b0];exact hd
end
end By
namespace CrcB
open Go.ChangeShapes Go.WideShapes Go.ChangeAt Go.RowKit
open CrcM Crc
def vals (l:List Nat):List Value:=l.map fun n:Nat=>.int .u8 (n:Int)
theorem vals_len (l:List Nat):(vals l).length=l.length:=List.length_map ..
theorem vals_at (l:List Nat) (i:Nat) (h:i < l.length):(vals l)[i]?=some (.int .u8 (l.getD i 0:Nat)):=by
 unfold vals
 rw [List.getElem?_map,List.getD_eq_getElem?_getD,List.getElem?_eq_getElem h];rfl
def Own (B:Nat) (w:World) (v:Value) (l:List Nat):Prop:=w.ownsRow B 5 1 v l.length (vals l)
theorem info5:(Tryz.prog.info? 5).map (fun i=>(i.zero,i.size,i.bytes))=some (some (.int .u8 0),1,1):=by kernel_rfl
theorem own_nil (B:Nat) (w:World):Own B w (.slice none 0 0) []:=World.ownsRow_nil _ _ _ _
theorem own_below {B:Nat} {w w':World} {v:Value} {l:List Nat} (h:Own B w v l) (hb:Below w.heap.size w w'):Own B w' v l :=
 h.kept (row:=none) ⟨hb.os,hb.tape,hb.output,hb.size,fun j hj _=>hb.block j hj⟩ (by cases hv:v.ownBlock <;> simp)
theorem own_lt {B:Nat} {w:World} {v:Value} {l:List Nat} (h:Own B w v l):∀ k,v.ownBlock=some k→B≤k:=fun k hk=>(h.lt k hk).1
section
variable {ops:Array Oper} {rest:List Oper} {o:Oper} {a:Act} {w:World} {Q:Exit→Act→World→Prop}
theorem wpList_more (hgd:o.guard=none) (s x:Operand) (ho:o.op=.call { callee:=.builtin .append,args:=#[s,x],argTypes:=#[34,34] })
  (B:Nat) (v:Value) (l:List Nat) (hs:a.eval s=v) (hown:Own B w v l) (ad:Addr) (cap:Nat) (m:List Nat) (hx:a.eval x=.slice (some ad) m.length cap) (hr:Row w (some ad) m)
  (hB:B≤w.heap.size) (hlen:l.length+m.length≤1000) (h:∀ v' w',Own B w' v' (l++m)→Below B w w'→wpList Tryz.prog ops Q rest (a.put o.dst v') w'):wpList Tryz.prog ops Q (o :: rest) a w:=by
 obtain ⟨i0,hi,hz0,hz1,hz2⟩:=info_parts info5
 refine wpList_append_own w hgd s x 34 ho B 5 i0 (.int .u8 0) 1 1 Tryz.underlying34 hi hz0 hz1 hz2 rfl (by decide) v l.length (vals l) hs hown ad m.length cap (vals m) hx (by rw [vals_len,Nat.mul_one]) ?_ ?_ (by unfold maxLen;omega) (by omega) hB ?_
 ·intro j u hj
  have hjl:j < m.length:=by rw [← vals_len m];exact (List.getElem?_eq_some_iff.1 hj).1
  rw [vals_at m j hjl] at hj
  obtain ⟨y,hy,hc⟩:=hr.cells hjl
  cases hy
  rw [hc j hjl];exact hj
 ·intro u hu
  obtain ⟨n,_,rfl⟩:=List.mem_map.1 hu
  rfl
 ·intro v' w' hown' hg _
  refine h v' w' ?_ ((Below.refl _ _).grown hg hB (own_lt hown))
  unfold Own
  rw [List.length_append,show vals (l++m)=vals l++vals m from List.map_append ..]
  exact hown'
theorem wpList_copy (hgd:o.guard=none) (s x:Operand) (ho:o.op=.call { callee:=.builtin .append,args:=#[s,x],argTypes:=#[34,34] })
  (hs:a.eval s=.slice none 0 0) (ad:Option Addr) (cap:Nat) (l:List Nat) (hx:a.eval x=.slice ad l.length cap) (hr:Row w ad l) (hnil:ad=none→cap=0) (hlen:l.length≤1000)
  (h:∀ v' w',Own w.heap.size w' v' l→Below w.heap.size w w'→wpList Tryz.prog ops Q rest (a.put o.dst v') w'):wpList Tryz.prog ops Q (o :: rest) a w:=by
 cases ad with
 | none =>
  have hl:l=[]:=by
   rcases hr.2.2 with h | ⟨x,hx,_⟩
   ·exact h
   ·cases hx
  subst hl
  obtain ⟨i0,hi,hz0,hz1,hz2⟩:=info_parts info5
  rw [hnil rfl] at hx
  exact wpList_append_own_none hgd s x 34 ho w.heap.size 5 i0 1 Tryz.underlying34 hi _ 0 [] hs (World.ownsRow_nil _ _ _ _) hx (h _ _ (own_nil _ _) (Below.refl _ _))
 | some ad=>exact wpList_more hgd s x ho w.heap.size _ [] hs (own_nil _ _) ad cap l hx hr (Nat.le_refl _) (by simp;omega) h
end
theorem own_at {B:Nat} {w:World} {v:Value} {l:List Nat} (h:Own B w v l) (hl:0 < l.length) :
  ∃ g cap,v=.slice (some ⟨g,0,none⟩) l.length cap∧B≤g∧(∀ i,w.frozen? ⟨g,i,none⟩=false)∧∀ i,i < l.length→w.cell? ⟨g,i,none⟩=some (.int .u8 (l.getD i 0:Nat)):=by
 rcases h.2 with ⟨rfl,h0⟩ | ⟨g,cap,cur,rfl,h1,h2,h3,h4,h5,h6⟩
 ·omega
 ·refine ⟨g,cap,rfl,h1,fun i=>by simp [World.frozen?,h2],fun i hi=>?_⟩
  have h7:=vals_at l i hi
  rw [← h6,Nat.mul_one,List.getElem?_take_of_lt hi] at h7
  rw [cell_of_row w g i cur _ (0,0) h2,← Array.getElem?_toList]
  exact h7
theorem own_set {B:Nat} {w:World} {g cap:Nat} {l:List Nat} (h:Own B w (.slice (some ⟨g,0,none⟩) l.length cap) l) (i y:Nat) (hi:i < l.length) :
  Own B (w.setCell ⟨g,i,none⟩ (.int .u8 (y:Int))) (.slice (some ⟨g,0,none⟩) l.length cap) (l.set i y):=by
 rcases h.2 with ⟨h0,_⟩ | ⟨g',cap',cur,e,h1,h2,h3,h4,h5,h6⟩
 ·cases h0
 ·cases e
  rw [setCell_eq_setRow w g i cur _ (0,0) _ h2]
  refine ⟨by rw [vals_len,Nat.mul_one],.inr ⟨g,cap,_,by rw [List.length_set],h1,setRow_heap w g cur _ _ _ h2,by rw [List.length_set];exact h3,h4,by rw [Array.size_setIfInBounds];exact h5,?_⟩⟩
  rw [Array.toList_setIfInBounds,List.length_set,List.take_set,h6]
  exact (List.map_set ..).symm
theorem own_turn {B:Nat} {w:World} {g n cap:Nat} {l:List Nat} (h:Own B w (.slice (some ⟨g,0,none⟩) n cap) l) (hn:l.length=n) (q y:Nat) (hq:q / 8 < n) (hy:l.getD (q / 8) 0=y) :
  Own B (w.setCell ⟨g,q / 8,none⟩ (.int .u8 ((y ^^^ 2 ^ (q % 8):Nat):Int))) (.slice (some ⟨g,0,none⟩) n cap) (turn l q):=by
 subst hn hy
 exact own_set h _ _ hq
theorem turn_bits (y q:Nat) (hy:y < 256):bits .xor .u8 (y:Int) (2 ^ (q % 8) % 256)=((y ^^^ 2 ^ (q % 8):Nat):Int):=by
 have h1:2 ^ (q % 8) < 256:=Nat.pow_lt_pow_right (n:=8) (by decide) (Nat.mod_lt _ (by decide))
 have h2:((2 ^ (q % 8):Nat):Int)=(2:Int) ^ (q % 8):=Int.natCast_pow 2 _
 have h3:(2:Int) ^ (q % 8) % 256=((2 ^ (q % 8):Nat):Int):=by
  rw [← h2]
  generalize 2 ^ (q % 8)=z at h1 ⊢
  omega
 rw [h3]
 exact u8_xor_nat y _ hy h1
theorem below_drewN {B:Nat} {a w:World} (h:Below B a w) (n:Nat):Below B a (w.drewN n):=h.trans ⟨rfl,rfl,rfl,Nat.le_refl _,fun _ _=>rfl⟩
theorem differ_any (a b:Option Addr) (cap cap':Nat) (l m:List Nat) (w:World) (ha:Row w a l) (hb:Row w b m) (hlm:m.length=l.length) (hne:l ≠ m) :
  Calls Tryz.prog 13 #[.slice a l.length cap,.slice b m.length cap'] w fun e w'=>e=.returned (.bool false)∧Below w.heap.size w w':=by
 have h1:=ha.1
 unfold maxLen at h1
 obtain ⟨j,hj,hjn,hjb⟩:∃ j,j < l.length∧l.getD j 0 ≠ m.getD j 0∧∀ i,i < j→l.getD i 0=m.getD i 0:=by
  clear ha hb h1
  induction l generalizing m with
  | nil=>exact absurd (List.length_eq_zero_iff.1 hlm).symm hne
  | cons x l ih =>
   cases m with
   | nil=>simp at hlm
   | cons y m =>
    by_cases e:x=y
    ·subst e
     obtain ⟨j,h1,h2,h3⟩:=ih m (by simpa using hlm) (fun e=>hne (by rw [e]))
     refine ⟨j+1,by simp;omega,by simpa using h2,fun i hi=>?_⟩
     cases i with
     | zero=>rfl
     | succ i=>simpa using h3 i (by omega)
    ·exact ⟨0,by simp,by simpa using e,fun i hi=>by omega⟩
 have Ha:=Lib.hid ha
 have Hb:=Lib.hid hb
 have Hj:=Lib.hid hjn
 have Hi:=Lib.hid hjb
 rw [hlm]
 have Hlm:=Lib.hid hlm
 clear ha hb hjn hjb hne hlm
 go_enter Tryz.func13,Tryz.ntmps13
 go_wp2
 go_loopw [5] (fun i wr=>∃ k:Nat,k≤j∧i=.int .i64 k∧Below w.heap.size w wr) (fun i _=>j - (intOf i).toNat)
 case atStart=>exact ⟨0,Nat.zero_le _,rfl,Below.refl _ _⟩
 case round =>
  obtain ⟨k,hk,rfl,hbel⟩:=hrel
  have hkl:k < l.length:=by omega
  obtain ⟨x,rfl,hc⟩:=(Ha.out.below hbel).cells hkl
  obtain ⟨y,rfl,hd⟩:=(Hb.out.below hbel).cells (k:=k) (by rw [Hlm.out];exact hkl)
  have hcell:=hc k hkl
  have hdell:=hd k (by rw [Hlm.out];exact hkl)
  clear hc hd
  by_cases hkj:k < j
  ·have e:=Hi.out k hkj
   rw [← e] at hdell
   generalize l.getD k 0=z at hcell hdell
   clear e
   go_wp2
   go_quiet (fail)
   go_wp2
   go_roundw
   case rel=>exact ⟨k+1,by omega,by go_num,below_drewN hbel _⟩
   case measure=>simp [intOf];omega
  ·obtain rfl:k=j:=by omega
   have e:((l.getD k 0:Int) != (m.getD k 0:Int))=true:=by rw [bne_iff_ne];have:=Hj.out;omega
   generalize l.getD k 0=z at hcell e
   generalize m.getD k 0=z2 at hdell e
   go_wp2
   go_quiet (fail)
   go_wp2
   go_ret
   exact ⟨rfl,below_drewN hbel _⟩
theorem place_any (v n:Int) (w:World) (h:0 < n) (h':n≤9223372036854775807) :
  Calls Tryz.prog 20 #[.int .i64 v,.int .i64 n] w fun e w'=>e=.returned (.int .i64 (v % n))∧w=w':=by
 have hm:=Int.emod_nonneg v (show n ≠ 0 by omega)
 have hm2:=Int.emod_lt_of_pos v h
 have ht:0≤v.tmod n∧v % n=v.tmod n∨v.tmod n < 0∧v % n=v.tmod n+n:=by
  have h1:=Int.tmod_eq_emod (a:=v) (b:=n)
  split at h1 <;> omega
 have hb : -9223372036854775808≤v.tmod n∧v.tmod n≤9223372036854775807:=by omega
 obtain ⟨hb1,hb2⟩:=hb
 have hn0:n ≠ 0:=by omega
 rcases ht with ⟨ht,he⟩ | ⟨ht,he⟩
 ·have He:=Lib.hid he
  clear he hm hm2
  go_enter Tryz.func20,Tryz.ntmps20
  go_wp2
  go_ret
  exact ⟨ret_int (by rw [He.out]),rfl⟩
 ·have He:=Lib.hid he
  clear he hm hm2
  go_enter Tryz.func20,Tryz.ntmps20
  go_wp2
  go_ret
  exact ⟨ret_int (by rw [He.out]),rfl⟩
theorem of_len (a:Option Addr) (n cap:Nat) (l:List Nat) (w:World) (hn:l.length=n) (h:Row w a l) :
  Calls Tryz.prog 27 #[.slice a n cap] w fun e w'=>e=.returned (.int .u16 (crc 65535 l:Nat))∧Below w.heap.size w w':=by
 subst hn;exact CrcA.of_any a cap l w h
theorem differ_len (a b:Option Addr) (n cap cap':Nat) (l m:List Nat) (w:World) (hl:l.length=n) (hm:m.length=n) (ha:Row w a l) (hb:Row w b m) (hne:l ≠ m) :
  Calls Tryz.prog 13 #[.slice a n cap,.slice b n cap'] w fun e w'=>e=.returned (.bool false)∧Below w.heap.size w w':=by
 have h:=differ_any a b cap cap' l m w ha hb (by omega) hne
 rw [hl,hm] at h;exact h
theorem made (n:Nat):(madeCells (Value.int .u8 0).cells (n*1)).toList=vals (List.replicate n 0):=by
 rw [Nat.mul_one,show (Value.int .u8 0).cells=#[.int .u8 0] from rfl,toList_madeCells_one,vals,List.map_replicate];rfl
end CrcB
namespace Rr
open Go Go.RowKit Go.ChangeShapes
open Tab
open Po
open Rd (Rd But)
open Put (lim)
open CrcM (crc)
def EndsN (bs:List Nat) (B g:Nat) (ad:Option Addr) (cap:Nat) (r:Except Flt (Int × Nat)) (W:World) (e:Ending) (W':World):Prop:=match r with
 | .ok (y,s')=>e=.returned (I y)∧RS B g ad cap bs s' W'∧∀ b,Mv B b W W'
 | .error f=>e=.panicked [{ v:=fault f,recovered:=false }]∧Below B W W'
def EndsS (bs:List Nat) (B g:Nat) (ad:Option Addr) (cap:Nat) (r:Except Flt Nat) (W:World) (e:Ending) (W':World):Prop:=match r with
 | .ok s'=>e=.returned (.tuple #[])∧RS B g ad cap bs s' W'∧∀ b,Mv B b W W'
 | .error f=>e=.panicked [{ v:=fault f,recovered:=false }]∧Below B W W'
theorem Mv.start {B:Nat} {W V U:World} (h:Below W.heap.size W V) (hB:B≤W.heap.size) {nb:Nat} (hn:W.heap.size≤nb) (k:Mv B nb V U) (b:Nat):Mv B b W U :=
 ⟨(h.mono hB).trans k.low,fun j cs t fr hj ht _=>by
  have hl:=(Array.getElem?_eq_some_iff.1 hj).1
  have h1:=h.block j hl
  exact (k.other j cs t fr (h1.trans hj) ht (by omega)).trans h1⟩
section
variable {B g:Nat} {ad:Option Addr} {cap:Nat} {bs:List Nat}
theorem raw3 (s:Nat) (w:World) (h:RS B g ad cap bs s w) (hB:B≤w.heap.size) :
  Calls Tryz.prog 83 #[rdr g,.int .i64 3] w (EndsN bs B g ad cap ((RP bs).num s 3 16777215 0) w):=by
 have hb:=(Below.refl w.heap.size w).alloc (Nat.le_refl _) (.cells #[.pointer (some ⟨g,0,none⟩)] 69)
 have hb2:=hb.alloc hb.size (.cells #[I 0] 3)
 have hg1:=heap_alloc_new w (.cells #[.pointer (some ⟨g,0,none⟩)] 69)
 have hg2:=heap_alloc_new (w.alloc (.cells #[.pointer (some ⟨g,0,none⟩)] 69)) (.cells #[I 0] 3)
 have hs1:(w.alloc (.cells #[.pointer (some ⟨g,0,none⟩)] 69)).heap.size=w.heap.size+1:=by simp
 rw [hs1] at hg2
 have hg3:((w.alloc (.cells #[.pointer (some ⟨g,0,none⟩)] 69)).alloc (.cells #[I 0] 3)).heap[w.heap.size]?=some (.cells #[.pointer (some ⟨g,0,none⟩)] 69 (0,0)):=by
  rw [Below.heap_alloc _ _ _ (by rw [hs1];omega)];exact hg1
 have HR:=Lib.hid (h.mem hb2)
 have HW:=Lib.hid hb2
 obtain ⟨res,hres⟩:∃ r,(RP bs).num s 3 16777215 0=r:=⟨_,rfl⟩
 have HRES:=Lib.hid hres
 rw [hres]
 clear h hb hg1 hs1 hb2 hres
 go_enter Tryz.func83,Tryz.ntmps83
 go_upto_region 2 with fail
 generalize World.alloc (World.alloc w _) _=v at HR HW hg2 hg3 ⊢
 generalize hnb:w.heap.size+1=nb at hg2 ⊢
 generalize hrb:w.heap.size=rb at hg3 HW ⊢
 have LR:Hid (∀ W,Below v.heap.size v W→Lies W ⟨rb,0,none⟩ [.pointer (some ⟨g,0,none⟩)]):=Lib.hid (fun W hb=>by have:=Row.lies_of_block ((hb.block rb (Array.getElem?_eq_some_iff.1 hg3).1).trans hg3);simpa using this)
 have HG2:=Lib.hid hg2
 clear hg2 hg3
 refine QT.region v.heap.size 6 (by kernel_rfl) (by kernel_rfl) ?_
 simp only [List.take_succ_cons,List.take_zero]
 repeat first
  | (refine QL.wpQuiet_load rfl 69 _ rfl ⟨rb,0,none⟩ rfl [.pointer (some ⟨g,0,none⟩)] _ (fun w' ⟨p,e⟩=>by rw [e];exact LR.out _ p.below) Tryz.underlying69 rfl infoRd ?_
     dsimp only [Act.put]
     simp only [List.setIfInBounds_toArray,List.set_cons_zero,List.set_cons_succ])
  | (quiet_step (fail))
  | (refine wpQuiet_run rfl (I 16777216) (fun w=>rfl) ?_
     dsimp only [Act.put]
     simp only [List.setIfInBounds_toArray,List.set_cons_zero,List.set_cons_succ])
 refine wpQuiet_nil ?_
 intro _ hw'
 obtain ⟨p,rfl⟩:=hw'
 have HR2:=Lib.hid (HR.out.mem p.below)
 have hn2:=(p.below.block nb (Array.getElem?_eq_some_iff.1 HG2.out).1).trans HG2.out
 have HWD:Hid (Below w.heap.size w p.world):=Lib.hid (by rw [hrb];exact HW.out.trans (p.below.mono (by have:=HW.out.size;omega)))
 generalize p.world=vd at HR2 hn2 HWD ⊢
 simp only [List.drop_succ_cons,List.drop_zero]
 have hB2:B≤vd.heap.size:=Nat.le_trans hB HWD.out.size
 have HN:=Lib.hid (rnumber s vd nb 0 #[I 0] 3 (0,0) [I 0] 3 16777215 0 0 HR2.out hB2 ⟨rfl,by omega⟩ (Or.inr (by decide)) (Nat.le_refl _) hn2 rfl)
 clear hn2
 go_wp2_with fail
 refine HN.out.mono ?_
 intro e v3 hE
 unfold Po.Ends at hE
 simp only [Sp.run,List.getElem?_cons_zero] at hE
 have hrr:=HRES.out
 cases res with
 | error fl =>
  rw [hrr] at hE
  obtain ⟨rfl,hb3⟩:=hE
  exact ⟨rfl,rfl,(HWD.out.mono hB).trans hb3⟩
 | ok r =>
  obtain ⟨y,s'⟩:=r
  rw [hrr] at hE
  obtain ⟨rfl,hst,hmv,hcl⟩:=hE
  have c1:v3.cell? ⟨nb,0,none⟩=some (I y):=by rw [cell_of_row _ _ _ _ _ _ hcl];rfl
  have HST:=Lib.hid hst
  have HMV:=Lib.hid hmv
  clear hst hmv hcl
  go_wp2
  go_ret
  exact ⟨rfl,HST.out,Mv.start HWD.out hB (by omega) HMV.out⟩
theorem raw2 (s:Nat) (w:World) (h:RS B g ad cap bs s w) (hB:B≤w.heap.size) :
  Calls Tryz.prog 83 #[rdr g,.int .i64 2] w (EndsN bs B g ad cap ((RP bs).num s 2 65535 0) w):=by
 have hb:=(Below.refl w.heap.size w).alloc (Nat.le_refl _) (.cells #[.pointer (some ⟨g,0,none⟩)] 69)
 have hb2:=hb.alloc hb.size (.cells #[I 0] 3)
 have hg1:=heap_alloc_new w (.cells #[.pointer (some ⟨g,0,none⟩)] 69)
 have hg2:=heap_alloc_new (w.alloc (.cells #[.pointer (some ⟨g,0,none⟩)] 69)) (.cells #[I 0] 3)
 have hs1:(w.alloc (.cells #[.pointer (some ⟨g,0,none⟩)] 69)).heap.size=w.heap.size+1:=by simp
 rw [hs1] at hg2
 have hg3:((w.alloc (.cells #[.pointer (some ⟨g,0,none⟩)] 69)).alloc (.cells #[I 0] 3)).heap[w.heap.size]?=some (.cells #[.pointer (some ⟨g,0,none⟩)] 69 (0,0)):=by
  rw [Below.heap_alloc _ _ _ (by rw [hs1];omega)];exact hg1
 have HR:=Lib.hid (h.mem hb2)
 have HW:=Lib.hid hb2
 obtain ⟨res,hres⟩:∃ r,(RP bs).num s 2 65535 0=r:=⟨_,rfl⟩
 have HRES:=Lib.hid hres
 rw [hres]
 clear h hb hg1 hs1 hb2 hres
 go_enter Tryz.func83,Tryz.ntmps83
 go_upto_region 2 with fail
 generalize World.alloc (World.alloc w _) _=v at HR HW hg2 hg3 ⊢
 generalize hnb:w.heap.size+1=nb at hg2 ⊢
 generalize hrb:w.heap.size=rb at hg3 HW ⊢
 have LR:Hid (∀ W,Below v.heap.size v W→Lies W ⟨rb,0,none⟩ [.pointer (some ⟨g,0,none⟩)]):=Lib.hid (fun W hb=>by have:=Row.lies_of_block ((hb.block rb (Array.getElem?_eq_some_iff.1 hg3).1).trans hg3);simpa using this)
 have HG2:=Lib.hid hg2
 clear hg2 hg3
 refine QT.region v.heap.size 6 (by kernel_rfl) (by kernel_rfl) ?_
 simp only [List.take_succ_cons,List.take_zero]
 repeat first
  | (refine QL.wpQuiet_load rfl 69 _ rfl ⟨rb,0,none⟩ rfl [.pointer (some ⟨g,0,none⟩)] _ (fun w' ⟨p,e⟩=>by rw [e];exact LR.out _ p.below) Tryz.underlying69 rfl infoRd ?_
     dsimp only [Act.put]
     simp only [List.setIfInBounds_toArray,List.set_cons_zero,List.set_cons_succ])
  | (quiet_step (fail))
  | (refine wpQuiet_run rfl (I 65536) (fun w=>rfl) ?_
     dsimp only [Act.put]
     simp only [List.setIfInBounds_toArray,List.set_cons_zero,List.set_cons_succ])
 refine wpQuiet_nil ?_
 intro _ hw'
 obtain ⟨p,rfl⟩:=hw'
 have HR2:=Lib.hid (HR.out.mem p.below)
 have hn2:=(p.below.block nb (Array.getElem?_eq_some_iff.1 HG2.out).1).trans HG2.out
 have HWD:Hid (Below w.heap.size w p.world):=Lib.hid (by rw [hrb];exact HW.out.trans (p.below.mono (by have:=HW.out.size;omega)))
 generalize p.world=vd at HR2 hn2 HWD ⊢
 simp only [List.drop_succ_cons,List.drop_zero]
 have hB2:B≤vd.heap.size:=Nat.le_trans hB HWD.out.size
 have HN:=Lib.hid (rnumber s vd nb 0 #[I 0] 3 (0,0) [I 0] 2 65535 0 0 HR2.out hB2 ⟨rfl,by omega⟩ (Or.inr (by decide)) (Nat.le_refl _) hn2 rfl)
 clear hn2
 go_wp2_with fail
 refine HN.out.mono ?_
 intro e v3 hE
 unfold Po.Ends at hE
 simp only [Sp.run,List.getElem?_cons_zero] at hE
 have hrr:=HRES.out
 cases res with
 | error fl =>
  rw [hrr] at hE
  obtain ⟨rfl,hb3⟩:=hE
  exact ⟨rfl,rfl,(HWD.out.mono hB).trans hb3⟩
 | ok r =>
  obtain ⟨y,s'⟩:=r
  rw [hrr] at hE
  obtain ⟨rfl,hst,hmv,hcl⟩:=hE
  have c1:v3.cell? ⟨nb,0,none⟩=some (I y):=by rw [cell_of_row _ _ _ _ _ _ hcl];rfl
  have HST:=Lib.hid hst
  have HMV:=Lib.hid hmv
  clear hst hmv hcl
  go_wp2
  go_ret
  exact ⟨rfl,HST.out,Mv.start HWD.out hB (by omega) HMV.out⟩
def headR (bs:List Nat):Except Flt Nat:=match (RP bs).num (0:Nat) 3 16777215 0 with
 | .error f=>.error f
 | .ok (y,s')=>if y=5784065 then .ok s' else .error (3,0)
theorem head_any (w:World) (h:RS B g ad cap bs 0 w) (hB:B≤w.heap.size) :
  Calls Tryz.prog 31 #[rdr g] w (EndsS bs B g ad cap (headR bs) w):=by
 have hb:=(Below.refl w.heap.size w).alloc (Nat.le_refl _) (.cells #[.pointer (some ⟨g,0,none⟩)] 69)
 have hg1:=heap_alloc_new w (.cells #[.pointer (some ⟨g,0,none⟩)] 69)
 have HR:=Lib.hid (h.mem hb)
 have HW:=Lib.hid hb
 clear h hb
 obtain ⟨r2,hr2⟩:∃ r,headR bs=r:=⟨_,rfl⟩
 rw [hr2]
 unfold headR at hr2
 obtain ⟨res,hres⟩:∃ r,(RP bs).num (0:Nat) 3 16777215 0=r:=⟨_,rfl⟩
 rw [hres] at hr2
 have HRES:=Lib.hid hres
 have HR2:=Lib.hid hr2
 clear hres hr2
 go_enter Tryz.func31,Tryz.ntmps31
 go_upto_region 1 with fail
 generalize World.alloc w _=v at HR HW hg1 ⊢
 generalize hrb:w.heap.size=rb at hg1 HW ⊢
 have LR:Hid (Lies v ⟨rb,0,none⟩ [.pointer (some ⟨g,0,none⟩)]):=Lib.hid (by have:=Row.lies_of_block hg1;simpa using this)
 have HB2:Hid (B≤v.heap.size):=Lib.hid (Nat.le_trans hB (by have:=HW.out.size;omega))
 go_wp2_with (refine Row.wpList_load_g 69 _ rfl (by first | rfl | (go_simp;done) | fail) ⟨rb,0,none⟩ rfl [.pointer (some ⟨g,0,none⟩)] _ LR.out Tryz.underlying69 rfl infoRd ?_)
 refine (raw3 0 v HR.out HB2.out).mono ?_
 intro e v3 hE
 rw [HRES.out] at hE
 unfold EndsN at hE
 cases res with
 | error fl =>
  obtain ⟨rfl,hb3⟩:=hE
  refine ⟨rfl,?_⟩
  rw [← HR2.out]
  exact ⟨rfl,(HW.out.mono (by omega)).trans hb3⟩
 | ok r =>
  obtain ⟨y,s'⟩:=r
  obtain ⟨rfl,hst,hmv⟩:=hE
  have HST:=Lib.hid hst
  have HMV:=Lib.hid hmv
  clear hst hmv
  have HM2:Hid (∀ b,Mv B b w v3):=Lib.hid (Mv.start (by rw [hrb];exact HW.out) hB (Nat.le_refl _) (HMV.out w.heap.size))
  clear HMV
  by_cases hy:y=5784065
  ·subst hy
   have e2:r2=.ok s':=by rw [← HR2.out];exact if_pos rfl
   clear HR2
   subst e2
   go_wp2
   go_end0
   exact ⟨rfl,HST.out,HM2.out⟩
  ·have e2:r2=.error (3,0):=by rw [← HR2.out];exact if_neg hy
   clear HR2
   subst e2
   go_wp2_with fail
   refine (fail_any 3 0 _).mono ?_
   rintro e v4 ⟨rfl,rfl⟩
   exact ⟨rfl,rfl,(HM2.out 0).low⟩
def endR (bs:List Nat) (s:Nat):Except Flt Nat:=if s < bs.length then .error (6,s) else .ok s
theorem end_any (s:Nat) (w:World) (h:RS B g ad cap bs s w) (hB:B≤w.heap.size) :
  Calls Tryz.prog 33 #[rdr g] w (EndsS bs B g ad cap (endR bs s) w):=by
 obtain ⟨r2,hr2⟩:∃ r,endR bs s=r:=⟨_,rfl⟩
 rw [hr2]
 unfold endR at hr2
 have HR2:=Lib.hid hr2
 clear hr2
 have hb:=(Below.refl w.heap.size w).alloc (Nat.le_refl _) (.cells #[.pointer (some ⟨g,0,none⟩)] 69)
 have hg1:=heap_alloc_new w (.cells #[.pointer (some ⟨g,0,none⟩)] 69)
 have HR:=Lib.hid (h.mem hb)
 have HW:=Lib.hid hb
 clear h hb
 go_enter Tryz.func33,Tryz.ntmps33
 go_upto_region 1 with fail
 generalize World.alloc w _=v at HR HW hg1 ⊢
 generalize hrb:w.heap.size=rb at hg1 HW ⊢
 have LR:Hid (Lies v ⟨rb,0,none⟩ [.pointer (some ⟨g,0,none⟩)]):=Lib.hid (by have:=Row.lies_of_block hg1;simpa using this)
 have HB2:Hid (B≤v.heap.size):=Lib.hid (Nat.le_trans hB (by have:=HW.out.size;omega))
 have k0:v.cell? ⟨rb,0,none⟩=some (.pointer (some ⟨g,0,none⟩)):=by rw [cell_of_row _ _ _ _ _ _ hg1];rfl
 have HM:Hid (∀ b,Mv B b w v):=Lib.hid (fun b=>Mv.of (by rw [hrb];exact HW.out) hB)
 go_wp2_with fail
 refine (Rd.left_any g ad cap bs s 0 0 v HR.out.rd HR.out.len HR.out.le).mono ?_
 rintro e v3 ⟨rfl,n,rfl⟩
 have hbd:Below v.heap.size v (v.drewN n):=⟨rfl,rfl,rfl,Nat.le_refl _,fun _ _=>rfl⟩
 have hst:=HR.out.mem hbd
 have kd:(v.drewN n).cell? ⟨rb,0,none⟩=some (.pointer (some ⟨g,0,none⟩)):=k0
 have HM2:Hid (∀ b,Mv B b w (v.drewN n)):=Lib.hid (fun b=>(HM.out b).trans (Mv.of hbd HB2.out))
 clear k0 hbd
 generalize v.drewN n=v3 at hst kd HM2 ⊢
 have HST:=Lib.hid hst
 clear hst
 by_cases hy:s < bs.length
 ·have e2:r2=.error (6,s):=by rw [← HR2.out];exact if_pos hy
  clear HR2
  subst e2
  have hp:(0:Int) < (bs.length:Int) - s:=by omega
  go_wp2_with fail
  refine (Rd.at_any g ad cap bs s 0 0 _ HST.out.rd).mono ?_
  rintro e v4 ⟨rfl,rfl⟩
  go_wp2_with fail
  refine (fail_any 6 s _).mono ?_
  rintro e v4 ⟨rfl,rfl⟩
  exact ⟨rfl,rfl,(HM2.out 0).low⟩
 ·have e2:r2=.ok s:=by rw [← HR2.out];exact if_neg hy
  clear HR2
  subst e2
  have hp:¬ (0:Int) < (bs.length:Int) - s:=by omega
  go_wp2
  go_end0
  exact ⟨rfl,HST.out,HM2.out⟩
def sumR (bs:List Nat) (s:Nat):Except Flt Nat:=match (RP bs).num s 2 65535 0 with
 | .error f=>.error f
 | .ok (y,s')=>if y=((crc 65535 (bs.take s):Nat):Int) then .ok s' else .error (5,s)
theorem sum_any (s:Nat) (w:World) (h:RS B g ad cap bs s w) (hB:B≤w.heap.size) (bd:Option Addr) (bcap:Nat) (hrow:∀ W,Below B w W→Go.Proofs.YtggjconbgpfomaaGreat.B.Row W bd bs) (hcap:bs.length≤bcap) :
  Calls Tryz.prog 32 #[rdr g,.slice bd bs.length bcap] w (EndsS bs B g ad cap (sumR bs s) w):=by
 obtain ⟨r2,hr2⟩:∃ r,sumR bs s=r:=⟨_,rfl⟩
 rw [hr2]
 unfold sumR at hr2
 obtain ⟨res,hres⟩:∃ r,(RP bs).num s 2 65535 0=r:=⟨_,rfl⟩
 rw [hres] at hr2
 have HRES:=Lib.hid hres
 have hle:=h.le
 have hln:=h.len
 obtain ⟨cr,hcr⟩:∃ n:Nat,crc 65535 (bs.take s)=n:=⟨_,rfl⟩
 have hcr2:cr < 65536:=by rw [← hcr];exact CrcM.crc_lt _ _ (by decide)
 rw [hcr] at hr2
 have HR2:=Lib.hid hr2
 have CR:Hid (∀ W,Below B w W→Calls Tryz.prog 27 #[.slice bd s bcap] W fun e w'=>e=.returned (.int .u16 (cr:Int))∧Below W.heap.size W w'):=Lib.hid (fun W hb=>by rw [← hcr];exact CrcB.of_len bd s bcap (bs.take s) W (by rw [List.length_take];omega) (Go.Proofs.YtggjconbgpfomaaGreat.B.row_take (hrow W hb) s))
 clear hres hr2 hcr hrow
 obtain ⟨len,hlen⟩:∃ n,bs.length=n:=⟨_,rfl⟩
 rw [hlen] at hle hln hcap ⊢
 clear hlen
 have hk1:s≤bcap:=by omega
 have ew:wrap64 (cr:Int)=cr:=IntWalk.wrap64_in _ (by omega)
 have ew2:IntKind.i64.wrap (cr:Int)=cr:=by rw [IntKind.wrap_i64];omega
 have hb:=(Below.refl w.heap.size w).alloc (Nat.le_refl _) (.cells #[.pointer (some ⟨g,0,none⟩)] 69)
 have hg1:=heap_alloc_new w (.cells #[.pointer (some ⟨g,0,none⟩)] 69)
 have HR:=Lib.hid (h.mem hb)
 have HW:=Lib.hid hb
 clear h hb
 go_enter Tryz.func32,Tryz.ntmps32
 go_upto_region 1 with fail
 generalize World.alloc w _=v at HR HW hg1 ⊢
 have HMW:Hid (∀ b,Mv B b w v):=Lib.hid (fun b=>Mv.of HW.out hB)
 have HB2:Hid (B≤v.heap.size):=Lib.hid (Nat.le_trans hB HW.out.size)
 generalize hrb:w.heap.size=rb at hg1 HW ⊢
 have k0:v.cell? ⟨rb,0,none⟩=some (.pointer (some ⟨g,0,none⟩)):=by rw [cell_of_row _ _ _ _ _ _ hg1];rfl
 have LK:Hid (∀ W,(∀ b,Mv B b v W)→Lies W ⟨rb,0,none⟩ [.pointer (some ⟨g,0,none⟩)]):=Lib.hid (fun W hm=>by have:=Row.lies_of_block (((hm (rb+1)).other rb _ _ _ hg1 (by decide) (by omega)).trans hg1);simpa using this)
 go_wp2_with fail
 refine (Rd.at_any g ad cap bs s 0 0 v HR.out.rd).mono ?_
 rintro e v4 ⟨rfl,rfl⟩
 go_upto_region 2 with fail
 clear k0 hg1
 refine wp_region_held (S:=fun w'=>Lies w' ⟨rb,0,none⟩ [.pointer (some ⟨g,0,none⟩)]) (by kernel_rfl) ?_
 have hd:Below v.heap.size v { v with drawn:=v.drawn+1 }:=(Below.refl _ _).drew
 have hm:∀ b,Mv B b v { v with drawn:=v.drawn+1 }:=fun b=>Mv.of hd HB2.out
 have hS:=LK.out _ hm
 have HSV:=Lib.hid (HR.out.mem hd)
 have HMW1:Hid (∀ b,Mv B b w { v with drawn:=v.drawn+1 }):=Lib.hid (fun b=>(HMW.out b).trans (hm b))
 have LK1:Hid (∀ W,(∀ b,Mv B b { v with drawn:=v.drawn+1 } W)→Lies W ⟨rb,0,none⟩ [.pointer (some ⟨g,0,none⟩)]):=Lib.hid (fun W h2=>LK.out W (fun b=>(hm b).trans (h2 b)))
 have HBV:Hid (B≤({ v with drawn:=v.drawn+1 }:World).heap.size):=Lib.hid HB2.out
 clear hd hm HR HMW LK HB2 HW
 generalize ({ v with drawn:=v.drawn+1 }:World)=V at hS HSV HMW1 LK1 HBV ⊢
 have HMW:=HMW1
 have LK:=LK1
 clear HMW1 LK1
 refine Held.take_load (i:=0) (some 8) rfl 69 (.tmp 2) ⟨rb,0,none⟩ [.pointer (some ⟨g,0,none⟩)] _ rfl rfl (by kernel_rfl) (by kernel_rfl) (by kernel_rfl) (fun _ _ _ h=>h) (by rfl) hS rfl (fun w' hw'=>hw') Tryz.underlying69 rfl infoRd ?_
 (try dsimp only [Act.put]);(try simp only [List.setIfInBounds_toArray,List.set_cons_zero,List.set_cons_succ])
 refine Held.take (i:=2) (some 10) rfl (v:=?_) rfl (by kernel_rfl) (by kernel_rfl) (by kernel_rfl) (fun _ _ _ h=>h) (Or.inl ⟨by rfl,?_⟩) hS ?_
 rotate_left
 ·intro w' hw'
  go_simp
  try with_reducible rfl
 (try dsimp only [Act.put]);(try simp only [List.setIfInBounds_toArray,List.set_cons_zero,List.set_cons_succ])
 refine Held.take (i:=3) (some 11) rfl (v:=?_) rfl (by kernel_rfl) (by kernel_rfl) (by kernel_rfl) (fun _ _ _ h=>h) (Or.inl ⟨by rfl,?_⟩) hS ?_
 rotate_left
 ·intro w' hw'
  go_simp
  try with_reducible rfl
 (try dsimp only [Act.put]);(try simp only [List.setIfInBounds_toArray,List.set_cons_zero,List.set_cons_succ])
 refine Held.take (i:=4) (some 12) rfl (v:=?_) rfl (by kernel_rfl) (by kernel_rfl) (by kernel_rfl) (fun _ _ _ h=>h) (Or.inl ⟨by rfl,?_⟩) hS ?_
 rotate_left
 ·intro w' hw'
  go_simp
  try with_reducible rfl
 (try dsimp only [Act.put]);(try simp only [List.setIfInBounds_toArray,List.set_cons_zero,List.set_cons_succ])
 refine wpAnyH_ready (rs:=[1]) (by kernel_rfl) (by simp) (AllReadyH.cons rfl (fun K hK=>?_) AllReadyH.nil)
 go_simp
 refine (raw2 s V HSV.out HBV.out).mono ?_
 intro e V2 hE
 rw [HRES.out] at hE
 unfold EndsN at hE
 cases res with
 | error fl =>
  obtain ⟨rfl,hb3⟩:=hE
  have e2:r2=.error fl:=HR2.out.symm
  subst e2
  go_simp
  exact ⟨rfl,rfl,(HMW.out 0).low.trans hb3⟩
 | ok r =>
  obtain ⟨y,s'⟩:=r
  obtain ⟨rfl,hst,hmv⟩:=hE
  have hq:Lies V2 ⟨rb,0,none⟩ [.pointer (some ⟨g,0,none⟩)]:=LK.out V2 hmv
  have HSV3:Hid (RS B g ad cap bs s' V2):=Lib.hid hst
  have HMW3:Hid (∀ b,Mv B b w V2):=Lib.hid (fun b=>(HMW.out b).trans (hmv b))
  clear hS hst hmv HSV HMW HBV LK
  go_simp
  refine hK.out _ _ hq (fun hS=>?_)
  clear hK K hq
  rename World=>V
  (try dsimp only [Act.put]);(try simp only [List.setIfInBounds_toArray,List.set_cons_zero,List.set_cons_succ])
  refine wpAnyH_ready (rs:=[5]) (by kernel_rfl) (by simp) (AllReadyH.cons rfl (fun K hK=>?_) AllReadyH.nil)
  go_simp
  refine (CR.out V (HMW3.out 0).low).mono ?_
  rintro e V2 ⟨rfl,hb⟩
  have hq:Lies V2 ⟨rb,0,none⟩ [.pointer (some ⟨g,0,none⟩)]:=Lies.below hS hb
  have HSV4:=Lib.hid (HSV3.out.mem hb)
  have HMW4:Hid (∀ b,Mv B b w V2):=Lib.hid (fun b=>(HMW3.out b).trans (Mv.of hb (Nat.le_trans hB (HMW3.out 0).low.size)))
  clear HMW3 HSV3 hb
  have HSV3:=HSV4
  have HMW3:=HMW4
  clear HSV4 HMW4
  go_simp
  refine hK.out _ _ hq (fun hS=>?_)
  clear hK K hq
  (try dsimp only [Act.put]);(try simp only [List.setIfInBounds_toArray,List.set_cons_zero,List.set_cons_succ])
  refine Held.take (i:=6) (some 14) rfl (v:=?_) rfl (by kernel_rfl) (by kernel_rfl) (by kernel_rfl) (fun _ _ _ h=>h) (Or.inl ⟨by rfl,?_⟩) hS ?_
  rotate_left
  ·intro w' hw'
   go_simp
   try with_reducible rfl
  (try dsimp only [Act.put]);(try simp only [List.setIfInBounds_toArray,List.set_cons_zero,List.set_cons_succ])
  by_cases hy:y=(cr:Int)
  ·have e2:r2=.ok s':=by rw [← HR2.out];exact if_pos hy
   clear HR2
   subst e2 hy
   refine Held.take (i:=7) (some 15) rfl (v:=?_) rfl (by kernel_rfl) (by kernel_rfl) (by kernel_rfl) (fun _ _ _ h=>h) (Or.inl ⟨by rfl,?_⟩) hS ?_
   rotate_left
   ·intro w' hw'
    go_simp
    try with_reducible rfl
   (try dsimp only [Act.put]);(try simp only [List.setIfInBounds_toArray,List.set_cons_zero,List.set_cons_succ])
   refine wpAnyH_done (by kernel_rfl) ?_ _
   go_wp2
   go_end0
   exact ⟨rfl,HSV3.out,HMW3.out⟩
  ·have e2:r2=.error (5,s):=by rw [← HR2.out];exact if_neg hy
   clear HR2
   subst e2
   refine Held.take (i:=7) (some 15) rfl (v:=?_) rfl (by kernel_rfl) (by kernel_rfl) (by kernel_rfl) (fun _ _ _ h=>h) (Or.inl ⟨by rfl,?_⟩) hS ?_
   rotate_left
   ·intro w' hw'
    go_simp
    try with_reducible rfl
   (try dsimp only [Act.put]);(try simp only [List.setIfInBounds_toArray,List.set_cons_zero,List.set_cons_succ])
   refine wpAnyH_done (by kernel_rfl) ?_ _
   go_wp2_with fail
   refine (fail_any 5 s _).mono ?_
   rintro e v9 ⟨rfl,rfl⟩
   exact ⟨rfl,rfl,(HMW3.out 0).low⟩
end
end Rr
end Go.Proofs.YtggjconbgpfomaaGreat
