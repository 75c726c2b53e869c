/- 16 texts in one file, in build order. -/
import Derived.Test.YtggjconbgpfomaaGreatRows
import Derived.Test.YtggjconbgpfomaaGreatPart03
import Derived.Deep.RegionHeld3
import Derived.Test.YtggjconbgpfomaaGreatPart01
import Derived.Defers
import Derived.Recover
import Derived.Laws.Pointers
import Derived.Laws.StructEq
import Derived.Orders
import Derived.OpenShut
import Derived.ChangeArms
import Derived.DeepKeys
import Derived.OwnWalk
import Derived.Laws.CopyOwn
import Derived.Test.YtggjconbgpfomaaGreatPart02
import Derived.BigQuiet
import Derived.StillTailTactics
set_option linter.unusedVariables false
set_option linter.unusedSimpArgs false
set_option linter.unusedSectionVars false
set_option maxHeartbeats 8000000
set_option maxRecDepth 100000
namespace Go.Proofs.YtggjconbgpfomaaGreat
namespace Po
open Go Go.RowKit Go.ChangeShapes
open Tab
open Put (low lim)
open Go.Proofs.YtggjconbgpfomaaGreat.B (Own own_row)
theorem enc_good {T:Tab} {hd:Hd} {w:World} (ht:IsTab w hd T) (hm:May.tabMay T=true) :
  Calls Tryz.prog 11 #[.agg (T.cells hd).toArray] w fun e w'=>∃ v,e=.returned (.tuple #[v,I 0])∧Own w.heap.size w' v (Cd.sealB (Cd.bodyB T))∧Below w.heap.size w w':=by
 have hmf:∀ (fn:Fn) (first cap:Array Value) (w:World),(Instr.makeFunc fn first cap).run Tryz.prog w=.ok (.func fn first cap) w:=fun _ _ _ _=>rfl
 have few:=Cd.few_of ht hm
 have PS:Hid (∀ (V0:World) (wb tb k:Nat) (l:List Nat) (W:World),Wp w V0 wb tb (T.cells hd).toArray l (k+stepsT T) W→w.heap.size≤tb→Calls Tryz.prog 26 #[wif wb,.pointer (some ⟨tb,0,none⟩)] W fun e W'=>e=.returned (.tuple #[])∧Wp w V0 wb tb (T.cells hd).toArray (l++Cd.itemsB T) k W'):=Lib.hid (fun V0 wb tb k l W h htb=>wpass ht few.light h htb)
 have LN:=Lib.hid few.len
 have ST:=Lib.hid few.steps
 have B8:Hid (∀ x ∈ Cd.bodyB T,x < 256):=Lib.hid (Cd.B8.body T)
 have BD:Hid ([88,66,1]++Cd.itemsB T=Cd.bodyB T):=Lib.hid rfl
 clear few
 have C:=cells_ok ht
 have IA:Hid ((Tryz.prog.info? 31).map (·.size)=some (T.cells hd).length):=Lib.hid (by have:=C.size;rw [List.size_toArray] at this;rw [this];exact May.infoT)
 have MY0:Hid (∀ W,Below w.heap.size w W→Calls Tryz.prog 23 #[.agg (T.cells hd).toArray] W fun e w'=>e=.returned (.bool true)∧Below W.heap.size W w'):=Lib.hid (fun W hb=>by rw [← hm];exact May.may_any T hd W (ht.below hb))
 generalize hcc:T.cells hd=c at IA MY0 ⊢
 have h0:=(Below.refl w.heap.size w).alloc (Nat.le_refl _) (.cells c.toArray 31)
 have h1:=h0.alloc h0.size (.cells #[I 0] 35)
 have hg0:=heap_alloc_new w (.cells c.toArray 31)
 have hg1:=heap_alloc_new (w.alloc (.cells c.toArray 31)) (.cells #[I 0] 35)
 have hs0:(w.alloc (.cells c.toArray 31)).heap.size=w.heap.size+1:=by simp
 have hg2:((w.alloc (.cells c.toArray 31)).alloc (.cells #[I 0] 35)).heap[w.heap.size]?=some (.cells c.toArray 31 (0,0)):=by
  rw [Below.heap_alloc _ _ _ (by rw [hs0];omega)];exact hg0
 rw [hs0] at hg1
 go_enter_defers Tryz.func11,Tryz.ntmps11
 go_upto_region 2 with fail
 generalize World.alloc (World.alloc w _) _=v at h1 hg1 hg2 ⊢
 have MY:Hid (∀ W,Below v.heap.size v W→Calls Tryz.prog 23 #[.agg c.toArray] W fun e w'=>e=.returned (.bool true)∧Below W.heap.size W w'):=Lib.hid (fun W hb=>MY0.out W (h1.trans (hb.mono h1.size)))
 have HB0:=Lib.hid h1
 have HE:=Lib.hid hg1
 have HTB:=Lib.hid hg2
 have GE:Hid (w.heap.size≤w.heap.size+1):=Lib.hid (by omega)
 generalize hge:w.heap.size+1=ge at HE GE ⊢
 generalize hgt:w.heap.size=gt at HE HTB GE hge ⊢
 have HGT:=Lib.hid hgt
 clear h0 h1 hg0 hg1 hg2 hs0 hge hgt MY0
 obtain ⟨body,hbody⟩:∃ x,x=Cd.bodyB T:=⟨_,rfl⟩
 rw [← hbody] at LN B8 BD
 have HBODY:=Lib.hid hbody
 clear hbody
 generalize Cd.itemsB T=items at PS BD
 generalize stepsT T=st at PS ST
 rw [hcc] at PS
 go_wp2_with (refine Row.wpList_load_g 31 _ rfl (by first | rfl | go_simp) ⟨gt,0,none⟩ rfl c _ (by have:=Row.lies_of_block HTB.out;simpa using this) Tryz.underlying31 rfl IA.out ?_)
 refine (MY.out v (Below.refl _ _)).mono ?_
 rintro e v1 ⟨rfl,hb⟩
 have HB1:=Lib.hid hb
 clear hb
 go_wp2_with fail
 refine (Put.put_any none 0 [] 3 5784065 v1 (Go.Proofs.YtggjconbgpfomaaGreat.B.row_nil _ _ _ rfl) (by simp)).mono ?_
 rintro e v2 ⟨pv,rfl,hown,hb2⟩
 rw [List.nil_append,head_low] at hown
 obtain ⟨pa,pn,pc,rfl⟩:∃ a n c,pv=.slice a n c:=by rcases hown.2 with ⟨rfl,_⟩ | ⟨g,cap,cur,rfl,_⟩ <;> exact ⟨_,_,_,rfl⟩
 go_upto_region 5 with fail
 have hb12:=HB1.out.trans (hb2.mono HB1.out.size)
 have hb3:Below v2.heap.size v2 (v2.alloc (.cells #[.slice pa pn pc] 61)):=(Below.refl _ _).alloc (Nat.le_refl _) _
 have hn3:=heap_alloc_new v2 (.cells #[.slice pa pn pc] 61)
 have hw:Wp w (v2.alloc (.cells #[.slice pa pn pc] 61)) v2.heap.size gt c.toArray [88,66,1] (0+st) (v2.alloc (.cells #[.slice pa pn pc] 61)):=by
  have hv:w.heap.size≤v.heap.size:=HB0.out.size
  have hv1:=HB1.out.size
  have hv2:=hb2.size
  refine ⟨⟨by have:=ST.out;simp only [List.length_cons,List.length_nil];omega,by omega,.slice pa pn pc,hn3,?_⟩,HB0.out.trans ((hb12.trans (hb3.mono (by omega))).mono hv),?_,fun _ _ _ _ hj _=>hj⟩
  ·exact own_mono (Go.Proofs.YtggjconbgpfomaaGreat.B.own_below hown hb3) (by omega)
  ·have h5:=HTB.out
   have h6:=(hb12.block gt (Array.getElem?_eq_some_iff.1 h5).1).trans h5
   exact (hb3.block gt (Array.getElem?_eq_some_iff.1 h6).1).trans h6
 have he3:(v2.alloc (.cells #[.slice pa pn pc] 61)).heap[ge]?=some (.cells #[I 0] 35 (0,0)):=by
  have h5:=HE.out
  have h6:=(hb12.block ge (Array.getElem?_eq_some_iff.1 h5).1).trans h5
  exact (hb3.block ge (Array.getElem?_eq_some_iff.1 h6).1).trans h6
 generalize v2.alloc (.cells #[.slice pa pn pc] 61)=v3 at hw he3 ⊢
 generalize v2.heap.size=wb at hw ⊢
 have HE3:=Lib.hid he3
 have hcall:=Lib.hid (PS.out v3 wb gt 0 _ v3 hw (by have:=HGT.out;omega))
 clear hown hb2 hb12 hb3 hn3 hw he3 HB1 PS
 go_wp2_with fail
 refine hcall.out.mono ?_
 rintro e v4 ⟨rfl,h4⟩
 rw [BD.out] at h4
 obtain ⟨val,hval,hown⟩:=h4.st.2.2
 obtain ⟨a,cap,rfl,hrow⟩:=own_row hown B8.out
 have HW:=Lib.hid hval
 have HR:=Lib.hid hrow
 have HL:=Lib.hid h4.low
 have HE4:Hid (v4.heap[ge]?=some (.cells #[I 0] 35 (0,0))):=Lib.hid (h4.keep ge _ _ _ HE3.out (by decide))
 clear hcall h4 hown hval hrow
 obtain ⟨cr,hcr⟩:∃ n:Nat,CrcM.crc 65535 body=n:=⟨_,rfl⟩
 have hcr2:cr < 65536:=by rw [← hcr];exact CrcM.crc_lt _ _ (by decide)
 have SL:Hid (Cd.sealB body=body++low 2 (cr:Int)):=Lib.hid (by unfold Cd.sealB;rw [hcr])
 have CR:Hid (∀ W,Below v4.heap.size v4 W→Calls Tryz.prog 27 #[.slice a body.length cap] W fun e w'=>e=.returned (.int .u16 (cr:Int))∧Below W.heap.size W w'):=Lib.hid (fun W hb=>by rw [← hcr];exact CrcA.of_any a cap body W (HR.out.below hb))
 have PU:Hid (∀ W,Below v4.heap.size v4 W→Calls Tryz.prog 25 #[.slice a body.length cap,.int .i64 2,.int .i64 (cr:Int)] W fun e w'=>∃ v,e=.returned v∧Own W.heap.size w' v (Cd.sealB body)∧Below W.heap.size W w'):=Lib.hid (fun W hb=>by rw [SL.out];exact Put.put_any a cap body 2 cr W (HR.out.below hb) (by have:=LN.out;omega))
 obtain ⟨res,hres⟩:∃ x,x=Cd.sealB body:=⟨_,rfl⟩
 rw [← hres] at PU
 have RS:Hid (res=Cd.sealB (Cd.bodyB T)):=Lib.hid (by rw [hres,HBODY.out])
 clear hres
 generalize body.length=bl at HW CR PU
 have ew:wrap64 (cr:Int)=cr:=IntWalk.wrap64_in _ (by omega)
 have ew2:IntKind.i64.wrap (cr:Int)=cr:=by rw [IntKind.wrap_i64];omega
 have q1:∀ p:QB.By v4.heap.size v4,p.world.cell? ⟨wb,0,none⟩=some (.slice a bl cap):=fun p=>by rw [cell_of_row _ _ _ _ _ _ ((p.below.block wb (Array.getElem?_eq_some_iff.1 HW.out).1).trans HW.out)];rfl
 clear hcr
 go_upto_region 6 with fail
 refine wp_region_noPanic ?_
 refine QT.region1 v4.heap.size 10 (by kernel_rfl) (by kernel_rfl) (by kernel_rfl) (by kernel_rfl) (v:=.pointer (some ⟨wb,0,none⟩)) (fun _ _ _ h=>h) (Or.inl ⟨by rfl,fun w'=>by go_simp;try rfl⟩) ?_
 dsimp only [Act.put]
 simp only [List.setIfInBounds_toArray,List.set_cons_zero,List.set_cons_succ,List.take_succ_cons,List.take_zero,List.drop_succ_cons,List.drop_zero]
 repeat (quiet_step (first
  | (go_at_call 27;with_reducible exact QB.call_of (Nat.le_refl _) (fun b=>CR.out _ b))))
 refine wpQuiet_nil ?_
 intro _ hw'
 obtain ⟨p,rfl⟩:=hw'
 have HP:=Lib.hid p.below
 clear q1
 generalize p.world=v5 at HP ⊢
 (try simp only [List.drop_succ_cons,List.drop_zero])
 go_wp2_with fail
 refine (PU.out v5 HP.out).mono ?_
 rintro e v6 ⟨rv,rfl,hown,hb⟩
 have h6:v6.heap[ge]?=some (.cells #[I 0] 35 (0,0)):=by
  have h5:=(HP.out.block ge (Array.getElem?_eq_some_iff.1 HE4.out).1).trans HE4.out
  exact (hb.block ge (Array.getElem?_eq_some_iff.1 h5).1).trans h5
 have c6:v6.cell? ⟨ge,0,none⟩=some (I 0):=by rw [cell_of_row _ _ _ _ _ _ h6];rfl
 have f6:v6.frozen? ⟨ge,0,none⟩=false:=frozen_of_row _ _ _ _ _ h6
 have hst:=setCell_eq_setRow v6 ge 0 #[I 0] 35 (0,0) (I 0) h6
 have HO:=Lib.hid hown
 have H6:=Lib.hid h6
 have HB6:Hid (Below w.heap.size w v6):=Lib.hid (by
  have:=HP.out.trans (hb.mono HP.out.size)
  exact HL.out.trans (this.mono HL.out.size))
 have HSZ:Hid (v4.heap.size≤v5.heap.size):=Lib.hid HP.out.size
 clear hown hb h6
 go_wp2_with fail
 refine NoPanic.normal ?_
 try rw [hst]
 go_wp2_with fail
 have hc:=setRow_heap v6 ge #[I 0] #[I 0] _ _ H6.out
 have hB:=below_setRow HB6.out (show w.heap.size≤ge by have:=GE.out;have:=HGT.out;omega) #[I 0]
 have hO:Own v5.heap.size (v6.setRow ge #[I 0]) rv res:=by
  refine ⟨HO.out.1,?_⟩
  rcases HO.out.2 with h0 | ⟨g,cp,cur,h1,h2,h3,h4⟩
  ·exact .inl h0
  ·refine .inr ⟨g,cp,cur,h1,h2,?_,h4⟩
   rw [setRow_other _ _ _ _ (fun e=>by subst e;rw [H6.out] at h3;cases h3)]
   exact h3
 generalize v6.setRow ge #[I 0]=v7 at hc hB hO ⊢
 refine leaves_cons (f:=21) (args:=#[.pointer (some ⟨ge,0,none⟩)]) (by simp) (by simp [go_sem]) ?_
 refine (enc_idle ge 0 v7 hc).mono ?_
 rintro e u' w'' ⟨rfl,rfl,w1,hb1,rfl⟩
 have hc2:=setRow_heap w1 ge #[I 0] #[I 0] _ _ ((hb1.block ge (Array.getElem?_eq_some_iff.1 hc).1).trans hc)
 have hBB:=below_setRow (hB.trans (hb1.mono hB.size)) (show w.heap.size≤ge by have:=GE.out;have:=HGT.out;omega) #[I 0]
 have hcell:(w1.setRow ge #[I 0]).cell? ⟨ge,0,none⟩=some (I 0):=by rw [cell_of_row _ _ _ _ _ _ hc2];rfl
 have hO2:Own w.heap.size (w1.setRow ge #[I 0]) rv res:=by
  have h0:=Go.Proofs.YtggjconbgpfomaaGreat.B.own_below (own_mono hO (show w.heap.size≤v5.heap.size from Nat.le_trans HL.out.size HSZ.out)) hb1
  refine ⟨h0.1,?_⟩
  rcases h0.2 with h0 | ⟨g,cp,cur,h1,h2,h3,h4⟩
  ·exact .inl h0
  ·refine .inr ⟨g,cp,cur,h1,h2,?_,h4⟩
   rw [setRow_other _ _ _ _ (fun e=>by rw [e,(hb1.block ge (Array.getElem?_eq_some_iff.1 hc).1).trans hc] at h3;cases h3)]
   exact h3
 simp [Leaves,settle,results,Tryz.results11,go_sem,hcell]
 rw [RS.out] at hO2
 exact ⟨hO2,hBB⟩
end Po
namespace Rd
open Go.ChangeShapes Go.WideShapes Go.ChangeAt Go.RowKit
open B Put
structure But (g:Nat) (w w':World):Prop where
 os:w'.os=w.os
 tape:w'.tape=w.tape
 output:w'.output=w.output
 size:w.heap.size≤w'.heap.size
 block:∀ k,k < w.heap.size→k ≠ g→w'.heap[k]?=w.heap[k]?
 shape:∀ k,k < w.heap.size→w'.shape? k=w.shape? k
theorem But.refl (g:Nat) (w:World):But g w w:=⟨rfl,rfl,rfl,Nat.le_refl _,fun _ _ _=>rfl,fun _ _=>rfl⟩
theorem shape_set (g i:Nat) (w:World) (v:Value) (k:Nat) (hk:k < w.heap.size):(w.setCell ⟨g,i,none⟩ v).shape? k=w.shape? k:=by
 by_cases hg:k=g
 ·subst hg
  unfold World.shape? World.setCell
  simp only [Array.getElem?_modify,if_true]
  cases h:w.heap[k]? with
  | none=>rfl
  | some o=>cases o <;> simp
 ·unfold World.shape?
  rw [Below.heap_setCell _ _ _ _ hg]
theorem But.trans {g:Nat} {a b c:World} (h:But g a b) (k:But g b c):But g a c :=
 ⟨k.os.trans h.os,k.tape.trans h.tape,k.output.trans h.output,Nat.le_trans h.size k.size,fun i hi hg=>(k.block i (Nat.lt_of_lt_of_le hi h.size) hg).trans (h.block i hi hg),fun i hi=>(k.shape i (Nat.lt_of_lt_of_le hi h.size)).trans (h.shape i hi)⟩
theorem But.of {g:Nat} {w w':World} (h:Below w.heap.size w w'):But g w w':=⟨h.os,h.tape,h.output,h.size,fun k hk _=>h.block k hk,fun k hk=>by unfold World.shape?;rw [h.block k hk]⟩
theorem But.below {g B:Nat} {w w':World} (h:But g w w') (hB:B≤w.heap.size) (hg:B≤g):Below B w w':=⟨h.os,h.tape,h.output,h.size,fun k hk=>h.block k (by omega) (by omega)⟩
theorem But.set (g i:Nat) (w:World) (v:Value):But g w (w.setCell ⟨g,i,none⟩ v) :=
 ⟨rfl,rfl,rfl,by simp [World.setCell],fun k _ hk=>Below.heap_setCell _ _ _ _ hk,fun k hk=>shape_set g i w v k hk⟩
theorem But.cell {g:Nat} {w w':World} (h:But g w w') {p:Addr} (hp:p.block < w.heap.size) (hg:p.block ≠ g):w'.cell? p=w.cell? p:=World.cell?_of_block (w:=w) (h.block p.block hp hg)
theorem But.row {g:Nat} {w w':World} (h:But g w w') {ad:Option Addr} {l:List Nat} (hr:Row w ad l) (hg:l ≠ []→∀ x,ad=some x→x.block ≠ g):Row w' ad l:=by
 refine ⟨hr.1,hr.2.1,?_⟩
 by_cases hl:l=[]
 ·exact .inl hl
 replace hg:=hg hl
 rcases hr.2.2 with h1 | ⟨x,hx,hc⟩
 ·exact .inl h1
 ·refine .inr ⟨x,hx,fun i hi=>?_⟩
  have hlt:=World.block_lt_of_cell? w _ (hc i hi)
  refine (h.cell hlt ?_).trans (hc i hi)
  have:=hg x hx
  unfold Addr.add
  split <;> exact this
structure Rd (w:World) (g:Nat) (ad:Option Addr) (cap:Nat) (l:List Nat) (k:Nat) (code fat:Int):Prop where
 lt:g < w.heap.size
 row:Row w ad l
 off:l ≠ []→∀ x,ad=some x→x.block ≠ g
 c0:w.cell? ⟨g,0,none⟩=some (.slice ad l.length cap)
 c1:w.cell? ⟨g,1,none⟩=some (.int .i64 k)
 c2:w.cell? ⟨g,2,none⟩=some (.int .i64 code)
 c3:w.cell? ⟨g,3,none⟩=some (.int .i64 fat)
 fz:∀ i,w.frozen? ⟨g,i,none⟩=false
 cap_le:l.length≤cap
theorem Rd.but {w w':World} {g g':Nat} {ad:Option Addr} {cap:Nat} {l:List Nat} {k:Nat} {code fat:Int} (h:Rd w g ad cap l k code fat) (hb:But g' w w') (hg:g ≠ g') (hx:l ≠ []→∀ x,ad=some x→x.block ≠ g'):Rd w' g ad cap l k code fat :=
 ⟨Nat.lt_of_lt_of_le h.lt hb.size,hb.row h.row hx,h.off,(hb.cell h.lt hg).trans h.c0,(hb.cell h.lt hg).trans h.c1,(hb.cell h.lt hg).trans h.c2,(hb.cell h.lt hg).trans h.c3,
  fun i=>(World.frozen?_of_block (w:=w) (hb.block g h.lt hg)).trans (h.fz i),h.cap_le⟩
theorem Rd.below {w w':World} {g:Nat} {ad:Option Addr} {cap:Nat} {l:List Nat} {k:Nat} {code fat:Int} (h:Rd w g ad cap l k code fat) (hb:Below w.heap.size w w'):Rd w' g ad cap l k code fat :=
 ⟨Nat.lt_of_lt_of_le h.lt hb.size,h.row.below hb,h.off,(hb.cell h.lt).trans h.c0,(hb.cell h.lt).trans h.c1,(hb.cell h.lt).trans h.c2,(hb.cell h.lt).trans h.c3,
  fun i=>(hb.frozen (p:=⟨g,i,none⟩) h.lt).trans (h.fz i),h.cap_le⟩
theorem clone_any (ad:Option Addr) (cap:Nat) (l:List Nat) (w:World) (hr:Row w ad l) (hl:l.length≤10000) (hnil:ad=none→cap=0) :
  Calls Tryz.prog 82 #[.slice ad l.length cap] w fun e w'=>∃ v,e=.returned v∧Own w.heap.size w' v l∧Below w.heap.size w w':=by
 have Hr:=Lib.hid hr
 clear hr
 cases ad with
 | none =>
  have h0:=hnil rfl
  subst h0
  have hl0:l=[]:=by
   rcases Hr.out.2.2 with h | ⟨x,hx,_⟩
   ·exact h
   ·cases hx
  subst hl0
  have he:∀ w:World,(binOp .eql 34 (.slice none 0 0) (.slice none 0 0)).run Tryz.prog w=.ok (.bool true) w:=fun _=>rfl
  go_enter Tryz.func82,Tryz.ntmps82
  go_wp2
  go_ret
  exact ⟨_,rfl,own_nil _ _,Below.refl _ _⟩
 | some x =>
  clear hnil
  have he:∀ (w:World) (n:Nat),(binOp .eql 34 (.slice (some x) n cap) (.slice none 0 0)).run Tryz.prog w=.ok (.bool false) w:=fun _ _=>rfl
  go_enter Tryz.func82,Tryz.ntmps82
  have hown:Own w.heap.size (w.alloc (.cells #[] 5)) (.slice (some ⟨w.heap.size,0,none⟩) 0 0) [] :=
   ⟨rfl,.inr ⟨w.heap.size,0,#[],rfl,Nat.le_refl _,heap_alloc_new w _,Nat.le_refl _,by unfold maxLen;omega,rfl,rfl⟩⟩
  have Hown:=Lib.hid hown
  clear hown
  go_wp2_with (at_builtin;refine wpList_more rfl _ _ rfl w.heap.size _ [] rfl Hown.out x cap l rfl (Hr.out.below ((Below.refl _ _).alloc (Nat.le_refl _) _)) ?hB ?len ?_)
  case hB=>simp
  case len=>simp;omega
  intro v w' hown' hb
  have hgo:Below w.heap.size w w':=((Below.refl _ _).alloc (Nat.le_refl _) _).trans hb
  have Hown':=Lib.hid hown'
  clear hown'
  go_wp2
  go_ret
  exact ⟨_,rfl,Hown'.out,hgo⟩
theorem new_any (ad:Option Addr) (cap:Nat) (l:List Nat) (w:World) (hr:Row w ad l) (hl:l.length≤10000) (hnil:ad=none→cap=0) :
  Calls Tryz.prog 30 #[.slice ad l.length cap] w fun e w'=>∃ g ad' cap',e=.returned (.pointer (some ⟨g,0,none⟩))∧w.heap.size≤g∧(∀ x,ad'=some x→w.heap.size≤x.block∧x.block < g)∧Rd w' g ad' cap' l 0 0 0∧Below w.heap.size w w':=by
 have Hr:=Lib.hid hr
 clear hr
 go_enter Tryz.func30,Tryz.ntmps30
 go_wp2_with fail
 refine (clone_any ad cap l _ Hr.out hl hnil).mono ?_
 rintro e w1 ⟨v,rfl,hown,hbel⟩
 obtain ⟨a1,cap1,rfl,hr1⟩:=own_row hown Hr.out.2.1
 have Hown:=Lib.hid hown
 have Hr1:=Lib.hid hr1
 clear hown hr1 hnil
 go_wp2
 go_ret
 refine ⟨w1.heap.size,a1,cap1,rfl,hbel.size,?_,?_,hbel.alloc hbel.size _⟩
 ·intro x hx
  subst hx
  exact Hown.out.lt x.block rfl
 ·refine ⟨by simp,Hr1.out.below ((Below.refl _ _).alloc (Nat.le_refl _) _),fun _ x hx e=>?_,by simp,by simp,by simp,by simp,fun i=>by unfold World.frozen?;rw [heap_alloc_new];simp,?_⟩
  ·subst hx
   have:=(Hown.out.lt x.block rfl).2
   omega
  ·have h:=Hown.out
   rcases h.2 with ⟨h1,h2⟩ | ⟨g',c',cur,h1,h2,h3,h4,h5⟩
   ·omega
   ·cases h1;exact h4
theorem new_own (ad:Option Addr) (cap:Nat) (l:List Nat) (w:World) (hr:Row w ad l) (hl:l.length≤10000) (hnil:ad=none→cap=0) :
  Calls Tryz.prog 30 #[.slice ad l.length cap] w fun e w'=>∃ g ad' cap',e=.returned (.pointer (some ⟨g,0,none⟩))∧w.heap.size≤g∧(∀ x,ad'=some x→w.heap.size≤x.block∧x.block < g)∧Rd w' g ad' cap' l 0 0 0∧Own w.heap.size w' (.slice ad' l.length cap') l∧w'.shape? g=some (130,4)∧Below w.heap.size w w':=by
 have Hr:=Lib.hid hr
 clear hr
 go_enter Tryz.func30,Tryz.ntmps30
 go_wp2_with fail
 refine (clone_any ad cap l _ Hr.out hl hnil).mono ?_
 rintro e w1 ⟨v,rfl,hown,hbel⟩
 obtain ⟨a1,cap1,rfl,hr1⟩:=own_row hown Hr.out.2.1
 have Hown:=Lib.hid hown
 have Hr1:=Lib.hid hr1
 clear hown hr1 hnil
 go_wp2
 go_ret
 refine ⟨w1.heap.size,a1,cap1,rfl,hbel.size,?_,?_,own_below Hown.out ((Below.refl _ _).alloc (Nat.le_refl _) _),by unfold World.shape?;rw [heap_alloc_new];rfl,hbel.alloc hbel.size _⟩
 ·intro x hx
  subst hx
  exact Hown.out.lt x.block rfl
 ·refine ⟨by simp,Hr1.out.below ((Below.refl _ _).alloc (Nat.le_refl _) _),fun _ x hx e=>?_,by simp,by simp,by simp,by simp,fun i=>by unfold World.frozen?;rw [heap_alloc_new];simp,?_⟩
  ·subst hx
   have:=(Hown.out.lt x.block rfl).2
   omega
  ·have h:=Hown.out
   rcases h.2 with ⟨h1,h2⟩ | ⟨g',c',cur,h1,h2,h3,h4,h5⟩
   ·omega
   ·cases h1;exact h4
theorem left_any (g:Nat) (ad:Option Addr) (cap:Nat) (l:List Nat) (k:Nat) (code fat:Int) (w:World) (h:Rd w g ad cap l k code fat) (hl:l.length≤10000) (hk:k≤l.length) :
  Calls Tryz.prog 85 #[.pointer (some ⟨g,0,none⟩)] w fun e w'=>e=.returned (.int .i64 (l.length - k:Int))∧∃ n,w'=w.drewN n:=by
 have h0:=h.c0
 have h1:=h.c1
 clear h
 go_enter Tryz.func85,Tryz.ntmps85
 go_wp2
 go_quiet (fail)
 go_wp2
 go_ret
 exact ⟨rfl,_,rfl⟩
theorem at_any (g:Nat) (ad:Option Addr) (cap:Nat) (l:List Nat) (k:Nat) (code fat:Int) (w:World) (h:Rd w g ad cap l k code fat) :
  Calls Tryz.prog 84 #[.pointer (some ⟨g,0,none⟩)] w fun e w'=>e=.returned (.int .i64 k)∧w=w':=by
 have h1:=h.c1
 clear h
 go_enter Tryz.func84,Tryz.ntmps84
 go_wp2
 go_ret
 exact ⟨rfl,rfl⟩
theorem fault_any (g:Nat) (ad:Option Addr) (cap:Nat) (l:List Nat) (k:Nat) (code fat:Int) (w:World) (h:Rd w g ad cap l k code fat) :
  Calls Tryz.prog 142 #[.pointer (some ⟨g,0,none⟩)] w fun e w'=>e=.returned (.agg #[.int .i64 code,.int .i64 fat])∧Below w.heap.size w w':=by
 have h2:=h.c2
 have h3:=h.c3
 have hg:=h.lt
 clear h
 go_enter Tryz.func142,Tryz.ntmps142
 go_wp2
 refine bodyPost_ret (v:=.agg #[.int .i64 code,.int .i64 fat]) ?_ rfl ⟨rfl,(Below.refl _ _).alloc (Nat.le_refl _) _⟩
 exact results_cell_row rfl _ _ w.heap.size 40 #[.int .i64 code,.int .i64 fat] (0,0) _ rfl (heap_alloc_new w _) Tryz.underlying40 rfl (by kernel_rfl)
end Rd
namespace Nx
open Go.ChangeShapes Go.WideShapes Go.ChangeAt Go.RowKit
open B Put Rd
def be (l:List Nat):Nat:=l.foldl (fun a x=>256*a+x) 0
theorem be_snoc (l:List Nat) (x:Nat):be (l++[x])=256*be l+x:=by unfold be;rw [List.foldl_append];rfl
theorem be_cons (l:List Nat) (x:Nat):be (x :: l)=x*256 ^ l.length+be l:=by
 have h:∀ (m:List Nat) (a:Nat),m.foldl (fun a x=>256*a+x) a=a*256 ^ m.length+m.foldl (fun a x=>256*a+x) 0:=by
  intro m
  induction m with
  | nil=>intro a;simp
  | cons y m ih =>
   intro a
   rw [List.foldl_cons,List.foldl_cons,ih (256*a+y),ih (256*0+y),List.length_cons,Nat.pow_succ]
   rw [Nat.mul_zero,Nat.zero_add,Nat.add_mul,Nat.mul_comm 256 a,Nat.mul_assoc a 256,Nat.mul_comm 256 (256 ^ m.length)]
   omega
 unfold be
 rw [List.foldl_cons,h l]
 simp
theorem be_lt (l:List Nat) (h:∀ x ∈ l,x < 256):be l < 256 ^ l.length:=by
 induction l with
 | nil=>decide
 | cons x l ih =>
  rw [be_cons,List.length_cons,Nat.pow_succ]
  have h1:=ih fun y hy=>h y (List.mem_cons_of_mem _ hy)
  have h2:=h x (List.mem_cons_self ..)
  have h3:x*256 ^ l.length≤255*256 ^ l.length:=Nat.mul_le_mul_right _ (by omega)
  omega
def val (l:List Nat) (k s:Nat):Nat:=be ((l.drop k).take s)
theorem val_succ (l:List Nat) (k s:Nat) (h:k+s < l.length):val l k (s+1)=256*val l k s+l.getD (k+s) 0:=by
 unfold val
 rw [List.take_succ_eq_append_getElem (by rw [List.length_drop];omega),be_snoc,List.getElem_drop]
 rw [List.getD_eq_getElem?_getD,List.getElem?_eq_getElem (by omega),Option.getD_some]
theorem val_lt (l:List Nat) (k s:Nat) (h:∀ x ∈ l,x < 256):val l k s < 256 ^ s:=by
 have h1:=be_lt ((l.drop k).take s) fun x hx=>h x (List.mem_of_mem_drop (List.mem_of_mem_take hx))
 refine Nat.lt_of_lt_of_le h1 (Nat.pow_le_pow_right (by decide) ?_)
 rw [List.length_take];omega
theorem or_step (v y:Nat) (hv:v < 72057594037927936) (hy:y < 256):bits .or .u64 (IntKind.u64.wrap ((v:Int)*256)) (y:Int)=((256*v+y:Nat):Int):=by
 have h1:IntKind.u64.wrap ((v:Int)*256)=((256*v:Nat):Int):=by rw [IntKind.wrap_u64];omega
 rw [h1,u64_or_nat _ _ (by omega) (by omega)]
 congr 1
 have h2:256*v=v <<< 8:=by rw [Nat.shiftLeft_eq];omega
 rw [h2,Nat.shiftLeft_add_eq_or_of_lt (show y < 2 ^ 8 by omega)]
theorem val_small (l:List Nat) (k s:Nat) (h:∀ x ∈ l,x < 256) (hs:s < 8):val l k s < 72057594037927936 :=
 Nat.lt_of_lt_of_le (val_lt l k s h) (by rw [show 72057594037927936=256 ^ 7 from rfl];exact Nat.pow_le_pow_right (by decide) (by omega))
theorem val_step (l:List Nat) (k q:Nat) (hq:k+q < l.length) (h8:q < 8) (h:∀ x ∈ l,x < 256) :
  bits .or .u64 (IntKind.u64.wrap ((val l k q:Nat)*256:Int)) (l.getD (k+q) 0:Nat)=(val l k (q+1):Nat):=by
 rw [val_succ l k q hq,or_step _ _ (val_small l k q h h8)]
 rw [List.getD_eq_getElem?_getD,List.getElem?_eq_getElem hq]
 exact h _ (List.getElem_mem hq)
abbrev fault (code fat:Int):Value:=.iface 40 (.agg #[.int .i64 code,.int .i64 fat])
theorem next_dead (g:Nat) (ad:Option Addr) (cap:Nat) (l:List Nat) (k s:Nat) (code fat:Int) (w:World) (h:Rd w g ad cap l k code fat) (hne:code ≠ 0) :
  Calls Tryz.prog 141 #[.pointer (some ⟨g,0,none⟩),.int .i64 s] w fun e w'=>e=.panicked [{ v:=fault code fat,recovered:=false }]∧w=w':=by
 have h2:=h.c2
 have h3:=h.c3
 have hpan:∀ (u:TypeId) (v:Value) (w:World),(Instr.panic (.iface u v)).run Tryz.prog w=.halt (.panic (.iface u v)) w:=fun _ _ _=>rfl
 clear h
 go_enter Tryz.func141,Tryz.ntmps141
 go_wp2
 exact ⟨rfl,rfl,rfl⟩
theorem next_end (g:Nat) (ad:Option Addr) (cap:Nat) (l:List Nat) (k s:Nat) (w:World) (h:Rd w g ad cap l k 0 0) (hl:l.length≤10000) (hk:k≤l.length) (hs:l.length < k+s) :
  Calls Tryz.prog 141 #[.pointer (some ⟨g,0,none⟩),.int .i64 s] w fun e w'=>e=.panicked [{ v:=fault 2 l.length,recovered:=false }]∧∃ n,w'=w.drewN n:=by
 have h0:=h.c0
 have h2:=h.c2
 have h3:=h.c3
 have hpan:∀ (u:TypeId) (v:Value) (w:World),(Instr.panic (.iface u v)).run Tryz.prog w=.halt (.panic (.iface u v)) w:=fun _ _ _=>rfl
 have HR:=Lib.hid h
 clear h
 go_enter Tryz.func141,Tryz.ntmps141
 go_wp2_with fail
 refine (left_any g ad cap l k 0 0 _ HR.out hl hk).mono ?_
 rintro e w1 ⟨rfl,n,rfl⟩
 have ht:decide ((s:Int) > (l.length:Int) - (k:Int))=true:=decide_eq_true (by omega)
 go_wp2
 exact ⟨rfl,rfl,_,rfl⟩
theorem next_ok (g:Nat) (ad:Option Addr) (cap:Nat) (l:List Nat) (k s:Nat) (w:World) (h:Rd w g ad cap l k 0 0) (hl:l.length≤10000) (hs:k+s≤l.length) (h8:s≤8) :
  Calls Tryz.prog 141 #[.pointer (some ⟨g,0,none⟩),.int .i64 s] w fun e w'=>e=.returned (.int .u64 (val l k s:Nat))∧∃ n,w'=w.drewN n:=by
 have h0:=h.c0
 have h1:=h.c1
 have h2:=h.c2
 have h3:=h.c3
 have h9:=h.cap_le
 have HR:=Lib.hid h
 clear h
 by_cases hs0:s=0
 ·subst hs0
  go_enter Tryz.func141,Tryz.ntmps141
  go_wp2_with fail
  refine (left_any g ad cap l k 0 0 _ HR.out hl (by omega)).mono ?_
  rintro e w1 ⟨rfl,n,rfl⟩
  have ht:decide ((0:Int) > (l.length:Int) - (k:Int))=false:=decide_eq_false (by omega)
  go_wp2
  go_quiet (fail)
  generalize (if cap=k then ad else Option.map (fun x=>x.add k) ad)=y
  go_wp2
  refine wp_loop_rounds 1 ?_
  rw [rounds_succ]
  go_wp2
  go_ret
  exact ⟨rfl,n+nq,by simp [World.drewN]⟩
 ·go_enter Tryz.func141,Tryz.ntmps141
  go_wp2_with fail
  refine (left_any g ad cap l k 0 0 _ HR.out hl (by omega)).mono ?_
  rintro e w1 ⟨rfl,n,rfl⟩
  have ht:decide ((s:Int) > (l.length:Int) - (k:Int))=false:=decide_eq_false (by omega)
  obtain ⟨x,rfl,hcl⟩:=HR.out.row.cells (k:=k) (by omega)
  have Hcl:=Lib.hid hcl
  clear hcl
  have hck:¬ cap=k:=by omega
  have hkc:k≤cap:=by omega
  have hksc:k+s≤cap:=by omega
  go_wp2
  go_quiet (fail)
  go_wp2
  have Hlt:=Lib.hid HR.out.row.2.1
  clear h0 h1 h2 h3 ht
  go_loop [5,46] (fun t i=>∃ q:Nat,q≤s∧i=.int .i64 q∧t=.int .u64 (val l k q:Nat)) (fun _ i=>s - (intOf i).toNat)
  case atStart=>exact ⟨0,Nat.zero_le _,rfl,rfl⟩
  case round =>
   obtain ⟨q,hq,rfl,rfl⟩:=hrel
   by_cases hlt:q < s
   ·have hcell:w.cell? ((x.add k).add q)=some (.int .u8 (l.getD (k+q) 0:Nat)):=by rw [addr_add];exact Hcl.out _ (by omega)
    have hy:l.getD (k+q) 0 < 256:=HR.out.row.lt _ (by omega)
    have hv:=val_step l k q (by omega) (by omega) Hlt.out
    have hqk:q < k+s - k:=by omega
    generalize l.getD (k+q) 0=y at hcell hv hy
    generalize hv1:val l k (q+1)=v1 at hv
    have Hv1:=Lib.hid hv1
    clear hv1
    generalize val l k q=v0 at hv
    go_wp2
    go_round
    case rel=>exact ⟨.int .u64 (v1:Int),.int .u8 (y:Int),.int .i64 ((q:Int)+1),⟨q+1,by omega,by go_num,by rw [Hv1.out]⟩,rfl,rfl,rfl⟩
    case measure=>simp [intOf];omega
   ·obtain rfl:q=s:=by omega
    go_wp2
    go_ret
    exact ⟨rfl,n+nq,by simp [World.drewN]⟩
end Nx
namespace Num
open Go.ChangeShapes Go.WideShapes Go.ChangeAt Go.RowKit
open B Put Rd Nx
theorem wpS_region_draw {P:Program} {Q:Exit→Act→List Frame→World→Prop} {a:Act} {cs:List Frame} {w:World} {id:Nat} {ops:Array Oper}
  (h:∀ t,wpOpsS P ops Q (Region.schedule (P.follows .mixedOrders) ops t) a cs { w with drawn:=w.drawn+1 }):(Code.region id ops true).wpS P Q a cs w :=
 fun b k hb hr=>let ⟨e,a',cs',w',q,r⟩:=wp_opsS _ a cs _ (h _) b k hb hr;⟨e,a',cs',w',q,.of_steps (.one step_region_draw) r⟩
theorem assert_ok (v:Value) (w:World):(Instr.typeAssert (.iface 40 v) 20 40 true).run Tryz.prog w=.ok (.tuple #[v,.bool true]) w:=by
 simp [Instr.typeAssert,run_underlying Tryz.underlying40,go_sem,Result.andThen]
theorem assert_nil (w:World):(Instr.typeAssert .nilIface 20 40 true).run Tryz.prog w=.ok (.tuple #[.agg #[.int .i64 0,.int .i64 0],.bool false]) w:=by
 have hz:(Tryz.prog.info? 40).map (·.zero)=some (some (.agg #[.int .i64 0,.int .i64 0])):=by kernel_rfl
 obtain ⟨j,hj,hz'⟩:=Option.map_eq_some_iff.1 hz
 simp [Instr.typeAssert,run_underlying Tryz.underlying40,go_sem,Result.andThen,typeInfo,zeroValue,hj,hz']
theorem Rd.keeps {w:World} {g:Nat} {ad:Option Addr} {cap:Nat} {l:List Nat} {k:Nat} {c0 f0:Int} (h:Rd w g ad cap l k c0 f0) (code fat:Int) :
  Rd ((w.setCell ⟨g,2,none⟩ (.int .i64 code)).setCell ⟨g,3,none⟩ (.int .i64 fat)) g ad cap l k code fat:=by
 have hb:But g w ((w.setCell ⟨g,2,none⟩ (.int .i64 code)).setCell ⟨g,3,none⟩ (.int .i64 fat)):=(But.set g 2 w _).trans (But.set g 3 _ _)
 refine ⟨Nat.lt_of_lt_of_le h.lt hb.size,hb.row h.row h.off,h.off,?_,?_,?_,?_,fun i=>?_,h.cap_le⟩
 ·simp [World.cell?_setCell_other,h.c0]
 ·simp [World.cell?_setCell_other,h.c1]
 ·simp [World.cell?_setCell_other,World.cell?_setCell_same,h.c2]
 ·simp [World.cell?_setCell_other,World.cell?_setCell_same,h.c3]
 ·simp [h.fz]
theorem Rd.moves {w:World} {g:Nat} {ad:Option Addr} {cap:Nat} {l:List Nat} {k:Nat} {c0 f0:Int} (h:Rd w g ad cap l k c0 f0) (k':Nat) :
  Rd (w.setCell ⟨g,1,none⟩ (.int .i64 k')) g ad cap l k' c0 f0:=by
 have hb:But g w (w.setCell ⟨g,1,none⟩ (.int .i64 k')):=But.set g 1 w _
 refine ⟨Nat.lt_of_lt_of_le h.lt hb.size,hb.row h.row h.off,h.off,?_,?_,?_,?_,fun i=>?_,h.cap_le⟩
 ·simp [World.cell?_setCell_other,h.c0]
 ·simp [World.cell?_setCell_same,h.c1]
 ·simp [World.cell?_setCell_other,h.c2]
 ·simp [World.cell?_setCell_other,h.c3]
 ·simp [h.fz]
theorem keep_nil (g:Nat) (w:World) :
  Calls Tryz.prog 140 #[.pointer (some ⟨g,0,none⟩),.nilIface] w fun e w'=>e=.returned (.tuple #[])∧Below w.heap.size w w':=by
 have ha:=assert_ok
 have hb:=assert_nil
 go_enter Tryz.func140,Tryz.ntmps140
 go_wp2
 go_end0
 exact ⟨rfl,(Below.refl _ _).alloc (Nat.le_refl _) _⟩
theorem keep_fault (g:Nat) (ad:Option Addr) (cap:Nat) (l:List Nat) (k:Nat) (c0 f0 code fat:Int) (w:World) (h:Rd w g ad cap l k c0 f0) :
  Calls Tryz.prog 140 #[.pointer (some ⟨g,0,none⟩),fault code fat] w fun e w'=>e=.returned (.tuple #[])∧But g w w'∧Rd w' g ad cap l k code fat:=by
 have h0:=h.c0
 have h1:=h.c1
 have h2:=h.c2
 have h3:=h.c3
 have h4:=h.fz 2
 have h5:=h.fz 3
 have hg:=h.lt
 have HR:=Lib.hid h
 clear h
 have ha:=assert_ok
 have hb:=assert_nil
 go_enter Tryz.func140,Tryz.ntmps140
 go_wp2
 have hk:=Rd.keeps HR.out code fat
 have hb2:But g w ((w.setCell ⟨g,2,none⟩ (.int .i64 code)).setCell ⟨g,3,none⟩ (.int .i64 fat)):=(But.set g 2 w _).trans (But.set g 3 _ _)
 have hb3:=(Below.refl _ ((w.setCell ⟨g,2,none⟩ (.int .i64 code)).setCell ⟨g,3,none⟩ (.int .i64 fat))).alloc (Nat.le_refl _) (.cells #[.int .i64 code,.int .i64 fat] 40)
 go_end0
 exact ⟨rfl,hb2.trans (But.of hb3),hk.below hb3⟩
theorem num_panic (b g:Nat) (ad:Option Addr) (cap:Nat) (l:List Nat) (k:Nat) (c0 f0 code fat:Int) (w:World) (hbox:w.cell? ⟨b,0,none⟩=some (.pointer (some ⟨g,0,none⟩))) (h:Rd w g ad cap l k c0 f0) :
  CallsD Tryz.prog 139 #[.pointer (some ⟨b,0,none⟩)] (.panicking [{ v:=fault code fat,recovered:=false }]) w fun e u' w' =>
   e=.returned (.tuple #[])∧u'=.panicking [{ v:=fault code fat,recovered:=true }]∧But g w w'∧Rd w' g ad cap l k code fat:=by
 refine callsD_of_wpS Tryz.func139 rfl fun c₀ cs hu=>?_
 apply wpS_region_draw
 intro t
 have hm:Tryz.prog.follows .mixedOrders=true:=rfl
 have hd:=h.below (w':=w.drew) ((Below.refl _ _).drew)
 have hbd:But g w w.drew:=But.of ((Below.refl _ _).drew)
 rcases Nat.mod_two_eq_zero_or_one t with ht | ht
 all_goals
  simp [Region.schedule,hm,Region.linearise,Region.linearise.go,Region.binds,List.range,List.range.loop,ht,Nat.mod_one]
  simp [wpOpsS,go_sem,recoverD,hu,hbox]
  refine (keep_fault g ad cap l k c0 f0 code fat _ hd).mono ?_
  rintro e w' ⟨rfl,hb,hr⟩
  simp [bodyPostS,results,Tryz.results139]
  exact ⟨hbd.trans hb,hr⟩
theorem num_idle (b g:Nat) (w:World) (hbox:w.cell? ⟨b,0,none⟩=some (.pointer (some ⟨g,0,none⟩))) :
  CallsD Tryz.prog 139 #[.pointer (some ⟨b,0,none⟩)] .returning w fun e u' w'=>e=.returned (.tuple #[])∧u'=.returning∧Below w.heap.size w w':=by
 refine callsD_of_wpS Tryz.func139 rfl fun c₀ cs hu=>?_
 apply wpS_region_draw
 intro t
 have hm:Tryz.prog.follows .mixedOrders=true:=rfl
 rcases Nat.mod_two_eq_zero_or_one t with ht | ht
 all_goals
  simp [Region.schedule,hm,Region.linearise,Region.linearise.go,Region.binds,List.range,List.range.loop,ht,Nat.mod_one]
  simp [wpOpsS,go_sem,recoverD,hu,hbox]
  refine (keep_nil g _).mono ?_
  rintro e w' ⟨rfl,hb⟩
  have hgo:Below w.heap.size w w':=((Below.refl _ _).drew).trans hb
  simp [bodyPostS,results,Tryz.results139]
  cases c₀
  simp_all
theorem float_panic (b g:Nat) (ad:Option Addr) (cap:Nat) (l:List Nat) (k:Nat) (c0 f0 code fat:Int) (w:World) (hbox:w.cell? ⟨b,0,none⟩=some (.pointer (some ⟨g,0,none⟩))) (h:Rd w g ad cap l k c0 f0) :
  CallsD Tryz.prog 171 #[.pointer (some ⟨b,0,none⟩)] (.panicking [{ v:=fault code fat,recovered:=false }]) w fun e u' w' =>
   e=.returned (.tuple #[])∧u'=.panicking [{ v:=fault code fat,recovered:=true }]∧But g w w'∧Rd w' g ad cap l k code fat:=by
 refine callsD_of_wpS Tryz.func171 rfl fun c₀ cs hu=>?_
 apply wpS_region_draw
 intro t
 have hm:Tryz.prog.follows .mixedOrders=true:=rfl
 have hd:=h.below (w':=w.drew) ((Below.refl _ _).drew)
 have hbd:But g w w.drew:=But.of ((Below.refl _ _).drew)
 rcases Nat.mod_two_eq_zero_or_one t with ht | ht
 all_goals
  simp [Region.schedule,hm,Region.linearise,Region.linearise.go,Region.binds,List.range,List.range.loop,ht,Nat.mod_one]
  simp [wpOpsS,go_sem,recoverD,hu,hbox]
  refine (keep_fault g ad cap l k c0 f0 code fat _ hd).mono ?_
  rintro e w' ⟨rfl,hb,hr⟩
  simp [bodyPostS,results,Tryz.results171]
  exact ⟨hbd.trans hb,hr⟩
theorem float_idle (b g:Nat) (w:World) (hbox:w.cell? ⟨b,0,none⟩=some (.pointer (some ⟨g,0,none⟩))) :
  CallsD Tryz.prog 171 #[.pointer (some ⟨b,0,none⟩)] .returning w fun e u' w'=>e=.returned (.tuple #[])∧u'=.returning∧Below w.heap.size w w':=by
 refine callsD_of_wpS Tryz.func171 rfl fun c₀ cs hu=>?_
 apply wpS_region_draw
 intro t
 have hm:Tryz.prog.follows .mixedOrders=true:=rfl
 rcases Nat.mod_two_eq_zero_or_one t with ht | ht
 all_goals
  simp [Region.schedule,hm,Region.linearise,Region.linearise.go,Region.binds,List.range,List.range.loop,ht,Nat.mod_one]
  simp [wpOpsS,go_sem,recoverD,hu,hbox]
  refine (keep_nil g _).mono ?_
  rintro e w' ⟨rfl,hb⟩
  have hgo:Below w.heap.size w w':=((Below.refl _ _).drew).trans hb
  simp [bodyPostS,results,Tryz.results171]
  cases c₀
  simp_all
end Num
namespace Nm
open Go.ChangeShapes Go.WideShapes Go.ChangeAt Go.RowKit
open B Put Rd Nx Num
structure St where
 k:Nat
 code:Int
 fat:Int
def num (l:List Nat) (s:St) (size:Nat) (low high:Int):Int × St :=
 if s.code ≠ 0 then (0,s)
 else if l.length < s.k+size then (0,⟨s.k,2,l.length⟩)
 else if (val l s.k size:Int) < low∨high < (val l s.k size:Int) then (0,⟨s.k,4,s.k⟩)
 else (val l s.k size,⟨s.k+size,0,0⟩)
def flt (l:List Nat) (s:St):Nat × St :=
 if s.code ≠ 0 then (0,s)
 else if l.length < s.k+8 then (0,⟨s.k,2,l.length⟩)
 else (val l s.k 8,⟨s.k+8,0,0⟩)
abbrev Rs (w:World) (g:Nat) (ad:Option Addr) (cap:Nat) (l:List Nat) (s:St):Prop:=Rd w g ad cap l s.k s.code s.fat
theorem num_dead (g:Nat) (ad:Option Addr) (cap:Nat) (l:List Nat) (k:Nat) (code fat:Int) (size low high:Int) (w:World) (h:Rd w g ad cap l k code fat) (hne:code ≠ 0) :
  Calls Tryz.prog 131 #[.pointer (some ⟨g,0,none⟩),.int .i64 size,.int .i64 low,.int .i64 high] w fun e w'=>e=.returned (.int .i64 0)∧Rd w' g ad cap l k code fat∧But g w w':=by
 have hmf:∀ (fn:Fn) (first cap:Array Value) (w:World),(Instr.makeFunc fn first cap).run Tryz.prog w=.ok (.func fn first cap) w:=fun _ _ _ _=>rfl
 have hpan:∀ (u:TypeId) (v:Value) (w:World),(Instr.panic (.iface u v)).run Tryz.prog w=.halt (.panic (.iface u v)) w:=fun _ _ _=>rfl
 have HR:=Lib.hid h
 clear h
 go_enter_defers Tryz.func131,Tryz.ntmps131
 go_wp2_with fail
 refine (limit_any size 7 _).mono ?_
 rintro e w' ⟨rfl,rfl⟩
 have hb1:=(Below.refl w.heap.size w).alloc (Nat.le_refl _) (.cells #[.pointer (some ⟨g,0,none⟩)] 66)
 have hbox:(w.alloc (.cells #[.pointer (some ⟨g,0,none⟩)] 66)).cell? ⟨w.heap.size,0,none⟩=some (.pointer (some ⟨g,0,none⟩)):=by simp
 have hlt1:w.heap.size < (w.alloc (.cells #[.pointer (some ⟨g,0,none⟩)] 66)).heap.size:=by simp
 have hgl:g < w.heap.size:=HR.out.lt
 have HR1:=Lib.hid (HR.out.below hb1)
 have HB1:=Lib.hid hb1
 generalize w.alloc (.cells #[.pointer (some ⟨g,0,none⟩)] 66)=w1 at hbox hlt1 HR1 HB1 ⊢
 clear hb1
 have hs7:=lim_le size 7
 generalize hsz:lim size 7=sz at hs7 ⊢
 have HSZ:=Lib.hid hsz
 clear hsz
 go_wp2_with fail
 refine (next_dead g ad cap l k sz code fat _ HR1.out hne).mono ?_
 rintro e w' ⟨rfl,rfl⟩
 go_wp2
 have HR2:=HR1
 have HB2:=HB1
 have hbox2:(w1).cell? ⟨w.heap.size,0,none⟩=some (.pointer (some ⟨g,0,none⟩)):=hbox
 refine leaves_cons (f:=139) (args:=#[.pointer (some ⟨w.heap.size,0,none⟩)]) (by simp) (by simp [go_sem]) ?_
 refine (num_panic w.heap.size g ad cap l k code fat code fat (w1) hbox2 HR2.out).mono ?_
 rintro e u' w'' ⟨rfl,rfl,hb,hr⟩
 simp [Leaves,settle,results,Tryz.results131,go_sem]
 exact ⟨hr,(But.of HB2.out).trans hb⟩
theorem num_end (g:Nat) (ad:Option Addr) (cap:Nat) (l:List Nat) (k:Nat) (size low high:Int) (w:World) (h:Rd w g ad cap l k 0 0) (hl:l.length≤10000) (hk:k≤l.length) (hs:l.length < k+(lim size 7)) :
  Calls Tryz.prog 131 #[.pointer (some ⟨g,0,none⟩),.int .i64 size,.int .i64 low,.int .i64 high] w fun e w'=>e=.returned (.int .i64 0)∧Rd w' g ad cap l k 2 l.length∧But g w w':=by
 have hmf:∀ (fn:Fn) (first cap:Array Value) (w:World),(Instr.makeFunc fn first cap).run Tryz.prog w=.ok (.func fn first cap) w:=fun _ _ _ _=>rfl
 have hpan:∀ (u:TypeId) (v:Value) (w:World),(Instr.panic (.iface u v)).run Tryz.prog w=.halt (.panic (.iface u v)) w:=fun _ _ _=>rfl
 have HR:=Lib.hid h
 clear h
 go_enter_defers Tryz.func131,Tryz.ntmps131
 go_wp2_with fail
 refine (limit_any size 7 _).mono ?_
 rintro e w' ⟨rfl,rfl⟩
 have hb1:=(Below.refl w.heap.size w).alloc (Nat.le_refl _) (.cells #[.pointer (some ⟨g,0,none⟩)] 66)
 have hbox:(w.alloc (.cells #[.pointer (some ⟨g,0,none⟩)] 66)).cell? ⟨w.heap.size,0,none⟩=some (.pointer (some ⟨g,0,none⟩)):=by simp
 have hlt1:w.heap.size < (w.alloc (.cells #[.pointer (some ⟨g,0,none⟩)] 66)).heap.size:=by simp
 have hgl:g < w.heap.size:=HR.out.lt
 have HR1:=Lib.hid (HR.out.below hb1)
 have HB1:=Lib.hid hb1
 generalize w.alloc (.cells #[.pointer (some ⟨g,0,none⟩)] 66)=w1 at hbox hlt1 HR1 HB1 ⊢
 clear hb1
 have hs7:=lim_le size 7
 generalize hsz:lim size 7=sz at hs hs7 ⊢
 have HSZ:=Lib.hid hsz
 clear hsz
 go_wp2_with fail
 refine (next_end g ad cap l k sz _ HR1.out hl hk hs).mono ?_
 rintro e w' ⟨rfl,n,rfl⟩
 go_wp2
 have hdr:Below w1.heap.size w1 (w1.drewN n):=below_drewN (Below.refl _ _) n
 have HR2:=Lib.hid (HR1.out.below hdr)
 have HB2:=Lib.hid (chain HB1.out hdr)
 have hbox2:(w1.drewN n).cell? ⟨w.heap.size,0,none⟩=some (.pointer (some ⟨g,0,none⟩)):=hbox
 refine leaves_cons (f:=139) (args:=#[.pointer (some ⟨w.heap.size,0,none⟩)]) (by simp) (by simp [go_sem]) ?_
 refine (num_panic w.heap.size g ad cap l k 0 0 2 l.length (w1.drewN n) hbox2 HR2.out).mono ?_
 rintro e u' w'' ⟨rfl,rfl,hb,hr⟩
 simp [Leaves,settle,results,Tryz.results131,go_sem]
 exact ⟨hr,(But.of HB2.out).trans hb⟩
theorem float_dead (g:Nat) (ad:Option Addr) (cap:Nat) (l:List Nat) (k:Nat) (code fat:Int) (w:World) (h:Rd w g ad cap l k code fat) (hne:code ≠ 0) :
  Calls Tryz.prog 170 #[.pointer (some ⟨g,0,none⟩)] w fun e w'=>e=.returned (.float .f64 0)∧Rd w' g ad cap l k code fat∧But g w w':=by
 have hmf:∀ (fn:Fn) (first cap:Array Value) (w:World),(Instr.makeFunc fn first cap).run Tryz.prog w=.ok (.func fn first cap) w:=fun _ _ _ _=>rfl
 have hpan:∀ (u:TypeId) (v:Value) (w:World),(Instr.panic (.iface u v)).run Tryz.prog w=.halt (.panic (.iface u v)) w:=fun _ _ _=>rfl
 have HR:=Lib.hid h
 clear h
 go_enter_defers Tryz.func170,Tryz.ntmps170
 go_wp2_with fail
 have hb1:=(Below.refl w.heap.size w).alloc (Nat.le_refl _) (.cells #[.pointer (some ⟨g,0,none⟩)] 66)
 have hbox:(w.alloc (.cells #[.pointer (some ⟨g,0,none⟩)] 66)).cell? ⟨w.heap.size,0,none⟩=some (.pointer (some ⟨g,0,none⟩)):=by simp
 have hlt1:w.heap.size < (w.alloc (.cells #[.pointer (some ⟨g,0,none⟩)] 66)).heap.size:=by simp
 have hgl:g < w.heap.size:=HR.out.lt
 have HR1:=Lib.hid (HR.out.below hb1)
 have HB1:=Lib.hid hb1
 generalize w.alloc (.cells #[.pointer (some ⟨g,0,none⟩)] 66)=w1 at hbox hlt1 HR1 HB1 ⊢
 clear hb1
 go_wp2_with fail
 refine (next_dead g ad cap l k 8 code fat _ HR1.out hne).mono ?_
 rintro e w' ⟨rfl,rfl⟩
 go_wp2
 have HR2:=HR1
 have HB2:=HB1
 have hbox2:(w1).cell? ⟨w.heap.size,0,none⟩=some (.pointer (some ⟨g,0,none⟩)):=hbox
 refine leaves_cons (f:=171) (args:=#[.pointer (some ⟨w.heap.size,0,none⟩)]) (by simp) (by simp [go_sem]) ?_
 refine (float_panic w.heap.size g ad cap l k code fat code fat (w1) hbox2 HR2.out).mono ?_
 rintro e u' w'' ⟨rfl,rfl,hb,hr⟩
 simp [Leaves,settle,results,Tryz.results170,go_sem]
 exact ⟨hr,(But.of HB2.out).trans hb⟩
theorem float_end (g:Nat) (ad:Option Addr) (cap:Nat) (l:List Nat) (k:Nat) (w:World) (h:Rd w g ad cap l k 0 0) (hl:l.length≤10000) (hk:k≤l.length) (hs:l.length < k+8) :
  Calls Tryz.prog 170 #[.pointer (some ⟨g,0,none⟩)] w fun e w'=>e=.returned (.float .f64 0)∧Rd w' g ad cap l k 2 l.length∧But g w w':=by
 have hmf:∀ (fn:Fn) (first cap:Array Value) (w:World),(Instr.makeFunc fn first cap).run Tryz.prog w=.ok (.func fn first cap) w:=fun _ _ _ _=>rfl
 have hpan:∀ (u:TypeId) (v:Value) (w:World),(Instr.panic (.iface u v)).run Tryz.prog w=.halt (.panic (.iface u v)) w:=fun _ _ _=>rfl
 have HR:=Lib.hid h
 clear h
 go_enter_defers Tryz.func170,Tryz.ntmps170
 go_wp2_with fail
 have hb1:=(Below.refl w.heap.size w).alloc (Nat.le_refl _) (.cells #[.pointer (some ⟨g,0,none⟩)] 66)
 have hbox:(w.alloc (.cells #[.pointer (some ⟨g,0,none⟩)] 66)).cell? ⟨w.heap.size,0,none⟩=some (.pointer (some ⟨g,0,none⟩)):=by simp
 have hlt1:w.heap.size < (w.alloc (.cells #[.pointer (some ⟨g,0,none⟩)] 66)).heap.size:=by simp
 have hgl:g < w.heap.size:=HR.out.lt
 have HR1:=Lib.hid (HR.out.below hb1)
 have HB1:=Lib.hid hb1
 generalize w.alloc (.cells #[.pointer (some ⟨g,0,none⟩)] 66)=w1 at hbox hlt1 HR1 HB1 ⊢
 clear hb1
 go_wp2_with fail
 refine (next_end g ad cap l k 8 _ HR1.out hl hk hs).mono ?_
 rintro e w' ⟨rfl,n,rfl⟩
 go_wp2
 have hdr:Below w1.heap.size w1 (w1.drewN n):=below_drewN (Below.refl _ _) n
 have HR2:=Lib.hid (HR1.out.below hdr)
 have HB2:=Lib.hid (chain HB1.out hdr)
 have hbox2:(w1.drewN n).cell? ⟨w.heap.size,0,none⟩=some (.pointer (some ⟨g,0,none⟩)):=hbox
 refine leaves_cons (f:=171) (args:=#[.pointer (some ⟨w.heap.size,0,none⟩)]) (by simp) (by simp [go_sem]) ?_
 refine (float_panic w.heap.size g ad cap l k 0 0 2 l.length (w1.drewN n) hbox2 HR2.out).mono ?_
 rintro e u' w'' ⟨rfl,rfl,hb,hr⟩
 simp [Leaves,settle,results,Tryz.results170,go_sem]
 exact ⟨hr,(But.of HB2.out).trans hb⟩
theorem num_below (g:Nat) (ad:Option Addr) (cap:Nat) (l:List Nat) (k:Nat) (size low high:Int) (w:World) (h:Rd w g ad cap l k 0 0) (hl:l.length≤10000) (hs:k+lim size 7≤l.length) (hlow:(val l k (lim size 7):Int) < low) :
  Calls Tryz.prog 131 #[.pointer (some ⟨g,0,none⟩),.int .i64 size,.int .i64 low,.int .i64 high] w fun e w'=>e=.returned (.int .i64 0)∧Rd w' g ad cap l k 4 k∧But g w w':=by
 have hmf:∀ (fn:Fn) (first cap:Array Value) (w:World),(Instr.makeFunc fn first cap).run Tryz.prog w=.ok (.func fn first cap) w:=fun _ _ _ _=>rfl
 have hpan:∀ (u:TypeId) (v:Value) (w:World),(Instr.panic (.iface u v)).run Tryz.prog w=.halt (.panic (.iface u v)) w:=fun _ _ _=>rfl
 have HR:=Lib.hid h
 clear h
 go_enter_defers Tryz.func131,Tryz.ntmps131
 go_wp2_with fail
 refine (limit_any size 7 _).mono ?_
 rintro e w' ⟨rfl,rfl⟩
 have hb1:=(Below.refl w.heap.size w).alloc (Nat.le_refl _) (.cells #[.pointer (some ⟨g,0,none⟩)] 66)
 have hbox:(w.alloc (.cells #[.pointer (some ⟨g,0,none⟩)] 66)).cell? ⟨w.heap.size,0,none⟩=some (.pointer (some ⟨g,0,none⟩)):=by simp
 have hlt1:w.heap.size < (w.alloc (.cells #[.pointer (some ⟨g,0,none⟩)] 66)).heap.size:=by simp
 have hgl:g < w.heap.size:=HR.out.lt
 have HR1:=Lib.hid (HR.out.below hb1)
 have HB1:=Lib.hid hb1
 generalize w.alloc (.cells #[.pointer (some ⟨g,0,none⟩)] 66)=w1 at hbox hlt1 HR1 HB1 ⊢
 clear hb1
 have hs7:=lim_le size 7
 generalize hsz:lim size 7=sz at hs hs7 hlow ⊢
 have HSZ:=Lib.hid hsz
 clear hsz
 go_wp2_with fail
 refine (next_ok g ad cap l k sz _ HR1.out hl hs (by omega)).mono ?_
 rintro e w' ⟨rfl,n,rfl⟩
 have hv56:val l k sz < 72057594037927936:=val_small l k sz HR1.out.row.2.1 (by omega)
 generalize hval:val l k sz=v at hv56 hlow ⊢
 have HV:=Lib.hid hval
 clear hval
 have hw:wrap64 (v:Int)=v:=by unfold wrap64;omega
 have hw2:IntKind.i64.wrap (v:Int)=v:=by rw [IntKind.wrap_i64];omega
 have hlo:decide ((v:Int) < low)=true:=decide_eq_true (by omega)
 have hdr:Below w1.heap.size w1 (w1.drewN n):=below_drewN (Below.refl _ _) n
 have HR2:=Lib.hid (HR1.out.below hdr)
 have HB2:=Lib.hid (chain HB1.out hdr)
 have hc1:=HR2.out.c1
 go_wp2
 have hbox2:(w1.drewN n).cell? ⟨w.heap.size,0,none⟩=some (.pointer (some ⟨g,0,none⟩)):=hbox
 refine leaves_cons (f:=139) (args:=#[.pointer (some ⟨w.heap.size,0,none⟩)]) (by simp) (by simp [go_sem]) ?_
 refine (num_panic w.heap.size g ad cap l k 0 0 4 k (w1.drewN n) hbox2 HR2.out).mono ?_
 rintro e u' w'' ⟨rfl,rfl,hb,hr⟩
 simp [Leaves,settle,results,Tryz.results131,go_sem]
 exact ⟨hr,(But.of HB2.out).trans hb⟩
theorem num_above (g:Nat) (ad:Option Addr) (cap:Nat) (l:List Nat) (k:Nat) (size low high:Int) (w:World) (h:Rd w g ad cap l k 0 0) (hl:l.length≤10000) (hs:k+lim size 7≤l.length) (hlow:¬ (val l k (lim size 7):Int) < low) (hhigh:high < (val l k (lim size 7):Int)) :
  Calls Tryz.prog 131 #[.pointer (some ⟨g,0,none⟩),.int .i64 size,.int .i64 low,.int .i64 high] w fun e w'=>e=.returned (.int .i64 0)∧Rd w' g ad cap l k 4 k∧But g w w':=by
 have hmf:∀ (fn:Fn) (first cap:Array Value) (w:World),(Instr.makeFunc fn first cap).run Tryz.prog w=.ok (.func fn first cap) w:=fun _ _ _ _=>rfl
 have hpan:∀ (u:TypeId) (v:Value) (w:World),(Instr.panic (.iface u v)).run Tryz.prog w=.halt (.panic (.iface u v)) w:=fun _ _ _=>rfl
 have HR:=Lib.hid h
 clear h
 go_enter_defers Tryz.func131,Tryz.ntmps131
 go_wp2_with fail
 refine (limit_any size 7 _).mono ?_
 rintro e w' ⟨rfl,rfl⟩
 have hb1:=(Below.refl w.heap.size w).alloc (Nat.le_refl _) (.cells #[.pointer (some ⟨g,0,none⟩)] 66)
 have hbox:(w.alloc (.cells #[.pointer (some ⟨g,0,none⟩)] 66)).cell? ⟨w.heap.size,0,none⟩=some (.pointer (some ⟨g,0,none⟩)):=by simp
 have hlt1:w.heap.size < (w.alloc (.cells #[.pointer (some ⟨g,0,none⟩)] 66)).heap.size:=by simp
 have hgl:g < w.heap.size:=HR.out.lt
 have HR1:=Lib.hid (HR.out.below hb1)
 have HB1:=Lib.hid hb1
 generalize w.alloc (.cells #[.pointer (some ⟨g,0,none⟩)] 66)=w1 at hbox hlt1 HR1 HB1 ⊢
 clear hb1
 have hs7:=lim_le size 7
 generalize hsz:lim size 7=sz at hs hs7 hlow hhigh ⊢
 have HSZ:=Lib.hid hsz
 clear hsz
 go_wp2_with fail
 refine (next_ok g ad cap l k sz _ HR1.out hl hs (by omega)).mono ?_
 rintro e w' ⟨rfl,n,rfl⟩
 have hv56:val l k sz < 72057594037927936:=val_small l k sz HR1.out.row.2.1 (by omega)
 generalize hval:val l k sz=v at hv56 hlow hhigh ⊢
 have HV:=Lib.hid hval
 clear hval
 have hw:wrap64 (v:Int)=v:=by unfold wrap64;omega
 have hw2:IntKind.i64.wrap (v:Int)=v:=by rw [IntKind.wrap_i64];omega
 have hlo:decide ((v:Int) < low)=false:=decide_eq_false (by omega)
 have hhi:decide ((v:Int) > high)=true:=decide_eq_true (by omega)
 have hdr:Below w1.heap.size w1 (w1.drewN n):=below_drewN (Below.refl _ _) n
 have HR2:=Lib.hid (HR1.out.below hdr)
 have HB2:=Lib.hid (chain HB1.out hdr)
 have hc1:=HR2.out.c1
 go_wp2
 have hbox2:(w1.drewN n).cell? ⟨w.heap.size,0,none⟩=some (.pointer (some ⟨g,0,none⟩)):=hbox
 refine leaves_cons (f:=139) (args:=#[.pointer (some ⟨w.heap.size,0,none⟩)]) (by simp) (by simp [go_sem]) ?_
 refine (num_panic w.heap.size g ad cap l k 0 0 4 k (w1.drewN n) hbox2 HR2.out).mono ?_
 rintro e u' w'' ⟨rfl,rfl,hb,hr⟩
 simp [Leaves,settle,results,Tryz.results131,go_sem]
 exact ⟨hr,(But.of HB2.out).trans hb⟩
theorem num_ok (g:Nat) (ad:Option Addr) (cap:Nat) (l:List Nat) (k:Nat) (size low high:Int) (w:World) (h:Rd w g ad cap l k 0 0) (hl:l.length≤10000) (hs:k+lim size 7≤l.length) (hlow:¬ (val l k (lim size 7):Int) < low) (hhigh:¬ high < (val l k (lim size 7):Int)) :
  Calls Tryz.prog 131 #[.pointer (some ⟨g,0,none⟩),.int .i64 size,.int .i64 low,.int .i64 high] w fun e w'=>e=.returned (.int .i64 (val l k (lim size 7):Nat))∧Rd w' g ad cap l (k+lim size 7) 0 0∧But g w w':=by
 have hmf:∀ (fn:Fn) (first cap:Array Value) (w:World),(Instr.makeFunc fn first cap).run Tryz.prog w=.ok (.func fn first cap) w:=fun _ _ _ _=>rfl
 have hpan:∀ (u:TypeId) (v:Value) (w:World),(Instr.panic (.iface u v)).run Tryz.prog w=.halt (.panic (.iface u v)) w:=fun _ _ _=>rfl
 have HR:=Lib.hid h
 clear h
 go_enter_defers Tryz.func131,Tryz.ntmps131
 go_wp2_with fail
 refine (limit_any size 7 _).mono ?_
 rintro e w' ⟨rfl,rfl⟩
 have hb1:=(Below.refl w.heap.size w).alloc (Nat.le_refl _) (.cells #[.pointer (some ⟨g,0,none⟩)] 66)
 have hbox:(w.alloc (.cells #[.pointer (some ⟨g,0,none⟩)] 66)).cell? ⟨w.heap.size,0,none⟩=some (.pointer (some ⟨g,0,none⟩)):=by simp
 have hlt1:w.heap.size < (w.alloc (.cells #[.pointer (some ⟨g,0,none⟩)] 66)).heap.size:=by simp
 have hgl:g < w.heap.size:=HR.out.lt
 have HR1:=Lib.hid (HR.out.below hb1)
 have HB1:=Lib.hid hb1
 generalize w.alloc (.cells #[.pointer (some ⟨g,0,none⟩)] 66)=w1 at hbox hlt1 HR1 HB1 ⊢
 clear hb1
 have hs7:=lim_le size 7
 generalize hsz:lim size 7=sz at hs hs7 hlow hhigh ⊢
 have HSZ:=Lib.hid hsz
 clear hsz
 go_wp2_with fail
 refine (next_ok g ad cap l k sz _ HR1.out hl hs (by omega)).mono ?_
 rintro e w' ⟨rfl,n,rfl⟩
 have hv56:val l k sz < 72057594037927936:=val_small l k sz HR1.out.row.2.1 (by omega)
 generalize hval:val l k sz=v at hv56 hlow hhigh ⊢
 have HV:=Lib.hid hval
 clear hval
 have hw:wrap64 (v:Int)=v:=by unfold wrap64;omega
 have hw2:IntKind.i64.wrap (v:Int)=v:=by rw [IntKind.wrap_i64];omega
 have hlo:decide ((v:Int) < low)=false:=decide_eq_false (by omega)
 have hhi:decide ((v:Int) > high)=false:=decide_eq_false (by omega)
 have hdr:Below w1.heap.size w1 (w1.drewN n):=below_drewN (Below.refl _ _) n
 have HR2:=Lib.hid (HR1.out.below hdr)
 have HB2:=Lib.hid (chain HB1.out hdr)
 have hc1:=HR2.out.c1
 have hz1:=HR2.out.fz 1
 go_wp2
 have hbox2:((w1.drewN n).setCell ⟨g,1,none⟩ (.int .i64 ((k:Int)+sz))).cell? ⟨w.heap.size,0,none⟩=some (.pointer (some ⟨g,0,none⟩)):=by
  rw [World.cell?_setCell_other _ _ _ _ (by first | (simp;done) | (simp;omega))];exact hbox
 have hset:But g (w1.drewN n) ((w1.drewN n).setCell ⟨g,1,none⟩ (.int .i64 ((k:Int)+sz))):=But.set g 1 _ _
 have hmv:Rd ((w1.drewN n).setCell ⟨g,1,none⟩ (.int .i64 ((k:Int)+sz))) g ad cap l (k+sz) 0 0:=by
  have h:=Rd.moves HR2.out (k+sz)
  rw [Int.natCast_add] at h;exact h
 refine leaves_cons (f:=139) (args:=#[.pointer (some ⟨w.heap.size,0,none⟩)]) (by simp) (by simp [go_sem]) ?_
 refine (num_idle w.heap.size g _ hbox2).mono ?_
 rintro e u' w'' ⟨rfl,rfl,hb⟩
 simp [Leaves,settle,results,Tryz.results131,go_sem]
 try rw [HSZ.out]
 exact ⟨HV.out.symm ▸ rfl,hmv.below hb,((But.of HB2.out).trans hset).trans (But.of hb)⟩
theorem float_ok (g:Nat) (ad:Option Addr) (cap:Nat) (l:List Nat) (k:Nat) (w:World) (h:Rd w g ad cap l k 0 0) (hl:l.length≤10000) (hs:k+8≤l.length) :
  Calls Tryz.prog 170 #[.pointer (some ⟨g,0,none⟩)] w fun e w'=>e=.returned (.float .f64 (val l k 8))∧Rd w' g ad cap l (k+8) 0 0∧But g w w':=by
 have hmf:∀ (fn:Fn) (first cap:Array Value) (w:World),(Instr.makeFunc fn first cap).run Tryz.prog w=.ok (.func fn first cap) w:=fun _ _ _ _=>rfl
 have hpan:∀ (u:TypeId) (v:Value) (w:World),(Instr.panic (.iface u v)).run Tryz.prog w=.halt (.panic (.iface u v)) w:=fun _ _ _=>rfl
 have HR:=Lib.hid h
 clear h
 have hfb:=frombits_call
 go_enter_defers Tryz.func170,Tryz.ntmps170
 go_wp2_with fail
 have hb1:=(Below.refl w.heap.size w).alloc (Nat.le_refl _) (.cells #[.pointer (some ⟨g,0,none⟩)] 66)
 have hbox:(w.alloc (.cells #[.pointer (some ⟨g,0,none⟩)] 66)).cell? ⟨w.heap.size,0,none⟩=some (.pointer (some ⟨g,0,none⟩)):=by simp
 have hlt1:w.heap.size < (w.alloc (.cells #[.pointer (some ⟨g,0,none⟩)] 66)).heap.size:=by simp
 have hgl:g < w.heap.size:=HR.out.lt
 have HR1:=Lib.hid (HR.out.below hb1)
 have HB1:=Lib.hid hb1
 generalize w.alloc (.cells #[.pointer (some ⟨g,0,none⟩)] 66)=w1 at hbox hlt1 HR1 HB1 ⊢
 clear hb1
 go_wp2_with fail
 refine (next_ok g ad cap l k 8 _ HR1.out hl hs (by omega)).mono ?_
 rintro e w' ⟨rfl,n,rfl⟩
 generalize hval:val l k 8=v
 have HV:=Lib.hid hval
 clear hval
 have hdr:Below w1.heap.size w1 (w1.drewN n):=below_drewN (Below.refl _ _) n
 have HR2:=Lib.hid (HR1.out.below hdr)
 have HB2:=Lib.hid (chain HB1.out hdr)
 have hc1:=HR2.out.c1
 have hz1:=HR2.out.fz 1
 go_wp2
 have hbox2:((w1.drewN n).setCell ⟨g,1,none⟩ (.int .i64 ((k:Int)+8))).cell? ⟨w.heap.size,0,none⟩=some (.pointer (some ⟨g,0,none⟩)):=by
  rw [World.cell?_setCell_other _ _ _ _ (by first | (simp;done) | (simp;omega))];exact hbox
 have hset:But g (w1.drewN n) ((w1.drewN n).setCell ⟨g,1,none⟩ (.int .i64 ((k:Int)+8))):=But.set g 1 _ _
 have hmv:Rd ((w1.drewN n).setCell ⟨g,1,none⟩ (.int .i64 ((k:Int)+8))) g ad cap l (k+8) 0 0:=by
  have h:=Rd.moves HR2.out (k+8)
  rw [Int.natCast_add] at h;exact h
 refine leaves_cons (f:=171) (args:=#[.pointer (some ⟨w.heap.size,0,none⟩)]) (by simp) (by simp [go_sem]) ?_
 refine (float_idle w.heap.size g _ hbox2).mono ?_
 rintro e u' w'' ⟨rfl,rfl,hb⟩
 simp [Leaves,settle,results,Tryz.results170,go_sem]
 try rw [HSZ.out]
 exact ⟨HV.out.symm ▸ rfl,hmv.below hb,((But.of HB2.out).trans hset).trans (But.of hb)⟩
def Good (l:List Nat) (s:St):Prop:=s.k≤l.length∧(s.code=0→s.fat=0)
theorem num_good (l:List Nat) (s:St) (size:Nat) (low high:Int) (h:Good l s):Good l (num l s size low high).2:=by
 unfold num
 split
 ·exact h
 ·split
  ·exact ⟨h.1,fun e=>by simp at e⟩
  ·split
   ·exact ⟨h.1,fun e=>by simp at e⟩
   ·exact ⟨by simp;omega,fun _=>rfl⟩
theorem flt_good (l:List Nat) (s:St) (h:Good l s):Good l (flt l s).2:=by
 unfold flt
 split
 ·exact h
 ·split
  ·exact ⟨h.1,fun e=>by simp at e⟩
  ·exact ⟨by simp;omega,fun _=>rfl⟩
theorem num_any (g:Nat) (ad:Option Addr) (cap:Nat) (l:List Nat) (s:St) (size low high:Int) (w:World) (h:Rs w g ad cap l s) (hl:l.length≤10000) (hg:Good l s) :
  Calls Tryz.prog 131 #[.pointer (some ⟨g,0,none⟩),.int .i64 size,.int .i64 low,.int .i64 high] w fun e w' =>
   e=.returned (.int .i64 (num l s (lim size 7) low high).1)∧Rs w' g ad cap l (num l s (lim size 7) low high).2∧But g w w':=by
 obtain ⟨k,code,fat⟩:=s
 unfold num
 by_cases h0:code ≠ 0
 ·rw [if_pos h0];exact num_dead g ad cap l k code fat size low high w h h0
 ·rw [if_neg h0]
  obtain rfl:code=0:=by omega
  obtain rfl:fat=0:=hg.2 rfl
  by_cases h1:l.length < k+lim size 7
  ·rw [if_pos h1];exact num_end g ad cap l k size low high w h hl hg.1 h1
  ·rw [if_neg h1]
   by_cases h2:(val l k (lim size 7):Int) < low
   ·rw [if_pos (.inl h2)];exact num_below g ad cap l k size low high w h hl (by omega) h2
   ·by_cases h3:high < (val l k (lim size 7):Int)
    ·rw [if_pos (.inr h3)];exact num_above g ad cap l k size low high w h hl (by omega) h2 h3
    ·rw [if_neg (by rintro (h | h) <;> contradiction)];exact num_ok g ad cap l k size low high w h hl (by omega) h2 h3
theorem float_any (g:Nat) (ad:Option Addr) (cap:Nat) (l:List Nat) (s:St) (w:World) (h:Rs w g ad cap l s) (hl:l.length≤10000) (hg:Good l s) :
  Calls Tryz.prog 170 #[.pointer (some ⟨g,0,none⟩)] w fun e w' =>
   e=.returned (.float .f64 (flt l s).1)∧Rs w' g ad cap l (flt l s).2∧But g w w':=by
 obtain ⟨k,code,fat⟩:=s
 unfold flt
 by_cases h0:code ≠ 0
 ·rw [if_pos h0];exact float_dead g ad cap l k code fat w h h0
 ·rw [if_neg h0]
  obtain rfl:code=0:=by omega
  obtain rfl:fat=0:=hg.2 rfl
  by_cases h1:l.length < k+8
  ·rw [if_pos h1];exact float_end g ad cap l k w h hl hg.1 h1
  ·rw [if_neg h1];exact float_ok g ad cap l k w h hl (by omega)
theorem bool_any (g:Nat) (ad:Option Addr) (cap:Nat) (l:List Nat) (s:St) (w:World) (h:Rs w g ad cap l s) (hl:l.length≤10000) (hg:Good l s) :
  Calls Tryz.prog 169 #[.pointer (some ⟨g,0,none⟩)] w fun e w' =>
   e=.returned (.bool (decide ((num l s 1 0 1).1=1)))∧Rs w' g ad cap l (num l s 1 0 1).2∧But g w w':=by
 have h1:=num_any g ad cap l s 1 0 1 w h hl hg
 rw [show lim 1 7=1 from rfl] at h1
 generalize num l s 1 0 1=r at h1
 clear h hg
 go_enter Tryz.func169,Tryz.ntmps169
 go_wp2_with fail
 refine h1.mono ?_
 rintro e w' ⟨rfl,hr,hb⟩
 have HR:=Lib.hid hr
 clear hr h1
 go_wp2
 go_ret
 exact ⟨rfl,HR.out,hb⟩
end Nm
namespace Flat
open Go Go.ChangeShapes Go.WideShapes
section
variable {α β:Type}
def All2 (R:α→β→Prop):List α→List β→Prop
 | [],[]=>True
 | a :: l,b :: m=>R a b∧All2 R l m
 | _,_=>False
variable {R:α→β→Prop}
theorem All2.length:∀ {a:List α} {b:List β},All2 R a b→a.length=b.length
 | [],[],_=>rfl
 | _ :: _,_ :: _,⟨_,h⟩=>by simp [All2.length h]
 | [],_ :: _,h=>h.elim
 | _ :: _,[],h=>h.elim
theorem All2.append:∀ {a:List α} {b:List β} {c:List α} {d:List β},All2 R a b→All2 R c d→All2 R (a++c) (b++d)
 | [],[],_,_,_,h=>h
 | _ :: _,_ :: _,_,_,⟨h,k⟩,h2=>⟨h,All2.append k h2⟩
 | [],_ :: _,_,_,h,_=>h.elim
 | _ :: _,[],_,_,h,_=>h.elim
theorem All2.split:∀ {a c:List α} {b:List β},All2 R (a++c) b→All2 R a (b.take a.length)∧All2 R c (b.drop a.length)
 | [],_,_,h=>⟨trivial,h⟩
 | _ :: _,_,_ :: _,⟨h,k⟩=>⟨⟨h,(All2.split k).1⟩,(All2.split k).2⟩
 | _ :: _,_,[],h=>h.elim
theorem All2.at:∀ {a:List α} {b:List β},All2 R a b→∀ {i:Nat} {x:α} {y:β},a[i]?=some x→b[i]?=some y→R x y
 | _ :: _,_ :: _,⟨h,_⟩,0,_,_,h1,h2=>by simp at h1 h2;subst h1 h2;exact h
 | _ :: _,_ :: _,⟨_,k⟩,i+1,_,_,h1,h2=>All2.at k (i:=i) (by simpa using h1) (by simpa using h2)
 | [],_,_,_,_,_,h1,_=>by simp at h1
 | _ :: _,[],h,_,_,_,_,_=>h.elim
theorem All2.mono {S:α→β→Prop} (hm:∀ x y,R x y→S x y):∀ {a:List α} {b:List β},All2 R a b→All2 S a b
 | [],[],_=>trivial
 | _ :: _,_ :: _,⟨h,k⟩=>⟨hm _ _ h,All2.mono hm k⟩
 | [],_ :: _,h=>h.elim
 | _ :: _,[],h=>h.elim
end
def rowT (P:Program) (t:TypeId):Bool:=match P.underlying t with | some (.struct _) | some (.array _ _)=>true | _=>false
def flatF (P:Program) (g:TypeId→Option (List TypeId)):Nat→List Field→Option (List TypeId)
 | _,[]=>some []
 | o,f :: fs=>if f.name ≠ "_"∧f.offset=o then
   match g f.type with
   | some r=>if r.length=P.cellsOf f.type then (flatF P g (o+r.length) fs).map (r++·) else none
   | none=>none
  else none
def flat (P:Program):Nat→TypeId→Option (List TypeId)
 | 0,_=>none
 | d+1,t=>match P.underlying t with
  | some (.struct fs)=>if P.stoodInHeld t=true then none else match flatF P (flat P d) 0 fs.toList with
   | some l=>if l.length=P.cellsOf t then some l else none
   | none=>none
  | some (.array n e)=>match flat P d e with
   | some r=>if r.length=P.cellsOf e∧n*P.cellsOf e=P.cellsOf t then some (List.replicate n r).flatten else none
   | none=>none
  | some _=>if P.cellsOf t=1 then some [t] else none
  | none=>none
theorem flatF_cons {P:Program} {g:TypeId→Option (List TypeId)} {o:Nat} {f:Field} {fs:List Field} {l:List TypeId} (h:flatF P g o (f :: fs)=some l) :
  f.name ≠ "_"∧f.offset=o∧∃ r l',g f.type=some r∧r.length=P.cellsOf f.type∧flatF P g (o+r.length) fs=some l'∧l=r++l':=by
 unfold flatF at h
 split at h
 ·rename_i h1
  split at h
  ·rename_i r hr
   split at h
   ·rename_i hl
    simp only [Option.map_eq_some_iff] at h
    obtain ⟨l',h2,rfl⟩:=h
    exact ⟨h1.1,h1.2,r,l',hr,hl,h2,rfl⟩
   ·cases h
  ·cases h
 ·cases h
theorem take_two {α:Type} (l:List α) (o a b:Nat):(l.drop o).take (a+b)=(l.drop o).take a++(l.drop (o+a)).take b:=by
 rw [List.take_add,List.drop_drop]
section
variable {P:Program} {R:TypeId→Value→Prop} {G:TypeId→List Value→Prop} {g:TypeId→Option (List TypeId)}
end
section
variable {H:Type} {enc:TypeId × Value→H} {P:Program} {w:World} {base:Nat} {spare:Nat→Bool} {held:Bool}
end
section
variable {P:Program}
def vOf (P:Program) (t:TypeId) (cs:List Value):Value:=if rowT P t then .agg cs.toArray else cs.headD undef
def LeafEq (P:Program) (t:TypeId) (p:Value × Value):Prop:=∃ b:Bool,(∀ D w,(Op.equalIn (D+1) t p.1 p.2).run P w=.ok b w)∧(b=true ↔ p.1=p.2)
theorem leaf_int {t:TypeId} {k:IntKind} (h:P.underlying t=some (.int k)) (a b:Int):LeafEq P t (.int k a,.int k b):=⟨a == b,fun D w=>run_equalIn_int w D t k k a b h,by simp⟩
theorem run_part (w:World) {t:TypeId} {d:TypeDesc} (hu:P.underlying t=some d) (hc:rowT P t=false→P.cellsOf t=1) (cs:List Value) (off:Nat) (hl:off+P.cellsOf t≤cs.length) :
  (part t cs.toArray off).run P w=.ok (vOf P t ((cs.drop off).take (P.cellsOf t))) w:=by
 obtain ⟨i,hi⟩:=info_of_underlying hu
 have hagg:(isAgg t).run P w=.ok (rowT P t) w:=by
  unfold isAgg rowT
  rw [Sem.run_bind,run_underlying hu w]
  rw [hu]
  cases d <;> simp
 unfold part vOf
 rw [Sem.run_bind,hagg,Result.andThen_ok]
 cases hr:rowT P t with
 | true =>
  simp only [if_true,Sem.run_bind,run_sizeOf w hi,Result.andThen_ok,Sem.run_pure]
  congr 2
  simp [List.extract]
 | false =>
  have h1:=hc hr
  have h2:off < cs.length:=by omega
  simp only [Bool.false_eq_true,if_false,List.getElem?_toArray,List.getElem?_eq_getElem h2,Sem.run_pure,h1]
  have h3:(cs.drop off).take 1=[cs[off]]:=by rw [List.drop_eq_getElem_cons h2];rfl
  rw [h3]
  simp
theorem cells_one {d:Nat} {t:TypeId} {ts:List TypeId} (h:flat P d t=some ts):(∃ dd,P.underlying t=some dd)∧(rowT P t=false→P.cellsOf t=1):=by
 cases d with
 | zero=>simp [flat] at h
 | succ d =>
  unfold flat at h
  unfold rowT
  split at h
  ·rename_i hu;exact ⟨⟨_,hu⟩,by rw [hu];simp⟩
  ·rename_i hu;exact ⟨⟨_,hu⟩,by rw [hu];simp⟩
  ·rename_i hu
   split at h
   ·rename_i h1;exact ⟨⟨_,hu⟩,fun _=>h1⟩
   ·cases h
  ·cases h
def EqG (P:Program) (D:Nat) (g:TypeId→Option (List TypeId)):Prop:=∀ (t:TypeId) (ts:List TypeId) (zs:List (Value × Value)),g t=some ts→All2 (LeafEq P) ts zs →
 ∃ b:Bool,(∀ w,(Op.equalIn D t (vOf P t (zs.map (·.1))) (vOf P t (zs.map (·.2)))).run P w=.ok b w)∧(b=true ↔ zs.map (·.1)=zs.map (·.2))
theorem map_part {γ:Type} (f:Value × Value→γ) (zs:List (Value × Value)) (o n:Nat):((zs.map f).drop o).take n=((zs.drop o).take n).map f:=by
 rw [← List.map_drop,← List.map_take]
theorem fields_eq {D d:Nat} (hg:EqG P D (flat P d)) (zs:List (Value × Value)):∀ (fs:List Field) (o:Nat) (l:List TypeId),flatF P (flat P d) o fs=some l→o+l.length≤zs.length →
  All2 (LeafEq P) l ((zs.drop o).take l.length) →
  ∃ b:Bool,(∀ w,(Op.eqFields D (zs.map (·.1)).toArray (zs.map (·.2)).toArray fs).run P w=.ok b w)∧(b=true ↔ ((zs.drop o).take l.length).map (·.1)=((zs.drop o).take l.length).map (·.2))
 | [],_,l,h,_,_=>by
  simp only [flatF,Option.some.injEq] at h
  subst h
  exact ⟨true,fun w=>by simp [Op.eqFields],by simp⟩
 | f :: fs,o,l,h,hlen,hall=>by
  obtain ⟨hn,ho,r,l',h1,h2,h3,rfl⟩:=flatF_cons h
  obtain ⟨⟨dd,hu⟩,hone⟩:=cells_one h1
  rw [List.length_append] at hlen hall ⊢
  rw [take_two] at hall ⊢
  have hs:=hall.split
  have hlr:((zs.drop o).take r.length).length=r.length:=by simp;omega
  rw [List.take_left' hlr,List.drop_left' hlr] at hs
  obtain ⟨b,hb,hiff⟩:=hg f.type r _ h1 hs.1
  obtain ⟨b',hb',hiff'⟩:=fields_eq hg zs fs (o+r.length) l' h3 (by omega) hs.2
  have p1:=fun w=>run_part (P:=P) w hu hone (zs.map (·.1)) f.offset (by simp;omega)
  have p2:=fun w=>run_part (P:=P) w hu hone (zs.map (·.2)) f.offset (by simp;omega)
  rw [ho,← h2] at p1 p2
  simp only [map_part] at p1 p2
  refine ⟨b && b',fun w=>?_,?_⟩
  ·simp only [Op.eqFields,hn,ne_eq,not_false_eq_true,if_true,Sem.run_bind,ho,p1,p2,hb,Result.andThen_ok]
   cases b
   ·simp
   ·simpa using hb' w
  ·rw [Bool.and_eq_true,hiff,hiff',List.map_append,List.map_append]
   constructor
   ·rintro ⟨e1,e2⟩;rw [e1,e2]
   ·intro e;exact List.append_inj e (by simp)
theorem items_eq {D d:Nat} (hg:EqG P D (flat P d)) {e:TypeId} {r:List TypeId} (hr:flat P d e=some r) (hc:r.length=P.cellsOf e) (zs:List (Value × Value)):∀ (n k:Nat),(k+n)*P.cellsOf e≤zs.length →
  All2 (LeafEq P) (List.replicate n r).flatten ((zs.drop (k*P.cellsOf e)).take (n*P.cellsOf e)) →
  ∃ b:Bool,(∀ w,(Op.eqItems D e (P.cellsOf e) (zs.map (·.1)).toArray (zs.map (·.2)).toArray (List.range' k n)).run P w=.ok b w) ∧
   (b=true ↔ ((zs.drop (k*P.cellsOf e)).take (n*P.cellsOf e)).map (·.1)=((zs.drop (k*P.cellsOf e)).take (n*P.cellsOf e)).map (·.2))
 | 0,k,_,_=>⟨true,fun w=>by simp [Op.eqItems],by simp⟩
 | n+1,k,hlen,hall=>by
  obtain ⟨⟨dd,hu⟩,hone⟩:=cells_one hr
  have hlen':k*P.cellsOf e+P.cellsOf e+n*P.cellsOf e≤zs.length:=by
   have:(k+(n+1))*P.cellsOf e=k*P.cellsOf e+P.cellsOf e+n*P.cellsOf e:=by
    rw [Nat.add_mul,Nat.add_mul,Nat.one_mul];omega
   omega
  rw [List.replicate_succ,List.flatten_cons] at hall
  rw [Nat.add_mul,Nat.one_mul,Nat.add_comm (n*_),take_two] at hall ⊢
  have hs:=hall.split
  have hlr:((zs.drop (k*P.cellsOf e)).take (P.cellsOf e)).length=r.length:=by rw [hc];simp;omega
  rw [List.take_left' hlr,List.drop_left' hlr] at hs
  obtain ⟨b,hb,hiff⟩:=hg e r _ hr hs.1
  have hk:k*P.cellsOf e+P.cellsOf e=(k+1)*P.cellsOf e:=by rw [Nat.add_mul,Nat.one_mul]
  rw [hk] at hs ⊢
  obtain ⟨b',hb',hiff'⟩:=items_eq hg hr hc zs n (k+1) (by rw [Nat.add_mul,Nat.add_mul] at *;omega) hs.2
  have p1:=fun w=>run_part (P:=P) w hu hone (zs.map (·.1)) (k*P.cellsOf e) (by simp;omega)
  have p2:=fun w=>run_part (P:=P) w hu hone (zs.map (·.2)) (k*P.cellsOf e) (by simp;omega)
  simp only [map_part] at p1 p2
  refine ⟨b && b',fun w=>?_,?_⟩
  ·simp only [List.range'_succ,Op.eqItems,Sem.run_bind,p1,p2,hb,Result.andThen_ok]
   cases b
   ·simp
   ·simpa using hb' w
  ·rw [Bool.and_eq_true,hiff,hiff',List.map_append,List.map_append]
   constructor
   ·rintro ⟨e1,e2⟩;rw [e1,e2]
   ·intro e;exact List.append_inj e (by simp)
theorem eq_flat:∀ (d D:Nat),d≤D→EqG P D (flat P d)
 | 0,_,_=>fun t ts zs h _=>by simp [flat] at h
 | d+1,0,h=>absurd h (by omega)
 | d+1,D+1,hD=>fun t ts zs h hall=>by
  have IH:=eq_flat d D (by omega)
  unfold flat at h
  split at h
  ·rename_i fs hu
   split at h
   ·cases h
   ·rename_i hst
    split at h
    ·rename_i l hl
     split at h
     ·rename_i hlen
      simp only [Option.some.injEq] at h;subst h
      have hz:=hall.length
      obtain ⟨b,hb,hiff⟩:=fields_eq IH zs fs.toList 0 l hl (by omega) (by rw [List.drop_zero,hz,List.take_length];exact hall)
      rw [List.drop_zero,hz,List.take_length] at hiff
      have hfs:P.fieldsOf t=fs:=by simp [Program.fieldsOf,hu]
      refine ⟨b,fun w=>?_,hiff⟩
      have hr:rowT P t=true:=by unfold rowT;rw [hu]
      unfold vOf
      rw [if_pos hr,if_pos hr,run_equalIn_struct w D t _ _ (by rw [hfs];exact hu) (by simpa using hst),hfs]
      exact hb w
     ·cases h
    ·cases h
  ·rename_i n e hu
   split at h
   ·rename_i r hr
    split at h
    ·rename_i hlen
     simp only [Option.some.injEq] at h;subst h
     have hz:=hall.length
     have hz2:n*P.cellsOf e=zs.length:=by rw [← hz];simp [hlen.1]
     obtain ⟨b,hb,hiff⟩:=items_eq IH hr hlen.1 zs n 0 (by rw [Nat.zero_add];omega) (by rw [Nat.zero_mul,List.drop_zero,hz2,List.take_length];exact hall)
     rw [Nat.zero_mul,List.drop_zero,hz2,List.take_length] at hiff
     obtain ⟨⟨dd,hue⟩,_⟩:=cells_one hr
     obtain ⟨i,hi⟩:=info_of_underlying hue
     refine ⟨b,fun w=>?_,hiff⟩
     have hrow:rowT P t=true:=by unfold rowT;rw [hu]
     unfold vOf
     rw [if_pos hrow,if_pos hrow,run_equalIn_array w D _ _ hu hi,List.range_eq_range']
     exact hb w
    ·cases h
   ·cases h
  ·rename_i dd hns hna hu
   split at h
   ·simp only [Option.some.injEq] at h;subst h
    have hr:rowT P t=false:=by unfold rowT;rw [hu];cases dd <;> simp_all
    match zs,hall with
    | [p],⟨⟨b,hb,hiff⟩,_⟩ =>
     refine ⟨b,fun w=>?_,by simpa using hiff⟩
     unfold vOf
     rw [hr]
     simpa using hb D w
   ·cases h
  ·cases h
theorem eql_flat {d:Nat} {t:TypeId} {ts:List TypeId} (h:flat P d t=some ts) (hd:d≤10000) (hr:rowT P t=true) (zs:List (Value × Value)) (hall:All2 (LeafEq P) ts zs) :
  ∃ b:Bool,(∀ w,(Op.equalIn 10000 t (.agg (zs.map (·.1)).toArray) (.agg (zs.map (·.2)).toArray)).run P w=.ok b w)∧(b=true ↔ zs.map (·.1)=zs.map (·.2)):=by
 obtain ⟨b,hb,hiff⟩:=eq_flat d 10000 hd t ts zs h hall
 refine ⟨b,fun w=>?_,hiff⟩
 have:=hb w
 unfold vOf at this
 rwa [if_pos hr,if_pos hr] at this
end
end Flat
namespace Same
open Go.ChangeShapes Go.WideShapes
open Tab Flat
def Eqs (t:TypeId) (xs ys:List Value) (b:Bool):Prop:=∀ w:World,(Op.equalIn 10000 t (.agg xs.toArray) (.agg ys.toArray)).run Tryz.prog w=.ok b w
theorem eqs_of {d:Nat} {t:TypeId} {ts:List TypeId} (h:flat Tryz.prog d t=some ts) (hd:d≤10000) (hr:rowT Tryz.prog t=true) (zs:List (Value × Value)) (hall:All2 (LeafEq Tryz.prog) ts zs) {xs ys:List Value} (hx:zs.map (·.1)=xs) (hy:zs.map (·.2)=ys) {p:Prop} [Decidable p]
  (hp:xs=ys ↔ p):Eqs t xs ys (decide p):=by
 subst hx hy
 obtain ⟨b,hb,hiff⟩:=eql_flat h hd hr zs hall
 rw [hp] at hiff
 have e:b=decide p:=by
  by_cases hq:p
  ·rw [decide_eq_true hq];exact hiff.2 hq
  ·rw [decide_eq_false hq];cases b
   ·rfl
   ·exact absurd (hiff.1 rfl) hq
 intro w
 rw [hb w,e]
theorem lint (a b:Int):LeafEq Tryz.prog 3 (I a,I b):=leaf_int Tryz.underlying3 a b
def single (T:Tab):List Int:=[T.extend,T.budget,T.start,T.revert,T.least,T.window,T.share]
end Same
namespace Copy
open Go Go.RowKit
open Tab
section
variable {P:Program}
end
section
variable {α:Type} {n:Nat} {enc:α→List Value}
theorem flat_len (he:∀ v,(enc v).length=n) (l:List α):(l.flatMap enc).length=l.length*n:=by
 induction l with
 | nil=>simp
 | cons v l ih=>rw [List.flatMap_cons,List.length_append,ih,he,List.length_cons,Nat.add_mul,Nat.one_mul,Nat.add_comm]
theorem lies_flat (he:∀ v,(enc v).length=n) {w:World} {x:Addr}:∀ (l:List α) (k:Nat),(∀ i v,l[i]?=some v→Lies w (x.add ((k+i)*n)) (enc v))→Lies w (x.add (k*n)) (l.flatMap enc)
 | [],_,_=>fun j v hv=>by simp at hv
 | u :: l,k,h=>by
  have ih:=lies_flat he l (k+1) (fun i v hv=>by have:=h (i+1) v (by simpa using hv);rwa [show k+(i+1)=k+1+i by omega] at this)
  intro j v hv
  rw [List.flatMap_cons,List.getElem?_append] at hv
  split at hv
  ·exact h 0 u rfl j v hv
  ·rename_i hj
   have:=ih (j - (enc u).length) v hv
   rw [add_two,he u,Nat.add_mul,Nat.one_mul,show k*n+n+(j - n)=k*n+j by rw [he u] at hj;omega] at this
   rw [add_two];exact this
theorem flat_at (he:∀ v,(enc v).length=n):∀ (l:List α) (i:Nat) (v:α) (j:Nat) (u:Value),l[i]?=some v→(enc v)[j]?=some u→(l.flatMap enc)[i*n+j]?=some u
 | x :: l,0,v,j,u,h,hu=>by
  obtain rfl:=Option.some.inj h
  rw [List.flatMap_cons,Nat.zero_mul,Nat.zero_add,List.getElem?_append_left (List.getElem?_eq_some_iff.1 hu).1];exact hu
 | x :: l,i+1,v,j,u,h,hu=>by
  have:=flat_at he l i v j u (by simpa using h) hu
  rw [List.flatMap_cons,List.getElem?_append_right (by rw [he,Nat.add_mul];omega),he,Nat.add_mul,Nat.one_mul,show i*n+n+j - n=i*n+j by omega]
  exact this
theorem row_of_block (he:∀ v,(enc v).length=n) {w:World} {g:Nat} {t:TypeId} {fr:Nat × Nat} (l:List α) (hg:w.heap[g]?=some (.cells (l.flatMap enc).toArray t fr)) (hl:l.length≤maxLen):RowOf n enc w ⟨some ⟨g,0,none⟩,l.length⟩ l:=by
 refine .inr ⟨_,rfl,Nat.le_refl _,hl,fun i v hv j u hu=>?_⟩
 rw [add_two,Addr.add_mid,cell_of_row _ _ _ _ _ _ hg,Nat.zero_add]
 simpa using flat_at he l i v j u hv hu
theorem RowOf.flat (he:∀ v,(enc v).length=n) {w:World} {s:Sl} {l:List α} (h:RowOf n enc w s l) (h0:0 < l.length):∃ x,s.a=some x∧Lies w x (l.flatMap enc):=by
 rcases h with ⟨_,_,rfl⟩ | ⟨x,h1,h2,h3,h4⟩
 ·simp at h0
 ·refine ⟨x,h1,?_⟩
  have:=lies_flat (x:=x) he l 0 (fun i v hv=>by rw [Nat.zero_add];exact h4 i v hv)
  rwa [Nat.zero_mul,add_zero] at this
end
end Copy
namespace Clone
open Go.ChangeShapes Go.WideShapes Go.ChangeAt Go.RowKit
open Tab Copy
open May (chain infoP infoG infoD infoR infoB)
theorem zI:(Tryz.prog.info? 3).map (fun i=>(i.zero,i.size,i.bytes))=some (some (.int .i64 0),1,8):=by kernel_rfl
theorem zG:(Tryz.prog.info? 55).map (fun i=>(i.zero,i.size,i.bytes))=some (some (.agg #[.slice none 0 0,.slice none 0 0]),2,48):=by kernel_rfl
theorem zD:(Tryz.prog.info? 80).map (fun i=>(i.zero,i.size,i.bytes))=some (some (.agg #[.int .i64 0,.float .f64 0,.float .f64 0,.float .f64 0,.float .f64 0,.int .i64 0,.int .i64 0]),7,56):=by kernel_rfl
theorem zR:(Tryz.prog.info? 84).map (fun i=>(i.zero,i.size,i.bytes))=some (some (.agg #[.int .i64 0,.int .i64 0,.int .i64 0,.int .i64 0,.int .i64 0,.int .i64 0,.int .i64 0,.int .i64 0,.int .i64 0,.int .i64 0,.int .i64 0]),11,88):=by kernel_rfl
theorem zB:(Tryz.prog.info? 86).map (fun i=>(i.zero,i.size,i.bytes))=some (some (.agg #[.int .i64 0,.int .i64 0]),2,16):=by kernel_rfl
end Clone
namespace Owned
open Go Go.RowKit
open Tab Copy
structure Blk where
 at_:Nat
 cells:List Value
 type:TypeId
def Own (B:Nat) (w:World) (L:List Blk):Prop:=(L.map Blk.at_).Nodup∧∀ x ∈ L,B≤x.at_∧w.heap[x.at_]?=some (.cells x.cells.toArray x.type (0,0))
variable {B:Nat} {w w':World} {L M:List Blk} {x:Blk}
theorem Own.nil:Own B w []:=⟨by simp,fun x h=>by simp at h⟩
theorem Own.get (h:Own B w L) (hx:x ∈ L):w.heap[x.at_]?=some (.cells x.cells.toArray x.type (0,0)):=(h.2 x hx).2
theorem Own.base (h:Own B w L) (hx:x ∈ L):B≤x.at_:=(h.2 x hx).1
theorem Own.lt (h:Own B w L) (hx:x ∈ L):x.at_ < w.heap.size:=(Array.getElem?_eq_some_iff.1 (h.get hx)).1
theorem Own.step (h:Own B w L) (hb:Below w.heap.size w w'):Own B w' L:=⟨h.1,fun x hx=>⟨h.base hx,by rw [hb.block _ (h.lt hx)];exact h.get hx⟩⟩
theorem Own.tail (h:Own B w (x :: L)):Own B w L:=⟨(List.nodup_cons.1 h.1).2,fun y hy=>h.2 y (List.mem_cons_of_mem _ hy)⟩
theorem Own.add (h:Own B w L) (hb:Below w.heap.size w w') {g:Nat} {cs:List Value} {t:TypeId} (hg:w'.heap[g]?=some (.cells cs.toArray t (0,0))) (hn:w.heap.size≤g) (hB:B≤w.heap.size):Own B w' (⟨g,cs,t⟩ :: L):=by
 refine ⟨List.nodup_cons.2 ⟨fun hm=>?_,h.1⟩,fun y hy=>?_⟩
 ·obtain ⟨y,hy,e⟩:=List.mem_map.1 hm
  have:=h.lt hy
  have e':y.at_=g:=e
  omega
 ·rcases List.mem_cons.1 hy with rfl | hy
  ·exact ⟨Nat.le_trans hB hn,hg⟩
  ·exact (h.step hb).2 y hy
theorem Own.write (h:Own B w (x :: L)) {cs:List Value} (hg:w'.heap[x.at_]?=some (.cells cs.toArray x.type (0,0))) (ho:∀ j,j ≠ x.at_→w'.heap[j]?=w.heap[j]?):Own B w' (⟨x.at_,cs,x.type⟩ :: L):=by
 have hx:=(List.nodup_cons.1 h.1).1
 refine ⟨List.nodup_cons.2 ⟨hx,(List.nodup_cons.1 h.1).2⟩,fun y hy=>?_⟩
 rcases List.mem_cons.1 hy with rfl | hy
 ·exact ⟨(h.base (x:=x) (List.mem_cons_self ..):B≤x.at_),hg⟩
 ·have hne:y.at_ ≠ x.at_:=fun e=>hx (List.mem_map.2 ⟨y,hy,e⟩)
  exact ⟨h.base (List.mem_cons_of_mem _ hy),by rw [ho _ hne];exact h.get (List.mem_cons_of_mem _ hy)⟩
theorem Own.cell (h:Own B w L) (hx:x ∈ L) (i:Nat):w.cell? ⟨x.at_,i,none⟩=x.cells[i]?:=by
 rw [cell_of_row _ _ _ _ _ _ (h.get hx)];simp
theorem Own.frozen (h:Own B w L) (hx:x ∈ L) (i:Nat):w.frozen? ⟨x.at_,i,none⟩=false:=frozen_of_row _ _ _ _ _ (h.get hx)
theorem below_write {a:World} (hb:Below B a w) {g i:Nat} (hg:B≤g) (v:Value):Below B a (w.setCell ⟨g,i,none⟩ v):=hb.setCell (p:=⟨g,i,none⟩) hg v
end Owned
namespace Clone
open Go.ChangeShapes Go.WideShapes Go.ChangeAt Go.RowKit
open Tab Copy Owned
open May (chain infoP infoG infoD infoR infoB infoT)
structure NG where
 r0:List Int
 r1:List Int
 b0:Nat
 b1:Nat
def NG.gr (g:NG):Gr:=⟨g.r0,g.r1,⟨some ⟨g.b0,0,none⟩,g.r0.length⟩,⟨some ⟨g.b1,0,none⟩,g.r1.length⟩⟩
def NG.blks (g:NG):List Blk:=[⟨g.b0,g.r0.flatMap (fun n=>[I n]),3⟩,⟨g.b1,g.r1.flatMap (fun n=>[I n]),3⟩]
abbrev at0 (g n:Nat):Sl:=⟨some ⟨g,0,none⟩,n⟩
def own (T:Tab) (ns:List NG) (G D R S:Nat):List Blk :=
 ⟨G,(ns.map NG.gr).flatMap Gr.cells,55⟩ :: ⟨D,T.dets.flatMap Det.cells,80⟩ :: ⟨R,T.rails.flatMap Rl.cells,84⟩ :: ⟨S,T.buses.flatMap Bs.cells,86⟩ :: ns.flatMap NG.blks
def hd (T:Tab) (G D R S:Nat):Hd:=⟨at0 G T.groups.length,at0 D T.dets.length,at0 R T.rails.length,at0 S T.buses.length⟩
section
variable {T:Tab} {ns:List NG} {G D R S:Nat}
end
structure Eights (T:Tab):Prop where
 p:T.phases.length=8
 c:T.conflict.length=8
 f:T.flash.length=8
theorem Eights.tab {T:Tab} (k:Eights T) (h:Hd) (w:World):CellsOk T h (T.cells h).toArray:=by
 have h0:IsTab w ⟨⟨none,0⟩,⟨none,0⟩,⟨none,0⟩,⟨none,0⟩⟩ { T with groups:=[],dets:=[],rails:=[],buses:=[] } :=
  ⟨k.p,k.c,k.f,⟨[],rfl,RowOf.nil w,fun g hg=>by simp at hg⟩,RowOf.nil w,RowOf.nil w,RowOf.nil w⟩
 have:=cells_ok h0
 obtain ⟨p0,p1,p2,p3,p4,p5,p6,p7,hp⟩:=eight k.p
 obtain ⟨c0,c1,c2,c3,c4,c5,c6,c7,hc⟩:=eight k.c
 obtain ⟨f0,f1,f2,f3,f4,f5,f6,f7,hf⟩:=eight k.f
 clear k
 obtain ⟨phases,groups,conflict,dets,rails,buses,extend,budget,start,revert,least,flash,window,share⟩:=T
 simp only at hp hc hf
 subst hp hc hf
 clear this h0
 constructor
 all_goals try rfl
 case one=>simp [Tab.cells,Ph.cells,Value.oneCell']
 intro i p hp
 match i,hp with
 | 0,hp | 1,hp | 2,hp | 3,hp | 4,hp | 5,hp | 6,hp | 7,hp =>
  obtain rfl:=Option.some.inj hp
  rfl
 | i+8,hp=>cases hp
def zPh:Ph:=⟨false,0,0,0,0,0,0,0,0,0,0,false,false⟩
def zTab:Tab:=⟨List.replicate 8 zPh,[],List.replicate 8 0,[],[],[],0,0,0,0,0,List.replicate 8 0,0,0⟩
def zHd:Hd:=⟨⟨none,0⟩,⟨none,0⟩,⟨none,0⟩,⟨none,0⟩⟩
theorem info31:(Tryz.prog.info? 31).map (fun i=>(i.zero,i.size))=some (some (.agg (zTab.cells zHd).toArray),131):=by kernel_rfl
theorem z_is (w:World):IsTab w zHd zTab:=⟨rfl,rfl,rfl,⟨[],rfl,RowOf.nil w,fun g hg=>by simp at hg⟩,RowOf.nil w,RowOf.nil w,RowOf.nil w⟩
end Clone
namespace QL
open Go Go.RowKit
open Tab
theorem wpQuiet_load {P:Program} {C:World→Prop} {ops:Array Oper} {Q:Act→Prop} {a:Act} {o:Oper} {rest:List Oper} (hw:Region.wanted o (yielded ops a.tmps)=true) (ty:TypeId) (x:Operand) (ho:o.op=.load ty x) (y:Addr) (hx:a.eval x=.pointer (some y))
  (cs:List Value) (d:TypeDesc) (hc:∀ w,C w→Lies w y cs) (hu:P.underlying ty=some d) (hd:d.isRow=true) (hi:(P.info? ty).map (·.size)=some cs.length) (h:wpQuiet P ops C Q rest (a.put o.dst (.agg cs.toArray))):wpQuiet P ops C Q (o :: rest) a :=
 wpQuiet_step fun K hK=>by
  rw [if_pos hw]
  refine ⟨_,fun w hw'=>?_,hK _ h⟩
  unfold Oper.quietAt execOp
  simp only [ho,hx,Instr.loadAt,Instr.sureAddr,Sem.run_bind,Sem.run_pure,Result.andThen_ok,Row.run_loadVar_lies w y ty cs d (hc w hw') hu hd hi]
  exact ⟨rfl,rfl⟩
end QL
namespace Rr
open Go Go.RowKit Go.ChangeShapes
open Tab
open Po (fault infoF)
open Rd (Rd But)
open Put (lim)
theorem wpQuiet_run {P:Program} {C:World→Prop} {ops:Array Oper} {Q:Act→Prop} {a:Act} {o:Oper} {rest:List Oper} (hw:Region.wanted o (yielded ops a.tmps)=true) (v:Value)
  (hr:∀ w,(execOp a.eval o).run P w=.ok (.value v) w) (h:wpQuiet P ops C Q rest (a.put o.dst v)):wpQuiet P ops C Q (o :: rest) a :=
 wpQuiet_step fun K hK=>by
  rw [if_pos hw]
  refine ⟨_,fun w _=>?_,hK _ h⟩
  unfold Oper.quietAt
  rw [hr w]
  exact ⟨rfl,rfl⟩
theorem flF:Flat.flat Tryz.prog 5 40=some [35,3]:=by kernel_rfl
theorem fault_eqs (a b c d:Int):Same.Eqs 40 [I a,I b] [I c,I d] (decide (a=c∧b=d)):=by
 refine Same.eqs_of flF (by decide) (by kernel_rfl) [(I a,I c),(I b,I d)] ⟨Same.lint _ _,Same.lint _ _,trivial⟩ rfl rfl ?_
 simp
theorem guardF:Tryz.prog.eqGuardType Tryz.prog.depth 40=false:=by kernel_rfl
theorem infoRd:(Tryz.prog.info? 69).map (·.size)=some 1:=by kernel_rfl
abbrev rdr (g:Nat):Value:=.agg #[.pointer (some ⟨g,0,none⟩)]
theorem want_bad (g:Nat) (ad:Option Addr) (cap:Nat) (l:List Nat) (k:Nat) (code fat:Int) (w:World) (h:Rd w g ad cap l k code fat) (hne:code ≠ 0) :
  Calls Tryz.prog 132 #[rdr g] w fun e w'=>e=.panicked [{ v:=fault (code,fat),recovered:=false }]∧Below w.heap.size w w':=by
 have hpan:∀ (u:TypeId) (v:Value) (w:World),(Instr.panic (.iface u v)).run Tryz.prog w=.halt (.panic (.iface u v)) w:=fun _ _ _=>rfl
 have hb:=(Below.refl w.heap.size w).alloc (Nat.le_refl _) (.cells #[.pointer (some ⟨g,0,none⟩)] 69)
 have hg:=heap_alloc_new w (.cells #[.pointer (some ⟨g,0,none⟩)] 69)
 have HR:=Lib.hid (h.below hb)
 have HB:=Lib.hid hb
 have HE:Hid (Same.Eqs 40 [I code,I fat] [I 0,I 0] false):=Lib.hid (by have:=fault_eqs code fat 0 0;rwa [decide_eq_false (by simp [hne])] at this)
 clear h hb hne
 go_enter Tryz.func132,Tryz.ntmps132
 go_upto_region 1 with fail
 generalize World.alloc w _=v at HR HB hg ⊢
 have k0:v.cell? ⟨w.heap.size,0,none⟩=some (.pointer (some ⟨g,0,none⟩)):=by rw [cell_of_row _ _ _ _ _ _ hg];rfl
 go_wp2_with fail
 refine (Rd.fault_any g ad cap l k code fat v HR.out).mono ?_
 rintro e v1 ⟨rfl,hb1⟩
 go_upto_region 2 with fail
 have hb2:=hb1.alloc hb1.size (.cells #[I code,I fat] 40)
 have hg2:=heap_alloc_new v1 (.cells #[I code,I fat] 40)
 generalize World.alloc v1 _=v2 at hb2 hg2 ⊢
 generalize v1.heap.size=nb at hg2 ⊢
 have HB2:Hid (Below w.heap.size w v2):=Lib.hid (HB.out.trans (hb2.mono HB.out.size))
 have HG:=Lib.hid hg2
 clear hb1 hb2 hg2 k0 hg
 have LF:Hid (Lies v2 ⟨nb,0,none⟩ [I code,I fat]):=Lib.hid (by have:=Row.lies_of_block HG.out;simpa using this)
 go_wp2_with (first | (refine Row.wpList_load_g 40 _ rfl (by first | rfl | go_simp) ⟨nb,0,none⟩ rfl [I code,I fat] _ LF.out Tryz.underlying40 rfl infoF ?_) | (refine Row.wpList_neq 40 _ _ _ rfl rfl #[I code,I fat] #[I 0,I 0] rfl rfl guardF false HE.out ?_))
 exact ⟨rfl,rfl,HB2.out⟩
theorem number_nil {B g nb:Nat} (ad:Option Addr) (cap:Nat) (m:Int) (w:World) (h:Rd w g ad cap [] 0 0 0) (hn:w.heap[nb]?=some (.cells #[I 0] 3 (0,0))) (hne:nb ≠ g) (hB:B≤w.heap.size) (hg:B≤g) (hnb:B≤nb) :
  Calls Tryz.prog 114 #[rdr g,.int .i64 3,.int .i64 m,.pointer (some ⟨nb,0,none⟩)] w fun e w'=>e=.panicked [{ v:=fault (2,0),recovered:=false }]∧Below B w w':=by
 have hb:=(Below.refl w.heap.size w).alloc (Nat.le_refl _) (.cells #[.pointer (some ⟨g,0,none⟩)] 69)
 have hgg:=heap_alloc_new w (.cells #[.pointer (some ⟨g,0,none⟩)] 69)
 have hR:=h.below hb
 have hn1:=(hb.block nb (Array.getElem?_eq_some_iff.1 hn).1).trans hn
 have HR:=Lib.hid hR
 have HB:=Lib.hid hb
 have HN:=Lib.hid hn1
 have hgl:=h.lt
 have hnl:=(Array.getElem?_eq_some_iff.1 hn).1
 clear h hb hn hR hn1
 go_enter Tryz.func114,Tryz.ntmps114
 go_upto_region 1 with fail
 generalize World.alloc w _=v at HR HB hgg HN ⊢
 generalize hrb:w.heap.size=rb at hgg ⊢
 have k0:v.cell? ⟨rb,0,none⟩=some (.pointer (some ⟨g,0,none⟩)):=by rw [cell_of_row _ _ _ _ _ _ hgg];rfl
 go_wp2_with fail
 refine (Nm.num_end g ad cap [] 0 3 0 m v HR.out (by decide) (by decide) (by decide)).mono ?_
 rintro e v1 ⟨rfl,hr1,hb1⟩
 have hn2:=(hb1.block nb (Array.getElem?_eq_some_iff.1 HN.out).1 hne).trans HN.out
 have hg2:=(hb1.block rb (Array.getElem?_eq_some_iff.1 hgg).1 (by omega)).trans hgg
 have c1:v1.cell? ⟨nb,0,none⟩=some (I 0):=by rw [cell_of_row _ _ _ _ _ _ hn2];rfl
 have f1:v1.frozen? ⟨nb,0,none⟩=false:=frozen_of_row _ _ _ _ _ hn2
 have hst:v1.setCell ⟨nb,0,none⟩ (I 0)=v1.setRow nb #[I 0]:=setCell_eq_setRow v1 nb 0 #[I 0] 3 (0,0) (I 0) hn2
 have HB1:Hid (Below B w v1):=Lib.hid ((HB.out.mono hB).trans (hb1.below (Nat.le_trans hB HB.out.size) hg))
 have HR1:=Lib.hid hr1
 have HG2:=Lib.hid hg2
 clear k0 hr1 hb1 hg2 hgg
 go_upto_region 2 with fail
 have hb2:But nb v1 (v1.setCell ⟨nb,0,none⟩ (I 0)):=But.set nb 0 v1 _
 have hB2:Below B w (v1.setCell ⟨nb,0,none⟩ (I 0)):=HB1.out.setCell hnb _
 have hR2:=HR1.out.but hb2 (Ne.symm hne) (fun h=>absurd rfl h)
 have hG2:=(hb2.block rb (Array.getElem?_eq_some_iff.1 HG2.out).1 (by omega)).trans HG2.out
 rw [hst] at hb2 hB2 hR2 hG2
 generalize v1.setRow nb #[I 0]=v2 at hB2 hR2 hG2 ⊢
 have HB3:=Lib.hid hB2
 have LR:Hid (Lies v2 ⟨rb,0,none⟩ [.pointer (some ⟨g,0,none⟩)]):=Lib.hid (by have:=Row.lies_of_block hG2;simpa using this)
 have hwb:=Lib.hid (want_bad g ad cap [] 0 2 (0:Nat) v2 hR2 (by decide))
 clear hst hb2 hB2 hR2 hG2 c1 f1
 go_wp2_with (refine Row.wpList_load_g 69 _ rfl (by first | rfl | go_simp) ⟨rb,0,none⟩ rfl [.pointer (some ⟨g,0,none⟩)] _ LR.out Tryz.underlying69 rfl infoRd ?_)
 refine hwb.out.mono ?_
 rintro e v3 ⟨rfl,hb3⟩
 exact ⟨rfl,rfl,HB3.out.trans (hb3.mono (Nat.le_trans hB HB3.out.size))⟩
theorem raw_nil {g:Nat} (ad:Option Addr) (cap:Nat) (w0 w:World) (h:Rd w g ad cap [] 0 0 0) (hw:Below w0.heap.size w0 w) (hg:w0.heap.size≤g) :
  Calls Tryz.prog 83 #[rdr g,.int .i64 3] w fun e w'=>e=.panicked [{ v:=fault (2,0),recovered:=false }]∧Below w0.heap.size w0 w':=by
 have hb:=(Below.refl w.heap.size w).alloc (Nat.le_refl _) (.cells #[.pointer (some ⟨g,0,none⟩)] 69)
 have hb2:=hb.alloc hb.size (.cells #[I 0] 3)
 have hg1:=heap_alloc_new w (.cells #[.pointer (some ⟨g,0,none⟩)] 69)
 have hg2:=heap_alloc_new (w.alloc (.cells #[.pointer (some ⟨g,0,none⟩)] 69)) (.cells #[I 0] 3)
 have hs1:(w.alloc (.cells #[.pointer (some ⟨g,0,none⟩)] 69)).heap.size=w.heap.size+1:=by simp
 rw [hs1] at hg2
 have hg3:((w.alloc (.cells #[.pointer (some ⟨g,0,none⟩)] 69)).alloc (.cells #[I 0] 3)).heap[w.heap.size]?=some (.cells #[.pointer (some ⟨g,0,none⟩)] 69 (0,0)):=by
  rw [Below.heap_alloc _ _ _ (by rw [hs1];omega)];exact hg1
 have HR:=Lib.hid (h.below hb2)
 have hgl:=h.lt
 have HW:Hid (Below w0.heap.size w0 ((w.alloc (.cells #[.pointer (some ⟨g,0,none⟩)] 69)).alloc (.cells #[I 0] 3))):=Lib.hid (hw.trans (hb2.mono hw.size))
 have hws:=hw.size
 clear h hb hg1 hs1 hw hb2
 go_enter Tryz.func83,Tryz.ntmps83
 go_upto_region 2 with fail
 generalize World.alloc (World.alloc w _) _=v at HR HW hg2 hg3 ⊢
 generalize hnb:w.heap.size+1=nb at hg2 ⊢
 generalize hrb:w.heap.size=rb at hg3 ⊢
 have LR:Hid (∀ W,Below v.heap.size v W→Lies W ⟨rb,0,none⟩ [.pointer (some ⟨g,0,none⟩)]):=Lib.hid (fun W hb=>by have:=Row.lies_of_block ((hb.block rb (Array.getElem?_eq_some_iff.1 hg3).1).trans hg3);simpa using this)
 have HG2:=Lib.hid hg2
 clear hg2 hg3
 refine QT.region v.heap.size 6 (by kernel_rfl) (by kernel_rfl) ?_
 simp only [List.take_succ_cons,List.take_zero]
 repeat first
  | (refine QL.wpQuiet_load rfl 69 _ rfl ⟨rb,0,none⟩ rfl [.pointer (some ⟨g,0,none⟩)] _ (fun w' ⟨p,e⟩=>by rw [e];exact LR.out _ p.below) Tryz.underlying69 rfl infoRd ?_
     dsimp only [Act.put]
     simp only [List.setIfInBounds_toArray,List.set_cons_zero,List.set_cons_succ])
  | (quiet_step (fail))
  | (refine wpQuiet_run rfl (I 16777216) (fun w=>rfl) ?_
     dsimp only [Act.put]
     simp only [List.setIfInBounds_toArray,List.set_cons_zero,List.set_cons_succ])
 refine wpQuiet_nil ?_
 intro _ hw'
 obtain ⟨p,rfl⟩:=hw'
 have HR2:=Lib.hid (HR.out.below p.below)
 have HN2:=Lib.hid ((p.below.block nb (Array.getElem?_eq_some_iff.1 HG2.out).1).trans HG2.out)
 have HWD:Hid (Below w0.heap.size w0 p.world):=Lib.hid (HW.out.trans (p.below.mono HW.out.size))
 generalize p.world=vd at HR2 HN2 HWD ⊢
 simp only [List.drop_succ_cons,List.drop_zero]
 go_wp2_with fail
 refine (number_nil (B:=w0.heap.size) ad cap _ vd HR2.out HN2.out (by omega) HWD.out.size hg (by omega)).mono ?_
 rintro e v3 ⟨rfl,hb3⟩
 exact ⟨rfl,rfl,HWD.out.trans hb3⟩
theorem head_nil {g:Nat} (ad:Option Addr) (cap:Nat) (w0 w:World) (h:Rd w g ad cap [] 0 0 0) (hw:Below w0.heap.size w0 w) (hg:w0.heap.size≤g) :
  Calls Tryz.prog 31 #[rdr g] w fun e w'=>e=.panicked [{ v:=fault (2,0),recovered:=false }]∧Below w0.heap.size w0 w':=by
 have hb:=(Below.refl w.heap.size w).alloc (Nat.le_refl _) (.cells #[.pointer (some ⟨g,0,none⟩)] 69)
 have hg1:=heap_alloc_new w (.cells #[.pointer (some ⟨g,0,none⟩)] 69)
 have hw2:=hw.trans (hb.mono hw.size)
 have HC:=Lib.hid (raw_nil ad cap w0 _ (h.below hb) hw2 hg)
 clear h hb hw hw2
 go_enter Tryz.func31,Tryz.ntmps31
 go_upto_region 1 with fail
 generalize World.alloc w _=v at HC hg1 ⊢
 have LR:Hid (Lies v ⟨w.heap.size,0,none⟩ [.pointer (some ⟨g,0,none⟩)]):=Lib.hid (by have:=Row.lies_of_block hg1;simpa using this)
 go_wp2_with (refine Row.wpList_load_g 69 _ rfl (by first | rfl | go_simp) ⟨w.heap.size,0,none⟩ rfl [.pointer (some ⟨g,0,none⟩)] _ LR.out Tryz.underlying69 rfl infoRd ?_)
 refine HC.out.mono ?_
 rintro e v3 ⟨rfl,hb3⟩
 exact ⟨rfl,rfl,hb3⟩
end Rr
namespace Rr
open Go Go.RowKit Go.ChangeShapes
open Tab
open Po (fault infoF caught_fault)
open Rd (Rd But)
open Clone (zTab zHd info31 z_is)
theorem results_two {P:Program} {fn:Func} {p q:Tmp} {t1 t2:TypeId} (h:fn.results=#[.cell p t1,.cell q t2]) (tmps:Array Value) (w:World) (g1 g2:Nat) (s1 s2:TypeId) (c1 c2:Array Value) (d1 d2:TypeDesc)
  (hp:tmps.getD p undef=.pointer (some ⟨g1,0,none⟩)) (hq:tmps.getD q undef=.pointer (some ⟨g2,0,none⟩)) (hg1:w.heap[g1]?=some (.cells c1 s1 (0,0))) (hg2:w.heap[g2]?=some (.cells c2 s2 (0,0)))
  (hu1:P.underlying t1=some d1) (hd1:(match d1 with | .struct _ | .array _ _=>true | _=>false)=true) (hi1:(P.info? t1).map (·.size)=some c1.size)
  (hu2:P.underlying t2=some d2) (hd2:(match d2 with | .struct _ | .array _ _=>true | _=>false)=true) (hi2:(P.info? t2).map (·.size)=some c2.size) :
  (results fn tmps).run P w=.ok (.tuple #[.agg c1,.agg c2]) w:=by
 have hp':tmps[p]?.getD undef=.pointer (some ⟨g1,0,none⟩):=by simpa using hp
 have hq':tmps[q]?.getD undef=.pointer (some ⟨g2,0,none⟩):=by simpa using hq
 simp [results,h,hp',hq',asAddr,Sem.run_bind,Result.andThen,run_loadVar_row w g1 s1 t1 c1 _ d1 hg1 hu1 hd1 hi1,run_loadVar_row w g2 s2 t2 c2 _ d2 hg2 hu2 hd2 hi2]
theorem dclo_panic (b:Nat) (z0 z1 x y:Int) (w:World) (hc:w.heap[b]?=some (.cells #[I z0,I z1] 40 (0,0))) :
  CallsD Tryz.prog 29 #[.pointer (some ⟨b,0,none⟩)] (.panicking [{ v:=fault (x,y),recovered:=false }]) w fun e u' w'=>e=.returned (.tuple #[])∧u'=.panicking [{ v:=fault (x,y),recovered:=true }]∧But b w w'∧w'.heap[b]?=some (.cells #[I x,I y] 40 (0,0)):=by
 refine callsD_of_wpS Tryz.func29 rfl fun c₀ cs hu=>?_
 apply wpS_region
 simp [wpOpsS,go_sem,recoverD,hu]
 refine (caught_fault x y _).mono ?_
 rintro e w' ⟨rfl,hb⟩
 have hc1:=(hb.block b (Array.getElem?_eq_some_iff.1 hc).1).trans hc
 have c0:w'.cell? ⟨b,0,none⟩=some (I z0):=by rw [cell_of_row _ _ _ _ _ _ hc1];rfl
 have c1:w'.cell? ⟨b,1,none⟩=some (I z1):=by rw [cell_of_row _ _ _ _ _ _ hc1];rfl
 have f0:w'.frozen? ⟨b,0,none⟩=false:=frozen_of_row _ _ _ _ _ hc1
 have f1:w'.frozen? ⟨b,1,none⟩=false:=frozen_of_row _ _ _ _ _ hc1
 have hs1:w'.setCell ⟨b,0,none⟩ (I x)=w'.setRow b #[I x,I z1]:=setCell_eq_setRow w' b 0 #[I z0,I z1] 40 (0,0) (I x) hc1
 have hr1:=setRow_heap w' b _ #[I x,I z1] _ _ hc1
 have hs2:(w'.setRow b #[I x,I z1]).setCell ⟨b,1,none⟩ (I y)=(w'.setRow b #[I x,I z1]).setRow b #[I x,I y]:=setCell_eq_setRow _ b 1 #[I x,I z1] 40 (0,0) (I y) hr1
 have hr2:=setRow_heap _ b _ #[I x,I y] _ _ hr1
 rw [← hs2,← hs1] at hr2
 have hbut:But b w ((w'.setCell ⟨b,0,none⟩ (I x)).setCell ⟨b,1,none⟩ (I y)):=((But.of hb).trans (But.set b 0 w' _)).trans (But.set b 1 _ _)
 clear hs1 hs2 hr1
 simp [wpOpsS,go_sem,c0,f0,c1,f1,World.cell?_setCell_other,bodyPostS,results,Tryz.results29]
 exact ⟨hbut,hr2⟩
theorem dec_nil (w:World):Calls Tryz.prog 14 #[.slice none 0 0] w fun e w'=>e=.returned (.tuple #[.agg (zTab.cells zHd).toArray,.agg #[I 2,I 0]])∧Below w.heap.size w w':=by
 have hmf:∀ (fn:Fn) (first cap:Array Value) (w:World),(Instr.makeFunc fn first cap).run Tryz.prog w=.ok (.func fn first cap) w:=fun _ _ _ _=>rfl
 have hz:=(zero_of_info info31).1
 have ZS:(zTab.cells zHd).toArray.size=131:=(cells_ok (z_is w)).size
 have ZI:(Tryz.prog.info? 31).map (·.size)=some (zTab.cells zHd).toArray.size:=by rw [ZS];kernel_rfl
 obtain ⟨Z,hZ⟩:∃ Z,(zTab.cells zHd).toArray=Z:=⟨_,rfl⟩
 rw [hZ] at hz ZI
 have EZ:=Lib.hid hZ
 have hb1:=(Below.refl w.heap.size w).alloc (Nat.le_refl _) (.cells Z 31)
 have hb2:=hb1.alloc hb1.size (.cells #[I 0,I 0] 40)
 have hg1:=heap_alloc_new w (.cells Z 31)
 have hg2:=heap_alloc_new (w.alloc (.cells Z 31)) (.cells #[I 0,I 0] 40)
 have hs1:(w.alloc (.cells Z 31)).heap.size=w.heap.size+1:=by simp
 rw [hs1] at hg2
 have hg3:((w.alloc (.cells Z 31)).alloc (.cells #[I 0,I 0] 40)).heap[w.heap.size]?=some (.cells Z 31 (0,0)):=by
  rw [Below.heap_alloc _ _ _ (by rw [hs1];omega)];exact hg1
 clear hZ ZS hb1 hg1 hs1
 go_enter_defers Tryz.func14,Tryz.ntmps14
 go_upto_region 2 with fail
 generalize World.alloc (World.alloc w _) _=v at hb2 hg2 hg3 ⊢
 generalize hfb:w.heap.size+1=fb at hg2 ⊢
 generalize htb:w.heap.size=tb at hg3 ⊢
 have HB:=Lib.hid hb2
 have HF:=Lib.hid hg2
 have HT:=Lib.hid hg3
 clear hb2 hg2 hg3
 go_wp2_with fail
 refine (Rd.new_any none 0 [] v (Go.Proofs.YtggjconbgpfomaaGreat.B.row_nil _ _ _ rfl) (by decide) (fun _=>rfl)).mono ?_
 rintro e v1 ⟨g,ad,cap,rfl,hg,_,hrd,hb⟩
 go_upto_region 5 with fail
 have hb3:=hb.alloc hb.size (.cells #[.pointer (some ⟨g,0,none⟩)] 69)
 have hr3:=heap_alloc_new v1 (.cells #[.pointer (some ⟨g,0,none⟩)] 69)
 have hrd3:=hrd.below ((Below.refl v1.heap.size v1).alloc (Nat.le_refl _) (.cells #[.pointer (some ⟨g,0,none⟩)] 69))
 generalize World.alloc v1 _=v2 at hb3 hr3 hrd3 ⊢
 generalize v1.heap.size=rb at hr3 ⊢
 have LR:Hid (Lies v2 ⟨rb,0,none⟩ [.pointer (some ⟨g,0,none⟩)]):=Lib.hid (by have:=Row.lies_of_block hr3;simpa using this)
 have HH:=Lib.hid (head_nil ad cap v v2 hrd3 hb3 hg)
 clear hb hb3 hr3 hrd hrd3 hg
 go_wp2_with (refine Row.wpList_load_g 69 _ rfl (by first | rfl | go_simp) ⟨rb,0,none⟩ rfl [.pointer (some ⟨g,0,none⟩)] _ LR.out Tryz.underlying69 rfl infoRd ?_)
 refine HH.out.mono ?_
 rintro e v3 ⟨rfl,hb3⟩
 have hF3:=(hb3.block fb (Array.getElem?_eq_some_iff.1 HF.out).1).trans HF.out
 have hT3:=(hb3.block tb (Array.getElem?_eq_some_iff.1 HT.out).1).trans HT.out
 go_wp2
 refine leaves_cons (f:=29) (args:=#[.pointer (some ⟨fb,0,none⟩)]) (by simp) (by simp [go_sem]) ?_
 refine (dclo_panic fb 0 0 2 0 v3 hF3).mono ?_
 rintro e u' w'' ⟨rfl,rfl,hbut,hF4⟩
 have hT4:=(hbut.block tb (Array.getElem?_eq_some_iff.1 hT3).1 (by omega)).trans hT3
 have hBB:Below w.heap.size w w'':=(HB.out.trans (hb3.mono HB.out.size)).trans (hbut.below (Nat.le_trans HB.out.size hb3.size) (by omega))
 exact ⟨_,results_two rfl _ w'' tb fb 31 40 Z #[I 2,I 0] _ _ rfl rfl hT4 hF4 Tryz.underlying31 rfl ZI Tryz.underlying40 rfl infoF,by rw [EZ.out],hBB⟩
end Rr
namespace Rr
open Go Go.RowKit Go.ChangeShapes
open Tab
open Po (infoF)
open Clone (zTab zHd info31 z_is)
theorem wpList_build0 {P:Program} {ops:Array Oper} {Q:Exit→Act→World→Prop} {rest:List Oper} {o:Oper} {a:Act} {w:World} (hgd:o.guard=none) (t:TypeId) (ho:o.op=.build t #[]) (cells:Array Value) (hb:P.built t []=some cells)
  (h:wpList P ops Q rest (a.put o.dst (.agg cells)) w):wpList P ops Q (o :: rest) a w :=
 wpList_plain hgd fun _ hK=>by
  unfold Oper.wp execOp
  have hb':P.built t ((#[]:Array (Nat × Operand)).map fun (i,x)=>(i,a.eval x)).toList=some cells:=by simpa using hb
  simp only [ho,Sem.run_bind,run_build w t _ _ hb',Result.andThen_ok,Sem.run_pure]
  exact hK _ _ h
theorem builtZ:Tryz.prog.built 31 []=some (zTab.cells zHd).toArray:=by kernel_rfl
theorem may_z:May.tabMay zTab=true:=by decide +kernel
theorem awake_any (w:World):Calls Tryz.prog 10 #[] w fun e w'=>e=.returned (.bool true)∧Below w.heap.size w w':=by
 have hz:=(zero_of_info info31).1
 have ZS:(zTab.cells zHd).toArray.size=131:=(cells_ok (z_is w)).size
 have ZO:=(cells_ok (z_is w)).one
 have ZI:(Tryz.prog.info? 31).map (·.size)=some (zTab.cells zHd).toArray.size:=by rw [ZS];kernel_rfl
 have DN:Hid (∀ W,Calls Tryz.prog 14 #[.slice none 0 0] W fun e w'=>e=.returned (.tuple #[.agg (zTab.cells zHd).toArray,.agg #[I 2,I 0]])∧Below W.heap.size W w'):=Lib.hid (fun W=>dec_nil W)
 have EN:Hid (∀ W,Calls Tryz.prog 11 #[.agg (zTab.cells zHd).toArray] W fun e w'=>∃ v,e=.returned (.tuple #[v,I 0])∧B.Own W.heap.size w' v (Cd.sealB (Cd.bodyB zTab))∧Below W.heap.size W w'):=Lib.hid (fun W=>Po.enc_good (z_is W) may_z)
 have BZ:=Lib.hid builtZ
 have L8:Hid (∀ x ∈ Cd.sealB (Cd.bodyB zTab),x < 256):=Lib.hid ((Cd.B8.body _).app (Cd.B8.low _ _))
 have LL:Hid (3 < (Cd.sealB (Cd.bodyB zTab)).length∧(Cd.sealB (Cd.bodyB zTab)).getD 0 0=88):=Lib.hid ⟨by unfold Cd.sealB;rw [List.length_append,Put.low_len];show 3 < (3+(Cd.itemsB zTab).length)+2 ;omega,rfl⟩
 generalize (zTab.cells zHd).toArray=Z at hz ZS ZO ZI DN EN BZ
 generalize Cd.sealB (Cd.bodyB zTab)=L at EN L8 LL
 go_enter Tryz.func10,Tryz.ntmps10
 go_wp2_with fail
 refine (DN.out w).mono ?_
 rintro e v1 ⟨rfl,hb1⟩
 have HB1:=Lib.hid hb1
 have hs1:(v1.alloc (.cells Z 31)).heap.size=v1.heap.size+1:=by simp
 have kb0:((v1.alloc (.cells Z 31)).alloc (.cells #[I 0,I 0] 40)).heap[v1.heap.size]?=some (.cells Z 31 (0,0)):=by
  rw [Below.heap_alloc _ _ _ (by rw [hs1];omega)];exact heap_alloc_new v1 _
 have kf0:((v1.alloc (.cells Z 31)).alloc (.cells #[I 0,I 0] 40)).heap[v1.heap.size+1]?=some (.cells #[I 0,I 0] 40 (0,0)):=by
  have:=heap_alloc_new (v1.alloc (.cells Z 31)) (.cells #[I 0,I 0] 40)
  rwa [hs1] at this
 have kf1:(((v1.alloc (.cells Z 31)).alloc (.cells #[I 0,I 0] 40)).setRow v1.heap.size Z).heap[v1.heap.size+1]?=some (.cells #[I 0,I 0] 40 (0,0)):=(setRow_other _ _ _ _ (by omega)).trans kf0
 have kf2:=setRow_heap _ (v1.heap.size+1) _ #[I 2,I 0] _ _ kf1
 have hb2:Below v1.heap.size v1 ((((v1.alloc (.cells Z 31)).alloc (.cells #[I 0,I 0] 40)).setRow v1.heap.size Z).setRow (v1.heap.size+1) #[I 2,I 0]) :=
  below_setRow (below_setRow (((Below.refl _ _).alloc (Nat.le_refl _) _).alloc (by rw [hs1];omega) _) (Nat.le_refl _) Z) (by omega) _
 have KB:=Lib.hid kb0
 have KF:=Lib.hid kf1
 have KF2:=Lib.hid kf2
 have HB2:=Lib.hid (hb1.trans (hb2.mono hb1.size))
 clear kb0 kf0 kf1 kf2 hb2 hs1 hb1
 go_upto_region 2 with (first | (refine wpList_store_row rfl 31 _ _ rfl v1.heap.size Z rfl rfl 31 _ KB.out ZI rfl ZO ?_) | (refine wpList_store_row rfl 40 _ _ rfl (v1.heap.size+1) #[I 2,I 0] rfl rfl 40 _ KF.out infoF rfl (by simp [Value.oneCell']) ?_))
 generalize ((((v1.alloc (.cells Z 31)).alloc (.cells #[I 0,I 0] 40)).setRow v1.heap.size Z).setRow (v1.heap.size+1) #[I 2,I 0])=v2 at KF2 HB2 ⊢
 generalize v1.heap.size+1=fb at KF2 ⊢
 clear KB KF
 go_wp2_with (refine wpList_build0 rfl 31 rfl Z BZ.out ?_)
 refine (EN.out v2).mono ?_
 rintro e v3 ⟨bv,rfl,hown,hb3⟩
 obtain ⟨a,cap,rfl,hr⟩:=B.own_row hown L8.out
 obtain ⟨n,hn⟩:∃ n,n=L.length:=⟨_,rfl⟩
 have hn3:3 < n:=by rw [hn];exact LL.out.1
 obtain ⟨x,rfl,hc⟩:=hr.cells (k:=0) (by omega)
 have hc0:=hc 0 (by omega)
 rw [LL.out.2,Tab.add_zero] at hc0
 have hF3:=(hb3.block fb (Array.getElem?_eq_some_iff.1 KF2.out).1).trans KF2.out
 have k0:v3.cell? ⟨fb,0,none⟩=some (I 2):=by rw [cell_of_row _ _ _ _ _ _ hF3];rfl
 have k1:v3.cell? ⟨fb,1,none⟩=some (I 0):=by rw [cell_of_row _ _ _ _ _ _ hF3];rfl
 have HB3:=Lib.hid (HB2.out.trans (hb3.mono HB2.out.size))
 rw [← hn]
 clear hown hr hc hF3 hb3 hn
 go_wp2
 go_ret
 exact ⟨rfl,HB3.out⟩
end Rr
namespace Copy
open Go Go.RowKit
open Tab
theorem made_zero {z:Array Value} (n:Nat):madeCells z (n*z.size)=(List.replicate n z.toList).flatten.toArray:=by
 apply Array.ext'
 apply List.ext_getElem?
 intro i
 have hlen:(List.replicate n z.toList).flatten.length=n*z.size:=by
  rw [List.length_flatten,List.map_replicate,List.sum_replicate_nat,Array.length_toList]
 by_cases hi:i < n*z.size
 ·have hz:0 < z.size:=by
   rcases Nat.eq_zero_or_pos z.size with h | h
   ·rw [h] at hi;omega
   ·exact h
  have hq:i / z.size < n:=(Nat.div_lt_iff_lt_mul hz).2 hi
  have hr:i % z.size < z.size:=Nat.mod_lt _ hz
  have h1:=flat_at (enc:=fun _:Unit=>z.toList) (n:=z.size) (fun _=>Array.length_toList) (List.replicate n ()) (i / z.size) () (i % z.size) z[i % z.size] (by rw [List.getElem?_replicate,if_pos hq]) (by rw [Array.getElem?_toList];exact Array.getElem?_eq_getElem hr)
  rw [show i / z.size*z.size+i % z.size=i by rw [Nat.mul_comm];exact Nat.div_add_mod i z.size] at h1
  rw [show (List.replicate n ()).flatMap (fun _=>z.toList)=(List.replicate n z.toList).flatten by rw [List.flatMap_def,List.map_replicate]] at h1
  show _=(List.replicate n z.toList).flatten[i]?
  rw [h1,Array.getElem?_toList]
  unfold madeCells
  rw [Array.getElem?_map,Array.getElem?_range,if_pos (by show i < n*z.size;exact hi),Option.map_some,getElem!_pos z _ hr]
 ·rw [List.getElem?_eq_none (by rw [Array.length_toList,size_madeCells];omega),List.getElem?_eq_none (by show (List.replicate n z.toList).flatten.length≤i;omega)]
section
variable {P:Program}
theorem wpList_make_zero {ops:Array Oper} {rest:List Oper} {o:Oper} {a:Act} {w:World} {Q:Exit→Act→World→Prop} (hg:o.guard=none) (l c:Operand) (t e:TypeId) (hop:o.op=Op.makeSlice t l c) (hu:P.underlying t=some (.slice e))
  (z:Value) (size bytes:Nat) (hi:(P.info? e).map (fun i=>(i.zero,i.size,i.bytes))=some (some z,size,bytes)) (hz:z.cells.size=size) (n:Nat) (hl:a.eval l=.int .i64 (n:Int)) (hc:a.eval c=.int .i64 (n:Int)) (hn:n≤1000) (hb:bytes≤100000)
  (h:∀ w',w'.heap[w.heap.size]?=some (.cells (List.replicate n z.cells.toList).flatten.toArray e (0,0))→Below w.heap.size w w'→w'.heap.size=w.heap.size+1→wpList P ops Q rest (a.put o.dst (.slice (some ⟨w.heap.size,0,none⟩) n n)) w'):wpList P ops Q (o :: rest) a w:=by
 obtain ⟨i,hi0,hz0,hs,hby⟩:=info_parts hi
 refine wpList_plain hg fun K hK=>?_
 have hle:(i.bytes:Int)*(n:Int)≤281474976710656:=by
  have h1:i.bytes*n≤100000*1000:=Nat.mul_le_mul (by omega) hn
  have h2:(i.bytes:Int)*(n:Int)=((i.bytes*n:Nat):Int):=by simp
  omega
 have hrun:=run_make (P:=P) w t e i z hu hi0 hz0 .i64 .i64 (n:Int) (n:Int) (by omega) (by omega) hle (by omega)
 unfold Oper.wp
 simp only [execOp,hop,hl,hc,Sem.run_bind,hrun,Result.andThen_ok]
 refine hK _ _ (h _ ?_ ((Below.refl _ _).alloc (Nat.le_refl _) _) (by simp))
 have:=heap_alloc_new w (.cells (madeCells z.cells (n*z.cells.size)) e)
 rw [made_zero] at this
 rw [hs,← hz,Int.toNat_natCast,made_zero]
 exact this
end
end Copy
end Go.Proofs.YtggjconbgpfomaaGreat
