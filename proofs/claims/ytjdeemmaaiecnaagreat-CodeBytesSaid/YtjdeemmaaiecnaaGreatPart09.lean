/- 5 texts in one file, in build order. -/
import Derived.Test.YtjdeemmaaiecnaaGreatRows
import Derived.Test.YtjdeemmaaiecnaaGreatPart08
import Derived.Test.YtjdeemmaaiecnaaGreatPart02
import Derived.Test.YtjdeemmaaiecnaaGreatPart07
import Derived.Test.YtjdeemmaaiecnaaGreatPart05
import Derived.StillTailTactics
set_option linter.unusedVariables false
set_option linter.unusedSimpArgs false
set_option linter.unusedSectionVars false
set_option maxHeartbeats 8000000
set_option maxRecDepth 100000
namespace Go.Proofs.YtjdeemmaaiecnaaGreat
namespace Dp
open Go Go.RowKit Go.ChangeShapes
open Tab Po
open Rd (Rd But)
open Nm (St)
open Put (lim)
open Gath (Owns)
open Clone (zTab zHd)
theorem one_kind {l:List Value} (h:∀ k ∈ l.map kind,k < 3):l.toArray.all (·.oneCell')=true:=by
 rw [Array.all_eq_true_iff_forall_mem]
 intro v hv
 have hv2:v ∈ l:=by simpa using hv
 have h1:=h (kind v) (List.mem_map_of_mem hv2)
 have h2:kind v=0∨kind v=1∨kind v=2:=by omega
 rcases h2 with h2 | h2 | h2
 ·obtain ⟨x,rfl⟩:=kind0 h2;rfl
 ·obtain ⟨x,rfl⟩:=kind1 h2;rfl
 ·obtain ⟨x,rfl⟩:=kind2 h2;rfl
theorem mid_seg {A l R l':List Value} {k:Nat} (hk:A.length=k) (h:l'.length=l.length):((A++(l++R)).toArray.toList.take k++l'.toArray.toList++(A++(l++R)).toArray.toList.drop (k+l'.toArray.size)).toArray=(A++(l'++R)).toArray:=by
 have:=wrt_seg (cs:=A++(l++R)) (A:=A) (l:=l) (C:=R) (l':=l') rfl hk h
 unfold wrt at this
 simpa using this
theorem set_mid {A R:List Value} {x v:Value} {k:Nat} (hk:A.length=k):(A++(x :: R)).set k v=A++(v :: R):=by
 subst hk
 rw [List.set_append_right _ _ (Nat.le_refl _),Nat.sub_self]
 rfl
theorem at_mid {A R:List Value} {x:Value} {k:Nat} (hk:A.length=k):(A++(x :: R))[k]?=some x:=by
 subst hk
 rw [List.getElem?_append_right (Nat.le_refl _),Nat.sub_self]
 rfl
theorem infoG3:(Tryz.prog.info? 68).map (fun i=>(i.zero,i.size,i.bytes))=some (some (.agg #[.slice none 0 0,.slice none 0 0]),2,48):=by kernel_rfl
theorem infoD3:(Tryz.prog.info? 71).map (fun i=>(i.zero,i.size,i.bytes))=some (some (.agg #[I 0,F 0,F 0,F 0,F 0,I 0,I 0]),7,56):=by kernel_rfl
theorem infoR3:(Tryz.prog.info? 75).map (fun i=>(i.zero,i.size,i.bytes))=some (some (.agg #[I 0,I 0,I 0,I 0,I 0,I 0,I 0,I 0,I 0,I 0,I 0]),11,88):=by kernel_rfl
theorem infoB3:(Tryz.prog.info? 77).map (fun i=>(i.zero,i.size,i.bytes))=some (some (.agg #[I 0,I 0]),2,16):=by kernel_rfl
theorem owns_slice {α:Type} {enc:α→List Value} {n B0:Nat} {w:World} {t:TypeId} {v:Value} {l:List α} (h:Owns enc n B0 w t v l):∃ a c,v=.slice a l.length c:=by
 rcases h.2 with ⟨rfl,h0⟩ | ⟨g,cap,cur,rfl,_⟩
 ·exact ⟨none,0,by rw [h0]⟩
 ·exact ⟨_,_,rfl⟩
theorem seg_set {A S R:List Value} {v:Value} {k q:Nat} (hk:A.length=k) (hq:q < S.length):(A++(S++R)).set (k+q) v=A++(S.set q v++R):=by
 subst hk
 rw [List.set_append_right _ _ (by omega),Nat.add_sub_cancel_left,List.set_append_left _ _ hq]
theorem seg_at {A S R:List Value} {k q:Nat} (hk:A.length=k) (hq:q < S.length):(A++(S++R))[k+q]?=S[q]?:=by
 subst hk
 rw [List.getElem?_append_right (by omega),Nat.add_sub_cancel_left,List.getElem?_append_left hq]
theorem bx_cf (PH:List Value) (g:Value) (cf:List Value) (d r b:Value) (tm fl tk:List Value):bx PH g cf d r b tm fl tk=(PH++[g])++(cf++(d :: r :: b :: (tm++(fl++tk)))):=by simp [bx]
theorem bx_d (PH:List Value) (g:Value) (cf:List Value) (d r b:Value) (tm fl tk:List Value):bx PH g cf d r b tm fl tk=(PH++[g]++cf)++(d :: (r :: b :: (tm++(fl++tk)))):=by simp [bx]
theorem bx_r (PH:List Value) (g:Value) (cf:List Value) (d r b:Value) (tm fl tk:List Value):bx PH g cf d r b tm fl tk=(PH++[g]++cf++[d])++(r :: (b :: (tm++(fl++tk)))):=by simp [bx]
theorem bx_b (PH:List Value) (g:Value) (cf:List Value) (d r b:Value) (tm fl tk:List Value):bx PH g cf d r b tm fl tk=(PH++[g]++cf++[d,r])++(b :: (tm++(fl++tk))):=by simp [bx]
theorem bx_t (PH:List Value) (g:Value) (cf:List Value) (d r b:Value) (tm fl tk:List Value):bx PH g cf d r b tm fl tk=(PH++[g]++cf++[d,r,b])++(tm++(fl++tk)):=by simp [bx]
theorem bx_f (PH:List Value) (g:Value) (cf:List Value) (d r b:Value) (tm fl tk:List Value):bx PH g cf d r b tm fl tk=(PH++[g]++cf++[d,r,b]++tm)++(fl++tk):=by simp [bx]
theorem bx_k (PH:List Value) (g:Value) (cf:List Value) (d r b:Value) (tm fl tk:List Value):bx PH g cf d r b tm fl tk=(PH++[g]++cf++[d,r,b]++tm++fl)++(tk++[]):=by simp [bx]
theorem infoBus:(Tryz.prog.info? 77).map (·.size)=some 2:=by kernel_rfl
abbrev z8:List Value:=List.replicate 8 (I 0)
section
variable {B g:Nat} {ad:Option Addr} {cap:Nat} {bs:List Nat}
theorem det_d (s0:St) (W:World) (h:Ds B g ad cap bs s0 W):Calls Tryz.prog 63 #[ptr g] W fun e W'=>∃ (d:Det) (s':St),runs (DP bs) stD zDt s0=.ok (d.cells,s')∧e=.returned (.agg d.cells.toArray)∧Ds B g ad cap bs s' W'∧But g W W' :=
 (detector_d s0 W h).mono fun e W' ⟨l,s',h1,h2,h3,h4⟩=>by
  have hc:=ofDet_cells (runs_kind (DP bs) _ h1)
  exact ⟨ofDet l,s',by rw [hc];exact h1,by rw [hc];exact h2,h3,h4⟩
theorem rl_d (s0:St) (W:World) (h:Ds B g ad cap bs s0 W):Calls Tryz.prog 64 #[ptr g] W fun e W'=>∃ (d:Rl) (s':St),runs (DP bs) stR zRl s0=.ok (d.cells,s')∧e=.returned (.agg d.cells.toArray)∧Ds B g ad cap bs s' W'∧But g W W' :=
 (rail_d s0 W h).mono fun e W' ⟨l,s',h1,h2,h3,h4⟩=>by
  have hc:=ofRl_cells (runs_kind (DP bs) _ h1)
  exact ⟨ofRl l,s',by rw [hc];exact h1,by rw [hc];exact h2,h3,h4⟩
theorem parts_d (s0:St) (W:World) (h:Ds B g ad cap bs s0 W) (hb8:∀ x ∈ bs,x < 256):Calls Tryz.prog 23 #[ptr g] W fun e W'=>∃ x s' H,parts (DP bs) s0=.ok (x,s')∧e=.returned (.agg ((tabOf x).cells H).toArray)∧IsTab W' H (tabOf x)∧Ds B g ad cap bs s' W'∧But g W W'∧∀ V,Keep W.heap.size W' V→IsTab V H (tabOf x):=by
 have hz:=(zero_of_info Clone.info31).1
 have hg:g < W.heap.size:=Nat.lt_of_lt_of_le h.gl h.bl
 have hBW:=h.bl
 obtain ⟨Z,hZ⟩:∃ Z,(zTab.cells zHd).toArray=Z:=⟨_,rfl⟩
 have EB:Hid ((bx ((List.replicate 8 zPh).flatten) nl z8 nl nl nl (List.replicate 5 (I 0)) z8 (List.replicate 2 (I 0))).toArray=Z):=Lib.hid (by rw [← hZ];rfl)
 have EZS:Hid (Z.size=131):=Lib.hid (by rw [← hZ];exact (cells_ok (Clone.z_is W)).size)
 rw [hZ] at hz
 clear hZ
 have hb2:=((Below.refl W.heap.size W).alloc (Nat.le_refl _) (.cells Z 33)).alloc (by simp) (.cells Z 33)
 have hs0:=h.mem hb2
 have ha0:=heap_alloc2_old W (.cells Z 33) (.cells Z 33)
 have ha1:=heap_alloc2_new W (.cells Z 33) (.cells Z 33)
 go_enter Tryz.func23,Tryz.ntmps23
 go_upto_region 2 with fail
 generalize World.alloc (World.alloc W _) _=V at hb2 hs0 ha0 ha1 ⊢
 have HQ0:Hid (Dq B g ad cap bs W (W.heap.size+1) W.heap.size Z (bx ((List.replicate 8 zPh).flatten) nl z8 nl nl nl (List.replicate 5 (I 0)) z8 (List.replicate 2 (I 0))) ⟨nl,[],nl,[],nl,[],nl,[]⟩ s0 V):=Lib.hid ⟨by rw [EB.out];exact ha1,ha0,But.of hb2,hs0,Hold.nil,by omega,Nat.le_refl _,by omega,hBW⟩
 generalize htb:W.heap.size+1=tb at HQ0 ⊢
 generalize hgz:W.heap.size=gz at HQ0 ⊢
 clear hb2 hs0 ha0 ha1 h
 go_wp2_with fail
 go_loopw [4] (fun i wr=>∃ (q:Nat) (ph:List (List Value)) (t:St),q≤8∧i=.int .i64 q∧Hid (eachs (DP bs) stPh (List.replicate q zPh) s0=.ok (ph,t))∧ph.flatten.length=q*13∧ph.length=q∧Dq B g ad cap bs W tb gz Z (bx (ph.flatten++(List.replicate (8 - q) zPh).flatten) nl z8 nl nl nl (List.replicate 5 (I 0)) z8 (List.replicate 2 (I 0))) ⟨nl,[],nl,[],nl,[],nl,[]⟩ t wr) (fun i _=>8 - (intOf i).toNat)
 case atStart=>exact ⟨0,[],s0,by omega,rfl,Lib.hid rfl,rfl,rfl,HQ0.out⟩
 case round =>
  obtain ⟨q,ph,t,hq,rfl,HE,hfl,hpl,hdq⟩:=hrel
  have HD:=Lib.hid hdq
  clear hdq HQ0
  by_cases hlt:q < 8
  ·have hc:=Lib.hid (phase_d t wr HD.out.ds)
   go_wp2_with fail
   refine hc.out.mono ?_
   rintro e V2 ⟨l,t2,hrun,rfl,hd2,hb2⟩
   have hk:=runs_kind (DP bs) _ hrun
   have hl13:l.length=13:=by have:=congrArg List.length hk;rwa [List.length_map,List.length_map] at this
   have HONE:=Lib.hid (one_kind (l:=l) (by rw [hk];decide))
   have HRUN:=Lib.hid hrun
   have eC:bx (ph.flatten++(List.replicate (8 - q) zPh).flatten) nl z8 nl nl nl (List.replicate 5 (I 0)) z8 (List.replicate 2 (I 0))=ph.flatten++(zPh++((List.replicate (8 - (q+1)) zPh).flatten++(nl :: (z8++(nl :: nl :: nl :: (List.replicate 5 (I 0)++(z8++List.replicate 2 (I 0)))))))):=by
    unfold bx
    rw [rep_flat hlt]
    simp only [List.append_assoc]
   have hq2:=HD.out.step hb2 hd2
   rw [eC] at hq2
   have HQ2:=Lib.hid hq2
   have hsz:((ph.flatten++(zPh++((List.replicate (8 - (q+1)) zPh).flatten++(nl :: (z8++(nl :: nl :: nl :: (List.replicate 5 (I 0)++(z8++List.replicate 2 (I 0))))))))):List Value).toArray.size=131:=by
    rw [← eC]
    simp [bx,hfl,List.length_flatten]
    have:13*(8 - q)=(8 - q)*13:=Nat.mul_comm _ _
    simp [zPh]
    omega
   have IL:Hid ((Tryz.prog.info? 25).map (·.size)=some l.toArray.size):=Lib.hid (by rw [List.size_toArray,hl13];exact info_phase)
   have LE:Hid (q*13+l.toArray.size≤((ph.flatten++(zPh++((List.replicate (8 - (q+1)) zPh).flatten++(nl :: (z8++(nl :: nl :: nl :: (List.replicate 5 (I 0)++(z8++List.replicate 2 (I 0))))))))):List Value).toArray.size):=Lib.hid (by rw [hsz,List.size_toArray,hl13];omega)
   clear hc hrun hd2 hb2 hk hq2 hsz
   go_upto_region 4 with (refine QL.wpList_store_mid rfl 25 _ _ rfl tb (q*13) l.toArray rfl rfl 33 _ HQ2.out.tbl IL.out LE.out HONE.out ?_)
   rw [mid_seg hfl (by rw [hl13];rfl)]
   have hput:=HQ2.out.put (ph.flatten++(l++((List.replicate (8 - (q+1)) zPh).flatten++(nl :: (z8++(nl :: nl :: nl :: (List.replicate 5 (I 0)++(z8++List.replicate 2 (I 0)))))))))
   generalize World.setRow V2 tb _=V3 at hput ⊢
   have HP:=Lib.hid hput
   clear hput HQ2 eC
   go_wp2_with fail
   go_roundw
   case rel =>
    refine ⟨q+1,ph++[l],t2,by omega,by go_num,Lib.hid (rep_next HE.out HRUN.out),by rw [List.flatten_append,List.length_append,hfl];simp [hl13];omega,by rw [List.length_append,hpl];rfl,?_⟩
    have e:bx ((ph++[l]).flatten++(List.replicate (8 - (q+1)) zPh).flatten) nl z8 nl nl nl (List.replicate 5 (I 0)) z8 (List.replicate 2 (I 0))=ph.flatten++(l++((List.replicate (8 - (q+1)) zPh).flatten++(nl :: (z8++(nl :: nl :: nl :: (List.replicate 5 (I 0)++(z8++List.replicate 2 (I 0)))))))):=by
     unfold bx
     rw [List.flatten_append]
     simp only [List.append_assoc,List.flatten_cons,List.flatten_nil,List.append_nil]
    rw [e]
    exact HP.out
   case measure=>simp [intOf];omega
  ·obtain rfl:q=8:=by omega
   obtain ⟨PHL,hPH⟩:∃ x,ph.flatten=x:=⟨_,rfl⟩
   have HD1:Hid (Dq B g ad cap bs W tb gz Z (bx PHL nl z8 nl nl nl (List.replicate 5 (I 0)) z8 (List.replicate 2 (I 0))) ⟨nl,[],nl,[],nl,[],nl,[]⟩ t wr):=Lib.hid (by
    have:=HD.out
    rw [show (List.replicate (8 - 8) zPh).flatten=[] from rfl,List.append_nil,hPH] at this
    exact this)
   have HPL:Hid (PHL.length=104):=Lib.hid (by rw [← hPH,hfl])
   have HEP:=HE
   have HPHE:=Lib.hid hPH
   clear HE HD hPH hfl
   have hc4:=num_d t 1 4 wr HD1.out.ds
   have hnum:(DP bs).num t 1 4 0=.ok ((Nm.num bs t (lim 1 7) 0 4).1,(Nm.num bs t (lim 1 7) 0 4).2):=rfl
   obtain ⟨n,hn,hn4⟩:=num_in bs t (lim 1 7) (high:=4) (by decide)
   rw [hn] at hc4 hnum
   generalize (Nm.num bs t (lim 1 7) 0 4).2=t1 at hc4 hnum
   have HNUM:=Lib.hid hnum
   clear hnum hn
   go_wp2_with fail
   refine hc4.mono ?_
   rintro e V1 ⟨rfl,hs1,hb1⟩
   have HQ1:=Lib.hid (HD1.out.step hb1 hs1)
   clear hs1 hb1 hc4 HD1
   go_wp2_with fail
   go_loopw [6,7,8] (fun i va vb wr=>∃ (q:Nat) (gs:List (List (List Value) × List (List Value))) (t2:St) (gv:Value) (zs:List Zd),q≤n∧i=.int .i64 q∧Hid (grpsN (DP bs) q t1=.ok (gs,t2))∧gs.length=q∧zs.map (·.2)=gs∧Dq B g ad cap bs W tb gz Z (bx PHL gv z8 nl nl nl (List.replicate 5 (I 0)) z8 (List.replicate 2 (I 0))) ⟨gv,zs,nl,[],nl,[],nl,[]⟩ t2 wr) (fun i _ _ _=>n - (intOf i).toNat)
   case atStart=>exact ⟨0,[],t1,nl,[],Nat.zero_le _,rfl,Lib.hid rfl,rfl,rfl,HQ1.out⟩
   case round =>
    obtain ⟨q,gs,t2,gv,zs,hq,rfl,HG,hgl,hzs,hdq⟩:=hrel
    have HD:=Lib.hid hdq
    clear hdq HQ1
    by_cases hlt:q < n
    ·have hca:=Lib.hid (row_d t2 wr HD.out.ds)
     go_wp2_with fail
     refine hca.out.mono ?_
     rintro e V2 ⟨ra,ta,va,hra,rfl,hoa,hla,hd2,hb2⟩
     obtain ⟨aa,ca,hva⟩:=owns_slice hoa
     obtain ⟨na,hna⟩:∃ n,ra.length=n:=⟨_,rfl⟩
     rw [hna] at hva
     subst hva
     clear hna
     have hq2:=HD.out.step hb2 hd2
     have hWs:=HD.out.but.size
     have hoa2:Owns idL 1 W.heap.size V2 3 (.slice aa na ca) ra:=hoa.mono hWs
     have HQ2:=Lib.hid hq2
     have HOA:=Lib.hid hoa2
     have HRA:=Lib.hid hra
     clear hca hra hoa hd2 hb2 hq2 hoa2
     have hcb:=Lib.hid (row_d ta V2 HQ2.out.ds)
     go_wp2_with fail
     refine hcb.out.mono ?_
     rintro e V3 ⟨rb,tb2,vb,hrb,rfl,hob,hlb,hd3,hb3⟩
     obtain ⟨ab,cb,hvb⟩:=owns_slice hob
     obtain ⟨nb,hnb⟩:∃ n,rb.length=n:=⟨_,rfl⟩
     rw [hnb] at hvb
     subst hvb
     clear hnb
     have hq3:=HQ2.out.step hb3 hd3
     have hWs3:=HQ2.out.but.size
     have hob2:Owns idL 1 W.heap.size V3 3 (.slice ab nb cb) rb:=hob.mono hWs3
     have hoa3:Owns idL 1 W.heap.size V3 3 (.slice aa na ca) ra:=owns_but HOA.out hb3 HQ2.out.gl
     have HQ3:=Lib.hid hq3
     have HOB:=Lib.hid hob2
     have HOA3:=Lib.hid hoa3
     have HGR:=Lib.hid (By.grpN_ok HRA.out hrb)
     clear hcb hrb hob hd3 hb3 hq3 hob2 hoa3 HOA HRA HQ2
     have c4:V3.cell? ⟨tb,104,none⟩=some gv:=HQ3.out.at (by unfold bx;exact at_mid HPL.out)
     have hgr:=HQ3.out.hold.gr
     have hzl:zs.length=q:=by have:=congrArg List.length hzs;rw [List.length_map] at this;omega
     obtain ⟨j0,hj,hy0,hy1,hy2⟩:=info_parts infoG3
     have hWs:=HQ3.out.but.size
     go_wp2_with (at_builtin;refine wpList_append_own _ rfl _ _ 27 rfl W.heap.size 68 j0 (.agg #[.slice none 0 0,.slice none 0 0]) 2 48 Tryz.underlying27 hj hy0 hy1 hy2 rfl (by decide) gv zs.length _ rfl (World.ownsRow.alloc hgr _) ⟨V3.heap.size,0,none⟩ 1 1 [.slice aa na ca,.slice ab nb cb] rfl rfl ?c1 ?c2 ?c3 ?c4 ?c5 ?_)
     case c1 =>
      intro j u hj
      match j,hj with
      | 0,hj=>simp at hj;subst hj;simp [Addr.add]
      | 1,hj=>simp at hj;subst hj;simp [Addr.add]
     case c2=>intro u hu;simp at hu;rcases hu with rfl | rfl <;> rfl
     case c3=>unfold maxLen;omega
     case c4=>omega
     case c5=>simp;omega
     intro v' w1 hown' hgrow hnil'
     have hbel:Below V3.heap.size V3 (V3.alloc (.cells #[.slice aa na ca,.slice ab nb cb] 68)):=(Below.refl _ _).alloc (Nat.le_refl _) _
     have hqa:=HQ3.out.mem hbel
     have hown2:Owns zcD 2 W.heap.size w1 68 v' (zs++[((((.slice aa na ca),(.slice ab nb cb)),(ra,rb)):Zd)]):=Owns.snoc (by rw [hgz,hzl];exact hown')
     have hho:=hqa.hold.growG (z:=(((.slice aa na ca),(.slice ab nb cb)),(ra,rb))) hgrow hown2 (HOA3.out.below hbel) (HOB.out.below hbel)
     have hq5:=hqa.grown hgrow (fun m hm=>⟨hqa.hold.gr.blk m hm,GenG.own_type hqa.hold.gr m hm⟩) (by decide) hho
     obtain ⟨a',c',hv'⟩:=owns_slice hown2
     obtain ⟨len',hlen'⟩:∃ x,(zs++[((((.slice aa na ca),(.slice ab nb cb)),(ra,rb)):Zd)]).length=x:=⟨_,rfl⟩
     rw [hlen'] at hv'
     subst hv'
     have HQ5:=Lib.hid hq5
     clear hown' hgrow hnil' hbel hqa hown2 hho hq5 c4 hgr hlen' HQ3 HOA3 HOB
     have c5:w1.cell? ⟨tb,104,none⟩=some gv:=HQ5.out.at (by unfold bx;exact at_mid HPL.out)
     have f5:w1.frozen? ⟨tb,104,none⟩=false:=HQ5.out.fz 104
     go_upto_region 9 with fail
     have hput:=HQ5.out.set 104 (.slice a' len' c')
     clear c5 f5 HQ5
     generalize World.setCell w1 _ _=w2 at hput ⊢
     have HP:=Lib.hid hput
     clear hput
     go_wp2_with fail
     go_roundw
     case rel =>
      refine ⟨q+1,gs++[(ra,rb)],tb2,.slice a' len' c',zs++[(((.slice aa na ca),(.slice ab nb cb)),(ra,rb))],by omega,by go_num,Lib.hid (By.grps_succ_ok HG.out HGR.out),by rw [List.length_append,hgl];rfl,by rw [List.map_append,hzs];rfl,?_⟩
      have:=HP.out
      unfold bx at this ⊢
      rw [set_mid HPL.out] at this
      exact this
     case measure=>simp [intOf];omega
    ·obtain rfl:q=n:=by omega
     have HLG:Hid (listG (DP bs) 4 t=.ok (gs,t2)):=Lib.hid (By.listG_ok HNUM.out HG.out)
     clear HG HNUM
     go_wp2_with fail
     go_loopw [9] (fun i wr=>∃ (q3:Nat) (CF:List Value) (t3:St),q3≤8∧i=.int .i64 q3∧Hid (runs (DP bs) (st8 255 q3) z8 t2=.ok (CF,t3))∧CF.length=8∧CF.map kind=List.replicate 8 0∧Dq B g ad cap bs W tb gz Z (bx PHL gv CF nl nl nl (List.replicate 5 (I 0)) z8 (List.replicate 2 (I 0))) ⟨gv,zs,nl,[],nl,[],nl,[]⟩ t3 wr) (fun i _=>8 - (intOf i).toNat)
     case atStart=>exact ⟨0,z8,t2,Nat.zero_le _,rfl,Lib.hid rfl,rfl,rfl,HD.out⟩
     case round =>
      obtain ⟨q3,CF,t3,hq3,rfl,HR3,hcl3,hck3,hdq⟩:=hrel
      have HD:=Lib.hid hdq
      clear hdq
      by_cases hlt3:q3 < 8
      ·have hc:=num_d t3 1 255 wr HD.out.ds
       obtain ⟨x,hx⟩:∃ x,CF[q3]?=some (I x):=int_at hck3 (by rw [List.getElem?_replicate,if_pos hlt3])
       have hrun:Sp.run (DP bs) CF t3 (.num 1 255 q3)=.ok (CF.set q3 (I (Nm.num bs t3 (lim 1 7) 0 255).1),(Nm.num bs t3 (lim 1 7) 0 255).2):=by simp only [Sp.run,hx];rfl
       generalize (Nm.num bs t3 (lim 1 7) 0 255).1=y at hc hrun
       generalize (Nm.num bs t3 (lim 1 7) 0 255).2=t9 at hc hrun
       have HRUN:=Lib.hid hrun
       have HX:=Lib.hid hx
       clear hrun hx
       go_wp2_with fail
       refine hc.mono ?_
       rintro e V2 ⟨rfl,hd2,hb2⟩
       have HQ2:=Lib.hid (HD.out.step hb2 hd2)
       clear hc hd2 hb2
       have c5:V2.cell? ⟨tb,105+q3,none⟩=some (I x):=HQ2.out.at (by rw [bx_cf,seg_at (by rw [List.length_append,HPL.out];rfl) (by omega)];exact HX.out)
       have f5:V2.frozen? ⟨tb,105+q3,none⟩=false:=HQ2.out.fz _
       go_upto_region 15 with fail
       have hput:=HQ2.out.set (105+q3) (I y)
       rw [bx_cf,seg_set (by rw [List.length_append,HPL.out];rfl) (by omega),← bx_cf] at hput
       clear c5 f5 HQ2
       generalize World.setCell V2 _ _=V3 at hput ⊢
       have HP:=Lib.hid hput
       clear hput
       go_wp2_with fail
       go_roundw
       case rel=>exact ⟨q3+1,CF.set q3 (I y),t9,by omega,by go_num,Lib.hid (st8_next HR3.out HRUN.out),by rw [List.length_set,hcl3],by rw [map_set (u:=I y) HX.out rfl,hck3],HP.out⟩
       case measure=>simp [intOf];omega
      ·obtain rfl:q3=8:=by omega
       have hc:=num_d t3 1 16 wr HD.out.ds
       have hnum:(DP bs).num t3 1 16 0=.ok ((Nm.num bs t3 (lim 1 7) 0 16).1,(Nm.num bs t3 (lim 1 7) 0 16).2):=rfl
       obtain ⟨n4,hn,hnm4⟩:=num_in bs t3 (lim 1 7) (high:=16) (by decide)
       rw [hn] at hc hnum
       generalize (Nm.num bs t3 (lim 1 7) 0 16).2=t4 at hc hnum
       have HNUM4:=Lib.hid hnum
       clear hnum hn
       go_wp2_with fail
       refine hc.mono ?_
       rintro e V1 ⟨rfl,hs1,hb1⟩
       have HQ1:=Lib.hid (HD.out.step hb1 hs1)
       clear hs1 hb1 hc HD
       obtain ⟨j4,hj4,hy04,hy14,hy24⟩:=info_parts infoD3
       go_wp2_with fail
       go_loopw [10] (fun i wr=>∃ (q4:Nat) (dv:Value) (ds:List (List Value)) (t5:St),q4≤n4∧i=.int .i64 q4∧Hid (eachs (DP bs) stD (List.replicate q4 zDt) t4=.ok (ds,t5))∧ds.length=q4∧Dq B g ad cap bs W tb gz Z (bx PHL gv CF dv nl nl (List.replicate 5 (I 0)) z8 (List.replicate 2 (I 0))) ⟨gv,zs,dv,ds,nl,[],nl,[]⟩ t5 wr) (fun i _=>n4 - (intOf i).toNat)
       case atStart=>exact ⟨0,nl,[],t4,Nat.zero_le _,rfl,Lib.hid rfl,rfl,HQ1.out⟩
       case round =>
        obtain ⟨q4,dv,ds,t5,hq4,rfl,HE4,hdl4,hdq⟩:=hrel
        have HD:=Lib.hid hdq
        clear hdq HQ1
        by_cases hlt4:q4 < n4
        ·go_upto_region 21 with fail
         refine wp_region_held (S:=fun _=>True) (by kernel_rfl) ?_
         have hS:True:=trivial
         have hb:=HD.out.mem (V:={ wr with drawn:=wr.drawn+1 }) (Below.refl _ _).drew
         generalize ({ wr with drawn:=wr.drawn+1 }:World)=v at hb ⊢
         clear HD
         refine Held.take (i:=0) (some 59) rfl (v:=?_) rfl (by kernel_rfl) (by kernel_rfl) (by kernel_rfl) (fun _ _ _ h=>h) (Or.inl ⟨by rfl,?_⟩) hS ?_
         rotate_left
         ·intro w' hw'
          go_simp
          try with_reducible rfl
         (try dsimp only [Act.put]);(try simp only [List.setIfInBounds_toArray,List.set_cons_zero,List.set_cons_succ])
         refine Held.take (i:=2) (some 61) rfl (v:=?_) rfl (by kernel_rfl) (by kernel_rfl) (by kernel_rfl) (fun _ _ _ h=>h) (Or.inl ⟨by rfl,?_⟩) hS ?_
         rotate_left
         ·intro w' hw'
          go_simp
          try with_reducible rfl
         (try dsimp only [Act.put]);(try simp only [List.setIfInBounds_toArray,List.set_cons_zero,List.set_cons_succ])
         refine wpAnyH_ready (rs:=[1,3]) (by kernel_rfl) (by simp) (AllReadyH.cons rfl (fun K hK=>?_) (AllReadyH.cons rfl (fun K hK=>?_) AllReadyH.nil))
         ·have c4:v.cell? ⟨tb,113,none⟩=some dv:=hb.at (by rw [bx_d];exact at_mid (by simp only [List.length_append,HPL.out,List.length_cons,List.length_nil,hcl3]))
          go_simp
          refine hK.out _ _ trivial (fun _=>?_)
          clear hK K
          (try dsimp only [Act.put]);(try simp only [List.setIfInBounds_toArray,List.set_cons_zero,List.set_cons_succ])
          clear c4
          refine wpAnyH_ready (rs:=[3]) (by kernel_rfl) (by simp) (AllReadyH.cons rfl (fun K hK=>?_) AllReadyH.nil)
          go_simp
          refine (det_d t5 v hb.ds).mono ?_
          rintro e v2 ⟨⟨p0,p1,p2,p3,p4,p5,p6⟩,t9,hrun,rfl,hd2,hb2⟩
          simp only [Det.cells] at hrun ⊢
          replace hb:=hb.step hb2 hd2
          have HRUN:=Lib.hid hrun
          clear hrun hd2 hb2
          rename World=>v
          go_simp
          refine hK.out _ _ trivial (fun _=>?_)
          clear hK K
          (try dsimp only [Act.put]);(try simp only [List.setIfInBounds_toArray,List.set_cons_zero,List.set_cons_succ])
          refine wpAnyH_ready (rs:=[4]) (by kernel_rfl) (by simp) (AllReadyH.cons rfl (fun K hK=>?_) AllReadyH.nil)
          go_simp
          have hbw:Below v.heap.size v (v.alloc (.cells #[I p0,F p1,F p2,F p3,F p4,I p5,I p6] 71)):=(Below.refl _ _).alloc (Nat.le_refl _) _
          have hN:=heap_alloc_new v (.cells #[I p0,F p1,F p2,F p3,F p4,I p5,I p6] 71)
          replace hb:=hb.mem hbw
          clear hbw
          generalize hbn:v.heap.size=bn at hN ⊢
          clear hbn
          generalize World.alloc v (.cells #[I p0,F p1,F p2,F p3,F p4,I p5,I p6] 71)=v at hb hN ⊢
          refine hK.out _ _ trivial (fun _=>?_)
          clear hK K
          (try dsimp only [Act.put]);(try simp only [List.setIfInBounds_toArray,List.set_cons_zero,List.set_cons_succ])
          refine wpAnyH_ready (rs:=[5]) (by kernel_rfl) (by simp) (AllReadyH.cons rfl (fun K hK=>?_) AllReadyH.nil)
          rw [if_pos (by rfl)]
          have hown2:v.ownsRow W.heap.size 71 7 dv ds.length (ds.flatMap idL):=hb.hold.dt
          have hWs:=hb.but.size
          refine wp_append_own _ _ _ _ rfl W.heap.size 71 j4 (.agg #[I 0,F 0,F 0,F 0,F 0,I 0,I 0]) 7 56 Tryz.underlying29 hj4 hy04 hy14 hy24 rfl (by decide) dv ds.length _ rfl hown2 ⟨bn,0,none⟩ 1 1 [I p0,F p1,F p2,F p3,F p4,I p5,I p6] rfl rfl ?u4c1 ?u4c2 ?u4c3 ?u4c4 hWs ?_
          case u4c1 =>
           intro j e hj
           exact Row.lies_of_block hN j e hj
          case u4c2=>intro e he;exact by simp at he;rcases he with rfl | rfl | rfl | rfl | rfl | rfl | rfl <;> rfl
          case u4c3=>unfold maxLen;omega
          case u4c4=>omega
          intro v' w5 hown' hgrow hnil'
          have hown3:Owns idL 7 W.heap.size w5 71 v' (ds++[[I p0,F p1,F p2,F p3,F p4,I p5,I p6]]):=Owns.snoc hown'
          have hho:=hb.hold.growD hgrow hown3
          have hq5:=hb.grown hgrow (fun m hm=>⟨hb.hold.dt.blk m hm,GenG.own_type hb.hold.dt m hm⟩) (by decide) hho
          obtain ⟨a',c',hv'⟩:=owns_slice hown3
          obtain ⟨len',hlen'⟩:∃ x,(ds++[[I p0,F p1,F p2,F p3,F p4,I p5,I p6]]).length=x:=⟨_,rfl⟩
          rw [hlen'] at hv'
          subst hv'
          have HQ5:=Lib.hid hq5
          clear hown' hgrow hnil' hown2 hown3 hho hq5 hlen' hb hN
          have c5:w5.cell? ⟨tb,113,none⟩=some dv:=HQ5.out.at (by rw [bx_d];exact at_mid (by simp only [List.length_append,HPL.out,List.length_cons,List.length_nil,hcl3]))
          have f5:w5.frozen? ⟨tb,113,none⟩=false:=HQ5.out.fz 113
          refine hK.out _ _ trivial (fun _=>?_)
          clear hK K
          (try dsimp only [Act.put]);(try simp only [List.setIfInBounds_toArray,List.set_cons_zero,List.set_cons_succ])
          refine Held.take (i:=6) (some 65) rfl (v:=?_) rfl (by kernel_rfl) (by kernel_rfl) (by kernel_rfl) (fun _ _ _ h=>h) (Or.inl ⟨by rfl,?_⟩) hS ?_
          rotate_left
          ·intro w' hw'
           go_simp
           try with_reducible rfl
          (try dsimp only [Act.put]);(try simp only [List.setIfInBounds_toArray,List.set_cons_zero,List.set_cons_succ])
          refine wpAnyH_ready (rs:=[7]) (by kernel_rfl) (by simp) (AllReadyH.cons rfl (fun K hK=>?_) AllReadyH.nil)
          go_simp
          have hput:=HQ5.out.set 113 (.slice a' len' c')
          rw [bx_d,set_mid (by simp only [List.length_append,HPL.out,List.length_cons,List.length_nil,hcl3]),← bx_d] at hput
          clear c5 f5 HQ5
          generalize World.setCell w5 _ _=w6 at hput ⊢
          have HP:=Lib.hid hput
          clear hput
          refine hK.out _ _ trivial (fun _=>?_)
          clear hK K
          (try dsimp only [Act.put]);(try simp only [List.setIfInBounds_toArray,List.set_cons_zero,List.set_cons_succ])
          refine wpAnyH_done (by kernel_rfl) ?_ _
          go_wp2_with fail
          go_roundw
          case rel=>exact ⟨q4+1,.slice a' len' c',ds++[[I p0,F p1,F p2,F p3,F p4,I p5,I p6]],t9,by omega,by go_num,Lib.hid (rep_next HE4.out HRUN.out),by rw [List.length_append,hdl4];rfl,HP.out⟩
          case measure=>simp [intOf];omega
         ·go_simp
          refine (det_d t5 v hb.ds).mono ?_
          rintro e v2 ⟨⟨p0,p1,p2,p3,p4,p5,p6⟩,t9,hrun,rfl,hd2,hb2⟩
          simp only [Det.cells] at hrun ⊢
          replace hb:=hb.step hb2 hd2
          have HRUN:=Lib.hid hrun
          clear hrun hd2 hb2
          rename World=>v
          go_simp
          refine hK.out _ _ trivial (fun _=>?_)
          clear hK K
          (try dsimp only [Act.put]);(try simp only [List.setIfInBounds_toArray,List.set_cons_zero,List.set_cons_succ])
          refine wpAnyH_ready (rs:=[1,4]) (by kernel_rfl) (by simp) (AllReadyH.cons rfl (fun K hK=>?_) (AllReadyH.cons rfl (fun K hK=>?_) AllReadyH.nil))
          ·have c4:v.cell? ⟨tb,113,none⟩=some dv:=hb.at (by rw [bx_d];exact at_mid (by simp only [List.length_append,HPL.out,List.length_cons,List.length_nil,hcl3]))
           go_simp
           refine hK.out _ _ trivial (fun _=>?_)
           clear hK K
           (try dsimp only [Act.put]);(try simp only [List.setIfInBounds_toArray,List.set_cons_zero,List.set_cons_succ])
           clear c4
           refine wpAnyH_ready (rs:=[4]) (by kernel_rfl) (by simp) (AllReadyH.cons rfl (fun K hK=>?_) AllReadyH.nil)
           go_simp
           have hbw:Below v.heap.size v (v.alloc (.cells #[I p0,F p1,F p2,F p3,F p4,I p5,I p6] 71)):=(Below.refl _ _).alloc (Nat.le_refl _) _
           have hN:=heap_alloc_new v (.cells #[I p0,F p1,F p2,F p3,F p4,I p5,I p6] 71)
           replace hb:=hb.mem hbw
           clear hbw
           generalize hbn:v.heap.size=bn at hN ⊢
           clear hbn
           generalize World.alloc v (.cells #[I p0,F p1,F p2,F p3,F p4,I p5,I p6] 71)=v at hb hN ⊢
           refine hK.out _ _ trivial (fun _=>?_)
           clear hK K
           (try dsimp only [Act.put]);(try simp only [List.setIfInBounds_toArray,List.set_cons_zero,List.set_cons_succ])
           refine wpAnyH_ready (rs:=[5]) (by kernel_rfl) (by simp) (AllReadyH.cons rfl (fun K hK=>?_) AllReadyH.nil)
           rw [if_pos (by rfl)]
           have hown2:v.ownsRow W.heap.size 71 7 dv ds.length (ds.flatMap idL):=hb.hold.dt
           have hWs:=hb.but.size
           refine wp_append_own _ _ _ _ rfl W.heap.size 71 j4 (.agg #[I 0,F 0,F 0,F 0,F 0,I 0,I 0]) 7 56 Tryz.underlying29 hj4 hy04 hy14 hy24 rfl (by decide) dv ds.length _ rfl hown2 ⟨bn,0,none⟩ 1 1 [I p0,F p1,F p2,F p3,F p4,I p5,I p6] rfl rfl ?u9c1 ?u9c2 ?u9c3 ?u9c4 hWs ?_
           case u9c1 =>
            intro j e hj
            exact Row.lies_of_block hN j e hj
           case u9c2=>intro e he;exact by simp at he;rcases he with rfl | rfl | rfl | rfl | rfl | rfl | rfl <;> rfl
           case u9c3=>unfold maxLen;omega
           case u9c4=>omega
           intro v' w5 hown' hgrow hnil'
           have hown3:Owns idL 7 W.heap.size w5 71 v' (ds++[[I p0,F p1,F p2,F p3,F p4,I p5,I p6]]):=Owns.snoc hown'
           have hho:=hb.hold.growD hgrow hown3
           have hq5:=hb.grown hgrow (fun m hm=>⟨hb.hold.dt.blk m hm,GenG.own_type hb.hold.dt m hm⟩) (by decide) hho
           obtain ⟨a',c',hv'⟩:=owns_slice hown3
           obtain ⟨len',hlen'⟩:∃ x,(ds++[[I p0,F p1,F p2,F p3,F p4,I p5,I p6]]).length=x:=⟨_,rfl⟩
           rw [hlen'] at hv'
           subst hv'
           have HQ5:=Lib.hid hq5
           clear hown' hgrow hnil' hown2 hown3 hho hq5 hlen' hb hN
           have c5:w5.cell? ⟨tb,113,none⟩=some dv:=HQ5.out.at (by rw [bx_d];exact at_mid (by simp only [List.length_append,HPL.out,List.length_cons,List.length_nil,hcl3]))
           have f5:w5.frozen? ⟨tb,113,none⟩=false:=HQ5.out.fz 113
           refine hK.out _ _ trivial (fun _=>?_)
           clear hK K
           (try dsimp only [Act.put]);(try simp only [List.setIfInBounds_toArray,List.set_cons_zero,List.set_cons_succ])
           refine Held.take (i:=6) (some 65) rfl (v:=?_) rfl (by kernel_rfl) (by kernel_rfl) (by kernel_rfl) (fun _ _ _ h=>h) (Or.inl ⟨by rfl,?_⟩) hS ?_
           rotate_left
           ·intro w' hw'
            go_simp
            try with_reducible rfl
           (try dsimp only [Act.put]);(try simp only [List.setIfInBounds_toArray,List.set_cons_zero,List.set_cons_succ])
           refine wpAnyH_ready (rs:=[7]) (by kernel_rfl) (by simp) (AllReadyH.cons rfl (fun K hK=>?_) AllReadyH.nil)
           go_simp
           have hput:=HQ5.out.set 113 (.slice a' len' c')
           rw [bx_d,set_mid (by simp only [List.length_append,HPL.out,List.length_cons,List.length_nil,hcl3]),← bx_d] at hput
           clear c5 f5 HQ5
           generalize World.setCell w5 _ _=w6 at hput ⊢
           have HP:=Lib.hid hput
           clear hput
           refine hK.out _ _ trivial (fun _=>?_)
           clear hK K
           (try dsimp only [Act.put]);(try simp only [List.setIfInBounds_toArray,List.set_cons_zero,List.set_cons_succ])
           refine wpAnyH_done (by kernel_rfl) ?_ _
           go_wp2_with fail
           go_roundw
           case rel=>exact ⟨q4+1,.slice a' len' c',ds++[[I p0,F p1,F p2,F p3,F p4,I p5,I p6]],t9,by omega,by go_num,Lib.hid (rep_next HE4.out HRUN.out),by rw [List.length_append,hdl4];rfl,HP.out⟩
           case measure=>simp [intOf];omega
          ·go_simp
           have hbw:Below v.heap.size v (v.alloc (.cells #[I p0,F p1,F p2,F p3,F p4,I p5,I p6] 71)):=(Below.refl _ _).alloc (Nat.le_refl _) _
           have hN:=heap_alloc_new v (.cells #[I p0,F p1,F p2,F p3,F p4,I p5,I p6] 71)
           replace hb:=hb.mem hbw
           clear hbw
           generalize hbn:v.heap.size=bn at hN ⊢
           clear hbn
           generalize World.alloc v (.cells #[I p0,F p1,F p2,F p3,F p4,I p5,I p6] 71)=v at hb hN ⊢
           refine hK.out _ _ trivial (fun _=>?_)
           clear hK K
           (try dsimp only [Act.put]);(try simp only [List.setIfInBounds_toArray,List.set_cons_zero,List.set_cons_succ])
           refine wpAnyH_ready (rs:=[1]) (by kernel_rfl) (by simp) (AllReadyH.cons rfl (fun K hK=>?_) AllReadyH.nil)
           have c4:v.cell? ⟨tb,113,none⟩=some dv:=hb.at (by rw [bx_d];exact at_mid (by simp only [List.length_append,HPL.out,List.length_cons,List.length_nil,hcl3]))
           go_simp
           refine hK.out _ _ trivial (fun _=>?_)
           clear hK K
           (try dsimp only [Act.put]);(try simp only [List.setIfInBounds_toArray,List.set_cons_zero,List.set_cons_succ])
           clear c4
           refine wpAnyH_ready (rs:=[5]) (by kernel_rfl) (by simp) (AllReadyH.cons rfl (fun K hK=>?_) AllReadyH.nil)
           rw [if_pos (by rfl)]
           have hown2:v.ownsRow W.heap.size 71 7 dv ds.length (ds.flatMap idL):=hb.hold.dt
           have hWs:=hb.but.size
           refine wp_append_own _ _ _ _ rfl W.heap.size 71 j4 (.agg #[I 0,F 0,F 0,F 0,F 0,I 0,I 0]) 7 56 Tryz.underlying29 hj4 hy04 hy14 hy24 rfl (by decide) dv ds.length _ rfl hown2 ⟨bn,0,none⟩ 1 1 [I p0,F p1,F p2,F p3,F p4,I p5,I p6] rfl rfl ?u13c1 ?u13c2 ?u13c3 ?u13c4 hWs ?_
           case u13c1 =>
            intro j e hj
            exact Row.lies_of_block hN j e hj
           case u13c2=>intro e he;exact by simp at he;rcases he with rfl | rfl | rfl | rfl | rfl | rfl | rfl <;> rfl
           case u13c3=>unfold maxLen;omega
           case u13c4=>omega
           intro v' w5 hown' hgrow hnil'
           have hown3:Owns idL 7 W.heap.size w5 71 v' (ds++[[I p0,F p1,F p2,F p3,F p4,I p5,I p6]]):=Owns.snoc hown'
           have hho:=hb.hold.growD hgrow hown3
           have hq5:=hb.grown hgrow (fun m hm=>⟨hb.hold.dt.blk m hm,GenG.own_type hb.hold.dt m hm⟩) (by decide) hho
           obtain ⟨a',c',hv'⟩:=owns_slice hown3
           obtain ⟨len',hlen'⟩:∃ x,(ds++[[I p0,F p1,F p2,F p3,F p4,I p5,I p6]]).length=x:=⟨_,rfl⟩
           rw [hlen'] at hv'
           subst hv'
           have HQ5:=Lib.hid hq5
           clear hown' hgrow hnil' hown2 hown3 hho hq5 hlen' hb hN
           have c5:w5.cell? ⟨tb,113,none⟩=some dv:=HQ5.out.at (by rw [bx_d];exact at_mid (by simp only [List.length_append,HPL.out,List.length_cons,List.length_nil,hcl3]))
           have f5:w5.frozen? ⟨tb,113,none⟩=false:=HQ5.out.fz 113
           refine hK.out _ _ trivial (fun _=>?_)
           clear hK K
           (try dsimp only [Act.put]);(try simp only [List.setIfInBounds_toArray,List.set_cons_zero,List.set_cons_succ])
           refine Held.take (i:=6) (some 65) rfl (v:=?_) rfl (by kernel_rfl) (by kernel_rfl) (by kernel_rfl) (fun _ _ _ h=>h) (Or.inl ⟨by rfl,?_⟩) hS ?_
           rotate_left
           ·intro w' hw'
            go_simp
            try with_reducible rfl
           (try dsimp only [Act.put]);(try simp only [List.setIfInBounds_toArray,List.set_cons_zero,List.set_cons_succ])
           refine wpAnyH_ready (rs:=[7]) (by kernel_rfl) (by simp) (AllReadyH.cons rfl (fun K hK=>?_) AllReadyH.nil)
           go_simp
           have hput:=HQ5.out.set 113 (.slice a' len' c')
           rw [bx_d,set_mid (by simp only [List.length_append,HPL.out,List.length_cons,List.length_nil,hcl3]),← bx_d] at hput
           clear c5 f5 HQ5
           generalize World.setCell w5 _ _=w6 at hput ⊢
           have HP:=Lib.hid hput
           clear hput
           refine hK.out _ _ trivial (fun _=>?_)
           clear hK K
           (try dsimp only [Act.put]);(try simp only [List.setIfInBounds_toArray,List.set_cons_zero,List.set_cons_succ])
           refine wpAnyH_done (by kernel_rfl) ?_ _
           go_wp2_with fail
           go_roundw
           case rel=>exact ⟨q4+1,.slice a' len' c',ds++[[I p0,F p1,F p2,F p3,F p4,I p5,I p6]],t9,by omega,by go_num,Lib.hid (rep_next HE4.out HRUN.out),by rw [List.length_append,hdl4];rfl,HP.out⟩
           case measure=>simp [intOf];omega
        ·obtain rfl:q4=n4:=by omega
         have HLN4:Hid (listN (DP bs) 16 stD zDt t3=.ok (ds,t5)):=Lib.hid (By.listN_ok HNUM4.out HE4.out)
         clear HE4 HNUM4
         have hc:=num_d t5 1 4 wr HD.out.ds
         have hnum:(DP bs).num t5 1 4 0=.ok ((Nm.num bs t5 (lim 1 7) 0 4).1,(Nm.num bs t5 (lim 1 7) 0 4).2):=rfl
         obtain ⟨n5,hn,hnm5⟩:=num_in bs t5 (lim 1 7) (high:=4) (by decide)
         rw [hn] at hc hnum
         generalize (Nm.num bs t5 (lim 1 7) 0 4).2=t6 at hc hnum
         have HNUM5:=Lib.hid hnum
         clear hnum hn
         go_wp2_with fail
         refine hc.mono ?_
         rintro e V1 ⟨rfl,hs1,hb1⟩
         have HQ1:=Lib.hid (HD.out.step hb1 hs1)
         clear hs1 hb1 hc HD
         obtain ⟨j5,hj5,hy05,hy15,hy25⟩:=info_parts infoR3
         go_wp2_with fail
         go_loopw [11] (fun i wr=>∃ (q5:Nat) (rv:Value) (rs:List (List Value)) (t7:St),q5≤n5∧i=.int .i64 q5∧Hid (eachs (DP bs) stR (List.replicate q5 zRl) t6=.ok (rs,t7))∧rs.length=q5∧Dq B g ad cap bs W tb gz Z (bx PHL gv CF dv rv nl (List.replicate 5 (I 0)) z8 (List.replicate 2 (I 0))) ⟨gv,zs,dv,ds,rv,rs,nl,[]⟩ t7 wr) (fun i _=>n5 - (intOf i).toNat)
         case atStart=>exact ⟨0,nl,[],t6,Nat.zero_le _,rfl,Lib.hid rfl,rfl,HQ1.out⟩
         case round =>
          obtain ⟨q5,rv,rs,t7,hq5,rfl,HE5,hdl5,hdq⟩:=hrel
          have HD:=Lib.hid hdq
          clear hdq HQ1
          by_cases hlt5:q5 < n5
          ·go_upto_region 26 with fail
           refine wp_region_held (S:=fun _=>True) (by kernel_rfl) ?_
           have hS:True:=trivial
           have hb:=HD.out.mem (V:={ wr with drawn:=wr.drawn+1 }) (Below.refl _ _).drew
           generalize ({ wr with drawn:=wr.drawn+1 }:World)=v at hb ⊢
           clear HD
           refine Held.take (i:=0) (some 73) rfl (v:=?_) rfl (by kernel_rfl) (by kernel_rfl) (by kernel_rfl) (fun _ _ _ h=>h) (Or.inl ⟨by rfl,?_⟩) hS ?_
           rotate_left
           ·intro w' hw'
            go_simp
            try with_reducible rfl
           (try dsimp only [Act.put]);(try simp only [List.setIfInBounds_toArray,List.set_cons_zero,List.set_cons_succ])
           refine Held.take (i:=2) (some 75) rfl (v:=?_) rfl (by kernel_rfl) (by kernel_rfl) (by kernel_rfl) (fun _ _ _ h=>h) (Or.inl ⟨by rfl,?_⟩) hS ?_
           rotate_left
           ·intro w' hw'
            go_simp
            try with_reducible rfl
           (try dsimp only [Act.put]);(try simp only [List.setIfInBounds_toArray,List.set_cons_zero,List.set_cons_succ])
           refine wpAnyH_ready (rs:=[1,3]) (by kernel_rfl) (by simp) (AllReadyH.cons rfl (fun K hK=>?_) (AllReadyH.cons rfl (fun K hK=>?_) AllReadyH.nil))
           ·have c4:v.cell? ⟨tb,114,none⟩=some rv:=hb.at (by rw [bx_r];exact at_mid (by simp only [List.length_append,HPL.out,List.length_cons,List.length_nil,hcl3]))
            go_simp
            refine hK.out _ _ trivial (fun _=>?_)
            clear hK K
            (try dsimp only [Act.put]);(try simp only [List.setIfInBounds_toArray,List.set_cons_zero,List.set_cons_succ])
            clear c4
            refine wpAnyH_ready (rs:=[3]) (by kernel_rfl) (by simp) (AllReadyH.cons rfl (fun K hK=>?_) AllReadyH.nil)
            go_simp
            refine (rl_d t7 v hb.ds).mono ?_
            rintro e v2 ⟨⟨p0,p1,p2,p3,p4,p5,p6,p7,p8,p9,p10⟩,t9,hrun,rfl,hd2,hb2⟩
            simp only [Rl.cells] at hrun ⊢
            replace hb:=hb.step hb2 hd2
            have HRUN:=Lib.hid hrun
            clear hrun hd2 hb2
            rename World=>v
            go_simp
            refine hK.out _ _ trivial (fun _=>?_)
            clear hK K
            (try dsimp only [Act.put]);(try simp only [List.setIfInBounds_toArray,List.set_cons_zero,List.set_cons_succ])
            refine wpAnyH_ready (rs:=[4]) (by kernel_rfl) (by simp) (AllReadyH.cons rfl (fun K hK=>?_) AllReadyH.nil)
            go_simp
            have hbw:Below v.heap.size v (v.alloc (.cells #[I p0,I p1,I p2,I p3,I p4,I p5,I p6,I p7,I p8,I p9,I p10] 75)):=(Below.refl _ _).alloc (Nat.le_refl _) _
            have hN:=heap_alloc_new v (.cells #[I p0,I p1,I p2,I p3,I p4,I p5,I p6,I p7,I p8,I p9,I p10] 75)
            replace hb:=hb.mem hbw
            clear hbw
            generalize hbn:v.heap.size=bn at hN ⊢
            clear hbn
            generalize World.alloc v (.cells #[I p0,I p1,I p2,I p3,I p4,I p5,I p6,I p7,I p8,I p9,I p10] 75)=v at hb hN ⊢
            refine hK.out _ _ trivial (fun _=>?_)
            clear hK K
            (try dsimp only [Act.put]);(try simp only [List.setIfInBounds_toArray,List.set_cons_zero,List.set_cons_succ])
            refine wpAnyH_ready (rs:=[5]) (by kernel_rfl) (by simp) (AllReadyH.cons rfl (fun K hK=>?_) AllReadyH.nil)
            rw [if_pos (by rfl)]
            have hown2:v.ownsRow W.heap.size 75 11 rv rs.length (rs.flatMap idL):=hb.hold.rl
            have hWs:=hb.but.size
            refine wp_append_own _ _ _ _ rfl W.heap.size 75 j5 (.agg #[I 0,I 0,I 0,I 0,I 0,I 0,I 0,I 0,I 0,I 0,I 0]) 11 88 Tryz.underlying30 hj5 hy05 hy15 hy25 rfl (by decide) rv rs.length _ rfl hown2 ⟨bn,0,none⟩ 1 1 [I p0,I p1,I p2,I p3,I p4,I p5,I p6,I p7,I p8,I p9,I p10] rfl rfl ?u18c1 ?u18c2 ?u18c3 ?u18c4 hWs ?_
            case u18c1 =>
             intro j e hj
             exact Row.lies_of_block hN j e hj
            case u18c2=>intro e he;exact by simp at he;rcases he with rfl | rfl | rfl | rfl | rfl | rfl | rfl | rfl | rfl | rfl | rfl <;> rfl
            case u18c3=>unfold maxLen;omega
            case u18c4=>omega
            intro v' w5 hown' hgrow hnil'
            have hown3:Owns idL 11 W.heap.size w5 75 v' (rs++[[I p0,I p1,I p2,I p3,I p4,I p5,I p6,I p7,I p8,I p9,I p10]]):=Owns.snoc hown'
            have hho:=hb.hold.growR hgrow hown3
            have hq5:=hb.grown hgrow (fun m hm=>⟨hb.hold.rl.blk m hm,GenG.own_type hb.hold.rl m hm⟩) (by decide) hho
            obtain ⟨a',c',hv'⟩:=owns_slice hown3
            obtain ⟨len',hlen'⟩:∃ x,(rs++[[I p0,I p1,I p2,I p3,I p4,I p5,I p6,I p7,I p8,I p9,I p10]]).length=x:=⟨_,rfl⟩
            rw [hlen'] at hv'
            subst hv'
            have HQ5:=Lib.hid hq5
            clear hown' hgrow hnil' hown2 hown3 hho hq5 hlen' hb hN
            have c5:w5.cell? ⟨tb,114,none⟩=some rv:=HQ5.out.at (by rw [bx_r];exact at_mid (by simp only [List.length_append,HPL.out,List.length_cons,List.length_nil,hcl3]))
            have f5:w5.frozen? ⟨tb,114,none⟩=false:=HQ5.out.fz 114
            refine hK.out _ _ trivial (fun _=>?_)
            clear hK K
            (try dsimp only [Act.put]);(try simp only [List.setIfInBounds_toArray,List.set_cons_zero,List.set_cons_succ])
            refine Held.take (i:=6) (some 79) rfl (v:=?_) rfl (by kernel_rfl) (by kernel_rfl) (by kernel_rfl) (fun _ _ _ h=>h) (Or.inl ⟨by rfl,?_⟩) hS ?_
            rotate_left
            ·intro w' hw'
             go_simp
             try with_reducible rfl
            (try dsimp only [Act.put]);(try simp only [List.setIfInBounds_toArray,List.set_cons_zero,List.set_cons_succ])
            refine wpAnyH_ready (rs:=[7]) (by kernel_rfl) (by simp) (AllReadyH.cons rfl (fun K hK=>?_) AllReadyH.nil)
            go_simp
            have hput:=HQ5.out.set 114 (.slice a' len' c')
            rw [bx_r,set_mid (by simp only [List.length_append,HPL.out,List.length_cons,List.length_nil,hcl3]),← bx_r] at hput
            clear c5 f5 HQ5
            generalize World.setCell w5 _ _=w6 at hput ⊢
            have HP:=Lib.hid hput
            clear hput
            refine hK.out _ _ trivial (fun _=>?_)
            clear hK K
            (try dsimp only [Act.put]);(try simp only [List.setIfInBounds_toArray,List.set_cons_zero,List.set_cons_succ])
            refine wpAnyH_done (by kernel_rfl) ?_ _
            go_wp2_with fail
            go_roundw
            case rel=>exact ⟨q5+1,.slice a' len' c',rs++[[I p0,I p1,I p2,I p3,I p4,I p5,I p6,I p7,I p8,I p9,I p10]],t9,by omega,by go_num,Lib.hid (rep_next HE5.out HRUN.out),by rw [List.length_append,hdl5];rfl,HP.out⟩
            case measure=>simp [intOf];omega
           ·go_simp
            refine (rl_d t7 v hb.ds).mono ?_
            rintro e v2 ⟨⟨p0,p1,p2,p3,p4,p5,p6,p7,p8,p9,p10⟩,t9,hrun,rfl,hd2,hb2⟩
            simp only [Rl.cells] at hrun ⊢
            replace hb:=hb.step hb2 hd2
            have HRUN:=Lib.hid hrun
            clear hrun hd2 hb2
            rename World=>v
            go_simp
            refine hK.out _ _ trivial (fun _=>?_)
            clear hK K
            (try dsimp only [Act.put]);(try simp only [List.setIfInBounds_toArray,List.set_cons_zero,List.set_cons_succ])
            refine wpAnyH_ready (rs:=[1,4]) (by kernel_rfl) (by simp) (AllReadyH.cons rfl (fun K hK=>?_) (AllReadyH.cons rfl (fun K hK=>?_) AllReadyH.nil))
            ·have c4:v.cell? ⟨tb,114,none⟩=some rv:=hb.at (by rw [bx_r];exact at_mid (by simp only [List.length_append,HPL.out,List.length_cons,List.length_nil,hcl3]))
             go_simp
             refine hK.out _ _ trivial (fun _=>?_)
             clear hK K
             (try dsimp only [Act.put]);(try simp only [List.setIfInBounds_toArray,List.set_cons_zero,List.set_cons_succ])
             clear c4
             refine wpAnyH_ready (rs:=[4]) (by kernel_rfl) (by simp) (AllReadyH.cons rfl (fun K hK=>?_) AllReadyH.nil)
             go_simp
             have hbw:Below v.heap.size v (v.alloc (.cells #[I p0,I p1,I p2,I p3,I p4,I p5,I p6,I p7,I p8,I p9,I p10] 75)):=(Below.refl _ _).alloc (Nat.le_refl _) _
             have hN:=heap_alloc_new v (.cells #[I p0,I p1,I p2,I p3,I p4,I p5,I p6,I p7,I p8,I p9,I p10] 75)
             replace hb:=hb.mem hbw
             clear hbw
             generalize hbn:v.heap.size=bn at hN ⊢
             clear hbn
             generalize World.alloc v (.cells #[I p0,I p1,I p2,I p3,I p4,I p5,I p6,I p7,I p8,I p9,I p10] 75)=v at hb hN ⊢
             refine hK.out _ _ trivial (fun _=>?_)
             clear hK K
             (try dsimp only [Act.put]);(try simp only [List.setIfInBounds_toArray,List.set_cons_zero,List.set_cons_succ])
             refine wpAnyH_ready (rs:=[5]) (by kernel_rfl) (by simp) (AllReadyH.cons rfl (fun K hK=>?_) AllReadyH.nil)
             rw [if_pos (by rfl)]
             have hown2:v.ownsRow W.heap.size 75 11 rv rs.length (rs.flatMap idL):=hb.hold.rl
             have hWs:=hb.but.size
             refine wp_append_own _ _ _ _ rfl W.heap.size 75 j5 (.agg #[I 0,I 0,I 0,I 0,I 0,I 0,I 0,I 0,I 0,I 0,I 0]) 11 88 Tryz.underlying30 hj5 hy05 hy15 hy25 rfl (by decide) rv rs.length _ rfl hown2 ⟨bn,0,none⟩ 1 1 [I p0,I p1,I p2,I p3,I p4,I p5,I p6,I p7,I p8,I p9,I p10] rfl rfl ?u23c1 ?u23c2 ?u23c3 ?u23c4 hWs ?_
             case u23c1 =>
              intro j e hj
              exact Row.lies_of_block hN j e hj
             case u23c2=>intro e he;exact by simp at he;rcases he with rfl | rfl | rfl | rfl | rfl | rfl | rfl | rfl | rfl | rfl | rfl <;> rfl
             case u23c3=>unfold maxLen;omega
             case u23c4=>omega
             intro v' w5 hown' hgrow hnil'
             have hown3:Owns idL 11 W.heap.size w5 75 v' (rs++[[I p0,I p1,I p2,I p3,I p4,I p5,I p6,I p7,I p8,I p9,I p10]]):=Owns.snoc hown'
             have hho:=hb.hold.growR hgrow hown3
             have hq5:=hb.grown hgrow (fun m hm=>⟨hb.hold.rl.blk m hm,GenG.own_type hb.hold.rl m hm⟩) (by decide) hho
             obtain ⟨a',c',hv'⟩:=owns_slice hown3
             obtain ⟨len',hlen'⟩:∃ x,(rs++[[I p0,I p1,I p2,I p3,I p4,I p5,I p6,I p7,I p8,I p9,I p10]]).length=x:=⟨_,rfl⟩
             rw [hlen'] at hv'
             subst hv'
             have HQ5:=Lib.hid hq5
             clear hown' hgrow hnil' hown2 hown3 hho hq5 hlen' hb hN
             have c5:w5.cell? ⟨tb,114,none⟩=some rv:=HQ5.out.at (by rw [bx_r];exact at_mid (by simp only [List.length_append,HPL.out,List.length_cons,List.length_nil,hcl3]))
             have f5:w5.frozen? ⟨tb,114,none⟩=false:=HQ5.out.fz 114
             refine hK.out _ _ trivial (fun _=>?_)
             clear hK K
             (try dsimp only [Act.put]);(try simp only [List.setIfInBounds_toArray,List.set_cons_zero,List.set_cons_succ])
             refine Held.take (i:=6) (some 79) rfl (v:=?_) rfl (by kernel_rfl) (by kernel_rfl) (by kernel_rfl) (fun _ _ _ h=>h) (Or.inl ⟨by rfl,?_⟩) hS ?_
             rotate_left
             ·intro w' hw'
              go_simp
              try with_reducible rfl
             (try dsimp only [Act.put]);(try simp only [List.setIfInBounds_toArray,List.set_cons_zero,List.set_cons_succ])
             refine wpAnyH_ready (rs:=[7]) (by kernel_rfl) (by simp) (AllReadyH.cons rfl (fun K hK=>?_) AllReadyH.nil)
             go_simp
             have hput:=HQ5.out.set 114 (.slice a' len' c')
             rw [bx_r,set_mid (by simp only [List.length_append,HPL.out,List.length_cons,List.length_nil,hcl3]),← bx_r] at hput
             clear c5 f5 HQ5
             generalize World.setCell w5 _ _=w6 at hput ⊢
             have HP:=Lib.hid hput
             clear hput
             refine hK.out _ _ trivial (fun _=>?_)
             clear hK K
             (try dsimp only [Act.put]);(try simp only [List.setIfInBounds_toArray,List.set_cons_zero,List.set_cons_succ])
             refine wpAnyH_done (by kernel_rfl) ?_ _
             go_wp2_with fail
             go_roundw
             case rel=>exact ⟨q5+1,.slice a' len' c',rs++[[I p0,I p1,I p2,I p3,I p4,I p5,I p6,I p7,I p8,I p9,I p10]],t9,by omega,by go_num,Lib.hid (rep_next HE5.out HRUN.out),by rw [List.length_append,hdl5];rfl,HP.out⟩
             case measure=>simp [intOf];omega
            ·go_simp
             have hbw:Below v.heap.size v (v.alloc (.cells #[I p0,I p1,I p2,I p3,I p4,I p5,I p6,I p7,I p8,I p9,I p10] 75)):=(Below.refl _ _).alloc (Nat.le_refl _) _
             have hN:=heap_alloc_new v (.cells #[I p0,I p1,I p2,I p3,I p4,I p5,I p6,I p7,I p8,I p9,I p10] 75)
             replace hb:=hb.mem hbw
             clear hbw
             generalize hbn:v.heap.size=bn at hN ⊢
             clear hbn
             generalize World.alloc v (.cells #[I p0,I p1,I p2,I p3,I p4,I p5,I p6,I p7,I p8,I p9,I p10] 75)=v at hb hN ⊢
             refine hK.out _ _ trivial (fun _=>?_)
             clear hK K
             (try dsimp only [Act.put]);(try simp only [List.setIfInBounds_toArray,List.set_cons_zero,List.set_cons_succ])
             refine wpAnyH_ready (rs:=[1]) (by kernel_rfl) (by simp) (AllReadyH.cons rfl (fun K hK=>?_) AllReadyH.nil)
             have c4:v.cell? ⟨tb,114,none⟩=some rv:=hb.at (by rw [bx_r];exact at_mid (by simp only [List.length_append,HPL.out,List.length_cons,List.length_nil,hcl3]))
             go_simp
             refine hK.out _ _ trivial (fun _=>?_)
             clear hK K
             (try dsimp only [Act.put]);(try simp only [List.setIfInBounds_toArray,List.set_cons_zero,List.set_cons_succ])
             clear c4
             refine wpAnyH_ready (rs:=[5]) (by kernel_rfl) (by simp) (AllReadyH.cons rfl (fun K hK=>?_) AllReadyH.nil)
             rw [if_pos (by rfl)]
             have hown2:v.ownsRow W.heap.size 75 11 rv rs.length (rs.flatMap idL):=hb.hold.rl
             have hWs:=hb.but.size
             refine wp_append_own _ _ _ _ rfl W.heap.size 75 j5 (.agg #[I 0,I 0,I 0,I 0,I 0,I 0,I 0,I 0,I 0,I 0,I 0]) 11 88 Tryz.underlying30 hj5 hy05 hy15 hy25 rfl (by decide) rv rs.length _ rfl hown2 ⟨bn,0,none⟩ 1 1 [I p0,I p1,I p2,I p3,I p4,I p5,I p6,I p7,I p8,I p9,I p10] rfl rfl ?u27c1 ?u27c2 ?u27c3 ?u27c4 hWs ?_
             case u27c1 =>
              intro j e hj
              exact Row.lies_of_block hN j e hj
             case u27c2=>intro e he;exact by simp at he;rcases he with rfl | rfl | rfl | rfl | rfl | rfl | rfl | rfl | rfl | rfl | rfl <;> rfl
             case u27c3=>unfold maxLen;omega
             case u27c4=>omega
             intro v' w5 hown' hgrow hnil'
             have hown3:Owns idL 11 W.heap.size w5 75 v' (rs++[[I p0,I p1,I p2,I p3,I p4,I p5,I p6,I p7,I p8,I p9,I p10]]):=Owns.snoc hown'
             have hho:=hb.hold.growR hgrow hown3
             have hq5:=hb.grown hgrow (fun m hm=>⟨hb.hold.rl.blk m hm,GenG.own_type hb.hold.rl m hm⟩) (by decide) hho
             obtain ⟨a',c',hv'⟩:=owns_slice hown3
             obtain ⟨len',hlen'⟩:∃ x,(rs++[[I p0,I p1,I p2,I p3,I p4,I p5,I p6,I p7,I p8,I p9,I p10]]).length=x:=⟨_,rfl⟩
             rw [hlen'] at hv'
             subst hv'
             have HQ5:=Lib.hid hq5
             clear hown' hgrow hnil' hown2 hown3 hho hq5 hlen' hb hN
             have c5:w5.cell? ⟨tb,114,none⟩=some rv:=HQ5.out.at (by rw [bx_r];exact at_mid (by simp only [List.length_append,HPL.out,List.length_cons,List.length_nil,hcl3]))
             have f5:w5.frozen? ⟨tb,114,none⟩=false:=HQ5.out.fz 114
             refine hK.out _ _ trivial (fun _=>?_)
             clear hK K
             (try dsimp only [Act.put]);(try simp only [List.setIfInBounds_toArray,List.set_cons_zero,List.set_cons_succ])
             refine Held.take (i:=6) (some 79) rfl (v:=?_) rfl (by kernel_rfl) (by kernel_rfl) (by kernel_rfl) (fun _ _ _ h=>h) (Or.inl ⟨by rfl,?_⟩) hS ?_
             rotate_left
             ·intro w' hw'
              go_simp
              try with_reducible rfl
             (try dsimp only [Act.put]);(try simp only [List.setIfInBounds_toArray,List.set_cons_zero,List.set_cons_succ])
             refine wpAnyH_ready (rs:=[7]) (by kernel_rfl) (by simp) (AllReadyH.cons rfl (fun K hK=>?_) AllReadyH.nil)
             go_simp
             have hput:=HQ5.out.set 114 (.slice a' len' c')
             rw [bx_r,set_mid (by simp only [List.length_append,HPL.out,List.length_cons,List.length_nil,hcl3]),← bx_r] at hput
             clear c5 f5 HQ5
             generalize World.setCell w5 _ _=w6 at hput ⊢
             have HP:=Lib.hid hput
             clear hput
             refine hK.out _ _ trivial (fun _=>?_)
             clear hK K
             (try dsimp only [Act.put]);(try simp only [List.setIfInBounds_toArray,List.set_cons_zero,List.set_cons_succ])
             refine wpAnyH_done (by kernel_rfl) ?_ _
             go_wp2_with fail
             go_roundw
             case rel=>exact ⟨q5+1,.slice a' len' c',rs++[[I p0,I p1,I p2,I p3,I p4,I p5,I p6,I p7,I p8,I p9,I p10]],t9,by omega,by go_num,Lib.hid (rep_next HE5.out HRUN.out),by rw [List.length_append,hdl5];rfl,HP.out⟩
             case measure=>simp [intOf];omega
          ·obtain rfl:q5=n5:=by omega
           have HLN5:Hid (listN (DP bs) 4 stR zRl t5=.ok (rs,t7)):=Lib.hid (By.listN_ok HNUM5.out HE5.out)
           clear HE5 HNUM5
           have hc:=num_d t7 1 4 wr HD.out.ds
           have hnum:(DP bs).num t7 1 4 0=.ok ((Nm.num bs t7 (lim 1 7) 0 4).1,(Nm.num bs t7 (lim 1 7) 0 4).2):=rfl
           obtain ⟨n6,hn,hnm6⟩:=num_in bs t7 (lim 1 7) (high:=4) (by decide)
           rw [hn] at hc hnum
           generalize (Nm.num bs t7 (lim 1 7) 0 4).2=t8 at hc hnum
           have HNUM6:=Lib.hid hnum
           clear hnum hn
           go_wp2_with fail
           refine hc.mono ?_
           rintro e V1 ⟨rfl,hs1,hb1⟩
           have HQ1:=Lib.hid (HD.out.step hb1 hs1)
           clear hs1 hb1 hc HD
           obtain ⟨j6,hj6,hy06,hy16,hy26⟩:=info_parts infoB3
           go_wp2_with fail
           go_loopw [12,13] (fun i vx wr=>∃ (q6:Nat) (bv:Value) (rb:List (List Value)) (t9:St),q6≤n6∧i=.int .i64 q6∧Hid (eachs (DP bs) stB (List.replicate q6 zBs) t8=.ok (rb,t9))∧rb.length=q6∧Dq B g ad cap bs W tb gz Z (bx PHL gv CF dv rv bv (List.replicate 5 (I 0)) z8 (List.replicate 2 (I 0))) ⟨gv,zs,dv,ds,rv,rs,bv,rb⟩ t9 wr) (fun i _ _=>n6 - (intOf i).toNat)
           case atStart=>exact ⟨0,nl,[],t8,Nat.zero_le _,rfl,Lib.hid rfl,rfl,HQ1.out⟩
           case round =>
            obtain ⟨q6,bv,rb,t9,hq6,rfl,HE6,hdl6,hdq⟩:=hrel
            have HD:=Lib.hid hdq
            clear hdq HQ1
            by_cases hlt6:q6 < n6
            ·go_upto_region 32 with fail
             have hbw:Below wr.heap.size wr (wr.alloc (.cells #[I 0,I 0] 77)):=(Below.refl _ _).alloc (Nat.le_refl _) _
             have hN:=heap_alloc_new wr (.cells #[I 0,I 0] 77)
             have hb:=HD.out.mem hbw
             have hne:bv.ownBlock ≠ some wr.heap.size:=fun e=>by have:=GenG.own_lt HD.out.hold.bu _ e;omega
             have hWn:W.heap.size≤wr.heap.size:=HD.out.but.size
             generalize World.alloc wr (.cells #[I 0,I 0] 77)=V at hb hN ⊢
             generalize wr.heap.size=nb at hN hne hWn ⊢
             have HB:=Lib.hid hb
             have HNB:=Lib.hid hN
             clear hbw hN hb HD
             have hgn:g < nb:=Nat.lt_of_lt_of_le hg hWn
             have hc:=num_d t9 1 255 V HB.out.ds
             have hr1:Sp.run (DP bs) zBs t9 (.num 1 255 0)=.ok ([I (Nm.num bs t9 (lim 1 7) 0 255).1,I 0],(Nm.num bs t9 (lim 1 7) 0 255).2):=rfl
             generalize (Nm.num bs t9 (lim 1 7) 0 255).1=y0 at hc hr1
             generalize (Nm.num bs t9 (lim 1 7) 0 255).2=ta at hc hr1
             have HR1:=Lib.hid hr1
             clear hr1
             go_wp2_with fail
             refine hc.mono ?_
             rintro e V2 ⟨rfl,hd2,hb2⟩
             have hN2:=(hb2.block nb (Array.getElem?_eq_some_iff.1 HNB.out).1 (by omega)).trans HNB.out
             have HQ2:=Lib.hid (HB.out.step hb2 hd2)
             clear hc hd2 hb2 HB HNB
             have c5:V2.cell? ⟨nb,0,none⟩=some (I 0):=by rw [cell_of_row _ _ _ _ _ _ hN2];rfl
             have f5:V2.frozen? ⟨nb,0,none⟩=false:=frozen_of_row _ _ _ _ _ hN2
             have hput:=HQ2.out.bus (i:=0) (v:=I y0) hWn hne hN2
             have hN3:(V2.setCell ⟨nb,0,none⟩ (I y0)).heap[nb]?=some (.cells #[I y0,I 0] 77 (0,0)):=by rw [setCell_eq_setRow V2 nb 0 #[I 0,I 0] 77 (0,0) (I y0) hN2];exact setRow_heap _ _ _ _ _ _ hN2
             go_upto_region 33 with fail
             clear c5 f5 hN2 HQ2
             generalize World.setCell V2 _ _=V3 at hput hN3 ⊢
             have HB3:=Lib.hid hput
             have HNB3:=Lib.hid hN3
             clear hput hN3
             have hc:=time_d ta V3 HB3.out.ds
             have hr2:Sp.run (DP bs) [I y0,I 0] ta (.num 2 9999 1)=.ok ([I y0,I (Nm.num bs ta (lim 2 7) 0 9999).1],(Nm.num bs ta (lim 2 7) 0 9999).2):=rfl
             generalize (Nm.num bs ta (lim 2 7) 0 9999).1=y1 at hc hr2
             generalize (Nm.num bs ta (lim 2 7) 0 9999).2=tc at hc hr2
             have HR2:=Lib.hid hr2
             clear hr2
             go_wp2_with fail
             refine hc.mono ?_
             rintro e V4 ⟨rfl,hd2,hb2⟩
             have hN2:=(hb2.block nb (Array.getElem?_eq_some_iff.1 HNB3.out).1 (by omega)).trans HNB3.out
             have HQ4:=Lib.hid (HB3.out.step hb2 hd2)
             clear hc hd2 hb2 HB3 HNB3
             have c5:V4.cell? ⟨nb,1,none⟩=some (I 0):=by rw [cell_of_row _ _ _ _ _ _ hN2];rfl
             have f5:V4.frozen? ⟨nb,1,none⟩=false:=frozen_of_row _ _ _ _ _ hN2
             have hput:=HQ4.out.bus (i:=1) (v:=I y1) hWn hne hN2
             have hN3:(V4.setCell ⟨nb,1,none⟩ (I y1)).heap[nb]?=some (.cells #[I y0,I y1] 77 (0,0)):=by rw [setCell_eq_setRow V4 nb 1 #[I y0,I 0] 77 (0,0) (I y1) hN2];exact setRow_heap _ _ _ _ _ _ hN2
             go_upto_region 34 with fail
             clear c5 f5 hN2 HQ4
             generalize World.setCell V4 _ _=V5 at hput hN3 ⊢
             have HB5:=Lib.hid hput
             have HNB5:=Lib.hid hN3
             clear hput hN3
             have HRUN:Hid (runs (DP bs) stB zBs t9=.ok ([I y0,I y1],tc)):=Lib.hid (runs_snoc (runs_snoc (a:=[]) rfl HR1.out) HR2.out)
             clear HR1 HR2
             have c4:V5.cell? ⟨tb,115,none⟩=some bv:=HB5.out.at (by rw [bx_b];exact at_mid (by simp only [List.length_append,HPL.out,List.length_cons,List.length_nil,hcl3]))
             have hown2:V5.ownsRow W.heap.size 77 2 bv rb.length (rb.flatMap idL):=HB5.out.hold.bu
             have hWs:=HB5.out.but.size
             have LB:Hid (Lies V5 ⟨nb,0,none⟩ [I y0,I y1]):=Lib.hid (by have:=Row.lies_of_block HNB5.out;simpa using this)
             go_wp2_with (first | (refine Row.wpList_load_g 77 _ rfl (by first | rfl | (go_simp;done) | fail) ⟨nb,0,none⟩ rfl [I y0,I y1] _ LB.out Tryz.underlying77 rfl infoBus ?_) | (at_builtin;refine wpList_append_own _ rfl _ _ 31 rfl W.heap.size 77 j6 (.agg #[I 0,I 0]) 2 16 Tryz.underlying31 hj6 hy06 hy16 hy26 rfl (by decide) bv rb.length _ rfl (World.ownsRow.alloc hown2 _) ⟨V5.heap.size,0,none⟩ 1 1 [I y0,I y1] rfl rfl ?b1 ?b2 ?b3 ?b4 ?b5 ?_))
             case b1 =>
              intro j u hj
              match j,hj with
              | 0,hj=>simp at hj;subst hj;simp [Addr.add]
              | 1,hj=>simp at hj;subst hj;simp [Addr.add]
             case b2=>intro u hu;simp at hu;rcases hu with rfl | rfl <;> rfl
             case b3=>unfold maxLen;omega
             case b4=>omega
             case b5=>simp;omega
             intro v' w5 hown' hgrow hnil'
             have hbel:Below V5.heap.size V5 (V5.alloc (.cells #[I y0,I y1] 77)):=(Below.refl _ _).alloc (Nat.le_refl _) _
             have hqa:=HB5.out.mem hbel
             have hown3:Owns idL 2 W.heap.size w5 77 v' (rb++[[I y0,I y1]]):=by
              refine Owns.snoc ?_
              have hfl:rb.flatten=rb.flatMap idL:=by rw [List.flatMap_def];simp [idL]
              rw [hgz,hdl6,← hfl]
              exact hown'
             have hho:=hqa.hold.growB hgrow hown3
             have hq5:=hqa.grown hgrow (fun m hm=>⟨hqa.hold.bu.blk m hm,GenG.own_type hqa.hold.bu m hm⟩) (by decide) hho
             obtain ⟨a',c',hv'⟩:=owns_slice hown3
             obtain ⟨len',hlen'⟩:∃ x,(rb++[[I y0,I y1]]).length=x:=⟨_,rfl⟩
             rw [hlen'] at hv'
             subst hv'
             have HQ5:=Lib.hid hq5
             clear hown' hgrow hnil' hbel hqa hown2 hown3 hho hq5 hlen' c4 HB5
             have c5:w5.cell? ⟨tb,115,none⟩=some bv:=HQ5.out.at (by rw [bx_b];exact at_mid (by simp only [List.length_append,HPL.out,List.length_cons,List.length_nil,hcl3]))
             have f5:w5.frozen? ⟨tb,115,none⟩=false:=HQ5.out.fz 115
             go_upto_region 30 with fail
             have hput:=HQ5.out.set 115 (.slice a' len' c')
             rw [bx_b,set_mid (by simp only [List.length_append,HPL.out,List.length_cons,List.length_nil,hcl3]),← bx_b] at hput
             clear c5 f5 HQ5
             generalize World.setCell w5 _ _=w6 at hput ⊢
             have HP:=Lib.hid hput
             clear hput
             go_wp2_with fail
             go_roundw
             case rel=>exact ⟨q6+1,.slice a' len' c',rb++[[I y0,I y1]],tc,by omega,by go_num,Lib.hid (rep_next HE6.out HRUN.out),by rw [List.length_append,hdl6];rfl,HP.out⟩
             case measure=>simp [intOf];omega
            ·obtain rfl:q6=n6:=by omega
             have HLN6:Hid (listN (DP bs) 4 stB zBs t7=.ok (rb,t9)):=Lib.hid (By.listN_ok HNUM6.out HE6.out)
             clear HE6 HNUM6
             have RN0:Hid (runs (DP bs) [] (List.replicate 5 (I 0)) t9=.ok ([I 0,I 0,I 0,I 0,I 0],t9)):=Lib.hid rfl
             have HT:Hid (Dq B g ad cap bs W tb gz Z (bx PHL gv CF dv rv bv [I 0,I 0,I 0,I 0,I 0] z8 (List.replicate 2 (I 0))) ⟨gv,zs,dv,ds,rv,rs,bv,rb⟩ t9 wr):=HD
             clear HD
             rename World=>VV
             have HD:=HT
             clear HT
             have hc:=time_d t9 _ HD.out.ds
             have hr1:Sp.run (DP bs) [I 0,I 0,I 0,I 0,I 0] t9 (.num 2 9999 0)=.ok ([I ((Nm.num bs t9 (lim 2 7) 0 9999).1),I 0,I 0,I 0,I 0],(Nm.num bs t9 (lim 2 7) 0 9999).2):=rfl
             generalize (Nm.num bs t9 (lim 2 7) 0 9999).1=x0 at hc hr1
             generalize (Nm.num bs t9 (lim 2 7) 0 9999).2=xt0 at hc hr1
             have RN1:Hid (runs (DP bs) ([]++[.num 2 9999 0]) (List.replicate 5 (I 0)) t9=.ok ([I x0,I 0,I 0,I 0,I 0],xt0)):=Lib.hid (runs_snoc RN0.out hr1)
             clear hr1 RN0
             have RN0:=RN1
             clear RN1
             go_wp2_with fail
             refine hc.mono ?_
             rintro e V2 ⟨rfl,hd2,hb2⟩
             have HQ2:=Lib.hid (HD.out.step hb2 hd2)
             clear hc hd2 hb2 HD
             have c5:V2.cell? ⟨tb,116,none⟩=some (I 0):=HQ2.out.at (by rw [bx_t];exact (seg_at (k:=116) (q:=0) (by simp only [List.length_append,HPL.out,List.length_cons,List.length_nil,hcl3]) (by simp)).trans rfl)
             have f5:V2.frozen? ⟨tb,116,none⟩=false:=HQ2.out.fz _
             go_upto_region 36 with fail
             have hput:=HQ2.out.set (116+0) (I x0)
             rw [bx_t,seg_set (by simp only [List.length_append,HPL.out,List.length_cons,List.length_nil,hcl3]) (by simp),← bx_t] at hput
             simp only [List.set_cons_zero,List.set_cons_succ] at hput
             clear c5 f5 HQ2
             generalize World.setCell V2 _ _=V3 at hput ⊢
             clear V2
             rename World=>VV
             have HD:=Lib.hid hput
             clear hput
             have hc:=time_d xt0 _ HD.out.ds
             have hr1:Sp.run (DP bs) [I x0,I 0,I 0,I 0,I 0] xt0 (.num 2 9999 1)=.ok ([I x0,I ((Nm.num bs xt0 (lim 2 7) 0 9999).1),I 0,I 0,I 0],(Nm.num bs xt0 (lim 2 7) 0 9999).2):=rfl
             generalize (Nm.num bs xt0 (lim 2 7) 0 9999).1=x1 at hc hr1
             generalize (Nm.num bs xt0 (lim 2 7) 0 9999).2=xt1 at hc hr1
             have RN1:Hid (runs (DP bs) (([]++[.num 2 9999 0])++[.num 2 9999 1]) (List.replicate 5 (I 0)) t9=.ok ([I x0,I x1,I 0,I 0,I 0],xt1)):=Lib.hid (runs_snoc RN0.out hr1)
             clear hr1 RN0
             have RN0:=RN1
             clear RN1
             go_wp2_with fail
             refine hc.mono ?_
             rintro e V2 ⟨rfl,hd2,hb2⟩
             have HQ2:=Lib.hid (HD.out.step hb2 hd2)
             clear hc hd2 hb2 HD
             have c5:V2.cell? ⟨tb,117,none⟩=some (I 0):=HQ2.out.at (by rw [bx_t];exact (seg_at (k:=116) (q:=1) (by simp only [List.length_append,HPL.out,List.length_cons,List.length_nil,hcl3]) (by simp)).trans rfl)
             have f5:V2.frozen? ⟨tb,117,none⟩=false:=HQ2.out.fz _
             go_upto_region 37 with fail
             have hput:=HQ2.out.set (116+1) (I x1)
             rw [bx_t,seg_set (by simp only [List.length_append,HPL.out,List.length_cons,List.length_nil,hcl3]) (by simp),← bx_t] at hput
             simp only [List.set_cons_zero,List.set_cons_succ] at hput
             clear c5 f5 HQ2
             generalize World.setCell V2 _ _=V3 at hput ⊢
             clear V2
             rename World=>VV
             have HD:=Lib.hid hput
             clear hput
             have hc:=time_d xt1 _ HD.out.ds
             have hr1:Sp.run (DP bs) [I x0,I x1,I 0,I 0,I 0] xt1 (.num 2 9999 2)=.ok ([I x0,I x1,I ((Nm.num bs xt1 (lim 2 7) 0 9999).1),I 0,I 0],(Nm.num bs xt1 (lim 2 7) 0 9999).2):=rfl
             generalize (Nm.num bs xt1 (lim 2 7) 0 9999).1=x2 at hc hr1
             generalize (Nm.num bs xt1 (lim 2 7) 0 9999).2=xt2 at hc hr1
             have RN1:Hid (runs (DP bs) ((([]++[.num 2 9999 0])++[.num 2 9999 1])++[.num 2 9999 2]) (List.replicate 5 (I 0)) t9=.ok ([I x0,I x1,I x2,I 0,I 0],xt2)):=Lib.hid (runs_snoc RN0.out hr1)
             clear hr1 RN0
             have RN0:=RN1
             clear RN1
             go_wp2_with fail
             refine hc.mono ?_
             rintro e V2 ⟨rfl,hd2,hb2⟩
             have HQ2:=Lib.hid (HD.out.step hb2 hd2)
             clear hc hd2 hb2 HD
             have c5:V2.cell? ⟨tb,118,none⟩=some (I 0):=HQ2.out.at (by rw [bx_t];exact (seg_at (k:=116) (q:=2) (by simp only [List.length_append,HPL.out,List.length_cons,List.length_nil,hcl3]) (by simp)).trans rfl)
             have f5:V2.frozen? ⟨tb,118,none⟩=false:=HQ2.out.fz _
             go_upto_region 38 with fail
             have hput:=HQ2.out.set (116+2) (I x2)
             rw [bx_t,seg_set (by simp only [List.length_append,HPL.out,List.length_cons,List.length_nil,hcl3]) (by simp),← bx_t] at hput
             simp only [List.set_cons_zero,List.set_cons_succ] at hput
             clear c5 f5 HQ2
             generalize World.setCell V2 _ _=V3 at hput ⊢
             clear V2
             rename World=>VV
             have HD:=Lib.hid hput
             clear hput
             have hc:=time_d xt2 _ HD.out.ds
             have hr1:Sp.run (DP bs) [I x0,I x1,I x2,I 0,I 0] xt2 (.num 2 9999 3)=.ok ([I x0,I x1,I x2,I ((Nm.num bs xt2 (lim 2 7) 0 9999).1),I 0],(Nm.num bs xt2 (lim 2 7) 0 9999).2):=rfl
             generalize (Nm.num bs xt2 (lim 2 7) 0 9999).1=x3 at hc hr1
             generalize (Nm.num bs xt2 (lim 2 7) 0 9999).2=xt3 at hc hr1
             have RN1:Hid (runs (DP bs) (((([]++[.num 2 9999 0])++[.num 2 9999 1])++[.num 2 9999 2])++[.num 2 9999 3]) (List.replicate 5 (I 0)) t9=.ok ([I x0,I x1,I x2,I x3,I 0],xt3)):=Lib.hid (runs_snoc RN0.out hr1)
             clear hr1 RN0
             have RN0:=RN1
             clear RN1
             go_wp2_with fail
             refine hc.mono ?_
             rintro e V2 ⟨rfl,hd2,hb2⟩
             have HQ2:=Lib.hid (HD.out.step hb2 hd2)
             clear hc hd2 hb2 HD
             have c5:V2.cell? ⟨tb,119,none⟩=some (I 0):=HQ2.out.at (by rw [bx_t];exact (seg_at (k:=116) (q:=3) (by simp only [List.length_append,HPL.out,List.length_cons,List.length_nil,hcl3]) (by simp)).trans rfl)
             have f5:V2.frozen? ⟨tb,119,none⟩=false:=HQ2.out.fz _
             go_upto_region 39 with fail
             have hput:=HQ2.out.set (116+3) (I x3)
             rw [bx_t,seg_set (by simp only [List.length_append,HPL.out,List.length_cons,List.length_nil,hcl3]) (by simp),← bx_t] at hput
             simp only [List.set_cons_zero,List.set_cons_succ] at hput
             clear c5 f5 HQ2
             generalize World.setCell V2 _ _=V3 at hput ⊢
             clear V2
             rename World=>VV
             have HD:=Lib.hid hput
             clear hput
             have hc:=time_d xt3 _ HD.out.ds
             have hr1:Sp.run (DP bs) [I x0,I x1,I x2,I x3,I 0] xt3 (.num 2 9999 4)=.ok ([I x0,I x1,I x2,I x3,I ((Nm.num bs xt3 (lim 2 7) 0 9999).1)],(Nm.num bs xt3 (lim 2 7) 0 9999).2):=rfl
             generalize (Nm.num bs xt3 (lim 2 7) 0 9999).1=x4 at hc hr1
             generalize (Nm.num bs xt3 (lim 2 7) 0 9999).2=xt4 at hc hr1
             have RN1:Hid (runs (DP bs) ((((([]++[.num 2 9999 0])++[.num 2 9999 1])++[.num 2 9999 2])++[.num 2 9999 3])++[.num 2 9999 4]) (List.replicate 5 (I 0)) t9=.ok ([I x0,I x1,I x2,I x3,I x4],xt4)):=Lib.hid (runs_snoc RN0.out hr1)
             clear hr1 RN0
             have RN0:=RN1
             clear RN1
             go_wp2_with fail
             refine hc.mono ?_
             rintro e V2 ⟨rfl,hd2,hb2⟩
             have HQ2:=Lib.hid (HD.out.step hb2 hd2)
             clear hc hd2 hb2 HD
             have c5:V2.cell? ⟨tb,120,none⟩=some (I 0):=HQ2.out.at (by rw [bx_t];exact (seg_at (k:=116) (q:=4) (by simp only [List.length_append,HPL.out,List.length_cons,List.length_nil,hcl3]) (by simp)).trans rfl)
             have f5:V2.frozen? ⟨tb,120,none⟩=false:=HQ2.out.fz _
             go_upto_region 40 with fail
             have hput:=HQ2.out.set (116+4) (I x4)
             rw [bx_t,seg_set (by simp only [List.length_append,HPL.out,List.length_cons,List.length_nil,hcl3]) (by simp),← bx_t] at hput
             simp only [List.set_cons_zero,List.set_cons_succ] at hput
             clear c5 f5 HQ2
             generalize World.setCell V2 _ _=V3 at hput ⊢
             clear V2
             rename World=>VV
             have HD:=Lib.hid hput
             clear hput
             have RT:=RN0
             clear RN0
             rename World=>wr
             go_wp2_with fail
             go_loopw [14] (fun i wr=>∃ (q8:Nat) (FL:List Value) (tf:St),q8≤8∧i=.int .i64 q8∧Hid (runs (DP bs) (st8 2 q8) z8 xt4=.ok (FL,tf))∧FL.length=8∧FL.map kind=List.replicate 8 0∧Dq B g ad cap bs W tb gz Z (bx PHL gv CF dv rv bv [I x0,I x1,I x2,I x3,I x4] FL (List.replicate 2 (I 0))) ⟨gv,zs,dv,ds,rv,rs,bv,rb⟩ tf wr) (fun i _=>8 - (intOf i).toNat)
             case atStart=>exact ⟨0,z8,xt4,Nat.zero_le _,rfl,Lib.hid rfl,rfl,rfl,HD.out⟩
             case round =>
              obtain ⟨q8,FL,tf,hq8,rfl,HR8,hcl8,hck8,hdq⟩:=hrel
              have HD:=Lib.hid hdq
              clear hdq
              by_cases hlt8:q8 < 8
              ·have hc:=num_d tf 1 2 wr HD.out.ds
               obtain ⟨x,hx⟩:∃ x,FL[q8]?=some (I x):=int_at hck8 (by rw [List.getElem?_replicate,if_pos hlt8])
               have hrun:Sp.run (DP bs) FL tf (.num 1 2 q8)=.ok (FL.set q8 (I (Nm.num bs tf (lim 1 7) 0 2).1),(Nm.num bs tf (lim 1 7) 0 2).2):=by simp only [Sp.run,hx];rfl
               generalize (Nm.num bs tf (lim 1 7) 0 2).1=y at hc hrun
               generalize (Nm.num bs tf (lim 1 7) 0 2).2=t9 at hc hrun
               have HRUN:=Lib.hid hrun
               have HX:=Lib.hid hx
               clear hrun hx
               go_wp2_with fail
               refine hc.mono ?_
               rintro e V2 ⟨rfl,hd2,hb2⟩
               have HQ2:=Lib.hid (HD.out.step hb2 hd2)
               clear hc hd2 hb2
               have c5:V2.cell? ⟨tb,121+q8,none⟩=some (I x):=HQ2.out.at (by rw [bx_f,seg_at (by simp only [List.length_append,HPL.out,List.length_cons,List.length_nil,hcl3]) (by omega)];exact HX.out)
               have f5:V2.frozen? ⟨tb,121+q8,none⟩=false:=HQ2.out.fz _
               go_upto_region 42 with fail
               have hput:=HQ2.out.set (121+q8) (I y)
               rw [bx_f,seg_set (by simp only [List.length_append,HPL.out,List.length_cons,List.length_nil,hcl3]) (by omega),← bx_f] at hput
               clear c5 f5 HQ2
               generalize World.setCell V2 _ _=V3 at hput ⊢
               have HP:=Lib.hid hput
               clear hput
               go_wp2_with fail
               go_roundw
               case rel=>exact ⟨q8+1,FL.set q8 (I y),t9,by omega,by go_num,Lib.hid (st8_next HR8.out HRUN.out),by rw [List.length_set,hcl8],by rw [map_set (u:=I y) HX.out rfl,hck8],HP.out⟩
               case measure=>simp [intOf];omega
              ·obtain rfl:q8=8:=by omega
               have RN0:Hid (runs (DP bs) [] (List.replicate 2 (I 0)) tf=.ok ([I 0,I 0],tf)):=Lib.hid rfl
               have HT:Hid (Dq B g ad cap bs W tb gz Z (bx PHL gv CF dv rv bv [I x0,I x1,I x2,I x3,I x4] FL [I 0,I 0]) ⟨gv,zs,dv,ds,rv,rs,bv,rb⟩ tf wr):=HD
               clear HD
               rename World=>VV
               have HD:=HT
               clear HT
               have hc:=num_d tf 4 2147483647 _ HD.out.ds
               have hr1:Sp.run (DP bs) [I 0,I 0] tf (.num 4 2147483647 0)=.ok ([I ((Nm.num bs tf (lim 4 7) 0 2147483647).1),I 0],(Nm.num bs tf (lim 4 7) 0 2147483647).2):=rfl
               generalize (Nm.num bs tf (lim 4 7) 0 2147483647).1=k0 at hc hr1
               generalize (Nm.num bs tf (lim 4 7) 0 2147483647).2=kt0 at hc hr1
               have RN1:Hid (runs (DP bs) ([]++[.num 4 2147483647 0]) (List.replicate 2 (I 0)) tf=.ok ([I k0,I 0],kt0)):=Lib.hid (runs_snoc RN0.out hr1)
               clear hr1 RN0
               have RN0:=RN1
               clear RN1
               go_wp2_with fail
               refine hc.mono ?_
               rintro e V2 ⟨rfl,hd2,hb2⟩
               have HQ2:=Lib.hid (HD.out.step hb2 hd2)
               clear hc hd2 hb2 HD
               have c5:V2.cell? ⟨tb,129,none⟩=some (I 0):=HQ2.out.at (by rw [bx_k];exact (seg_at (k:=129) (q:=0) (by simp only [List.length_append,HPL.out,List.length_cons,List.length_nil,hcl3,hcl8]) (by simp)).trans rfl)
               have f5:V2.frozen? ⟨tb,129,none⟩=false:=HQ2.out.fz _
               go_upto_region 45 with fail
               have hput:=HQ2.out.set (129+0) (I k0)
               rw [bx_k,seg_set (by simp only [List.length_append,HPL.out,List.length_cons,List.length_nil,hcl3,hcl8]) (by simp),← bx_k] at hput
               simp only [List.set_cons_zero,List.set_cons_succ] at hput
               clear c5 f5 HQ2
               generalize World.setCell V2 _ _=V3 at hput ⊢
               clear V2
               rename World=>VV
               have HD:=Lib.hid hput
               clear hput
               have hc:=num_d kt0 4 2147483647 _ HD.out.ds
               have hr1:Sp.run (DP bs) [I k0,I 0] kt0 (.num 4 2147483647 1)=.ok ([I k0,I ((Nm.num bs kt0 (lim 4 7) 0 2147483647).1)],(Nm.num bs kt0 (lim 4 7) 0 2147483647).2):=rfl
               generalize (Nm.num bs kt0 (lim 4 7) 0 2147483647).1=k1 at hc hr1
               generalize (Nm.num bs kt0 (lim 4 7) 0 2147483647).2=kt1 at hc hr1
               have RN1:Hid (runs (DP bs) (([]++[.num 4 2147483647 0])++[.num 4 2147483647 1]) (List.replicate 2 (I 0)) tf=.ok ([I k0,I k1],kt1)):=Lib.hid (runs_snoc RN0.out hr1)
               clear hr1 RN0
               have RN0:=RN1
               clear RN1
               go_wp2_with fail
               refine hc.mono ?_
               rintro e V2 ⟨rfl,hd2,hb2⟩
               have HQ2:=Lib.hid (HD.out.step hb2 hd2)
               clear hc hd2 hb2 HD
               have c5:V2.cell? ⟨tb,130,none⟩=some (I 0):=HQ2.out.at (by rw [bx_k];exact (seg_at (k:=129) (q:=1) (by simp only [List.length_append,HPL.out,List.length_cons,List.length_nil,hcl3,hcl8]) (by simp)).trans rfl)
               have f5:V2.frozen? ⟨tb,130,none⟩=false:=HQ2.out.fz _
               go_upto_region 46 with fail
               have hput:=HQ2.out.set (129+1) (I k1)
               rw [bx_k,seg_set (by simp only [List.length_append,HPL.out,List.length_cons,List.length_nil,hcl3,hcl8]) (by simp),← bx_k] at hput
               simp only [List.set_cons_zero,List.set_cons_succ] at hput
               clear c5 f5 HQ2
               generalize World.setCell V2 _ _=V3 at hput ⊢
               clear V2
               rename World=>VV
               have HD:=Lib.hid hput
               clear hput
               have HPARTS:Hid (parts (DP bs) s0=.ok ((⟨ph,gs,CF,ds,rs,rb,[I x0,I x1,I x2,I x3,I x4],FL,[I k0,I k1]⟩:Raw),kt1)):=Lib.hid (By.parts_intro HEP.out HLG.out HR3.out HLN4.out HLN5.out HLN6.out RT.out HR8.out RN0.out)
               have HOK:=Lib.hid (parts_ok (dfew hb8) HPARTS.out)
               obtain ⟨H1,hc1,ht1⟩:=dq_tab HOK.out HD.out.hold hzs rfl rfl rfl
               simp only at hc1
               rw [HPHE.out] at hc1
               obtain ⟨c,hcc⟩:∃ c,bx PHL gv CF dv rv bv [I x0,I x1,I x2,I x3,I x4] FL [I k0,I k1]=c:=⟨_,rfl⟩
               have CO:=cells_ok ht1
               rw [← hc1,hcc] at CO
               have csl:c.length=131:=by have:=CO.size;rwa [List.size_toArray] at this
               have HONE:=Lib.hid CO.one
               have HTB:=Lib.hid HD.out.tbl
               have HRS:=Lib.hid HD.out.res
               rw [hcc] at HTB
               have IC:Hid ((Tryz.prog.info? 33).map (·.size)=some c.length):=Lib.hid (by rw [csl];exact May.infoT)
               have IC2:Hid ((Tryz.prog.info? 33).map (·.size)=some c.toArray.size):=Lib.hid (by rw [List.size_toArray];exact IC.out)
               have IZ:Hid (Z.size=c.toArray.size):=Lib.hid (by rw [EZS.out,List.size_toArray,csl])
               clear hc1 ht1 CO
               go_wp2_with (first | (refine Row.wpList_load_g 33 _ rfl (by first | rfl | (go_simp;done) | fail) ⟨tb,0,none⟩ rfl c _ (by have:=Row.lies_of_block HTB.out;simpa using this) Tryz.underlying33 rfl IC.out ?_) | (refine wpList_store_row rfl 33 _ _ rfl gz c.toArray rfl rfl 33 _ HRS.out IC2.out IZ.out HONE.out ?_))
               have hgr:VV.grownBy (VV.setRow gz c.toArray) (some gz):=⟨rfl,rfl,rfl,by simp [World.setRow],fun j _ hj=>setRow_other _ _ _ _ (fun e=>hj (by rw [e]))⟩
               have hz0:=HD.out.z0
               have hho:=HD.out.hold.box hgr (fun m e=>by cases e;exact ⟨_,HRS.out⟩)
               have hbt:=butGrown HD.out.but hgr (fun m e=>by cases e;exact hz0)
               have hds:=HD.out.ds.grown hgr (fun m e=>by cases e;exact Nat.le_trans hBW hz0)
               have hrow:=setRow_heap VV gz _ c.toArray _ _ HRS.out
               obtain ⟨H2,hc2,ht2,hk2⟩:=dq_keep HOK.out hho hzs rfl rfl rfl
               simp only at hc2
               rw [HPHE.out,hcc] at hc2
               generalize World.setRow VV gz _=VF at hho hbt hds hrow ht2 hk2 ⊢
               have HK2:=Lib.hid hk2
               have HRW:=Lib.hid hrow
               have HT2:=Lib.hid ht2
               have HBT:=Lib.hid hbt
               have HDS:=Lib.hid hds
               have HC2:=Lib.hid hc2
               clear hho hbt hds hrow ht2 hk2 hgr hz0 hc2 HD HTB HRS hcc
               go_wp2_with fail
               (try simp only [Exit.inBlock,Exit.then])
               refine bodyPost_ret (v:=.agg c.toArray) ?_ rfl ⟨_,_,H2,HPARTS.out,by rw [HC2.out],HT2.out,HDS.out,HBT.out,HK2.out⟩
               exact results_cell_row rfl _ _ gz 33 _ (0,0) _ rfl HRW.out Tryz.underlying33 rfl IC2.out
end
end Dp
namespace By
open Go Go.RowKit
open Tab Po
open Rr (RP may decR headR sumR endR)
open Put (low low_len low_lt low_mod lim)
open Nx (val be be_cons)
open Cd (puts phB detB rlB bsB rowB grB listB itemsB bodyB sealB B8)
open CrcM (crc)
open May (allIn inB tabMay listMay groupMay rowMay)
def fitT (T:Tab):Prop:=∀ d ∈ T.dets,fitD d
structure Len8 (T:Tab):Prop where
 p:T.phases.length=8
 c:T.conflict.length=8
 f:T.flash.length=8
theorem flat_of {α:Type} {f:List Value→List Nat} {g:α→List Value} {h:α→List Nat} (e:∀ a,f (g a)=h a) (l:List α):(l.map g).flatMap f=l.flatMap h:=by
 rw [List.flatMap_map]
 congr 1
 funext a
 exact e a
theorem list_of {α:Type} {f:List Value→List Nat} {g:α→List Value} {h:α→List Nat} (e:∀ a,f (g a)=h a) (l:List α):listE f (l.map g)=listB h l:=by
 unfold listE listB
 rw [List.length_map,flat_of e]
theorem row_enc (l:List Int):rowE (l.map (fun n=>[I n]))=rowB l:=by
 unfold rowE
 rw [list_of (f:=encs stI) (g:=fun n=>[I n]) (h:=low 1) enc_int]
 rfl
theorem grps_enc (gs:List (List Int × List Int)):grpsE (gs.map (fun g=>(g.1.map (fun n=>[I n]),g.2.map (fun n=>[I n]))))=listB grB gs:=by
 unfold grpsE listB
 rw [List.length_map,List.flatMap_map]
 congr 1
 congr 1
 funext g
 unfold grpE grB
 simp only
 rw [row_enc,row_enc]
theorem enc_8 {m:Int} {l:List Int} (h:l.length=8):encs (st8 m 8) (l.map I)=puts 1 l:=by
 obtain ⟨a0,a1,a2,a3,a4,a5,a6,a7,rfl⟩:=eight h
 rfl
theorem may_8 {m:Int} {l:List Int} (h:l.length=8):goods (st8 m 8) (l.map I)=allIn m l:=by
 obtain ⟨a0,a1,a2,a3,a4,a5,a6,a7,rfl⟩:=eight h
 rw [Bool.eq_iff_iff]
 simp [goods,st8,List.range,List.range.loop,allIn,inB,goodS,jS,and_assoc]
theorem enc_raw {T:Tab} (h:Len8 T):encR (rawOf T)=itemsB T:=by
 unfold encR rawOf itemsB
 simp only
 rw [flat_of enc_ph,grps_enc,enc_8 h.c,list_of enc_dt,list_of enc_rl,list_of enc_bs,enc_8 h.f]
 rfl
theorem row_good (l:List Int):rowG (l.map (fun n=>[I n]))=rowMay l:=by
 unfold rowG rowMay allIn
 rw [List.length_map,List.all_map]
 congr 1
 ·by_cases h:l.length≤8
  ·rw [decide_eq_true h,decide_eq_true (by omega)]
  ·rw [decide_eq_false h,decide_eq_false (by omega)]
 ·congr 1
  funext n
  exact may_int n
theorem grp_good (g:List Int × List Int):gG (g.1.map (fun n=>[I n]),g.2.map (fun n=>[I n]))=groupMay g:=by
 unfold gG groupMay
 simp only
 rw [row_good,row_good]
theorem may_t (a b c d e:Int):goods stT [I a,I b,I c,I d,I e]=allIn 9999 [a,b,c,d,e]:=by
 rw [Bool.eq_iff_iff]
 simp [goods,allIn,inB,goodS,jS,and_assoc]
theorem may_k (a b:Int):goods stK [I a,I b]=allIn 2147483647 [a,b]:=by
 rw [Bool.eq_iff_iff]
 simp [goods,allIn,inB,goodS,jS,and_assoc]
theorem list_may {α:Type} {m:Int} {f:α→Bool} {l:List α}:listMay m f l=true ↔ (l.length:Int)≤m∧∀ v ∈ l,f v=true:=by
 unfold listMay
 rw [Bool.and_eq_true,decide_eq_true_eq,List.all_eq_true]
theorem all_of {α:Type} {g:α→List Value} {f:List Value→Bool} {l:List α}:(∀ r ∈ l.map g,f r=true) ↔ ∀ v ∈ l,f (g v)=true:=by
 constructor
 ·intro h v hv;exact h _ (List.mem_map_of_mem hv)
 ·intro h r hr
  obtain ⟨v,hv,rfl⟩:=List.mem_map.1 hr
  exact h v hv
theorem good_raw {T:Tab} (h:Len8 T):GoodR (rawOf T) ↔ tabMay T=true∧fitT T:=by
 unfold tabMay
 simp only [Bool.and_eq_true,list_may]
 constructor
 ·intro g
  have gp:=g.ph;have gg:=g.gs;have gc:=g.cf;have gd:=g.ds;have gr:=g.rs;have gb:=g.bs;have gt:=g.tm;have gf:=g.fl;have gk:=g.tk
  have n1:=g.gn;have n2:=g.dn;have n3:=g.rn;have n4:=g.bn
  simp only [rawOf,List.length_map] at gp gg gc gd gr gb gt gf gk n1 n2 n3 n4
  rw [may_8 h.c] at gc
  rw [may_8 h.f] at gf
  rw [may_t] at gt
  rw [may_k] at gk
  have gd2:=all_of.1 gd
  refine ⟨⟨⟨by rw [h.p];decide,fun v hv=>by have:=all_of.1 gp v hv;rwa [may_ph] at this⟩,⟨n1,fun v hv=>?_⟩,gc,⟨n2,fun v hv=>((may_dt v).1 (gd2 v hv)).1⟩,⟨n3,fun v hv=>by have:=all_of.1 gr v hv;rwa [may_rl] at this⟩,⟨n4,fun v hv=>by have:=all_of.1 gb v hv;rwa [may_bs] at this⟩,gt,gf,gk⟩,fun d hd=>((may_dt d).1 (gd2 d hd)).2⟩
  have:=gg _ (List.mem_map_of_mem hv)
  rwa [grp_good] at this
 ·rintro ⟨⟨⟨_,p⟩,⟨n1,gs⟩,c,⟨n2,d⟩,⟨n3,r⟩,⟨n4,b⟩,t,f,k⟩,fd⟩
  refine ⟨all_of.2 fun v hv=>by rw [may_ph];exact p v hv,?_,?_,?_,?_,all_of.2 fun v hv=>(may_dt v).2 ⟨d v hv,fd v hv⟩,?_,all_of.2 fun v hv=>by rw [may_rl];exact r v hv,?_,all_of.2 fun v hv=>by rw [may_bs];exact b v hv,?_,?_,?_⟩
  ·simp only [rawOf,List.length_map];exact n1
  ·intro g hg
   obtain ⟨v,hv,rfl⟩:=List.mem_map.1 hg
   rw [grp_good];exact gs v hv
  ·simp only [rawOf];rw [may_8 h.c];exact c
  ·simp only [rawOf,List.length_map];exact n2
  ·simp only [rawOf,List.length_map];exact n3
  ·simp only [rawOf,List.length_map];exact n4
  ·simp only [rawOf];rw [may_t];exact t
  ·simp only [rawOf];rw [may_8 h.f];exact f
  ·simp only [rawOf];rw [may_k];exact k
theorem head_bwd {bs:List Nat} (hb:∀ x ∈ bs,x < 256) {s:Nat} (h:headR bs=.ok s):s=3∧3≤bs.length∧bs=[88,66,1]++bs.drop 3:=by
 unfold headR at h
 rw [rp_num (0:Nat) 3 16777215 0 (by decide),show lim 3 7=3 by decide] at h
 by_cases h1:bs.length < 0+3
 ·rw [if_pos h1] at h;cases h
 ·rw [if_neg h1] at h
  by_cases h2:(16777215:Int) < (val bs 0 3:Int)
  ·rw [if_pos h2] at h;cases h
  ·rw [if_neg h2] at h
   simp only at h
   by_cases h3:(val bs 0 3:Int)=5784065
   ·rw [if_pos h3] at h
    have h4:0+3=s:=Except.ok.inj h
    have h5:=val_low hb (s:=0) (k:=3) (by omega)
    rw [h3,List.drop_zero,show low 3 5784065=[88,66,1] by decide +kernel] at h5
    exact ⟨by omega,by omega,h5⟩
   ·rw [if_neg h3] at h;cases h
theorem sum_bwd {bs:List Nat} (hb:∀ x ∈ bs,x < 256) {s s':Nat} (h:sumR bs s=.ok s'):s'=s+2∧s'≤bs.length∧bs.drop s=low 2 ((crc 65535 (bs.take s):Nat):Int)++bs.drop s':=by
 unfold sumR at h
 rw [rp_num s 2 65535 0 (by decide),show lim 2 7=2 by decide] at h
 by_cases h1:bs.length < s+2
 ·rw [if_pos h1] at h;cases h
 ·rw [if_neg h1] at h
  by_cases h2:(65535:Int) < (val bs s 2:Int)
  ·rw [if_pos h2] at h;cases h
  ·rw [if_neg h2] at h
   simp only at h
   by_cases h3:(val bs s 2:Int)=((crc 65535 (bs.take s):Nat):Int)
   ·rw [if_pos h3] at h
    have h4:s+2=s':=Except.ok.inj h
    subst h4
    refine ⟨rfl,by omega,?_⟩
    rw [← h3]
    exact val_low hb (by omega)
   ·rw [if_neg h3] at h;cases h
theorem dec_inv {bs:List Nat} {x:Raw} (h:decR bs=.ok x):bs.length≤2048∧∃ (s1 s2 s3 s4:Nat),headR bs=.ok s1∧parts (RP bs) s1=.ok (x,s2)∧sumR bs s2=.ok s3∧endR bs s3=.ok s4:=by
 unfold decR at h
 by_cases hbig:2048 < bs.length
 ·rw [if_pos hbig] at h;cases h
 ·rw [if_neg hbig] at h
  obtain ⟨s1,h1,h⟩:=Po.then_ok h
  obtain ⟨x2,h2,h⟩:=Po.then_ok h
  obtain ⟨s3,h3,h⟩:=Po.then_ok h
  obtain ⟨s4,h4,h⟩:=Po.then_ok h
  cases h
  exact ⟨by omega,s1,x2.2,s3,s4,h1,h2,h3,h4⟩
theorem dec_bwd {bs:List Nat} (hb:∀ x ∈ bs,x < 256) {x:Raw} (h:decR bs=.ok x):RawOk x∧bs=sealB (bodyB (tabOf x))∧tabMay (tabOf x)=true∧fitT (tabOf x)∧Len8 (tabOf x)∧bs.length≤2048:=by
 obtain ⟨hbig,s1,s2,s3,s4,h1,h2,h3,h4⟩:=dec_inv h
 obtain ⟨rfl,hl3,e3⟩:=head_bwd hb h1
 have hok:=parts_ok (rfew hb) h2
 obtain ⟨hg,hs2,hl2,hd2⟩:=parts_bwd hb hl3 h2
 obtain ⟨rfl,hl4,hd4⟩:=sum_bwd hb h3
 unfold endR at h4
 by_cases he:s2+2 < bs.length
 ·rw [if_pos he] at h4;cases h4
 have hraw:=raw_tab hok
 have hlen:Len8 (tabOf x):=by
  refine ⟨?_,?_,?_⟩
  ·simp only [tabOf,List.length_map];exact hok.pn
  ·simp only [tabOf,List.length_map]
   have:=congrArg List.length hok.cf
   rwa [List.length_map,List.length_replicate] at this
  ·simp only [tabOf,List.length_map]
   have:=congrArg List.length hok.fl
   rwa [List.length_map,List.length_replicate] at this
 have hbody:bodyB (tabOf x)=[88,66,1]++encR x:=by
  have he:encR x=itemsB (tabOf x):=by have:=enc_raw hlen;rwa [hraw] at this
  rw [he];rfl
 have hg2:GoodR (rawOf (tabOf x)):=by rw [hraw];exact hg
 have hmf:=(good_raw hlen).1 hg2
 refine ⟨hok,?_,hmf.1,hmf.2,hlen,by omega⟩
 have hnil:bs.drop (s2+2)=[]:=List.drop_eq_nil_of_le (by omega)
 rw [hnil,List.append_nil] at hd4
 have htake:bs.take s2=bodyB (tabOf x):=by
  have t1:bs.take s2++bs.drop s2=bs:=List.take_append_drop _ _
  rw [hbody]
  have t2:bs=([88,66,1]++encR x)++bs.drop s2:=by
   rw [List.append_assoc,← hd2];exact e3
  conv=>lhs;rw [t2]
  refine List.take_left' ?_
  rw [List.length_append,hs2]
  rfl
 rw [htake] at hd4
 unfold sealB
 rw [← hd4,← htake,List.take_append_drop]
end By
namespace By
open Go Go.RowKit
open Tab Po
open Rr (RP may decR headR sumR endR)
open Put (low low_len low_lt low_mod lim)
open Nx (val be be_cons)
open Cd (bodyB sealB)
open CrcM (crc)
section
variable {P:PP}
theorem run_num_eq {l:List Value} {s:P.σ} {j:Nat} {size most x:Int} (h:l[j]?=some (I x)):Sp.run P l s (.num size most j)=andThen (P.num s size most x) fun q=>.ok (l.set j (I q.1),q.2):=by
 simp only [Sp.run,h]
 cases P.num s size most x <;> rfl
theorem run_num_ne {l:List Value} {s:P.σ} {j:Nat} {size most:Int} (h:∀ x,l[j]? ≠ some (I x)):Sp.run P l s (.num size most j)=.ok (l,s):=by
 simp only [Sp.run]
 first
 | done
 | (split
    ·rename_i x hx;exact absurd hx (h x)
    ·rfl)
theorem run_flt_eq {l:List Value} {s:P.σ} {j:Nat} {lv:Bool} {x:Nat} (h:l[j]?=some (.float .f64 x)):Sp.run P l s (.flt lv j)=andThen (P.flt s lv x) fun q=>.ok (l.set j (.float .f64 q.1),q.2):=by
 simp only [Sp.run,h]
 cases P.flt s lv x <;> rfl
theorem run_flt_ne {l:List Value} {s:P.σ} {j:Nat} {lv:Bool} (h:∀ x,l[j]? ≠ some (.float .f64 x)):Sp.run P l s (.flt lv j)=.ok (l,s):=by
 simp only [Sp.run]
 first
 | done
 | (split
    ·rename_i x hx;exact absurd hx (h x)
    ·rfl)
theorem run_flg_eq {l:List Value} {s:P.σ} {j:Nat} {x:Bool} (h:l[j]?=some (.bool x)):Sp.run P l s (.flg j)=andThen (P.flg s x) fun q=>.ok (l.set j (.bool q.1),q.2):=by
 simp only [Sp.run,h]
 cases P.flg s x <;> rfl
theorem run_flg_ne {l:List Value} {s:P.σ} {j:Nat}  (h:∀ x,l[j]? ≠ some (.bool x)):Sp.run P l s (.flg j)=.ok (l,s):=by
 simp only [Sp.run]
 first
 | done
 | (split
    ·rename_i x hx;exact absurd hx (h x)
    ·rfl)
theorem runs_eq (c:Sp) (st:List Sp) (l:List Value) (s:P.σ):runs P (c :: st) l s=andThen (Sp.run P l s c) fun q=>runs P st q.1 q.2:=by
 rw [runs]
 cases Sp.run P l s c <;> rfl
theorem eachs_eq (st:List Sp) (x:List Value) (xs:List (List Value)) (s:P.σ):eachs P st (x :: xs) s=andThen (runs P st x s) fun q=>andThen (eachs P st xs q.2) fun r=>.ok (q.1 :: r.1,r.2):=by
 rw [eachs]
 cases runs P st x s with
 | error f=>rfl
 | ok q =>
  rw [andThen_ok]
  simp only
  cases eachs P st xs q.2 <;> rfl
theorem listN_eq (most:Int) (st:List Sp) (z:List Value) (s:P.σ):listN P most st z s=andThen (P.num s 1 most 0) fun q=>eachs P st (List.replicate q.1.toNat z) q.2:=by
 unfold listN
 cases P.num s 1 most 0 <;> rfl
theorem grpN_eq (s:P.σ):grpN P s=andThen (rowN P s) fun q=>andThen (rowN P q.2) fun r=>.ok ((q.1,r.1),r.2):=by
 unfold grpN
 cases rowN P s with
 | error f=>rfl
 | ok q =>
  rw [andThen_ok]
  simp only
  cases rowN P q.2 <;> rfl
theorem grpsN_eq (n:Nat) (s:P.σ):grpsN P (n+1) s=andThen (grpsN P n s) fun q=>andThen (grpN P q.2) fun r=>.ok (q.1++[r.1],r.2):=by
 rw [grpsN]
 cases grpsN P n s with
 | error f=>rfl
 | ok q =>
  rw [andThen_ok]
  simp only
  cases grpN P q.2 <;> rfl
theorem listG_eq (most:Int) (s:P.σ):listG P most s=andThen (P.num s 1 most 0) fun q=>grpsN P q.1.toNat q.2:=by
 unfold listG
 cases P.num s 1 most 0 <;> rfl
end
section
variable {P Q:PP} {J:P.σ→Q.σ→Prop} {Bd:P.σ→Prop} {f:Flt}
def Sim (J:P.σ→Q.σ→Prop) (Bd:P.σ→Prop) (f:Flt) {α:Type} (s:P.σ) (t:Q.σ) (r:Except Flt (α × P.σ)) (r':Except Flt (α × Q.σ)):Prop :=
 (J s t→∀ y s',r=.ok (y,s')→(∃ t',r'=.ok (y,t')∧J s' t')∨(r'=.error f∧Bd s'))∧(Bd s→∀ y s',r=.ok (y,s')→Bd s')
theorem Sim.pure {α:Type} (s:P.σ) (t:Q.σ) (y:α):Sim J Bd f s t (.ok (y,s)) (.ok (y,t)) :=
 ⟨fun hj z s' h=>by cases h;exact .inl ⟨t,rfl,hj⟩,fun hb z s' h=>by cases h;exact hb⟩
theorem Sim.bind {α β:Type} {s:P.σ} {t:Q.σ} {r:Except Flt (α × P.σ)} {r':Except Flt (α × Q.σ)} {K:α × P.σ→Except Flt (β × P.σ)} {K':α × Q.σ→Except Flt (β × Q.σ)} (h:Sim J Bd f s t r r') (hK:∀ y s1 t1,Sim J Bd f s1 t1 (K (y,s1)) (K' (y,t1))):Sim J Bd f s t (andThen r K) (andThen r' K'):=by
 refine ⟨fun hj z s' e=>?_,fun hb z s' e=>?_⟩
 ·obtain ⟨⟨y,s1⟩,e1,e2⟩:=Po.then_ok e
  rcases h.1 hj y s1 e1 with ⟨t1,h1,h2⟩ | ⟨h1,h2⟩
  ·rw [h1,andThen_ok]
   exact (hK y s1 t1).1 h2 z s' e2
  ·rw [h1,andThen_error]
   exact .inr ⟨rfl,(hK y s1 t).2 h2 z s' e2⟩
 ·obtain ⟨⟨y,s1⟩,e1,e2⟩:=Po.then_ok e
  exact (hK y s1 t).2 (h.2 hb y s1 e1) z s' e2
def pos:Sp→Bool
 | .num _ most _=>decide (0≤most)
 | _=>true
end
section
variable {bs:List Nat} {k:Nat}
end
end By
namespace By
open Go Go.RowKit
open Tab Po
open Rr (RP may decR headR sumR endR)
open Put (low low_len low_lt low_mod lim)
open Cd (bodyB sealB)
open CrcM (crc par parL)
def Ne0 {α:Type} (r:Except Flt α):Prop:=∀ f,r=.error f→f.1 ≠ 0
theorem Ne0.ok {α:Type} (x:α):Ne0 (.ok x:Except Flt α):=fun f h=>by cases h
theorem Ne0.bind {α β:Type} {r:Except Flt α} {k:α→Except Flt β} (h:Ne0 r) (hk:∀ x,Ne0 (k x)):Ne0 (andThen r k):=fun f e=>by
 cases r with
 | error g=>rw [andThen_error] at e;cases e;exact h f rfl
 | ok x=>exact hk x f e
structure Nz (P:PP):Prop where
 num:∀ s size most x,Ne0 (P.num s size most x)
 flt:∀ s lv x,Ne0 (P.flt s lv x)
 flg:∀ s x,Ne0 (P.flg s x)
section
variable {P:PP}
theorem nz_run (H:Nz P) (l:List Value) (s:P.σ) (c:Sp):Ne0 (Sp.run P l s c):=by
 cases c with
 | num size most j =>
  by_cases hx:∃ x,l[j]?=some (I x)
  ·obtain ⟨x,hx⟩:=hx
   rw [run_num_eq hx]
   exact (H.num s size most x).bind fun _=>Ne0.ok _
  ·rw [run_num_ne (fun x h=>hx ⟨x,h⟩)]
   exact Ne0.ok _
 | flt lv j =>
  by_cases hx:∃ x,l[j]?=some (.float .f64 x)
  ·obtain ⟨x,hx⟩:=hx
   rw [run_flt_eq hx]
   exact (H.flt s lv x).bind fun _=>Ne0.ok _
  ·rw [run_flt_ne (fun x h=>hx ⟨x,h⟩)]
   exact Ne0.ok _
 | flg j =>
  by_cases hx:∃ x,l[j]?=some (.bool x)
  ·obtain ⟨x,hx⟩:=hx
   rw [run_flg_eq hx]
   exact (H.flg s x).bind fun _=>Ne0.ok _
  ·rw [run_flg_ne (fun x h=>hx ⟨x,h⟩)]
   exact Ne0.ok _
theorem nz_runs (H:Nz P):∀ (st:List Sp) (l:List Value) (s:P.σ),Ne0 (runs P st l s)
 | [],l,s=>Ne0.ok _
 | c :: st,l,s=>by
  rw [runs_eq]
  exact (nz_run H l s c).bind fun q=>nz_runs H st q.1 q.2
theorem nz_eachs (H:Nz P) (st:List Sp):∀ (xs:List (List Value)) (s:P.σ),Ne0 (eachs P st xs s)
 | [],s=>Ne0.ok _
 | x :: xs,s=>by
  rw [eachs_eq]
  exact (nz_runs H st x s).bind fun q=>(nz_eachs H st xs q.2).bind fun r=>Ne0.ok _
theorem nz_list (H:Nz P) (most:Int) (st:List Sp) (z:List Value) (s:P.σ):Ne0 (listN P most st z s):=by
 rw [listN_eq]
 exact (H.num s 1 most 0).bind fun q=>nz_eachs H st _ q.2
theorem nz_grp (H:Nz P) (s:P.σ):Ne0 (grpN P s):=by
 rw [grpN_eq]
 exact (nz_list H _ _ _ s).bind fun q=>(nz_list H _ _ _ q.2).bind fun r=>Ne0.ok _
theorem nz_grps (H:Nz P):∀ (n:Nat) (s:P.σ),Ne0 (grpsN P n s)
 | 0,s=>Ne0.ok _
 | n+1,s=>by
  rw [grpsN_eq]
  exact (nz_grps H n s).bind fun q=>(nz_grp H q.2).bind fun r=>Ne0.ok _
theorem nz_listG (H:Nz P) (s:P.σ):Ne0 (listG P 4 s):=by
 rw [listG_eq]
 exact (H.num s 1 4 0).bind fun q=>nz_grps H _ q.2
theorem nz_parts (H:Nz P) (s:P.σ):Ne0 (parts P s) :=
 (nz_eachs H _ _ _).bind fun _=>(nz_listG H _).bind fun _=>(nz_runs H _ _ _).bind fun _=>(nz_list H _ _ _ _).bind fun _=>(nz_list H _ _ _ _).bind fun _=>(nz_list H _ _ _ _).bind fun _=>(nz_runs H _ _ _).bind fun _=>(nz_runs H _ _ _).bind fun _=>(nz_runs H _ _ _).bind fun _=>Ne0.ok _
end
theorem nz_rp (bs:List Nat):Nz (RP bs) where
 num:=fun s size most x f e=>by
  simp only [RP] at e
  split at e
  ·cases e
  ·rename_i h;cases e;exact h
 flt:=fun s lv x f e=>by
  simp only [RP] at e
  split at e
  ·split at e <;> cases e
   simp
  ·rename_i h;cases e;exact h
 flg:=fun s x f e=>by
  simp only [RP] at e
  split at e
  ·cases e
  ·rename_i h;cases e;exact h
theorem dec_code {bs:List Nat} {f:Flt} (h:decR bs=.error f):f.1 ≠ 0:=by
 unfold decR at h
 by_cases hbig:2048 < bs.length
 ·rw [if_pos hbig] at h;cases h;decide
 ·rw [if_neg hbig] at h
  refine Ne0.bind (r:=headR bs) (fun f e=>?_) (fun s1=>Ne0.bind (nz_parts (nz_rp bs) s1) fun x=>Ne0.bind (r:=sumR bs x.2) (fun f e=>?_) fun s3=>Ne0.bind (r:=endR bs s3) (fun f e=>?_) fun _=>Ne0.ok _) f h
  ·unfold headR at e
   split at e
   ·rename_i hn;cases e;exact (nz_rp bs).num _ _ _ _ _ hn
   ·split at e <;> cases e
    simp
  ·unfold sumR at e
   split at e
   ·rename_i hn;cases e;exact (nz_rp bs).num _ _ _ _ _ hn
   ·split at e <;> cases e
    simp
  ·unfold endR at e
   split at e <;> cases e
   simp
end By
namespace Dp
open Go Go.RowKit
open Tab Po
open Nm (St)
open By
open Rr (RP may decR headR sumR endR)
open Put (lim)
open CrcM (crc)
section
variable {P Q:PP} {J:P.σ→Q.σ→Prop} {Dd:Flt→Q.σ→Prop}
def Fol (J:P.σ→Q.σ→Prop) (Dd:Flt→Q.σ→Prop) {α:Type} (s:P.σ) (t:Q.σ) (r:Except Flt (α × P.σ)) (r':Except Flt (α × Q.σ)):Prop :=
 (J s t→(∀ y s',r=.ok (y,s')→∃ t',r'=.ok (y,t')∧J s' t')∧∀ f,r=.error f→∃ y t',r'=.ok (y,t')∧Dd f t')∧(∀ f,Dd f t→∃ y t',r'=.ok (y,t')∧Dd f t')
theorem Fol.pure {α:Type} (s:P.σ) (t:Q.σ) (y:α):Fol J Dd s t (.ok (y,s)) (.ok (y,t)) :=
 ⟨fun hj=>⟨fun z s' h=>by cases h;exact ⟨t,rfl,hj⟩,fun f h=>by cases h⟩,fun f hd=>⟨y,t,rfl,hd⟩⟩
theorem Fol.bind {α β:Type} {s:P.σ} {t:Q.σ} {r:Except Flt (α × P.σ)} {r':Except Flt (α × Q.σ)} {K:α × P.σ→Except Flt (β × P.σ)} {K':α × Q.σ→Except Flt (β × Q.σ)} (h:Fol J Dd s t r r') (hK:∀ y s1 t1,Fol J Dd s1 t1 (K (y,s1)) (K' (y,t1))):Fol J Dd s t (andThen r K) (andThen r' K'):=by
 refine ⟨fun hj=>⟨fun z s' e=>?_,fun f e=>?_⟩,fun f hd=>?_⟩
 ·obtain ⟨⟨y,s1⟩,e1,e2⟩:=Po.then_ok e
  obtain ⟨t1,h1,h2⟩:=(h.1 hj).1 y s1 e1
  rw [h1,andThen_ok]
  exact ((hK y s1 t1).1 h2).1 z s' e2
 ·cases hr:r with
  | error f1 =>
   rw [hr,andThen_error] at e
   cases e
   obtain ⟨y,t',h1,h2⟩:=(h.1 hj).2 f hr
   rw [h1,andThen_ok]
   exact (hK y s t').2 f h2
  | ok q =>
   obtain ⟨y,s1⟩:=q
   rw [hr,andThen_ok] at e
   obtain ⟨t1,h1,h2⟩:=(h.1 hj).1 y s1 hr
   rw [h1,andThen_ok]
   exact ((hK y s1 t1).1 h2).2 f e
 ·obtain ⟨y,t',h1,h2⟩:=h.2 f hd
  rw [h1,andThen_ok]
  exact (hK y s t').2 f h2
structure Folb (P Q:PP) (J:P.σ→Q.σ→Prop) (Dd:Flt→Q.σ→Prop):Prop where
 num:∀ s t size most x,0≤most→Fol J Dd s t (P.num s size most x) (Q.num t size most x)
 flt:∀ s t lv x,Fol J Dd s t (P.flt s lv x) (Q.flt t lv x)
 flg:∀ s t x,Fol J Dd s t (P.flg s x) (Q.flg t x)
theorem fol_run (H:Folb P Q J Dd) (l:List Value) (s:P.σ) (t:Q.σ) (c:Sp) (hp:pos c=true):Fol J Dd s t (Sp.run P l s c) (Sp.run Q l t c):=by
 cases c with
 | num size most j =>
  have hm:0≤most:=by simpa [pos] using hp
  by_cases hx:∃ x,l[j]?=some (I x)
  ·obtain ⟨x,hx⟩:=hx
   rw [run_num_eq hx,run_num_eq hx]
   exact Fol.bind (H.num s t size most x hm) (fun y s1 t1=>Fol.pure s1 t1 _)
  ·rw [run_num_ne (fun x h=>hx ⟨x,h⟩),run_num_ne (fun x h=>hx ⟨x,h⟩)]
   exact Fol.pure s t l
 | flt lv j =>
  by_cases hx:∃ x,l[j]?=some (.float .f64 x)
  ·obtain ⟨x,hx⟩:=hx
   rw [run_flt_eq hx,run_flt_eq hx]
   exact Fol.bind (H.flt s t lv x) (fun y s1 t1=>Fol.pure s1 t1 _)
  ·rw [run_flt_ne (fun x h=>hx ⟨x,h⟩),run_flt_ne (fun x h=>hx ⟨x,h⟩)]
   exact Fol.pure s t l
 | flg j =>
  by_cases hx:∃ x,l[j]?=some (.bool x)
  ·obtain ⟨x,hx⟩:=hx
   rw [run_flg_eq hx,run_flg_eq hx]
   exact Fol.bind (H.flg s t x) (fun y s1 t1=>Fol.pure s1 t1 _)
  ·rw [run_flg_ne (fun x h=>hx ⟨x,h⟩),run_flg_ne (fun x h=>hx ⟨x,h⟩)]
   exact Fol.pure s t l
theorem fol_runs (H:Folb P Q J Dd):∀ (st:List Sp) (l:List Value) (s:P.σ) (t:Q.σ),st.all pos=true→Fol J Dd s t (runs P st l s) (runs Q st l t)
 | [],l,s,t,_=>Fol.pure s t l
 | c :: st,l,s,t,hp=>by
  rw [List.all_cons,Bool.and_eq_true] at hp
  rw [runs_eq,runs_eq]
  exact Fol.bind (K:=fun q=>runs P st q.1 q.2) (K':=fun q=>runs Q st q.1 q.2) (fol_run H l s t c hp.1) (fun y s1 t1=>fol_runs H st y s1 t1 hp.2)
theorem fol_eachs (H:Folb P Q J Dd) (st:List Sp) (hp:st.all pos=true):∀ (xs:List (List Value)) (s:P.σ) (t:Q.σ),Fol J Dd s t (eachs P st xs s) (eachs Q st xs t)
 | [],s,t=>Fol.pure s t []
 | x :: xs,s,t=>by
  rw [eachs_eq,eachs_eq]
  exact Fol.bind (K:=fun q=>andThen (eachs P st xs q.2) fun r=>.ok (q.1 :: r.1,r.2)) (K':=fun q=>andThen (eachs Q st xs q.2) fun r=>.ok (q.1 :: r.1,r.2)) (fol_runs H st x s t hp) (fun y s1 t1=>Fol.bind (K:=fun r=>.ok (y :: r.1,r.2)) (K':=fun r=>.ok (y :: r.1,r.2)) (fol_eachs H st hp xs s1 t1) (fun y2 s2 t2=>Fol.pure s2 t2 (y :: y2)))
theorem fol_list (H:Folb P Q J Dd) (most:Int) (hm:0≤most) (st:List Sp) (hp:st.all pos=true) (z:List Value) (s:P.σ) (t:Q.σ):Fol J Dd s t (listN P most st z s) (listN Q most st z t):=by
 rw [listN_eq,listN_eq]
 exact Fol.bind (K:=fun q=>eachs P st (List.replicate q.1.toNat z) q.2) (K':=fun q=>eachs Q st (List.replicate q.1.toNat z) q.2) (H.num s t 1 most 0 hm) (fun y s1 t1=>fol_eachs H st hp _ s1 t1)
theorem fol_grp (H:Folb P Q J Dd) (s:P.σ) (t:Q.σ):Fol J Dd s t (grpN P s) (grpN Q t):=by
 have hr:∀ s t,Fol J Dd s t (rowN P s) (rowN Q t):=fun s t=>fol_list H 8 (by decide) _ (by decide) _ s t
 rw [grpN_eq,grpN_eq]
 exact Fol.bind (K:=fun q=>andThen (rowN P q.2) fun r=>.ok ((q.1,r.1),r.2)) (K':=fun q=>andThen (rowN Q q.2) fun r=>.ok ((q.1,r.1),r.2)) (hr s t) (fun y s1 t1=>Fol.bind (K:=fun r=>.ok ((y,r.1),r.2)) (K':=fun r=>.ok ((y,r.1),r.2)) (hr s1 t1) (fun y2 s2 t2=>Fol.pure s2 t2 (y,y2)))
theorem fol_grps (H:Folb P Q J Dd):∀ (n:Nat) (s:P.σ) (t:Q.σ),Fol J Dd s t (grpsN P n s) (grpsN Q n t)
 | 0,s,t=>Fol.pure s t []
 | n+1,s,t=>by
  rw [grpsN_eq,grpsN_eq]
  exact Fol.bind (K:=fun q=>andThen (grpN P q.2) fun r=>.ok (q.1++[r.1],r.2)) (K':=fun q=>andThen (grpN Q q.2) fun r=>.ok (q.1++[r.1],r.2)) (fol_grps H n s t) (fun y s1 t1=>Fol.bind (K:=fun r=>.ok (y++[r.1],r.2)) (K':=fun r=>.ok (y++[r.1],r.2)) (fol_grp H s1 t1) (fun y2 s2 t2=>Fol.pure s2 t2 (y++[y2])))
theorem fol_listG (H:Folb P Q J Dd) (s:P.σ) (t:Q.σ):Fol J Dd s t (listG P 4 s) (listG Q 4 t):=by
 rw [listG_eq,listG_eq]
 exact Fol.bind (K:=fun q=>grpsN P q.1.toNat q.2) (K':=fun q=>grpsN Q q.1.toNat q.2) (H.num s t 1 4 0 (by decide)) (fun y s1 t1=>fol_grps H _ s1 t1)
theorem fol_parts (H:Folb P Q J Dd) (s:P.σ) (t:Q.σ):Fol J Dd s t (parts P s) (parts Q t) :=
 Fol.bind (fol_eachs H stPh (by decide) _ s t) fun x1 s1 t1=>Fol.bind (fol_listG H s1 t1) fun x2 s2 t2=>Fol.bind (fol_runs H (st8 255 8) _ s2 t2 (by decide)) fun x3 s3 t3=>Fol.bind (fol_list H 16 (by decide) stD (by decide) _ s3 t3) fun x4 s4 t4 =>
 Fol.bind (fol_list H 4 (by decide) stR (by decide) _ s4 t4) fun x5 s5 t5=>Fol.bind (fol_list H 4 (by decide) stB (by decide) _ s5 t5) fun x6 s6 t6=>Fol.bind (fol_runs H stT _ s6 t6 (by decide)) fun x7 s7 t7=>Fol.bind (fol_runs H (st8 2 8) _ s7 t7 (by decide)) fun x8 s8 t8 =>
 Fol.bind (fol_runs H stK _ s8 t8 (by decide)) fun x9 s9 t9=>Fol.pure s9 t9 _
end
def live (s:Nat) (t:St):Prop:=t=⟨s,0,0⟩
def dead (f:Flt) (t:St):Prop:=t.code=f.1∧t.fat=f.2∧f.1 ≠ 0
theorem num_deads {bs:List Nat} {t:St} (h:t.code ≠ 0) (size:Nat) (low high:Int):Nm.num bs t size low high=(0,t):=by
 unfold Nm.num
 rw [if_pos h]
theorem flt_deads {bs:List Nat} {t:St} (h:t.code ≠ 0):Nm.flt bs t=(0,t):=by
 unfold Nm.flt
 rw [if_pos h]
theorem fol_num (bs:List Nat) (s:Nat) (t:St) (size most x:Int):Fol (P:=RP bs) (Q:=DP bs) live dead s t ((RP bs).num s size most x) ((DP bs).num t size most x):=by
 refine ⟨fun hj=>⟨fun y s' e=>?_,fun f e=>?_⟩,fun f hd=>?_⟩
 ·have hj2:t=⟨s,0,0⟩:=hj
  subst hj2
  simp only [RP] at e
  split at e
  ·rename_i hc
   cases e
   refine ⟨(Nm.num bs ⟨s,0,0⟩ (lim size 7) 0 most).2,rfl,?_⟩
   have hg:(Nm.num bs ⟨s,0,0⟩ (lim size 7) 0 most).2.fat=0:=by
    revert hc
    unfold Nm.num
    (repeat' split) <;> simp
   show _=_
   generalize (Nm.num bs ⟨s,0,0⟩ (lim size 7) 0 most).2=r at hc hg
   obtain ⟨k,c,ft⟩:=r
   simp only at hc hg
   subst hc hg
   rfl
  ·cases e
 ·have hj2:t=⟨s,0,0⟩:=hj
  subst hj2
  simp only [RP] at e
  split at e
  ·cases e
  ·rename_i hc
   cases e
   exact ⟨_,_,rfl,rfl,rfl,hc⟩
 ·have hd2:t.code=f.1∧t.fat=f.2∧f.1 ≠ 0:=hd
  refine ⟨0,t,?_,hd⟩
  show Except.ok (Nm.num bs t (lim size 7) 0 most)=_
  rw [num_deads (by rw [hd2.1];exact hd2.2.2)]
  rfl
theorem fol_flt (bs:List Nat) (s:Nat) (t:St) (lv:Bool) (x:Nat):Fol (P:=RP bs) (Q:=DP bs) live dead s t ((RP bs).flt s lv x) ((DP bs).flt t lv x):=by
 refine ⟨fun hj=>⟨fun y s' e=>?_,fun f e=>?_⟩,fun f hd=>?_⟩
 ·have hj2:t=⟨s,0,0⟩:=hj
  subst hj2
  simp only [RP] at e
  split at e
  ·rename_i hc
   split at e
   ·rename_i hm
    cases e
    refine ⟨(Nm.flt bs ⟨s,0,0⟩).2,?_,?_⟩
    ·show Except.ok (some_ bs ⟨s,0,0⟩ lv)=_
     unfold some_
     rw [if_pos hc,if_pos hm] <;> rfl
    ·have hg:(Nm.flt bs ⟨s,0,0⟩).2.fat=0:=by
      revert hc
      unfold Nm.flt
      (repeat' split) <;> simp
     show _=_
     generalize (Nm.flt bs ⟨s,0,0⟩).2=r at hc hg
     obtain ⟨k,c,ft⟩:=r
     simp only at hc hg
     subst hc hg
     rfl
   ·cases e
  ·cases e
 ·have hj2:t=⟨s,0,0⟩:=hj
  subst hj2
  simp only [RP] at e
  split at e
  ·rename_i hc
   split at e
   ·cases e
   ·rename_i hm
    cases e
    refine ⟨0,⟨s,4,(s:Int)⟩,?_,rfl,rfl,by simp⟩
    show Except.ok (some_ bs ⟨s,0,0⟩ lv)=_
    unfold some_
    rw [if_pos hc,if_neg hm] <;> rfl
  ·rename_i hc
   cases e
   refine ⟨0,(Nm.flt bs ⟨s,0,0⟩).2,?_,rfl,rfl,hc⟩
   show Except.ok (some_ bs ⟨s,0,0⟩ lv)=_
   unfold some_
   rw [if_neg hc] <;> rfl
 ·have hd2:t.code=f.1∧t.fat=f.2∧f.1 ≠ 0:=hd
  have hne:t.code ≠ 0:=by rw [hd2.1];exact hd2.2.2
  refine ⟨0,t,?_,hd⟩
  show Except.ok (some_ bs t lv)=_
  unfold some_
  rw [flt_deads hne,if_neg hne] <;> rfl
theorem fol_flg (bs:List Nat) (s:Nat) (t:St) (x:Bool):Fol (P:=RP bs) (Q:=DP bs) live dead s t ((RP bs).flg s x) ((DP bs).flg t x):=by
 refine ⟨fun hj=>⟨fun y s' e=>?_,fun f e=>?_⟩,fun f hd=>?_⟩
 ·have hj2:t=⟨s,0,0⟩:=hj
  subst hj2
  simp only [RP] at e
  split at e
  ·rename_i hc
   cases e
   refine ⟨(Nm.num bs ⟨s,0,0⟩ 1 0 1).2,rfl,?_⟩
   have hg:(Nm.num bs ⟨s,0,0⟩ 1 0 1).2.fat=0:=by
    revert hc
    unfold Nm.num
    (repeat' split) <;> simp
   show _=_
   generalize (Nm.num bs ⟨s,0,0⟩ 1 0 1).2=r at hc hg
   obtain ⟨k,c,ft⟩:=r
   simp only at hc hg
   subst hc hg
   rfl
  ·cases e
 ·have hj2:t=⟨s,0,0⟩:=hj
  subst hj2
  simp only [RP] at e
  split at e
  ·cases e
  ·rename_i hc
   cases e
   exact ⟨_,_,rfl,rfl,rfl,hc⟩
 ·have hd2:t.code=f.1∧t.fat=f.2∧f.1 ≠ 0:=hd
  refine ⟨decide ((0:Int)=1),t,?_,hd⟩
  show Except.ok (decide ((Nm.num bs t 1 0 1).1=1),(Nm.num bs t 1 0 1).2)=_
  rw [num_deads (by rw [hd2.1];exact hd2.2.2)]
  rfl
theorem dp_follows (bs:List Nat):Folb (RP bs) (DP bs) live dead where
 num:=fun s t size most x _=>fol_num bs s t size most x
 flt:=fun s t lv x=>fol_flt bs s t lv x
 flg:=fun s t x=>fol_flg bs s t x
def tailD (bs:List Nat) (x:Raw) (s:St):Except Flt Raw :=
 if (Nm.num bs s 2 0 65535).2.code ≠ 0 then .error ((Nm.num bs s 2 0 65535).2.code,(Nm.num bs s 2 0 65535).2.fat)
 else if (Nm.num bs s 2 0 65535).1 ≠ ((crc 65535 (bs.take s.k):Nat):Int) then .error (5,(s.k:Int))
 else if (Nm.num bs s 2 0 65535).2.k < bs.length then .error (6,((Nm.num bs s 2 0 65535).2.k:Int)) else .ok x
theorem tail_is {bs:List Nat} {x:Raw} {t:St} (h3:headR bs=.ok 3) (hbig:¬ 2048 < bs.length) (hp:parts (DP bs) (⟨3,0,0⟩:St)=.ok (x,t)):tailD bs x t=decR bs:=by
 have hf:=fol_parts (dp_follows bs) (3:Nat) (⟨3,0,0⟩:St)
 obtain ⟨f1,f2⟩:=hf.1 rfl
 unfold decR
 rw [if_neg hbig,h3,andThen_ok]
 cases hr:parts (RP bs) (3:Nat) with
 | error f =>
  obtain ⟨y,t',e1,e2⟩:=f2 f hr
  have e3:(Except.ok (x,t):Except Flt (Raw × St))=.ok (y,t'):=hp.symm.trans e1
  cases e3
  have e4:t.code=f.1∧t.fat=f.2∧f.1 ≠ 0:=e2
  have hne:t.code ≠ 0:=by rw [e4.1];exact e4.2.2
  rw [andThen_error]
  unfold tailD
  rw [num_deads hne,if_pos hne,e4.1,e4.2.1]
 | ok q =>
  obtain ⟨y,s2⟩:=q
  obtain ⟨t',e1,e2⟩:=f1 y s2 hr
  have e3:(Except.ok (x,t):Except Flt (Raw × St))=.ok (y,t'):=hp.symm.trans e1
  cases e3
  have e4:t=⟨s2,0,0⟩:=e2
  subst e4
  rw [andThen_ok]
  simp only
  unfold tailD sumR
  simp only [RP]
  rw [show lim 2 7=2 by decide]
  generalize hnm:Nm.num bs ⟨s2,0,0⟩ 2 0 65535=r
  obtain ⟨v,k,c,ft⟩:=r
  simp only
  by_cases hc:c=0
  ·subst hc
   rw [if_neg (by simp),if_pos rfl]
   simp only
   by_cases hv:v=((crc 65535 (bs.take s2):Nat):Int)
   ·rw [if_neg (by simp [hv]),if_pos hv,andThen_ok]
    unfold endR
    by_cases hk:k < bs.length
    ·rw [if_pos hk,if_pos hk];rfl
    ·rw [if_neg hk,if_neg hk];rfl
   ·rw [if_pos hv,if_neg hv]
    rfl
  ·rw [if_pos hc,if_neg hc]
   rfl
end Dp
end Go.Proofs.YtjdeemmaaiecnaaGreat
