/- 25 texts in one file, in build order. -/
import Derived.Test.YtonpphjleapafaaGreatPart01
import Derived.Test.YtonpphjleapafaaGreatRows
import Derived.Test.YtonpphjleapafaaGreatPart03
import Derived.Test.YtonpphjleapafaaGreatPart02
import Derived.Laws.ResultCell
import Derived.Laws.Rows
import Derived.Deep.Cut
import Derived.Great.BuildSlice
import Derived.WalkKit
import Derived.Deep.CutRange
import Derived.StillTailTactics
import Derived.ProofKit
import Derived.IntWalk
import Derived.Lib.Hide
import Derived.LoopTactic
import Derived.Below
set_option linter.unusedVariables false
set_option linter.unusedSimpArgs false
set_option linter.unusedSectionVars false
set_option maxHeartbeats 8000000
set_option maxRecDepth 100000
open List renaming setIfInBounds_toArray→k0, set_cons_succ→k4, set_cons_zero→k5, getElem?_eq_getElem→k9, mem_cons→kh, getD_eq_getElem?_getD→kk, length_append→kl, size_toArray→kr, take_of_length_le→ks, not_mem_nil→kt, take_succ_cons→ku, drop_succ_cons→kv, length_take→kB, take_zero→kC, drop_zero→kE, length_cons→kH, getElem?_eq_some_iff→kI, length_map→kM, mem_append→kN, map_append→kO, getElem?_map→kP, append_assoc→kQ, drop_of_length_le→kT, getElem?_eq_none→kU, mem_of_getElem?→kV, mem_range→kX, flatMap_append→kZ, getElem?_range→K3, range→K4, mem_map→K6, foldl_append→K8, take_length→K9, getElem_mem→Ka, all_eq_true→Kb, range_succ→Kd
open Go.Act renaming put→k6
open Go.RowKit.Below renaming heap_setCell→k7, refl→kc, trans→kw
open Go.AllReadyH renaming cons→k8, nil→kd
open Array renaming getElem?_eq_some_iff→ka
open Nat renaming le_refl→kb, zero_add→ko, le_trans→kx, zero_le→kW, and_le_left→Ke
open Go.IntKind renaming wrap_i64→ke, i64→ki, u64→Ki
open Go.World renaming alloc→kf, setCell→km, block_lt_of_cell?→kp, drew→kK
open Go.Addr renaming add_mid→kj, add→kS
open Go.Value renaming oneCell'→kn, pointer→kJ, ownBlock→Kf
open Int renaming eq_ofNat_of_zero_le→kq, toNat_natCast→kG
open Bool renaming and_eq_true→ky
open Or renaming inl→kz
open Option.some renaming inj→kA
open BitVec renaming ofInt→kD, ofInt_natCast→kY, toNat_ofNat→K5, toNat_and→Kc
open Go.Lib renaming hid→kF
open Go.Exit renaming inBlock→kL
open Go.Instr renaming index→kR
open Go.Sem renaming run→K7
open Go.Code renaming wp→Kh
open Go renaming wpAnyH_ready→Kj, heap_setCell_same→Kk, cell_of_row→Kl, frozen_of_row→Km, heap_alloc_new→Kn, wpAnyH_done→Ko, setRow_heap→Kp, wp_region_held→Kq, wpList_store_row→Ks, wpList_append_own→Kt, wpStill_nil→Ku, bodyPost_ret→Kv, results_cell_row→Kw, info_parts→Kx, heap_setCell_other→Ky, wp_append_own→Kz, heap_alloc2_old→KA, heap_alloc2_new→KB, zero_of_info→KC
namespace Go.Proofs.YtonpphjleapafaaGreat
namespace Spots
open Zip
open Go.ChangeShapes Go.WideShapes Go.ChangeAt Go.RowKit
open Tab Clone PlaceM Gath
open May (j3 chain jG j0f jT jH j06 jK St)
theorem jfd:(Tryz.prog.info? 123).map (fun i=>(i.zero,i.size,i.bytes))=some (some (.agg #[I 0,I 0,I 0,I 0]),4,32):=by kernel_rfl
abbrev j1W (B:Nat) (w:World) (v:Value) (l:List Spt):Prop:=jd Spt.cells 4 B w 123 v l
def Typed (w:World) (s:Sl):Prop:=∀ x,s.a=some x->∃ cs:Array Value,w.heap[x.block]?=some (.cells cs 123 (0,0))
theorem Typed.below {w w':World} {s:Sl} (h:Typed w s) (hb:Below w.heap.size w w'):Typed w' s:=fun x hx=>by
 obtain ⟨cs,hc⟩:=h x hx;exact ⟨cs,(hb.block _ (ka.1 hc).1).trans hc⟩
theorem j9H {B:Nat} {w:World} {v:Value} {l:List Spt} (h:j1W B w v l):∃ s:Sl,v=s.val l.length/\ju 4 Spt.cells w s l/\Typed w s:=by
 obtain ⟨s,hs,hr⟩:=jd.row h (enc:=Spt.cells) (fun _=>rfl);refine ⟨s,hs,hr,fun x hx=>?_⟩;rcases h.2 with ⟨e,_⟩ | ⟨g,cap,cur,e,h1,h2,_⟩
 ·rw [hs] at e;simp [Sl.val,hx] at e
 rw [hs] at e;simp [Sl.val,hx] at e;obtain ⟨rfl,_⟩:=e;exact ⟨cur,h2⟩
theorem j3P (T:Tab) (h:Hd) (w:World) (ht:jy w h T) (sm:Few T) :
  Calls Tryz.prog 99 #[.agg (T.cells h).toArray] w fun e w'=>∃ s:Sl,e=.returned (s.val (JT T).length)/\ju 4 Spt.cells w' s (JT T)/\Typed w' s/\Below w.heap.size w w':=by
 have C:=hJJ (j9 ht);generalize (T.cells h).toArray=cs at C |-;obtain ⟨gs,hgd,hgr⟩:=ht.groups;have Hgr:=hJJ hgr;have Hgd:=hJJ hgd;have SM:=hJJ sm;have hsz:=C.out.size;have S0:=hJJ (St.box (cs:=cs) ht);have HZ:Hid ((w.alloc (.cells cs 33)).heap.size=w.heap.size+1):=hJJ (by simp);have Hgl:=hJJ (show T.groups.length=gs.length by rw [<-hgd,kM]);have Kg:=hgr.1.len;unfold maxLen at Kg;obtain ⟨i0,hi,hz0,hz1,hz2⟩:=Kx jfd;have LEN:Hid (∀ n,(Jx 0 (T.groups.take n)).length<=2000000):=hJJ (fun n=>j5H (by have:=sm.groups;rw [kB];omega) (fun x hx=>sm.rows x (List.mem_of_mem_take hx)));clear ht hgr hgd sm;go_enter Tryz.func99,Tryz.ntmps99
 go_upto_region 1 with fail
 generalize w.alloc (.cells cs 33)=w1 at S0 HZ |-;clear hsz;have q104:=S0.out.cell C.out.g;rw [Hgl.out] at q104;have Q104:=hJJ q104;clear q104;have LIFT:Hid (∀ W,Below w1.heap.size w1 W->∀ (z:Addr) (c:Value),w1.cell? z=some c->W.cell? z=some c):=hJJ (fun W hb z c hc=>(hb.cell (kp w1 _ hc)).trans hc);go_wp2_with fail
 go_loopw [3,4] (fun v g wr=>∃ q:Nat,q<=gs.length/\g=.int .i64 q/\j1W w1.heap.size wr v (Jx 0 (T.groups.take q))/\Below w1.heap.size w1 wr) (fun _ g _=>gs.length - (intOf g).toNat)
 case atStart=>exact ⟨0,by omega,rfl,jd.nil,kc _ _⟩
 case round =>
  obtain ⟨q,hq,rfl,hown,hbel⟩:=hrel;have HO:=hJJ hown;have HB:=hJJ hbel;clear hown hbel;have p104:=LIFT.out _ HB.out _ _ Q104.out;by_cases hlt:q < gs.length
  ·have hv:=k9 hlt;generalize gs[q]=u at hv;obtain ⟨x,hx,hc⟩:=(Hgr.out.1.below S0.out.bel).at hv;have hok:=(Hgr.out.2 u (kV hv)).below S0.out.bel;have HD:Hid (T.groups[q]?=some u.data):=hJJ (by rw [<-Hgd.out,kP,hv];rfl);have hsm:=SM.out.rows u.data (by rw [<-Hgd.out];exact K6.2 ⟨u,kV hv,rfl⟩);obtain ⟨l0,l1,⟨a0,cap0⟩,⟨a1,cap1⟩⟩:=u;have hl0:l0.length<=1000:=hsm.1;have hl1:l1.length<=1000:=hsm.2;have K0:=hok.1.len;have K1:=hok.2.len;unfold maxLen at K0 K1;have H0:=hJJ hok.1;have H1:=hJJ hok.2;have QQ:Hid (w1.cell? ⟨w.heap.size,104,none⟩=some (.slice (some x) gs.length h.g.cap)):=by have:=Q104.out;simp only [Sl.val,hx] at this;exact this
   have c0:=hc 0 _ rfl;have c1:=hc 1 _ rfl;rw [add_zero] at c0;rw [add_one] at c1;have HC0:=hJJ c0;have HC1:=hJJ c1;clear hv hc hok hx c0 c1 hsm;go_wp2_with fail
   clear p104;go_loopw [3,5] (fun v k wk=>∃ r:Nat,r<=2/\k=.int .i64 r/\j1W w1.heap.size wk v (Jx 0 (T.groups.take q)++((if 0 < r then Ja q 0 0 l0 else [])++(if 1 < r then Ja q 1 0 l1 else [])))/\Below w1.heap.size w1 wk) (fun _ k _=>2 - (intOf k).toNat)
   case atStart=>exact ⟨0,by omega,rfl,by simpa using HO.out,HB.out⟩
   case round =>
    obtain ⟨r,hr,rfl,hown,hbel⟩:=hrel;have HOr:=hJJ hown;have HBr:=hJJ hbel;clear hown hbel;have hr2:r=0\/r=1\/r=2:=by omega
    rcases hr2 with rfl | rfl | rfl
    ·rw [show ((0:Nat):Int)=(0:Int) from rfl];have HO1:Hid (j1W w1.heap.size wr u3 (Jx 0 (T.groups.take q))):=hJJ (by simpa using HOr.out);clear HOr;have LN:Hid ((Jx 0 (T.groups.take q)).length<=2002000):=hJJ (by have:=LEN.out q;have h2:=j0U q 0 0 l0;(try rw [kl]);omega);go_wp2_with fail
     go_loopw [3,6] (fun v i wj=>∃ j:Nat,j<=l0.length/\i=.int .i64 j/\j1W w1.heap.size wj v (Jx 0 (T.groups.take q)++Ja q 0 0 (l0.take j))/\Below w1.heap.size w1 wj) (fun _ i _=>l0.length - (intOf i).toNat)
     case atStart=>exact ⟨0,by omega,rfl,by simpa [Ja] using HO1.out,HBr.out⟩
     case round =>
      obtain ⟨j,hj,rfl,hown,hbel⟩:=hrel;have HOj:=hJJ hown;have HBj:=hJJ hbel;clear hown hbel;have p104:=LIFT.out _ HBj.out _ _ QQ.out;by_cases hjl:j < l0.length
      ·have hv:=k9 hjl;generalize l0[j]=p at hv;obtain ⟨y,hy,hp⟩:=jc.at (H0.out.below HBj.out) hv;obtain rfl:a0=some y:=hy;have p0:wr.cell? _=some (.slice (some y) l0.length cap0):=LIFT.out _ HBj.out _ _ HC0.out;have HV:=hJJ hv;clear hv;have hsz:=HBj.out.size;by_cases hp8:0<=p/\p < 8
       ·obtain ⟨hp0,hp1⟩:=hp8;have HS:Hid (Jx 0 (T.groups.take q)++Ja q 0 0 (l0.take (j+1))=(Jx 0 (T.groups.take q)++Ja q 0 0 (l0.take j))++[⟨q,0,j,p⟩]):=hJJ (by rw [j8T HV.out hp0 hp1,<-kQ]);have hlen:(Jx 0 (T.groups.take q)++Ja q 0 0 (l0.take j)).length<=2003000:=by have:=LN.out;have h2:=j0U q 0 0 (l0.take j);rw [kl];rw [kB] at h2;omega
        have hown:=HOj.out;generalize Jx 0 (T.groups.take q)++Ja q 0 0 (l0.take j)=P1 at hown hlen HS;have hown2:wr.ownsRow w1.heap.size 123 4 u3 P1.length (P1.flatMap Spt.cells):=hown;clear hown HOj;go_wp2_with (at_builtin;refine Kt _ rfl _ _ 162 rfl w1.heap.size 123 i0 (.agg #[I 0,I 0,I 0,I 0]) 4 32 Tryz.underlying162 hi hz0 hz1 hz2 rfl (by decide) _ _ _ rfl (hown2.alloc _) ⟨wr.heap.size,0,none⟩ 1 1 (Spt.cells ⟨q,0,j,p⟩) rfl rfl ?c1 ?c2 ?c3 ?c4 ?c5 ?_)
        case c1 =>
         intro m u hm
         match m,hm with
         | 0,hm | 1,hm | 2,hm | 3,hm=>simp [Spt.cells] at hm;subst hm;simp [kS]
        case c2=>intro u hu;simp [Spt.cells] at hu;rcases hu with rfl | rfl | rfl | rfl <;> rfl
        case c3=>unfold maxLen;omega
        case c4=>omega
        case c5=>simp;omega
        intro v' w2 hown' hgrow hnil';have HB2:Hid (Below w1.heap.size w1 w2):=hJJ ((HBj.out.alloc hsz _).grown hgrow (by simp;omega) fun m hm=>(show j1W w1.heap.size wr u3 P1 from hown2).blk m hm);have HO2:Hid (j1W w1.heap.size w2 v' (P1++[⟨q,0,j,p⟩])):=hJJ (jd.snoc hown');clear hown' hgrow hown2 hnil';go_wp2;go_roundw;case rel=>exact ⟨j+1,by omega,by go_num,by rw [HS.out];exact HO2.out,HB2.out⟩
        case measure=>simp [intOf];omega
       have HS:Hid (Jx 0 (T.groups.take q)++Ja q 0 0 (l0.take (j+1))=Jx 0 (T.groups.take q)++Ja q 0 0 (l0.take j)):=hJJ (by rw [j7s HV.out hp8]);by_cases hp0:0<=p
       ·have hp1:¬ p < 8:=fun h=>hp8 ⟨hp0,h⟩;clear hp8;go_wp2;go_roundw;case rel=>exact ⟨j+1,by omega,by go_num,by rw [HS.out];exact HOj.out,HBj.out⟩
        case measure=>simp [intOf];omega
       clear hp8;go_wp2;go_roundw;case rel=>exact ⟨j+1,by omega,by go_num,by rw [HS.out];exact HOj.out,HBj.out⟩
       case measure=>simp [intOf];omega
      have p0:wr.cell? _=some (.slice a0 l0.length cap0):=LIFT.out _ HBj.out _ _ HC0.out;have HE:Hid (Ja q 0 0 (l0.take j)=Ja q 0 0 l0):=hJJ (by rw [ks (by omega)]);go_wp2;go_roundw;case rel=>exact ⟨0+1,by omega,by go_num,by have:=HOj.out;rw [HE.out] at this;simpa using this,HBj.out⟩
      case measure=>simp [intOf]
    ·rw [show ((1:Nat):Int)=(1:Int) from rfl];have HO1:Hid (j1W w1.heap.size wr u3 (Jx 0 (T.groups.take q)++Ja q 0 0 l0)):=hJJ (by simpa using HOr.out);clear HOr;have LN:Hid ((Jx 0 (T.groups.take q)++Ja q 0 0 l0).length<=2002000):=hJJ (by have:=LEN.out q;have h2:=j0U q 0 0 l0;(try rw [kl]);omega);go_wp2_with fail
     go_loopw [3,6] (fun v i wj=>∃ j:Nat,j<=l1.length/\i=.int .i64 j/\j1W w1.heap.size wj v (Jx 0 (T.groups.take q)++Ja q 0 0 l0++Ja q 1 0 (l1.take j))/\Below w1.heap.size w1 wj) (fun _ i _=>l1.length - (intOf i).toNat)
     case atStart=>exact ⟨0,by omega,rfl,by simpa [Ja] using HO1.out,HBr.out⟩
     case round =>
      obtain ⟨j,hj,rfl,hown,hbel⟩:=hrel;have HOj:=hJJ hown;have HBj:=hJJ hbel;clear hown hbel;have p104:=LIFT.out _ HBj.out _ _ QQ.out;by_cases hjl:j < l1.length
      ·have hv:=k9 hjl;generalize l1[j]=p at hv;obtain ⟨y,hy,hp⟩:=jc.at (H1.out.below HBj.out) hv;obtain rfl:a1=some y:=hy;have p0:wr.cell? _=some (.slice (some y) l1.length cap1):=LIFT.out _ HBj.out _ _ HC1.out;have HV:=hJJ hv;clear hv;have hsz:=HBj.out.size;by_cases hp8:0<=p/\p < 8
       ·obtain ⟨hp0,hp1⟩:=hp8;have HS:Hid (Jx 0 (T.groups.take q)++Ja q 0 0 l0++Ja q 1 0 (l1.take (j+1))=(Jx 0 (T.groups.take q)++Ja q 0 0 l0++Ja q 1 0 (l1.take j))++[⟨q,1,j,p⟩]):=hJJ (by rw [j8T HV.out hp0 hp1,<-kQ]);have hlen:(Jx 0 (T.groups.take q)++Ja q 0 0 l0++Ja q 1 0 (l1.take j)).length<=2003000:=by have:=LN.out;have h2:=j0U q 1 0 (l1.take j);rw [kl];rw [kB] at h2;omega
        have hown:=HOj.out;generalize Jx 0 (T.groups.take q)++Ja q 0 0 l0++Ja q 1 0 (l1.take j)=P1 at hown hlen HS;have hown2:wr.ownsRow w1.heap.size 123 4 u3 P1.length (P1.flatMap Spt.cells):=hown;clear hown HOj;go_wp2_with (at_builtin;refine Kt _ rfl _ _ 162 rfl w1.heap.size 123 i0 (.agg #[I 0,I 0,I 0,I 0]) 4 32 Tryz.underlying162 hi hz0 hz1 hz2 rfl (by decide) _ _ _ rfl (hown2.alloc _) ⟨wr.heap.size,0,none⟩ 1 1 (Spt.cells ⟨q,1,j,p⟩) rfl rfl ?c1 ?c2 ?c3 ?c4 ?c5 ?_)
        case c1 =>
         intro m u hm
         match m,hm with
         | 0,hm | 1,hm | 2,hm | 3,hm=>simp [Spt.cells] at hm;subst hm;simp [kS]
        case c2=>intro u hu;simp [Spt.cells] at hu;rcases hu with rfl | rfl | rfl | rfl <;> rfl
        case c3=>unfold maxLen;omega
        case c4=>omega
        case c5=>simp;omega
        intro v' w2 hown' hgrow hnil';have HB2:Hid (Below w1.heap.size w1 w2):=hJJ ((HBj.out.alloc hsz _).grown hgrow (by simp;omega) fun m hm=>(show j1W w1.heap.size wr u3 P1 from hown2).blk m hm);have HO2:Hid (j1W w1.heap.size w2 v' (P1++[⟨q,1,j,p⟩])):=hJJ (jd.snoc hown');clear hown' hgrow hown2 hnil';go_wp2;go_roundw;case rel=>exact ⟨j+1,by omega,by go_num,by rw [HS.out];exact HO2.out,HB2.out⟩
        case measure=>simp [intOf];omega
       have HS:Hid (Jx 0 (T.groups.take q)++Ja q 0 0 l0++Ja q 1 0 (l1.take (j+1))=Jx 0 (T.groups.take q)++Ja q 0 0 l0++Ja q 1 0 (l1.take j)):=hJJ (by rw [j7s HV.out hp8]);by_cases hp0:0<=p
       ·have hp1:¬ p < 8:=fun h=>hp8 ⟨hp0,h⟩;clear hp8;go_wp2;go_roundw;case rel=>exact ⟨j+1,by omega,by go_num,by rw [HS.out];exact HOj.out,HBj.out⟩
        case measure=>simp [intOf];omega
       clear hp8;go_wp2;go_roundw;case rel=>exact ⟨j+1,by omega,by go_num,by rw [HS.out];exact HOj.out,HBj.out⟩
       case measure=>simp [intOf];omega
      have p0:wr.cell? _=some (.slice a1 l1.length cap1):=LIFT.out _ HBj.out _ _ HC1.out;have HE:Hid (Ja q 1 0 (l1.take j)=Ja q 1 0 l1):=hJJ (by rw [ks (by omega)]);go_wp2;go_roundw;case rel=>exact ⟨1+1,by omega,by go_num,by have:=HOj.out;rw [HE.out] at this;simpa using this,HBj.out⟩
      case measure=>simp [intOf]
    have HN:Hid (Jx 0 (T.groups.take (q+1))=Jx 0 (T.groups.take q)++(Ja q 0 0 l0++Ja q 1 0 l1)):=hJJ (j0w HD.out);go_wp2;go_roundw;case rel=>exact ⟨q+1,by omega,by go_num,by rw [HN.out];simpa using HOr.out,HBr.out⟩
    case measure=>simp [intOf];omega
  have HE:Hid (Jx 0 (T.groups.take q)=JT T):=hJJ (by rw [ks (by rw [Hgl.out];omega)];rfl);obtain ⟨s,hs,hrow,hty⟩:=j9H HO.out;rw [HE.out] at hs hrow;have HR:=hJJ hrow;have HT:=hJJ hty;have HF:Hid (Below w.heap.size w wr):=hJJ (S0.out.bel.trans (HB.out.mono S0.out.bel.size));clear hrow hty HE;subst hs;go_wp2;go_ret;exact ⟨s,rfl,HR.out,HT.out,HF.out⟩
theorem j9I (T:Tab) (h:Hd) (w:World) (ht:jy w h T) (sm:Few T) :
  Calls Tryz.prog 99 #[.agg (T.cells h).toArray] w fun e w'=>∃ s:Sl,e=.returned (s.val (JT T).length)/\ju 4 Spt.cells w' s (JT T)/\Below w.heap.size w w':=by
 refine (j3P T h w ht sm).mono ?_;rintro e w' ⟨s,h1,h2,_,h3⟩;exact ⟨s,h1,h2,h3⟩
end Spots
namespace Where
open Zip
open Go.ChangeShapes Go.WideShapes Go.ChangeAt Go.RowKit
open Tab Clone PlaceM
open May (j3 chain jG j0f jT jH j06 jK St)
open Same (below_setRow)
theorem j1X:(Tryz.prog.info? 123).map (·.size)=some 4:=by kernel_rfl
theorem jfe:(Tryz.prog.info? 123).map (fun i=>(i.zero,i.size))=some (some (.agg #[I 0,I 0,I 0,I 0]),4):=by kernel_rfl
theorem j1G {P:Program} {fn:Func} {p u:Tmp} {ty:TypeId} (h:fn.results=#[.cell p ty,.tmp u]) (tmps:Array Value) (w:World) (g:Nat) (t:TypeId) (cs:Array Value) (fr:Nat × Nat) (d:TypeDesc)
  (hp:tmps.getD p undef=.pointer (some ⟨g,0,none⟩)) (hg:w.heap[g]?=some (.cells cs t fr))
  (hu:P.underlying ty=some d) (hd:(match d with | .struct _ | .array _ _=>true | _=>false)=true) (hi:(P.info? ty).map (·.size)=some cs.size) :
  (results fn tmps).run P w=.ok (.tuple #[.agg cs,tmps.getD u undef]) w:=by
 rw [results_cell_tmp h,hp];simp [asAddr,run_loadVar_row w g t ty cs fr d hg hu hd hi]
def jbc:Option Spt->List Value
 | some x=>x.cells
 | none=>[I 0,I 0,I 0,I 0]
theorem j9J {p:Int} {l:List Spt} {j:Nat} {x:Spt} (h:∀ y ∈ l.take j,y.p ≠ p) (hx:l[j]?=some x) (hp:x.p=p):find p l=some x:=by
 have hj:j < l.length:=(kI.1 hx).1
 have e:l=l.take j++x :: l.drop (j+1):=by
  have h2:l.drop j=x :: l.drop (j+1):=by
   rw [List.drop_eq_getElem_cons hj];congr 1;exact (kI.1 hx).2
  rw [<-h2,List.take_append_drop]
 have h1:=j5I h;unfold find at h1 |-;rw [e,List.find?_append,h1];simp [hp]
theorem j5J (T:Tab) (h:Hd) (p:Int) (w:World) (ht:jy w h T) (sm:Few T) :
  Calls Tryz.prog 69 #[.agg (T.cells h).toArray,.int .i64 p] w fun e w'=>e=.returned (.tuple #[.agg (jbc (JM T p)).toArray,.bool (JM T p).isSome])/\Below w.heap.size w w':=by
 have hsz:=(j9 ht).size;have IA:Hid ((Tryz.prog.info? 33).map (·.size)=some (T.cells h).length):=hJJ (by rw [kr] at hsz;rw [hsz];exact jK);have SPC:Hid (∀ W,Below w.heap.size w W->Calls Tryz.prog 99 #[.agg (T.cells h).toArray] W fun e w'=>∃ s:Sl,e=.returned (s.val (JT T).length)/\ju 4 Spt.cells w' s (JT T)/\Below W.heap.size W w'):=hJJ (fun W hb=>Spots.j9I T h W (ht.below hb) sm);have A0:Hid (Below w.heap.size w ((w.alloc (.cells (T.cells h).toArray 33)).alloc (.cells #[I 0,I 0,I 0,I 0] 123))):=hJJ (((kc _ _).alloc (kb _) _).alloc (by simp) _);have A1:Hid (jl ((w.alloc (.cells (T.cells h).toArray 33)).alloc (.cells #[I 0,I 0,I 0,I 0] 123)) ⟨w.heap.size,0,none⟩ (T.cells h)):=hJJ (Row.j1 (KA w _ _));have A2:Hid (((w.alloc (.cells (T.cells h).toArray 33)).alloc (.cells #[I 0,I 0,I 0,I 0] 123)).heap[w.heap.size+1]?=some (.cells #[I 0,I 0,I 0,I 0] 123 (0,0))):=hJJ (KB w _ _);have hz:=(KC jfe).1;have W0:Hid (JM T p=find p (JT T)):=hJJ rfl;generalize JM T p=o at W0 |-;clear ht sm;generalize T.cells h=c at *;go_enter Tryz.func69,Tryz.ntmps69
 go_upto_region 1 with fail
 generalize ((w.alloc (.cells c.toArray 33)).alloc (.cells #[I 0,I 0,I 0,I 0] 123))=u at A0 A1 A2 |-;clear hsz hz;go_wp2_with (refine lgZ 33 ⟨w.heap.size,0,none⟩ c rfl A1.out Tryz.underlying33 IA.out ?_)
 refine (SPC.out _ A0.out).mono ?_;rintro e u1 ⟨⟨sa,scap⟩,rfl,hrow,hb⟩;rw [show (Sl.val ⟨sa,scap⟩ (JT T).length)=.slice sa (JT T).length scap from rfl];have B0:Hid (Below w.heap.size w u1):=hJJ (A0.out.trans (hb.mono A0.out.size));have B2:Hid (u1.heap[w.heap.size+1]?=some (.cells #[I 0,I 0,I 0,I 0] 123 (0,0))):=hJJ ((hb.block _ (ka.1 A2.out).1).trans A2.out);have HR:=hJJ hrow;have K:=hrow.len;unfold maxLen at K;clear hrow hb A0 A1 A2 SPC IA;generalize JT T=S at HR K W0 |-;go_wp2_with fail
 go_loopw [7] (fun i wr=>∃ j:Nat,j<=S.length/\i=.int .i64 j/\(∀ x ∈ S.take j,x.p ≠ p)/\wr=u1) (fun i _=>S.length - (intOf i).toNat)
 case atStart=>exact ⟨0,by omega,rfl,(fun x hx=>by simp at hx),rfl⟩
 case round =>
  obtain ⟨j,hj,rfl,hall,rfl⟩:=hrel;have Hall:=hJJ hall;clear hall;by_cases hlt:j < S.length
  ·have hv:=k9 hlt;generalize S[j]=x at hv;obtain ⟨y,hy,hc⟩:=HR.out.at hv;obtain rfl:sa=some y:=hy;have HV:=hJJ hv;have HC:=hJJ hc;have c3:=hc 3 _ rfl;have c3':wr.cell? ⟨(y.add (j*4)).block,(y.add (j*4)).off+3,none⟩=some (I x.p):=by simpa [kS] using c3
   clear hv hc c3;by_cases hp:x.p=p
   ·have HF:Hid (o=some x):=hJJ (by rw [W0.out];exact j9J Hall.out HV.out hp);have hb:(x.p == p)=true:=by simpa using hp
    have HG:=hJJ (below_setRow B0.out (g:=w.heap.size+1) (by omega) x.cells.toArray);have HK:=hJJ (Kp wr (w.heap.size+1) _ x.cells.toArray _ _ B2.out);clear hp;go_wp2_with (first | (refine Row.j7 123 _ rfl (by first | rfl | go_simp) (y.add (j*4)) rfl x.cells _ HC.out Tryz.underlying123 rfl j1X ?_) | (refine Ks rfl 123 _ _ rfl (w.heap.size+1) x.cells.toArray rfl rfl 123 _ B2.out j1X rfl (Spt.one _) ?_))
    generalize wr.setRow (w.heap.size+1) x.cells.toArray=w5 at HG HK |-;go_wp2_with fail
    (try simp only [kL,Exit.then])
    refine Kv (v:=.tuple #[.agg x.cells.toArray,.bool true]) ?_ rfl ⟨?_,HG.out⟩
    ·exact j1G (fn:=Tryz.f69) (p:=4) (u:=5) (ty:=123) rfl _ _ (w.heap.size+1) 123 _ (0,0) _ rfl HK.out Tryz.underlying123 rfl j1X
    rw [HF.out];rfl
   have HN:Hid (∀ y ∈ S.take (j+1),y.p ≠ p):=hJJ (by
    intro y hy;rw [take_succ HV.out] at hy;rcases kN.1 hy with hy | hy
    ·exact Hall.out y hy
    obtain rfl:y=x:=by simpa using hy
    exact hp)
   have hb:(x.p == p)=false:=by simpa using hp
   clear hp;go_wp2;go_roundw;case rel=>exact ⟨j+1,by omega,by go_num,HN.out,trivial⟩
   case measure=>simp [intOf];omega
  have HF:Hid (o=none):=hJJ (by
   rw [W0.out];refine j5I ?_;have:=Hall.out
   rwa [ks (by omega)] at this)
  have HG:=hJJ (below_setRow B0.out (g:=w.heap.size+1) (by omega) #[I 0,I 0,I 0,I 0]);have HK:=hJJ (Kp wr (w.heap.size+1) _ #[I 0,I 0,I 0,I 0] _ _ B2.out);go_wp2_with (first | (refine Ks rfl 123 _ _ rfl (w.heap.size+1) #[I 0,I 0,I 0,I 0] rfl rfl 123 _ B2.out j1X rfl (by simp [kn]) ?_))
  generalize wr.setRow (w.heap.size+1) #[I 0,I 0,I 0,I 0]=w5 at HG HK |-;go_wp2_with fail
  (try simp only [kL,Exit.then])
  refine Kv (v:=.tuple #[.agg #[I 0,I 0,I 0,I 0],.bool false]) ?_ rfl ⟨?_,HG.out⟩
  ·exact j1G (fn:=Tryz.f69) (p:=4) (u:=5) (ty:=123) rfl _ _ (w.heap.size+1) 123 _ (0,0) _ rfl HK.out Tryz.underlying123 rfl j1X
  rw [HF.out];rfl
theorem jdz {w:World} {b:Nat} {g k i p:Int} {t:TypeId} (h:w.heap[b]?=some (.cells #[I g,I k,I i,I p] t (0,0))):w.cell? ⟨b,0,none⟩=some (I g)/\w.cell? ⟨b,1,none⟩=some (I k):=⟨by rw [Kl _ _ _ _ _ _ h];rfl,by rw [Kl _ _ _ _ _ _ h];rfl⟩
theorem j1u (c:List Value) (p q g1 k1 i1 p1 g2 k2 i2 p2:Int) (ok1 ok2:Bool) (w:World) (hc:c.length=131) (hone:c.toArray.all (·.oneCell')=true)
  (V1:Hid (∀ W,Below w.heap.size w W->Calls Tryz.prog 69 #[.agg c.toArray,.int .i64 p] W fun e w'=>e=.returned (.tuple #[.agg #[I g1,I k1,I i1,I p1],.bool ok1])/\Below W.heap.size W w'))
  (V2:Hid (∀ W,Below w.heap.size w W->Calls Tryz.prog 69 #[.agg c.toArray,.int .i64 q] W fun e w'=>e=.returned (.tuple #[.agg #[I g2,I k2,I i2,I p2],.bool ok2])/\Below W.heap.size W w')) :
  Calls Tryz.prog 35 #[.agg c.toArray,.int .i64 p,.int .i64 q] w fun e w'=>e=.returned (.bool (ok1 && ok2 && g1 == g2 && k1 != k2))/\Below w.heap.size w w':=by
 have hsz:c.toArray.size=131:=by simpa using hc
 have IA:Hid ((Tryz.prog.info? 33).map (·.size)=some c.length):=hJJ (by rw [hc];exact jK);have A0:Hid (Below w.heap.size w (w.alloc (.cells c.toArray 33))):=hJJ ((kc _ _).alloc (kb _) _);have A1:Hid (jl (w.alloc (.cells c.toArray 33)) ⟨w.heap.size,0,none⟩ c):=hJJ (Row.j6D w _ _);generalize hr:(ok1 && ok2 && g1 == g2 && k1 != k2)=r;have HR:=hJJ hr;clear hr hc hone;go_enter Tryz.func35,Tryz.ntmps35
 go_upto_region 1 with fail
 generalize w.alloc (.cells c.toArray 33)=u at A0 A1 |-;clear hsz;go_wp2_with (refine lgZ 33 ⟨w.heap.size,0,none⟩ c rfl A1.out Tryz.underlying33 IA.out ?_)
 refine (V1.out _ A0.out).mono ?_;rintro e u1 ⟨rfl,hb⟩;have B0:Hid (Below w.heap.size w u1):=hJJ (A0.out.trans (hb.mono A0.out.size));have B1:=hJJ (A1.out.below hb);clear hb A0 A1 V1;go_upto_region 2 with (refine Row.jh rfl 123 _ _ rfl u1 #[I 0,I 0,I 0,I 0] #[I g1,I k1,I i1,I p1] rfl rfl rfl j1X rfl (by simp [kn]) ?_)
 have hb2:Below u1.heap.size u1 (u1.alloc (.cells #[I g1,I k1,I i1,I p1] 123)):=(kc _ _).alloc (kb _) _;have hg1:=Kn u1 (.cells #[I g1,I k1,I i1,I p1] 123);generalize u1.alloc (.cells #[I g1,I k1,I i1,I p1] 123)=u2 at hb2 hg1 |-;generalize u1.heap.size=b1 at hg1 |-;have A0:Hid (Below w.heap.size w u2):=hJJ (B0.out.trans (hb2.mono B0.out.size));have A1:=hJJ (B1.out.below hb2);have G1:=hJJ hg1;clear hb2 hg1 B0 B1;go_wp2_with (refine lgZ 33 ⟨w.heap.size,0,none⟩ c rfl A1.out Tryz.underlying33 IA.out ?_)
 refine (V2.out _ A0.out).mono ?_;rintro e u3 ⟨rfl,hb⟩;have B0:Hid (Below w.heap.size w u3):=hJJ (A0.out.trans (hb.mono A0.out.size));have G2:=hJJ ((hb.block _ (ka.1 G1.out).1).trans G1.out);clear hb A0 A1 V2 G1;go_upto_region 3 with (refine Row.jh rfl 123 _ _ rfl u3 #[I 0,I 0,I 0,I 0] #[I g2,I k2,I i2,I p2] rfl rfl rfl j1X rfl (by simp [kn]) ?_)
 have hb2:Below u3.heap.size u3 (u3.alloc (.cells #[I g2,I k2,I i2,I p2] 123)):=(kc _ _).alloc (kb _) _;have hg2:=Kn u3 (.cells #[I g2,I k2,I i2,I p2] 123);have hg1:=(hb2.block _ (ka.1 G2.out).1).trans G2.out;generalize u3.alloc (.cells #[I g2,I k2,I i2,I p2] 123)=u4 at hb2 hg1 hg2 |-;generalize u3.heap.size=b2 at hg2 |-;have HF:Hid (Below w.heap.size w u4):=hJJ (B0.out.trans (hb2.mono B0.out.size));obtain ⟨q0,q1⟩:=jdz hg1;obtain ⟨r0,r1⟩:=jdz hg2;clear hb2 hg1 hg2 B0 G2 IA;cases ok1
 ·go_wp2;go_ret;exact ⟨j3 (by rw [<-HR.out];simp),HF.out⟩
 cases ok2
 ·go_wp2;go_ret;exact ⟨j3 (by rw [<-HR.out];simp),HF.out⟩
 by_cases hg:g1=g2
 ·have e1:(g1 == g2)=true:=by simpa using hg
  have E1:=hJJ e1;clear hg;go_wp2;go_ret;exact ⟨j3 (by rw [<-HR.out,E1.out];simp),HF.out⟩
 have e1:(g1 == g2)=false:=by simpa using hg
 have E1:=hJJ e1;clear hg;go_wp2;go_ret;exact ⟨j3 (by rw [<-HR.out,E1.out];simp),HF.out⟩
theorem j4Y (T:Tab) (h:Hd) (p q:Int) (w:World) (ht:jy w h T) (sm:Few T) :
  Calls Tryz.prog 35 #[.agg (T.cells h).toArray,.int .i64 p,.int .i64 q] w fun e w'=>e=.returned (.bool (beside T p q))/\Below w.heap.size w w':=by
 have hsz:=(j9 ht).size;rw [kr] at hsz;have hone:=(j9 ht).one;have V:∀ r W,Below w.heap.size w W->Calls Tryz.prog 69 #[.agg (T.cells h).toArray,.int .i64 r] W fun e w'=>e=.returned (.tuple #[.agg (jbc (JM T r)).toArray,.bool (JM T r).isSome])/\Below W.heap.size W w':=fun r W hb=>j5J T h r W (ht.below hb) sm;have V1:=V p;have V2:=V q
 have hB:beside T p q=match JM T p,JM T q with
  | some a,some b=>a.g == b.g && a.k != b.k
  | _,_=>false:=rfl
 rw [hB];generalize JM T p=o1 at V1 |-;generalize JM T q=o2 at V2 |-
 have e0:∀ a b:Nat,((a:Int) == (b:Int))=(a == b):=fun a b=>by
  by_cases h:a=b
  ·subst h;simp
  rw [beq_eq_false_iff_ne.2 h,beq_eq_false_iff_ne.2 (by omega)]
 have e1:∀ a b:Nat,((a:Int) != (b:Int))=(a != b):=fun a b=>by unfold bne;rw [e0]
 cases o1 with
 | none =>
  cases o2 with
  | none=>exact j1u _ p q 0 0 0 0 0 0 0 0 false false w hsz hone (hJJ V1) (hJJ V2)
  | some b=>exact j1u _ p q 0 0 0 0 b.g b.k b.i b.p false true w hsz hone (hJJ V1) (hJJ V2)
 | some a =>
  cases o2 with
  | none=>exact j1u _ p q a.g a.k a.i a.p 0 0 0 0 true false w hsz hone (hJJ V1) (hJJ V2)
  | some b =>
   have:=j1u _ p q a.g a.k a.i a.p b.g b.k b.i b.p true true w hsz hone (hJJ V1) (hJJ V2);rw [e0,e1] at this;simpa using this
end Where
namespace GenW
open Zip
open Go.ChangeShapes Go.WideShapes Go.ChangeAt Go.RowKit
open Tab Clone RefS Where
open PlaceM (JM beside)
open May (jK)
def j8 (T:Tab) (p q:Int):Int:=if beside T p q then ((SetM.j08 (SetM.of [p]:Nat) q:Nat):Int) else ((SetM.of [p]:Nat):Int)
theorem row_one (w:World) (p:Int) (t:TypeId) (b:Nat) (hb:w.heap.size=b):RefS.Row (w.alloc (.cells #[.int .i64 p] t)) (some ⟨b,0,none⟩) [p]:=by
 subst hb;refine ⟨by simp [maxLen],.inr ⟨_,rfl,fun i hi=>?_⟩⟩;obtain rfl:i=0:=by simpa using hi
 rw [RefS.add_zero,Kl _ _ _ _ _ _ (Kn w _)];rfl
theorem jbd (T:Tab) (h:Hd) (p q:Int) (w:World) (ht:jy w h T) (sm:PlaceM.Few T) :
  Calls Tryz.prog 73 #[.agg (T.cells h).toArray,.int .i64 p,.int .i64 q] w fun e w'=>e=.returned (.int .i64 (j8 T p q))/\Below w.heap.size w w':=by
 have hsz:=(j9 ht).size;have IA:Hid ((Tryz.prog.info? 33).map (·.size)=some (T.cells h).length):=hJJ (by rw [kr] at hsz;rw [hsz];exact jK);have A0:Hid (Below w.heap.size w (w.alloc (.cells (T.cells h).toArray 33))):=hJJ ((kc _ _).alloc (kb _) _);have A1:Hid (jl (w.alloc (.cells (T.cells h).toArray 33)) ⟨w.heap.size,0,none⟩ (T.cells h)):=hJJ (Row.j6D w _ _);have BC:Hid (∀ W,Below w.heap.size w W->Calls Tryz.prog 35 #[.agg (T.cells h).toArray,.int .i64 p,.int .i64 q] W fun e w'=>e=.returned (.bool (beside T p q))/\Below W.heap.size W w'):=hJJ (fun W hb=>j4Y T h p q W (ht.below hb) sm);have RS:Hid (j8 T p q=if beside T p q then ((SetM.j08 (SetM.of [p]:Nat) q:Nat):Int) else ((SetM.of [p]:Nat):Int)):=hJJ rfl;generalize j8 T p q=r at RS |-;generalize beside T p q=b at RS BC;clear ht sm;generalize T.cells h=c at *;go_enter Tryz.func73,Tryz.ntmps73
 go_upto_region 1 with fail
 generalize w.alloc (.cells c.toArray 33)=u at A0 A1 |-;clear hsz;go_wp2_with fail
 have hb1:Below u.heap.size u (u.alloc (.cells #[.int .i64 p] 3)):=(kc _ _).alloc (kb _) _;have hr:=row_one u p 3 _ rfl;have B0:Hid (Below w.heap.size w (u.alloc (.cells #[.int .i64 p] 3))):=hJJ (A0.out.trans (hb1.mono A0.out.size));have B1:=hJJ (A1.out.below hb1);have HR:=hJJ hr;clear hb1 hr A0 A1;generalize u.alloc (.cells #[.int .i64 p] 3)=u1 at B0 B1 HR |-;refine (j6k _ _ [p] _ HR.out).mono ?_;rintro e w' ⟨rfl,rfl⟩;generalize hs:((SetM.of [p]:Nat):Int)=s0 at RS |-;have HS:=hJJ hs;clear hs HR;go_wp2_with (refine lgZ 33 ⟨w.heap.size,0,none⟩ c rfl B1.out Tryz.underlying33 IA.out ?_)
 refine (BC.out _ B0.out).mono ?_;rintro e u2 ⟨rfl,hb⟩;have A0:Hid (Below w.heap.size w u2):=hJJ (B0.out.trans (hb.mono B0.out.size));clear hb B0 B1 BC;cases b
 ·have HF:Hid (s0=r):=hJJ (by rw [RS.out];simp);go_wp2;go_ret;exact ⟨jn HF.out,A0.out⟩
 go_wp2_with fail
 refine (j3t s0 q _).mono ?_;rintro e u3 ⟨rfl,hb⟩;have HF:Hid (((SetM.j08 s0 q:Nat):Int)=r):=hJJ (by rw [RS.out];simp);have E:=hJJ (A0.out.trans (hb.mono A0.out.size));clear hb;generalize ((SetM.j08 s0 q:Nat):Int)=r2 at HF |-;go_wp2;go_ret;exact ⟨jn HF.out,E.out⟩
end GenW
namespace CodeAt
open Go
def j3Q (id:Nat):Code->Option Code
 | .region i ops d=>if i=id then some (.region i ops d) else none
 | .seq a b=>(j3Q id a).or (j3Q id b)
 | .cond _ a b=>(j3Q id a).or (j3Q id b)
 | .block _ b=>j3Q id b
 | .loop b=>j3Q id b
 | .scope b=>j3Q id b
 | _=>none
def rg (id:Nat) (f:Func):Code:=((f.body.bind (j3Q id)).getD .skip)
end CodeAt
namespace Same
open Go.ChangeShapes Go.WideShapes Go.ChangeAt Go.RowKit
open Tab
open May (j3 chain jL jG j0f jT jH j06 jK jg St)
theorem jbe:(Tryz.prog.info? 26).map (·.size)=some 104:=by kernel_rfl
theorem j8U:(Tryz.prog.info? 28).map (·.size)=some 8:=by kernel_rfl
theorem jex {T U:Tab} (h1:T.phases=U.phases) (h2:T.groups=U.groups) (h3:T.conflict=U.conflict) (h4:T.dets=U.dets) (h5:T.rails=U.rails) (h6:T.buses=U.buses) (h7:T.flash=U.flash) (h8:single T=single U):T=U:=by
 obtain ⟨a0,a1,a2,a3,a4,a5,a6,a7,a8,a9,a10,a11,a12,a13⟩:=T;obtain ⟨b0,b1,b2,b3,b4,b5,b6,b7,b8,b9,b10,b11,b12,b13⟩:=U;simp only [single,List.cons.injEq,and_true] at h8;simp_all
theorem j2l {w:World} {b:Nat} {C:Array Value} {t:TypeId} {fr:Nat × Nat} (hb:w.heap[b]?=some (.cells C t fr)) (o n:Nat) (cs:List Value) (h:(C.toList.drop o).take n=cs):jl w ⟨b,o,none⟩ cs:=fun j v hv=>by
 rw [kj];exact j1c hb o n cs h j v hv
end Same
namespace Same
open Zip
open Go.ChangeShapes Go.WideShapes Go.ChangeAt Go.RowKit
open Tab
open May (j3 chain jL jG j0f jT jH j06 jK jg St)
theorem j3v (a b:Option Addr) (ca cb:Nat) (l m:List Int) (w:World) (h:jc w ⟨a,ca⟩ l) (h':jc w ⟨b,cb⟩ m) :
  Calls Tryz.prog 28 #[.slice a l.length ca,.slice b m.length cb] w fun e w'=>e=.returned (.bool (decide (l=m)))/\Below w.heap.size w w':=by
 have h1:=h.len;have h2:=h'.len;unfold maxLen at h1 h2;have Hr:=hJJ h;have Hr':=hJJ h';clear h h';by_cases hlen:l.length=m.length
 ·have HL:=hJJ hlen;have hd:((l.length:Int) != (m.length:Int))=false:=by rw [bne_eq_false_iff_eq];omega
  go_enter Tryz.func28,Tryz.ntmps28
  go_wp2;go_loopw [5] (fun i wr=>∃ k:Nat,k<=l.length/\i=.int .i64 k/\l.take k=m.take k/\Below w.heap.size w wr) (fun i _=>l.length - (intOf i).toNat)
  case atStart=>exact ⟨0,by omega,rfl,rfl,kc _ _⟩
  case round =>
   obtain ⟨k,hk,rfl,hall,hbel⟩:=hrel;have Hall:=hJJ hall;have Hb:=hJJ hbel;clear hall hbel;by_cases hlt:k < l.length
   ·have hv:=k9 hlt;have hu:=k9 (show k < m.length by omega);generalize l[k]=v at hv;generalize m[k]'(show k < m.length by omega)=u at hu;obtain ⟨x,hx,hc⟩:=jc.at (Hr.out.below Hb.out) hv;obtain rfl:a=some x:=hx;obtain ⟨y,hy,hc'⟩:=jc.at (Hr'.out.below Hb.out) hu;obtain rfl:b=some y:=hy;have HV:=hJJ hv;have HU:=hJJ hu;have hkm:k < m.length:=by omega
    have hq:∀ p:Ph.S (Row.Old wr),p.world.cell? (x.add k)=some (I v):=fun p=>(p.is.cell (kp wr _ hc)).trans hc;have hq':∀ p:Ph.S (Row.Old wr),p.world.cell? (y.add k)=some (I u):=fun p=>(p.is.cell (kp wr _ hc')).trans hc';have hne:Nonempty (Ph.S (Row.Old wr)):=⟨⟨0,wr,kc _ _⟩⟩;clear hv hu hc hc';go_wp2_with fail
    refine Ph.j2K (Row.Old wr) [] (by kernel_rfl) (by kernel_rfl) (Row.Old.drew _) ?_
    repeat
     (refine Ph.j26 rfl (fun K hK=>?_)
      go_simp
      refine hK _ ?_;clear hK K)
    refine Ph.jad ?_;intro w2 hb2;have B2:=hJJ (kw Hb.out (Below.mono hb2 Hb.out.size));clear hb2 hne hq hq';by_cases hvu:v=u
    ·have HE:=hJJ hvu;have hb:(v != u)=false:=by simpa using hvu
     clear hvu;go_wp2;go_roundw;case rel=>exact ⟨k+1,by omega,by go_num,j4j HV.out HU.out Hall.out HE.out,B2.out⟩
     case measure=>simp [intOf];omega
    have HE:=hJJ (show ¬ l=m from j35 HV.out HU.out hvu);have hb:(v != u)=true:=by simpa using hvu
    clear hvu;go_wp2;go_ret;exact ⟨j3 (decide_eq_false HE.out).symm,B2.out⟩
   have HE:=hJJ (show l=m from j6m Hall.out HL.out hlt);go_wp2;go_ret;exact ⟨j3 (decide_eq_true HE.out).symm,Hb.out⟩
 have HL:=hJJ (show ¬ l=m from fun e=>hlen (by rw [e]));have hd:((l.length:Int) != (m.length:Int))=true:=by rw [bne_iff_ne];omega
 go_enter Tryz.func28,Tryz.ntmps28
 go_wp2;go_ret;exact ⟨j3 (decide_eq_false HL.out).symm,kc _ _⟩
theorem j9K (a b:Option Addr) (ca cb:Nat) (l m:List Int) (n n':Nat) (hn:l.length=n) (hn':m.length=n') (w:World) (h:jc w ⟨a,ca⟩ l) (h':jc w ⟨b,cb⟩ m) :
  Calls Tryz.prog 28 #[.slice a n ca,.slice b n' cb] w fun e w'=>e=.returned (.bool (decide (l=m)))/\Below w.heap.size w w':=by
 subst hn hn';exact j3v a b ca cb l m w h h'
end Same
namespace Same
open Zip
open Go.ChangeShapes Go.WideShapes Go.ChangeAt Go.RowKit
open Tab Owned CodeAt
open May (j3 chain jL jG j0f jT jH j06 jK jg St)
theorem j1v {B:Nat} {v:World} {L:List Blk} (h:Owned.Own B v L) (hB:B<=v.heap.size) (cs:List Value) (t:TypeId):Owned.Own B (v.alloc (.cells cs.toArray t)) (⟨v.heap.size,cs,t⟩ :: L) :=
 h.add ((kc _ _).alloc (kb _) _) (Kn v _) (kb _) hB
theorem jI {P:Program} {o:Oper} {a:Act} {w:World} {K:Act->World->Prop} {Q:Exit->Act->World->Prop} (ty:TypeId) (x y:Operand) (ho:o.op=.store ty x y) (g:Nat) (cells:Array Value) (hx:a.eval x=.pointer (some ⟨g,0,none⟩)) (hy:a.eval y=.agg cells)
  (t:TypeId) (old:Array Value) (hg:w.heap[g]?=some (.cells old t (0,0))) (hi:(P.info? ty).map (·.size)=some cells.size) (hs:old.size=cells.size) (h1:cells.all (·.oneCell')=true) (hd:o.dst=none) (h:K a (w.setRow g cells)):o.wp P a w K Q:=by
 have hr:=Row.j1L (P:=P) w g 0 t ty old cells hg hi (by omega) h1
 have e:(old.toList.take 0++cells.toList++old.toList.drop (0+cells.size)).toArray=cells:=by
  rw [kT (by simp;omega)];simp
 rw [e] at hr;unfold Oper.wp execOp;simp only [ho,hx,hy,Sem.run_bind,hr,Result.andThen_ok,Sem.run_pure];show K (a.put o.dst undef) _;rw [hd];exact h
theorem jbf {Q:Exit->Act->World->Prop} (hP:∀ c (a a':Act) w,a.defers=a'.defers->Q (.panic c) a w->Q (.panic c) a' w) (w wr:World) (q n n' c c':Nat) (x y:Addr) (v0 u0:Det) (hlt:q < n) (hlu:q < n') (K1:n<=c/\c<=2 ^ 63 - 1) (K2:n'<=c'/\c'<=2 ^ 63 - 1)
  (qq113:Hid (wr.cell? ⟨w.heap.size,113,none⟩=some (.slice (some x) n c))) (rr113:Hid (wr.cell? ⟨w.heap.size+1,113,none⟩=some (.slice (some y) n' c')))
  (HC:Hid (jl wr (x.add (q*7)) v0.cells)) (HC':Hid (jl wr (y.add (q*7)) u0.cells)) (f0 f1 f4 f5 f7 f8 f9 f10 f11 f12 f13 f14 f15 f16 f17 f18 f19 f20 f21 f22 f23 f24 f25 f26 f27 f28 f29 f30 f31 f32 f33 f34 f35 f36 f37 f38 f39 f40 f41 f42 f43 f44 f45 f46 f47 f48 f49 f50 f51 f52 f53 f54 f55 f56 f57 f58 f59 f60 f61 f62 f63 f64 f65 f66 f67 f68 f69 f70 f71 f72 f73 f74 f75 f76 f77 f78 f79 f80 f81 f82 f83 f84 f85 f86 f87 f88 f89 f90 f91 f92 f93 f94 f95 f96 f97 f98 f99 f100 f101 f102 f103 f104 f105 f106 f107 f108 f109 f110 f111 f112 f113 f114 f115 f116 f117 f118 f119 f120 f121 f122 f123 f124 f125 f126 f127 f128 f129 f130 f131 f132 f133 f134 f135 f136 f137 f138 f139 f140 f141 f142 f143 f144 f145 f146 f147 f148 f149 f150 f151 f152 f153 f154 f155 f156 f157 f158 f159 f160 f161 f162 f163 f164 f165 f166 f167 f168 f169 f170 f171 f172 f173 f174 f175 f176 f177 f178 f179 f180 f181 f182 f183 f184 f185 f186 f187 f188 f189 f190 f191 f192 f193 f194 f195 f196 f197 f198 f199 f200 f201 f202 f203 f204 f205 f206 f207 f208 f209 f210 f211 f212 f213 f214 f215 f216 f217 f218 f219 f220 f221 f222 f223 f224 f225 f226 f227 f228 f229 f230 f231 f232 f233 f234 f235 f236 f237 f238 f239 f240 f241 f242:Value)
  (HQ:Hid (∀ (x142 x143 x144 x145 x146 x147 x148 x149 x150 x151:Value) (g7 g8:Nat) (w':World),w'.heap[g7]?=some (.cells v0.cells.toArray 71 (0,0))->w'.heap[g8]?=some (.cells u0.cells.toArray 71 (0,0))->Below wr.heap.size wr w'->Q .normal ⟨#[f0,f1,kJ (some ⟨w.heap.size,0,none⟩),kJ (some ⟨w.heap.size+1,0,none⟩),f4,f5,Value.int .i64 (q:Int),kJ (some ⟨g7,0,none⟩),kJ (some ⟨g8,0,none⟩),f9,f10,f11,f12,f13,f14,f15,f16,f17,f18,f19,f20,f21,f22,f23,f24,f25,f26,f27,f28,f29,f30,f31,f32,f33,f34,f35,f36,f37,f38,f39,f40,f41,f42,f43,f44,f45,f46,f47,f48,f49,f50,f51,f52,f53,f54,f55,f56,f57,f58,f59,f60,f61,f62,f63,f64,f65,f66,f67,f68,f69,f70,f71,f72,f73,f74,f75,f76,f77,f78,f79,f80,f81,f82,f83,f84,f85,f86,f87,f88,f89,f90,f91,f92,f93,f94,f95,f96,f97,f98,f99,f100,f101,f102,f103,f104,f105,f106,f107,f108,f109,f110,f111,f112,f113,f114,f115,f116,f117,f118,f119,f120,f121,f122,f123,f124,f125,f126,f127,f128,f129,f130,f131,f132,f133,f134,f135,f136,f137,f138,f139,f140,f141,x142,x143,x144,x145,x146,x147,x148,x149,x150,x151,f152,f153,f154,f155,f156,f157,f158,f159,f160,f161,f162,f163,f164,f165,f166,f167,f168,f169,f170,f171,f172,f173,f174,f175,f176,f177,f178,f179,f180,f181,f182,f183,f184,f185,f186,f187,f188,f189,f190,f191,f192,f193,f194,f195,f196,f197,f198,f199,f200,f201,f202,f203,f204,f205,f206,f207,f208,f209,f210,f211,f212,f213,f214,f215,f216,f217,f218,f219,f220,f221,f222,f223,f224,f225,f226,f227,f228,f229,f230,f231,f232,f233,f234,f235,f236,f237,f238,f239,f240,f241,f242],[]⟩ w')) :
  (rg 13 Tryz.f9).wp Tryz.prog Q ⟨#[f0,f1,kJ (some ⟨w.heap.size,0,none⟩),kJ (some ⟨w.heap.size+1,0,none⟩),f4,f5,Value.int .i64 (q:Int),f7,f8,f9,f10,f11,f12,f13,f14,f15,f16,f17,f18,f19,f20,f21,f22,f23,f24,f25,f26,f27,f28,f29,f30,f31,f32,f33,f34,f35,f36,f37,f38,f39,f40,f41,f42,f43,f44,f45,f46,f47,f48,f49,f50,f51,f52,f53,f54,f55,f56,f57,f58,f59,f60,f61,f62,f63,f64,f65,f66,f67,f68,f69,f70,f71,f72,f73,f74,f75,f76,f77,f78,f79,f80,f81,f82,f83,f84,f85,f86,f87,f88,f89,f90,f91,f92,f93,f94,f95,f96,f97,f98,f99,f100,f101,f102,f103,f104,f105,f106,f107,f108,f109,f110,f111,f112,f113,f114,f115,f116,f117,f118,f119,f120,f121,f122,f123,f124,f125,f126,f127,f128,f129,f130,f131,f132,f133,f134,f135,f136,f137,f138,f139,f140,f141,f142,f143,f144,f145,f146,f147,f148,f149,f150,f151,f152,f153,f154,f155,f156,f157,f158,f159,f160,f161,f162,f163,f164,f165,f166,f167,f168,f169,f170,f171,f172,f173,f174,f175,f176,f177,f178,f179,f180,f181,f182,f183,f184,f185,f186,f187,f188,f189,f190,f191,f192,f193,f194,f195,f196,f197,f198,f199,f200,f201,f202,f203,f204,f205,f206,f207,f208,f209,f210,f211,f212,f213,f214,f215,f216,f217,f218,f219,f220,f221,f222,f223,f224,f225,f226,f227,f228,f229,f230,f231,f232,f233,f234,f235,f236,f237,f238,f239,f240,f241,f242],[]⟩ wr:=by
 conv=>arg 2;whnf
 refine Kq (S:=fun w'=>Below wr.heap.size wr w') (by kernel_rfl) ?_;have hS:Below wr.heap.size wr { wr with drawn:=wr.drawn+1 }:=(kc _ _).drew;have O:Hid (Owned.Own wr.heap.size { wr with drawn:=wr.drawn+1 } []):=Owned.Own.nil;generalize ({ wr with drawn:=wr.drawn+1 }:World)=v at hS O |-;refine Held.take (i:=0) (some 142) rfl (v:=?_) rfl (by kernel_rfl) (by kernel_rfl) (by kernel_rfl) (fun c a w h=>hP c _ a w (by rfl) h) (kz ⟨by rfl,?_⟩) hS ?_;rotate_left
 ·intro w' hw';go_simp
  try with_reducible rfl
 (try dsimp only [k6]);(try simp only [zA,zB,zC])
 refine Held.take (i:=1) (some 143) rfl (v:=?_) rfl (by kernel_rfl) (by kernel_rfl) (by kernel_rfl) (fun c a w h=>hP c _ a w (by rfl) h) (kz ⟨by rfl,?_⟩) hS ?_;rotate_left
 ·intro w' hw';have e1:=(hw'.cell (kp wr _ qq113.out)).trans qq113.out;go_simp
  try with_reducible rfl
 (try dsimp only [k6]);(try simp only [zA,zB,zC])
 refine Held.take (i:=2) (some 144) rfl (v:=?_) rfl (by kernel_rfl) (by kernel_rfl) (by kernel_rfl) (fun c a w h=>hP c _ a w (by rfl) h) (kz ⟨by rfl,?_⟩) hS ?_;rotate_left
 ·intro w' hw';go_simp
  try with_reducible rfl
 (try dsimp only [k6]);(try simp only [zA,zB,zC])
 refine Held.take (i:=3) (some 145) rfl (v:=?_) rfl (by kernel_rfl) (by kernel_rfl) (by kernel_rfl) (fun c a w h=>hP c _ a w (by rfl) h) (kz ⟨by rfl,?_⟩) hS ?_;rotate_left
 ·intro w' hw';go_simp
  try with_reducible rfl
 (try dsimp only [k6]);(try simp only [zA,zB,zC])
 refine Held.j0J (i:=4) (some 146) rfl 71 _ (x.add (q*7)) v0.cells _ rfl rfl (by kernel_rfl) (by kernel_rfl) (by kernel_rfl) (fun c a w h=>hP c _ a w (by rfl) h) (by rfl) hS rfl (fun w' hw'=>HC.out.below hw') Tryz.underlying71 rfl jT ?_
 (try dsimp only [k6]);(try simp only [zA,zB,zC])
 refine Held.take (i:=5) (some 147) rfl (v:=?_) rfl (by kernel_rfl) (by kernel_rfl) (by kernel_rfl) (fun c a w h=>hP c _ a w (by rfl) h) (kz ⟨by rfl,?_⟩) hS ?_;rotate_left
 ·intro w' hw';go_simp
  try with_reducible rfl
 (try dsimp only [k6]);(try simp only [zA,zB,zC])
 refine Held.take (i:=6) (some 148) rfl (v:=?_) rfl (by kernel_rfl) (by kernel_rfl) (by kernel_rfl) (fun c a w h=>hP c _ a w (by rfl) h) (kz ⟨by rfl,?_⟩) hS ?_;rotate_left
 ·intro w' hw';have e1:=(hw'.cell (kp wr _ rr113.out)).trans rr113.out;go_simp
  try with_reducible rfl
 (try dsimp only [k6]);(try simp only [zA,zB,zC])
 refine Held.take (i:=7) (some 149) rfl (v:=?_) rfl (by kernel_rfl) (by kernel_rfl) (by kernel_rfl) (fun c a w h=>hP c _ a w (by rfl) h) (kz ⟨by rfl,?_⟩) hS ?_;rotate_left
 ·intro w' hw';go_simp
  try with_reducible rfl
 (try dsimp only [k6]);(try simp only [zA,zB,zC])
 refine Held.take (i:=8) (some 150) rfl (v:=?_) rfl (by kernel_rfl) (by kernel_rfl) (by kernel_rfl) (fun c a w h=>hP c _ a w (by rfl) h) (kz ⟨by rfl,?_⟩) hS ?_;rotate_left
 ·intro w' hw';go_simp
  try with_reducible rfl
 (try dsimp only [k6]);(try simp only [zA,zB,zC])
 refine Held.j0J (i:=9) (some 151) rfl 71 _ (y.add (q*7)) u0.cells _ rfl rfl (by kernel_rfl) (by kernel_rfl) (by kernel_rfl) (fun c a w h=>hP c _ a w (by rfl) h) (by rfl) hS rfl (fun w' hw'=>HC'.out.below hw') Tryz.underlying71 rfl jT ?_
 (try dsimp only [k6]);(try simp only [zA,zB,zC])
 refine j1d 10 11 rfl rfl (fun K hK=>?_) (fun K hK=>?_)
 ·go_simp
  have O2:=hJJ (j1v O.out hS.size [.int .i64 0,.float .f64 0,.float .f64 0,.float .f64 0,.float .f64 0,.int .i64 0,.int .i64 0] 71);refine hK.out _ _ (hS.alloc (by exact hS.size) _) (fun hS=>?_);clear hK K O;generalize v.heap.size=g10 at O2 |-;generalize v.alloc _=v at hS O2 |-;have O:=O2;clear O2;refine rdZ 11 rfl (fun K hK=>?_);go_simp
  have O2:=hJJ (j1v O.out hS.size [.int .i64 0,.float .f64 0,.float .f64 0,.float .f64 0,.float .f64 0,.int .i64 0,.int .i64 0] 71);refine hK.out _ _ (hS.alloc (by exact hS.size) _) (fun hS=>?_);clear hK K O;generalize v.heap.size=g11 at O2 |-;generalize v.alloc _=v at hS O2 |-;have O:=O2;clear O2;refine rdZ 12 rfl (fun K hK=>?_);rw [if_pos (by rfl)];refine jI 71 _ _ rfl g10 v0.cells.toArray rfl rfl 71 _ (O.out.get (x:=⟨g10,[.int .i64 0,.float .f64 0,.float .f64 0,.float .f64 0,.float .f64 0,.int .i64 0,.int .i64 0],_⟩) (by simp only [kh,true_or,or_true])) jT rfl (Det.one _) rfl ?_;have O2:=O.out.j69 (i:=1) rfl v0.cells;dsimp only [k4,k5] at O2;have hS2:=below_setRow hS (g:=g10) (O.out.base (x:=⟨g10,[.int .i64 0,.float .f64 0,.float .f64 0,.float .f64 0,.float .f64 0,.int .i64 0,.int .i64 0],71⟩) (by simp only [kh,true_or,or_true])) v0.cells.toArray;clear O hS;generalize v.setRow _ _=v at hS2 O2 |-;refine hK.out _ _ hS2 (fun hS=>?_);clear hK K hS2;have O:=hJJ O2;clear O2;refine rdZ 13 rfl (fun K hK=>?_);rw [if_pos (by rfl)];refine jI 71 _ _ rfl g11 u0.cells.toArray rfl rfl 71 _ (O.out.get (x:=⟨g11,[.int .i64 0,.float .f64 0,.float .f64 0,.float .f64 0,.float .f64 0,.int .i64 0,.int .i64 0],_⟩) (by simp only [kh,true_or,or_true])) jT rfl (Det.one _) rfl ?_;have O2:=O.out.j69 (i:=0) rfl u0.cells;dsimp only [k4,k5] at O2;have hS2:=below_setRow hS (g:=g11) (O.out.base (x:=⟨g11,[.int .i64 0,.float .f64 0,.float .f64 0,.float .f64 0,.float .f64 0,.int .i64 0,.int .i64 0],71⟩) (by simp only [kh,true_or,or_true])) u0.cells.toArray;clear O hS;generalize v.setRow _ _=v at hS2 O2 |-;refine hK.out _ _ hS2 (fun hS=>?_);clear hK K hS2;have O:=hJJ O2;clear O2;refine Ko (by kernel_rfl) ?_ _;exact HQ.out _ _ _ _ _ _ _ _ _ _ g10 g11 _ (O.out.get (x:=⟨g10,v0.cells,_⟩) (by simp only [kh,true_or,or_true])) (O.out.get (x:=⟨g11,u0.cells,_⟩) (by simp only [kh,true_or,or_true])) hS
 go_simp
 have O2:=hJJ (j1v O.out hS.size [.int .i64 0,.float .f64 0,.float .f64 0,.float .f64 0,.float .f64 0,.int .i64 0,.int .i64 0] 71);refine hK.out _ _ (hS.alloc (by exact hS.size) _) (fun hS=>?_);clear hK K O;generalize v.heap.size=g11 at O2 |-;generalize v.alloc _=v at hS O2 |-;have O:=O2;clear O2;refine rdZ 10 rfl (fun K hK=>?_);go_simp
 have O2:=hJJ (j1v O.out hS.size [.int .i64 0,.float .f64 0,.float .f64 0,.float .f64 0,.float .f64 0,.int .i64 0,.int .i64 0] 71);refine hK.out _ _ (hS.alloc (by exact hS.size) _) (fun hS=>?_);clear hK K O;generalize v.heap.size=g10 at O2 |-;generalize v.alloc _=v at hS O2 |-;have O:=O2;clear O2;refine rdZ 12 rfl (fun K hK=>?_);rw [if_pos (by rfl)];refine jI 71 _ _ rfl g10 v0.cells.toArray rfl rfl 71 _ (O.out.get (x:=⟨g10,[.int .i64 0,.float .f64 0,.float .f64 0,.float .f64 0,.float .f64 0,.int .i64 0,.int .i64 0],_⟩) (by simp only [kh,true_or,or_true])) jT rfl (Det.one _) rfl ?_;have O2:=O.out.j69 (i:=0) rfl v0.cells;dsimp only [k4,k5] at O2;have hS2:=below_setRow hS (g:=g10) (O.out.base (x:=⟨g10,[.int .i64 0,.float .f64 0,.float .f64 0,.float .f64 0,.float .f64 0,.int .i64 0,.int .i64 0],71⟩) (by simp only [kh,true_or,or_true])) v0.cells.toArray;clear O hS;generalize v.setRow _ _=v at hS2 O2 |-;refine hK.out _ _ hS2 (fun hS=>?_);clear hK K hS2;have O:=hJJ O2;clear O2;refine rdZ 13 rfl (fun K hK=>?_);rw [if_pos (by rfl)];refine jI 71 _ _ rfl g11 u0.cells.toArray rfl rfl 71 _ (O.out.get (x:=⟨g11,[.int .i64 0,.float .f64 0,.float .f64 0,.float .f64 0,.float .f64 0,.int .i64 0,.int .i64 0],_⟩) (by simp only [kh,true_or,or_true])) jT rfl (Det.one _) rfl ?_;have O2:=O.out.j69 (i:=1) rfl u0.cells;dsimp only [k4,k5] at O2;have hS2:=below_setRow hS (g:=g11) (O.out.base (x:=⟨g11,[.int .i64 0,.float .f64 0,.float .f64 0,.float .f64 0,.float .f64 0,.int .i64 0,.int .i64 0],71⟩) (by simp only [kh,true_or,or_true])) u0.cells.toArray;clear O hS;generalize v.setRow _ _=v at hS2 O2 |-;refine hK.out _ _ hS2 (fun hS=>?_);clear hK K hS2;have O:=hJJ O2;clear O2;refine Ko (by kernel_rfl) ?_ _;exact HQ.out _ _ _ _ _ _ _ _ _ _ g10 g11 _ (O.out.get (x:=⟨g10,v0.cells,_⟩) (by simp only [kh,true_or,or_true])) (O.out.get (x:=⟨g11,u0.cells,_⟩) (by simp only [kh,true_or,or_true])) hS
end Same
namespace GenR
open Go.ChangeShapes Go.WideShapes Go.ChangeAt Go.RowKit
open Tab Clone RefS CodeAt
open May (jH jK)
open Same (below_setRow)
open GenW Where
abbrev j8V (a:Option Addr) (cap:Nat) (L:List Int) (w:World) (i n x:Int):Prop:=∀ W,Below w.heap.size w W->Calls Tryz.prog 36 #[.slice a L.length cap,.int .i64 i,.int .i64 n] W fun e w'=>e=.returned (.int .i64 x)/\w'=W
theorem jbg {Q:Exit->Act->World->Prop} (hP:∀ c (a a':Act) w,a.defers=a'.defers->Q (.panic c) a w->Q (.panic c) a' w) (T:Tab) (c:List Value) (a:Option Addr) (cap:Nat) (L:List Int) (i n x0 x1 x2 x3:Int) (w u:World) (h0:0<=i) (h1:i<=100000)
  (IA:Hid ((Tryz.prog.info? 33).map (·.size)=some c.length)) (HB:Hid (Below w.heap.size w u)) (HS:Hid (u.heap.size=w.heap.size+2)) (LT:Hid (∀ w',Below u.heap.size u w'->jl w' ⟨w.heap.size,0,none⟩ c))
  (F0:Hid (j8V a cap L w i n x0)) (F1:Hid (j8V a cap L w (i+1) n x1)) (F2:Hid (j8V a cap L w (i+2) n x2)) (F3:Hid (j8V a cap L w (i+3) n x3))
  (WC:Hid (∀ (p q:Int) W,Below w.heap.size w W->Calls Tryz.prog 73 #[.agg c.toArray,.int .i64 p,.int .i64 q] W fun e w'=>e=.returned (.int .i64 (j8 T p q))/\Below W.heap.size W w')) (f0 f5 f6 f7 f8 f9 f10 f11 f12 f13 f14 f15 f16 f17 f18 f19 f20 f21 f22 f23 f24 f25 f26 f27 f28 f29 f30 f31 f32 f33 f34 f35 f36 f37 f38 f39 f40 f41 f42 f43 f44 f45 f46 f47 f48 f49 f50 f51 f52 f53 f54 f55 f56 f57 f58 f59 f60 f61 f62 f63 f64 f65 f66 f67 f68 f69 f70 f71 f72 f73 f74 f75 f76 f77 f78 f79 f80 f81 f82 f83 f84 f85 f86 f87 f88 f89 f90 f91 f92 f93 f94 f95 f96 f97 f98 f99 f100 f101 f102 f103 f104 f105 f106 f107 f108 f109 f110 f111 f112 f113 f114 f115 f116 f117 f118:Value)
  (HQ:Hid (∀ (x_11 x_12 x_13 x_14 x_15 x_16 x_17 x_18 x_19 x_20 x_21 x_22 x_23 x_24 x_25 x_26 x_27 x_28 x_29 x_30 x_31 x_32 x_33 x_34:Value) (b5:Nat) (wx:World),w.heap.size+1 < b5->wx.heap[b5]?=some (.cells #[I 0,I 0,I (j8 T x0 x1),I (j8 T x2 x3),I 0,I 0,I 0,I 0,I 0,I 0,I 0] 75 (0,0))->Below u.heap.size u wx->Q .normal ⟨#[f0,.slice a L.length cap,.int .i64 i,.int .i64 n,.pointer (some ⟨w.heap.size,0,none⟩),f5,f6,f7,f8,.pointer (some ⟨b5,0,none⟩),f10,x_11,x_12,x_13,x_14,x_15,x_16,x_17,x_18,x_19,x_20,x_21,x_22,x_23,x_24,x_25,x_26,x_27,x_28,x_29,x_30,x_31,x_32,x_33,x_34,f35,f36,f37,f38,f39,f40,f41,f42,f43,f44,f45,f46,f47,f48,f49,f50,f51,f52,f53,f54,f55,f56,f57,f58,f59,f60,f61,f62,f63,f64,f65,f66,f67,f68,f69,f70,f71,f72,f73,f74,f75,f76,f77,f78,f79,f80,f81,f82,f83,f84,f85,f86,f87,f88,f89,f90,f91,f92,f93,f94,f95,f96,f97,f98,f99,f100,f101,f102,f103,f104,f105,f106,f107,f108,f109,f110,f111,f112,f113,f114,f115,f116,f117,f118],[]⟩ wx)) :
  (rg 1 Tryz.f39).wp Tryz.prog Q ⟨#[f0,.slice a L.length cap,.int .i64 i,.int .i64 n,.pointer (some ⟨w.heap.size,0,none⟩),f5,f6,f7,f8,f9,f10,f11,f12,f13,f14,f15,f16,f17,f18,f19,f20,f21,f22,f23,f24,f25,f26,f27,f28,f29,f30,f31,f32,f33,f34,f35,f36,f37,f38,f39,f40,f41,f42,f43,f44,f45,f46,f47,f48,f49,f50,f51,f52,f53,f54,f55,f56,f57,f58,f59,f60,f61,f62,f63,f64,f65,f66,f67,f68,f69,f70,f71,f72,f73,f74,f75,f76,f77,f78,f79,f80,f81,f82,f83,f84,f85,f86,f87,f88,f89,f90,f91,f92,f93,f94,f95,f96,f97,f98,f99,f100,f101,f102,f103,f104,f105,f106,f107,f108,f109,f110,f111,f112,f113,f114,f115,f116,f117,f118],[]⟩ u:=by
 conv=>arg 2;whnf
 have e1:ki.wrap (i+1)=i+1:=by rw [ke];omega
 have e2:ki.wrap (i+2)=i+2:=by rw [ke];omega
 have e3:ki.wrap (i+3)=i+3:=by rw [ke];omega
 refine Kq (S:=fun w'=>Below u.heap.size u w') (by kernel_rfl) ?_;have hS:Below u.heap.size u { u with drawn:=u.drawn+1 }:=(kc _ _).drew;generalize ({ u with drawn:=u.drawn+1 }:World)=v at hS |-;refine Held.j0J (i:=0) (some 11) rfl 33 _ ⟨w.heap.size,0,none⟩ c _ rfl rfl (by kernel_rfl) (by kernel_rfl) (by kernel_rfl) (fun c a w h=>hP c _ a w (by rfl) h) (by rfl) hS rfl (LT.out) Tryz.underlying33 rfl IA.out ?_
 (try dsimp only [k6]);(try simp only [k0,k5,k4])
 refine Held.take (i:=1) (some 12) rfl (v:=?_) rfl (by kernel_rfl) (by kernel_rfl) (by kernel_rfl) (fun c a w h=>hP c _ a w (by rfl) h) (kz ⟨by rfl,?_⟩) hS ?_;rotate_left
 ·intro w' hw';go_simp
  try with_reducible rfl
 (try dsimp only [k6]);(try simp only [k0,k5,k4])
 refine Held.take (i:=2) (some 13) rfl (v:=?_) rfl (by kernel_rfl) (by kernel_rfl) (by kernel_rfl) (fun c a w h=>hP c _ a w (by rfl) h) (kz ⟨by rfl,?_⟩) hS ?_;rotate_left
 ·intro w' hw';go_simp
  try with_reducible rfl
 (try dsimp only [k6]);(try simp only [k0,k5,k4])
 refine Held.take (i:=3) (some 14) rfl (v:=?_) rfl (by kernel_rfl) (by kernel_rfl) (by kernel_rfl) (fun c a w h=>hP c _ a w (by rfl) h) (kz ⟨by rfl,?_⟩) hS ?_;rotate_left
 ·intro w' hw';go_simp
  try with_reducible rfl
 (try dsimp only [k6]);(try simp only [k0,k5,k4])
 refine Held.take (i:=5) (some 16) rfl (v:=?_) rfl (by kernel_rfl) (by kernel_rfl) (by kernel_rfl) (fun c a w h=>hP c _ a w (by rfl) h) (kz ⟨by rfl,?_⟩) hS ?_;rotate_left
 ·intro w' hw';go_simp
  try with_reducible rfl
 (try dsimp only [k6]);(try simp only [k0,k5,k4])
 refine Held.take (i:=6) (some 17) rfl (v:=?_) rfl (by kernel_rfl) (by kernel_rfl) (by kernel_rfl) (fun c a w h=>hP c _ a w (by rfl) h) (kz ⟨by rfl,?_⟩) hS ?_;rotate_left
 ·intro w' hw';go_simp
  try with_reducible rfl
 (try dsimp only [k6]);(try simp only [k0,k5,k4])
 refine Held.take (i:=7) (some 18) rfl (v:=?_) rfl (by kernel_rfl) (by kernel_rfl) (by kernel_rfl) (fun c a w h=>hP c _ a w (by rfl) h) (kz ⟨by rfl,?_⟩) hS ?_;rotate_left
 ·intro w' hw';go_simp
  try with_reducible rfl
 (try dsimp only [k6]);(try simp only [k0,k5,k4])
 refine Held.take (i:=8) (some 19) rfl (v:=?_) rfl (by kernel_rfl) (by kernel_rfl) (by kernel_rfl) (fun c a w h=>hP c _ a w (by rfl) h) (kz ⟨by rfl,?_⟩) hS ?_;rotate_left
 ·intro w' hw';go_simp
  try with_reducible rfl
 (try dsimp only [k6]);(try simp only [k0,k5,k4])
 refine Held.j0J (i:=11) (some 22) rfl 33 _ ⟨w.heap.size,0,none⟩ c _ rfl rfl (by kernel_rfl) (by kernel_rfl) (by kernel_rfl) (fun c a w h=>hP c _ a w (by rfl) h) (by rfl) hS rfl (LT.out) Tryz.underlying33 rfl IA.out ?_
 (try dsimp only [k6]);(try simp only [k0,k5,k4])
 refine Held.take (i:=12) (some 23) rfl (v:=?_) rfl (by kernel_rfl) (by kernel_rfl) (by kernel_rfl) (fun c a w h=>hP c _ a w (by rfl) h) (kz ⟨by rfl,?_⟩) hS ?_;rotate_left
 ·intro w' hw';go_simp
  try with_reducible rfl
 (try dsimp only [k6]);(try simp only [k0,k5,k4])
 refine Held.take (i:=13) (some 24) rfl (v:=?_) rfl (by kernel_rfl) (by kernel_rfl) (by kernel_rfl) (fun c a w h=>hP c _ a w (by rfl) h) (kz ⟨by rfl,?_⟩) hS ?_;rotate_left
 ·intro w' hw';go_simp
  try with_reducible rfl
 (try dsimp only [k6]);(try simp only [k0,k5,k4])
 refine Held.take (i:=14) (some 25) rfl (v:=?_) rfl (by kernel_rfl) (by kernel_rfl) (by kernel_rfl) (fun c a w h=>hP c _ a w (by rfl) h) (kz ⟨by rfl,?_⟩) hS ?_;rotate_left
 ·intro w' hw';go_simp
  try with_reducible rfl
 (try dsimp only [k6]);(try simp only [k0,k5,k4])
 refine Held.take (i:=15) (some 26) rfl (v:=?_) rfl (by kernel_rfl) (by kernel_rfl) (by kernel_rfl) (fun c a w h=>hP c _ a w (by rfl) h) (kz ⟨by rfl,?_⟩) hS ?_;rotate_left
 ·intro w' hw';go_simp
  try with_reducible rfl
 (try dsimp only [k6]);(try simp only [k0,k5,k4])
 refine Held.take (i:=17) (some 28) rfl (v:=?_) rfl (by kernel_rfl) (by kernel_rfl) (by kernel_rfl) (fun c a w h=>hP c _ a w (by rfl) h) (kz ⟨by rfl,?_⟩) hS ?_;rotate_left
 ·intro w' hw';go_simp
  try with_reducible rfl
 (try dsimp only [k6]);(try simp only [k0,k5,k4])
 refine Held.take (i:=18) (some 29) rfl (v:=?_) rfl (by kernel_rfl) (by kernel_rfl) (by kernel_rfl) (fun c a w h=>hP c _ a w (by rfl) h) (kz ⟨by rfl,?_⟩) hS ?_;rotate_left
 ·intro w' hw';go_simp
  try with_reducible rfl
 (try dsimp only [k6]);(try simp only [k0,k5,k4])
 refine Held.take (i:=19) (some 30) rfl (v:=?_) rfl (by kernel_rfl) (by kernel_rfl) (by kernel_rfl) (fun c a w h=>hP c _ a w (by rfl) h) (kz ⟨by rfl,?_⟩) hS ?_;rotate_left
 ·intro w' hw';go_simp
  try with_reducible rfl
 (try dsimp only [k6]);(try simp only [k0,k5,k4])
 refine Held.take (i:=20) (some 31) rfl (v:=?_) rfl (by kernel_rfl) (by kernel_rfl) (by kernel_rfl) (fun c a w h=>hP c _ a w (by rfl) h) (kz ⟨by rfl,?_⟩) hS ?_;rotate_left
 ·intro w' hw';go_simp
  try with_reducible rfl
 (try dsimp only [k6]);(try simp only [k0,k5,k4])
 refine Kj (rs:=[4,24]) (by kernel_rfl) (by simp) (k8 rfl (fun K hK=>?_) (k8 rfl (fun K hK=>?_) kd))
 ·go_simp
  refine (F0.out _ (HB.out.trans (hS.mono HB.out.size))).mono ?_;rintro e w' ⟨rfl,hq⟩;subst w';go_simp
  refine hK.out _ _ hS (fun hS=>?_);clear hK K;refine Kj (rs:=[9,24]) (by kernel_rfl) (by simp) (k8 rfl (fun K hK=>?_) (k8 rfl (fun K hK=>?_) kd))
  ·go_simp
   refine (F1.out _ (HB.out.trans (hS.mono HB.out.size))).mono ?_;rintro e w' ⟨rfl,hq⟩;subst w';go_simp
   refine hK.out _ _ hS (fun hS=>?_);clear hK K;refine Kj (rs:=[10,24]) (by kernel_rfl) (by simp) (k8 rfl (fun K hK=>?_) (k8 rfl (fun K hK=>?_) kd))
   ·go_simp
    refine (WC.out x0 x1 _ (HB.out.trans (hS.mono HB.out.size))).mono ?_;rintro e v ⟨rfl,hb⟩;go_simp
    refine hK.out _ _ (kw hS (hb.mono hS.size)) (fun hS=>?_);clear hK K hb;refine Kj (rs:=[16,24]) (by kernel_rfl) (by simp) (k8 rfl (fun K hK=>?_) (k8 rfl (fun K hK=>?_) kd))
    ·go_simp
     refine (F2.out _ (HB.out.trans (hS.mono HB.out.size))).mono ?_;rintro e w' ⟨rfl,hq⟩;subst w';go_simp
     refine hK.out _ _ hS (fun hS=>?_);clear hK K;refine Kj (rs:=[21,24]) (by kernel_rfl) (by simp) (k8 rfl (fun K hK=>?_) (k8 rfl (fun K hK=>?_) kd))
     ·go_simp
      refine (F3.out _ (HB.out.trans (hS.mono HB.out.size))).mono ?_;rintro e w' ⟨rfl,hq⟩;subst w';go_simp
      refine hK.out _ _ hS (fun hS=>?_);clear hK K;refine Kj (rs:=[22,24]) (by kernel_rfl) (by simp) (k8 rfl (fun K hK=>?_) (k8 rfl (fun K hK=>?_) kd))
      ·go_simp
       refine (WC.out x2 x3 _ (HB.out.trans (hS.mono HB.out.size))).mono ?_;rintro e v ⟨rfl,hb⟩;go_simp
       refine hK.out _ _ (kw hS (hb.mono hS.size)) (fun hS=>?_);clear hK K hb;refine Held.take (i:=23) (some 34) rfl (v:=?_) rfl (by kernel_rfl) (by kernel_rfl) (by kernel_rfl) (fun c a w h=>hP c _ a w (by rfl) h) (kz ⟨by rfl,?_⟩) hS ?_;rotate_left
       ·intro w' hw';go_simp
        try with_reducible rfl
       (try dsimp only [k6]);(try simp only [k0,k5,k4])
       refine Kj (rs:=[24]) (by kernel_rfl) (by simp) (k8 rfl (fun K hK=>?_) kd);go_simp
       have g5:=Kn v (.cells #[I 0,I 0,I 0,I 0,I 0,I 0,I 0,I 0,I 0,I 0,I 0] 75);have b5lt:w.heap.size+1 < v.heap.size:=by have:=HS.out;have:=hS.size;omega
       have b5u:u.heap.size<=v.heap.size:=hS.size;refine hK.out _ _ (hS.alloc hS.size _) (fun hS=>?_);clear hK K;generalize v.heap.size=b5 at g5 b5lt b5u |-;generalize kf v _=v at g5 hS |-;have G5:=kF g5;clear g5;refine Kj (rs:=[25]) (by kernel_rfl) (by simp) (k8 rfl (fun K hK=>?_) kd);rw [if_pos (by rfl)];refine Same.jI 75 _ _ rfl b5 #[I 0,I 0,I (j8 T x0 x1),I (j8 T x2 x3),I 0,I 0,I 0,I 0,I 0,I 0,I 0] rfl rfl 75 _ G5.out jH rfl (by simp [kn]) rfl ?_;have hS2:=below_setRow hS (g:=b5) (by omega) #[I 0,I 0,I (j8 T x0 x1),I (j8 T x2 x3),I 0,I 0,I 0,I 0,I 0,I 0,I 0];have g5:=Kp v b5 _ #[I 0,I 0,I (j8 T x0 x1),I (j8 T x2 x3),I 0,I 0,I 0,I 0,I 0,I 0,I 0] _ _ G5.out;clear G5 hS;generalize v.setRow _ _=v at hS2 g5 |-;refine hK.out _ _ hS2 (fun hS=>?_);clear hK K hS2;refine Ko (by kernel_rfl) ?_ _;exact HQ.out _ _ _ _ _ _ _ _ _ _ _ _ _ _ _ _ _ _ _ _ _ _ _ _ b5 _ b5lt g5 hS
      go_simp
      have g5:=Kn v (.cells #[I 0,I 0,I 0,I 0,I 0,I 0,I 0,I 0,I 0,I 0,I 0] 75);have b5lt:w.heap.size+1 < v.heap.size:=by have:=HS.out;have:=hS.size;omega
      have b5u:u.heap.size<=v.heap.size:=hS.size;refine hK.out _ _ (hS.alloc hS.size _) (fun hS=>?_);clear hK K;generalize v.heap.size=b5 at g5 b5lt b5u |-;generalize kf v _=v at g5 hS |-;have G5:=kF g5;clear g5;refine Kj (rs:=[22]) (by kernel_rfl) (by simp) (k8 rfl (fun K hK=>?_) kd);go_simp
      refine (WC.out x2 x3 _ (HB.out.trans (hS.mono HB.out.size))).mono ?_;rintro e v ⟨rfl,hb⟩;go_simp
      have G5b:=kF ((hb.block _ (ka.1 G5.out).1).trans G5.out);clear G5;have G5:=G5b;clear G5b;refine hK.out _ _ (kw hS (hb.mono hS.size)) (fun hS=>?_);clear hK K hb;refine Held.take (i:=23) (some 34) rfl (v:=?_) rfl (by kernel_rfl) (by kernel_rfl) (by kernel_rfl) (fun c a w h=>hP c _ a w (by rfl) h) (kz ⟨by rfl,?_⟩) hS ?_;rotate_left
      ·intro w' hw';go_simp
       try with_reducible rfl
      (try dsimp only [k6]);(try simp only [k0,k5,k4])
      refine Kj (rs:=[25]) (by kernel_rfl) (by simp) (k8 rfl (fun K hK=>?_) kd);rw [if_pos (by rfl)];refine Same.jI 75 _ _ rfl b5 #[I 0,I 0,I (j8 T x0 x1),I (j8 T x2 x3),I 0,I 0,I 0,I 0,I 0,I 0,I 0] rfl rfl 75 _ G5.out jH rfl (by simp [kn]) rfl ?_;have hS2:=below_setRow hS (g:=b5) (by omega) #[I 0,I 0,I (j8 T x0 x1),I (j8 T x2 x3),I 0,I 0,I 0,I 0,I 0,I 0,I 0];have g5:=Kp v b5 _ #[I 0,I 0,I (j8 T x0 x1),I (j8 T x2 x3),I 0,I 0,I 0,I 0,I 0,I 0,I 0] _ _ G5.out;clear G5 hS;generalize v.setRow _ _=v at hS2 g5 |-;refine hK.out _ _ hS2 (fun hS=>?_);clear hK K hS2;refine Ko (by kernel_rfl) ?_ _;exact HQ.out _ _ _ _ _ _ _ _ _ _ _ _ _ _ _ _ _ _ _ _ _ _ _ _ b5 _ b5lt g5 hS
     go_simp
     have g5:=Kn v (.cells #[I 0,I 0,I 0,I 0,I 0,I 0,I 0,I 0,I 0,I 0,I 0] 75);have b5lt:w.heap.size+1 < v.heap.size:=by have:=HS.out;have:=hS.size;omega
     have b5u:u.heap.size<=v.heap.size:=hS.size;refine hK.out _ _ (hS.alloc hS.size _) (fun hS=>?_);clear hK K;generalize v.heap.size=b5 at g5 b5lt b5u |-;generalize kf v _=v at g5 hS |-;have G5:=kF g5;clear g5;refine Kj (rs:=[21]) (by kernel_rfl) (by simp) (k8 rfl (fun K hK=>?_) kd);go_simp
     refine (F3.out _ (HB.out.trans (hS.mono HB.out.size))).mono ?_;rintro e w' ⟨rfl,hq⟩;subst w';go_simp
     refine hK.out _ _ hS (fun hS=>?_);clear hK K;refine Kj (rs:=[22]) (by kernel_rfl) (by simp) (k8 rfl (fun K hK=>?_) kd);go_simp
     refine (WC.out x2 x3 _ (HB.out.trans (hS.mono HB.out.size))).mono ?_;rintro e v ⟨rfl,hb⟩;go_simp
     have G5b:=kF ((hb.block _ (ka.1 G5.out).1).trans G5.out);clear G5;have G5:=G5b;clear G5b;refine hK.out _ _ (kw hS (hb.mono hS.size)) (fun hS=>?_);clear hK K hb;refine Held.take (i:=23) (some 34) rfl (v:=?_) rfl (by kernel_rfl) (by kernel_rfl) (by kernel_rfl) (fun c a w h=>hP c _ a w (by rfl) h) (kz ⟨by rfl,?_⟩) hS ?_;rotate_left
     ·intro w' hw';go_simp
      try with_reducible rfl
     (try dsimp only [k6]);(try simp only [k0,k5,k4])
     refine Kj (rs:=[25]) (by kernel_rfl) (by simp) (k8 rfl (fun K hK=>?_) kd);rw [if_pos (by rfl)];refine Same.jI 75 _ _ rfl b5 #[I 0,I 0,I (j8 T x0 x1),I (j8 T x2 x3),I 0,I 0,I 0,I 0,I 0,I 0,I 0] rfl rfl 75 _ G5.out jH rfl (by simp [kn]) rfl ?_;have hS2:=below_setRow hS (g:=b5) (by omega) #[I 0,I 0,I (j8 T x0 x1),I (j8 T x2 x3),I 0,I 0,I 0,I 0,I 0,I 0,I 0];have g5:=Kp v b5 _ #[I 0,I 0,I (j8 T x0 x1),I (j8 T x2 x3),I 0,I 0,I 0,I 0,I 0,I 0,I 0] _ _ G5.out;clear G5 hS;generalize v.setRow _ _=v at hS2 g5 |-;refine hK.out _ _ hS2 (fun hS=>?_);clear hK K hS2;refine Ko (by kernel_rfl) ?_ _;exact HQ.out _ _ _ _ _ _ _ _ _ _ _ _ _ _ _ _ _ _ _ _ _ _ _ _ b5 _ b5lt g5 hS
    go_simp
    have g5:=Kn v (.cells #[I 0,I 0,I 0,I 0,I 0,I 0,I 0,I 0,I 0,I 0,I 0] 75);have b5lt:w.heap.size+1 < v.heap.size:=by have:=HS.out;have:=hS.size;omega
    have b5u:u.heap.size<=v.heap.size:=hS.size;refine hK.out _ _ (hS.alloc hS.size _) (fun hS=>?_);clear hK K;generalize v.heap.size=b5 at g5 b5lt b5u |-;generalize kf v _=v at g5 hS |-;have G5:=kF g5;clear g5;refine Kj (rs:=[16]) (by kernel_rfl) (by simp) (k8 rfl (fun K hK=>?_) kd);go_simp
    refine (F2.out _ (HB.out.trans (hS.mono HB.out.size))).mono ?_;rintro e w' ⟨rfl,hq⟩;subst w';go_simp
    refine hK.out _ _ hS (fun hS=>?_);clear hK K;refine Kj (rs:=[21]) (by kernel_rfl) (by simp) (k8 rfl (fun K hK=>?_) kd);go_simp
    refine (F3.out _ (HB.out.trans (hS.mono HB.out.size))).mono ?_;rintro e w' ⟨rfl,hq⟩;subst w';go_simp
    refine hK.out _ _ hS (fun hS=>?_);clear hK K;refine Kj (rs:=[22]) (by kernel_rfl) (by simp) (k8 rfl (fun K hK=>?_) kd);go_simp
    refine (WC.out x2 x3 _ (HB.out.trans (hS.mono HB.out.size))).mono ?_;rintro e v ⟨rfl,hb⟩;go_simp
    have G5b:=kF ((hb.block _ (ka.1 G5.out).1).trans G5.out);clear G5;have G5:=G5b;clear G5b;refine hK.out _ _ (kw hS (hb.mono hS.size)) (fun hS=>?_);clear hK K hb;refine Held.take (i:=23) (some 34) rfl (v:=?_) rfl (by kernel_rfl) (by kernel_rfl) (by kernel_rfl) (fun c a w h=>hP c _ a w (by rfl) h) (kz ⟨by rfl,?_⟩) hS ?_;rotate_left
    ·intro w' hw';go_simp
     try with_reducible rfl
    (try dsimp only [k6]);(try simp only [k0,k5,k4])
    refine Kj (rs:=[25]) (by kernel_rfl) (by simp) (k8 rfl (fun K hK=>?_) kd);rw [if_pos (by rfl)];refine Same.jI 75 _ _ rfl b5 #[I 0,I 0,I (j8 T x0 x1),I (j8 T x2 x3),I 0,I 0,I 0,I 0,I 0,I 0,I 0] rfl rfl 75 _ G5.out jH rfl (by simp [kn]) rfl ?_;have hS2:=below_setRow hS (g:=b5) (by omega) #[I 0,I 0,I (j8 T x0 x1),I (j8 T x2 x3),I 0,I 0,I 0,I 0,I 0,I 0,I 0];have g5:=Kp v b5 _ #[I 0,I 0,I (j8 T x0 x1),I (j8 T x2 x3),I 0,I 0,I 0,I 0,I 0,I 0,I 0] _ _ G5.out;clear G5 hS;generalize v.setRow _ _=v at hS2 g5 |-;refine hK.out _ _ hS2 (fun hS=>?_);clear hK K hS2;refine Ko (by kernel_rfl) ?_ _;exact HQ.out _ _ _ _ _ _ _ _ _ _ _ _ _ _ _ _ _ _ _ _ _ _ _ _ b5 _ b5lt g5 hS
   go_simp
   have g5:=Kn v (.cells #[I 0,I 0,I 0,I 0,I 0,I 0,I 0,I 0,I 0,I 0,I 0] 75);have b5lt:w.heap.size+1 < v.heap.size:=by have:=HS.out;have:=hS.size;omega
   have b5u:u.heap.size<=v.heap.size:=hS.size;refine hK.out _ _ (hS.alloc hS.size _) (fun hS=>?_);clear hK K;generalize v.heap.size=b5 at g5 b5lt b5u |-;generalize kf v _=v at g5 hS |-;have G5:=kF g5;clear g5;refine Kj (rs:=[10]) (by kernel_rfl) (by simp) (k8 rfl (fun K hK=>?_) kd);go_simp
   refine (WC.out x0 x1 _ (HB.out.trans (hS.mono HB.out.size))).mono ?_;rintro e v ⟨rfl,hb⟩;go_simp
   have G5b:=kF ((hb.block _ (ka.1 G5.out).1).trans G5.out);clear G5;have G5:=G5b;clear G5b;refine hK.out _ _ (kw hS (hb.mono hS.size)) (fun hS=>?_);clear hK K hb;refine Kj (rs:=[16]) (by kernel_rfl) (by simp) (k8 rfl (fun K hK=>?_) kd);go_simp
   refine (F2.out _ (HB.out.trans (hS.mono HB.out.size))).mono ?_;rintro e w' ⟨rfl,hq⟩;subst w';go_simp
   refine hK.out _ _ hS (fun hS=>?_);clear hK K;refine Kj (rs:=[21]) (by kernel_rfl) (by simp) (k8 rfl (fun K hK=>?_) kd);go_simp
   refine (F3.out _ (HB.out.trans (hS.mono HB.out.size))).mono ?_;rintro e w' ⟨rfl,hq⟩;subst w';go_simp
   refine hK.out _ _ hS (fun hS=>?_);clear hK K;refine Kj (rs:=[22]) (by kernel_rfl) (by simp) (k8 rfl (fun K hK=>?_) kd);go_simp
   refine (WC.out x2 x3 _ (HB.out.trans (hS.mono HB.out.size))).mono ?_;rintro e v ⟨rfl,hb⟩;go_simp
   have G5b:=kF ((hb.block _ (ka.1 G5.out).1).trans G5.out);clear G5;have G5:=G5b;clear G5b;refine hK.out _ _ (kw hS (hb.mono hS.size)) (fun hS=>?_);clear hK K hb;refine Held.take (i:=23) (some 34) rfl (v:=?_) rfl (by kernel_rfl) (by kernel_rfl) (by kernel_rfl) (fun c a w h=>hP c _ a w (by rfl) h) (kz ⟨by rfl,?_⟩) hS ?_;rotate_left
   ·intro w' hw';go_simp
    try with_reducible rfl
   (try dsimp only [k6]);(try simp only [k0,k5,k4])
   refine Kj (rs:=[25]) (by kernel_rfl) (by simp) (k8 rfl (fun K hK=>?_) kd);rw [if_pos (by rfl)];refine Same.jI 75 _ _ rfl b5 #[I 0,I 0,I (j8 T x0 x1),I (j8 T x2 x3),I 0,I 0,I 0,I 0,I 0,I 0,I 0] rfl rfl 75 _ G5.out jH rfl (by simp [kn]) rfl ?_;have hS2:=below_setRow hS (g:=b5) (by omega) #[I 0,I 0,I (j8 T x0 x1),I (j8 T x2 x3),I 0,I 0,I 0,I 0,I 0,I 0,I 0];have g5:=Kp v b5 _ #[I 0,I 0,I (j8 T x0 x1),I (j8 T x2 x3),I 0,I 0,I 0,I 0,I 0,I 0,I 0] _ _ G5.out;clear G5 hS;generalize v.setRow _ _=v at hS2 g5 |-;refine hK.out _ _ hS2 (fun hS=>?_);clear hK K hS2;refine Ko (by kernel_rfl) ?_ _;exact HQ.out _ _ _ _ _ _ _ _ _ _ _ _ _ _ _ _ _ _ _ _ _ _ _ _ b5 _ b5lt g5 hS
  go_simp
  have g5:=Kn v (.cells #[I 0,I 0,I 0,I 0,I 0,I 0,I 0,I 0,I 0,I 0,I 0] 75);have b5lt:w.heap.size+1 < v.heap.size:=by have:=HS.out;have:=hS.size;omega
  have b5u:u.heap.size<=v.heap.size:=hS.size;refine hK.out _ _ (hS.alloc hS.size _) (fun hS=>?_);clear hK K;generalize v.heap.size=b5 at g5 b5lt b5u |-;generalize kf v _=v at g5 hS |-;have G5:=kF g5;clear g5;refine Kj (rs:=[9]) (by kernel_rfl) (by simp) (k8 rfl (fun K hK=>?_) kd);go_simp
  refine (F1.out _ (HB.out.trans (hS.mono HB.out.size))).mono ?_;rintro e w' ⟨rfl,hq⟩;subst w';go_simp
  refine hK.out _ _ hS (fun hS=>?_);clear hK K;refine Kj (rs:=[10]) (by kernel_rfl) (by simp) (k8 rfl (fun K hK=>?_) kd);go_simp
  refine (WC.out x0 x1 _ (HB.out.trans (hS.mono HB.out.size))).mono ?_;rintro e v ⟨rfl,hb⟩;go_simp
  have G5b:=kF ((hb.block _ (ka.1 G5.out).1).trans G5.out);clear G5;have G5:=G5b;clear G5b;refine hK.out _ _ (kw hS (hb.mono hS.size)) (fun hS=>?_);clear hK K hb;refine Kj (rs:=[16]) (by kernel_rfl) (by simp) (k8 rfl (fun K hK=>?_) kd);go_simp
  refine (F2.out _ (HB.out.trans (hS.mono HB.out.size))).mono ?_;rintro e w' ⟨rfl,hq⟩;subst w';go_simp
  refine hK.out _ _ hS (fun hS=>?_);clear hK K;refine Kj (rs:=[21]) (by kernel_rfl) (by simp) (k8 rfl (fun K hK=>?_) kd);go_simp
  refine (F3.out _ (HB.out.trans (hS.mono HB.out.size))).mono ?_;rintro e w' ⟨rfl,hq⟩;subst w';go_simp
  refine hK.out _ _ hS (fun hS=>?_);clear hK K;refine Kj (rs:=[22]) (by kernel_rfl) (by simp) (k8 rfl (fun K hK=>?_) kd);go_simp
  refine (WC.out x2 x3 _ (HB.out.trans (hS.mono HB.out.size))).mono ?_;rintro e v ⟨rfl,hb⟩;go_simp
  have G5b:=kF ((hb.block _ (ka.1 G5.out).1).trans G5.out);clear G5;have G5:=G5b;clear G5b;refine hK.out _ _ (kw hS (hb.mono hS.size)) (fun hS=>?_);clear hK K hb;refine Held.take (i:=23) (some 34) rfl (v:=?_) rfl (by kernel_rfl) (by kernel_rfl) (by kernel_rfl) (fun c a w h=>hP c _ a w (by rfl) h) (kz ⟨by rfl,?_⟩) hS ?_;rotate_left
  ·intro w' hw';go_simp
   try with_reducible rfl
  (try dsimp only [k6]);(try simp only [k0,k5,k4])
  refine Kj (rs:=[25]) (by kernel_rfl) (by simp) (k8 rfl (fun K hK=>?_) kd);rw [if_pos (by rfl)];refine Same.jI 75 _ _ rfl b5 #[I 0,I 0,I (j8 T x0 x1),I (j8 T x2 x3),I 0,I 0,I 0,I 0,I 0,I 0,I 0] rfl rfl 75 _ G5.out jH rfl (by simp [kn]) rfl ?_;have hS2:=below_setRow hS (g:=b5) (by omega) #[I 0,I 0,I (j8 T x0 x1),I (j8 T x2 x3),I 0,I 0,I 0,I 0,I 0,I 0,I 0];have g5:=Kp v b5 _ #[I 0,I 0,I (j8 T x0 x1),I (j8 T x2 x3),I 0,I 0,I 0,I 0,I 0,I 0,I 0] _ _ G5.out;clear G5 hS;generalize v.setRow _ _=v at hS2 g5 |-;refine hK.out _ _ hS2 (fun hS=>?_);clear hK K hS2;refine Ko (by kernel_rfl) ?_ _;exact HQ.out _ _ _ _ _ _ _ _ _ _ _ _ _ _ _ _ _ _ _ _ _ _ _ _ b5 _ b5lt g5 hS
 go_simp
 have g5:=Kn v (.cells #[I 0,I 0,I 0,I 0,I 0,I 0,I 0,I 0,I 0,I 0,I 0] 75);have b5lt:w.heap.size+1 < v.heap.size:=by have:=HS.out;have:=hS.size;omega
 have b5u:u.heap.size<=v.heap.size:=hS.size;refine hK.out _ _ (hS.alloc hS.size _) (fun hS=>?_);clear hK K;generalize v.heap.size=b5 at g5 b5lt b5u |-;generalize kf v _=v at g5 hS |-;have G5:=kF g5;clear g5;refine Kj (rs:=[4]) (by kernel_rfl) (by simp) (k8 rfl (fun K hK=>?_) kd);go_simp
 refine (F0.out _ (HB.out.trans (hS.mono HB.out.size))).mono ?_;rintro e w' ⟨rfl,hq⟩;subst w';go_simp
 refine hK.out _ _ hS (fun hS=>?_);clear hK K;refine Kj (rs:=[9]) (by kernel_rfl) (by simp) (k8 rfl (fun K hK=>?_) kd);go_simp
 refine (F1.out _ (HB.out.trans (hS.mono HB.out.size))).mono ?_;rintro e w' ⟨rfl,hq⟩;subst w';go_simp
 refine hK.out _ _ hS (fun hS=>?_);clear hK K;refine Kj (rs:=[10]) (by kernel_rfl) (by simp) (k8 rfl (fun K hK=>?_) kd);go_simp
 refine (WC.out x0 x1 _ (HB.out.trans (hS.mono HB.out.size))).mono ?_;rintro e v ⟨rfl,hb⟩;go_simp
 have G5b:=kF ((hb.block _ (ka.1 G5.out).1).trans G5.out);clear G5;have G5:=G5b;clear G5b;refine hK.out _ _ (kw hS (hb.mono hS.size)) (fun hS=>?_);clear hK K hb;refine Kj (rs:=[16]) (by kernel_rfl) (by simp) (k8 rfl (fun K hK=>?_) kd);go_simp
 refine (F2.out _ (HB.out.trans (hS.mono HB.out.size))).mono ?_;rintro e w' ⟨rfl,hq⟩;subst w';go_simp
 refine hK.out _ _ hS (fun hS=>?_);clear hK K;refine Kj (rs:=[21]) (by kernel_rfl) (by simp) (k8 rfl (fun K hK=>?_) kd);go_simp
 refine (F3.out _ (HB.out.trans (hS.mono HB.out.size))).mono ?_;rintro e w' ⟨rfl,hq⟩;subst w';go_simp
 refine hK.out _ _ hS (fun hS=>?_);clear hK K;refine Kj (rs:=[22]) (by kernel_rfl) (by simp) (k8 rfl (fun K hK=>?_) kd);go_simp
 refine (WC.out x2 x3 _ (HB.out.trans (hS.mono HB.out.size))).mono ?_;rintro e v ⟨rfl,hb⟩;go_simp
 have G5b:=kF ((hb.block _ (ka.1 G5.out).1).trans G5.out);clear G5;have G5:=G5b;clear G5b;refine hK.out _ _ (kw hS (hb.mono hS.size)) (fun hS=>?_);clear hK K hb;refine Held.take (i:=23) (some 34) rfl (v:=?_) rfl (by kernel_rfl) (by kernel_rfl) (by kernel_rfl) (fun c a w h=>hP c _ a w (by rfl) h) (kz ⟨by rfl,?_⟩) hS ?_;rotate_left
 ·intro w' hw';go_simp
  try with_reducible rfl
 (try dsimp only [k6]);(try simp only [k0,k5,k4])
 refine Kj (rs:=[25]) (by kernel_rfl) (by simp) (k8 rfl (fun K hK=>?_) kd);rw [if_pos (by rfl)];refine Same.jI 75 _ _ rfl b5 #[I 0,I 0,I (j8 T x0 x1),I (j8 T x2 x3),I 0,I 0,I 0,I 0,I 0,I 0,I 0] rfl rfl 75 _ G5.out jH rfl (by simp [kn]) rfl ?_;have hS2:=below_setRow hS (g:=b5) (by omega) #[I 0,I 0,I (j8 T x0 x1),I (j8 T x2 x3),I 0,I 0,I 0,I 0,I 0,I 0,I 0];have g5:=Kp v b5 _ #[I 0,I 0,I (j8 T x0 x1),I (j8 T x2 x3),I 0,I 0,I 0,I 0,I 0,I 0,I 0] _ _ G5.out;clear G5 hS;generalize v.setRow _ _=v at hS2 g5 |-;refine hK.out _ _ hS2 (fun hS=>?_);clear hK K hS2;refine Ko (by kernel_rfl) ?_ _;exact HQ.out _ _ _ _ _ _ _ _ _ _ _ _ _ _ _ _ _ _ _ _ _ _ _ _ b5 _ b5lt g5 hS
end GenR
namespace GenR
open Zip
open Go.ChangeShapes Go.WideShapes Go.ChangeAt Go.RowKit
open Tab Clone RefS
open May (jH jK)
open GenW Where
open Same (below_setRow)
theorem jey:(Tryz.prog.info? 75).map (fun i=>(i.zero,i.size))=some (some (.agg #[I 0,I 0,I 0,I 0,I 0,I 0,I 0,I 0,I 0,I 0,I 0]),11):=by kernel_rfl
def Je (n:Int):Int:=ki.wrap (ki.wrap (2 ^ min (Ki.wrap n).toNat 64) - 1)
def jdA (x d n:Int):Int:=bits .andNot .i64 (bits .and .i64 x (Je n)) d
def j1w (x:Int):Int:=[10000,400,20].getD x.toNat 0
theorem j5K (x:Int):0<=j1w x/\j1w x<=10000:=by
 unfold j1w
 match x.toNat with
 | 0 | 1 | 2=>decide
 | _+3=>exact ⟨show (0:Int)<=0 from by decide,show (0:Int)<=10000 from by decide⟩
theorem jff (w:World):K7 Tryz.prog (kR 132 (.agg #[I 10000,I 400,I 20]) (.int .i64 0)) w=.ok (I (j1w 0)) w:=by kernel_rfl
theorem jfg (w:World):K7 Tryz.prog (kR 132 (.agg #[I 10000,I 400,I 20]) (.int .i64 1)) w=.ok (I (j1w 1)) w:=by kernel_rfl
theorem jfh (w:World):K7 Tryz.prog (kR 132 (.agg #[I 10000,I 400,I 20]) (.int .i64 2)) w=.ok (I (j1w 2)) w:=by kernel_rfl
theorem jez (x:Int) (h0:0<=x) (h1:x < 3) (w:World):K7 Tryz.prog (kR 132 (.agg #[I 10000,I 400,I 20]) (.int .i64 x)) w=.ok (I (j1w x)) w:=by
 have:x=0\/x=1\/x=2:=by omega
 rcases this with rfl | rfl | rfl
 ·exact jff w
 ·exact jfg w
 exact jfh w
def JN (T:Tab) (L:List Int) (i n:Int):Rl :=
 let dwell:=j8 T (num L i n) (num L (i+1) n)
 let p:=num L (i+4) (n+1)
 let stay:=1+num L (i+11) 15
 ⟨jdA (num L (i+7) 256) dwell n,if p < n then j8 T p (num L (i+5) n) else 0,dwell,j8 T (num L (i+2) n) (num L (i+3) n),
  num L (i+8) 4,1+num L (i+9) 6,num L (i+10) 6,if p < n then 1+num L (i+6) 10 else 0,stay,if num L (i+12) 3=1 then stay+num L (i+13) 30 else 0,num L (i+8) 4+1+j1w (num L (i+14) 3)⟩
theorem j2M (T:Tab) (hd:Hd) (a:Option Addr) (cap:Nat) (L:List Int) (i n:Int) (w:World) (ht:jy w hd T) (sm:PlaceM.Few T) (h:jc w ⟨a,cap⟩ L) (h0:0<=i) (h1:i<=100000) (n0:0 < n) (n8:n<=8) :
  Calls Tryz.prog 39 #[.agg (T.cells hd).toArray,.slice a L.length cap,.int .i64 i,.int .i64 n] w fun e w'=>e=.returned (.agg (JN T L i n).cells.toArray)/\Below w.heap.size w w':=by
 obtain ⟨x0,hx0,⟨r0,s0⟩,F0⟩:∃ x:Int,x=num L i n/\(0<=x/\x < n)/\Hid (∀ W,Below w.heap.size w W->Calls Tryz.prog 36 #[.slice a L.length cap,.int .i64 i,.int .i64 n] W fun e w'=>e=.returned (.int .i64 x)/\w'=W):=⟨_,rfl,j2 _ _ _ (by omega),hJJ (fun W hb=>(jb a cap L _ _ W (h.below hb) (by omega) (by omega) (by omega)).mono fun _ _ ⟨e,q⟩=>⟨e,q.symm⟩)⟩;obtain ⟨x1,hx1,⟨r1,s1⟩,F1⟩:∃ x:Int,x=num L (i+1) n/\(0<=x/\x < n)/\Hid (∀ W,Below w.heap.size w W->Calls Tryz.prog 36 #[.slice a L.length cap,.int .i64 (i+1),.int .i64 n] W fun e w'=>e=.returned (.int .i64 x)/\w'=W):=⟨_,rfl,j2 _ _ _ (by omega),hJJ (fun W hb=>(jb a cap L _ _ W (h.below hb) (by omega) (by omega) (by omega)).mono fun _ _ ⟨e,q⟩=>⟨e,q.symm⟩)⟩;obtain ⟨x2,hx2,⟨r2,s2⟩,F2⟩:∃ x:Int,x=num L (i+2) n/\(0<=x/\x < n)/\Hid (∀ W,Below w.heap.size w W->Calls Tryz.prog 36 #[.slice a L.length cap,.int .i64 (i+2),.int .i64 n] W fun e w'=>e=.returned (.int .i64 x)/\w'=W):=⟨_,rfl,j2 _ _ _ (by omega),hJJ (fun W hb=>(jb a cap L _ _ W (h.below hb) (by omega) (by omega) (by omega)).mono fun _ _ ⟨e,q⟩=>⟨e,q.symm⟩)⟩;obtain ⟨x3,hx3,⟨r3,s3⟩,F3⟩:∃ x:Int,x=num L (i+3) n/\(0<=x/\x < n)/\Hid (∀ W,Below w.heap.size w W->Calls Tryz.prog 36 #[.slice a L.length cap,.int .i64 (i+3),.int .i64 n] W fun e w'=>e=.returned (.int .i64 x)/\w'=W):=⟨_,rfl,j2 _ _ _ (by omega),hJJ (fun W hb=>(jb a cap L _ _ W (h.below hb) (by omega) (by omega) (by omega)).mono fun _ _ ⟨e,q⟩=>⟨e,q.symm⟩)⟩;obtain ⟨x4,hx4,⟨r4,s4⟩,F4⟩:∃ x:Int,x=num L (i+4) (n+1)/\(0<=x/\x < (n+1))/\Hid (∀ W,Below w.heap.size w W->Calls Tryz.prog 36 #[.slice a L.length cap,.int .i64 (i+4),.int .i64 (n+1)] W fun e w'=>e=.returned (.int .i64 x)/\w'=W):=⟨_,rfl,j2 _ _ _ (by omega),hJJ (fun W hb=>(jb a cap L _ _ W (h.below hb) (by omega) (by omega) (by omega)).mono fun _ _ ⟨e,q⟩=>⟨e,q.symm⟩)⟩;obtain ⟨x5,hx5,⟨r5,s5⟩,F5⟩:∃ x:Int,x=num L (i+5) n/\(0<=x/\x < n)/\Hid (∀ W,Below w.heap.size w W->Calls Tryz.prog 36 #[.slice a L.length cap,.int .i64 (i+5),.int .i64 n] W fun e w'=>e=.returned (.int .i64 x)/\w'=W):=⟨_,rfl,j2 _ _ _ (by omega),hJJ (fun W hb=>(jb a cap L _ _ W (h.below hb) (by omega) (by omega) (by omega)).mono fun _ _ ⟨e,q⟩=>⟨e,q.symm⟩)⟩;obtain ⟨x6,hx6,⟨r6,s6⟩,F6⟩:∃ x:Int,x=num L (i+6) 10/\(0<=x/\x < 10)/\Hid (∀ W,Below w.heap.size w W->Calls Tryz.prog 36 #[.slice a L.length cap,.int .i64 (i+6),.int .i64 10] W fun e w'=>e=.returned (.int .i64 x)/\w'=W):=⟨_,rfl,j2 _ _ _ (by omega),hJJ (fun W hb=>(jb a cap L _ _ W (h.below hb) (by omega) (by omega) (by omega)).mono fun _ _ ⟨e,q⟩=>⟨e,q.symm⟩)⟩;obtain ⟨x7,hx7,⟨r7,s7⟩,F7⟩:∃ x:Int,x=num L (i+7) 256/\(0<=x/\x < 256)/\Hid (∀ W,Below w.heap.size w W->Calls Tryz.prog 36 #[.slice a L.length cap,.int .i64 (i+7),.int .i64 256] W fun e w'=>e=.returned (.int .i64 x)/\w'=W):=⟨_,rfl,j2 _ _ _ (by omega),hJJ (fun W hb=>(jb a cap L _ _ W (h.below hb) (by omega) (by omega) (by omega)).mono fun _ _ ⟨e,q⟩=>⟨e,q.symm⟩)⟩;obtain ⟨x8,hx8,⟨r8,s8⟩,F8⟩:∃ x:Int,x=num L (i+8) 4/\(0<=x/\x < 4)/\Hid (∀ W,Below w.heap.size w W->Calls Tryz.prog 36 #[.slice a L.length cap,.int .i64 (i+8),.int .i64 4] W fun e w'=>e=.returned (.int .i64 x)/\w'=W):=⟨_,rfl,j2 _ _ _ (by omega),hJJ (fun W hb=>(jb a cap L _ _ W (h.below hb) (by omega) (by omega) (by omega)).mono fun _ _ ⟨e,q⟩=>⟨e,q.symm⟩)⟩;obtain ⟨x9,hx9,⟨r9,s9⟩,F9⟩:∃ x:Int,x=num L (i+9) 6/\(0<=x/\x < 6)/\Hid (∀ W,Below w.heap.size w W->Calls Tryz.prog 36 #[.slice a L.length cap,.int .i64 (i+9),.int .i64 6] W fun e w'=>e=.returned (.int .i64 x)/\w'=W):=⟨_,rfl,j2 _ _ _ (by omega),hJJ (fun W hb=>(jb a cap L _ _ W (h.below hb) (by omega) (by omega) (by omega)).mono fun _ _ ⟨e,q⟩=>⟨e,q.symm⟩)⟩;obtain ⟨xa,hxa,⟨ra,sa⟩,Fa⟩:∃ x:Int,x=num L (i+10) 6/\(0<=x/\x < 6)/\Hid (∀ W,Below w.heap.size w W->Calls Tryz.prog 36 #[.slice a L.length cap,.int .i64 (i+10),.int .i64 6] W fun e w'=>e=.returned (.int .i64 x)/\w'=W):=⟨_,rfl,j2 _ _ _ (by omega),hJJ (fun W hb=>(jb a cap L _ _ W (h.below hb) (by omega) (by omega) (by omega)).mono fun _ _ ⟨e,q⟩=>⟨e,q.symm⟩)⟩;obtain ⟨xb,hxb,⟨rb,sb⟩,Fb⟩:∃ x:Int,x=num L (i+11) 15/\(0<=x/\x < 15)/\Hid (∀ W,Below w.heap.size w W->Calls Tryz.prog 36 #[.slice a L.length cap,.int .i64 (i+11),.int .i64 15] W fun e w'=>e=.returned (.int .i64 x)/\w'=W):=⟨_,rfl,j2 _ _ _ (by omega),hJJ (fun W hb=>(jb a cap L _ _ W (h.below hb) (by omega) (by omega) (by omega)).mono fun _ _ ⟨e,q⟩=>⟨e,q.symm⟩)⟩;obtain ⟨xc,hxc,⟨rc,sc⟩,Fc⟩:∃ x:Int,x=num L (i+12) 3/\(0<=x/\x < 3)/\Hid (∀ W,Below w.heap.size w W->Calls Tryz.prog 36 #[.slice a L.length cap,.int .i64 (i+12),.int .i64 3] W fun e w'=>e=.returned (.int .i64 x)/\w'=W):=⟨_,rfl,j2 _ _ _ (by omega),hJJ (fun W hb=>(jb a cap L _ _ W (h.below hb) (by omega) (by omega) (by omega)).mono fun _ _ ⟨e,q⟩=>⟨e,q.symm⟩)⟩;obtain ⟨xd,hxd,⟨rd,sd⟩,Fd⟩:∃ x:Int,x=num L (i+13) 30/\(0<=x/\x < 30)/\Hid (∀ W,Below w.heap.size w W->Calls Tryz.prog 36 #[.slice a L.length cap,.int .i64 (i+13),.int .i64 30] W fun e w'=>e=.returned (.int .i64 x)/\w'=W):=⟨_,rfl,j2 _ _ _ (by omega),hJJ (fun W hb=>(jb a cap L _ _ W (h.below hb) (by omega) (by omega) (by omega)).mono fun _ _ ⟨e,q⟩=>⟨e,q.symm⟩)⟩;obtain ⟨xg,hxg,⟨rg,sg⟩,Fg⟩:∃ x:Int,x=num L (i+14) 3/\(0<=x/\x < 3)/\Hid (∀ W,Below w.heap.size w W->Calls Tryz.prog 36 #[.slice a L.length cap,.int .i64 (i+14),.int .i64 3] W fun e w'=>e=.returned (.int .i64 x)/\w'=W):=⟨_,rfl,j2 _ _ _ (by omega),hJJ (fun W hb=>(jb a cap L _ _ W (h.below hb) (by omega) (by omega) (by omega)).mono fun _ _ ⟨e,q⟩=>⟨e,q.symm⟩)⟩;have hsz:=(j9 ht).size;have IA:Hid ((Tryz.prog.info? 33).map (·.size)=some (T.cells hd).length):=hJJ (by rw [kr] at hsz;rw [hsz];exact jK);have WC:Hid (∀ (p q:Int) W,Below w.heap.size w W->Calls Tryz.prog 73 #[.agg (T.cells hd).toArray,.int .i64 p,.int .i64 q] W fun e w'=>e=.returned (.int .i64 (j8 T p q))/\Below W.heap.size W w'):=hJJ (fun p q W hb=>jbd T hd p q W (ht.below hb) sm);generalize T.cells hd=c at *;clear ht sm h;obtain ⟨bv,hbv,EB⟩:∃ v:Int,v=jdA x7 (j8 T x0 x1) n/\Hid (bits .andNot .i64 (bits .and .i64 x7 (ki.wrap (ki.wrap (2 ^ min (Ki.wrap n).toNat 64) - 1))) (j8 T x0 x1)=v):=⟨_,rfl,hJJ rfl⟩;obtain ⟨vg,hvg,⟨rv,sv⟩,EG⟩:∃ v:Int,v=j1w xg/\(0<=v/\v<=10000)/\Hid (∀ w,K7 Tryz.prog (kR 132 (.agg #[I 10000,I 400,I 20]) (.int .i64 xg)) w=.ok (.int .i64 v) w):=⟨_,rfl,j5K xg,hJJ (fun w=>jez xg rg sg w)⟩;have RES:Hid (JN T L i n=⟨bv,if x4 < n then j8 T x4 x5 else 0,j8 T x0 x1,j8 T x2 x3,x8,1+x9,xa,if x4 < n then 1+x6 else 0,1+xb,if xc=1 then 1+xb+xd else 0,x8+1+vg⟩):=hJJ (by subst hbv hvg hx0 hx1 hx2 hx3 hx4 hx5 hx6 hx7 hx8 hx9 hxa hxb hxc hxd hxg;rfl);generalize JN T L i n=R at RES |-;clear hbv hvg;clear hx0 hx1 hx2 hx3 hx4 hx5 hx6 hx7 hx8 hx9 hxa hxb hxc hxd hxg;have hz:=(KC jey).1;have hb:=((kc w.heap.size w).alloc (kb _) (.cells c.toArray 33)).alloc (by simp) (.cells #[I 0,I 0,I 0,I 0,I 0,I 0,I 0,I 0,I 0,I 0,I 0] 75);have g0:=KA w (.cells c.toArray 33) (.cells #[I 0,I 0,I 0,I 0,I 0,I 0,I 0,I 0,I 0,I 0,I 0] 75);have g4:=KB w (.cells c.toArray 33) (.cells #[I 0,I 0,I 0,I 0,I 0,I 0,I 0,I 0,I 0,I 0,I 0] 75);have hs:((w.alloc (.cells c.toArray 33)).alloc (.cells #[I 0,I 0,I 0,I 0,I 0,I 0,I 0,I 0,I 0,I 0,I 0] 75)).heap.size=w.heap.size+2:=by simp
 have HB:=hJJ hb;have G0:=hJJ g0;have G4:=hJJ g4;have HS:=hJJ hs;clear hb g0 g4 hs;go_enter Tryz.func39,Tryz.ntmps39
 go_upto_region 1 with fail
 generalize (kf (kf w _) _)=u at HB G0 G4 HS |-;clear hsz hz
 have LT:Hid (∀ w',Below u.heap.size u w'->jl w' ⟨w.heap.size,0,none⟩ c):=hJJ (fun w' hb=>by
  have:=(Row.j1 G0.out);exact jl.below this hb)
 refine jbg (fun c a a' w e h=>by cases a;cases a';cases e;exact h) T c a cap L i n x0 x1 x2 x3 w u h0 h1 IA HB HS LT F0 F1 F2 F3 WC _ _ _ _ _ _ _ _ _ _ _ _ _ _ _ _ _ _ _ _ _ _ _ _ _ _ _ _ _ _ _ _ _ _ _ _ _ _ _ _ _ _ _ _ _ _ _ _ _ _ _ _ _ _ _ _ _ _ _ _ _ _ _ _ _ _ _ _ _ _ _ _ _ _ _ _ _ _ _ _ _ _ _ _ _ _ _ _ _ _ _ _ _ _ _ _ _ _ _ _ _ _ _ _ _ _ _ _ _ _ _ _ _ _ _ (hJJ ?_);intro x_11 x_12 x_13 x_14 x_15 x_16 x_17 x_18 x_19 x_20 x_21 x_22 x_23 x_24 x_25 x_26 x_27 x_28 x_29 x_30 x_31 x_32 x_33 x_34 b5 wx b5lt g5 hbx;have hb:=HB.out.trans (hbx.mono HB.out.size);have gG0:=(hbx.block _ (by have:=HS.out;omega)).trans G0.out;have gG4:=(hbx.block _ (by have:=HS.out;omega)).trans G4.out;clear HB G0 G4 HS LT hbx;generalize wx=u0 at gG0 gG4 g5 hb |-;have G0:=hJJ gG0;have G4:=hJJ gG4;have G5:=hJJ g5;have HB:=hJJ hb;clear gG0 gG4 g5 hb;go_wp2_with fail
 refine (F4.out _ HB.out).mono ?_;rintro e w' ⟨rfl,hq⟩;subst w';by_cases h4:x4 < n
 ·have H4:=hJJ h4;go_upto_region 4 with fail
  clear h4
  have LT:Hid (∀ w',Below b5 u0 w'->jl w' ⟨w.heap.size,0,none⟩ c):=hJJ (fun w' hb=>by
   have g:=(hb.block w.heap.size (by omega)).trans G0.out;have:=Row.j1 g;simpa using this)
  have e5:ki.wrap (i+5)=i+5:=by rw [ke];omega
  refine Kq (S:=fun w'=>Below b5 u0 w') (by kernel_rfl) ?_;have hS:Below b5 u0 { u0 with drawn:=u0.drawn+1 }:=(kc _ _).drew;have G5v:Hid (({ u0 with drawn:=u0.drawn+1 }:World).heap[b5]?=some (.cells #[I 0,I 0,I (j8 T x0 x1),I (j8 T x2 x3),I 0,I 0,I 0,I 0,I 0,I 0,I 0] 75 (0,0))):=hJJ G5.out;generalize ({ u0 with drawn:=u0.drawn+1 }:World)=v at hS G5v |-;refine Held.j0J (i:=0) (some 44) rfl 33 _ ⟨w.heap.size,0,none⟩ c _ rfl rfl (by kernel_rfl) (by kernel_rfl) (by kernel_rfl) (fun _ _ _ h=>h) (by rfl) hS rfl (LT.out) Tryz.underlying33 rfl IA.out ?_
  (try dsimp only [k6]);(try simp only [zA,zB,zC])
  refine tkZ 1 45 ?_ rfl ?_ hS ?_;rotate_left
  ·intro w' hw';go_simp
   try with_reducible rfl
  (try dsimp only [k6]);(try simp only [zA,zB,zC])
  refine tkZ 2 46 ?_ rfl ?_ hS ?_;rotate_left
  ·intro w' hw';go_simp
   try with_reducible rfl
  (try dsimp only [k6]);(try simp only [zA,zB,zC])
  refine tkZ 3 47 ?_ rfl ?_ hS ?_;rotate_left
  ·intro w' hw';go_simp
   try with_reducible rfl
  (try dsimp only [k6]);(try simp only [zA,zB,zC])
  refine tkZ 4 48 ?_ rfl ?_ hS ?_;rotate_left
  ·intro w' hw';go_simp
   try with_reducible rfl
  (try dsimp only [k6]);(try simp only [zA,zB,zC])
  refine tkZ 5 49 ?_ rfl ?_ hS ?_;rotate_left
  ·intro w' hw';go_simp
   try with_reducible rfl
  (try dsimp only [k6]);(try simp only [zA,zB,zC])
  refine rdZ 6 rfl (fun K hK=>?_);go_simp
  refine (F5.out _ (HB.out.trans (hS.mono (by omega)))).mono ?_;rintro e w' ⟨rfl,hq⟩;subst w';go_simp
  refine hK.out _ _ hS (fun hS=>?_);clear hK K;refine rdZ 7 rfl (fun K hK=>?_);go_simp
  refine (WC.out x4 x5 _ (HB.out.trans (hS.mono (by omega)))).mono ?_;rintro e v ⟨rfl,hb⟩;go_simp
  have hlt:=(ka.1 G5v.out).1;have G5w:=hJJ ((hb.block _ hlt).trans G5v.out);refine hK.out _ _ (hS.trans (hb.mono (by omega))) (fun hS=>?_);clear hK K hb hlt G5v;refine tkZ 8 52 ?_ rfl ?_ hS ?_;rotate_left
  ·intro w' hw';go_simp
   try with_reducible rfl
  (try dsimp only [k6]);(try simp only [zA,zB,zC])
  have c1:v.cell? ⟨b5,1,none⟩=some (I 0):=by rw [Kl _ _ _ _ _ _ G5w.out];rfl
  have f1:v.frozen? ⟨b5,1,none⟩=false:=Km _ _ _ _ _ G5w.out;refine rdZ 9 rfl (fun K hK=>?_);go_simp
  have hS2:=Owned.ja hS (kb b5) (i:=1) (.int .i64 (j8 T x4 x5));have g5:=Kk v b5 1 _ _ (.int .i64 (j8 T x4 x5)) G5w.out;simp only [k0,k4,k5] at g5;clear c1 f1 G5w hS;generalize km v ⟨b5,1,none⟩ _=v at hS2 g5 |-;refine hK.out _ _ hS2 (fun hS=>?_);clear hK K;refine Ko (by kernel_rfl) ?_ _;have hb:=HB.out.trans (hS2.mono (by omega));have gG0:=(hS2.block w.heap.size (by omega)).trans G0.out;have gG4:=(hS2.block (w.heap.size+1) (by omega)).trans G4.out;clear HB G0 G4 G5 hS hS2 LT e5;generalize v=u1 at gG0 gG4 g5 hb |-;have G0:=hJJ gG0;have G4:=hJJ gG4;have G5:=hJJ g5;have HB:=hJJ hb;clear gG0 gG4 g5 hb;go_upto_region 5 with fail
  have c7:u1.cell? ⟨b5,7,none⟩=some (I 0):=by rw [Kl _ _ _ _ _ _ G5.out];rfl
  have f7:u1.frozen? ⟨b5,7,none⟩=false:=Km _ _ _ _ _ G5.out;go_wp2_with fail
  refine (F6.out _ HB.out).mono ?_;rintro e w' ⟨rfl,hq⟩;subst w';go_upto_region 6 with fail
  have g5:=Kk u1 b5 7 _ _ (I (1+x6)) G5.out;simp only [k0,k4,k5] at g5;have gG0:=(k7 u1 ⟨b5,7,none⟩ (I (1+x6)) w.heap.size (by simp;omega)).trans G0.out;have gG4:=(k7 u1 ⟨b5,7,none⟩ (I (1+x6)) (w.heap.size+1) (by simp;omega)).trans G4.out;have hb:=Owned.ja HB.out (g:=b5) (i:=7) (by omega) (I (1+x6));clear c7 f7 G0 G4 G5 HB;generalize km u1 ⟨b5,7,none⟩ (I (1+x6))=u2 at gG0 gG4 g5 hb |-;have G0:=hJJ gG0;have G4:=hJJ gG4;have G5:=hJJ g5;have HB:=hJJ hb;clear gG0 gG4 g5 hb;have e0:ki.wrap (i+7)=i+7:=by rw [ke];omega
  have eb:=EB.out;have gG0:u2.drew.heap[w.heap.size]?=some (.cells c.toArray 33 (0,0)):=G0.out;have gG4:u2.drew.heap[(w.heap.size+1)]?=some (.cells #[I 0,I 0,I 0,I 0,I 0,I 0,I 0,I 0,I 0,I 0,I 0] 75 (0,0)):=G4.out;have g5:u2.drew.heap[b5]?=some (.cells #[I 0,I (j8 T x4 x5),I (j8 T x0 x1),I (j8 T x2 x3),I 0,I 0,I 0,I (1+x6),I 0,I 0,I 0] 75 (0,0)):=G5.out;have hb:Below w.heap.size w u2.drew:=HB.out.drew;clear G0 G4 G5 HB;refine QB.jo 13 (by kernel_rfl) (by kernel_rfl) ?_;generalize kK u2=u3 at gG0 gG4 g5 hb |-;have G0:=hJJ gG0;have G4:=hJJ gG4;have G5:=hJJ g5;have HB:=hJJ hb;clear gG0 gG4 g5 hb;have c0:u3.cell? ⟨b5,0,none⟩=some (I 0):=by rw [Kl _ _ _ _ _ _ G5.out];rfl
  have c2:u3.cell? ⟨b5,2,none⟩=some (I (j8 T x0 x1)):=by rw [Kl _ _ _ _ _ _ G5.out];rfl
  have f0:u3.frozen? ⟨b5,0,none⟩=false:=Km _ _ _ _ _ G5.out;simp only [ku,kC,kv,kE];repeat still_step
  still_call (F7.out _ HB.out)
  repeat still_step
  refine Ku ?_;go_upto_region 7 with fail
  clear e0 eb;have g5:=Kk u3 b5 0 _ _ (I bv) G5.out;simp only [k0,k4,k5] at g5;have gG0:=(k7 u3 ⟨b5,0,none⟩ (I bv) w.heap.size (by simp;omega)).trans G0.out;have gG4:=(k7 u3 ⟨b5,0,none⟩ (I bv) (w.heap.size+1) (by simp;omega)).trans G4.out;have hb:=Owned.ja HB.out (g:=b5) (i:=0) (by omega) (I bv);clear c0 c2 f0 G0 G4 G5 HB;generalize km u3 ⟨b5,0,none⟩ (I bv)=u4 at gG0 gG4 g5 hb |-;have G0:=hJJ gG0;have G4:=hJJ gG4;have G5:=hJJ g5;have HB:=hJJ hb;clear gG0 gG4 g5 hb;have c4:u4.cell? ⟨b5,4,none⟩=some (I 0):=by rw [Kl _ _ _ _ _ _ G5.out];rfl
  have f4:u4.frozen? ⟨b5,4,none⟩=false:=Km _ _ _ _ _ G5.out;go_wp2_with fail
  refine (F8.out _ HB.out).mono ?_;rintro e w' ⟨rfl,hq⟩;subst w';go_upto_region 8 with fail
  have g5:=Kk u4 b5 4 _ _ (I x8) G5.out;simp only [k0,k4,k5] at g5;have gG0:=(k7 u4 ⟨b5,4,none⟩ (I x8) w.heap.size (by simp;omega)).trans G0.out;have gG4:=(k7 u4 ⟨b5,4,none⟩ (I x8) (w.heap.size+1) (by simp;omega)).trans G4.out;have hb:=Owned.ja HB.out (g:=b5) (i:=4) (by omega) (I x8);clear c4 f4 G0 G4 G5 HB;generalize km u4 ⟨b5,4,none⟩ (I x8)=u5 at gG0 gG4 g5 hb |-;have G0:=hJJ gG0;have G4:=hJJ gG4;have G5:=hJJ g5;have HB:=hJJ hb;clear gG0 gG4 g5 hb;have c5:u5.cell? ⟨b5,5,none⟩=some (I 0):=by rw [Kl _ _ _ _ _ _ G5.out];rfl
  have f5:u5.frozen? ⟨b5,5,none⟩=false:=Km _ _ _ _ _ G5.out;go_wp2_with fail
  refine (F9.out _ HB.out).mono ?_;rintro e w' ⟨rfl,hq⟩;subst w';go_upto_region 9 with fail
  have g5:=Kk u5 b5 5 _ _ (I (1+x9)) G5.out;simp only [k0,k4,k5] at g5;have gG0:=(k7 u5 ⟨b5,5,none⟩ (I (1+x9)) w.heap.size (by simp;omega)).trans G0.out;have gG4:=(k7 u5 ⟨b5,5,none⟩ (I (1+x9)) (w.heap.size+1) (by simp;omega)).trans G4.out;have hb:=Owned.ja HB.out (g:=b5) (i:=5) (by omega) (I (1+x9));clear c5 f5 G0 G4 G5 HB;generalize km u5 ⟨b5,5,none⟩ (I (1+x9))=u6 at gG0 gG4 g5 hb |-;have G0:=hJJ gG0;have G4:=hJJ gG4;have G5:=hJJ g5;have HB:=hJJ hb;clear gG0 gG4 g5 hb;have c6:u6.cell? ⟨b5,6,none⟩=some (I 0):=by rw [Kl _ _ _ _ _ _ G5.out];rfl
  have f6:u6.frozen? ⟨b5,6,none⟩=false:=Km _ _ _ _ _ G5.out;go_wp2_with fail
  refine (Fa.out _ HB.out).mono ?_;rintro e w' ⟨rfl,hq⟩;subst w';go_upto_region 10 with fail
  have g5:=Kk u6 b5 6 _ _ (I xa) G5.out;simp only [k0,k4,k5] at g5;have gG0:=(k7 u6 ⟨b5,6,none⟩ (I xa) w.heap.size (by simp;omega)).trans G0.out;have gG4:=(k7 u6 ⟨b5,6,none⟩ (I xa) (w.heap.size+1) (by simp;omega)).trans G4.out;have hb:=Owned.ja HB.out (g:=b5) (i:=6) (by omega) (I xa);clear c6 f6 G0 G4 G5 HB;generalize km u6 ⟨b5,6,none⟩ (I xa)=u7 at gG0 gG4 g5 hb |-;have G0:=hJJ gG0;have G4:=hJJ gG4;have G5:=hJJ g5;have HB:=hJJ hb;clear gG0 gG4 g5 hb;have c8:u7.cell? ⟨b5,8,none⟩=some (I 0):=by rw [Kl _ _ _ _ _ _ G5.out];rfl
  have f8:u7.frozen? ⟨b5,8,none⟩=false:=Km _ _ _ _ _ G5.out;go_wp2_with fail
  refine (Fb.out _ HB.out).mono ?_;rintro e w' ⟨rfl,hq⟩;subst w';go_upto_region 11 with fail
  have g5:=Kk u7 b5 8 _ _ (I (1+xb)) G5.out;simp only [k0,k4,k5] at g5;have gG0:=(k7 u7 ⟨b5,8,none⟩ (I (1+xb)) w.heap.size (by simp;omega)).trans G0.out;have gG4:=(k7 u7 ⟨b5,8,none⟩ (I (1+xb)) (w.heap.size+1) (by simp;omega)).trans G4.out;have hb:=Owned.ja HB.out (g:=b5) (i:=8) (by omega) (I (1+xb));clear c8 f8 G0 G4 G5 HB;generalize km u7 ⟨b5,8,none⟩ (I (1+xb))=u8 at gG0 gG4 g5 hb |-;have G0:=hJJ gG0;have G4:=hJJ gG4;have G5:=hJJ g5;have HB:=hJJ hb;clear gG0 gG4 g5 hb;go_wp2_with fail
  refine (Fc.out _ HB.out).mono ?_;rintro e w' ⟨rfl,hq⟩;subst w';by_cases hc:xc=1
  ·have HC:=hJJ hc;have ec:(xc == 1)=true:=by simpa using hc
   clear hc;go_upto_region 12 with fail
   have e0:ki.wrap (i+13)=i+13:=by rw [ke];omega
   have e1:ki.wrap (1+xb+xd)=1+xb+xd:=by rw [ke];omega
   have gG0:u8.drew.heap[w.heap.size]?=some (.cells c.toArray 33 (0,0)):=G0.out;have gG4:u8.drew.heap[(w.heap.size+1)]?=some (.cells #[I 0,I 0,I 0,I 0,I 0,I 0,I 0,I 0,I 0,I 0,I 0] 75 (0,0)):=G4.out;have g5:u8.drew.heap[b5]?=some (.cells #[I bv,I (j8 T x4 x5),I (j8 T x0 x1),I (j8 T x2 x3),I x8,I (1+x9),I xa,I (1+x6),I (1+xb),I 0,I 0] 75 (0,0)):=G5.out;have hb:Below w.heap.size w u8.drew:=HB.out.drew;clear G0 G4 G5 HB;refine QB.jo 8 (by kernel_rfl) (by kernel_rfl) ?_;generalize kK u8=u9 at gG0 gG4 g5 hb |-;have G0:=hJJ gG0;have G4:=hJJ gG4;have G5:=hJJ g5;have HB:=hJJ hb;clear gG0 gG4 g5 hb;have c8:u9.cell? ⟨b5,8,none⟩=some (I (1+xb)):=by rw [Kl _ _ _ _ _ _ G5.out];rfl
   have c9:u9.cell? ⟨b5,9,none⟩=some (I 0):=by rw [Kl _ _ _ _ _ _ G5.out];rfl
   have f9:u9.frozen? ⟨b5,9,none⟩=false:=Km _ _ _ _ _ G5.out;simp only [ku,kC,kv,kE];repeat still_step
   still_call (Fd.out _ HB.out)
   repeat still_step
   refine Ku ?_;go_upto_region 13 with fail
   clear e0 e1;have g5:=Kk u9 b5 9 _ _ (I (1+xb+xd)) G5.out;simp only [k0,k4,k5] at g5;have gG0:=(k7 u9 ⟨b5,9,none⟩ (I (1+xb+xd)) w.heap.size (by simp;omega)).trans G0.out;have gG4:=(k7 u9 ⟨b5,9,none⟩ (I (1+xb+xd)) (w.heap.size+1) (by simp;omega)).trans G4.out;have hb:=Owned.ja HB.out (g:=b5) (i:=9) (by omega) (I (1+xb+xd));clear c8 c9 f9 G0 G4 G5 HB;generalize km u9 ⟨b5,9,none⟩ (I (1+xb+xd))=u10 at gG0 gG4 g5 hb |-;have G0:=hJJ gG0;have G4:=hJJ gG4;have G5:=hJJ g5;have HB:=hJJ hb;clear gG0 gG4 g5 hb;have e0:ki.wrap (x8+1)=x8+1:=by rw [ke];omega
   have e1:ki.wrap (i+14)=i+14:=by rw [ke];omega
   have e2:ki.wrap (x8+1+vg)=x8+1+vg:=by rw [ke];omega
   have eg:=EG.out;have gG0:u10.drew.heap[w.heap.size]?=some (.cells c.toArray 33 (0,0)):=G0.out;have gG4:u10.drew.heap[(w.heap.size+1)]?=some (.cells #[I 0,I 0,I 0,I 0,I 0,I 0,I 0,I 0,I 0,I 0,I 0] 75 (0,0)):=G4.out;have g5:u10.drew.heap[b5]?=some (.cells #[I bv,I (j8 T x4 x5),I (j8 T x0 x1),I (j8 T x2 x3),I x8,I (1+x9),I xa,I (1+x6),I (1+xb),I (1+xb+xd),I 0] 75 (0,0)):=G5.out;have hb:Below w.heap.size w u10.drew:=HB.out.drew;clear G0 G4 G5 HB;refine QB.jo 11 (by kernel_rfl) (by kernel_rfl) ?_;generalize kK u10=u11 at gG0 gG4 g5 hb |-;have G0:=hJJ gG0;have G4:=hJJ gG4;have G5:=hJJ g5;have HB:=hJJ hb;clear gG0 gG4 g5 hb;have c4:u11.cell? ⟨b5,4,none⟩=some (I x8):=by rw [Kl _ _ _ _ _ _ G5.out];rfl
   have c10:u11.cell? ⟨b5,10,none⟩=some (I 0):=by rw [Kl _ _ _ _ _ _ G5.out];rfl
   have f10:u11.frozen? ⟨b5,10,none⟩=false:=Km _ _ _ _ _ G5.out;simp only [ku,kC,kv,kE];repeat still_step
   still_call (Fg.out _ HB.out)
   repeat still_step
   refine Ku ?_;go_upto_region 14 with fail
   clear e0 e1 e2 eg;have g5:=Kk u11 b5 10 _ _ (I (x8+1+vg)) G5.out;simp only [k0,k4,k5] at g5;have gG0:=(k7 u11 ⟨b5,10,none⟩ (I (x8+1+vg)) w.heap.size (by simp;omega)).trans G0.out;have gG4:=(k7 u11 ⟨b5,10,none⟩ (I (x8+1+vg)) (w.heap.size+1) (by simp;omega)).trans G4.out;have hb:=Owned.ja HB.out (g:=b5) (i:=10) (by omega) (I (x8+1+vg));clear c4 c10 f10 G0 G4 G5 HB;generalize km u11 ⟨b5,10,none⟩ (I (x8+1+vg))=u12 at gG0 gG4 g5 hb |-;have G0:=hJJ gG0;have G4:=hJJ gG4;have G5:=hJJ g5;have HB:=hJJ hb;clear gG0 gG4 g5 hb;have FIN:Hid (R.cells.toArray=#[I bv,I (j8 T x4 x5),I (j8 T x0 x1),I (j8 T x2 x3),I x8,I (1+x9),I xa,I (1+x6),I (1+xb),I (1+xb+xd),I (x8+1+vg)]):=hJJ (by rw [RES.out];simp only [Rl.cells,if_pos H4.out,if_pos HC.out]);have LV:Hid (jl u12 ⟨b5,0,none⟩ #[I bv,I (j8 T x4 x5),I (j8 T x0 x1),I (j8 T x2 x3),I x8,I (1+x9),I xa,I (1+x6),I (1+xb),I (1+xb+xd),I (x8+1+vg)].toList):=hJJ (Row.j1 G5.out);have HG:=hJJ (below_setRow HB.out (g:=w.heap.size+1) (by omega) #[I bv,I (j8 T x4 x5),I (j8 T x0 x1),I (j8 T x2 x3),I x8,I (1+x9),I xa,I (1+x6),I (1+xb),I (1+xb+xd),I (x8+1+vg)]);have HK:=hJJ (Kp u12 (w.heap.size+1) _ #[I bv,I (j8 T x4 x5),I (j8 T x0 x1),I (j8 T x2 x3),I x8,I (1+x9),I xa,I (1+x6),I (1+xb),I (1+xb+xd),I (x8+1+vg)] _ _ G4.out);go_wp2_with (first | (refine Row.j7 75 _ rfl (by first | rfl | go_simp) ⟨b5,0,none⟩ rfl #[I bv,I (j8 T x4 x5),I (j8 T x0 x1),I (j8 T x2 x3),I x8,I (1+x9),I xa,I (1+x6),I (1+xb),I (1+xb+xd),I (x8+1+vg)].toList _ LV.out Tryz.underlying75 rfl jH ?_) | (refine Ks rfl 75 _ _ rfl (w.heap.size+1) #[I bv,I (j8 T x4 x5),I (j8 T x0 x1),I (j8 T x2 x3),I x8,I (1+x9),I xa,I (1+x6),I (1+xb),I (1+xb+xd),I (x8+1+vg)] rfl rfl 75 _ G4.out jH rfl (by simp [kn]) ?_))
   generalize u12.setRow (w.heap.size+1) #[I bv,I (j8 T x4 x5),I (j8 T x0 x1),I (j8 T x2 x3),I x8,I (1+x9),I xa,I (1+x6),I (1+xb),I (1+xb+xd),I (x8+1+vg)]=uz at HG HK |-;go_wp2_with fail
   (try simp only [kL,Exit.then])
   refine Kv (v:=.agg #[I bv,I (j8 T x4 x5),I (j8 T x0 x1),I (j8 T x2 x3),I x8,I (1+x9),I xa,I (1+x6),I (1+xb),I (1+xb+xd),I (x8+1+vg)]) ?_ rfl ⟨by rw [FIN.out],HG.out⟩;exact Kw rfl _ _ (w.heap.size+1) 75 _ (0,0) _ rfl HK.out Tryz.underlying75 rfl jH
  have HC:=hJJ hc;have ec:(xc == 1)=false:=by simpa using hc
  clear hc;go_upto_region 13 with fail
  have e0:ki.wrap (x8+1)=x8+1:=by rw [ke];omega
  have e1:ki.wrap (i+14)=i+14:=by rw [ke];omega
  have e2:ki.wrap (x8+1+vg)=x8+1+vg:=by rw [ke];omega
  have eg:=EG.out;have gG0:u8.drew.heap[w.heap.size]?=some (.cells c.toArray 33 (0,0)):=G0.out;have gG4:u8.drew.heap[(w.heap.size+1)]?=some (.cells #[I 0,I 0,I 0,I 0,I 0,I 0,I 0,I 0,I 0,I 0,I 0] 75 (0,0)):=G4.out;have g5:u8.drew.heap[b5]?=some (.cells #[I bv,I (j8 T x4 x5),I (j8 T x0 x1),I (j8 T x2 x3),I x8,I (1+x9),I xa,I (1+x6),I (1+xb),I 0,I 0] 75 (0,0)):=G5.out;have hb:Below w.heap.size w u8.drew:=HB.out.drew;clear G0 G4 G5 HB;refine QB.jo 11 (by kernel_rfl) (by kernel_rfl) ?_;generalize kK u8=u9 at gG0 gG4 g5 hb |-;have G0:=hJJ gG0;have G4:=hJJ gG4;have G5:=hJJ g5;have HB:=hJJ hb;clear gG0 gG4 g5 hb;have c4:u9.cell? ⟨b5,4,none⟩=some (I x8):=by rw [Kl _ _ _ _ _ _ G5.out];rfl
  have c10:u9.cell? ⟨b5,10,none⟩=some (I 0):=by rw [Kl _ _ _ _ _ _ G5.out];rfl
  have f10:u9.frozen? ⟨b5,10,none⟩=false:=Km _ _ _ _ _ G5.out;simp only [ku,kC,kv,kE];repeat still_step
  still_call (Fg.out _ HB.out)
  repeat still_step
  refine Ku ?_;go_upto_region 14 with fail
  clear e0 e1 e2 eg;have g5:=Kk u9 b5 10 _ _ (I (x8+1+vg)) G5.out;simp only [k0,k4,k5] at g5;have gG0:=(k7 u9 ⟨b5,10,none⟩ (I (x8+1+vg)) w.heap.size (by simp;omega)).trans G0.out;have gG4:=(k7 u9 ⟨b5,10,none⟩ (I (x8+1+vg)) (w.heap.size+1) (by simp;omega)).trans G4.out;have hb:=Owned.ja HB.out (g:=b5) (i:=10) (by omega) (I (x8+1+vg));clear c4 c10 f10 G0 G4 G5 HB;generalize km u9 ⟨b5,10,none⟩ (I (x8+1+vg))=u10 at gG0 gG4 g5 hb |-;have G0:=hJJ gG0;have G4:=hJJ gG4;have G5:=hJJ g5;have HB:=hJJ hb;clear gG0 gG4 g5 hb;have FIN:Hid (R.cells.toArray=#[I bv,I (j8 T x4 x5),I (j8 T x0 x1),I (j8 T x2 x3),I x8,I (1+x9),I xa,I (1+x6),I (1+xb),I 0,I (x8+1+vg)]):=hJJ (by rw [RES.out];simp only [Rl.cells,if_pos H4.out,if_neg HC.out]);have LV:Hid (jl u10 ⟨b5,0,none⟩ #[I bv,I (j8 T x4 x5),I (j8 T x0 x1),I (j8 T x2 x3),I x8,I (1+x9),I xa,I (1+x6),I (1+xb),I 0,I (x8+1+vg)].toList):=hJJ (Row.j1 G5.out);have HG:=hJJ (below_setRow HB.out (g:=w.heap.size+1) (by omega) #[I bv,I (j8 T x4 x5),I (j8 T x0 x1),I (j8 T x2 x3),I x8,I (1+x9),I xa,I (1+x6),I (1+xb),I 0,I (x8+1+vg)]);have HK:=hJJ (Kp u10 (w.heap.size+1) _ #[I bv,I (j8 T x4 x5),I (j8 T x0 x1),I (j8 T x2 x3),I x8,I (1+x9),I xa,I (1+x6),I (1+xb),I 0,I (x8+1+vg)] _ _ G4.out);go_wp2_with (first | (refine Row.j7 75 _ rfl (by first | rfl | go_simp) ⟨b5,0,none⟩ rfl #[I bv,I (j8 T x4 x5),I (j8 T x0 x1),I (j8 T x2 x3),I x8,I (1+x9),I xa,I (1+x6),I (1+xb),I 0,I (x8+1+vg)].toList _ LV.out Tryz.underlying75 rfl jH ?_) | (refine Ks rfl 75 _ _ rfl (w.heap.size+1) #[I bv,I (j8 T x4 x5),I (j8 T x0 x1),I (j8 T x2 x3),I x8,I (1+x9),I xa,I (1+x6),I (1+xb),I 0,I (x8+1+vg)] rfl rfl 75 _ G4.out jH rfl (by simp [kn]) ?_))
  generalize u10.setRow (w.heap.size+1) #[I bv,I (j8 T x4 x5),I (j8 T x0 x1),I (j8 T x2 x3),I x8,I (1+x9),I xa,I (1+x6),I (1+xb),I 0,I (x8+1+vg)]=uz at HG HK |-;go_wp2_with fail
  (try simp only [kL,Exit.then])
  refine Kv (v:=.agg #[I bv,I (j8 T x4 x5),I (j8 T x0 x1),I (j8 T x2 x3),I x8,I (1+x9),I xa,I (1+x6),I (1+xb),I 0,I (x8+1+vg)]) ?_ rfl ⟨by rw [FIN.out],HG.out⟩;exact Kw rfl _ _ (w.heap.size+1) 75 _ (0,0) _ rfl HK.out Tryz.underlying75 rfl jH
 have H4:=hJJ h4;go_upto_region 6 with fail
 clear h4;have e0:ki.wrap (i+7)=i+7:=by rw [ke];omega
 have eb:=EB.out;have gG0:u0.drew.heap[w.heap.size]?=some (.cells c.toArray 33 (0,0)):=G0.out;have gG4:u0.drew.heap[(w.heap.size+1)]?=some (.cells #[I 0,I 0,I 0,I 0,I 0,I 0,I 0,I 0,I 0,I 0,I 0] 75 (0,0)):=G4.out;have g5:u0.drew.heap[b5]?=some (.cells #[I 0,I 0,I (j8 T x0 x1),I (j8 T x2 x3),I 0,I 0,I 0,I 0,I 0,I 0,I 0] 75 (0,0)):=G5.out;have hb:Below w.heap.size w u0.drew:=HB.out.drew;clear G0 G4 G5 HB;refine QB.jo 13 (by kernel_rfl) (by kernel_rfl) ?_;generalize kK u0=u1 at gG0 gG4 g5 hb |-;have G0:=hJJ gG0;have G4:=hJJ gG4;have G5:=hJJ g5;have HB:=hJJ hb;clear gG0 gG4 g5 hb;have c0:u1.cell? ⟨b5,0,none⟩=some (I 0):=by rw [Kl _ _ _ _ _ _ G5.out];rfl
 have c2:u1.cell? ⟨b5,2,none⟩=some (I (j8 T x0 x1)):=by rw [Kl _ _ _ _ _ _ G5.out];rfl
 have f0:u1.frozen? ⟨b5,0,none⟩=false:=Km _ _ _ _ _ G5.out;simp only [ku,kC,kv,kE];repeat still_step
 still_call (F7.out _ HB.out)
 repeat still_step
 refine Ku ?_;go_upto_region 7 with fail
 clear e0 eb;have g5:=Kk u1 b5 0 _ _ (I bv) G5.out;simp only [k0,k4,k5] at g5;have gG0:=(k7 u1 ⟨b5,0,none⟩ (I bv) w.heap.size (by simp;omega)).trans G0.out;have gG4:=(k7 u1 ⟨b5,0,none⟩ (I bv) (w.heap.size+1) (by simp;omega)).trans G4.out;have hb:=Owned.ja HB.out (g:=b5) (i:=0) (by omega) (I bv);clear c0 c2 f0 G0 G4 G5 HB;generalize km u1 ⟨b5,0,none⟩ (I bv)=u2 at gG0 gG4 g5 hb |-;have G0:=hJJ gG0;have G4:=hJJ gG4;have G5:=hJJ g5;have HB:=hJJ hb;clear gG0 gG4 g5 hb;have c4:u2.cell? ⟨b5,4,none⟩=some (I 0):=by rw [Kl _ _ _ _ _ _ G5.out];rfl
 have f4:u2.frozen? ⟨b5,4,none⟩=false:=Km _ _ _ _ _ G5.out;go_wp2_with fail
 refine (F8.out _ HB.out).mono ?_;rintro e w' ⟨rfl,hq⟩;subst w';go_upto_region 8 with fail
 have g5:=Kk u2 b5 4 _ _ (I x8) G5.out;simp only [k0,k4,k5] at g5;have gG0:=(k7 u2 ⟨b5,4,none⟩ (I x8) w.heap.size (by simp;omega)).trans G0.out;have gG4:=(k7 u2 ⟨b5,4,none⟩ (I x8) (w.heap.size+1) (by simp;omega)).trans G4.out;have hb:=Owned.ja HB.out (g:=b5) (i:=4) (by omega) (I x8);clear c4 f4 G0 G4 G5 HB;generalize km u2 ⟨b5,4,none⟩ (I x8)=u3 at gG0 gG4 g5 hb |-;have G0:=hJJ gG0;have G4:=hJJ gG4;have G5:=hJJ g5;have HB:=hJJ hb;clear gG0 gG4 g5 hb;have c5:u3.cell? ⟨b5,5,none⟩=some (I 0):=by rw [Kl _ _ _ _ _ _ G5.out];rfl
 have f5:u3.frozen? ⟨b5,5,none⟩=false:=Km _ _ _ _ _ G5.out;go_wp2_with fail
 refine (F9.out _ HB.out).mono ?_;rintro e w' ⟨rfl,hq⟩;subst w';go_upto_region 9 with fail
 have g5:=Kk u3 b5 5 _ _ (I (1+x9)) G5.out;simp only [k0,k4,k5] at g5;have gG0:=(k7 u3 ⟨b5,5,none⟩ (I (1+x9)) w.heap.size (by simp;omega)).trans G0.out;have gG4:=(k7 u3 ⟨b5,5,none⟩ (I (1+x9)) (w.heap.size+1) (by simp;omega)).trans G4.out;have hb:=Owned.ja HB.out (g:=b5) (i:=5) (by omega) (I (1+x9));clear c5 f5 G0 G4 G5 HB;generalize km u3 ⟨b5,5,none⟩ (I (1+x9))=u4 at gG0 gG4 g5 hb |-;have G0:=hJJ gG0;have G4:=hJJ gG4;have G5:=hJJ g5;have HB:=hJJ hb;clear gG0 gG4 g5 hb;have c6:u4.cell? ⟨b5,6,none⟩=some (I 0):=by rw [Kl _ _ _ _ _ _ G5.out];rfl
 have f6:u4.frozen? ⟨b5,6,none⟩=false:=Km _ _ _ _ _ G5.out;go_wp2_with fail
 refine (Fa.out _ HB.out).mono ?_;rintro e w' ⟨rfl,hq⟩;subst w';go_upto_region 10 with fail
 have g5:=Kk u4 b5 6 _ _ (I xa) G5.out;simp only [k0,k4,k5] at g5;have gG0:=(k7 u4 ⟨b5,6,none⟩ (I xa) w.heap.size (by simp;omega)).trans G0.out;have gG4:=(k7 u4 ⟨b5,6,none⟩ (I xa) (w.heap.size+1) (by simp;omega)).trans G4.out;have hb:=Owned.ja HB.out (g:=b5) (i:=6) (by omega) (I xa);clear c6 f6 G0 G4 G5 HB;generalize km u4 ⟨b5,6,none⟩ (I xa)=u5 at gG0 gG4 g5 hb |-;have G0:=hJJ gG0;have G4:=hJJ gG4;have G5:=hJJ g5;have HB:=hJJ hb;clear gG0 gG4 g5 hb;have c8:u5.cell? ⟨b5,8,none⟩=some (I 0):=by rw [Kl _ _ _ _ _ _ G5.out];rfl
 have f8:u5.frozen? ⟨b5,8,none⟩=false:=Km _ _ _ _ _ G5.out;go_wp2_with fail
 refine (Fb.out _ HB.out).mono ?_;rintro e w' ⟨rfl,hq⟩;subst w';go_upto_region 11 with fail
 have g5:=Kk u5 b5 8 _ _ (I (1+xb)) G5.out;simp only [k0,k4,k5] at g5;have gG0:=(k7 u5 ⟨b5,8,none⟩ (I (1+xb)) w.heap.size (by simp;omega)).trans G0.out;have gG4:=(k7 u5 ⟨b5,8,none⟩ (I (1+xb)) (w.heap.size+1) (by simp;omega)).trans G4.out;have hb:=Owned.ja HB.out (g:=b5) (i:=8) (by omega) (I (1+xb));clear c8 f8 G0 G4 G5 HB;generalize km u5 ⟨b5,8,none⟩ (I (1+xb))=u6 at gG0 gG4 g5 hb |-;have G0:=hJJ gG0;have G4:=hJJ gG4;have G5:=hJJ g5;have HB:=hJJ hb;clear gG0 gG4 g5 hb;go_wp2_with fail
 refine (Fc.out _ HB.out).mono ?_;rintro e w' ⟨rfl,hq⟩;subst w';by_cases hc:xc=1
 ·have HC:=hJJ hc;have ec:(xc == 1)=true:=by simpa using hc
  clear hc;go_upto_region 12 with fail
  have e0:ki.wrap (i+13)=i+13:=by rw [ke];omega
  have e1:ki.wrap (1+xb+xd)=1+xb+xd:=by rw [ke];omega
  have gG0:u6.drew.heap[w.heap.size]?=some (.cells c.toArray 33 (0,0)):=G0.out;have gG4:u6.drew.heap[(w.heap.size+1)]?=some (.cells #[I 0,I 0,I 0,I 0,I 0,I 0,I 0,I 0,I 0,I 0,I 0] 75 (0,0)):=G4.out;have g5:u6.drew.heap[b5]?=some (.cells #[I bv,I 0,I (j8 T x0 x1),I (j8 T x2 x3),I x8,I (1+x9),I xa,I 0,I (1+xb),I 0,I 0] 75 (0,0)):=G5.out;have hb:Below w.heap.size w u6.drew:=HB.out.drew;clear G0 G4 G5 HB;refine QB.jo 8 (by kernel_rfl) (by kernel_rfl) ?_;generalize kK u6=u7 at gG0 gG4 g5 hb |-;have G0:=hJJ gG0;have G4:=hJJ gG4;have G5:=hJJ g5;have HB:=hJJ hb;clear gG0 gG4 g5 hb;have c8:u7.cell? ⟨b5,8,none⟩=some (I (1+xb)):=by rw [Kl _ _ _ _ _ _ G5.out];rfl
  have c9:u7.cell? ⟨b5,9,none⟩=some (I 0):=by rw [Kl _ _ _ _ _ _ G5.out];rfl
  have f9:u7.frozen? ⟨b5,9,none⟩=false:=Km _ _ _ _ _ G5.out;simp only [ku,kC,kv,kE];repeat still_step
  still_call (Fd.out _ HB.out)
  repeat still_step
  refine Ku ?_;go_upto_region 13 with fail
  clear e0 e1;have g5:=Kk u7 b5 9 _ _ (I (1+xb+xd)) G5.out;simp only [k0,k4,k5] at g5;have gG0:=(k7 u7 ⟨b5,9,none⟩ (I (1+xb+xd)) w.heap.size (by simp;omega)).trans G0.out;have gG4:=(k7 u7 ⟨b5,9,none⟩ (I (1+xb+xd)) (w.heap.size+1) (by simp;omega)).trans G4.out;have hb:=Owned.ja HB.out (g:=b5) (i:=9) (by omega) (I (1+xb+xd));clear c8 c9 f9 G0 G4 G5 HB;generalize km u7 ⟨b5,9,none⟩ (I (1+xb+xd))=u8 at gG0 gG4 g5 hb |-;have G0:=hJJ gG0;have G4:=hJJ gG4;have G5:=hJJ g5;have HB:=hJJ hb;clear gG0 gG4 g5 hb;have e0:ki.wrap (x8+1)=x8+1:=by rw [ke];omega
  have e1:ki.wrap (i+14)=i+14:=by rw [ke];omega
  have e2:ki.wrap (x8+1+vg)=x8+1+vg:=by rw [ke];omega
  have eg:=EG.out;have gG0:u8.drew.heap[w.heap.size]?=some (.cells c.toArray 33 (0,0)):=G0.out;have gG4:u8.drew.heap[(w.heap.size+1)]?=some (.cells #[I 0,I 0,I 0,I 0,I 0,I 0,I 0,I 0,I 0,I 0,I 0] 75 (0,0)):=G4.out;have g5:u8.drew.heap[b5]?=some (.cells #[I bv,I 0,I (j8 T x0 x1),I (j8 T x2 x3),I x8,I (1+x9),I xa,I 0,I (1+xb),I (1+xb+xd),I 0] 75 (0,0)):=G5.out;have hb:Below w.heap.size w u8.drew:=HB.out.drew;clear G0 G4 G5 HB;refine QB.jo 11 (by kernel_rfl) (by kernel_rfl) ?_;generalize kK u8=u9 at gG0 gG4 g5 hb |-;have G0:=hJJ gG0;have G4:=hJJ gG4;have G5:=hJJ g5;have HB:=hJJ hb;clear gG0 gG4 g5 hb;have c4:u9.cell? ⟨b5,4,none⟩=some (I x8):=by rw [Kl _ _ _ _ _ _ G5.out];rfl
  have c10:u9.cell? ⟨b5,10,none⟩=some (I 0):=by rw [Kl _ _ _ _ _ _ G5.out];rfl
  have f10:u9.frozen? ⟨b5,10,none⟩=false:=Km _ _ _ _ _ G5.out;simp only [ku,kC,kv,kE];repeat still_step
  still_call (Fg.out _ HB.out)
  repeat still_step
  refine Ku ?_;go_upto_region 14 with fail
  clear e0 e1 e2 eg;have g5:=Kk u9 b5 10 _ _ (I (x8+1+vg)) G5.out;simp only [k0,k4,k5] at g5;have gG0:=(k7 u9 ⟨b5,10,none⟩ (I (x8+1+vg)) w.heap.size (by simp;omega)).trans G0.out;have gG4:=(k7 u9 ⟨b5,10,none⟩ (I (x8+1+vg)) (w.heap.size+1) (by simp;omega)).trans G4.out;have hb:=Owned.ja HB.out (g:=b5) (i:=10) (by omega) (I (x8+1+vg));clear c4 c10 f10 G0 G4 G5 HB;generalize km u9 ⟨b5,10,none⟩ (I (x8+1+vg))=u10 at gG0 gG4 g5 hb |-;have G0:=hJJ gG0;have G4:=hJJ gG4;have G5:=hJJ g5;have HB:=hJJ hb;clear gG0 gG4 g5 hb;have FIN:Hid (R.cells.toArray=#[I bv,I 0,I (j8 T x0 x1),I (j8 T x2 x3),I x8,I (1+x9),I xa,I 0,I (1+xb),I (1+xb+xd),I (x8+1+vg)]):=hJJ (by rw [RES.out];simp only [Rl.cells,if_neg (Int.not_lt.2 H4.out),if_pos HC.out]);have LV:Hid (jl u10 ⟨b5,0,none⟩ #[I bv,I 0,I (j8 T x0 x1),I (j8 T x2 x3),I x8,I (1+x9),I xa,I 0,I (1+xb),I (1+xb+xd),I (x8+1+vg)].toList):=hJJ (Row.j1 G5.out);have HG:=hJJ (below_setRow HB.out (g:=w.heap.size+1) (by omega) #[I bv,I 0,I (j8 T x0 x1),I (j8 T x2 x3),I x8,I (1+x9),I xa,I 0,I (1+xb),I (1+xb+xd),I (x8+1+vg)]);have HK:=hJJ (Kp u10 (w.heap.size+1) _ #[I bv,I 0,I (j8 T x0 x1),I (j8 T x2 x3),I x8,I (1+x9),I xa,I 0,I (1+xb),I (1+xb+xd),I (x8+1+vg)] _ _ G4.out);go_wp2_with (first | (refine Row.j7 75 _ rfl (by first | rfl | go_simp) ⟨b5,0,none⟩ rfl #[I bv,I 0,I (j8 T x0 x1),I (j8 T x2 x3),I x8,I (1+x9),I xa,I 0,I (1+xb),I (1+xb+xd),I (x8+1+vg)].toList _ LV.out Tryz.underlying75 rfl jH ?_) | (refine Ks rfl 75 _ _ rfl (w.heap.size+1) #[I bv,I 0,I (j8 T x0 x1),I (j8 T x2 x3),I x8,I (1+x9),I xa,I 0,I (1+xb),I (1+xb+xd),I (x8+1+vg)] rfl rfl 75 _ G4.out jH rfl (by simp [kn]) ?_))
  generalize u10.setRow (w.heap.size+1) #[I bv,I 0,I (j8 T x0 x1),I (j8 T x2 x3),I x8,I (1+x9),I xa,I 0,I (1+xb),I (1+xb+xd),I (x8+1+vg)]=uz at HG HK |-;go_wp2_with fail
  (try simp only [kL,Exit.then])
  refine Kv (v:=.agg #[I bv,I 0,I (j8 T x0 x1),I (j8 T x2 x3),I x8,I (1+x9),I xa,I 0,I (1+xb),I (1+xb+xd),I (x8+1+vg)]) ?_ rfl ⟨by rw [FIN.out],HG.out⟩;exact Kw rfl _ _ (w.heap.size+1) 75 _ (0,0) _ rfl HK.out Tryz.underlying75 rfl jH
 have HC:=hJJ hc;have ec:(xc == 1)=false:=by simpa using hc
 clear hc;go_upto_region 13 with fail
 have e0:ki.wrap (x8+1)=x8+1:=by rw [ke];omega
 have e1:ki.wrap (i+14)=i+14:=by rw [ke];omega
 have e2:ki.wrap (x8+1+vg)=x8+1+vg:=by rw [ke];omega
 have eg:=EG.out;have gG0:u6.drew.heap[w.heap.size]?=some (.cells c.toArray 33 (0,0)):=G0.out;have gG4:u6.drew.heap[(w.heap.size+1)]?=some (.cells #[I 0,I 0,I 0,I 0,I 0,I 0,I 0,I 0,I 0,I 0,I 0] 75 (0,0)):=G4.out;have g5:u6.drew.heap[b5]?=some (.cells #[I bv,I 0,I (j8 T x0 x1),I (j8 T x2 x3),I x8,I (1+x9),I xa,I 0,I (1+xb),I 0,I 0] 75 (0,0)):=G5.out;have hb:Below w.heap.size w u6.drew:=HB.out.drew;clear G0 G4 G5 HB;refine QB.jo 11 (by kernel_rfl) (by kernel_rfl) ?_;generalize kK u6=u7 at gG0 gG4 g5 hb |-;have G0:=hJJ gG0;have G4:=hJJ gG4;have G5:=hJJ g5;have HB:=hJJ hb;clear gG0 gG4 g5 hb;have c4:u7.cell? ⟨b5,4,none⟩=some (I x8):=by rw [Kl _ _ _ _ _ _ G5.out];rfl
 have c10:u7.cell? ⟨b5,10,none⟩=some (I 0):=by rw [Kl _ _ _ _ _ _ G5.out];rfl
 have f10:u7.frozen? ⟨b5,10,none⟩=false:=Km _ _ _ _ _ G5.out;simp only [ku,kC,kv,kE];repeat still_step
 still_call (Fg.out _ HB.out)
 repeat still_step
 refine Ku ?_;go_upto_region 14 with fail
 clear e0 e1 e2 eg;have g5:=Kk u7 b5 10 _ _ (I (x8+1+vg)) G5.out;simp only [k0,k4,k5] at g5;have gG0:=(k7 u7 ⟨b5,10,none⟩ (I (x8+1+vg)) w.heap.size (by simp;omega)).trans G0.out;have gG4:=(k7 u7 ⟨b5,10,none⟩ (I (x8+1+vg)) (w.heap.size+1) (by simp;omega)).trans G4.out;have hb:=Owned.ja HB.out (g:=b5) (i:=10) (by omega) (I (x8+1+vg));clear c4 c10 f10 G0 G4 G5 HB;generalize km u7 ⟨b5,10,none⟩ (I (x8+1+vg))=u8 at gG0 gG4 g5 hb |-;have G0:=hJJ gG0;have G4:=hJJ gG4;have G5:=hJJ g5;have HB:=hJJ hb;clear gG0 gG4 g5 hb;have FIN:Hid (R.cells.toArray=#[I bv,I 0,I (j8 T x0 x1),I (j8 T x2 x3),I x8,I (1+x9),I xa,I 0,I (1+xb),I 0,I (x8+1+vg)]):=hJJ (by rw [RES.out];simp only [Rl.cells,if_neg (Int.not_lt.2 H4.out),if_neg HC.out]);have LV:Hid (jl u8 ⟨b5,0,none⟩ #[I bv,I 0,I (j8 T x0 x1),I (j8 T x2 x3),I x8,I (1+x9),I xa,I 0,I (1+xb),I 0,I (x8+1+vg)].toList):=hJJ (Row.j1 G5.out);have HG:=hJJ (below_setRow HB.out (g:=w.heap.size+1) (by omega) #[I bv,I 0,I (j8 T x0 x1),I (j8 T x2 x3),I x8,I (1+x9),I xa,I 0,I (1+xb),I 0,I (x8+1+vg)]);have HK:=hJJ (Kp u8 (w.heap.size+1) _ #[I bv,I 0,I (j8 T x0 x1),I (j8 T x2 x3),I x8,I (1+x9),I xa,I 0,I (1+xb),I 0,I (x8+1+vg)] _ _ G4.out);go_wp2_with (first | (refine Row.j7 75 _ rfl (by first | rfl | go_simp) ⟨b5,0,none⟩ rfl #[I bv,I 0,I (j8 T x0 x1),I (j8 T x2 x3),I x8,I (1+x9),I xa,I 0,I (1+xb),I 0,I (x8+1+vg)].toList _ LV.out Tryz.underlying75 rfl jH ?_) | (refine Ks rfl 75 _ _ rfl (w.heap.size+1) #[I bv,I 0,I (j8 T x0 x1),I (j8 T x2 x3),I x8,I (1+x9),I xa,I 0,I (1+xb),I 0,I (x8+1+vg)] rfl rfl 75 _ G4.out jH rfl (by simp [kn]) ?_))
 generalize u8.setRow (w.heap.size+1) #[I bv,I 0,I (j8 T x0 x1),I (j8 T x2 x3),I x8,I (1+x9),I xa,I 0,I (1+xb),I 0,I (x8+1+vg)]=uz at HG HK |-;go_wp2_with fail
 (try simp only [kL,Exit.then])
 refine Kv (v:=.agg #[I bv,I 0,I (j8 T x0 x1),I (j8 T x2 x3),I x8,I (1+x9),I xa,I 0,I (1+xb),I 0,I (x8+1+vg)]) ?_ rfl ⟨by rw [FIN.out],HG.out⟩;exact Kw rfl _ _ (w.heap.size+1) 75 _ (0,0) _ rfl HK.out Tryz.underlying75 rfl jH
end GenR
namespace OnS
open Zip
open Go.ChangeShapes Go.WideShapes Go.ChangeAt Go.RowKit
open Tab Gath RefS
open May (St JC jG)
theorem j88 {w:World} {a:Option Addr} {cap:Nat} {L:List Int} (h:jc w ⟨a,cap⟩ L):RefS.Row w a L:=by
 have hl:=h.len;refine ⟨by omega,?_⟩;by_cases h0:L=[]
 ·exact .inl h0
 have hp:0 < L.length:=List.length_pos_iff.2 h0;obtain ⟨x,hx,_⟩:=jc.at h (k9 hp);refine .inr ⟨x,hx,fun i hi=>?_⟩;obtain ⟨y,hy,hc⟩:=jc.at h (k9 hi);obtain rfl:x=y:=kA (hx.symm.trans hy);rw [hc,kk,k9 hi];rfl
def j18:Nat->List Ph->List Int
 | _,[]=>[]
 | i,p :: l=>(if p.on then [(i:Int)] else [])++j18 (i+1) l
theorem j3R:∀ (i:Nat) (l m:List Ph),j18 i (l++m)=j18 i l++j18 (i+l.length) m
 | i,[],m=>rfl
 | i,p :: l,m=>by
  rw [List.cons_append,j18,j18,j3R (i+1) l m,kQ,kH,show i+1+l.length=i+(l.length+1) by omega]
theorem jcU {l:List Ph} {q:Nat} {p:Ph} (h:l[q]?=some p):j18 0 (l.take (q+1))=j18 0 (l.take q)++(if p.on then [(q:Int)] else []):=by
 have hi:q < l.length:=(kI.1 h).1;rw [PlaceM.take_succ h,j3R,kB,Nat.min_eq_left (by omega),ko];simp [j18]
theorem jbh:∀ (i:Nat) (l:List Ph),(j18 i l).length<=l.length
 | i,[]=>kb _
 | i,p :: l=>by
  rw [j18,kl,kH];have:=jbh (i+1) l;split <;> simp <;> omega
def onL (T:Tab):List Int:=j18 0 T.phases
def onS (T:Tab):Nat:=SetM.of (onL T)
abbrev Jr (B:Nat) (w:World) (v:Value) (l:List Int):Prop:=jd (fun n=>[I n]) 1 B w 3 v l
theorem j6n (T:Tab) (h:Hd) (w:World) (ht:jy w h T) :
  Calls Tryz.prog 101 #[.agg (T.cells h).toArray] w fun e w'=>e=.returned (.int .i64 (onS T:Nat))/\Below w.heap.size w w':=by
 have C:=hJJ (j9 ht);generalize (T.cells h).toArray=cs at C |-;have hsz:=C.out.size;have L8:=hJJ ht.ph;have S0:=hJJ (St.box (cs:=cs) ht);obtain ⟨i0,hi,hz0,hz1,hz2⟩:=Kx j1E;have RS:Hid ((onS T:Nat)=SetM.of (j18 0 T.phases)):=hJJ rfl;generalize onS T=r at RS |-;clear ht;go_enter Tryz.func101,Tryz.ntmps101
 go_upto_region 1 with fail
 generalize w.alloc (.cells cs 33)=w1 at S0 |-;clear hsz;go_wp2_with fail
 go_loopw [3,4] (fun v g wr=>∃ q:Nat,q<=8/\g=.int .i64 q/\Jr w1.heap.size wr v (j18 0 (T.phases.take q))/\Below w1.heap.size w1 wr) (fun _ g _=>8 - (intOf g).toNat)
 case atStart=>exact ⟨0,by omega,rfl,jd.nil,kc _ _⟩
 case round =>
  obtain ⟨q,hq,rfl,hown,hbel⟩:=hrel;have HO:=hJJ hown;have HB:=hJJ hbel;clear hown hbel;have S1:=hJJ (S0.out.step HB.out);by_cases hlt:q < 8
  ·have hv:T.phases[q]?=some (T.phases[q]'(by rw [L8.out];exact hlt)):=k9 _;generalize T.phases[q]'(by rw [L8.out];exact hlt)=u at hv;obtain ⟨x,hx,hc⟩:=(JC S1.out.blk C.out L8.out).at hv;obtain rfl:=kA hx
   have c0:wr.cell? ⟨w.heap.size,q*13,none⟩=some (.bool u.on):=by
    have:=hc 0 _ rfl
    rwa [kj,ko,Tab.add_zero] at this
   have HS:=hJJ (jcU hv);have hlen:(j18 0 (T.phases.take q)).length<=8:=by have:=jbh 0 (T.phases.take q);rw [kB] at this;omega
   have hsz:=HB.out.size;clear hv hc hx;generalize j18 0 (T.phases.take q)=P1 at HO HS hlen;cases hon:u.on
   ·rw [hon] at c0 HS;have HS2:Hid (j18 0 (T.phases.take (q+1))=P1):=hJJ (by rw [HS.out];simp);go_wp2;go_roundw;case rel=>exact ⟨q+1,by omega,by go_num,by rw [HS2.out];exact HO.out,HB.out⟩
    case measure=>simp [intOf];omega
   rw [hon] at c0 HS;have HS2:Hid (j18 0 (T.phases.take (q+1))=P1++[(q:Int)]):=hJJ (by rw [HS.out];simp);have hown2:wr.ownsRow w1.heap.size 3 1 u3 P1.length (P1.flatMap (fun n=>[I n])):=HO.out;clear HO;go_wp2_with (at_builtin;refine Kt _ rfl _ _ 42 rfl w1.heap.size 3 i0 (.int .i64 0) 1 8 Tryz.underlying42 hi hz0 hz1 hz2 rfl (by decide) _ _ _ rfl (hown2.alloc _) ⟨wr.heap.size,0,none⟩ 1 1 [.int .i64 (q:Int)] rfl rfl ?c1 ?c2 ?c3 ?c4 ?c5 ?_)
   case c2=>rfl
   case c3=>unfold maxLen;omega
   case c4=>omega
   case c5=>omega
   intro v' w2 hown' hgrow hnil';have HB2:Hid (Below w1.heap.size w1 w2):=hJJ ((HB.out.alloc hsz _).grown hgrow (by simp;omega) fun m hm=>(show Jr w1.heap.size wr u3 P1 from hown2).blk m hm);have HO2:Hid (Jr w1.heap.size w2 v' (P1++[(q:Int)])):=hJJ (jd.snoc hown');clear hown' hgrow hown2 hnil';go_wp2;go_roundw;case rel=>exact ⟨q+1,by omega,by go_num,by rw [HS2.out];exact HO2.out,HB2.out⟩
   case measure=>simp [intOf];omega
  have HE:Hid (j18 0 (T.phases.take q)=j18 0 T.phases):=hJJ (by rw [ks (by rw [L8.out];omega)]);obtain ⟨⟨sa,sc⟩,hs,hrow⟩:=HO.out.row (enc:=fun n=>[I n]) (fun _=>rfl);rw [HE.out] at hs hrow;have HR:=hJJ (j88 hrow);have HF:Hid (Below w.heap.size w wr):=hJJ (S1.out.bel);clear hrow HE;subst hs;generalize j18 0 T.phases=P2 at RS HR |-;show Kh _ _ _ _ _;rw [show (Sl.val ⟨sa,sc⟩ P2.length)=.slice sa P2.length sc from rfl];go_wp2_with fail
  refine (j6k sa sc P2 _ HR.out).mono ?_;rintro e w' ⟨rfl,rfl⟩;rw [<-RS.out];go_wp2;go_ret;exact ⟨rfl,HF.out⟩
end OnS
namespace RefC
open Zip
open Go.ChangeShapes Go.WideShapes Go.ChangeAt Go.RowKit
def cap (n:Int):Int:=if n < 0 then 0 else if 2147483647 < n then 2147483647 else n
theorem j4Z (n:Int):0<=cap n:=by unfold cap;split <;> (try split) <;> omega
theorem j50 (n:Int):cap n<=2147483647:=by unfold cap;split <;> (try split) <;> omega
theorem j4b {n:Int} (h:n < 0):cap n=0:=by unfold cap;rw [if_pos h]
theorem j61 {n:Int} (h:2147483647 < n):cap n=2147483647:=by unfold cap;rw [if_neg (by omega),if_pos h]
theorem j62 {n:Int} (h:0<=n) (h':n<=2147483647):cap n=n:=by unfold cap;rw [if_neg (by omega),if_neg (by omega)]
theorem jeA {a b:Int} (ha:0<=a) (ha':a<=2147483647) (hb:0<=b) (hb':b<=2147483647):0<=a*b/\a*b<=2147483647*2147483647:=by
 refine ⟨Int.mul_nonneg ha hb,?_⟩;exact Int.mul_le_mul ha' hb' hb (by omega)
theorem jn {k:IntKind} {a b:Int} (h:a=b):Ending.returned (.int k a)=.returned (.int k b):=by rw [h]
def add (a b:Int):Int:=cap (cap a+cap b)
def mul (a b:Int):Int:=cap (cap a*cap b)
theorem jcV (n:Int) (w:World):Calls Tryz.prog 66 #[.int .i64 n,.int .i64 0,.int .i64 2147483647] w fun e w'=>e=.returned (.int .i64 (cap n))/\w=w':=by
 by_cases h1:n < 0
 ·go_enter Tryz.func66,Tryz.ntmps66
  go_wp2;go_ret;exact ⟨jn (j4b h1).symm,rfl⟩
 by_cases h2:2147483647 < n
 ·go_enter Tryz.func66,Tryz.ntmps66
  go_wp2;go_ret;exact ⟨jn (j61 h2).symm,rfl⟩
 go_enter Tryz.func66,Tryz.ntmps66
 go_wp2;go_ret;exact ⟨jn (j62 (by omega) (by omega)).symm,rfl⟩
theorem j0z (n:Int) (w:World):Calls Tryz.prog 104 #[.int .i64 n] w fun e w'=>e=.returned (.int .i64 (cap n))/\w=w':=by
 go_enter Tryz.func104,Tryz.ntmps104
 go_wp2_with (go_at_call 66;refine (jcV _ _).mono ?_;rintro e w' ⟨rfl,rfl⟩)
 go_ret;exact ⟨rfl,rfl⟩
theorem jbi (a b:Int) (w:World):Calls Tryz.prog 119 #[.int .i64 a,.int .i64 b] w fun e w'=>e=.returned (.int .i64 (add a b))/\w=w':=by
 have b1:=j4Z a;have b2:=j50 a;have b3:=j4Z b;have b4:=j50 b;go_enter Tryz.func119,Tryz.ntmps119
 go_wp2_with (go_at_call 104;refine (j0z _ _).mono ?_;rintro e w' ⟨rfl,rfl⟩)
 go_ret;exact ⟨rfl,rfl⟩
theorem jbj (a b:Int) (w:World):Calls Tryz.prog 76 #[.int .i64 a,.int .i64 b] w fun e w'=>e=.returned (.int .i64 (mul a b))/\w=w':=by
 have b1:=j4Z a;have b2:=j50 a;have b3:=j4Z b;have b4:=j50 b;obtain ⟨c1,c2⟩:=jeA b1 b2 b3 b4;go_enter Tryz.func76,Tryz.ntmps76
 go_wp2_with (go_at_call 104;refine (j0z _ _).mono ?_;rintro e w' ⟨rfl,rfl⟩)
 go_ret;exact ⟨rfl,rfl⟩
def j3S (w:World) (a:Option Addr) (len:Nat) (zs:List Int):Prop :=
 len<=zs.length/\len<=maxLen/\(len=0\/∃ x,a=some x/\∀ i,i < zs.length->w.cell? (x.add i)=some (.int .i64 (zs.getD i 0)))
def jO (l:List Int):Int:=l.foldl add 0
theorem j9L (l:List Int) (x:Int):jO (l++[x])=add (jO l) x:=by unfold jO;rw [K8];rfl
theorem j1Y (zs:List Int) (k:Nat) (h:k < zs.length):zs.take (k+1)=zs.take k++[zs.getD k 0]:=by
 rw [List.take_succ_eq_append_getElem h,kk,k9 h];rfl
theorem j9M (zs:List Int) (k:Nat) (h:k < zs.length):jO (zs.take (k+1))=add (jO (zs.take k)) (zs.getD k 0):=by
 rw [j1Y zs k h,j9L]
theorem jbk (a:Option Addr) (len cap:Nat) (zs:List Int) (w:World) (h:j3S w a len zs) :
  Calls Tryz.prog 103 #[.slice a len cap] w fun e w'=>e=.returned (.int .i64 (jO (zs.take len)))/\w=w':=by
 obtain ⟨h1,h2,h3⟩:=h;unfold maxLen at h2;go_enter Tryz.func103,Tryz.ntmps103
 go_wp2
 go_loop [3,4] (fun t i=>∃ k:Nat,k<=len/\i=.int .i64 k/\t=.int .i64 (jO (zs.take k))) (fun _ i=>len - (intOf i).toNat)
 case atStart=>exact ⟨0,kW _,rfl,rfl⟩
 case round =>
  obtain ⟨k,hk,rfl,rfl⟩:=hrel;by_cases hlt:k < len
  ·have HS:=hJJ (j9M zs k (by omega))
   obtain ⟨x,rfl,hc⟩:∃ x,a=some x/\∀ i,i < zs.length->w.cell? (x.add i)=some (.int .i64 (zs.getD i 0)):=by
    rcases h3 with h3 | h3
    ·omega
    exact h3
   have hcell:=hc k (by omega);clear hc h3;go_wp2_with (go_at_call 119;refine (jbi _ _ _).mono ?_;rintro e w' ⟨rfl,rfl⟩)
   go_round
   case rel=>exact ⟨k+1,by omega,by go_num,by rw [HS.out,kk]⟩
   case measure=>simp [intOf];omega
  go_wp2;go_ret;have:k=len:=by omega
  subst this;exact ⟨rfl,rfl⟩
open Tab in
theorem jbl {w:World} {a:Option Addr} {cap:Nat} {L:List Int} (h:jc w ⟨a,cap⟩ L):j3S w a L.length L:=by
 have hl:=h.len;refine ⟨kb _,by omega,?_⟩;by_cases h0:L.length=0
 ·exact .inl h0
 have h1:L[0]?=some L[0]:=k9 (by omega);obtain ⟨x,hx,_⟩:=jc.at h h1;refine .inr ⟨x,hx,fun i hi=>?_⟩;obtain ⟨y,hy,hc⟩:=jc.at h (k9 hi);obtain rfl:x=y:=kA (hx.symm.trans hy);rw [hc,kk,k9 hi];rfl
open Tab in
theorem jbm (a:Option Addr) (cap:Nat) (L:List Int) (w:World) (h:jc w ⟨a,cap⟩ L) :
  Calls Tryz.prog 103 #[.slice a L.length cap] w fun e w'=>e=.returned (.int .i64 (jO L))/\w=w':=by
 have:=jbk a L.length cap L w (jbl h)
 rwa [K9] at this
open Tab in
theorem j6o (a:Option Addr) (cap:Nat) (L:List Int) (w:World) (h:jc w ⟨a,cap⟩ L) :
  Calls Tryz.prog 75 #[.slice a L.length cap] w fun e w'=>e=.returned (.int .i64 (jO L))/\w=w':=by
 have H:=hJJ (jbm a cap L w h);clear h;generalize jO L=s at H |-;go_enter Tryz.func75,Tryz.ntmps75
 go_wp2_with fail
 refine H.out.mono ?_;rintro e w' ⟨rfl,rfl⟩;go_wp2;go_ret;exact ⟨rfl,rfl⟩
def JY (l:List Int):Int:=l.foldl max 0
theorem j89 (l:List Int) (k:Nat) (h:k < l.length):JY (l.take (k+1))=max (JY (l.take k)) (l.getD k 0):=by
 rw [j1Y l k h];unfold JY;rw [K8];rfl
open Tab in
theorem j36 (a:Option Addr) (cap:Nat) (L:List Int) (w:World) (h:jc w ⟨a,cap⟩ L) :
  Calls Tryz.prog 106 #[.slice a L.length cap] w fun e w'=>e=.returned (.int .i64 (JY L))/\w=w':=by
 obtain ⟨h1,h2,h3⟩:=jbl h;unfold maxLen at h2;clear h;go_enter Tryz.func106,Tryz.ntmps106
 go_wp2
 go_loop [3,4] (fun t i=>∃ k:Nat,k<=L.length/\i=.int .i64 k/\t=.int .i64 (JY (L.take k))) (fun _ i=>L.length - (intOf i).toNat)
 case atStart=>exact ⟨0,kW _,rfl,rfl⟩
 case round =>
  obtain ⟨k,hk,rfl,rfl⟩:=hrel;by_cases hlt:k < L.length
  ·have HS:=hJJ (j89 L k (by omega))
   obtain ⟨x,rfl,hc⟩:∃ x,a=some x/\∀ i,i < L.length->w.cell? (x.add i)=some (.int .i64 (L.getD i 0)):=by
    rcases h3 with h3 | h3
    ·omega
    exact h3
   have hcell:=hc k (by omega);clear hc h3;generalize L.getD k 0=v at HS hcell;generalize JY (L.take k)=m at HS |-;by_cases hmv:m < v
   ·have HM:Hid (max m v=v):=hJJ (by omega);go_wp2
    go_round
    case rel=>exact ⟨k+1,by omega,by go_num,by rw [HS.out];first | rw [HM.out] | rfl⟩
    case measure=>simp [intOf];omega
   have HM:Hid (max m v=m):=hJJ (by omega);go_wp2
   go_round
   case rel=>exact ⟨k+1,by omega,by go_num,by rw [HS.out];first | rw [HM.out] | rfl⟩
   case measure=>simp [intOf];omega
  go_wp2;go_ret;have:k=L.length:=by omega
  subst this;exact ⟨by rw [K9];rfl,rfl⟩
end RefC
namespace Clear
open Zip
open Go.ChangeShapes Go.WideShapes Go.ChangeAt Go.RowKit
open Tab Gath RefS OnS RefC
open May (St JC jG jK jg)
def j0D (T:Tab) (p:Int):Ph:=T.phases.getD p.toNat default
def clr (T:Tab) (p:Int):Int:=jO [(j0D T p).yellow,(j0D T p).red]
def Js (T:Tab):Int:=JY ((SetM.list (onS T:Nat)).map (clr T))
theorem JR (a:Option Addr) (cap:Nat) (L:List Int) (n:Nat) (hn:L.length=n) (w:World) (h:jc w ⟨a,cap⟩ L) :
  Calls Tryz.prog 75 #[.slice a n cap] w fun e w'=>e=.returned (.int .i64 (jO L))/\w=w':=by
 subst hn;exact j6o a cap L w h
theorem j5L (T:Tab) (h:Hd) (w:World) (ht:jy w h T) :
  Calls Tryz.prog 107 #[.agg (T.cells h).toArray] w fun e w'=>e=.returned (.int .i64 (Js T))/\Below w.heap.size w w':=by
 have C:=hJJ (j9 ht);have hsz:=C.out.size;have IA:Hid ((Tryz.prog.info? 33).map (·.size)=some (T.cells h).length):=hJJ (by rw [kr] at hsz;rw [hsz];exact jK);have ON:Hid (∀ W,Below w.heap.size w W->Calls Tryz.prog 101 #[.agg (T.cells h).toArray] W fun e w'=>e=.returned (.int .i64 (onS T:Nat))/\Below W.heap.size W w'):=hJJ (fun W hb=>j6n T h W (ht.below hb));have L8:=hJJ ht.ph;have S0:=hJJ (St.box (cs:=(T.cells h).toArray) ht);have RS:Hid (Js T=JY ((SetM.list (onS T:Nat)).map (clr T))):=hJJ rfl;generalize Js T=r at RS |-;generalize ((onS T:Nat):Int)=os at RS ON;obtain ⟨i0,hi,hz0,hz1,hz2⟩:=Kx j1E;clear ht;generalize T.cells h=c at *;go_enter Tryz.func107,Tryz.ntmps107
 go_upto_region 1 with fail
 generalize w.alloc (.cells c.toArray 33)=w1 at S0 |-;clear hsz;have LT:Hid (jl w1 ⟨w.heap.size,0,none⟩ c):=hJJ (by have:=Row.j1 S0.out.blk;simpa using this);go_wp2_with (refine lgZ 33 ⟨w.heap.size,0,none⟩ c rfl LT.out Tryz.underlying33 IA.out ?_)
 refine (ON.out _ S0.out.bel).mono ?_;rintro e w2 ⟨rfl,hb⟩;have S2:=hJJ (S0.out.step hb);clear hb S0 LT ON IA;go_wp2_with fail
 refine (j3s os _).mono ?_;rintro e w3 ⟨v0,rfl,hown,hb⟩;have S3:=hJJ (S2.out.step hb);obtain ⟨sa,sc,rfl,hrow⟩:=j86 hown;have HR:=hJJ hrow;have hl8:=SetM.j4U os;have BD:=hJJ (SetM.j6j os);clear hown hrow hb S2;generalize SetM.list os=M at RS HR hl8 BD |-;go_wp2_with fail
 go_loopw [3,10] (fun v i wr=>∃ q:Nat,q<=M.length/\i=.int .i64 q/\Jr w3.heap.size wr v ((M.take q).map (clr T))/\Below w3.heap.size w3 wr) (fun _ i _=>M.length - (intOf i).toNat)
 case atStart=>exact ⟨0,by omega,rfl,jd.nil,kc _ _⟩
 case round =>
  obtain ⟨q,hq,rfl,hown,hbel⟩:=hrel;have HO:=hJJ hown;have HB:=hJJ hbel;clear hown hbel;by_cases hlt:q < M.length
  ·obtain ⟨x,hx,hc⟩:=(HR.out.below HB.out).cells hlt;obtain rfl:sa=some x:=hx;have c0:=hc q hlt;have hmem:M.getD q 0 ∈ M:=by rw [kk,k9 hlt];exact Ka hlt
   have hbd:=BD.out _ hmem;have MS:Hid ((M.take (q+1)).map (clr T)=(M.take q).map (clr T)++[clr T (M.getD q 0)]):=hJJ (by rw [RefS.take_succ M q hlt,kO];rfl);clear hc hmem;generalize M.getD q 0=p at c0 hbd MS;obtain ⟨p0,p8⟩:=hbd;obtain ⟨k,rfl⟩:=kq p0;have hk:k < 8:=by omega
   have hv:T.phases[k]?=some (j0D T k):=by
    unfold j0D;rw [kG,kk,k9 (by rw [L8.out];exact hk)];rfl
   have CL:Hid (clr T k=jO [(j0D T k).yellow,(j0D T k).red]):=hJJ rfl;generalize j0D T k=u at hv CL;obtain ⟨y,hy,hcc⟩:=(JC (S3.out.step HB.out).blk C.out L8.out).at hv;obtain rfl:=kA hy;have d6:wr.cell? ⟨w.heap.size,k*13+6,none⟩=some (I u.yellow):=by have:=hcc 6 _ rfl;rwa [kj,ko,kj] at this
   have d7:wr.cell? ⟨w.heap.size,k*13+7,none⟩=some (I u.red):=by have:=hcc 7 _ rfl;rwa [kj,ko,kj] at this
   have hl3:w.heap.size < w3.heap.size:=(ka.1 S3.out.blk).1;have CY:Hid (∀ w',Below w3.heap.size wr w'->w'.cell? ⟨w.heap.size,k*13+6,none⟩=some (I u.yellow)):=hJJ (fun w' hb=>(hb.cell (show w.heap.size < _ from hl3)).trans d6);have CR:Hid (∀ w',Below w3.heap.size wr w'->w'.cell? ⟨w.heap.size,k*13+7,none⟩=some (I u.red)):=hJJ (fun w' hb=>(hb.cell (show w.heap.size < _ from hl3)).trans d7);clear hv hcc hy d6 d7;have hwr:=HB.out.size;have hlen:((M.take q).map (clr T)).length<=8:=by rw [kM,kB];omega
   go_upto_region 5 with fail
   refine Kq (S:=fun w'=>Below w3.heap.size wr w') (by kernel_rfl) ?_;have hO:Jr w3.heap.size { wr with drawn:=wr.drawn+1 } u3 ((M.take q).map (clr T)):=HO.out;have hS:Below w3.heap.size wr { wr with drawn:=wr.drawn+1 }:=(kc _ _).drew;have hv3:w3.heap.size<=({ wr with drawn:=wr.drawn+1 }:World).heap.size:=hwr;generalize ({ wr with drawn:=wr.drawn+1 }:World)=v at hS hO hv3 |-;generalize (M.take q).map (clr T)=P1 at hO hlen MS HO;refine tkZ 0 14 ?_ rfl ?_ hS ?_;rotate_left
   ·intro w' hw';have c6:=CY.out w' hw';have c7:=CR.out w' hw';go_simp
    try with_reducible rfl
   (try dsimp only [k6]);(try simp only [zA,zB,zC])
   refine tkZ 1 15 ?_ rfl ?_ hS ?_;rotate_left
   ·intro w' hw';have c6:=CY.out w' hw';have c7:=CR.out w' hw';go_simp
    try with_reducible rfl
   (try dsimp only [k6]);(try simp only [zA,zB,zC])
   refine tkZ 2 16 ?_ rfl ?_ hS ?_;rotate_left
   ·intro w' hw';have c6:=CY.out w' hw';have c7:=CR.out w' hw';go_simp
    try with_reducible rfl
   (try dsimp only [k6]);(try simp only [zA,zB,zC])
   refine tkZ 3 17 ?_ rfl ?_ hS ?_;rotate_left
   ·intro w' hw';have c6:=CY.out w' hw';have c7:=CR.out w' hw';go_simp
    try with_reducible rfl
   (try dsimp only [k6]);(try simp only [zA,zB,zC])
   refine tkZ 4 18 ?_ rfl ?_ hS ?_;rotate_left
   ·intro w' hw';have c6:=CY.out w' hw';have c7:=CR.out w' hw';go_simp
    try with_reducible rfl
   (try dsimp only [k6]);(try simp only [zA,zB,zC])
   refine tkZ 5 19 ?_ rfl ?_ hS ?_;rotate_left
   ·intro w' hw';have c6:=CY.out w' hw';have c7:=CR.out w' hw';go_simp
    try with_reducible rfl
   (try dsimp only [k6]);(try simp only [zA,zB,zC])
   refine tkZ 6 20 ?_ rfl ?_ hS ?_;rotate_left
   ·intro w' hw';have c6:=CY.out w' hw';have c7:=CR.out w' hw';go_simp
    try with_reducible rfl
   (try dsimp only [k6]);(try simp only [zA,zB,zC])
   refine tkZ 7 21 ?_ rfl ?_ hS ?_;rotate_left
   ·intro w' hw';have c6:=CY.out w' hw';have c7:=CR.out w' hw';go_simp
    try with_reducible rfl
   (try dsimp only [k6]);(try simp only [zA,zB,zC])
   refine tkZ 8 22 ?_ rfl ?_ hS ?_;rotate_left
   ·intro w' hw';have c6:=CY.out w' hw';have c7:=CR.out w' hw';go_simp
    try with_reducible rfl
   (try dsimp only [k6]);(try simp only [zA,zB,zC])
   refine tkZ 9 23 ?_ rfl ?_ hS ?_;rotate_left
   ·intro w' hw';have c6:=CY.out w' hw';have c7:=CR.out w' hw';go_simp
    try with_reducible rfl
   (try dsimp only [k6]);(try simp only [zA,zB,zC])
   refine tkZ 10 24 ?_ rfl ?_ hS ?_;rotate_left
   ·intro w' hw';have c6:=CY.out w' hw';have c7:=CR.out w' hw';go_simp
    try with_reducible rfl
   (try dsimp only [k6]);(try simp only [zA,zB,zC])
   clear CY CR;refine rdZ 11 rfl (fun K hK=>?_);go_simp
   have r1:Hid (jc (v.alloc (.cells #[I u.yellow,I u.red] 3)) ⟨some ⟨v.heap.size,0,none⟩,2⟩ [u.yellow,u.red]):=hJJ (jg v 3 [u.yellow,u.red] 2 rfl (by decide) _ rfl);have o1:=hO.below ((kc v.heap.size v).alloc (kb _) (.cells #[I u.yellow,I u.red] 3));have s1:=hS.alloc hv3 (.cells #[I u.yellow,I u.red] 3);have z1:(v.alloc (.cells #[I u.yellow,I u.red] 3)).heap.size=v.heap.size+1:=by simp
   have v1:w3.heap.size<=(v.alloc (.cells #[I u.yellow,I u.red] 3)).heap.size:=by rw [z1];omega
   clear hS hO z1;generalize v.heap.size=b1 at r1 |-;generalize kf v _=v at r1 o1 s1 v1 |-;refine hK.out _ _ s1 (fun hS=>?_);clear hK K s1;refine rdZ 12 rfl (fun K hK=>?_);go_simp
   refine (JR (some ⟨b1,0,none⟩) 2 [u.yellow,u.red] 2 rfl _ r1.out).mono ?_;rintro e w' ⟨rfl,hq⟩;subst w';rw [<-CL.out];go_simp
   refine hK.out _ _ hS (fun hS=>?_);clear hK K r1;generalize clr T ((k:Nat):Int)=z at MS |-;refine rdZ 13 rfl (fun K hK=>?_);go_simp
   have c1:(v.alloc (.cells #[I z] 3)).cell? ⟨v.heap.size,0,none⟩=some (I z):=by rw [Kl _ _ _ _ _ _ (Kn v _)];rfl
   have o2:=o1.below ((kc v.heap.size v).alloc (kb _) (.cells #[I z] 3));have s2:=hS.alloc v1 (.cells #[I z] 3);have z2:(v.alloc (.cells #[I z] 3)).heap.size=v.heap.size+1:=by simp
   have v2:w3.heap.size<=(v.alloc (.cells #[I z] 3)).heap.size:=by rw [z2];omega
   clear hS o1 v1 z2;generalize v.heap.size=b2 at c1 |-;generalize kf v _=v at c1 o2 s2 v2 |-;refine hK.out _ _ s2 (fun hS=>?_);clear hK K s2;refine rdZ 14 rfl (fun K hK=>?_);rw [if_pos (by rfl)];refine Kz _ _ _ _ rfl w3.heap.size 3 i0 (.int .i64 0) 1 8 Tryz.underlying42 hi hz0 hz1 hz2 rfl (by decide) u3 P1.length _ rfl o2 ⟨b2,0,none⟩ 1 1 [I z] rfl rfl ?c1 ?c2 ?c3 ?c4 v2 ?_
   case c1 =>
    intro j e hj
    match j,hj with
    | 0,hj=>simp at hj;subst hj;rw [Tab.add_zero];exact c1
   case c2=>intro e he;simp at he;subst he;rfl
   case c3=>unfold maxLen;omega
   case c4=>omega
   intro v' w5 hown' hgrow hnil';have s3:Below w3.heap.size wr w5:=hS.grown hgrow (by omega) (fun m hm=>(show Jr w3.heap.size v u3 P1 from o2).blk m hm);have HO2:Hid (Jr w3.heap.size w5 v' (P1++[z])):=hJJ (jd.snoc hown');clear hown' hgrow hnil' hS o2 c1 v2;refine hK.out _ _ s3 (fun hS=>?_);clear hK K s3;refine tkZ 15 3 ?_ rfl ?_ hS ?_;rotate_left
   ·intro w' hw';go_simp
    try with_reducible rfl
   (try dsimp only [k6]);(try simp only [zA,zB,zC])
   refine Ko (by kernel_rfl) ?_ _;have HB2:=hJJ (HB.out.trans hS);clear hS;go_wp2;go_roundw;case rel=>exact ⟨q+1,by omega,by go_num,by rw [MS.out];exact HO2.out,HB2.out⟩
   case measure=>simp [intOf];omega
  have HE:Hid ((M.take q).map (clr T)=M.map (clr T)):=hJJ (by rw [ks (by omega)]);obtain ⟨⟨ea,ec⟩,hs,hrow⟩:=HO.out.row (enc:=fun n=>[I n]) (fun _=>rfl);rw [HE.out] at hs hrow;have HRR:=hJJ hrow;have HF:Hid (Below w.heap.size w wr):=hJJ ((S3.out.step HB.out).bel);clear hrow HE;subst hs;generalize M.map (clr T)=P2 at RS HRR |-;rw [show (Sl.val ⟨ea,ec⟩ P2.length)=.slice ea P2.length ec from rfl];go_wp2_with fail
  refine (j36 ea ec P2 _ HRR.out).mono ?_;rintro e w' ⟨rfl,rfl⟩;rw [<-RS.out];go_wp2;go_ret;exact ⟨rfl,HF.out⟩
end Clear
namespace EntryS
open Zip
open Go.ChangeShapes Go.WideShapes Go.ChangeAt Go.RowKit
open Tab Gath RefS OnS RefC Clear
open May (St JC jG jK jH jg)
def j6p (T:Tab) (r:Rl):Int:=jO [r.delay,r.hold,r.green,r.green,r.foot,r.foot,r.foot,Js T,Js T,Js T,Js T,Js T,T.revert,T.revert,T.revert,60]
def j1Z (T:Tab) (k:Int):Int:=if k < 0 then 0 else match T.rails[k.toNat]? with
 | some r=>j6p T r
 | none=>0
theorem j9N (T:Tab) (h:Hd) (k:Int) (w:World) (ht:jy w h T) :
  Calls Tryz.prog 105 #[.agg (T.cells h).toArray,.int .i64 k] w fun e w'=>e=.returned (.int .i64 (j1Z T k))/\Below w.heap.size w w':=by
 have C:=hJJ (j9 ht);have hsz:=C.out.size;have IA:Hid ((Tryz.prog.info? 33).map (·.size)=some (T.cells h).length):=hJJ (by rw [kr] at hsz;rw [hsz];exact jK);have CC:Hid (∀ W,Below w.heap.size w W->Calls Tryz.prog 107 #[.agg (T.cells h).toArray] W fun e w'=>e=.returned (.int .i64 (Js T))/\Below W.heap.size W w'):=hJJ (fun W hb=>j5L T h W (ht.below hb));have S0:=hJJ (St.box (cs:=(T.cells h).toArray) ht);have Kr:=ht.rails.len;unfold maxLen at Kr
 have RS:Hid (j1Z T k=if k < 0 then 0 else match T.rails[k.toNat]? with
  | some r=>j6p T r
  | none=>0):=hJJ rfl
 have ER:Hid (∀ r,j6p T r=jO [r.delay,r.hold,r.green,r.green,r.foot,r.foot,r.foot,Js T,Js T,Js T,Js T,Js T,T.revert,T.revert,T.revert,60]):=hJJ (fun r=>rfl);generalize j1Z T k=e0 at RS |-;generalize Js T=cl at CC ER;clear ht;generalize T.cells h=c at *;go_enter Tryz.func105,Tryz.ntmps105
 go_upto_region 1 with fail
 generalize w.alloc (.cells c.toArray 33)=w1 at S0 |-;clear hsz;have q114:=S0.out.cell C.out.r;by_cases h0:k < 0
 ·have HE:Hid (0=e0):=hJJ (by rw [RS.out,if_pos h0]);go_wp2;go_ret;exact ⟨RefC.jn HE.out,S0.out.bel⟩
 obtain ⟨m,rfl⟩:=kq (show 0<=k by omega);by_cases h1:T.rails.length<=m
 ·have HE:Hid (0=e0):=hJJ (by rw [RS.out,if_neg h0,kG,kU h1]);go_wp2;go_ret;exact ⟨RefC.jn HE.out,S0.out.bel⟩
 have hlt:m < T.rails.length:=by omega
 have hv:=k9 hlt;generalize T.rails[m]=r at hv;have HE:Hid (j6p T r=e0):=hJJ (by rw [RS.out,if_neg h0,kG,hv]);obtain ⟨x,hx,hc⟩:=S0.out.tab.rails.at hv;have HC:=hJJ hc;have qq:Hid (w1.cell? ⟨w.heap.size,114,none⟩=some (.slice (some x) T.rails.length h.r.cap)):=by have:=q114;simp only [Sl.val,hx] at this;exact this
 clear hv hc hx q114 h0 h1 RS;have q114:=qq.out;go_upto_region 3 with fail
 go_upto_region 4 with (first | (refine Row.j7 75 _ rfl (by first | rfl | go_simp) (x.add (m*11)) rfl r.cells _ HC.out Tryz.underlying75 rfl jH ?_) | (refine Row.jh rfl 75 _ _ rfl w1 _ r.cells.toArray rfl rfl rfl jH rfl (Rl.one _) ?_))
 have hb2:Below w1.heap.size w1 (w1.alloc (.cells r.cells.toArray 75)):=(kc _ _).alloc (kb _) _;have hg:=Kn w1 (.cells r.cells.toArray 75)
 (try dsimp only [k6])
 have S1:=hJJ (S0.out.step hb2);clear q114 qq HC;generalize kf w1 _=w2 at hg S1 |-;generalize w1.heap.size=b at hg |-;have HG:=hJJ hg;clear hg hb2 S0;have LT:Hid (jl w2 ⟨w.heap.size,0,none⟩ c):=hJJ (by have:=Row.j1 S1.out.blk;simpa using this);go_wp2_with (refine lgZ 33 ⟨w.heap.size,0,none⟩ c rfl LT.out Tryz.underlying33 IA.out ?_)
 refine (CC.out _ S1.out.bel).mono ?_;rintro e w3 ⟨rfl,hb⟩;have S2:=hJJ (S1.out.step hb);have hg3:=(hb.block _ (ka.1 HG.out).1).trans HG.out;have HL:Hid (jl w3 ⟨b,0,none⟩ r.cells):=hJJ (by have:=Row.j1 hg3;simpa using this);clear hb hg3 HG S1 LT CC IA;have c4:w3.cell? ⟨b,4,none⟩=some (I r.delay):=by have:=HL.out 4 _ rfl;rwa [kj,ko] at this
 have c5:w3.cell? ⟨b,5,none⟩=some (I r.green):=by have:=HL.out 5 _ rfl;rwa [kj,ko] at this
 have c6:w3.cell? ⟨b,6,none⟩=some (I r.foot):=by have:=HL.out 6 _ rfl;rwa [kj,ko] at this
 have c7:w3.cell? ⟨b,7,none⟩=some (I r.hold):=by have:=HL.out 7 _ rfl;rwa [kj,ko] at this
 have c119:=S2.out.cell C.out.revert;go_wp2_with fail
 have hrow:=jg w3 3 [r.delay,r.hold,r.green,r.green,r.foot,r.foot,r.foot,cl,cl,cl,cl,cl,T.revert,T.revert,T.revert,60] 16 rfl (by decide) _ rfl;have HF:Hid (Below w.heap.size w (w3.alloc (.cells #[I r.delay,I r.hold,I r.green,I r.green,I r.foot,I r.foot,I r.foot,I cl,I cl,I cl,I cl,I cl,I T.revert,I T.revert,I T.revert,I 60] 3))):=hJJ (S2.out.bel.alloc S2.out.bel.size _);refine (JR (some ⟨w3.heap.size,0,none⟩) 16 [r.delay,r.hold,r.green,r.green,r.foot,r.foot,r.foot,cl,cl,cl,cl,cl,T.revert,T.revert,T.revert,60] 16 rfl _ hrow).mono ?_;rintro e w' ⟨rfl,rfl⟩;rw [<-ER.out r,HE.out];clear hrow c4 c5 c6 c7 c119;go_wp2;go_ret;exact ⟨rfl,HF.out⟩
end EntryS
namespace OverS
open Zip
open Go.ChangeShapes Go.WideShapes Go.ChangeAt Go.RowKit
open Tab Gath RefS OnS RefC Clear EntryS
open May (St JC jG jK jH jg)
def ovE (T:Tab) (k:Nat):Int:=jO [j1Z T k,(T.rails.getD k default).stay]
def ovL (T:Tab) (n:Nat):List Int:=(K4 n).map (ovE T)
def ovM (T:Tab) (l:List Int):List Int:=l.flatMap fun p=>[cap (j0D T p).min,jO [(j0D T p).walk,(j0D T p).blinks]]
def jbn (T:Tab):Int:=jO [JY (ovL T T.rails.length),JY (ovM T (SetM.list (onS T:Nat))),Js T,T.revert,30]
def j3T (T:Tab):Int:=if T.rails.length=0 then 0 else jbn T
theorem jcW (T:Tab) (n:Nat):ovL T (n+1)=ovL T n++[ovE T n]:=by
 unfold ovL;rw [Kd,kO];rfl
theorem jeB (T:Tab) (n:Nat):(ovL T n).length=n:=by unfold ovL;simp
theorem jcX (T:Tab) (l:List Int):(ovM T l).length=l.length*2:=by
 unfold ovM
 induction l with
 | nil=>rfl
 | cons p l ih=>rw [List.flatMap_cons,kl,ih];simp;omega
theorem j5M {B:Nat} {w:World} {v':Value} {l:List Int} {a b:Int} (h:w.ownsRow B 3 1 v' (l.length+2) (l.flatMap (fun n=>[I n])++[I a,I b])):Jr B w v' (l++[a,b]):=by
 unfold Jr Gath.jd;rw [kl,kZ];exact h
theorem jbo (T:Tab) (l:List Int) (p:Int):ovM T (l++[p])=ovM T l++[cap (j0D T p).min,jO [(j0D T p).walk,(j0D T p).blinks]]:=by
 unfold ovM;rw [kZ];simp
theorem jbp (T:Tab) (h:Hd) (w:World) (ht:jy w h T) (few:T.rails.length<=1000) :
  Calls Tryz.prog 77 #[.agg (T.cells h).toArray] w fun e w'=>e=.returned (.int .i64 (j3T T))/\Below w.heap.size w w':=by
 have C:=hJJ (j9 ht);have hsz:=C.out.size;have IA:Hid ((Tryz.prog.info? 33).map (·.size)=some (T.cells h).length):=hJJ (by rw [kr] at hsz;rw [hsz];exact jK);have EC:Hid (∀ (k:Nat) W,Below w.heap.size w W->Calls Tryz.prog 105 #[.agg (T.cells h).toArray,.int .i64 k] W fun e w'=>e=.returned (.int .i64 (j1Z T k))/\Below W.heap.size W w'):=hJJ (fun k W hb=>j9N T h k W (ht.below hb));have ON:Hid (∀ W,Below w.heap.size w W->Calls Tryz.prog 101 #[.agg (T.cells h).toArray] W fun e w'=>e=.returned (.int .i64 (onS T:Nat))/\Below W.heap.size W w'):=hJJ (fun W hb=>j6n T h W (ht.below hb));have CC:Hid (∀ W,Below w.heap.size w W->Calls Tryz.prog 107 #[.agg (T.cells h).toArray] W fun e w'=>e=.returned (.int .i64 (Js T))/\Below W.heap.size W w'):=hJJ (fun W hb=>j5L T h W (ht.below hb));have L8:=hJJ ht.ph;have RL:=hJJ ht.rails;have S0:=hJJ (St.box (cs:=(T.cells h).toArray) ht);have HZ:Hid ((w.alloc (.cells (T.cells h).toArray 33)).heap.size=w.heap.size+1):=hJJ (by simp);have RS:Hid (j3T T=if T.rails.length=0 then 0 else jbn T):=hJJ rfl;have RR:Hid (jbn T=jO [JY (ovL T T.rails.length),JY (ovM T (SetM.list (onS T:Nat))),Js T,T.revert,30]):=hJJ rfl;generalize j3T T=res at RS |-;generalize ((onS T:Nat):Int)=os at RR ON;obtain ⟨i0,hi,hz0,hz1,hz2⟩:=Kx j1E;clear ht;go_enter Tryz.func77,Tryz.ntmps77
 go_upto_region 1 with fail
 generalize w.alloc (.cells (T.cells h).toArray 33)=w1 at S0 HZ |-;have q114:=C.out.r;have q119:=C.out.revert;generalize hc:T.cells h=c at *;clear hsz hc;generalize hn:T.rails.length=n at *;have HN:=hJJ hn;clear hn;obtain ⟨sg,sd,⟨ra,rcap⟩,sb⟩:=h;have Q114:Hid (∀ W,Below w1.heap.size w1 W->W.cell? ⟨w.heap.size,114,none⟩=some (.slice ra n rcap)):=hJJ (fun W hb=>(S0.out.step hb).cell q114);have Q119:Hid (∀ W,Below w1.heap.size w1 W->W.cell? ⟨w.heap.size,119,none⟩=some (I T.revert)):=hJJ (fun W hb=>(S0.out.step hb).cell q119);have LT:Hid (∀ W,Below w1.heap.size w1 W->jl W ⟨w.heap.size,0,none⟩ c):=hJJ (fun W hb=>by have:=Row.j1 (S0.out.step hb).blk;simpa using this);have BB:Hid (∀ W,Below w1.heap.size w1 W->Below w.heap.size w W):=hJJ (fun W hb=>S0.out.bel.trans (hb.mono S0.out.bel.size));clear q114 q119;have q114:=Q114.out _ (kc _ _);by_cases hn0:n=0
 ·have HF:Hid (0=res):=hJJ (by rw [RS.out,if_pos hn0]);have HB:=hJJ S0.out.bel;subst hn0;go_wp2;go_ret;exact ⟨RefC.jn HF.out,HB.out⟩
 have hnb:((n:Int) == 0)=false:=by
  rw [beq_eq_false_iff_ne];omega
 have HR0:Hid (jO [JY (ovL T n),JY (ovM T (SetM.list os)),Js T,T.revert,30]=res):=hJJ (by rw [RS.out,if_neg hn0,RR.out]);clear RS RR;have NZ:=hJJ hn0;clear hn0;go_upto_region 4 with fail
 clear q114 hnb;have US:Hid (∀ q,ovL T (q+1)=ovL T q++[ovE T q]):=hJJ (jcW T);have UL:Hid (∀ q,(ovL T q).length=q):=hJJ (jeB T);have U0:Hid (ovL T 0=[]):=hJJ rfl;have UE:Hid (∀ q,ovE T q=jO [j1Z T q,(T.rails.getD q default).stay]):=hJJ (fun q=>rfl);generalize ovL T=ul at HR0 US UL U0;generalize ovE T=ue at US UE;go_wp2_with fail
 go_loopw [3,5] (fun v i wr=>∃ q:Nat,q<=n/\i=.int .i64 q/\Jr w1.heap.size wr v (ul q)/\Below w1.heap.size w1 wr) (fun _ i _=>n - (intOf i).toNat)
 case atStart=>exact ⟨0,by omega,rfl,by rw [U0.out];exact jd.nil,kc _ _⟩
 case round =>
  obtain ⟨q,hq,rfl,hown,hbel⟩:=hrel;have HO:=hJJ hown;have HB:=hJJ hbel;clear hown hbel;have q114:=Q114.out _ HB.out;by_cases hlt:q < n
  ·have hv0:T.rails[q]?=some (T.rails.getD q default):=by
    rw [kk,k9 (by rw [HN.out];exact hlt)];rfl
   have HS:Hid (ul (q+1)=ul q++[jO [j1Z T q,(T.rails.getD q default).stay]]):=hJJ (by rw [US.out,UE.out]);generalize T.rails.getD q default=u at hv0 HS;obtain ⟨y,hy,hcc⟩:=RL.out.at hv0;obtain rfl:ra=some y:=hy;have d8:w.cell? ⟨(y.add (q*11)).block,(y.add (q*11)).off+8,none⟩=some (I u.stay):=by have:=hcc 8 _ rfl;simpa [kS] using this
   have hlb:(⟨(y.add (q*11)).block,(y.add (q*11)).off+8,none⟩:Addr).block < w.heap.size:=kp w _ d8;have CF:Hid (∀ w',Below w1.heap.size wr w'->w'.cell? ⟨(y.add (q*11)).block,(y.add (q*11)).off+8,none⟩=some (I u.stay)):=hJJ (fun w' hb=>((BB.out _ (HB.out.trans hb)).cell hlb).trans d8);have CQ:Hid (∀ w',Below w1.heap.size wr w'->w'.cell? ⟨w.heap.size,114,none⟩=some (.slice (some y) n rcap)):=hJJ (fun w' hb=>Q114.out _ (HB.out.trans hb));have LS:Hid (∀ w',Below w1.heap.size wr w'->jl w' ⟨w.heap.size,0,none⟩ c):=hJJ (fun w' hb=>LT.out _ (HB.out.trans hb));have SB:Hid (∀ w',Below w1.heap.size wr w'->Below w.heap.size w w'):=hJJ (fun w' hb=>BB.out _ (HB.out.trans hb));have hwr:=HB.out.size;have hlen:(ul q).length<=1000:=by rw [UL.out];omega
   generalize ul q=P1 at HO HS hlen;have HS2:=HS;clear hv0 hcc d8 HS hlb;generalize u.stay=st at CF HS2;go_upto_region 7 with fail
   clear q114;refine Kq (S:=fun w'=>Below w1.heap.size wr w') (by kernel_rfl) ?_;have hO:Jr w1.heap.size { wr with drawn:=wr.drawn+1 } u3 P1:=HO.out;have hS:Below w1.heap.size wr { wr with drawn:=wr.drawn+1 }:=(kc _ _).drew;have hv:w1.heap.size<=({ wr with drawn:=wr.drawn+1 }:World).heap.size:=hwr;generalize ({ wr with drawn:=wr.drawn+1 }:World)=v at hS hO hv |-;refine tkZ 0 19 ?_ rfl ?_ hS ?_;rotate_left
   ·intro w' hw';go_simp
    try with_reducible rfl
   (try dsimp only [k6]);(try simp only [zA,zB,zC])
   refine tlZ 1 20 33 _ ⟨w.heap.size,0,none⟩ c rfl hS (fun w' hw'=>LS.out w' hw') Tryz.underlying33 IA.out ?_
   (try dsimp only [k6]);(try simp only [zA,zB,zC])
   refine tkZ 2 21 ?_ rfl ?_ hS ?_;rotate_left
   ·intro w' hw';go_simp
    try with_reducible rfl
   (try dsimp only [k6]);(try simp only [zA,zB,zC])
   refine tkZ 4 23 ?_ rfl ?_ hS ?_;rotate_left
   ·intro w' hw';have cf:=CF.out w' hw';have cq:=CQ.out w' hw';go_simp
    try with_reducible rfl
   (try dsimp only [k6]);(try simp only [zA,zB,zC])
   refine tkZ 5 24 ?_ rfl ?_ hS ?_;rotate_left
   ·intro w' hw';have cf:=CF.out w' hw';have cq:=CQ.out w' hw';go_simp
    try with_reducible rfl
   (try dsimp only [k6]);(try simp only [zA,zB,zC])
   refine tkZ 6 25 ?_ rfl ?_ hS ?_;rotate_left
   ·intro w' hw';have cf:=CF.out w' hw';have cq:=CQ.out w' hw';go_simp
    try with_reducible rfl
   (try dsimp only [k6]);(try simp only [zA,zB,zC])
   refine tkZ 7 26 ?_ rfl ?_ hS ?_;rotate_left
   ·intro w' hw';have cf:=CF.out w' hw';have cq:=CQ.out w' hw';go_simp
    try with_reducible rfl
   (try dsimp only [k6]);(try simp only [zA,zB,zC])
   refine tkZ 8 27 ?_ rfl ?_ hS ?_;rotate_left
   ·intro w' hw';have cf:=CF.out w' hw';have cq:=CQ.out w' hw';go_simp
    try with_reducible rfl
   (try dsimp only [k6]);(try simp only [zA,zB,zC])
   refine tkZ 9 28 ?_ rfl ?_ hS ?_;rotate_left
   ·intro w' hw';have cf:=CF.out w' hw';have cq:=CQ.out w' hw';go_simp
    try with_reducible rfl
   (try dsimp only [k6]);(try simp only [zA,zB,zC])
   refine rdZ 3 rfl (fun K hK=>?_);go_simp
   refine (EC.out q v (SB.out v hS)).mono ?_;rintro e x1 ⟨rfl,hb⟩;generalize j1Z T ((q:Nat):Int)=en at HS2 |-;replace hO:=jd.below hO hb;have hS2:=kw hS (hb.mono hv);replace hv:=kx hv hb.size;clear hb hS;go_simp
   refine hK.out _ _ hS2 (fun hS=>?_);clear hK K hS2;refine rdZ 10 rfl (fun K hK=>?_);go_simp
   have r1:Hid (jc (x1.alloc (.cells #[I en,I st] 3)) ⟨some ⟨x1.heap.size,0,none⟩,2⟩ [en,st]):=hJJ (May.jg x1 3 [en,st] 2 rfl (by decide) _ rfl);have hbw:Below x1.heap.size x1 (x1.alloc (.cells #[I en,I st] 3)):=(kc _ _).alloc (kb _) _;replace hO:=jd.below hO hbw;have hS2:=hS.alloc hv (.cells #[I en,I st] 3);replace hv:=kx hv hbw.size;clear hbw hS;generalize hb0:x1.heap.size=b2 at r1 |-;clear hb0;generalize kf x1 (.cells #[I en,I st] 3)=x3 at r1 hO hS2 hv |-;refine hK.out _ _ hS2 (fun hS=>?_);clear hK K hS2;refine rdZ 11 rfl (fun K hK=>?_);go_simp
   refine (Clear.JR (some ⟨b2,0,none⟩) 2 [en,st] 2 rfl x3 r1.out).mono ?_;rintro e w' ⟨rfl,hq⟩;subst w';clear r1;generalize jO [en,st]=z at HS2 |-;go_simp
   refine hK.out _ _ hS (fun hS=>?_);clear hK K;refine rdZ 12 rfl (fun K hK=>?_);go_simp
   have r2:Hid (jc (x3.alloc (.cells #[I z] 3)) ⟨some ⟨x3.heap.size,0,none⟩,1⟩ [z]):=hJJ (May.jg x3 3 [z] 1 rfl (by decide) _ rfl);have hbw:Below x3.heap.size x3 (x3.alloc (.cells #[I z] 3)):=(kc _ _).alloc (kb _) _;replace hO:=jd.below hO hbw;have hS2:=hS.alloc hv (.cells #[I z] 3);replace hv:=kx hv hbw.size;clear hbw hS;generalize hb0:x3.heap.size=b4 at r2 |-;clear hb0;generalize kf x3 (.cells #[I z] 3)=x5 at r2 hO hS2 hv |-;refine hK.out _ _ hS2 (fun hS=>?_);clear hK K hS2;refine rdZ 13 rfl (fun K hK=>?_);rw [if_pos (by rfl)];refine Kz _ _ _ _ rfl w1.heap.size 3 i0 (.int .i64 0) 1 8 Tryz.underlying42 hi hz0 hz1 hz2 rfl (by decide) u3 P1.length _ rfl hO ⟨b4,0,none⟩ 1 1 [I z] rfl rfl ?c1 ?c2 ?c3 ?c4 hv ?_
   case c1 =>
    intro j e hj
    obtain ⟨x,hx,hc⟩:=jc.at r2.out (i:=j) (v:=intOf e) (by
     match j,hj with
     | 0,hj=>simp at hj;subst hj;rfl)
    obtain rfl:=kA hx;rw [hc]
    match j,hj with
    | 0,hj=>simp at hj;subst hj;rfl
   case c2=>intro e he;simp at he;subst he;rfl
   case c3=>unfold maxLen;omega
   case c4=>omega
   intro v' x6 hown' hgrow hnil';have hS2:=hS.grown hgrow hv (fun m hm=>jd.blk (show Jr w1.heap.size x5 u3 P1 from hO) m hm);have HO2:Hid (x6.ownsRow w1.heap.size 3 1 v' (P1.length+1) (P1.flatMap (fun n=>[I n])++[I z])):=hJJ hown';clear hown' hgrow hnil' hO hS;refine hK.out _ _ hS2 (fun hS=>?_);clear hK K hS2;refine tkZ 14 3 ?_ rfl ?_ hS ?_;rotate_left
   ·intro w' hw';go_simp
    try with_reducible rfl
   (try dsimp only [k6]);(try simp only [zA,zB,zC])
   refine Ko (by kernel_rfl) ?_ _;have HB2:=hJJ (HB.out.trans hS);clear hS;go_wp2;go_roundw;case rel=>exact ⟨q+1,by omega,by go_num,by rw [HS2.out];exact jd.snoc HO2.out,HB2.out⟩
   case measure=>simp [intOf];omega
  have HE:Hid (q=n):=hJJ (by omega);obtain ⟨⟨ea,ec⟩,hs,hrow⟩:=HO.out.row (enc:=fun n=>[I n]) (fun _=>rfl);rw [HE.out] at hs hrow;have H3:=hJJ hrow;clear hrow;subst hs;generalize ul n=P3 at HR0 H3 |-;show Kh _ _ _ _ _;rw [show (Sl.val ⟨ea,ec⟩ P3.length)=.slice ea P3.length ec from rfl];go_upto_region 8 with fail
  clear q114;go_wp2_with (refine lgZ 33 ⟨w.heap.size,0,none⟩ c rfl (LT.out _ HB.out) Tryz.underlying33 IA.out ?_)
  refine (ON.out _ (BB.out _ HB.out)).mono ?_;rintro e w2 ⟨rfl,hb⟩;have B2:=hJJ (HB.out.trans (hb.mono HB.out.size));have R2:=hJJ (ju.below H3.out hb);clear hb HB H3 ON;go_wp2_with fail
  refine (j3s os _).mono ?_;rintro e w3 ⟨v0,rfl,hown,hb⟩;have B3:=hJJ (B2.out.trans (hb.mono B2.out.size));have R3:=hJJ (ju.below R2.out hb);obtain ⟨sa,sc,rfl,hrow⟩:=j86 hown;have HR:=hJJ hrow;have hl8:=SetM.j4U os;have BD:=hJJ (SetM.j6j os);clear hown hrow hb B2 R2;generalize SetM.list os=M at HR0 HR hl8 BD |-;have MT:Hid (∀ q,q < M.length->ovM T (M.take (q+1))=ovM T (M.take q)++[cap (j0D T (M.getD q 0)).min,jO [(j0D T (M.getD q 0)).walk,(j0D T (M.getD q 0)).blinks]]):=hJJ (fun q hq=>by rw [RefS.take_succ M q hq,jbo]);have ML:Hid (∀ q,(ovM T (M.take q)).length<=16):=hJJ (fun q=>by rw [jcX,kB];omega);go_wp2_with fail
  go_loopw [4,37] (fun v i wr=>∃ q:Nat,q<=M.length/\i=.int .i64 q/\Jr w3.heap.size wr v (ovM T (M.take q))/\Below w3.heap.size w3 wr) (fun _ i _=>M.length - (intOf i).toNat)
  case atStart=>exact ⟨0,by omega,rfl,jd.nil,kc _ _⟩
  case round =>
   obtain ⟨q,hq,rfl,hown,hbel⟩:=hrel;have HO:=hJJ hown;have HB:=hJJ hbel;clear hown hbel;by_cases hlt:q < M.length
   ·obtain ⟨x,hx,hc⟩:=(HR.out.below HB.out).cells hlt;obtain rfl:sa=some x:=hx;have c0:=hc q hlt;have hmem:M.getD q 0 ∈ M:=by rw [kk,k9 hlt];exact Ka hlt
    have hbd:=BD.out _ hmem;have MS:=hJJ (MT.out q hlt);have hlen:=ML.out q;clear hc hmem;generalize M.getD q 0=p at c0 hbd MS;obtain ⟨p0,p8⟩:=hbd;obtain ⟨k,rfl⟩:=kq p0;have hk:k < 8:=by omega
    have hv:T.phases[k]?=some (j0D T k):=by
     unfold j0D;rw [kG,kk,k9 (by rw [L8.out];exact hk)];rfl
    generalize j0D T k=u at hv MS;have S4:=hJJ (S0.out.step (B3.out.trans (HB.out.mono B3.out.size)));obtain ⟨y,hy,hcc⟩:=(JC S4.out.blk C.out L8.out).at hv;obtain rfl:=kA hy;have d1:wr.cell? ⟨w.heap.size,k*13+1,none⟩=some (I u.min):=by have:=hcc 1 _ rfl;rwa [kj,ko,kj] at this
    have d8:wr.cell? ⟨w.heap.size,k*13+8,none⟩=some (I u.walk):=by have:=hcc 8 _ rfl;rwa [kj,ko,kj] at this
    have d9:wr.cell? ⟨w.heap.size,k*13+9,none⟩=some (I u.blinks):=by have:=hcc 9 _ rfl;rwa [kj,ko,kj] at this
    have hl3:w.heap.size < w3.heap.size:=by have:=B3.out.size;have:=HZ.out;omega
    have C1:Hid (∀ w',Below w3.heap.size wr w'->w'.cell? ⟨w.heap.size,k*13+1,none⟩=some (I u.min)):=hJJ (fun w' hb=>(hb.cell (show w.heap.size < _ from hl3)).trans d1);have C8:Hid (∀ w',Below w3.heap.size wr w'->w'.cell? ⟨w.heap.size,k*13+8,none⟩=some (I u.walk)):=hJJ (fun w' hb=>(hb.cell (show w.heap.size < _ from hl3)).trans d8);have C9:Hid (∀ w',Below w3.heap.size wr w'->w'.cell? ⟨w.heap.size,k*13+9,none⟩=some (I u.blinks)):=hJJ (fun w' hb=>(hb.cell (show w.heap.size < _ from hl3)).trans d9);clear hv hcc hy d1 d8 d9 hl3;have hwr:=HB.out.size;generalize ovM T (M.take q)=P1 at HO MS hlen;generalize u.min=mi at C1 MS;generalize u.walk=wa at C8 MS;generalize u.blinks=bl at C9 MS;go_upto_region 11 with fail
    refine Kq (S:=fun w'=>Below w3.heap.size wr w') (by kernel_rfl) ?_;have hO:Jr w3.heap.size { wr with drawn:=wr.drawn+1 } u4 P1:=HO.out;have hS:Below w3.heap.size wr { wr with drawn:=wr.drawn+1 }:=(kc _ _).drew;have hv:w3.heap.size<=({ wr with drawn:=wr.drawn+1 }:World).heap.size:=hwr;generalize ({ wr with drawn:=wr.drawn+1 }:World)=v at hS hO hv |-;refine tkZ 0 41 ?_ rfl ?_ hS ?_;rotate_left
    ·intro w' hw';have e1:=C1.out w' hw';have e8:=C8.out w' hw';have e9:=C9.out w' hw';go_simp
     try with_reducible rfl
    (try dsimp only [k6]);(try simp only [zA,zB,zC])
    refine tkZ 1 42 ?_ rfl ?_ hS ?_;rotate_left
    ·intro w' hw';have e1:=C1.out w' hw';have e8:=C8.out w' hw';have e9:=C9.out w' hw';go_simp
     try with_reducible rfl
    (try dsimp only [k6]);(try simp only [zA,zB,zC])
    refine tkZ 2 43 ?_ rfl ?_ hS ?_;rotate_left
    ·intro w' hw';have e1:=C1.out w' hw';have e8:=C8.out w' hw';have e9:=C9.out w' hw';go_simp
     try with_reducible rfl
    (try dsimp only [k6]);(try simp only [zA,zB,zC])
    refine tkZ 3 44 ?_ rfl ?_ hS ?_;rotate_left
    ·intro w' hw';have e1:=C1.out w' hw';have e8:=C8.out w' hw';have e9:=C9.out w' hw';go_simp
     try with_reducible rfl
    (try dsimp only [k6]);(try simp only [zA,zB,zC])
    refine tkZ 4 45 ?_ rfl ?_ hS ?_;rotate_left
    ·intro w' hw';have e1:=C1.out w' hw';have e8:=C8.out w' hw';have e9:=C9.out w' hw';go_simp
     try with_reducible rfl
    (try dsimp only [k6]);(try simp only [zA,zB,zC])
    refine tkZ 5 46 ?_ rfl ?_ hS ?_;rotate_left
    ·intro w' hw';have e1:=C1.out w' hw';have e8:=C8.out w' hw';have e9:=C9.out w' hw';go_simp
     try with_reducible rfl
    (try dsimp only [k6]);(try simp only [zA,zB,zC])
    refine tkZ 7 48 ?_ rfl ?_ hS ?_;rotate_left
    ·intro w' hw';have e1:=C1.out w' hw';have e8:=C8.out w' hw';have e9:=C9.out w' hw';go_simp
     try with_reducible rfl
    (try dsimp only [k6]);(try simp only [zA,zB,zC])
    refine tkZ 8 49 ?_ rfl ?_ hS ?_;rotate_left
    ·intro w' hw';have e1:=C1.out w' hw';have e8:=C8.out w' hw';have e9:=C9.out w' hw';go_simp
     try with_reducible rfl
    (try dsimp only [k6]);(try simp only [zA,zB,zC])
    refine tkZ 9 50 ?_ rfl ?_ hS ?_;rotate_left
    ·intro w' hw';have e1:=C1.out w' hw';have e8:=C8.out w' hw';have e9:=C9.out w' hw';go_simp
     try with_reducible rfl
    (try dsimp only [k6]);(try simp only [zA,zB,zC])
    refine tkZ 10 51 ?_ rfl ?_ hS ?_;rotate_left
    ·intro w' hw';have e1:=C1.out w' hw';have e8:=C8.out w' hw';have e9:=C9.out w' hw';go_simp
     try with_reducible rfl
    (try dsimp only [k6]);(try simp only [zA,zB,zC])
    refine tkZ 11 52 ?_ rfl ?_ hS ?_;rotate_left
    ·intro w' hw';have e1:=C1.out w' hw';have e8:=C8.out w' hw';have e9:=C9.out w' hw';go_simp
     try with_reducible rfl
    (try dsimp only [k6]);(try simp only [zA,zB,zC])
    refine tkZ 12 53 ?_ rfl ?_ hS ?_;rotate_left
    ·intro w' hw';have e1:=C1.out w' hw';have e8:=C8.out w' hw';have e9:=C9.out w' hw';go_simp
     try with_reducible rfl
    (try dsimp only [k6]);(try simp only [zA,zB,zC])
    refine tkZ 13 54 ?_ rfl ?_ hS ?_;rotate_left
    ·intro w' hw';have e1:=C1.out w' hw';have e8:=C8.out w' hw';have e9:=C9.out w' hw';go_simp
     try with_reducible rfl
    (try dsimp only [k6]);(try simp only [zA,zB,zC])
    refine tkZ 14 55 ?_ rfl ?_ hS ?_;rotate_left
    ·intro w' hw';have e1:=C1.out w' hw';have e8:=C8.out w' hw';have e9:=C9.out w' hw';go_simp
     try with_reducible rfl
    (try dsimp only [k6]);(try simp only [zA,zB,zC])
    refine tkZ 15 56 ?_ rfl ?_ hS ?_;rotate_left
    ·intro w' hw';have e1:=C1.out w' hw';have e8:=C8.out w' hw';have e9:=C9.out w' hw';go_simp
     try with_reducible rfl
    (try dsimp only [k6]);(try simp only [zA,zB,zC])
    refine tkZ 16 57 ?_ rfl ?_ hS ?_;rotate_left
    ·intro w' hw';have e1:=C1.out w' hw';have e8:=C8.out w' hw';have e9:=C9.out w' hw';go_simp
     try with_reducible rfl
    (try dsimp only [k6]);(try simp only [zA,zB,zC])
    refine j1d 6 17 rfl rfl (fun K hK=>?_) (fun K hK=>?_)
    ·go_simp
     refine (j0z mi v).mono ?_;rintro e w' ⟨rfl,hq⟩;subst w';generalize cap mi=cm at MS |-;go_simp
     refine hK.out _ _ hS (fun hS=>?_);clear hK K;refine rdZ 17 rfl (fun K hK=>?_);go_simp
     have r1:Hid (jc (v.alloc (.cells #[I wa,I bl] 3)) ⟨some ⟨v.heap.size,0,none⟩,2⟩ [wa,bl]):=hJJ (May.jg v 3 [wa,bl] 2 rfl (by decide) _ rfl);have hbw:Below v.heap.size v (v.alloc (.cells #[I wa,I bl] 3)):=(kc _ _).alloc (kb _) _;replace hO:=jd.below hO hbw;have hS2:=hS.alloc hv (.cells #[I wa,I bl] 3);replace hv:=kx hv hbw.size;clear hbw hS;generalize hb0:v.heap.size=b1 at r1 |-;clear hb0;generalize kf v (.cells #[I wa,I bl] 3)=x2 at r1 hO hS2 hv |-;refine hK.out _ _ hS2 (fun hS=>?_);clear hK K hS2;refine rdZ 18 rfl (fun K hK=>?_);go_simp
     refine (Clear.JR (some ⟨b1,0,none⟩) 2 [wa,bl] 2 rfl x2 r1.out).mono ?_;rintro e w' ⟨rfl,hq⟩;subst w';clear r1;generalize jO [wa,bl]=z at MS |-;go_simp
     refine hK.out _ _ hS (fun hS=>?_);clear hK K;refine rdZ 19 rfl (fun K hK=>?_);go_simp
     have r2:Hid (jc (x2.alloc (.cells #[I cm,I z] 3)) ⟨some ⟨x2.heap.size,0,none⟩,2⟩ [cm,z]):=hJJ (May.jg x2 3 [cm,z] 2 rfl (by decide) _ rfl);have hbw:Below x2.heap.size x2 (x2.alloc (.cells #[I cm,I z] 3)):=(kc _ _).alloc (kb _) _;replace hO:=jd.below hO hbw;have hS2:=hS.alloc hv (.cells #[I cm,I z] 3);replace hv:=kx hv hbw.size;clear hbw hS;generalize hb0:x2.heap.size=b3 at r2 |-;clear hb0;generalize kf x2 (.cells #[I cm,I z] 3)=x4 at r2 hO hS2 hv |-;refine hK.out _ _ hS2 (fun hS=>?_);clear hK K hS2;refine rdZ 20 rfl (fun K hK=>?_);rw [if_pos (by rfl)];refine Kz _ _ _ _ rfl w3.heap.size 3 i0 (.int .i64 0) 1 8 Tryz.underlying42 hi hz0 hz1 hz2 rfl (by decide) u4 P1.length _ rfl hO ⟨b3,0,none⟩ 2 2 [I cm,I z] rfl rfl ?c1 ?c2 ?c3 ?c4 hv ?_
     case c1 =>
      intro j e hj
      obtain ⟨x,hx,hc⟩:=jc.at r2.out (i:=j) (v:=intOf e) (by
       match j,hj with
       | 0,hj=>simp at hj;subst hj;rfl
       | 1,hj=>simp at hj;subst hj;rfl)
      obtain rfl:=kA hx;rw [hc]
      match j,hj with
      | 0,hj=>simp at hj;subst hj;rfl
      | 1,hj=>simp at hj;subst hj;rfl
     case c2=>intro e he;simp at he;rcases he with rfl | rfl <;> rfl
     case c3=>unfold maxLen;omega
     case c4=>omega
     intro v' x5 hown' hgrow hnil';have hS2:=hS.grown hgrow hv (fun m hm=>jd.blk (show Jr w3.heap.size x4 u4 P1 from hO) m hm);have HO2:Hid (x5.ownsRow w3.heap.size 3 1 v' (P1.length+2) (P1.flatMap (fun n=>[I n])++[I cm,I z])):=hJJ hown';clear hown' hgrow hnil' hO hS;refine hK.out _ _ hS2 (fun hS=>?_);clear hK K hS2;refine tkZ 21 4 ?_ rfl ?_ hS ?_;rotate_left
     ·intro w' hw';go_simp
      try with_reducible rfl
     (try dsimp only [k6]);(try simp only [zA,zB,zC])
     refine Ko (by kernel_rfl) ?_ _;have HB2:=hJJ (HB.out.trans hS);clear hS;go_wp2;go_roundw;case rel=>exact ⟨q+1,by omega,by go_num,by rw [MS.out];exact j5M HO2.out,HB2.out⟩
     case measure=>simp [intOf];omega
    go_simp
    have r1:Hid (jc (v.alloc (.cells #[I wa,I bl] 3)) ⟨some ⟨v.heap.size,0,none⟩,2⟩ [wa,bl]):=hJJ (May.jg v 3 [wa,bl] 2 rfl (by decide) _ rfl);have hbw:Below v.heap.size v (v.alloc (.cells #[I wa,I bl] 3)):=(kc _ _).alloc (kb _) _;replace hO:=jd.below hO hbw;have hS2:=hS.alloc hv (.cells #[I wa,I bl] 3);replace hv:=kx hv hbw.size;clear hbw hS;generalize hb0:v.heap.size=b6 at r1 |-;clear hb0;generalize kf v (.cells #[I wa,I bl] 3)=x7 at r1 hO hS2 hv |-;refine hK.out _ _ hS2 (fun hS=>?_);clear hK K hS2;refine rdZ 6 rfl (fun K hK=>?_);go_simp
    refine (j0z mi x7).mono ?_;rintro e w' ⟨rfl,hq⟩;subst w';generalize cap mi=cm at MS |-;go_simp
    refine hK.out _ _ hS (fun hS=>?_);clear hK K;refine rdZ 18 rfl (fun K hK=>?_);go_simp
    refine (Clear.JR (some ⟨b6,0,none⟩) 2 [wa,bl] 2 rfl x7 r1.out).mono ?_;rintro e w' ⟨rfl,hq⟩;subst w';clear r1;generalize jO [wa,bl]=z at MS |-;go_simp
    refine hK.out _ _ hS (fun hS=>?_);clear hK K;refine rdZ 19 rfl (fun K hK=>?_);go_simp
    have r2:Hid (jc (x7.alloc (.cells #[I cm,I z] 3)) ⟨some ⟨x7.heap.size,0,none⟩,2⟩ [cm,z]):=hJJ (May.jg x7 3 [cm,z] 2 rfl (by decide) _ rfl);have hbw:Below x7.heap.size x7 (x7.alloc (.cells #[I cm,I z] 3)):=(kc _ _).alloc (kb _) _;replace hO:=jd.below hO hbw;have hS2:=hS.alloc hv (.cells #[I cm,I z] 3);replace hv:=kx hv hbw.size;clear hbw hS;generalize hb0:x7.heap.size=b8 at r2 |-;clear hb0;generalize kf x7 (.cells #[I cm,I z] 3)=x9 at r2 hO hS2 hv |-;refine hK.out _ _ hS2 (fun hS=>?_);clear hK K hS2;refine rdZ 20 rfl (fun K hK=>?_);rw [if_pos (by rfl)];refine Kz _ _ _ _ rfl w3.heap.size 3 i0 (.int .i64 0) 1 8 Tryz.underlying42 hi hz0 hz1 hz2 rfl (by decide) u4 P1.length _ rfl hO ⟨b8,0,none⟩ 2 2 [I cm,I z] rfl rfl ?c1 ?c2 ?c3 ?c4 hv ?_
    case c1 =>
     intro j e hj
     obtain ⟨x,hx,hc⟩:=jc.at r2.out (i:=j) (v:=intOf e) (by
      match j,hj with
      | 0,hj=>simp at hj;subst hj;rfl
      | 1,hj=>simp at hj;subst hj;rfl)
     obtain rfl:=kA hx;rw [hc]
     match j,hj with
     | 0,hj=>simp at hj;subst hj;rfl
     | 1,hj=>simp at hj;subst hj;rfl
    case c2=>intro e he;simp at he;rcases he with rfl | rfl <;> rfl
    case c3=>unfold maxLen;omega
    case c4=>omega
    intro v' x10 hown' hgrow hnil';have hS2:=hS.grown hgrow hv (fun m hm=>jd.blk (show Jr w3.heap.size x9 u4 P1 from hO) m hm);have HO2:Hid (x10.ownsRow w3.heap.size 3 1 v' (P1.length+2) (P1.flatMap (fun n=>[I n])++[I cm,I z])):=hJJ hown';clear hown' hgrow hnil' hO hS;refine hK.out _ _ hS2 (fun hS=>?_);clear hK K hS2;refine tkZ 21 4 ?_ rfl ?_ hS ?_;rotate_left
    ·intro w' hw';go_simp
     try with_reducible rfl
    (try dsimp only [k6]);(try simp only [zA,zB,zC])
    refine Ko (by kernel_rfl) ?_ _;have HB2:=hJJ (HB.out.trans hS);clear hS;go_wp2;go_roundw;case rel=>exact ⟨q+1,by omega,by go_num,by rw [MS.out];exact j5M HO2.out,HB2.out⟩
    case measure=>simp [intOf];omega
   have HE:Hid (ovM T (M.take q)=ovM T M):=hJJ (by rw [ks (by omega)]);obtain ⟨⟨fa,fc⟩,hs,hrow⟩:=HO.out.row (enc:=fun n=>[I n]) (fun _=>rfl);rw [HE.out] at hs hrow;have H4:=hJJ hrow;have R4:=hJJ (ju.below R3.out HB.out);have B4:=hJJ (B3.out.trans (HB.out.mono B3.out.size));clear hrow HE;subst hs;generalize ovM T M=P4 at HR0 H4 |-;rw [show (Sl.val ⟨fa,fc⟩ P4.length)=.slice fa P4.length fc from rfl];have CQ:Hid (∀ w',Below wr.heap.size wr w'->w'.cell? ⟨w.heap.size,119,none⟩=some (I T.revert)):=hJJ (fun w' hb=>Q119.out _ (B4.out.trans (hb.mono B4.out.size)));have LS:Hid (∀ w',Below wr.heap.size wr w'->jl w' ⟨w.heap.size,0,none⟩ c):=hJJ (fun w' hb=>LT.out _ (B4.out.trans (hb.mono B4.out.size)));have SB:Hid (∀ w',Below wr.heap.size wr w'->Below w.heap.size w w'):=hJJ (fun w' hb=>BB.out _ (B4.out.trans (hb.mono B4.out.size)));generalize T.revert=rv at CQ HR0;go_upto_region 13 with fail
   refine Kq (S:=fun w'=>Below wr.heap.size wr w') (by kernel_rfl) ?_;have hS:Below wr.heap.size wr { wr with drawn:=wr.drawn+1 }:=(kc _ _).drew;have hv:wr.heap.size<=({ wr with drawn:=wr.drawn+1 }:World).heap.size:=kb _;generalize ({ wr with drawn:=wr.drawn+1 }:World)=v at hS hv |-;refine tkZ 0 63 ?_ rfl ?_ hS ?_;rotate_left
   ·intro w' hw';go_simp
    try with_reducible rfl
   (try dsimp only [k6]);(try simp only [zA,zB,zC])
   refine tkZ 2 65 ?_ rfl ?_ hS ?_;rotate_left
   ·intro w' hw';go_simp
    try with_reducible rfl
   (try dsimp only [k6]);(try simp only [zA,zB,zC])
   refine tlZ 4 67 33 _ ⟨w.heap.size,0,none⟩ c rfl hS (fun w' hw'=>LS.out w' hw') Tryz.underlying33 IA.out ?_
   (try dsimp only [k6]);(try simp only [zA,zB,zC])
   refine tkZ 6 69 ?_ rfl ?_ hS ?_;rotate_left
   ·intro w' hw';have e1:=CQ.out w' hw';go_simp
    try with_reducible rfl
   (try dsimp only [k6]);(try simp only [zA,zB,zC])
   refine tkZ 7 70 ?_ rfl ?_ hS ?_;rotate_left
   ·intro w' hw';have e1:=CQ.out w' hw';go_simp
    try with_reducible rfl
   (try dsimp only [k6]);(try simp only [zA,zB,zC])
   refine rdZ 1 rfl (fun K hK=>?_);go_simp
   refine (j36 ea ec P3 v (ju.below R4.out hS)).mono ?_;rintro e w' ⟨rfl,hq⟩;subst w';generalize JY P3=m3 at HR0 |-;go_simp
   refine hK.out _ _ hS (fun hS=>?_);clear hK K;refine rdZ 3 rfl (fun K hK=>?_);go_simp
   refine (j36 fa fc P4 v (ju.below H4.out hS)).mono ?_;rintro e w' ⟨rfl,hq⟩;subst w';generalize JY P4=m4 at HR0 |-;go_simp
   refine hK.out _ _ hS (fun hS=>?_);clear hK K;refine rdZ 5 rfl (fun K hK=>?_);go_simp
   refine (CC.out v (SB.out v hS)).mono ?_;rintro e x1 ⟨rfl,hb⟩;generalize Js T=cl at HR0 |-;have hS2:=kw hS (hb.mono hv);replace hv:=kx hv hb.size;clear hb hS;go_simp
   refine hK.out _ _ hS2 (fun hS=>?_);clear hK K hS2;refine rdZ 8 rfl (fun K hK=>?_);go_simp
   have r1:Hid (jc (x1.alloc (.cells #[I m3,I m4,I cl,I rv,I 30] 3)) ⟨some ⟨x1.heap.size,0,none⟩,5⟩ [m3,m4,cl,rv,30]):=hJJ (May.jg x1 3 [m3,m4,cl,rv,30] 5 rfl (by decide) _ rfl);have hbw:Below x1.heap.size x1 (x1.alloc (.cells #[I m3,I m4,I cl,I rv,I 30] 3)):=(kc _ _).alloc (kb _) _;have hS2:=hS.alloc hv (.cells #[I m3,I m4,I cl,I rv,I 30] 3);replace hv:=kx hv hbw.size;clear hbw hS;generalize hb0:x1.heap.size=b2 at r1 |-;clear hb0;generalize kf x1 (.cells #[I m3,I m4,I cl,I rv,I 30] 3)=x3 at r1 hS2 hv |-;refine hK.out _ _ hS2 (fun hS=>?_);clear hK K hS2;refine rdZ 9 rfl (fun K hK=>?_);go_simp
   refine (Clear.JR (some ⟨b2,0,none⟩) 5 [m3,m4,cl,rv,30] 5 rfl x3 r1.out).mono ?_;rintro e w' ⟨rfl,hq⟩;subst w';rw [HR0.out];go_simp
   refine hK.out _ _ hS (fun hS=>?_);clear hK K;refine tkZ 10 2 ?_ rfl ?_ hS ?_;rotate_left
   ·intro w' hw';go_simp
    try with_reducible rfl
   (try dsimp only [k6]);(try simp only [zA,zB,zC])
   refine Ko (by kernel_rfl) ?_ _;have HF:=hJJ (SB.out _ hS);clear hS;go_wp2;go_ret;exact ⟨rfl,HF.out⟩
end OverS
namespace PlanM
open Go Tab PlaceM
end PlanM
namespace ServeS
open Zip
open Go.ChangeShapes Go.WideShapes Go.ChangeAt Go.RowKit
open Tab Gath OnS RefC Clear
open RefS (j1i)
open May (St JC jG jK jg)
def j51 (T:Tab) (x:Ph):Int:=jO [JY [cap x.min,jO [x.walk,x.blinks],cap x.top],T.extend,x.yellow,x.red,T.revert,8]
def j1x (T:Tab) (p:Int):Int:=if SetM.has (onS T:Nat) p then j51 T (j0D T p) else 0
theorem j7u (a:Option Addr) (cap:Nat) (L:List Int) (n:Nat) (hn:L.length=n) (w:World) (h:jc w ⟨a,cap⟩ L) :
  Calls Tryz.prog 106 #[.slice a n cap] w fun e w'=>e=.returned (.int .i64 (JY L))/\w=w':=by
 subst hn;exact j36 a cap L w h
theorem j9O (T:Tab) (h:Hd) (p:Int) (w:World) (ht:jy w h T) :
  Calls Tryz.prog 118 #[.agg (T.cells h).toArray,.int .i64 p] w fun e w'=>e=.returned (.int .i64 (j1x T p))/\Below w.heap.size w w':=by
 have C:=hJJ (j9 ht);have hsz:=C.out.size;have IA:Hid ((Tryz.prog.info? 33).map (·.size)=some (T.cells h).length):=hJJ (by rw [kr] at hsz;rw [hsz];exact jK);have ON:Hid (∀ W,Below w.heap.size w W->Calls Tryz.prog 101 #[.agg (T.cells h).toArray] W fun e w'=>e=.returned (.int .i64 (onS T:Nat))/\Below W.heap.size W w'):=hJJ (fun W hb=>j6n T h W (ht.below hb));have L8:=hJJ ht.ph;have S0:=hJJ (St.box (cs:=(T.cells h).toArray) ht);have RS:Hid (j1x T p=if SetM.has (onS T:Nat) p then j51 T (j0D T p) else 0):=hJJ rfl;generalize j1x T p=e0 at RS |-;generalize ((onS T:Nat):Int)=os at RS ON;clear ht;generalize T.cells h=c at *;go_enter Tryz.func118,Tryz.ntmps118
 go_upto_region 1 with fail
 generalize w.alloc (.cells c.toArray 33)=w1 at S0 |-;clear hsz;have LT:Hid (jl w1 ⟨w.heap.size,0,none⟩ c):=hJJ (by have:=Row.j1 S0.out.blk;simpa using this);go_wp2_with (refine lgZ 33 ⟨w.heap.size,0,none⟩ c rfl LT.out Tryz.underlying33 IA.out ?_)
 refine (ON.out _ S0.out.bel).mono ?_;rintro e w2 ⟨rfl,hb⟩;have S2:=hJJ (S0.out.step hb);clear hb S0 LT ON IA;go_wp2_with fail
 refine (j1i os p _).mono ?_;rintro e w' ⟨rfl,rfl⟩;by_cases hh:SetM.has os p=true;rotate_left
 ·have h2:SetM.has os p=false:=by simpa using hh
  have HE:Hid (0=e0):=hJJ (by rw [RS.out,h2];rfl);rw [h2];clear hh h2;go_wp2;go_ret;exact ⟨RefC.jn HE.out,S2.out.bel⟩
 have HE:Hid (j51 T (j0D T p)=e0):=hJJ (by rw [RS.out,hh];rfl);have hbd:=SetM.j6j os p ((SetM.j7o os p).2 hh);rw [hh];clear hh RS;obtain ⟨p0,p8⟩:=hbd;obtain ⟨k,rfl⟩:=kq p0;have hk:k < 8:=by omega
 have hv:T.phases[k]?=some (j0D T k):=by
  unfold j0D;rw [kG,kk,k9 (by rw [L8.out];exact hk)];rfl
 generalize j0D T k=u at hv HE;have ER:Hid (j51 T u=jO [JY [cap u.min,jO [u.walk,u.blinks],cap u.top],T.extend,u.yellow,u.red,T.revert,8]):=hJJ rfl;generalize j51 T u=sr at HE ER;obtain ⟨y,hy,hcc⟩:=(JC S2.out.blk C.out L8.out).at hv;obtain rfl:=kA hy;have HC:=hJJ (show jl w2 ⟨w.heap.size,k*13,none⟩ u.cells by have:=hcc;rwa [kj,ko] at this);clear hv hcc hy;go_upto_region 3 with fail
 go_upto_region 4 with (first | (refine lgZ 25 ⟨w.heap.size,k*13,none⟩ u.cells rfl HC.out Tryz.underlying25 jG ?_) | (refine Row.jh rfl 25 _ _ rfl w2 _ u.cells.toArray rfl rfl rfl jG rfl (Ph.one _) ?_))
 (try dsimp only [k6])
 have hb2:Below w2.heap.size w2 (w2.alloc (.cells u.cells.toArray 25)):=(kc _ _).alloc (kb _) _;have hg:=Kn w2 (.cells u.cells.toArray 25);have S3:=hJJ (S2.out.step hb2);clear HC hb2 S2;generalize kf w2 _=w3 at hg S3 |-;generalize w2.heap.size=b at hg |-;have HL:Hid (jl w3 ⟨b,0,none⟩ u.cells):=hJJ (by have:=Row.j1 hg;simpa using this);clear hg;have M1:Hid (∀ w',Below w3.heap.size w3 w'->w'.cell? ⟨b,1,none⟩=some (I u.min)):=hJJ (fun w' hb=>by have:=(HL.out.below hb) 1 _ rfl;rwa [kj,ko] at this);have M8:Hid (∀ w',Below w3.heap.size w3 w'->w'.cell? ⟨b,8,none⟩=some (I u.walk)):=hJJ (fun w' hb=>by have:=(HL.out.below hb) 8 _ rfl;rwa [kj,ko] at this);have M9:Hid (∀ w',Below w3.heap.size w3 w'->w'.cell? ⟨b,9,none⟩=some (I u.blinks)):=hJJ (fun w' hb=>by have:=(HL.out.below hb) 9 _ rfl;rwa [kj,ko] at this);have M4:Hid (∀ w',Below w3.heap.size w3 w'->w'.cell? ⟨b,4,none⟩=some (I u.top)):=hJJ (fun w' hb=>by have:=(HL.out.below hb) 4 _ rfl;rwa [kj,ko] at this);have M6:Hid (∀ w',Below w3.heap.size w3 w'->w'.cell? ⟨b,6,none⟩=some (I u.yellow)):=hJJ (fun w' hb=>by have:=(HL.out.below hb) 6 _ rfl;rwa [kj,ko] at this);have M7:Hid (∀ w',Below w3.heap.size w3 w'->w'.cell? ⟨b,7,none⟩=some (I u.red)):=hJJ (fun w' hb=>by have:=(HL.out.below hb) 7 _ rfl;rwa [kj,ko] at this);have dME:=S3.out.cell C.out.extend;have ME:=hJJ (fun w' (hb:Below w3.heap.size w3 w')=>(hb.cell (kp w3 _ dME)).trans dME);clear dME;have dMR:=S3.out.cell C.out.revert;have MR:=hJJ (fun w' (hb:Below w3.heap.size w3 w')=>(hb.cell (kp w3 _ dMR)).trans dMR);clear dMR;refine Kq (S:=fun w'=>Below w3.heap.size w3 w') (by kernel_rfl) ?_;have hS:Below w3.heap.size w3 { w3 with drawn:=w3.drawn+1 }:=(kc _ _).drew;generalize ({ w3 with drawn:=w3.drawn+1 }:World)=v at hS |-;refine tkZ 0 15 ?_ rfl ?_ hS ?_;rotate_left
 ·intro w' hw';go_simp
  try with_reducible rfl
 (try dsimp only [k6]);(try simp only [zA,zB,zC])
 refine tkZ 1 16 ?_ rfl ?_ hS ?_;rotate_left
 ·intro w' hw';have cf:=M1.out w' hw';go_simp
  try with_reducible rfl
 (try dsimp only [k6]);(try simp only [zA,zB,zC])
 refine tkZ 3 18 ?_ rfl ?_ hS ?_;rotate_left
 ·intro w' hw';go_simp
  try with_reducible rfl
 (try dsimp only [k6]);(try simp only [zA,zB,zC])
 refine tkZ 4 19 ?_ rfl ?_ hS ?_;rotate_left
 ·intro w' hw';have cf:=M8.out w' hw';go_simp
  try with_reducible rfl
 (try dsimp only [k6]);(try simp only [zA,zB,zC])
 refine tkZ 5 20 ?_ rfl ?_ hS ?_;rotate_left
 ·intro w' hw';go_simp
  try with_reducible rfl
 (try dsimp only [k6]);(try simp only [zA,zB,zC])
 refine tkZ 6 21 ?_ rfl ?_ hS ?_;rotate_left
 ·intro w' hw';have cf:=M9.out w' hw';go_simp
  try with_reducible rfl
 (try dsimp only [k6]);(try simp only [zA,zB,zC])
 refine tkZ 9 24 ?_ rfl ?_ hS ?_;rotate_left
 ·intro w' hw';go_simp
  try with_reducible rfl
 (try dsimp only [k6]);(try simp only [zA,zB,zC])
 refine tkZ 10 25 ?_ rfl ?_ hS ?_;rotate_left
 ·intro w' hw';have cf:=M4.out w' hw';go_simp
  try with_reducible rfl
 (try dsimp only [k6]);(try simp only [zA,zB,zC])
 refine tkZ 14 29 ?_ rfl ?_ hS ?_;rotate_left
 ·intro w' hw';go_simp
  try with_reducible rfl
 (try dsimp only [k6]);(try simp only [zA,zB,zC])
 refine tkZ 15 30 ?_ rfl ?_ hS ?_;rotate_left
 ·intro w' hw';have cf:=ME.out w' hw';go_simp
  try with_reducible rfl
 (try dsimp only [k6]);(try simp only [zA,zB,zC])
 refine tkZ 16 31 ?_ rfl ?_ hS ?_;rotate_left
 ·intro w' hw';go_simp
  try with_reducible rfl
 (try dsimp only [k6]);(try simp only [zA,zB,zC])
 refine tkZ 17 32 ?_ rfl ?_ hS ?_;rotate_left
 ·intro w' hw';have cf:=M6.out w' hw';go_simp
  try with_reducible rfl
 (try dsimp only [k6]);(try simp only [zA,zB,zC])
 refine tkZ 18 33 ?_ rfl ?_ hS ?_;rotate_left
 ·intro w' hw';go_simp
  try with_reducible rfl
 (try dsimp only [k6]);(try simp only [zA,zB,zC])
 refine tkZ 19 34 ?_ rfl ?_ hS ?_;rotate_left
 ·intro w' hw';have cf:=M7.out w' hw';go_simp
  try with_reducible rfl
 (try dsimp only [k6]);(try simp only [zA,zB,zC])
 refine tkZ 20 35 ?_ rfl ?_ hS ?_;rotate_left
 ·intro w' hw';go_simp
  try with_reducible rfl
 (try dsimp only [k6]);(try simp only [zA,zB,zC])
 refine tkZ 21 36 ?_ rfl ?_ hS ?_;rotate_left
 ·intro w' hw';have cf:=MR.out w' hw';go_simp
  try with_reducible rfl
 (try dsimp only [k6]);(try simp only [zA,zB,zC])
 refine j1d 2 7 rfl rfl (fun K hK=>?_) (fun K hK=>?_)
 ·go_simp
  refine (j0z u.min _).mono ?_;rintro e w' ⟨rfl,rfl⟩;go_simp
  refine hK.out _ _ hS (fun hS=>?_);clear hK K;refine rdZ 7 rfl (fun K hK=>?_);go_simp
  have R1:Hid (jc (v.alloc (.cells #[I u.walk,I u.blinks] 3)) ⟨some ⟨v.heap.size,0,none⟩,2⟩ [u.walk,u.blinks]):=hJJ (jg v 3 [u.walk,u.blinks] 2 rfl (by decide) _ rfl);have hq:=hS.alloc hS.size (.cells #[I u.walk,I u.blinks] 3);have hbv:Below v.heap.size v (v.alloc (.cells #[I u.walk,I u.blinks] 3)):=(kc _ _).alloc (kb _) _;clear hS;generalize v.heap.size=b1 at R1 |-;generalize kf v _=v at R1 hq |-;refine hK.out _ _ hq (fun hS=>?_);clear hK K hq;refine rdZ 8 rfl (fun K hK=>?_);go_simp
  refine (JR (some ⟨b1,0,none⟩) 2 [u.walk,u.blinks] 2 rfl _ R1.out).mono ?_;rintro e w' ⟨rfl,rfl⟩;go_simp
  refine hK.out _ _ hS (fun hS=>?_);clear hK K;clear R1;refine rdZ 11 rfl (fun K hK=>?_);go_simp
  refine (j0z u.top _).mono ?_;rintro e w' ⟨rfl,rfl⟩;go_simp
  refine hK.out _ _ hS (fun hS=>?_);clear hK K;refine rdZ 12 rfl (fun K hK=>?_);go_simp
  have R2:Hid (jc (v.alloc (.cells #[I (cap u.min),I (jO [u.walk,u.blinks]),I (cap u.top)] 3)) ⟨some ⟨v.heap.size,0,none⟩,3⟩ [cap u.min,jO [u.walk,u.blinks],cap u.top]):=hJJ (jg v 3 [cap u.min,jO [u.walk,u.blinks],cap u.top] 3 rfl (by decide) _ rfl);have hq:=hS.alloc hS.size (.cells #[I (cap u.min),I (jO [u.walk,u.blinks]),I (cap u.top)] 3);have hbv:Below v.heap.size v (v.alloc (.cells #[I (cap u.min),I (jO [u.walk,u.blinks]),I (cap u.top)] 3)):=(kc _ _).alloc (kb _) _;clear hS;generalize v.heap.size=b2 at R2 |-;generalize kf v _=v at R2 hq |-;refine hK.out _ _ hq (fun hS=>?_);clear hK K hq;refine rdZ 13 rfl (fun K hK=>?_);go_simp
  refine (j7u (some ⟨b2,0,none⟩) 3 [cap u.min,jO [u.walk,u.blinks],cap u.top] 3 rfl _ R2.out).mono ?_;rintro e w' ⟨rfl,rfl⟩;go_simp
  refine hK.out _ _ hS (fun hS=>?_);clear hK K;clear R2;generalize JY [cap u.min,jO [u.walk,u.blinks],cap u.top]=mo at ER |-;refine rdZ 22 rfl (fun K hK=>?_);go_simp
  have R3:Hid (jc (v.alloc (.cells #[I mo,I T.extend,I u.yellow,I u.red,I T.revert,I 8] 3)) ⟨some ⟨v.heap.size,0,none⟩,6⟩ [mo,T.extend,u.yellow,u.red,T.revert,8]):=hJJ (jg v 3 [mo,T.extend,u.yellow,u.red,T.revert,8] 6 rfl (by decide) _ rfl);have hq:=hS.alloc hS.size (.cells #[I mo,I T.extend,I u.yellow,I u.red,I T.revert,I 8] 3);have hbv:Below v.heap.size v (v.alloc (.cells #[I mo,I T.extend,I u.yellow,I u.red,I T.revert,I 8] 3)):=(kc _ _).alloc (kb _) _;clear hS;generalize v.heap.size=b3 at R3 |-;generalize kf v _=v at R3 hq |-;refine hK.out _ _ hq (fun hS=>?_);clear hK K hq;refine rdZ 23 rfl (fun K hK=>?_);go_simp
  refine (JR (some ⟨b3,0,none⟩) 6 [mo,T.extend,u.yellow,u.red,T.revert,8] 6 rfl _ R3.out).mono ?_;rintro e w' ⟨rfl,rfl⟩;go_simp
  refine hK.out _ _ hS (fun hS=>?_);clear hK K;rw [<-ER.out,HE.out];refine tkZ 24 4 ?_ rfl ?_ hS ?_;rotate_left
  ·intro w' hw';go_simp
   try with_reducible rfl
  (try dsimp only [k6]);(try simp only [zA,zB,zC])
  refine Ko (by kernel_rfl) ?_ _;have HF:=hJJ (S3.out.bel.trans (hS.mono S3.out.bel.size));clear hS;go_wp2;go_ret;exact ⟨rfl,HF.out⟩
 go_simp
 have R1:Hid (jc (v.alloc (.cells #[I u.walk,I u.blinks] 3)) ⟨some ⟨v.heap.size,0,none⟩,2⟩ [u.walk,u.blinks]):=hJJ (jg v 3 [u.walk,u.blinks] 2 rfl (by decide) _ rfl);have hq:=hS.alloc hS.size (.cells #[I u.walk,I u.blinks] 3);have hbv:Below v.heap.size v (v.alloc (.cells #[I u.walk,I u.blinks] 3)):=(kc _ _).alloc (kb _) _;clear hS;generalize v.heap.size=b1 at R1 |-;generalize kf v _=v at R1 hq |-;refine hK.out _ _ hq (fun hS=>?_);clear hK K hq;refine rdZ 2 rfl (fun K hK=>?_);go_simp
 refine (j0z u.min _).mono ?_;rintro e w' ⟨rfl,rfl⟩;go_simp
 refine hK.out _ _ hS (fun hS=>?_);clear hK K;refine rdZ 8 rfl (fun K hK=>?_);go_simp
 refine (JR (some ⟨b1,0,none⟩) 2 [u.walk,u.blinks] 2 rfl _ R1.out).mono ?_;rintro e w' ⟨rfl,rfl⟩;go_simp
 refine hK.out _ _ hS (fun hS=>?_);clear hK K;clear R1;refine rdZ 11 rfl (fun K hK=>?_);go_simp
 refine (j0z u.top _).mono ?_;rintro e w' ⟨rfl,rfl⟩;go_simp
 refine hK.out _ _ hS (fun hS=>?_);clear hK K;refine rdZ 12 rfl (fun K hK=>?_);go_simp
 have R2:Hid (jc (v.alloc (.cells #[I (cap u.min),I (jO [u.walk,u.blinks]),I (cap u.top)] 3)) ⟨some ⟨v.heap.size,0,none⟩,3⟩ [cap u.min,jO [u.walk,u.blinks],cap u.top]):=hJJ (jg v 3 [cap u.min,jO [u.walk,u.blinks],cap u.top] 3 rfl (by decide) _ rfl);have hq:=hS.alloc hS.size (.cells #[I (cap u.min),I (jO [u.walk,u.blinks]),I (cap u.top)] 3);have hbv:Below v.heap.size v (v.alloc (.cells #[I (cap u.min),I (jO [u.walk,u.blinks]),I (cap u.top)] 3)):=(kc _ _).alloc (kb _) _;clear hS;generalize v.heap.size=b2 at R2 |-;generalize kf v _=v at R2 hq |-;refine hK.out _ _ hq (fun hS=>?_);clear hK K hq;refine rdZ 13 rfl (fun K hK=>?_);go_simp
 refine (j7u (some ⟨b2,0,none⟩) 3 [cap u.min,jO [u.walk,u.blinks],cap u.top] 3 rfl _ R2.out).mono ?_;rintro e w' ⟨rfl,rfl⟩;go_simp
 refine hK.out _ _ hS (fun hS=>?_);clear hK K;clear R2;generalize JY [cap u.min,jO [u.walk,u.blinks],cap u.top]=mo at ER |-;refine rdZ 22 rfl (fun K hK=>?_);go_simp
 have R3:Hid (jc (v.alloc (.cells #[I mo,I T.extend,I u.yellow,I u.red,I T.revert,I 8] 3)) ⟨some ⟨v.heap.size,0,none⟩,6⟩ [mo,T.extend,u.yellow,u.red,T.revert,8]):=hJJ (jg v 3 [mo,T.extend,u.yellow,u.red,T.revert,8] 6 rfl (by decide) _ rfl);have hq:=hS.alloc hS.size (.cells #[I mo,I T.extend,I u.yellow,I u.red,I T.revert,I 8] 3);have hbv:Below v.heap.size v (v.alloc (.cells #[I mo,I T.extend,I u.yellow,I u.red,I T.revert,I 8] 3)):=(kc _ _).alloc (kb _) _;clear hS;generalize v.heap.size=b3 at R3 |-;generalize kf v _=v at R3 hq |-;refine hK.out _ _ hq (fun hS=>?_);clear hK K hq;refine rdZ 23 rfl (fun K hK=>?_);go_simp
 refine (JR (some ⟨b3,0,none⟩) 6 [mo,T.extend,u.yellow,u.red,T.revert,8] 6 rfl _ R3.out).mono ?_;rintro e w' ⟨rfl,rfl⟩;go_simp
 refine hK.out _ _ hS (fun hS=>?_);clear hK K;rw [<-ER.out,HE.out];refine tkZ 24 4 ?_ rfl ?_ hS ?_;rotate_left
 ·intro w' hw';go_simp
  try with_reducible rfl
 (try dsimp only [k6]);(try simp only [zA,zB,zC])
 refine Ko (by kernel_rfl) ?_ _;have HF:=hJJ (S3.out.bel.trans (hS.mono S3.out.bel.size));clear hS;go_wp2;go_ret;exact ⟨rfl,HF.out⟩
end ServeS
namespace PassS
open Zip
open Go.ChangeShapes Go.WideShapes Go.ChangeAt Go.RowKit
open Tab PlaceM Gath OnS RefC ServeS
open Spots (Typed)
open RefS (j1E)
open May (St jK)
theorem j1X:(Tryz.prog.info? 123).map (·.size)=some 4:=by kernel_rfl
theorem j0m (x:Addr) (k:Nat):(x.add k).block=x.block:=by unfold kS;split <;> rfl
theorem j3w {α:Type} {n:Nat} {enc:α->List Value} {w w':World} {s:Sl} {l:List α} {row:Option Nat} (h:ju n enc w s l) (hg:w.grownBy w' row) (hne:∀ x,s.a=some x->some x.block ≠ row):ju n enc w' s l:=by
 rcases h with h | ⟨x,h1,h2,h3,h4⟩
 ·exact .inl h
 exact .inr ⟨x,h1,h2,h3,fun i v hv j u hu=>hg.cell (h4 i v hv j u hu) (by rw [j0m,j0m];exact hne x h1)⟩
theorem j7v {w w':World} {s:Sl} {row:Option Nat} (h:Typed w s) (hg:w.grownBy w' row) (hne:∀ x,s.a=some x->some x.block ≠ row):Typed w' s:=fun x hx=>by
 obtain ⟨cs,hc⟩:=h x hx;exact ⟨cs,(hg.block _ (ka.1 hc).1 (hne x hx)).trans hc⟩
theorem jbq {w:World} {s:Sl} {B:Nat} {v:Value} {l:List Int} (h:Typed w s) (ho:Jr B w v l):∀ x,s.a=some x->some x.block ≠ v.ownBlock:=by
 intro x hx e;obtain ⟨cs,hc⟩:=h x hx;rcases ho.2 with ⟨rfl,_⟩ | ⟨g,cap,cur,rfl,h1,h2,_⟩
 ·simp [Kf] at e
 simp only [Kf,Option.some.injEq] at e;rw [<-e,hc] at h2;simp at h2
theorem j8W (w:World) (n:Int):Jr w.heap.size (w.alloc (.cells #[I n] 3)) (.slice (some ⟨w.heap.size,0,none⟩) 1 1) [n] :=
 ⟨rfl,.inr ⟨w.heap.size,1,#[I n],rfl,kb _,Kn w _,kb _,(show 1<=maxLen by decide),rfl,rfl⟩⟩
def j20 (T:Tab) (g:Int) (l:List Spt):List Int:=(l.filter fun x=>decide ((x.g:Int)=g)).map fun x=>j1x T x.p
def j14 (T:Tab) (g:Int):Int:=if 0<=g/\g < T.groups.length then jO (8 :: j20 T g (JT T)) else 0
theorem j9P {T:Tab} {g:Int} {l:List Spt} {j:Nat} {x:Spt} (h:l[j]?=some x):j20 T g (l.take (j+1))=j20 T g (l.take j)++(if (x.g:Int)=g then [j1x T x.p] else []):=by
 unfold j20;rw [PlaceM.take_succ h,List.filter_append,kO];congr 1;by_cases e:(x.g:Int)=g
 ·simp [e]
 simp [e]
theorem jbr (T:Tab) (g:Int) (l:List Spt):(j20 T g l).length<=l.length:=by
 unfold j20;rw [kM];exact List.length_filter_le _ _
theorem jbs (T:Tab) (h:Hd) (g:Int) (w:World) (ht:jy w h T) (sm:Few T) :
  Calls Tryz.prog 102 #[.agg (T.cells h).toArray,.int .i64 g] w fun e w'=>e=.returned (.int .i64 (j14 T g))/\Below w.heap.size w w':=by
 have C:=hJJ (j9 ht);have hsz:=C.out.size;have IA:Hid ((Tryz.prog.info? 33).map (·.size)=some (T.cells h).length):=hJJ (by rw [kr] at hsz;rw [hsz];exact jK);have SPC:Hid (∀ W,Below w.heap.size w W->Calls Tryz.prog 99 #[.agg (T.cells h).toArray] W fun e w'=>∃ s:Sl,e=.returned (s.val (JT T).length)/\ju 4 Spt.cells w' s (JT T)/\Typed w' s/\Below W.heap.size W w'):=hJJ (fun W hb=>Spots.j3P T h W (ht.below hb) sm);have SVC:Hid (∀ p W,Below w.heap.size w W->Calls Tryz.prog 118 #[.agg (T.cells h).toArray,.int .i64 p] W fun e w'=>e=.returned (.int .i64 (j1x T p))/\Below W.heap.size W w'):=hJJ (fun p W hb=>j9O T h p W (ht.below hb));have SL:Hid ((JT T).length<=2000000):=hJJ (j5H sm.groups sm.rows);have S0:=hJJ (St.box (cs:=(T.cells h).toArray) ht);have HZ:Hid ((w.alloc (.cells (T.cells h).toArray 33)).heap.size=w.heap.size+1):=hJJ (by simp);have RS:Hid (j14 T g=if 0<=g/\g < T.groups.length then jO (8 :: j20 T g (JT T)) else 0):=hJJ rfl;generalize j14 T g=res at RS |-;obtain ⟨i0,hi,hz0,hz1,hz2⟩:=Kx j1E;have PS:Hid (∀ j x,(JT T)[j]?=some x->j20 T g ((JT T).take (j+1))=j20 T g ((JT T).take j)++(if (x.g:Int)=g then [j1x T x.p] else [])):=hJJ (fun j x hx=>j9P hx);have PL:Hid (∀ l,(j20 T g l).length<=l.length):=hJJ (jbr T g);generalize JT T=S at RS SPC SL PS;generalize j20 T g=pl at RS PS PL;clear ht sm;go_enter Tryz.func102,Tryz.ntmps102
 go_upto_region 1 with fail
 generalize w.alloc (.cells (T.cells h).toArray 33)=w1 at S0 HZ |-;have q104:=S0.out.cell C.out.g;generalize hc:T.cells h=c at *;clear hsz hc;generalize T.groups.length=n at *;obtain ⟨⟨ga,gcap⟩,sd,sr,sb⟩:=h;have q104':w1.cell? ⟨w.heap.size,104,none⟩=some (.slice ga n gcap):=q104;clear q104;by_cases hg0:g < 0
 ·have HF:Hid (0=res):=hJJ (by rw [RS.out,if_neg (by omega)]);go_wp2;go_ret;exact ⟨RefC.jn HF.out,S0.out.bel⟩
 by_cases hg1:(n:Int)<=g
 ·have HF:Hid (0=res):=hJJ (by rw [RS.out,if_neg (by omega)]);go_wp2;go_ret;exact ⟨RefC.jn HF.out,S0.out.bel⟩
 have HR0:Hid (jO (8 :: pl S)=res):=hJJ (by rw [RS.out,if_pos (by omega)]);clear RS;go_upto_region 4 with fail
 have hb1:Below w1.heap.size w1 (w1.alloc (.cells #[.int .i64 8] 3)):=(kc _ _).alloc (kb _) _;have ho1:Jr w1.heap.size (w1.alloc (.cells #[.int .i64 8] 3)) (.slice (some ⟨w1.heap.size,0,none⟩) 1 1) [8]:=j8W w1 8;have O1:=hJJ ho1;have B1:=hJJ hb1;clear ho1 hb1 q104' hg0 hg1;generalize w1.alloc (.cells #[.int .i64 8] 3)=w2 at O1 B1 |-;have S2:=hJJ (S0.out.step B1.out);have LT2:Hid (jl w2 ⟨w.heap.size,0,none⟩ c):=hJJ (by have:=Row.j1 S2.out.blk;simpa using this);go_wp2_with (refine lgZ 33 ⟨w.heap.size,0,none⟩ c rfl LT2.out Tryz.underlying33 IA.out ?_)
 refine (SPC.out _ S2.out.bel).mono ?_;rintro e u1 ⟨⟨sa,scap⟩,rfl,hrow,hty,hb⟩;rw [show (Sl.val ⟨sa,scap⟩ S.length)=.slice sa S.length scap from rfl];have HB1:Hid (Below w1.heap.size w1 u1):=hJJ (B1.out.trans (hb.mono B1.out.size));have HR1:=hJJ hrow;have HT1:=hJJ hty;have O2:=hJJ (O1.out.below hb);have K:=hrow.len;unfold maxLen at K;clear hrow hty hb B1 O1 S2 LT2 SPC;go_wp2_with fail
 go_loopw [5,21] (fun v i wr=>∃ j:Nat,j<=S.length/\i=.int .i64 j/\Jr w1.heap.size wr v (8 :: pl (S.take j))/\ju 4 Spt.cells wr ⟨sa,scap⟩ S/\Typed wr ⟨sa,scap⟩/\Below w1.heap.size w1 wr) (fun _ i _=>S.length - (intOf i).toNat)
 case atStart =>
  refine ⟨0,by omega,rfl,?_,HR1.out,HT1.out,HB1.out⟩;have h0:pl []=[]:=List.eq_nil_of_length_eq_zero (by simpa using PL.out []);rw [kC,h0];exact O2.out
 case round =>
  obtain ⟨j,hj,rfl,hown,hrow,hty,hbel⟩:=hrel;have HO:=hJJ hown;have HB:=hJJ hbel;have HR:=hJJ hrow;have HT:=hJJ hty;clear hown hbel hrow hty;by_cases hlt:j < S.length
  ·have hv:=k9 hlt;generalize S[j]=x at hv;obtain ⟨y,hy,hc⟩:=HR.out.at hv;obtain rfl:sa=some y:=hy;have HS:=hJJ (PS.out j x hv);have HC:=hJJ hc;have hlen:(8 :: pl (S.take j)).length<=2000001:=by have:=PL.out (S.take j);rw [kB] at this;have:=SL.out;rw [kH];omega
   clear hv hc;have hwr:=HB.out.size;go_upto_region 7 with (first | (refine Row.j7 123 _ rfl (by first | rfl | go_simp) (y.add (j*4)) rfl x.cells _ HC.out Tryz.underlying123 rfl j1X ?_) | (refine Row.jh rfl 123 _ _ rfl wr _ x.cells.toArray rfl rfl rfl j1X rfl (Spt.one _) ?_))
   have hbn:Below w1.heap.size w1 (wr.alloc (.cells x.cells.toArray 123)):=HB.out.alloc hwr _;have hbo:Below wr.heap.size wr (wr.alloc (.cells x.cells.toArray 123)):=(kc _ _).alloc (kb _) _;have hg:=Row.j1 (Kn wr (.cells x.cells.toArray 123));have HL:=hJJ hg;have HB2:=hJJ hbn;have HO2:=hJJ (HO.out.below hbo);have HR2:=hJJ (HR.out.below hbo);have HT2:=hJJ (HT.out.below hbo);clear hg hbn hbo HC HB HO HR HT;generalize wr.alloc (.cells x.cells.toArray 123)=w4 at HL HB2 HO2 HR2 HT2 |-;generalize wr.heap.size=b4 at HL |-;have c0:w4.cell? ⟨b4,0,none⟩=some (I x.g):=by have:=HL.out 0 _ rfl;rwa [Tab.add_zero] at this
   have c3:w4.cell? ⟨b4,3,none⟩=some (I x.p):=by have:=HL.out 3 _ rfl;rwa [kj] at this
   have S4:=hJJ (S0.out.step HB2.out);clear HL;generalize hP1:8 :: pl (S.take j)=P1 at HO2 hlen;have HP1:=hJJ hP1;clear hP1;by_cases e0:(x.g:Int)=g
   ·have b0:((x.g:Int) == g)=true:=by simpa using e0
    have HS2:Hid (8 :: pl (S.take (j+1))=P1++[j1x T x.p]):=hJJ (by rw [HS.out,if_pos e0,<-HP1.out];rfl);have LT4:Hid (jl w4 ⟨w.heap.size,0,none⟩ c):=hJJ (by have:=Row.j1 S4.out.blk;simpa using this);clear e0;go_wp2_with (refine lgZ 33 ⟨w.heap.size,0,none⟩ c rfl LT4.out Tryz.underlying33 IA.out ?_)
    refine (SVC.out x.p _ S4.out.bel).mono ?_;rintro e w5 ⟨rfl,hb⟩;have HB5:=hJJ (HB2.out.trans (hb.mono HB2.out.size));have HO5:=hJJ (HO2.out.below hb);have HR5:=hJJ (HR2.out.below hb);have HT5:=hJJ (HT2.out.below hb);have hown2:w5.ownsRow w1.heap.size 3 1 u5 P1.length (P1.flatMap (fun n=>[I n])):=HO5.out;have hsz5:=HB5.out.size;clear hb HB2 HO2 HR2 HT2 S4 LT4 c0 c3;generalize j1x T x.p=p at HS2 |-;go_wp2_with (at_builtin;refine Kt _ rfl _ _ 42 rfl w1.heap.size 3 i0 (.int .i64 0) 1 8 Tryz.underlying42 hi hz0 hz1 hz2 rfl (by decide) _ _ _ rfl (hown2.alloc _) ⟨w5.heap.size,0,none⟩ 1 1 [.int .i64 p] rfl rfl ?c1 ?c2 ?c3 ?c4 ?c5 ?_)
    case c1 =>
     intro m q hm
     match m,hm with
     | 0,hm=>simp at hm;subst hm;simp [kS]
    case c2=>intro q hq;simp at hq;subst hq;rfl
    case c3=>unfold maxLen;omega
    case c4=>omega
    case c5=>simp;omega
    intro v' w6 hown' hgrow hnil';have hbo5:Below w5.heap.size w5 (w5.alloc (.cells #[.int .i64 p] 3)):=(kc _ _).alloc (kb _) _;have hne:=jbq (HT5.out.below hbo5) (show Jr w1.heap.size (w5.alloc (.cells #[.int .i64 p] 3)) u5 P1 from jd.below HO5.out hbo5);have HB6:Hid (Below w1.heap.size w1 w6):=hJJ ((HB5.out.alloc hsz5 _).grown hgrow (by simp;omega) fun m hm=>(show Jr w1.heap.size w5 u5 P1 from hown2).blk m hm);have HO6:Hid (Jr w1.heap.size w6 v' (P1++[p])):=hJJ (jd.snoc hown');have HR6:=hJJ (j3w (HR5.out.below hbo5) hgrow hne);have HT6:=hJJ (j7v (HT5.out.below hbo5) hgrow hne);clear hown' hgrow hown2 hnil' hbo5 hne;go_wp2;go_roundw;case rel=>exact ⟨j+1,by omega,by go_num,by rw [HS2.out];exact HO6.out,HR6.out,HT6.out,HB6.out⟩
    case measure=>simp [intOf];omega
   have b0:((x.g:Int) == g)=false:=by simpa using e0
   have HS2:Hid (8 :: pl (S.take (j+1))=P1):=hJJ (by rw [HS.out,if_neg e0,List.append_nil,HP1.out]);clear e0;go_wp2;go_roundw;case rel=>exact ⟨j+1,by omega,by go_num,by rw [HS2.out];exact HO2.out,HR2.out,HT2.out,HB2.out⟩
   case measure=>simp [intOf];omega
  have HE:Hid (8 :: pl (S.take j)=8 :: pl S):=hJJ (by rw [ks (by omega)]);obtain ⟨⟨sa',sc⟩,hs,hrow⟩:=HO.out.row (enc:=fun n=>[I n]) (fun _=>rfl);rw [HE.out] at hs hrow;have HR2:=hJJ hrow;have HF:Hid (Below w.heap.size w wr):=hJJ (S0.out.bel.trans (HB.out.mono S0.out.bel.size));clear hrow HE;subst hs;generalize hL:8 :: pl S=P2 at HR0 HR2 |-;clear hL;show Kh _ _ _ _ _;rw [show (Sl.val ⟨sa',sc⟩ P2.length)=.slice sa' P2.length sc from rfl];go_wp2_with fail
  refine (j6o sa' sc P2 _ HR2.out).mono ?_;rintro e w' ⟨rfl,rfl⟩;rw [HR0.out];go_wp2;go_ret;exact ⟨rfl,HF.out⟩
end PassS
namespace FreeS
open Zip
open Go.ChangeShapes Go.WideShapes Go.ChangeAt Go.RowKit
open Tab PlaceM Gath OnS RefC PassS
open RefS (j1E j1i)
open May (St jK)
def upL (T:Tab) (n:Nat):List Int:=(K4 n).map fun i=>j14 T (i:Nat)
def jbt (T:Tab) (x:Spt):Int:=jO (j14 T x.g :: upL T T.groups.length)
def j1j (T:Tab) (p:Int):Int:=match JM T p with
 | some x=>if SetM.has (onS T:Nat) p then jbt T x else 0
 | none=>0
theorem jcY (T:Tab) (n:Nat):upL T (n+1)=upL T n++[j14 T n]:=by
 unfold upL;rw [Kd,kO];rfl
theorem j6l (T:Tab) (n:Nat):(upL T n).length=n:=by unfold upL;simp
theorem j7w (T:Tab) (h:Hd) (p:Int) (g1 k1 i1 p1:Int) (ok:Bool) (os:Int) (w:World) (ht:jy w h T) (sm:Few T)
  (WC:Hid (∀ W,Below w.heap.size w W->Calls Tryz.prog 69 #[.agg (T.cells h).toArray,.int .i64 p] W fun e w'=>e=.returned (.tuple #[.agg #[I g1,I k1,I i1,I p1],.bool ok])/\Below W.heap.size W w'))
  (ON:Hid (∀ W,Below w.heap.size w W->Calls Tryz.prog 101 #[.agg (T.cells h).toArray] W fun e w'=>e=.returned (.int .i64 os)/\Below W.heap.size W w')) :
  Calls Tryz.prog 74 #[.agg (T.cells h).toArray,.int .i64 p] w fun e w'=>e=.returned (.int .i64 (if ok=true/\SetM.has os p=true then jO (j14 T g1 :: upL T T.groups.length) else 0))/\Below w.heap.size w w':=by
 have C:=hJJ (j9 ht);have hsz:=C.out.size;have IA:Hid ((Tryz.prog.info? 33).map (·.size)=some (T.cells h).length):=hJJ (by rw [kr] at hsz;rw [hsz];exact jK);have PC:Hid (∀ g W,Below w.heap.size w W->Calls Tryz.prog 102 #[.agg (T.cells h).toArray,.int .i64 g] W fun e w'=>e=.returned (.int .i64 (j14 T g))/\Below W.heap.size W w'):=hJJ (fun g W hb=>jbs T h g W (ht.below hb) sm);have KG:=sm.groups;have S0:=hJJ (St.box (cs:=(T.cells h).toArray) ht);obtain ⟨i0,hi,hz0,hz1,hz2⟩:=Kx j1E;generalize hres:(if ok=true/\SetM.has os p=true then jO (j14 T g1 :: upL T T.groups.length) else 0)=res;have RS:=hJJ hres;clear hres ht sm;go_enter Tryz.func74,Tryz.ntmps74
 go_upto_region 1 with fail
 generalize w.alloc (.cells (T.cells h).toArray 33)=w1 at S0 |-;have q104:=C.out.g;generalize hc:T.cells h=c at *;clear hsz hc;generalize hn:T.groups.length=n at *;have HN:=hJJ hn;clear hn;obtain ⟨⟨ga,gcap⟩,sd,sr,sb⟩:=h;have Q104:Hid (∀ W,Below w1.heap.size w1 W->W.cell? ⟨w.heap.size,104,none⟩=some (.slice ga n gcap)):=hJJ (fun W hb=>(S0.out.step hb).cell q104);have LT:Hid (∀ W,Below w1.heap.size w1 W->jl W ⟨w.heap.size,0,none⟩ c):=hJJ (fun W hb=>by have:=Row.j1 (S0.out.step hb).blk;simpa using this);have BB:Hid (∀ W,Below w1.heap.size w1 W->Below w.heap.size w W):=hJJ (fun W hb=>S0.out.bel.trans (hb.mono S0.out.bel.size));clear q104;go_wp2_with (refine lgZ 33 ⟨w.heap.size,0,none⟩ c rfl (LT.out _ (kc _ _)) Tryz.underlying33 IA.out ?_)
 refine (WC.out _ (BB.out _ (kc _ _))).mono ?_;rintro e u1 ⟨rfl,hb⟩;have B1:=hJJ hb;clear hb WC;go_upto_region 2 with (refine Row.jh rfl 123 _ _ rfl u1 #[I 0,I 0,I 0,I 0] #[I g1,I k1,I i1,I p1] rfl rfl rfl j1X rfl (by simp [kn]) ?_)
 have hb2:Below u1.heap.size u1 (u1.alloc (.cells #[I g1,I k1,I i1,I p1] 123)):=(kc _ _).alloc (kb _) _;have hg:=Kn u1 (.cells #[I g1,I k1,I i1,I p1] 123);have B2:=hJJ (B1.out.trans (hb2.mono B1.out.size));have HG:=hJJ hg;clear hb2 hg B1;generalize u1.alloc (.cells #[I g1,I k1,I i1,I p1] 123)=u2 at B2 HG |-;generalize u1.heap.size=b4 at HG |-;cases ok with
 | false =>
  have HF:Hid (0=res):=hJJ (by rw [<-RS.out];simp);have HB:=hJJ (BB.out _ B2.out);go_wp2;go_ret;exact ⟨RefC.jn HF.out,HB.out⟩
 | true =>
 go_wp2_with (refine lgZ 33 ⟨w.heap.size,0,none⟩ c rfl (LT.out _ B2.out) Tryz.underlying33 IA.out ?_)
 refine (ON.out _ (BB.out _ B2.out)).mono ?_;rintro e u3 ⟨rfl,hb⟩;have B3:=hJJ (B2.out.trans (hb.mono B2.out.size));have HG3:Hid (u3.heap[b4]?=_):=hJJ ((hb.block _ (ka.1 HG.out).1).trans HG.out);clear hb B2 HG ON;go_wp2_with fail
 refine (j1i os p _).mono ?_;rintro e w' ⟨rfl,rfl⟩;by_cases hh:SetM.has os p=true;rotate_left
 ·have h2:SetM.has os p=false:=by simpa using hh
  have HF:Hid (0=res):=hJJ (by rw [<-RS.out,h2];simp);have HB:=hJJ (BB.out _ B3.out);rw [h2];clear hh h2;go_wp2;go_ret;exact ⟨RefC.jn HF.out,HB.out⟩
 have HR0:Hid (jO (j14 T g1 :: upL T n)=res):=hJJ (by rw [<-RS.out,hh];simp);rw [hh];clear hh RS;have c0:u3.cell? ⟨b4,0,none⟩=some (I g1):=by rw [Kl _ _ _ _ _ _ HG3.out];rfl
 go_wp2_with (refine lgZ 33 ⟨w.heap.size,0,none⟩ c rfl (LT.out _ B3.out) Tryz.underlying33 IA.out ?_)
 refine (PC.out g1 _ (BB.out _ B3.out)).mono ?_;rintro e u4 ⟨rfl,hb⟩;have B4:=hJJ (B3.out.trans (hb.mono B3.out.size));clear hb B3 HG3 c0;generalize hp1:j14 T g1=x1 at HR0 |-;clear hp1;go_wp2_with fail
 have hb5:Below u4.heap.size u4 (u4.alloc (.cells #[.int .i64 x1] 3)):=(kc _ _).alloc (kb _) _;have ho:=jd.mono (j8W u4 x1) B4.out.size;have O5:Hid (Jr w1.heap.size (u4.alloc (.cells #[.int .i64 x1] 3)) (.slice (some ⟨u4.heap.size,0,none⟩) 1 1) [x1]):=hJJ ho;have B5:=hJJ (B4.out.trans (hb5.mono B4.out.size));clear hb5 ho B4;generalize u4.alloc (.cells #[.int .i64 x1] 3)=u5 at O5 B5 |-;generalize u4.heap.size=b5 at O5 |-;have US:Hid (∀ q,upL T (q+1)=upL T q++[j14 T q]):=hJJ (jcY T);have UL:Hid (∀ q,(upL T q).length=q):=hJJ (j6l T);have U0:Hid (upL T 0=[]):=hJJ rfl;generalize upL T=ul at HR0 US UL U0;go_loopw [7,8] (fun v i wr=>∃ q:Nat,q<=n/\i=.int .i64 q/\Jr w1.heap.size wr v (x1 :: ul q)/\Below w1.heap.size w1 wr) (fun _ i _=>n - (intOf i).toNat)
 case atStart=>exact ⟨0,by omega,rfl,by rw [U0.out];exact O5.out,B5.out⟩
 case round =>
  obtain ⟨q,hq,rfl,hown,hbel⟩:=hrel;have HO:=hJJ hown;have HB:=hJJ hbel;clear hown hbel;have q104:=Q104.out _ HB.out;by_cases hlt:q < n
  ·have hlen:(x1 :: ul q).length<=1001:=by rw [kH,UL.out];omega
   have HS:=hJJ (US.out q);generalize hP1:x1 :: ul q=P1 at HO hlen;have HP1:=hJJ hP1;clear hP1;go_wp2_with (refine lgZ 33 ⟨w.heap.size,0,none⟩ c rfl (LT.out _ HB.out) Tryz.underlying33 IA.out ?_)
   refine (PC.out q _ (BB.out _ HB.out)).mono ?_;rintro e w5 ⟨rfl,hb⟩;have HB5:=hJJ (HB.out.trans (hb.mono HB.out.size));have HO5:=hJJ (HO.out.below hb);have HS2:Hid (x1 :: ul (q+1)=P1++[j14 T q]):=hJJ (by rw [HS.out,<-HP1.out];rfl);have hown2:w5.ownsRow w1.heap.size 3 1 u7 P1.length (P1.flatMap (fun n=>[I n])):=HO5.out;have hsz5:=HB5.out.size;clear hb HB HO q104;generalize j14 T q=x2 at HS2 |-;go_wp2_with (at_builtin;refine Kt _ rfl _ _ 42 rfl w1.heap.size 3 i0 (.int .i64 0) 1 8 Tryz.underlying42 hi hz0 hz1 hz2 rfl (by decide) _ _ _ rfl (hown2.alloc _) ⟨w5.heap.size,0,none⟩ 1 1 [.int .i64 x2] rfl rfl ?c1 ?c2 ?c3 ?c4 ?c5 ?_)
   case c1 =>
    intro m q hm
    match m,hm with
    | 0,hm=>simp at hm;subst hm;simp [kS]
   case c2=>intro q hq;simp at hq;subst hq;rfl
   case c3=>unfold maxLen;omega
   case c4=>omega
   case c5=>simp;omega
   intro v' w6 hown' hgrow hnil';have HB6:Hid (Below w1.heap.size w1 w6):=hJJ ((HB5.out.alloc hsz5 _).grown hgrow (by simp;omega) fun m hm=>(show Jr w1.heap.size w5 u7 P1 from hown2).blk m hm);have HO6:Hid (Jr w1.heap.size w6 v' (P1++[x2])):=hJJ (jd.snoc hown');clear hown' hgrow hown2 hnil';go_wp2;go_roundw;case rel=>exact ⟨q+1,by omega,by go_num,by rw [HS2.out];exact HO6.out,HB6.out⟩
   case measure=>simp [intOf];omega
  have HE:Hid (q=n):=hJJ (by omega);obtain ⟨⟨sa',sc⟩,hs,hrow⟩:=HO.out.row (enc:=fun n=>[I n]) (fun _=>rfl);rw [HE.out] at hs hrow;have HR2:=hJJ hrow;have HF:=hJJ (BB.out _ HB.out);clear hrow HE;subst hs;generalize hL:x1 :: ul n=P2 at HR0 HR2 |-;clear hL;show Kh _ _ _ _ _;rw [show (Sl.val ⟨sa',sc⟩ P2.length)=.slice sa' P2.length sc from rfl];go_wp2_with fail
  refine (j6o sa' sc P2 _ HR2.out).mono ?_;rintro e w' ⟨rfl,rfl⟩;rw [HR0.out];go_wp2;go_ret;exact ⟨rfl,HF.out⟩
theorem jbu (T:Tab) (h:Hd) (p:Int) (w:World) (ht:jy w h T) (sm:Few T) :
  Calls Tryz.prog 74 #[.agg (T.cells h).toArray,.int .i64 p] w fun e w'=>e=.returned (.int .i64 (j1j T p))/\Below w.heap.size w w':=by
 have h2:=fun W (hb:Below w.heap.size w W)=>Where.j5J T h p W (ht.below hb) sm;have ho:=fun W (hb:Below w.heap.size w W)=>j6n T h W (ht.below hb)
 have hf:j1j T p=match JM T p with
  | some x=>if SetM.has (onS T:Nat) p then jbt T x else 0
  | none=>0:=rfl
 rw [hf];cases hw:JM T p with
 | none =>
  rw [hw] at h2;have:=j7w T h p 0 0 0 0 false (onS T:Nat) w ht sm (hJJ h2) (hJJ ho);simpa using this
 | some x =>
  rw [hw] at h2;have:=j7w T h p x.g x.k x.i x.p true (onS T:Nat) w ht sm (hJJ h2) (hJJ ho);simpa [jbt] using this
end FreeS
namespace WaitS
open Zip
open Go.ChangeShapes Go.WideShapes Go.ChangeAt Go.RowKit
open Tab Gath OnS RefC FreeS OverS
open May (St jK jg)
def jfi (T:Tab) (f:Int):Int:=jO [mul (jO [T.share,1]) (jO [j3T T,f,2]),T.share]
def j15 (T:Tab) (p:Int):Int:=if j1j T p=0\/T.rails.length=0 then j1j T p else jfi T (j1j T p)
theorem jbv (T:Tab) (h:Hd) (p:Int) (w:World) (ht:jy w h T) (sm:PlaceM.Few T) (few:T.rails.length<=1000) :
  Calls Tryz.prog 40 #[.agg (T.cells h).toArray,.int .i64 p] w fun e w'=>e=.returned (.int .i64 (j15 T p))/\Below w.heap.size w w':=by
 have C:=hJJ (j9 ht);have hsz:=C.out.size;have IA:Hid ((Tryz.prog.info? 33).map (·.size)=some (T.cells h).length):=hJJ (by rw [kr] at hsz;rw [hsz];exact jK);have FC:Hid (∀ W,Below w.heap.size w W->Calls Tryz.prog 74 #[.agg (T.cells h).toArray,.int .i64 p] W fun e w'=>e=.returned (.int .i64 (j1j T p))/\Below W.heap.size W w'):=hJJ (fun W hb=>jbu T h p W (ht.below hb) sm);have OC:Hid (∀ W,Below w.heap.size w W->Calls Tryz.prog 77 #[.agg (T.cells h).toArray] W fun e w'=>e=.returned (.int .i64 (j3T T))/\Below W.heap.size W w'):=hJJ (fun W hb=>jbp T h W (ht.below hb) few);have S0:=hJJ (St.box (cs:=(T.cells h).toArray) ht);have RS:Hid (j15 T p=if j1j T p=0\/T.rails.length=0 then j1j T p else jO [mul (jO [T.share,1]) (jO [j3T T,j1j T p,2]),T.share]):=hJJ rfl;generalize j15 T p=res at RS |-;generalize j1j T p=f at RS FC;clear ht sm;go_enter Tryz.func40,Tryz.ntmps40
 go_upto_region 1 with fail
 generalize w.alloc (.cells (T.cells h).toArray 33)=w1 at S0 |-;have q114:=C.out.r;have q130:=C.out.share;generalize hc:T.cells h=c at *;clear hsz hc;generalize T.rails.length=n at *;obtain ⟨sg,sd,⟨ra,rcap⟩,sb⟩:=h;have Q114:Hid (∀ W,Below w1.heap.size w1 W->W.cell? ⟨w.heap.size,114,none⟩=some (.slice ra n rcap)):=hJJ (fun W hb=>(S0.out.step hb).cell q114);have Q130:Hid (∀ W,Below w1.heap.size w1 W->W.cell? ⟨w.heap.size,130,none⟩=some (I T.share)):=hJJ (fun W hb=>(S0.out.step hb).cell q130);have LT:Hid (∀ W,Below w1.heap.size w1 W->jl W ⟨w.heap.size,0,none⟩ c):=hJJ (fun W hb=>by have:=Row.j1 (S0.out.step hb).blk;simpa using this);have BB:Hid (∀ W,Below w1.heap.size w1 W->Below w.heap.size w W):=hJJ (fun W hb=>S0.out.bel.trans (hb.mono S0.out.bel.size));clear q114 q130;go_wp2_with (refine lgZ 33 ⟨w.heap.size,0,none⟩ c rfl (LT.out _ (kc _ _)) Tryz.underlying33 IA.out ?_)
 refine (FC.out _ (BB.out _ (kc _ _))).mono ?_;rintro e wr ⟨rfl,hb⟩;have B2:=hJJ hb;clear hb FC;have q114:=Q114.out _ B2.out;generalize T.share=sh at Q130 RS;by_cases hf0:f=0
 ·have HF:Hid (0=res):=hJJ (by rw [RS.out,if_pos (.inl hf0),hf0]);have HB:=hJJ (BB.out _ B2.out);subst hf0;go_wp2;go_ret;exact ⟨RefC.jn HF.out,HB.out⟩
 have hfb:(f == 0)=false:=by simpa using hf0
 by_cases hn0:n=0
 ·have HF:Hid (f=res):=hJJ (by rw [RS.out,if_pos (.inr hn0)]);have HB:=hJJ (BB.out _ B2.out);subst hn0;clear hf0;go_wp2;go_ret;exact ⟨RefC.jn HF.out,HB.out⟩
 have hnb:((n:Int) == 0)=false:=by rw [beq_eq_false_iff_ne];omega
 have HR0:Hid (jO [mul (jO [sh,1]) (jO [j3T T,f,2]),sh]=res):=hJJ (by rw [RS.out,if_neg (fun e=>e.elim hf0 hn0)]);clear hf0 hn0 RS;have CQ:Hid (∀ w',Below wr.heap.size wr w'->w'.cell? ⟨w.heap.size,130,none⟩=some (I sh)):=hJJ (fun w' hb=>Q130.out _ (B2.out.trans (hb.mono B2.out.size)));have LS:Hid (∀ w',Below wr.heap.size wr w'->jl w' ⟨w.heap.size,0,none⟩ c):=hJJ (fun w' hb=>LT.out _ (B2.out.trans (hb.mono B2.out.size)));have SB:Hid (∀ w',Below wr.heap.size wr w'->Below w.heap.size w w'):=hJJ (fun w' hb=>BB.out _ (B2.out.trans (hb.mono B2.out.size)));go_upto_region 4 with fail
 clear q114 hfb hnb;refine Kq (S:=fun w'=>Below wr.heap.size wr w') (by kernel_rfl) ?_;have hS:Below wr.heap.size wr { wr with drawn:=wr.drawn+1 }:=(kc _ _).drew;have hv:wr.heap.size<=({ wr with drawn:=wr.drawn+1 }:World).heap.size:=kb _;generalize ({ wr with drawn:=wr.drawn+1 }:World)=v at hS hv |-;refine tkZ 0 18 ?_ rfl ?_ hS ?_;rotate_left
 ·intro w' hw';have e1:=CQ.out w' hw';go_simp
  try with_reducible rfl
 (try dsimp only [k6]);(try simp only [zA,zB,zC])
 refine tkZ 1 19 ?_ rfl ?_ hS ?_;rotate_left
 ·intro w' hw';have e1:=CQ.out w' hw';go_simp
  try with_reducible rfl
 (try dsimp only [k6]);(try simp only [zA,zB,zC])
 refine tlZ 4 22 33 _ ⟨w.heap.size,0,none⟩ c rfl hS (fun w' hw'=>LS.out w' hw') Tryz.underlying33 IA.out ?_
 (try dsimp only [k6]);(try simp only [zA,zB,zC])
 refine tkZ 6 24 ?_ rfl ?_ hS ?_;rotate_left
 ·intro w' hw';go_simp
  try with_reducible rfl
 (try dsimp only [k6]);(try simp only [zA,zB,zC])
 refine tkZ 10 28 ?_ rfl ?_ hS ?_;rotate_left
 ·intro w' hw';have e1:=CQ.out w' hw';go_simp
  try with_reducible rfl
 (try dsimp only [k6]);(try simp only [zA,zB,zC])
 refine tkZ 11 29 ?_ rfl ?_ hS ?_;rotate_left
 ·intro w' hw';have e1:=CQ.out w' hw';go_simp
  try with_reducible rfl
 (try dsimp only [k6]);(try simp only [zA,zB,zC])
 refine rdZ 2 rfl (fun K hK=>?_);go_simp
 have r1:Hid (jc (v.alloc (.cells #[I sh,I 1] 3)) ⟨some ⟨v.heap.size,0,none⟩,2⟩ [sh,1]):=hJJ (May.jg v 3 [sh,1] 2 rfl (by decide) _ rfl);have hbw:Below v.heap.size v (v.alloc (.cells #[I sh,I 1] 3)):=(kc _ _).alloc (kb _) _;have hS2:=hS.alloc hv (.cells #[I sh,I 1] 3);replace hv:=kx hv hbw.size;clear hbw hS;generalize hb0:v.heap.size=b1 at r1 |-;clear hb0;generalize kf v (.cells #[I sh,I 1] 3)=x2 at r1 hS2 hv |-;refine hK.out _ _ hS2 (fun hS=>?_);clear hK K hS2;refine rdZ 3 rfl (fun K hK=>?_);go_simp
 refine (Clear.JR (some ⟨b1,0,none⟩) 2 [sh,1] 2 rfl x2 r1.out).mono ?_;rintro e w' ⟨rfl,hq⟩;subst w';clear r1;generalize jO [sh,1]=z1 at HR0 |-;go_simp
 refine hK.out _ _ hS (fun hS=>?_);clear hK K;refine rdZ 5 rfl (fun K hK=>?_);go_simp
 refine (OC.out x2 (SB.out x2 hS)).mono ?_;rintro e x3 ⟨rfl,hb⟩;generalize j3T T=ov at HR0 |-;have hS2:=kw hS (hb.mono hv);replace hv:=kx hv hb.size;clear hb hS;go_simp
 refine hK.out _ _ hS2 (fun hS=>?_);clear hK K hS2;refine rdZ 7 rfl (fun K hK=>?_);go_simp
 have r2:Hid (jc (x3.alloc (.cells #[I ov,I f,I 2] 3)) ⟨some ⟨x3.heap.size,0,none⟩,3⟩ [ov,f,2]):=hJJ (May.jg x3 3 [ov,f,2] 3 rfl (by decide) _ rfl);have hbw:Below x3.heap.size x3 (x3.alloc (.cells #[I ov,I f,I 2] 3)):=(kc _ _).alloc (kb _) _;have hS2:=hS.alloc hv (.cells #[I ov,I f,I 2] 3);replace hv:=kx hv hbw.size;clear hbw hS;generalize hb0:x3.heap.size=b4 at r2 |-;clear hb0;generalize kf x3 (.cells #[I ov,I f,I 2] 3)=x5 at r2 hS2 hv |-;refine hK.out _ _ hS2 (fun hS=>?_);clear hK K hS2;refine rdZ 8 rfl (fun K hK=>?_);go_simp
 refine (Clear.JR (some ⟨b4,0,none⟩) 3 [ov,f,2] 3 rfl x5 r2.out).mono ?_;rintro e w' ⟨rfl,hq⟩;subst w';clear r2;generalize jO [ov,f,2]=z2 at HR0 |-;go_simp
 refine hK.out _ _ hS (fun hS=>?_);clear hK K;refine rdZ 9 rfl (fun K hK=>?_);go_simp
 refine (jbj z1 z2 x5).mono ?_;rintro e w' ⟨rfl,hq⟩;subst w';generalize mul z1 z2=z3 at HR0 |-;go_simp
 refine hK.out _ _ hS (fun hS=>?_);clear hK K;refine rdZ 12 rfl (fun K hK=>?_);go_simp
 have r3:Hid (jc (x5.alloc (.cells #[I z3,I sh] 3)) ⟨some ⟨x5.heap.size,0,none⟩,2⟩ [z3,sh]):=hJJ (May.jg x5 3 [z3,sh] 2 rfl (by decide) _ rfl);have hbw:Below x5.heap.size x5 (x5.alloc (.cells #[I z3,I sh] 3)):=(kc _ _).alloc (kb _) _;have hS2:=hS.alloc hv (.cells #[I z3,I sh] 3);replace hv:=kx hv hbw.size;clear hbw hS;generalize hb0:x5.heap.size=b6 at r3 |-;clear hb0;generalize kf x5 (.cells #[I z3,I sh] 3)=x7 at r3 hS2 hv |-;refine hK.out _ _ hS2 (fun hS=>?_);clear hK K hS2;refine rdZ 13 rfl (fun K hK=>?_);go_simp
 refine (Clear.JR (some ⟨b6,0,none⟩) 2 [z3,sh] 2 rfl x7 r3.out).mono ?_;rintro e w' ⟨rfl,hq⟩;subst w';rw [HR0.out];go_simp
 refine hK.out _ _ hS (fun hS=>?_);clear hK K;refine tkZ 14 4 ?_ rfl ?_ hS ?_;rotate_left
 ·intro w' hw';go_simp
  try with_reducible rfl
 (try dsimp only [k6]);(try simp only [zA,zB,zC])
 refine Ko (by kernel_rfl) ?_ _;have HF:=hJJ (SB.out _ hS);clear hS;go_wp2;go_ret;exact ⟨rfl,HF.out⟩
end WaitS
namespace CodeAt
open Go
def j1y:Code->Option Nat
 | .region i _ _=>some i
 | .seq a b=>(j1y a).or (j1y b)
 | .cond _ a b=>(j1y a).or (j1y b)
 | .block _ b=>j1y b
 | .loop b=>j1y b
 | .scope b=>j1y b
 | _=>none
def j3U (id:Nat):Code->Option Code
 | .seq a b=>(j3U id a).or (j3U id b)
 | .cond _ a b=>(j3U id a).or (j3U id b)
 | .block _ b=>j3U id b
 | .loop b=>if j1y b=some id then some (.loop b) else j3U id b
 | .scope b=>j3U id b
 | _=>none
def lp (id:Nat) (f:Func):Code:=((f.body.bind (j3U id)).getD .skip)
end CodeAt
namespace GenT
open Go Go.RowKit
open Tab Gath GenG Clone PlaceM
open RefS (num j2)
def upd {α:Type} (f:Nat->α) (z:α) (n:Nat):List α:=(K4 8).map fun i=>if i < n then f i else z
theorem j8X {α:Type} (f:Nat->α) (z:α) (n:Nat):(upd f z n).length=8:=by simp [upd]
theorem j7x {α:Type} (f:Nat->α) (z:α) (n:Nat):(upd f z n).set n (f n)=upd f z (n+1):=by
 apply List.ext_getElem?;intro j;unfold upd;rw [List.getElem?_set];simp only [kM,List.length_range,kP];by_cases hj:j < 8
 ·rw [K3 hj];simp only [Option.map_some];by_cases e:n=j
  ·subst e;rw [if_pos rfl,if_pos hj,if_pos (by omega)]
  rw [if_neg e];congr 1;by_cases h2:j < n
  ·rw [if_pos h2,if_pos (by omega)]
  rw [if_neg h2,if_neg (by omega)]
 have hn:(K4 8)[j]?=none:=by rw [kU];simp;omega
 rw [hn];simp only [Option.map_none];by_cases e:n=j
 ·rw [if_pos e,if_neg (by omega)]
 rw [if_neg e]
theorem jeC {α:Type} (f:Nat->α) (z:α) (n j:Nat) (h:j < 8):(upd f z n)[j]?=some (if j < n then f j else z):=by
 unfold upd;rw [kP,K3 h];rfl
def j52 (L:List Int) (T:Tab) (p q:Nat) (C:List Int):List Int :=
 if beside T p q=false/\num L (110+8*p+q) 9 ≠ 1 then (C.set p (SetM.j08 (C.getD p 0) q:Nat)).set q (SetM.j08 ((C.set p (SetM.j08 (C.getD p 0) q:Nat)).getD q 0) p:Nat) else C
def j21 (L:List Int) (T:Tab) (p:Nat) (C:List Int):Nat->List Int
 | 0=>C
 | q+1=>j52 L T p q (j21 L T p C q)
def call (L:List Int) (T:Tab) (C:List Int):Nat->List Int
 | 0=>C
 | p+1=>j21 L T p (call L T C p) p
theorem jbw (L:List Int) (T:Tab) (p q:Nat) (C:List Int):(j52 L T p q C).length=C.length:=by unfold j52;split <;> simp
theorem j53 (L:List Int) (T:Tab) (p:Nat) (C:List Int):∀ q,(j21 L T p C q).length=C.length
 | 0=>rfl
 | q+1=>by rw [j21,jbw,j53 L T p C q]
theorem j7y (L:List Int) (T:Tab) (C:List Int):∀ p,(call L T C p).length=C.length
 | 0=>rfl
 | p+1=>by rw [call,j53,j7y L T C p]
def down {α:Type} (f:Nat->α) (k:Nat):Nat->List α
 | 0=>[]
 | j+1=>down f k j++[f (k - j)]
theorem JZ {α:Type} (f:Nat->α) (k:Nat):∀ j,(down f k j).length=j
 | 0=>rfl
 | j+1=>by rw [down,kl,JZ f k j];rfl
def j0V (L:List Int) (i n:Nat):Bs:=⟨max 1 (bits .and .i64 (num L (330+2*i) 256) (GenR.Je n)),1+num L (331+2*i) 30⟩
def j1z (T:Tab):Nat->Int
 | 0=>0
 | p+1=>max (j1z T p) (WaitS.j15 T p)
def jB:Tab:=⟨[zPh,zPh,zPh,zPh,zPh,zPh,zPh,zPh],[],[0,0,0,0,0,0,0,0],[],[],[],0,0,0,0,0,[0,0,0,0,0,0,0,0],0,0⟩
def j3x (L:List Int):Tab:={ jB with groups:=j13 L }
def j8a (L:List Int) (n:Nat):Tab:={ j3x L with phases:=upd (fun p=>GenP.j0F L (10+12*p)) zPh n,flash:=upd (fun _=>1) 0 n }
def j3y (L:List Int):Tab:={ j8a L (J9 L) with conflict:=call L (j3x L) [0,0,0,0,0,0,0,0] (J9 L) }
def j19 (L:List Int):Tab:=if num L 174 ((J9 L:Int)+1) < J9 L then { j3y L with flash:=(j3y L).flash.set (num L 174 ((J9 L:Int)+1)).toNat 2 } else j3y L
def j37 (L:List Int) (j:Nat):Tab:={ j19 L with dets:=down (fun i=>GenD.Jq L (180+8*i) (J9 L)) (num L 175 9).toNat j }
def j6q (L:List Int) (j:Nat):Tab:={ j37 L (num L 175 9).toNat with rails:=down (fun i=>GenR.JN (j3x L) L (260+16*i) (J9 L)) (num L 176 4 % 3).toNat j }
def j9Q (L:List Int) (j:Nat):Tab:={ j6q L (num L 176 4 % 3).toNat with buses:=down (fun i=>j0V L i (J9 L)) (num L 177 3).toNat j }
def j0n (L:List Int):Tab:={ j9Q L (num L 177 3).toNat with extend:=num L 178 12,budget:=num L 179 40,start:=num L 180 8,revert:=num L 181 8,least:=num L 182 12,share:=num L 183 4 }
def jj (L:List Int):Tab:=if (num L 176 4 % 3).toNat=0 then j0n L else { j0n L with window:=j1z (j0n L) (J9 L) }
theorem j22 {T U:Tab} (h:T.groups=U.groups) (p q:Int):PlaceM.beside T p q=PlaceM.beside U p q:=by
 unfold PlaceM.beside;unfold JM;unfold PlaceM.JT;rw [h]
theorem j7z {T:Tab} (hd:Hd) (h8:T.phases.length=8) (p:Nat) (hp:p < 8) (x:Ph):(T.cells hd).take (13*p)++x.cells++(T.cells hd).drop (13*p+13)={ T with phases:=T.phases.set p x }.cells hd:=by
 obtain ⟨a0,a1,a2,a3,a4,a5,a6,a7,e⟩:=eight h8;obtain ⟨phases,groups,conflict,dets,rails,buses,extend,budget,start,revert,least,flash,window,share⟩:=T;simp only at e;subst e
 match p,hp with
 | 0,_ | 1,_ | 2,_ | 3,_ | 4,_ | 5,_ | 6,_ | 7,_=>rfl
theorem j0o {T:Tab} (hd:Hd) (h8:T.phases.length=8) (hc:T.conflict.length=8) (hf:T.flash.length=8):(T.cells hd).length=131:=by
 obtain ⟨a0,a1,a2,a3,a4,a5,a6,a7,e⟩:=eight h8;obtain ⟨c0,c1,c2,c3,c4,c5,c6,c7,e2⟩:=eight hc;obtain ⟨f0,f1,f2,f3,f4,f5,f6,f7,e3⟩:=eight hf;obtain ⟨phases,groups,conflict,dets,rails,buses,extend,budget,start,revert,least,flash,window,share⟩:=T;simp only at e e2 e3;subst e e2 e3;rfl
theorem j54 {T:Tab} (hd:Hd) (h8:T.phases.length=8) (hc:T.conflict.length=8) (p:Nat) (hp:p < 8) (x:Int):(T.cells hd).set (105+p) (I x)={ T with conflict:=T.conflict.set p x }.cells hd:=by
 obtain ⟨a0,a1,a2,a3,a4,a5,a6,a7,e⟩:=eight h8;obtain ⟨c0,c1,c2,c3,c4,c5,c6,c7,e2⟩:=eight hc;obtain ⟨phases,groups,conflict,dets,rails,buses,extend,budget,start,revert,least,flash,window,share⟩:=T;simp only at e e2;subst e e2
 match p,hp with
 | 0,_ | 1,_ | 2,_ | 3,_ | 4,_ | 5,_ | 6,_ | 7,_=>rfl
theorem j3V {T:Tab} (hd:Hd) (h8:T.phases.length=8) (hc:T.conflict.length=8) (hf:T.flash.length=8) (p:Nat) (hp:p < 8) (x:Int):(T.cells hd).set (121+p) (I x)={ T with flash:=T.flash.set p x }.cells hd:=by
 obtain ⟨a0,a1,a2,a3,a4,a5,a6,a7,e⟩:=eight h8;obtain ⟨c0,c1,c2,c3,c4,c5,c6,c7,e2⟩:=eight hc;obtain ⟨f0,f1,f2,f3,f4,f5,f6,f7,e3⟩:=eight hf;obtain ⟨phases,groups,conflict,dets,rails,buses,extend,budget,start,revert,least,flash,window,share⟩:=T;simp only at e e2 e3;subst e e2 e3
 match p,hp with
 | 0,_ | 1,_ | 2,_ | 3,_ | 4,_ | 5,_ | 6,_ | 7,_=>rfl
theorem j6r {T:Tab} (hd:Hd) (h8:T.phases.length=8) (hc:T.conflict.length=8) (x:Int):(T.cells hd).set 116 (I x)={ T with extend:=x }.cells hd:=by
 obtain ⟨a0,a1,a2,a3,a4,a5,a6,a7,e⟩:=eight h8;obtain ⟨c0,c1,c2,c3,c4,c5,c6,c7,e2⟩:=eight hc;obtain ⟨phases,groups,conflict,dets,rails,buses,extend,budget,start,revert,least,flash,window,share⟩:=T;simp only at e e2;subst e e2;rfl
theorem j6s {T:Tab} (hd:Hd) (h8:T.phases.length=8) (hc:T.conflict.length=8) (x:Int):(T.cells hd).set 117 (I x)={ T with budget:=x }.cells hd:=by
 obtain ⟨a0,a1,a2,a3,a4,a5,a6,a7,e⟩:=eight h8;obtain ⟨c0,c1,c2,c3,c4,c5,c6,c7,e2⟩:=eight hc;obtain ⟨phases,groups,conflict,dets,rails,buses,extend,budget,start,revert,least,flash,window,share⟩:=T;simp only at e e2;subst e e2;rfl
theorem j7A {T:Tab} (hd:Hd) (h8:T.phases.length=8) (hc:T.conflict.length=8) (x:Int):(T.cells hd).set 118 (I x)={ T with start:=x }.cells hd:=by
 obtain ⟨a0,a1,a2,a3,a4,a5,a6,a7,e⟩:=eight h8;obtain ⟨c0,c1,c2,c3,c4,c5,c6,c7,e2⟩:=eight hc;obtain ⟨phases,groups,conflict,dets,rails,buses,extend,budget,start,revert,least,flash,window,share⟩:=T;simp only at e e2;subst e e2;rfl
theorem j6t {T:Tab} (hd:Hd) (h8:T.phases.length=8) (hc:T.conflict.length=8) (x:Int):(T.cells hd).set 119 (I x)={ T with revert:=x }.cells hd:=by
 obtain ⟨a0,a1,a2,a3,a4,a5,a6,a7,e⟩:=eight h8;obtain ⟨c0,c1,c2,c3,c4,c5,c6,c7,e2⟩:=eight hc;obtain ⟨phases,groups,conflict,dets,rails,buses,extend,budget,start,revert,least,flash,window,share⟩:=T;simp only at e e2;subst e e2;rfl
theorem j7B {T:Tab} (hd:Hd) (h8:T.phases.length=8) (hc:T.conflict.length=8) (x:Int):(T.cells hd).set 120 (I x)={ T with least:=x }.cells hd:=by
 obtain ⟨a0,a1,a2,a3,a4,a5,a6,a7,e⟩:=eight h8;obtain ⟨c0,c1,c2,c3,c4,c5,c6,c7,e2⟩:=eight hc;obtain ⟨phases,groups,conflict,dets,rails,buses,extend,budget,start,revert,least,flash,window,share⟩:=T;simp only at e e2;subst e e2;rfl
theorem j1A {T:Tab} (hd:Hd) (h8:T.phases.length=8) (hc:T.conflict.length=8) (hf:T.flash.length=8) (x:Int):(T.cells hd).set 129 (I x)={ T with window:=x }.cells hd:=by
 obtain ⟨a0,a1,a2,a3,a4,a5,a6,a7,e⟩:=eight h8;obtain ⟨c0,c1,c2,c3,c4,c5,c6,c7,e2⟩:=eight hc;obtain ⟨f0,f1,f2,f3,f4,f5,f6,f7,e3⟩:=eight hf;obtain ⟨phases,groups,conflict,dets,rails,buses,extend,budget,start,revert,least,flash,window,share⟩:=T;simp only at e e2 e3;subst e e2 e3;rfl
theorem j7C {T:Tab} (hd:Hd) (h8:T.phases.length=8) (hc:T.conflict.length=8) (hf:T.flash.length=8) (x:Int):(T.cells hd).set 130 (I x)={ T with share:=x }.cells hd:=by
 obtain ⟨a0,a1,a2,a3,a4,a5,a6,a7,e⟩:=eight h8;obtain ⟨c0,c1,c2,c3,c4,c5,c6,c7,e2⟩:=eight hc;obtain ⟨f0,f1,f2,f3,f4,f5,f6,f7,e3⟩:=eight hf;obtain ⟨phases,groups,conflict,dets,rails,buses,extend,budget,start,revert,least,flash,window,share⟩:=T;simp only at e e2 e3;subst e e2 e3;rfl
theorem j8b {T:Tab} (hd:Hd) (h8:T.phases.length=8) (hc:T.conflict.length=8) (s:Sl) (l:List Det):(T.cells hd).set 113 (s.val l.length)={ T with dets:=l }.cells ⟨hd.g,s,hd.r,hd.b⟩:=by
 obtain ⟨a0,a1,a2,a3,a4,a5,a6,a7,e⟩:=eight h8;obtain ⟨c0,c1,c2,c3,c4,c5,c6,c7,e2⟩:=eight hc;obtain ⟨phases,groups,conflict,dets,rails,buses,extend,budget,start,revert,least,flash,window,share⟩:=T;simp only at e e2;subst e e2;rfl
theorem j7D {T:Tab} (hd:Hd) (h8:T.phases.length=8) (hc:T.conflict.length=8) (s:Sl) (l:List Rl):(T.cells hd).set 114 (s.val l.length)={ T with rails:=l }.cells ⟨hd.g,hd.d,s,hd.b⟩:=by
 obtain ⟨a0,a1,a2,a3,a4,a5,a6,a7,e⟩:=eight h8;obtain ⟨c0,c1,c2,c3,c4,c5,c6,c7,e2⟩:=eight hc;obtain ⟨phases,groups,conflict,dets,rails,buses,extend,budget,start,revert,least,flash,window,share⟩:=T;simp only at e e2;subst e e2;rfl
theorem j7E {T:Tab} (hd:Hd) (h8:T.phases.length=8) (hc:T.conflict.length=8) (s:Sl) (l:List Bs):(T.cells hd).set 115 (s.val l.length)={ T with buses:=l }.cells ⟨hd.g,hd.d,hd.r,s⟩:=by
 obtain ⟨a0,a1,a2,a3,a4,a5,a6,a7,e⟩:=eight h8;obtain ⟨c0,c1,c2,c3,c4,c5,c6,c7,e2⟩:=eight hc;obtain ⟨phases,groups,conflict,dets,rails,buses,extend,budget,start,revert,least,flash,window,share⟩:=T;simp only at e e2;subst e e2;rfl
theorem j6u {T:Tab} (hd:Hd) (h8:T.phases.length=8) (s:Sl) (l:List (List Int × List Int)):(T.cells hd).set 104 (s.val l.length)={ T with groups:=l }.cells ⟨s,hd.d,hd.r,hd.b⟩:=by
 obtain ⟨a0,a1,a2,a3,a4,a5,a6,a7,e⟩:=eight h8;obtain ⟨phases,groups,conflict,dets,rails,buses,extend,budget,start,revert,least,flash,window,share⟩:=T;simp only at e;subst e;rfl
def KT (w:World) (s:Sl) (t:TypeId):Prop:=∀ x,s.a=some x->∃ cs:Array Value,w.heap[x.block]?=some (.cells cs t (0,0))
theorem KT.grown {w w':World} {s:Sl} {t:TypeId} {row:Option Nat} (h:KT w s t) (hg:w.grownBy w' row) (hne:∀ x,s.a=some x->some x.block ≠ row):KT w' s t:=fun x hx=>by
 obtain ⟨cs,hc⟩:=h x hx;exact ⟨cs,(hg.block _ (ka.1 hc).1 (hne x hx)).trans hc⟩
theorem KT.ne {w:World} {s:Sl} {b:Nat} {cs:Array Value} {t t':TypeId} (h:KT w s t) (hb:w.heap[b]?=some (.cells cs t' (0,0))) (ht:t' ≠ t):∀ x,s.a=some x->x.block ≠ b:=by
 intro x hx e;obtain ⟨ds,hc⟩:=h x hx;rw [e,hb] at hc;simp at hc;exact ht hc.2
theorem j3w {α:Type} {n:Nat} {enc:α->List Value} {w w':World} {s:Sl} {l:List α} {row:Option Nat} (h:ju n enc w s l) (hg:w.grownBy w' row) (hne:∀ x,s.a=some x->some x.block ≠ row):ju n enc w' s l:=by
 rcases h with h | ⟨x,h1,h2,h3,h4⟩
 ·exact .inl h
 exact .inr ⟨x,h1,h2,h3,fun i v hv j u hu=>hg.cell (h4 i v hv j u hu) (by rw [j0m,j0m];exact hne x h1)⟩
def GrT (w:World) (s:Sl) (l:List (List Int × List Int)):Prop:=∃ gs:List Gr,gs.map Gr.data=l/\ju 2 Gr.cells w s gs/\KT w s 68/\∀ g ∈ gs,j0y w g.s0 g.r0/\j0y w g.s1 g.r1
theorem GrT.grown {w w':World} {s:Sl} {l:List (List Int × List Int)} {row:Option Nat} (h:GrT w s l) (hg:w.grownBy w' row) (hr:∀ m,row=some m->∃ cs t,w.heap[m]?=some (.cells cs t (0,0))/\t ≠ 68/\t ≠ 3):GrT w' s l:=by
 obtain ⟨gs,h1,h2,h3,h4⟩:=h
 have hI:∀ (s:Sl) (l:List Int),j0y w s l->j0y w' s l:=fun s l hs=>hs.grown hg (fun x hx e=>by
  obtain ⟨cs,t,hb,_,ht⟩:=hr _ e.symm;exact hs.ne hb ht x hx rfl)
 have hn:∀ x,s.a=some x->some x.block ≠ row:=fun x hx e=>by
  obtain ⟨cs,t,hb,ht,_⟩:=hr _ e.symm;exact h3.ne hb ht x hx rfl
 exact ⟨gs,h1,j3w h2 hg hn,h3.grown hg hn,fun g hgm=>⟨hI _ _ (h4 g hgm).1,hI _ _ (h4 g hgm).2⟩⟩
theorem GrT.lie {w:World} {s:Sl} {l:List (List Int × List Int)} (h:GrT w s l):∃ gs:List Gr,gs.map Gr.data=l/\j0g w s gs:=by
 obtain ⟨gs,h1,h2,h3,h4⟩:=h;exact ⟨gs,h1,h2,fun g hg=>⟨(h4 g hg).1.1,(h4 g hg).2.1⟩⟩
def zHd:Hd:=⟨⟨none,0⟩,⟨none,0⟩,⟨none,0⟩,⟨none,0⟩⟩
structure Bx (w:World) (hd:Hd) (T:Tab) (W:World):Prop where
 bel:Below w.heap.size w W
 res:W.heap[w.heap.size]?=some (.cells (jB.cells zHd).toArray 33 (0,0))
 blk:W.heap[w.heap.size+1]?=some (.cells (T.cells hd).toArray 33 (0,0))
 ph:T.phases.length=8
 cf:T.conflict.length=8
 fl:T.flash.length=8
 groups:GrT W hd.g T.groups
 dets:jd Det.cells 7 w.heap.size W 71 (hd.d.val T.dets.length) T.dets
 rails:jd Rl.cells 11 w.heap.size W 75 (hd.r.val T.rails.length) T.rails
 buses:jd Bs.cells 2 w.heap.size W 77 (hd.b.val T.buses.length) T.buses
 gbk:∀ x,hd.g.a=some x->∃ g,x=⟨g,0,none⟩/\w.heap.size<=g
theorem j2C {α:Type} {enc:α->List Value} {n B:Nat} {w:World} {t:TypeId} {s:Sl} {l:List α} (henc:∀ x,(enc x).length=n) (h:jd enc n B w t (s.val l.length) l):ju n enc w s l:=by
 obtain ⟨s',e,r⟩:=jd.row h henc;obtain ⟨a,c⟩:=s;obtain ⟨a',c'⟩:=s';simp only [Sl.val,Value.slice.injEq] at e;obtain ⟨rfl,_,rfl⟩:=e;exact r
theorem Bx.tab {w W:World} {hd:Hd} {T:Tab} (h:Bx w hd T W):jy W hd T :=
 ⟨h.ph,h.cf,h.fl,h.groups.lie,j2C (fun _=>rfl) h.dets,j2C (fun _=>rfl) h.rails,j2C (fun _=>rfl) h.buses⟩
theorem Bx.size {w W:World} {hd:Hd} {T:Tab} (h:Bx w hd T W):w.heap.size+1 < W.heap.size:=(ka.1 h.blk).1
theorem Bx.step {w W W':World} {hd:Hd} {T:Tab} (h:Bx w hd T W) (hb:Below W.heap.size W W'):Bx w hd T W' :=
 ⟨h.bel.trans (hb.mono h.bel.size),(hb.block _ (by have:=h.size;omega)).trans h.res,(hb.block _ h.size).trans h.blk,h.ph,h.cf,h.fl,h.groups.grown (j3M hb none) (fun m e=>by cases e),h.dets.below hb,h.rails.below hb,h.buses.below hb,h.gbk⟩
theorem Bx.cell {w W:World} {hd:Hd} {T:Tab} (h:Bx w hd T W) (i:Nat):W.cell? ⟨w.heap.size+1,i,none⟩=(T.cells hd)[i]?:=by
 rw [Kl _ _ _ _ _ _ h.blk];simp
theorem Bx.frozen {w W:World} {hd:Hd} {T:Tab} (h:Bx w hd T W) (i:Nat):W.frozen? ⟨w.heap.size+1,i,none⟩=false:=Km _ _ _ _ _ h.blk
theorem Bx.write {w W W':World} {hd:Hd} {T U:Tab} (h:Bx w hd T W) (hg:W.grownBy W' (some (w.heap.size+1))) (hb:W'.heap[w.heap.size+1]?=some (.cells (U.cells hd).toArray 33 (0,0)))
  (h1:U.phases.length=8) (h2:U.conflict.length=8) (h3:U.flash.length=8) (e1:U.groups=T.groups) (e2:U.dets=T.dets) (e3:U.rails=T.rails) (e4:U.buses=T.buses):Bx w hd U W':=by
 refine ⟨h.bel.grown hg h.bel.size (fun k hk=>by cases hk;omega),?_,hb,h1,h2,h3,?_,?_,?_,?_,h.gbk⟩
 ·exact (hg.block _ (by have:=h.size;omega) (fun e=>by simp at e)).trans h.res
 ·rw [e1];exact h.groups.grown hg (fun m e=>by cases e;exact ⟨_,_,h.blk,by decide,by decide⟩)
 ·rw [e2];exact jm h.dets hg (fun m hm e=>by cases e;exact jN h.dets h.blk (by decide) hm)
 ·rw [e3];exact jm h.rails hg (fun m hm e=>by cases e;exact jN h.rails h.blk (by decide) hm)
 rw [e4];exact jm h.buses hg (fun m hm e=>by cases e;exact jN h.buses h.blk (by decide) hm)
theorem Bx.set {w W:World} {hd:Hd} {T U:Tab} (h:Bx w hd T W) (i:Nat) (v:Value) (hc:(T.cells hd).set i v=U.cells hd)
  (h1:U.phases.length=8) (h2:U.conflict.length=8) (h3:U.flash.length=8) (e1:U.groups=T.groups) (e2:U.dets=T.dets) (e3:U.rails=T.rails) (e4:U.buses=T.buses):Bx w hd U (W.setCell ⟨w.heap.size+1,i,none⟩ v) :=
 h.write (jC _ _ _ _) (by rw [Kk _ _ _ _ _ _ h.blk,<-hc];simp) h1 h2 h3 e1 e2 e3 e4
theorem j38 (W:World) (b:Nat) (cs:Array Value) (h:b < W.heap.size):W.grownBy (W.setRow b cs) (some b) :=
 ⟨rfl,rfl,rfl,by simp [World.setRow],fun j _ hj=>setRow_other _ _ _ _ (fun e=>hj (by rw [e]))⟩
theorem Bx.j55 {w W W':World} {hd:Hd} {T:Tab} {v':Value} (x:Det) (h:Bx w hd T W) (hg:W.grownBy W' (hd.d.val T.dets.length).ownBlock)
  (ho:W'.ownsRow w.heap.size 71 7 v' (T.dets.length+1) (T.dets.flatMap Det.cells++x.cells)) :
  (W'.heap[w.heap.size+1]?=some (.cells (T.cells hd).toArray 33 (0,0)))/\∃ a' c',v'=.slice a' (T.dets.length+1) c'/\Bx w ⟨hd.g,⟨a',c'⟩,hd.r,hd.b⟩ { T with dets:=T.dets++[x] } (W'.setCell ⟨w.heap.size+1,113,none⟩ v'):=by
 have hne:∀ {b:Nat} {cs:Array Value},W.heap[b]?=some (.cells cs 33 (0,0))->some b ≠ (hd.d.val T.dets.length).ownBlock:=fun hb e=>jN h.dets hb (by decide) e.symm;have hbx:=(hg.block _ h.size (hne h.blk)).trans h.blk;have hrs:=(hg.block _ (by have:=h.size;omega) (hne h.res)).trans h.res;have hO:jd Det.cells 7 w.heap.size W' 71 v' (T.dets++[x]):=jd.snoc ho;obtain ⟨⟨a',c'⟩,hs,hr⟩:=jd.row hO (fun _=>rfl);refine ⟨hbx,a',c',by rw [hs,kl];rfl,?_⟩;refine ⟨?_,?_,?_,h.ph,h.cf,h.fl,?_,by rw [show Sl.val ⟨a',c'⟩ (T.dets++[x]).length=v' from by rw [hs]];exact jm hO (jC _ _ _ _) (fun m hm e=>by cases e;exact jN hO hbx (by decide) hm),jm (jm h.rails hg (fun m hm e=>by obtain ⟨ds,hd2⟩:=jv h.dets _ e;exact jN h.rails hd2 (by decide) hm)) (jC _ _ _ _) (fun m hm e=>by cases e;exact jN (jm h.rails hg (fun m hm e=>by obtain ⟨ds,hd2⟩:=jv h.dets _ e;exact jN h.rails hd2 (by decide) hm)) hbx (by decide) hm),jm (jm h.buses hg (fun m hm e=>by obtain ⟨ds,hd2⟩:=jv h.dets _ e;exact jN h.buses hd2 (by decide) hm)) (jC _ _ _ _) (fun m hm e=>by cases e;exact jN (jm h.buses hg (fun m hm e=>by obtain ⟨ds,hd2⟩:=jv h.dets _ e;exact jN h.buses hd2 (by decide) hm)) hbx (by decide) hm),h.gbk⟩
 ·exact (h.bel.grown hg h.bel.size (fun k hk=>h.dets.blk k hk)).setCell (p:=⟨w.heap.size+1,113,none⟩) (by simp) v'
 ·rw [Ky _ _ _ _ (by simp)];exact hrs
 ·rw [Kk _ _ _ _ _ _ hbx,<-j8b hd h.ph h.cf ⟨a',c'⟩ (T.dets++[x]),<-hs];simp
 exact (h.groups.grown hg (fun m e=>by obtain ⟨ds,hd2⟩:=jv h.dets _ e;exact ⟨ds,_,hd2,by decide,by decide⟩)).grown (jC _ _ _ _) (fun m e=>by cases e;exact ⟨_,_,hbx,by decide,by decide⟩)
theorem Bx.j2m {w W W':World} {hd:Hd} {T:Tab} {v':Value} (x:Rl) (h:Bx w hd T W) (hg:W.grownBy W' (hd.r.val T.rails.length).ownBlock)
  (ho:W'.ownsRow w.heap.size 75 11 v' (T.rails.length+1) (T.rails.flatMap Rl.cells++x.cells)) :
  (W'.heap[w.heap.size+1]?=some (.cells (T.cells hd).toArray 33 (0,0)))/\∃ a' c',v'=.slice a' (T.rails.length+1) c'/\Bx w ⟨hd.g,hd.d,⟨a',c'⟩,hd.b⟩ { T with rails:=T.rails++[x] } (W'.setCell ⟨w.heap.size+1,114,none⟩ v'):=by
 have hne:∀ {b:Nat} {cs:Array Value},W.heap[b]?=some (.cells cs 33 (0,0))->some b ≠ (hd.r.val T.rails.length).ownBlock:=fun hb e=>jN h.rails hb (by decide) e.symm;have hbx:=(hg.block _ h.size (hne h.blk)).trans h.blk;have hrs:=(hg.block _ (by have:=h.size;omega) (hne h.res)).trans h.res;have hO:jd Rl.cells 11 w.heap.size W' 75 v' (T.rails++[x]):=jd.snoc ho;obtain ⟨⟨a',c'⟩,hs,hr⟩:=jd.row hO (fun _=>rfl);refine ⟨hbx,a',c',by rw [hs,kl];rfl,?_⟩;refine ⟨?_,?_,?_,h.ph,h.cf,h.fl,?_,jm (jm h.dets hg (fun m hm e=>by obtain ⟨ds,hd2⟩:=jv h.rails _ e;exact jN h.dets hd2 (by decide) hm)) (jC _ _ _ _) (fun m hm e=>by cases e;exact jN (jm h.dets hg (fun m hm e=>by obtain ⟨ds,hd2⟩:=jv h.rails _ e;exact jN h.dets hd2 (by decide) hm)) hbx (by decide) hm),by rw [show Sl.val ⟨a',c'⟩ (T.rails++[x]).length=v' from by rw [hs]];exact jm hO (jC _ _ _ _) (fun m hm e=>by cases e;exact jN hO hbx (by decide) hm),jm (jm h.buses hg (fun m hm e=>by obtain ⟨ds,hd2⟩:=jv h.rails _ e;exact jN h.buses hd2 (by decide) hm)) (jC _ _ _ _) (fun m hm e=>by cases e;exact jN (jm h.buses hg (fun m hm e=>by obtain ⟨ds,hd2⟩:=jv h.rails _ e;exact jN h.buses hd2 (by decide) hm)) hbx (by decide) hm),h.gbk⟩
 ·exact (h.bel.grown hg h.bel.size (fun k hk=>h.rails.blk k hk)).setCell (p:=⟨w.heap.size+1,114,none⟩) (by simp) v'
 ·rw [Ky _ _ _ _ (by simp)];exact hrs
 ·rw [Kk _ _ _ _ _ _ hbx,<-j7D hd h.ph h.cf ⟨a',c'⟩ (T.rails++[x]),<-hs];simp
 exact (h.groups.grown hg (fun m e=>by obtain ⟨ds,hd2⟩:=jv h.rails _ e;exact ⟨ds,_,hd2,by decide,by decide⟩)).grown (jC _ _ _ _) (fun m e=>by cases e;exact ⟨_,_,hbx,by decide,by decide⟩)
theorem Bx.j2n {w W W':World} {hd:Hd} {T:Tab} {v':Value} (x:Bs) (h:Bx w hd T W) (hg:W.grownBy W' (hd.b.val T.buses.length).ownBlock)
  (ho:W'.ownsRow w.heap.size 77 2 v' (T.buses.length+1) (T.buses.flatMap Bs.cells++x.cells)) :
  (W'.heap[w.heap.size+1]?=some (.cells (T.cells hd).toArray 33 (0,0)))/\∃ a' c',v'=.slice a' (T.buses.length+1) c'/\Bx w ⟨hd.g,hd.d,hd.r,⟨a',c'⟩⟩ { T with buses:=T.buses++[x] } (W'.setCell ⟨w.heap.size+1,115,none⟩ v'):=by
 have hne:∀ {b:Nat} {cs:Array Value},W.heap[b]?=some (.cells cs 33 (0,0))->some b ≠ (hd.b.val T.buses.length).ownBlock:=fun hb e=>jN h.buses hb (by decide) e.symm;have hbx:=(hg.block _ h.size (hne h.blk)).trans h.blk;have hrs:=(hg.block _ (by have:=h.size;omega) (hne h.res)).trans h.res;have hO:jd Bs.cells 2 w.heap.size W' 77 v' (T.buses++[x]):=jd.snoc ho;obtain ⟨⟨a',c'⟩,hs,hr⟩:=jd.row hO (fun _=>rfl);refine ⟨hbx,a',c',by rw [hs,kl];rfl,?_⟩;refine ⟨?_,?_,?_,h.ph,h.cf,h.fl,?_,jm (jm h.dets hg (fun m hm e=>by obtain ⟨ds,hd2⟩:=jv h.buses _ e;exact jN h.dets hd2 (by decide) hm)) (jC _ _ _ _) (fun m hm e=>by cases e;exact jN (jm h.dets hg (fun m hm e=>by obtain ⟨ds,hd2⟩:=jv h.buses _ e;exact jN h.dets hd2 (by decide) hm)) hbx (by decide) hm),jm (jm h.rails hg (fun m hm e=>by obtain ⟨ds,hd2⟩:=jv h.buses _ e;exact jN h.rails hd2 (by decide) hm)) (jC _ _ _ _) (fun m hm e=>by cases e;exact jN (jm h.rails hg (fun m hm e=>by obtain ⟨ds,hd2⟩:=jv h.buses _ e;exact jN h.rails hd2 (by decide) hm)) hbx (by decide) hm),by rw [show Sl.val ⟨a',c'⟩ (T.buses++[x]).length=v' from by rw [hs]];exact jm hO (jC _ _ _ _) (fun m hm e=>by cases e;exact jN hO hbx (by decide) hm),h.gbk⟩
 ·exact (h.bel.grown hg h.bel.size (fun k hk=>h.buses.blk k hk)).setCell (p:=⟨w.heap.size+1,115,none⟩) (by simp) v'
 ·rw [Ky _ _ _ _ (by simp)];exact hrs
 ·rw [Kk _ _ _ _ _ _ hbx,<-j7E hd h.ph h.cf ⟨a',c'⟩ (T.buses++[x]),<-hs];simp
 exact (h.groups.grown hg (fun m e=>by obtain ⟨ds,hd2⟩:=jv h.buses _ e;exact ⟨ds,_,hd2,by decide,by decide⟩)).grown (jC _ _ _ _) (fun m e=>by cases e;exact ⟨_,_,hbx,by decide,by decide⟩)
end GenT
namespace GenT
open Go.ChangeShapes Go.WideShapes Go.ChangeAt Go.RowKit
open Tab Gath GenG Clone PlaceM CodeAt
open RefS (num j2 jb)
theorem j9R {T U:Tab} (h:T.groups=U.groups) (L:List Int) (p q:Nat) (C:List Int):j52 L T p q C=j52 L U p q C:=by
 unfold j52;rw [j22 h]
theorem j5N {T U:Tab} (h:T.groups=U.groups) (L:List Int) (p:Nat) (C:List Int):∀ q,j21 L T p C q=j21 L U p C q
 | 0=>rfl
 | q+1=>by rw [j21,j21,j5N h L p C q,j9R h]
theorem j5O {T U:Tab} (h:T.groups=U.groups) (L:List Int) (C:List Int):∀ p,call L T C p=call L U C p
 | 0=>rfl
 | p+1=>by rw [call,call,j5O h L C p,j5N h]
theorem j56 (L:List Int):J9 L<=8:=j8S L (j0e L) (j0T L).2 _ (kb _)
theorem jbx (L:List Int) (G:Nat) (hG:G<=3):∀ g,g < G->(jw L G g).2 < (jw L G (g+1)).2:=fun g hg=>by
 show (jw L G g).2 < (jw L G g).2+n0 L G g (jw L G g).2+n1 L G g (jw L G g).2
 have h0:∀ g,g < G->(jw L G g).2<=4*g/\(jw L G g).2<=lim G g - 1:=by
  intro g
  induction g with
  | zero=>intro h;exact ⟨kW _,kW _⟩
  | succ k ih =>
   intro h;have:=ih (by omega);show (jw L G k).2+n0 L G k (jw L G k).2+n1 L G k (jw L G k).2<=4*(k+1)/\(jw L G k).2+n0 L G k (jw L G k).2+n1 L G k (jw L G k).2<=lim G (k+1) - 1;have a:=j4W L k;have b:=j4X L k (n0 L G k (jw L G k).2);unfold n1;have:n0 L G k (jw L G k).2<=j3K L k/\n0 L G k (jw L G k).2<=lim G k - (jw L G k).2:=by unfold n0;omega
   unfold lim at *;omega
 have h1:=(h0 g hg).2;have hl:1<=lim G g - (jw L G g).2:=by unfold lim at *;omega
 by_cases e:n0 L G g (jw L G g).2=0
 ·have hw:1<=j3L L g (n0 L G g (jw L G g).2):=by
   rw [e];unfold j3L;have:=j2 L (2+2*g) 3 (by omega);split <;> omega
  have:1<=n1 L G g (jw L G g).2:=by unfold n1;rw [e] at hw |-;omega
  omega
 omega
theorem j7F (L:List Int):1<=J9 L:=by
 obtain ⟨h1,h3⟩:=j0T L;have:=jbx L (j0e L) h3 (j0e L - 1) (by omega);rw [show j0e L - 1+1=j0e L by omega] at this;show 1<=(jw L (j0e L) (j0e L)).2;omega
theorem j3z (L:List Int):(j13 L).length=j0e L:=j6l L _ _
theorem jby (L:List Int) (G:Nat):∀ g,∀ x ∈ (jw L G g).1,x.1.length<=2/\x.2.length<=2
 | 0=>fun x h=>by simp [jw] at h
 | g+1=>fun x h=>by
  rw [jw] at h;rcases kN.1 h with h | h
  ·exact jby L G g x h
  obtain rfl:x=j9G L G g (jw L G g).2:=by simpa using h
  have a:=j4W L g;have b:=j4X L g (n0 L G g (jw L G g).2);constructor
  ·show (seg _ _).length<=2;rw [JQ];unfold n0;omega
  show (seg _ _).length<=2;rw [JQ];unfold n1;omega
theorem j57 (L:List Int):Few (j3x L):=⟨by show (j13 L).length<=1000;rw [j3z];have:=(j0T L).2;omega,fun x h=>by have:=jby L _ _ x h;omega⟩
theorem j0A (L:List Int):(j19 L).groups=j13 L:=by unfold j19;split <;> rfl
theorem j9S (L:List Int):{ j19 L with dets:=[] }=j19 L:=by unfold j19;split <;> rfl
theorem j8c (L:List Int) (k:Nat):{ j37 L k with rails:=[] }=j37 L k:=by unfold j37 j19;split <;> rfl
theorem j8d (L:List Int) (k:Nat):{ j6q L k with buses:=[] }=j6q L k:=by unfold j6q j37 j19;split <;> rfl
theorem j23 (L:List Int):{ j0n L with window:=0 }=j0n L:=by unfold j0n j9Q j6q j37 j19;split <;> rfl
theorem j8e (L:List Int):(j0n L).rails.length=(num L 176 4 % 3).toNat:=JZ _ _ _
theorem j3W (L:List Int):(j0n L).groups=j13 L:=j0A L
theorem jbz (L:List Int):Few (j0n L):=⟨by rw [j3W];exact (j57 L).groups,by rw [j3W];exact (j57 L).rows⟩
theorem j5P {α:Type} {f g:Nat->α} (h:∀ i,f i=g i) (k:Nat):∀ j,down f k j=down g k j
 | 0=>rfl
 | j+1=>by rw [down,down,j5P h k j,h]
def j5p (T:Tab) (l:List Int):Tab:={ T with extend:=l.getD 0 T.extend,budget:=l.getD 1 T.budget,start:=l.getD 2 T.start,revert:=l.getD 3 T.revert,least:=l.getD 4 T.least,share:=l.getD 5 T.share }
theorem j1k {w W:World} {hd:Hd} {T:Tab} {l:List Int} (h:Bx w hd (j5p T l) W) (x:Int) (i k:Nat) (hk:l.length=k) (hi:(k=0/\i=116)\/(k=1/\i=117)\/(k=2/\i=118)\/(k=3/\i=119)\/(k=4/\i=120)\/(k=5/\i=130)) :
  (∃ v,W.cell? ⟨w.heap.size+1,i,none⟩=some (I v))/\W.frozen? ⟨w.heap.size+1,i,none⟩=false/\Bx w hd (j5p T (l++[x])) (W.setCell ⟨w.heap.size+1,i,none⟩ (I x)):=by
 refine ⟨?_,h.frozen i,?_⟩
 ·rw [h.cell,<-List.getElem?_toArray];rcases hi with ⟨rfl,rfl⟩ | ⟨rfl,rfl⟩ | ⟨rfl,rfl⟩ | ⟨rfl,rfl⟩ | ⟨rfl,rfl⟩ | ⟨rfl,rfl⟩
  ·exact ⟨_,(j9 h.tab).extend⟩
  ·exact ⟨_,(j9 h.tab).budget⟩
  ·exact ⟨_,(j9 h.tab).start⟩
  ·exact ⟨_,(j9 h.tab).revert⟩
  ·exact ⟨_,(j9 h.tab).least⟩
  exact ⟨_,(j9 h.tab).share⟩
 rcases hi with ⟨rfl,rfl⟩ | ⟨rfl,rfl⟩ | ⟨rfl,rfl⟩ | ⟨rfl,rfl⟩ | ⟨rfl,rfl⟩ | ⟨rfl,rfl⟩
 ·match l,hk with
  | [],_=>exact h.set 116 (I x) (j6r hd h.ph h.cf x) h.ph h.cf h.fl rfl rfl rfl rfl
 ·match l,hk with
  | [_],_=>exact h.set 117 (I x) (j6s hd h.ph h.cf x) h.ph h.cf h.fl rfl rfl rfl rfl
 ·match l,hk with
  | [_,_],_=>exact h.set 118 (I x) (j7A hd h.ph h.cf x) h.ph h.cf h.fl rfl rfl rfl rfl
 ·match l,hk with
  | [_,_,_],_=>exact h.set 119 (I x) (j6t hd h.ph h.cf x) h.ph h.cf h.fl rfl rfl rfl rfl
 ·match l,hk with
  | [_,_,_,_],_=>exact h.set 120 (I x) (j7B hd h.ph h.cf x) h.ph h.cf h.fl rfl rfl rfl rfl
 match l,hk with
 | [_,_,_,_,_],_=>exact h.set 130 (I x) (j7C hd h.ph h.cf h.fl x) h.ph h.cf h.fl rfl rfl rfl rfl
theorem jeD:(Tryz.prog.info? 33).map (fun i=>(i.zero,i.size))=some (some (.agg (jB.cells zHd).toArray),131):=by kernel_rfl
theorem Bx.first {w W:World} {L:List Int} {ga:Option Addr} {gc:Nat} {gs:List Gr} {W0:World} (hW:Below w.heap.size w W0) (hs:W0.heap.size=w.heap.size+2) (h0:W0.heap[w.heap.size]?=some (.cells (jB.cells zHd).toArray 33 (0,0)))
  (hd:gs.map Gr.data=j13 L) (h:GS W0 (w.heap.size+1) (jB.cells zHd) ga gc (j0e L) gs W):Bx w ⟨⟨ga,gc⟩,⟨none,0⟩,⟨none,0⟩,⟨none,0⟩⟩ (j3x L) W:=by
 refine ⟨⟨h.gb.os.trans hW.os,h.gb.tape.trans hW.tape,h.gb.output.trans hW.output,by have:=h.gb.size;omega,fun j hj=>(h.gb.block j (by omega) (fun e=>by simp at e;omega)).trans (hW.block j hj)⟩,(h.gb.block _ (by omega) (fun e=>by simp at e)).trans h0,?_,rfl,rfl,rfl,?_,jd.nil,jd.nil,jd.nil,?_⟩
 ·rw [h.tbk];have:=j6u (T:=jB) zHd rfl ⟨ga,gc⟩ (j13 L);rw [j3z] at this;rw [show (Value.slice ga (j0e L) gc)=(Sl.val ⟨ga,gc⟩ (j0e L)) from rfl,this];rfl
 ·have hO:jd Gr.cells 2 W0.heap.size W 68 (Sl.val ⟨ga,gc⟩ gs.length) gs:=by rw [h.len];exact h.own
  refine ⟨gs,hd,j2C (fun _=>rfl) hO,fun x hx=>?_,h.rows⟩;obtain rfl:ga=some x:=hx;rcases hO.2 with ⟨e,_⟩ | ⟨g,cp,cur,e,h1,h2,_⟩
  ·simp [Sl.val] at e
  simp [Sl.val] at e;obtain ⟨rfl,_⟩:=e;exact ⟨cur,h2⟩
 have hO:jd Gr.cells 2 W0.heap.size W 68 (Sl.val ⟨ga,gc⟩ gs.length) gs:=by rw [h.len];exact h.own
 intro x hx;obtain rfl:ga=some x:=hx;rcases hO.2 with ⟨e,_⟩ | ⟨g,cp,cur,e,h1,h2,_⟩
 ·simp [Sl.val] at e
 simp [Sl.val] at e;obtain ⟨rfl,_⟩:=e;exact ⟨g,rfl,by omega⟩
structure jcZ (B:Nat) (W:World) (hd:Hd) (T:Tab):Prop where
 groups:GrT W hd.g T.groups
 dets:jd Det.cells 7 B W 71 (hd.d.val T.dets.length) T.dets
 rails:jd Rl.cells 11 B W 75 (hd.r.val T.rails.length) T.rails
 buses:jd Bs.cells 2 B W 77 (hd.b.val T.buses.length) T.buses
 gbk:∀ x,hd.g.a=some x->∃ g,x=⟨g,0,none⟩/\B<=g
theorem Bx.j9T {w W:World} {hd:Hd} {T:Tab} (h:Bx w hd T W):∃ W',K7 Tryz.prog (storeCells ⟨w.heap.size,0,none⟩ (T.cells hd)) W=.ok () W'/\W'.heap[w.heap.size]?=some (.cells (T.cells hd).toArray 33 (0,0))/\jy W' hd T/\jcZ w.heap.size W' hd T/\Below w.heap.size w W':=by
 have hl:=j0o hd h.ph h.cf h.fl;have hr:=run_storeCells_at Tryz.prog w.heap.size 0 33 (T.cells hd) 0 (jB.cells zHd).toArray W h.res (by simp [hl];exact kb 131) (fun v hv=>(Array.all_eq_true_iff_forall_mem.1 (j9 h.tab).one) v (by simpa using hv));simp only [Nat.add_zero] at hr
 have e:((jB.cells zHd).toArray.toList.take 0++T.cells hd++(jB.cells zHd).toArray.toList.drop (0+(T.cells hd).length)).toArray=(T.cells hd).toArray:=by
  rw [kT (by rw [hl];exact kb 131)];simp
 rw [e] at hr;have hg:=j38 W w.heap.size (T.cells hd).toArray (by have:=h.size;omega);have k1:jd Det.cells 7 w.heap.size (W.setRow w.heap.size (T.cells hd).toArray) 71 (hd.d.val T.dets.length) T.dets:=jm h.dets hg (fun m hm e=>by cases e;exact jN h.dets h.res (by decide) hm);have k2:jd Rl.cells 11 w.heap.size (W.setRow w.heap.size (T.cells hd).toArray) 75 (hd.r.val T.rails.length) T.rails:=jm h.rails hg (fun m hm e=>by cases e;exact jN h.rails h.res (by decide) hm);have k3:jd Bs.cells 2 w.heap.size (W.setRow w.heap.size (T.cells hd).toArray) 77 (hd.b.val T.buses.length) T.buses:=jm h.buses hg (fun m hm e=>by cases e;exact jN h.buses h.res (by decide) hm);have kg:GrT (W.setRow w.heap.size (T.cells hd).toArray) hd.g T.groups:=h.groups.grown hg (fun m e=>by cases e;exact ⟨_,_,h.res,by decide,by decide⟩);refine ⟨_,hr,Kp _ _ _ _ _ _ h.res,?_,?_,h.bel.grown hg h.bel.size (fun k hk=>by cases hk;omega)⟩
 ·exact ⟨h.ph,h.cf,h.fl,kg.lie,j2C (fun _=>rfl) k1,j2C (fun _=>rfl) k2,j2C (fun _=>rfl) k3⟩
 exact ⟨kg,k1,k2,k3,h.gbk⟩
end GenT
namespace CodeAt
open Go
def j3X (id:Nat):Code->Option Code
 | .seq a b=>if j1y a=some id then some (.seq a b) else (j3X id a).or (j3X id b)
 | .cond _ a b=>(j3X id a).or (j3X id b)
 | .block _ b=>j3X id b
 | .loop b=>j3X id b
 | .scope b=>j3X id b
 | _=>none
def sq (id:Nat) (f:Func):Code:=((f.body.bind (j3X id)).getD .skip)
end CodeAt
namespace GenT
end GenT
namespace SetM
end SetM
namespace GenT
open Go Tab GenG PlaceM OnS Clone
open RefS (num j2)
theorem jd0 {p m:Nat} {x:Int}:x ∈ seg p m ↔ (p:Int)<=x/\x < p+m:=by
 unfold seg;rw [K6];constructor
 ·rintro ⟨i,hi,rfl⟩;have:=kX.1 hi;omega
 rintro ⟨h1,h2⟩;exact ⟨(x - p).toNat,kX.2 (by omega),by omega⟩
theorem j2t (L:List Int):(jj L).groups=j13 L:=by
 unfold jj;split <;> exact j0A L
theorem j2u (L:List Int):(jj L).phases=upd (fun p=>GenP.j0F L (10+12*p)) zPh (J9 L):=by
 have h:(j19 L).phases=upd (fun p=>GenP.j0F L (10+12*p)) zPh (J9 L):=by unfold j19;split <;> rfl
 unfold jj;split <;> exact h
end GenT
namespace GenT
open Go Tab GenG PlaceM OnS Clone
open RefS (num j2)
open May MayF
theorem j0p {m:Int} {l:List Int}:jq m l=true ↔ ∀ x ∈ l,0<=x/\x<=m:=by
 unfold jq inB;rw [Kb];constructor
 ·intro h x hx;have:=h x hx;simpa using this
 intro h x hx;have:=h x hx;simpa using this
theorem j7G {α:Type} {m:Int} {f:α->Bool} {l:List α}:jF m f l=true ↔ (l.length:Int)<=m/\∀ x ∈ l,f x=true:=by
 unfold jF;rw [ky,decide_eq_true_eq,Kb]
theorem j8Y {α:Type} {f:Nat->α} {z:α} {n:Nat} {x:α} (h:x ∈ upd f z n):x=z\/∃ i,i < n/\i < 8/\x=f i:=by
 unfold upd at h;rw [K6] at h;obtain ⟨i,hi,rfl⟩:=h;by_cases e:i < n
 ·rw [if_pos e];exact .inr ⟨i,e,kX.1 hi,rfl⟩
 rw [if_neg e];exact .inl rfl
theorem j1l {α:Type} {f:Nat->α} {k:Nat} {x:α}:∀ {j:Nat},j<=k->x ∈ down f k j->∃ i,0 < i/\i<=k/\x=f i
 | 0,_,h=>by simp [down] at h
 | j+1,hj,h=>by
  rw [down] at h;rcases kN.1 h with h | h
  ·exact j1l (by omega) h
  obtain rfl:x=f (k - j):=by simpa using h
  exact ⟨k - j,by omega,by omega,rfl⟩
theorem j9U (L:List Int) (i:Int):Ph.may (GenP.j0F L i)=true:=by
 have a0:=j2 L i 12 (by omega);have a1:=j2 L (i+1) 9 (by omega);have a2:=j2 L (i+2) 6 (by omega);have a3:=j2 L (i+3) 4 (by omega);have a4:=j2 L (i+4) 5 (by omega);have a5:=j2 L (i+5) 25 (by omega);have a6:=j2 L (i+6) 15 (by omega);have a8:=j2 L (i+8) 10 (by omega);have b8:=j2 L (i+8) 97 (by omega);have a9:=j2 L (i+9) 7 (by omega);unfold Ph.may;rw [ky,j0p,j0p];constructor
 ·intro x hx;simp only [GenP.j0F,kh,kt,or_false] at hx;rcases hx with rfl | rfl | rfl | rfl | rfl | rfl | rfl | rfl | rfl
  ·omega
  ·omega
  ·omega
  ·omega
  ·omega
  ·omega
  ·omega
  ·split <;> omega
  split <;> omega
 intro x hx;simp only [GenP.j0F,kh,kt,or_false] at hx;subst hx;unfold GenP.J4;split <;> omega
theorem jd1:Ph.may zPh=true:=by decide
theorem j8Z {p m:Nat} (h:p+m<=8) (h2:m<=8):j02 (seg p m)=true:=by
 unfold j02;rw [ky,decide_eq_true_eq,j0p,JQ];exact ⟨h2,fun x hx=>by have:=jd0.1 hx;omega⟩
theorem jbA (L:List Int) (G:Nat) (hG:G<=3):∀ g,g<=G->∀ x ∈ (jw L G g).1,jQ x=true
 | 0,_=>fun x h=>by simp [jw] at h
 | g+1,hg=>fun x h=>by
  have h8:=j8S L G hG (g+1) hg;have e2:(jw L G (g+1)).2=(jw L G g).2+n0 L G g (jw L G g).2+n1 L G g (jw L G g).2:=rfl;rw [e2] at h8;rw [jw] at h;rcases kN.1 h with h | h
  ·exact jbA L G hG g (by omega) x h
  obtain rfl:x=j9G L G g (jw L G g).2:=by simpa using h
  unfold jQ j9G;rw [j8Z (by omega) (by omega),j8Z (by omega) (by omega)];rfl
theorem j8f {l:List Int} {m x:Int} {i:Nat} (h:∀ y ∈ l,0<=y/\y<=m) (hx:0<=x/\x<=m):∀ y ∈ l.set i x,0<=y/\y<=m:=fun y hy=>by
 rcases List.mem_or_eq_of_mem_set hy with hy | rfl
 ·exact h y hy
 exact hx
theorem j6v (s p:Int):0<=((SetM.j08 s p:Nat):Int)/\((SetM.j08 s p:Nat):Int)<=255:=by have:=SetM.jcM s p;omega
theorem jd2 {L:List Int} {T:Tab} {p q:Nat} {C:List Int} (h:∀ y ∈ C,0<=y/\y<=255):∀ y ∈ j52 L T p q C,0<=y/\y<=255:=by
 unfold j52;split
 ·exact j8f (j8f h (j6v _ _)) (j6v _ _)
 exact h
theorem j90 {L:List Int} {T:Tab} {p:Nat} {C:List Int} (h:∀ y ∈ C,0<=y/\y<=255):∀ q,∀ y ∈ j21 L T p C q,0<=y/\y<=255
 | 0=>h
 | q+1=>jd2 (j90 h q)
theorem j91 {L:List Int} {T:Tab} {C:List Int} (h:∀ y ∈ C,0<=y/\y<=255):∀ p,∀ y ∈ call L T C p,0<=y/\y<=255
 | 0=>h
 | p+1=>j90 (j91 h p) p
theorem jeE:∀ x,x < 4->∀ y,y < 3->level (GenD.j1F (x:Nat))=true/\level (GenD.j3u (x:Nat) (y:Nat))=true:=by decide +kernel
theorem j92:∀ k,k < 6->span (Fl.ofB k)=true:=by decide +kernel
theorem j8g (L:List Int) (i:Int) (n:Nat) (n0:0 < n) (n8:n<=8):Det.may (GenD.Jq L i n)=true:=by
 have a0:=j2 L i n (by omega);obtain ⟨x1,h1⟩:=kq (j2 L (i+1) 4 (by omega)).1;obtain ⟨x2,h2⟩:=kq (j2 L (i+2) 3 (by omega)).1;have b1:=(j2 L (i+1) 4 (by omega)).2;have b2:=(j2 L (i+2) 3 (by omega)).2;have a3:=j2 L (i+3) 4 (by omega);have a4:=j2 L (i+4) 6 (by omega);have a6:=j2 L (i+6) 60 (by omega);have a7:=j2 L (i+7) 300 (by omega);have e:=jeE x1 (by omega) x2 (by omega);unfold Det.may GenD.Jq;simp only [ky,j0p];refine ⟨?_,?_,?_,?_,?_,?_⟩
 ·intro x hx;simp at hx;omega
 ·rw [h1];exact e.1
 ·rw [h1,h2];exact e.2
 ·exact j92 _ (by omega)
 ·exact j92 _ (by omega)
 intro x hx;simp only [kh,kt,or_false] at hx;rcases hx with rfl | rfl
 ·split <;> omega
 split <;> omega
theorem jbB (x m:Int) (h:0<=x/\x<=255):0<=bits .and .i64 x m/\bits .and .i64 x m<=255:=by
 obtain ⟨k,rfl⟩:=kq h.1;have e:bits .and .i64 (k:Int) m=ki.wrap (((kD 64 (k:Int) &&& kD 64 m).toNat:Nat):Int):=rfl;have hk:(kD 64 (k:Int)).toNat=k:=by rw [kY,K5];omega
 have hl:(kD 64 (k:Int) &&& kD 64 m).toNat<=k:=by rw [Kc,hk];exact Ke
 rw [e,ke];omega
theorem j9V (x m:Int) (h:0<=x/\x<=255):0<=bits .andNot .i64 x m/\bits .andNot .i64 x m<=255:=by
 obtain ⟨k,rfl⟩:=kq h.1;have e:bits .andNot .i64 (k:Int) m=ki.wrap (((kD 64 (k:Int) &&& ~~~ kD 64 m).toNat:Nat):Int):=rfl;have hk:(kD 64 (k:Int)).toNat=k:=by rw [kY,K5];omega
 have hl:(kD 64 (k:Int) &&& ~~~ kD 64 m).toNat<=k:=by rw [Kc,hk];exact Ke
 rw [e,ke];omega
theorem j58 (T:Tab) (p q:Int):0<=GenW.j8 T p q/\GenW.j8 T p q<=255:=by
 unfold GenW.j8;split
 ·exact j6v _ _
 have:=SetM.of_lt [p];omega
theorem j9W (T:Tab) (L:List Int) (i:Int) (n:Nat) (n0:0 < n) (n8:n<=8):Rl.may (GenR.JN T L i n)=true:=by
 have a6:=j2 L (i+6) 10 (by omega);have a7:=j2 L (i+7) 256 (by omega);have a8:=j2 L (i+8) 4 (by omega);have a9:=j2 L (i+9) 6 (by omega);have aa:=j2 L (i+10) 6 (by omega);have ab:=j2 L (i+11) 15 (by omega);have ad:=j2 L (i+13) 30 (by omega);have al:=GenR.j5K (num L (i+14) 3);unfold Rl.may;simp only [ky,j0p];refine ⟨?_,?_,?_⟩
 ·intro x hx;simp only [GenR.JN,kh,kt,or_false] at hx;rcases hx with rfl | rfl | rfl | rfl
  ·exact j9V _ _ (jbB _ _ (by omega))
  ·split
   ·exact j58 _ _ _
   omega
  ·exact j58 _ _ _
  exact j58 _ _ _
 ·intro x hx;simp only [GenR.JN,kh,kt,or_false] at hx;rcases hx with rfl | rfl | rfl | rfl | rfl | rfl
  ·omega
  ·omega
  ·omega
  ·split <;> omega
  ·omega
  split <;> omega
 intro x hx;simp only [GenR.JN,kh,kt,or_false] at hx;subst hx;omega
theorem j9X (L:List Int) (i n:Nat):Bs.may (j0V L i n)=true:=by
 have a0:=j2 L (330+2*i) 256 (by omega);have a1:=j2 L (331+2*i) 30 (by omega);have b:=jbB (num L (330+2*i) 256) (GenR.Je n) (by omega);unfold Bs.may;simp only [ky,j0p];constructor
 ·intro x hx;simp only [j0V,kh,kt,or_false] at hx;subst hx;omega
 intro x hx;simp only [j0V,kh,kt,or_false] at hx;subst hx;omega
theorem j93 (l:List Int):0<=RefC.jO l/\RefC.jO l<=2147483647:=by
 unfold RefC.jO
 have h:∀ (l:List Int) (a:Int),0<=a/\a<=2147483647->0<=l.foldl RefC.add a/\l.foldl RefC.add a<=2147483647:=by
  intro l
  induction l with
  | nil=>intro a h;exact h
  | cons x l ih=>intro a _;exact ih _ ⟨RefC.j4Z _,RefC.j50 _⟩
 exact h l 0 (by omega)
theorem jd3 (T:Tab) (p:Int):0<=WaitS.j15 T p/\WaitS.j15 T p<=2147483647:=by
 have hf:0<=FreeS.j1j T p/\FreeS.j1j T p<=2147483647:=by
  unfold FreeS.j1j;split
  ·split
   ·exact j93 _
   omega
  omega
 unfold WaitS.j15;split
 ·exact hf
 exact j93 _
theorem j94 (T:Tab):∀ p,0<=j1z T p/\j1z T p<=2147483647
 | 0=>by show (0:Int)<=0/\(0:Int)<=2147483647;omega
 | p+1=>by
  have h1:=j94 T p;have h2:=jd3 T p;show 0<=max (j1z T p) (WaitS.j15 T p)/\max (j1z T p) (WaitS.j15 T p)<=2147483647;omega
theorem j95 (L:List Int):jZ (jj L)=true:=by
 obtain ⟨g1,g3⟩:=j0T L;have n8:=j56 L;have n1:=j7F L;have d9:=j2 L 175 9 (by omega);have r4:=j2 L 176 4 (by omega);have b3:=j2 L 177 3 (by omega);have hD:(jj L).dets=down (fun i:Nat=>GenD.Jq L (180+8*i) (J9 L)) (num L 175 9).toNat (num L 175 9).toNat:=by unfold jj;split <;> rfl
 have hR:(jj L).rails=down (fun i:Nat=>GenR.JN (j3x L) L (260+16*i) (J9 L)) (num L 176 4 % 3).toNat (num L 176 4 % 3).toNat:=by unfold jj;split <;> rfl
 have hB:(jj L).buses=down (fun i:Nat=>j0V L i (J9 L)) (num L 177 3).toNat (num L 177 3).toNat:=by unfold jj;split <;> rfl
 have hC:(jj L).conflict=call L (j3x L) [0,0,0,0,0,0,0,0] (J9 L):=by
  have h:(j19 L).conflict=call L (j3x L) [0,0,0,0,0,0,0,0] (J9 L):=by unfold j19;split <;> rfl
  unfold jj;split <;> exact h
 have hF:∀ y ∈ (jj L).flash,0<=y/\y<=2:=by
  have hu:∀ y ∈ upd (fun _=>(1:Int)) 0 (J9 L),0<=y/\y<=2:=fun y hy=>by rcases j8Y hy with rfl | ⟨i,_,_,rfl⟩ <;> omega
  have h:∀ y ∈ (j19 L).flash,0<=y/\y<=2:=by
   unfold j19;split
   ·exact j8f hu (by omega)
   exact hu
  unfold jj;split <;> exact h
 have hS:∀ y ∈ [(jj L).extend,(jj L).budget,(jj L).start,(jj L).revert,(jj L).least],0<=y/\y<=9999:=by
  have h:∀ y ∈ [num L 178 12,num L 179 40,num L 180 8,num L 181 8,num L 182 12],0<=y/\y<=9999:=by
   have a:=j2 L 178 12 (by omega);have b:=j2 L 179 40 (by omega);have c:=j2 L 180 8 (by omega);have d:=j2 L 181 8 (by omega);have e:=j2 L 182 12 (by omega);intro y hy;simp only [kh,kt,or_false] at hy;rcases hy with rfl | rfl | rfl | rfl | rfl <;> omega
  unfold jj;split <;> exact h
 have hW:∀ y ∈ [(jj L).window,(jj L).share],0<=y/\y<=2147483647:=by
  have s:=j2 L 183 4 (by omega);have w0:(j0n L).window=0:=by have:=congrArg Tab.window (j23 L);exact this.symm
  have w:=j94 (j0n L) (J9 L);unfold jj;split
  ·intro y hy;simp only [kh,kt,or_false] at hy;rcases hy with rfl | rfl
   ·rw [w0];omega
   show 0<=num L 183 4/\num L 183 4<=2147483647;omega
  intro y hy;simp only [kh,kt,or_false] at hy;rcases hy with rfl | rfl
  ·exact w
  show 0<=num L 183 4/\num L 183 4<=2147483647;omega
 unfold jZ;simp only [ky,j7G,j0p];refine ⟨⟨?_,?_⟩,⟨?_,?_⟩,?_,⟨?_,?_⟩,⟨?_,?_⟩,⟨?_,?_⟩,hS,hF,hW⟩
 ·rw [j2u,j8X];decide
 ·rw [j2u];intro x hx;rcases j8Y hx with rfl | ⟨i,_,_,rfl⟩
  ·exact jd1
  exact j9U _ _
 ·rw [j2t,j3z];omega
 ·rw [j2t];exact jbA L (j0e L) g3 _ (kb _)
 ·rw [hC];exact j91 (fun y hy=>by simp at hy;omega) _
 ·rw [hD,JZ];omega
 ·rw [hD];intro x hx;obtain ⟨i,_,_,rfl⟩:=j1l (kb _) hx;exact j8g _ _ _ (by omega) n8
 ·rw [hR,JZ];omega
 ·rw [hR];intro x hx;obtain ⟨i,_,_,rfl⟩:=j1l (kb _) hx;exact j9W _ _ _ _ (by omega) n8
 ·rw [hB,JZ];omega
 rw [hB];intro x hx;obtain ⟨i,_,_,rfl⟩:=j1l (kb _) hx;exact j9X _ _ _
end GenT
namespace By
open Go Tab
open GenT (jj down JZ j1l)
open RefS (num j2)
open GenG (J9 j0e)
open Cd (ji J0 jP)
theorem jfj:∀ n:Nat,n < 4->GenD.j1F (n:Int) < 18446744073709551616:=by decide +kernel
theorem mul_lt:∀ n:Nat,n < 4->∀ m:Nat,m < 3->GenD.j3u (n:Int) (m:Int) < 18446744073709551616:=by decide +kernel
theorem jbC:∀ n:Nat,n < 6->Fl.ofB n < 18446744073709551616:=by decide +kernel
theorem jd4 (L:List Int) (i n:Int):jaZ (GenD.Jq L i n):=by
 have a:=j2 L (i+1) 4 (by omega);have b:=j2 L (i+2) 3 (by omega);have c:=j2 L (i+3) 4 (by omega);have d:=j2 L (i+4) 6 (by omega);obtain ⟨x,hx⟩:∃ x:Nat,num L (i+1) 4=x:=⟨(num L (i+1) 4).toNat,by omega⟩;obtain ⟨y,hy⟩:∃ y:Nat,num L (i+2) 3=y:=⟨(num L (i+2) 3).toNat,by omega⟩;unfold jaZ GenD.Jq;simp only;rw [hx,hy];exact ⟨jfj x (by omega),mul_lt x (by omega) y (by omega),jbC _ (by omega),jbC _ (by omega)⟩
theorem j3Y (L:List Int):(jj L).dets=down (fun i:Nat=>GenD.Jq L (180+8*i) (J9 L)) (num L 175 9).toNat (num L 175 9).toNat:=by unfold jj;split <;> rfl
theorem jd5 (L:List Int):jb0 (jj L):=fun d hd=>by
 rw [j3Y] at hd;obtain ⟨i,_,_,rfl⟩:=j1l (kb _) hd;exact jd4 L _ _
theorem j9Y (L:List Int) (h:j7j (jj L)):(jP (J0 (jj L))).length<=1000:=by
 have hd:(jj L).dets.length<=8:=by
  rw [j3Y,JZ];have:=j2 L 175 9 (by omega);omega
 have hm:=GenT.j95 L;generalize jj L=T at *;unfold May.jZ at hm;simp only [ky,j7m] at hm;obtain ⟨_,⟨h1,h2⟩,_,_,⟨h4,_⟩,⟨h5,_⟩,_⟩:=hm;have e1:=Cd.j1f T.phases (f:=Cd.phB) (n:=22) (fun x _=>by rw [Cd.j8x];exact kb _)
 have e2:=Cd.j05 T.groups (f:=Cd.grB) (n:=18) (fun y hy=>by
  have:=h2 y hy;unfold May.jQ May.j02 at this;simp only [ky,decide_eq_true_eq] at this;unfold Cd.grB;rw [kl,Cd.j2Q,Cd.j2Q];omega)
 have e3:=Cd.j05 T.dets (f:=Cd.JE) (n:=37) (fun x _=>by rw [Cd.j6O];exact kb _);have e4:=Cd.j05 T.rails (f:=Cd.rlB) (n:=20) (fun x _=>by rw [Cd.j8y];exact kb _);have e5:=Cd.j05 T.buses (f:=Cd.bsB) (n:=3) (fun x _=>by rw [Cd.j8z];exact kb _);unfold jP J0 Cd.JK;simp only [kl,Cd.Jw,kH,List.length_nil,Put.jE];have:=h.p;have:=h.c;have:=h.f;omega
end By
end Go.Proofs.YtonpphjleapafaaGreat
