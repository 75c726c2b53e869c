/- 18 texts in one file, in build order. -/
import Derived.Test.YtonpphjleapafaaGreatPart01
import Derived.Test.YtonpphjleapafaaGreatRows
import Derived.Test.YtonpphjleapafaaGreatPart03
import Derived.Deep.Cut
import Derived.LoopTactic
import Derived.Test.YtonpphjleapafaaGreatPart04
import Derived.Great.BuildSlice
import Derived.Test.YtonpphjleapafaaGreatPart02
import Derived.Deep.CutRange
import Derived.Below
import Derived.Deep.Slices
import Derived.ChangeSame
import Derived.Laws.Cover2
import Derived.Laws.Rows
import Derived.Laws.Tables
import Derived.Laws.CopyOwn
set_option linter.unusedVariables false
set_option linter.unusedSimpArgs false
set_option linter.unusedSectionVars false
set_option maxHeartbeats 8000000
set_option maxRecDepth 100000
open List renaming setIfInBounds_toArray→k0, set_cons_zero→k3, set_cons_succ→k4, take_succ_cons→k7, drop_succ_cons→k8, getElem?_toArray→ka, drop_zero→kc, getElem?_eq_getElem→kd, take_zero→kg, mem_of_getElem?→ko, getElem?_map→kp, length_map→kv, map_append→kz, nodup_cons→kC, getD_eq_getElem?_getD→kF, getElem?_eq_some_iff→kH, getElem?_set→kI, map_cons→kK, map_toArray→kL, take_of_length_le→kN, ext_getElem?→kQ, map_nil→kS, mem_cons→kX, mem_map→kZ
open Go.Act renaming put→k2
open Go.BigFrame renaming wpList_want→k5
open Go.Value renaming pointer→k6, int→km, slice→kq, oneCell'→kG, bool→kW
open Array renaming all_eq_true_iff_forall_mem→k9, getElem?_eq_some_iff→ky
open Go.RowKit.Below renaming refl→kb, alloc→K4
open Go.Addr renaming add_mid→ke, add→K3
open Nat renaming zero_add→kf, le_refl→kj, le_trans→kw
open Bool renaming true_eq_false→kh, not_false→ku, not_true→kx
open Go.AllReadyH renaming cons→ki, nil→kk
open Go.IntKind renaming wrap_i64→kl, i64→ks
open Go.World renaming alloc→kn, block_lt_of_cell?→kr, shape?→kT, setRow→K0
open Int renaming max_def→kt, natCast_add→kV
open Option.some renaming inj→kA
open Go.Lib renaming hid→kE
open Go.Value.slice renaming injEq→kJ
open Or renaming inl→kM
open Classical renaming choose_spec→kO
open Go.World.grownBy renaming refl→kP
open List.cons renaming injEq→kU
open Go.Exit renaming inBlock→kY
open Go.DataW renaming trod→K5
open Go renaming cell_of_row→K6, frozen_of_row→K7, heap_alloc_new→K8, wpAnyH_ready→K9, wp_append_own→Ka, wpAnyH_done→Kc, wpList_plain→Ke, wp_region_held→Kf, setRow_other→Kh, wpList_append_own→Ki, info_parts→Kj, setRow_heap→Kk, heap_alloc2_old→Kl, heap_alloc2_new→Km, zero_of_info→Kn
namespace Go.Proofs.YtonpphjleapafaaGreat
namespace GenG
open Zip
open Go.ChangeShapes Go.WideShapes Go.ChangeAt Go.RowKit
open Tab Gath
open RefS (num jb j2 jn)
def Mid (Bg:Nat) (w1:World) (p m n:Nat) (k:Nat) (s:Value) (W:World):Prop :=
 (k=0/\s=.int .i64 p/\G0 Bg w1 none 0 p 0 W)\/(k=1/\s=.int .i64 (p+m:Nat)/\∃ a c,G0 Bg w1 a c p m W)\/(k=2/\s=.int .i64 (p+m+n:Nat)/\∃ a c a1 c1 B1,G1 Bg w1 B1 a c p m a1 c1 n W)
theorem jbD (tb:Nat) (a:Option Addr) (cap:Nat) (L:List Int) (cs:List Value) (w:World) (hb:w.heap[tb]?=some (.cells cs.toArray 33 (0,0))) (hc:cs.length=131) (h104:cs[104]?=some (.slice none 0 0))
  (HL:Hid (∀ W,w.grownBy W (some tb)->jc W ⟨a,cap⟩ L)) :
  Calls Tryz.prog 33 #[.pointer (some ⟨tb,0,none⟩),.slice a L.length cap] w fun e w'=>∃ ga gc gs,e=.returned (.int .i64 (J9 L:Nat))/\gs.map Gr.data=j13 L/\GS w tb cs ga gc (j0e L) gs w':=by
 obtain ⟨hG1,hG3⟩:=j0T L;have UP:=hJJ (j8S L (j0e L) hG3)
 have ST:Hid (GS w tb cs none 0 0 [] w):=hJJ (by
  refine ⟨kP _ _,?_,jd.nil,rfl,fun x hx=>by simp at hx⟩;rw [hb]
  have:cs.set 104 (.slice none 0 0)=cs:=by
   apply kQ;intro j;rw [kI];split
   ·rename_i e;subst e;rw [h104];simp [hc]
   rfl
  rw [this])
 have N0:Hid (J9 L=(jw L (j0e L) (j0e L)).2):=hJJ rfl;have D0:Hid (j13 L=(jw L (j0e L) (j0e L)).1):=hJJ rfl;have E0:Hid ((1+num L 0 3).toNat=j0e L/\0<=num L 0 3/\num L 0 3 < 3):=hJJ ⟨rfl,j2 L 0 3 (by omega)⟩;generalize J9 L=rn at N0 |-;generalize j13 L=rg at D0 |-;generalize j0e L=G at *;obtain ⟨i0,hi,hz0,hz1,hz2⟩:=Kj RefS.j1E;obtain ⟨j0,hj,hy0,hy1,hy2⟩:=Kj j87;have hz:=(Kn jem).1;clear hb h104;go_enter Tryz.func33,Tryz.ntmps33
 go_wp2_with fail
 refine (j4i a cap L _ 0 3 (by go_num) w (HL.out _ (kP _ _)) (by go_num) (by omega) (by omega)).mono ?_;rintro e w' ⟨rfl,rfl⟩;obtain ⟨e0,e1,e2⟩:=E0.out;have E3:Hid (1+num L 0 3=(G:Int)):=hJJ (by omega);clear e0;generalize num L 0 3=x0 at *;go_upto_region 2 with fail
 rw [E3.out];clear e1 e2;go_wp2_with fail
 go_loopw [6,7] (fun s i wr=>∃ g:Nat,g<=G/\i=.int .i64 g/\s=.int .i64 ((jw L G g).2:Nat)/\∃ ga gc gs,gs.map Gr.data=(jw L G g).1/\GS w tb cs ga gc g gs wr) (fun _ i _=>G - (intOf i).toNat)
 case atStart=>exact ⟨0,by omega,rfl,rfl,none,0,[],rfl,ST.out⟩
 case round =>
  obtain ⟨g,hg,rfl,rfl,ga,gc,gs,hdata,hgs⟩:=hrel;have HS:=hJJ hgs;have HD:=hJJ hdata;clear hgs hdata;rename World=>wg
  by_cases hlt:g < G
  ·have hp8:=UP.out g (by omega);have UN:Hid (jw L G (g+1)=((jw L G g).1++[j9G L G g (jw L G g).2],(jw L G g).2+n0 L G g (jw L G g).2+n1 L G g (jw L G g).2)):=hJJ rfl;have hp9:(jw L G g).2+n0 L G g (jw L G g).2+n1 L G g (jw L G g).2<=8:=UP.out (g+1) (by omega);have GD:Hid (j9G L G g (jw L G g).2=(seg (jw L G g).2 (n0 L G g (jw L G g).2),seg ((jw L G g).2+n0 L G g (jw L G g).2) (n1 L G g (jw L G g).2))):=hJJ rfl;have N1:Hid (n1 L G g (jw L G g).2=min (j3L L g (n0 L G g (jw L G g).2)) (lim G g - ((jw L G g).2+n0 L G g (jw L G g).2))):=hJJ rfl;have N0':Hid (n0 L G g (jw L G g).2=min (j3K L g) (lim G g - (jw L G g).2)):=hJJ rfl;generalize (jw L G g).2=p at *;generalize n0 L G g p=m at *;generalize n1 L G g p=n at *;have W0:=hJJ (j4W L g);have W1:=hJJ (j4X L g m);have LM:Hid (lim G g=9+g - G):=hJJ rfl;have X0:Hid (num L (1+2*g) 3=((j3K L g:Nat):Int)):=hJJ (by have:=j2 L (1+2*g) 3 (by omega);unfold j3K;omega);have HLW:Hid (∀ W,Below wg.heap.size wg W->jc W ⟨a,cap⟩ L):=hJJ (fun W hb=>HL.out W (HS.out.step hb).gb);have Z0:Hid (G0 wg.heap.size wg none 0 p 0 (wg.alloc (.cells #[.slice none 0 0,.slice none 0 0] 68))):=hJJ ⟨(kb _ _).alloc (kj _) _,K8 wg _,jd.nil⟩;have BS:Hid (∀ a c W,G0 wg.heap.size wg a c p m W->wg.heap.size+1<=W.heap.size):=hJJ (fun a c W h=>(ky.1 h.box).1);go_upto_region 7 with fail
   generalize wg.alloc (.cells #[.slice none 0 0,.slice none 0 0] 68)=w2 at Z0 |-;generalize hBg:wg.heap.size=Bg at *;go_wp2_with fail
   go_loopw [6,9] (fun s k wk=>∃ q:Nat,q<=2/\k=.int .i64 q/\Mid Bg wg p m n q s wk) (fun _ k _=>2 - (intOf k).toNat)
   case atStart=>exact ⟨0,by omega,rfl,.inl ⟨rfl,rfl,Z0.out⟩⟩
   case round =>
    obtain ⟨q,hq,rfl,hmid⟩:=hrel;rcases hmid with ⟨rfl,rfl,hm⟩ | ⟨rfl,rfl,a0,c0,hm⟩ | ⟨rfl,rfl,a0,c0,a1,c1,B1,hm⟩
    ·have HM:=hJJ hm;clear hm;rw [show ((0:Nat):Int)=(0:Int) from rfl];go_wp2_with fail
     refine (j4i a cap L _ (1+2*g) 3 (by go_num) wr (HLW.out _ HM.out.bel) (by go_num) (by omega) (by omega)).mono ?_;rintro e w' ⟨rfl,rfl⟩;rw [X0.out];generalize j3K L g=v at *;go_wp2_with fail
     go_loopw [6,11] (fun s i wk=>∃ j:Nat,j<=m/\i=.int .i64 j/\s=.int .i64 (p+j:Nat)/\∃ aa cc,G0 Bg wg aa cc p j wk) (fun _ i _=>m - (intOf i).toNat)
     case atStart=>exact ⟨0,by omega,by go_num,by go_num,_,_,HM.out⟩
     case round =>
      obtain ⟨j,hj,rfl,rfl,aa,cc,hm⟩:=hrel;have HM:=hJJ hm;clear hm;by_cases hjl:j < m
      ·have h1:(j:Int) < (v:Int):=by have:=N0'.out;omega
       have h2:((p+j:Nat):Int) < 8 - ((G:Int) - 1 - g):=by have:=N0'.out;have:=LM.out;omega
       have c8:wr.cell? ⟨Bg,0,none⟩=some (.slice aa j cc):=by rw [K6 _ _ _ _ _ _ HM.out.box];rfl
       have hsz:Bg+1<=wr.heap.size:=(ky.1 HM.out.box).1;have hown2:wr.ownsRow (Bg+1) 3 1 (.slice aa j cc) j ((seg (p) j).flatMap (fun n=>[I n])):=by have:=HM.out.own;unfold jd at this;rw [JQ] at this;exact this
       go_wp2_with (at_builtin;refine Ki _ rfl _ _ 42 rfl (Bg+1) 3 i0 (.int .i64 0) 1 8 Tryz.underlying42 hi hz0 hz1 hz2 rfl (by decide) _ _ _ rfl (hown2.alloc _) ⟨wr.heap.size,0,none⟩ 1 1 [.int .i64 ((p+j:Nat):Int)] rfl rfl ?c1 ?c2 ?c3 ?c4 ?c5 ?_)
       case c1 =>
        intro m q hm
        match m,hm with
        | 0,hm=>simp at hm;subst hm;simp [K3]
       case c2=>intro q hq;simp at hq;subst hq;rfl
       case c3=>unfold maxLen;omega
       case c4=>omega
       case c5=>simp;omega
       intro v' w3 hown' hgrow hnil';obtain ⟨hbx,a',c',rfl,hG⟩:=(HM.out.step ((kb _ _).alloc (kj _) _) (by omega)).put (by simp;omega) hgrow hown';have c3:w3.cell? ⟨Bg,0,none⟩=some (.slice aa j cc):=by rw [K6 _ _ _ _ _ _ hbx];rfl
       have f3:w3.frozen? ⟨Bg,0,none⟩=false:=K7 _ _ _ _ _ hbx;have HG:=hJJ hG;clear hown' hgrow hown2 hnil' hbx hG HM;go_wp2;go_roundw;case rel=>exact ⟨j+1,by omega,by go_num,by go_num,a',c',HG.out⟩
       case measure=>simp [intOf];omega
      have hje:j=m:=by omega
      by_cases h1:(j:Int) < (v:Int)
      ·have h2:¬ ((p+j:Nat):Int) < 8 - ((G:Int) - 1 - g):=by have:=N0'.out;have:=LM.out;omega
       go_wp2;go_roundw;case rel=>exact ⟨1,by omega,by go_num,.inr (.inl ⟨rfl,by (try rw [hje]);go_num,aa,cc,by have:=HM.out;rw [hje] at this;exact this⟩)⟩
       case measure=>simp [intOf]
      go_wp2;go_roundw;case rel=>exact ⟨1,by omega,by go_num,.inr (.inl ⟨rfl,by (try rw [hje]);go_num,aa,cc,by have:=HM.out;rw [hje] at this;exact this⟩)⟩
      case measure=>simp [intOf]
    ·have HM:=hJJ hm;have hb1:=BS.out _ _ _ hm;clear hm;rw [show ((1:Nat):Int)=(1:Int) from rfl];have HM1:=hJJ (HM.out.next);generalize hB1:wr.heap.size=B1 at *;have c80:wr.cell? ⟨Bg,0,none⟩=some (.slice a0 m c0):=by rw [K6 _ _ _ _ _ _ HM.out.box];rfl
     go_wp2_with fail
     refine (j4i a cap L _ (2+2*g) 3 (by go_num) wr (HLW.out _ HM.out.bel) (by go_num) (by omega) (by omega)).mono ?_;rintro e w' ⟨rfl,rfl⟩;have hx1:=j2 L (2+2*g) 3 (by omega);have WQ:Hid (j3L L g m=if num L (2+2*g) 3=0/\m=0 then 1 else (num L (2+2*g) 3).toNat):=hJJ rfl;generalize num L (2+2*g) 3=x1 at *;generalize j3L L g m=v at *;clear hB1 HM;by_cases hx0:x1=0
     ·subst hx0;by_cases hm0:m=0
      ·have hv:v=1:=by rw [WQ.out];simp [hm0]
       subst hm0;subst hv;clear WQ;go_wp2_with fail
       go_loopw [6,11] (fun s i wk=>∃ j:Nat,j<=n/\i=.int .i64 j/\s=.int .i64 ((p+0)+j:Nat)/\∃ aa cc,G1 Bg wg B1 a0 c0 p 0 aa cc j wk) (fun _ i _=>n - (intOf i).toNat)
       case atStart=>exact ⟨0,by omega,by go_num,by go_num,_,_,HM1.out⟩
       case round =>
        obtain ⟨j,hj,rfl,rfl,aa,cc,hm⟩:=hrel;have HM:=hJJ hm;clear hm;by_cases hjl:j < n
        ·have h1:(j:Int) < 1:=by have:=N1.out;omega
         have h2:(((p+0)+j:Nat):Int) < 8 - ((G:Int) - 1 - g):=by have:=N1.out;have:=LM.out;omega
         have c8:wr.cell? ⟨Bg,1,none⟩=some (.slice aa j cc):=by rw [K6 _ _ _ _ _ _ HM.out.box];rfl
         have hsz:B1<=wr.heap.size:=HM.out.sz;have hown2:wr.ownsRow (B1) 3 1 (.slice aa j cc) j ((seg ((p+0)) j).flatMap (fun n=>[I n])):=by have:=HM.out.own1;unfold jd at this;rw [JQ] at this;exact this
         go_wp2_with (at_builtin;refine Ki _ rfl _ _ 42 rfl (B1) 3 i0 (.int .i64 0) 1 8 Tryz.underlying42 hi hz0 hz1 hz2 rfl (by decide) _ _ _ rfl (hown2.alloc _) ⟨wr.heap.size,0,none⟩ 1 1 [.int .i64 (((p+0)+j:Nat):Int)] rfl rfl ?c1 ?c2 ?c3 ?c4 ?c5 ?_)
         case c1 =>
          intro m q hm
          match m,hm with
          | 0,hm=>simp at hm;subst hm;simp [K3]
         case c2=>intro q hq;simp at hq;subst hq;rfl
         case c3=>unfold maxLen;omega
         case c4=>omega
         case c5=>simp;omega
         intro v' w3 hown' hgrow hnil';obtain ⟨hbx,a',c',rfl,hG⟩:=(HM.out.step ((kb _ _).alloc (kj _) _) (by omega)).put (by omega) (by simp;omega) hgrow hown';have c3:w3.cell? ⟨Bg,1,none⟩=some (.slice aa j cc):=by rw [K6 _ _ _ _ _ _ hbx];rfl
         have f3:w3.frozen? ⟨Bg,1,none⟩=false:=K7 _ _ _ _ _ hbx;have HG:=hJJ hG;clear hown' hgrow hown2 hnil' hbx hG HM;go_wp2;go_roundw;case rel=>exact ⟨j+1,by omega,by go_num,by go_num,a',c',HG.out⟩
         case measure=>simp [intOf];omega
        have hje:j=n:=by omega
        by_cases h1:(j:Int) < 1
        ·have h2:¬ (((p+0)+j:Nat):Int) < 8 - ((G:Int) - 1 - g):=by have:=N1.out;have:=LM.out;omega
         go_wp2;go_roundw;case rel=>exact ⟨2,by omega,by go_num,.inr (.inr ⟨rfl,by (try rw [hje]);go_num,a0,c0,aa,cc,B1,by have:=HM.out;rw [hje] at this;exact this⟩)⟩
         case measure=>simp [intOf]
        go_wp2;go_roundw;case rel=>exact ⟨2,by omega,by go_num,.inr (.inr ⟨rfl,by (try rw [hje]);go_num,a0,c0,aa,cc,B1,by have:=HM.out;rw [hje] at this;exact this⟩)⟩
        case measure=>simp [intOf]
      have hv:v=0:=by rw [WQ.out];simp [hm0]
      have hmb:((m:Int) == 0)=false:=by rw [beq_eq_false_iff_ne];omega
      subst hv;clear WQ;go_wp2_with fail
      clear hmb hm0;go_loopw [6,11] (fun s i wk=>∃ j:Nat,j<=n/\i=.int .i64 j/\s=.int .i64 ((p+m)+j:Nat)/\∃ aa cc,G1 Bg wg B1 a0 c0 p m aa cc j wk) (fun _ i _=>n - (intOf i).toNat)
      case atStart=>exact ⟨0,by omega,by go_num,by go_num,_,_,HM1.out⟩
      case round =>
       obtain ⟨j,hj,rfl,rfl,aa,cc,hm⟩:=hrel;have HM:=hJJ hm;clear hm;by_cases hjl:j < n
       ·exfalso;have:=N1.out;omega
       have hje:j=n:=by omega
       by_cases h1:(j:Int) < 0
       ·exfalso;omega
       go_wp2;go_roundw;case rel=>exact ⟨2,by omega,by go_num,.inr (.inr ⟨rfl,by (try rw [hje]);go_num,a0,c0,aa,cc,B1,by have:=HM.out;rw [hje] at this;exact this⟩)⟩
       case measure=>simp [intOf]
     have hv:x1=(v:Int):=by have:=WQ.out;rw [if_neg (fun e=>hx0 e.1)] at this;omega
     have hmb:(x1 == 0)=false:=by rw [beq_eq_false_iff_ne];exact hx0
     clear WQ;go_wp2_with fail
     subst hv;clear hmb hx0 hx1;go_loopw [6,11] (fun s i wk=>∃ j:Nat,j<=n/\i=.int .i64 j/\s=.int .i64 ((p+m)+j:Nat)/\∃ aa cc,G1 Bg wg B1 a0 c0 p m aa cc j wk) (fun _ i _=>n - (intOf i).toNat)
     case atStart=>exact ⟨0,by omega,by go_num,by go_num,_,_,HM1.out⟩
     case round =>
      obtain ⟨j,hj,rfl,rfl,aa,cc,hm⟩:=hrel;have HM:=hJJ hm;clear hm;by_cases hjl:j < n
      ·have h1:(j:Int) < (v:Int):=by have:=N1.out;omega
       have h2:(((p+m)+j:Nat):Int) < 8 - ((G:Int) - 1 - g):=by have:=N1.out;have:=LM.out;omega
       have c8:wr.cell? ⟨Bg,1,none⟩=some (.slice aa j cc):=by rw [K6 _ _ _ _ _ _ HM.out.box];rfl
       have hsz:B1<=wr.heap.size:=HM.out.sz;have hown2:wr.ownsRow (B1) 3 1 (.slice aa j cc) j ((seg ((p+m)) j).flatMap (fun n=>[I n])):=by have:=HM.out.own1;unfold jd at this;rw [JQ] at this;exact this
       go_wp2_with (at_builtin;refine Ki _ rfl _ _ 42 rfl (B1) 3 i0 (.int .i64 0) 1 8 Tryz.underlying42 hi hz0 hz1 hz2 rfl (by decide) _ _ _ rfl (hown2.alloc _) ⟨wr.heap.size,0,none⟩ 1 1 [.int .i64 (((p+m)+j:Nat):Int)] rfl rfl ?c1 ?c2 ?c3 ?c4 ?c5 ?_)
       case c1 =>
        intro m q hm
        match m,hm with
        | 0,hm=>simp at hm;subst hm;simp [K3]
       case c2=>intro q hq;simp at hq;subst hq;rfl
       case c3=>unfold maxLen;omega
       case c4=>omega
       case c5=>simp;omega
       intro v' w3 hown' hgrow hnil';obtain ⟨hbx,a',c',rfl,hG⟩:=(HM.out.step ((kb _ _).alloc (kj _) _) (by omega)).put (by omega) (by simp;omega) hgrow hown';have c3:w3.cell? ⟨Bg,1,none⟩=some (.slice aa j cc):=by rw [K6 _ _ _ _ _ _ hbx];rfl
       have f3:w3.frozen? ⟨Bg,1,none⟩=false:=K7 _ _ _ _ _ hbx;have HG:=hJJ hG;clear hown' hgrow hown2 hnil' hbx hG HM;go_wp2;go_roundw;case rel=>exact ⟨j+1,by omega,by go_num,by go_num,a',c',HG.out⟩
       case measure=>simp [intOf];omega
      have hje:j=n:=by omega
      by_cases h1:(j:Int) < (v:Int)
      ·have h2:¬ (((p+m)+j:Nat):Int) < 8 - ((G:Int) - 1 - g):=by have:=N1.out;have:=LM.out;omega
       go_wp2;go_roundw;case rel=>exact ⟨2,by omega,by go_num,.inr (.inr ⟨rfl,by (try rw [hje]);go_num,a0,c0,aa,cc,B1,by have:=HM.out;rw [hje] at this;exact this⟩)⟩
       case measure=>simp [intOf]
      go_wp2;go_roundw;case rel=>exact ⟨2,by omega,by go_num,.inr (.inr ⟨rfl,by (try rw [hje]);go_num,a0,c0,aa,cc,B1,by have:=HM.out;rw [hje] at this;exact this⟩)⟩
      case measure=>simp [intOf]
    have HM:=hJJ hm;clear hm;rw [show ((2:Nat):Int)=(2:Int) from rfl];have HG1:=hJJ (HS.out.step (show Below wg.heap.size wg wr by rw [hBg];exact HM.out.bel));go_upto_region 18 with fail
    refine Kf (S:=fun _=>True) (by kernel_rfl) ?_;have hS:True:=trivial;have hgs:GS w tb cs ga gc g gs { wr with drawn:=wr.drawn+1 }:=HG1.out.step (kb _ _).drew;have hg1:G1 Bg wg B1 a0 c0 p m a1 c1 n { wr with drawn:=wr.drawn+1 }:=HM.out.step (kb _ _).drew (by rw [<-hBg];exact HM.out.bel.size);generalize ({ wr with drawn:=wr.drawn+1 }:World)=v at hgs hg1 |-;clear HG1 HM HS;refine tkZ 0 67 ?_ rfl ?_ hS ?_;rotate_left
    ·intro w' hw';go_simp
     try with_reducible rfl
    (try dsimp only [k2]);(try simp only [zA,zB,zC])
    refine tkZ 1 68 ?_ rfl ?_ hS ?_;rotate_left
    ·intro w' hw';go_simp
     try with_reducible rfl
    (try dsimp only [k2]);(try simp only [zA,zB,zC])
    refine tkZ 2 69 ?_ rfl ?_ hS ?_;rotate_left
    ·intro w' hw';go_simp
     try with_reducible rfl
    (try dsimp only [k2]);(try simp only [zA,zB,zC])
    refine tkZ 3 70 ?_ rfl ?_ hS ?_;rotate_left
    ·intro w' hw';go_simp
     try with_reducible rfl
    (try dsimp only [k2]);(try simp only [zA,zB,zC])
    refine j1d 4 5 rfl rfl (fun K hK=>?_) (fun K hK=>?_)
    ·have c4:v.cell? ⟨tb,104,none⟩=some (.slice ga g gc):=by rw [K6 _ _ _ _ _ _ hgs.tbk];simp [hc]
     go_simp
     refine hK.out _ _ trivial (fun _=>?_);clear hK K c4;refine rdZ 5 rfl (fun K hK=>?_);rw [if_pos (by rfl)];refine Row.Ji 68 _ rfl ⟨Bg,0,none⟩ rfl [.slice a0 m c0,.slice a1 n c1] _ (Row.j1 hg1.box) Tryz.underlying68 rfl jbb ?_
     (try dsimp only [k2]);(try simp only [zA,zB,zC])
     refine hK.out _ _ trivial (fun _=>?_);clear hK K;refine rdZ 6 rfl (fun K hK=>?_);go_simp
     have hbw:Below v.heap.size v (v.alloc (.cells #[.slice a0 m c0,.slice a1 n c1] 68)):=(kb _ _).alloc (kj _) _;have hN:=K8 v (.cells #[.slice a0 m c0,.slice a1 n c1] 68);replace hgs:=hgs.step hbw;replace hg1:=hg1.step hbw (by have:=hg1.bel.size;omega);clear hbw;generalize hbn:v.heap.size=bn at hN |-;clear hbn;generalize kn v (.cells #[.slice a0 m c0,.slice a1 n c1] 68)=v at hgs hg1 hN |-;refine hK.out _ _ trivial (fun _=>?_);clear hK K;refine rdZ 7 rfl (fun K hK=>?_);rw [if_pos (by rfl)];have hown2:v.ownsRow w.heap.size 68 2 (.slice ga g gc) g (gs.flatMap Gr.cells):=by have:=hgs.own;unfold jd at this;rw [hgs.len] at this;exact this
     refine Ka _ _ _ _ rfl w.heap.size 68 j0 (.agg #[.slice none 0 0,.slice none 0 0]) 2 48 Tryz.underlying27 hj hy0 hy1 hy2 rfl (by decide) (.slice ga g gc) g _ rfl hown2 ⟨bn,0,none⟩ 1 1 [.slice a0 m c0,.slice a1 n c1] rfl rfl ?c1 ?c2 ?c3 ?c4 hgs.gb.size ?_
     case c1 =>
      intro j e hj
      match j,hj with
      | 0,hj=>simp at hj;subst hj;rw [Tab.add_zero,K6 _ _ _ _ _ _ hN];rfl
      | 1,hj=>simp at hj;subst hj;rw [Tab.add_one,K6 _ _ _ _ _ _ hN];rfl
     case c2=>intro e he;simp at he;rcases he with rfl | rfl <;> rfl
     case c3=>unfold maxLen;omega
     case c4=>omega
     intro v' w5 hown' hgrow hnil'
     have hx:j0y v ⟨a0,c0⟩ (seg p m)/\j0y v ⟨a1,c1⟩ (seg (p+m) n):=by
      obtain ⟨s0,e0,r0⟩:=jY hg1.own;obtain ⟨s1,e1,r1⟩:=jY hg1.own1;simp only [kJ] at e0 e1;obtain ⟨s0a,s0c⟩:=s0;obtain ⟨s1a,s1c⟩:=s1;obtain ⟨rfl,_,rfl⟩:=e0;obtain ⟨rfl,_,rfl⟩:=e1;exact ⟨r0,r1⟩
     obtain ⟨hbx,a',c',rfl,hG⟩:=hgs.put ⟨seg p m,seg (p+m) n,⟨a0,c0⟩,⟨a1,c1⟩⟩ hx hgrow hc (by rw [show (Gr.mk (seg p m) (seg (p+m) n) ⟨a0,c0⟩ ⟨a1,c1⟩).cells=[.slice a0 m c0,.slice a1 n c1] from by simp [Gr.cells,Sl.val,JQ]];exact hown');have c104:w5.cell? ⟨tb,104,none⟩=some (.slice ga g gc):=by rw [K6 _ _ _ _ _ _ hbx];simp [hc]
     have f104:w5.frozen? ⟨tb,104,none⟩=false:=K7 _ _ _ _ _ hbx;have HG:=hJJ hG;clear hown' hgrow hown2 hnil' hbx hG hgs hg1 hN hx;refine hK.out _ _ trivial (fun _=>?_);clear hK K;refine tkZ 8 75 ?_ rfl ?_ hS ?_;rotate_left
     ·intro w' hw';go_simp
      try with_reducible rfl
     (try dsimp only [k2]);(try simp only [zA,zB,zC])
     refine tkZ 9 76 ?_ rfl ?_ hS ?_;rotate_left
     ·intro w' hw';go_simp
      try with_reducible rfl
     (try dsimp only [k2]);(try simp only [zA,zB,zC])
     refine rdZ 10 rfl (fun K hK=>?_);go_simp
     refine hK.out _ _ trivial (fun _=>?_);clear hK K;refine Kc (by kernel_rfl) ?_ _;have HE:Hid (jw L G (g+1)=((jw L G g).1++[(seg p m,seg (p+m) n)],p+m+n)):=hJJ (by rw [UN.out,GD.out]);have HD2:Hid ((gs++[Gr.mk (seg p m) (seg (p+m) n) ⟨a0,c0⟩ ⟨a1,c1⟩]).map Gr.data=(jw L G (g+1)).1):=hJJ (by rw [kz,HD.out,HE.out];simp [Gr.data]);have HP2:Hid ((jw L G (g+1)).2=p+m+n):=hJJ (by rw [HE.out]);clear hS c104 f104;go_wp2;go_roundw;case rel=>exact ⟨g+1,by omega,by go_num,by rw [HP2.out];go_num,a',c',_,HD2.out,HG.out⟩
     case measure=>simp [intOf];omega
    rw [if_pos (by rfl)];refine Row.Ji 68 _ rfl ⟨Bg,0,none⟩ rfl [.slice a0 m c0,.slice a1 n c1] _ (Row.j1 hg1.box) Tryz.underlying68 rfl jbb ?_
    (try dsimp only [k2]);(try simp only [zA,zB,zC])
    refine hK.out _ _ trivial (fun _=>?_);clear hK K;refine j1d 4 6 rfl rfl (fun K hK=>?_) (fun K hK=>?_)
    ·have c4:v.cell? ⟨tb,104,none⟩=some (.slice ga g gc):=by rw [K6 _ _ _ _ _ _ hgs.tbk];simp [hc]
     go_simp
     refine hK.out _ _ trivial (fun _=>?_);clear hK K c4;refine rdZ 6 rfl (fun K hK=>?_);go_simp
     have hbw:Below v.heap.size v (v.alloc (.cells #[.slice a0 m c0,.slice a1 n c1] 68)):=(kb _ _).alloc (kj _) _;have hN:=K8 v (.cells #[.slice a0 m c0,.slice a1 n c1] 68);replace hgs:=hgs.step hbw;replace hg1:=hg1.step hbw (by have:=hg1.bel.size;omega);clear hbw;generalize hbn:v.heap.size=bn at hN |-;clear hbn;generalize kn v (.cells #[.slice a0 m c0,.slice a1 n c1] 68)=v at hgs hg1 hN |-;refine hK.out _ _ trivial (fun _=>?_);clear hK K;refine rdZ 7 rfl (fun K hK=>?_);rw [if_pos (by rfl)];have hown2:v.ownsRow w.heap.size 68 2 (.slice ga g gc) g (gs.flatMap Gr.cells):=by have:=hgs.own;unfold jd at this;rw [hgs.len] at this;exact this
     refine Ka _ _ _ _ rfl w.heap.size 68 j0 (.agg #[.slice none 0 0,.slice none 0 0]) 2 48 Tryz.underlying27 hj hy0 hy1 hy2 rfl (by decide) (.slice ga g gc) g _ rfl hown2 ⟨bn,0,none⟩ 1 1 [.slice a0 m c0,.slice a1 n c1] rfl rfl ?c1 ?c2 ?c3 ?c4 hgs.gb.size ?_
     case c1 =>
      intro j e hj
      match j,hj with
      | 0,hj=>simp at hj;subst hj;rw [Tab.add_zero,K6 _ _ _ _ _ _ hN];rfl
      | 1,hj=>simp at hj;subst hj;rw [Tab.add_one,K6 _ _ _ _ _ _ hN];rfl
     case c2=>intro e he;simp at he;rcases he with rfl | rfl <;> rfl
     case c3=>unfold maxLen;omega
     case c4=>omega
     intro v' w5 hown' hgrow hnil'
     have hx:j0y v ⟨a0,c0⟩ (seg p m)/\j0y v ⟨a1,c1⟩ (seg (p+m) n):=by
      obtain ⟨s0,e0,r0⟩:=jY hg1.own;obtain ⟨s1,e1,r1⟩:=jY hg1.own1;simp only [kJ] at e0 e1;obtain ⟨s0a,s0c⟩:=s0;obtain ⟨s1a,s1c⟩:=s1;obtain ⟨rfl,_,rfl⟩:=e0;obtain ⟨rfl,_,rfl⟩:=e1;exact ⟨r0,r1⟩
     obtain ⟨hbx,a',c',rfl,hG⟩:=hgs.put ⟨seg p m,seg (p+m) n,⟨a0,c0⟩,⟨a1,c1⟩⟩ hx hgrow hc (by rw [show (Gr.mk (seg p m) (seg (p+m) n) ⟨a0,c0⟩ ⟨a1,c1⟩).cells=[.slice a0 m c0,.slice a1 n c1] from by simp [Gr.cells,Sl.val,JQ]];exact hown');have c104:w5.cell? ⟨tb,104,none⟩=some (.slice ga g gc):=by rw [K6 _ _ _ _ _ _ hbx];simp [hc]
     have f104:w5.frozen? ⟨tb,104,none⟩=false:=K7 _ _ _ _ _ hbx;have HG:=hJJ hG;clear hown' hgrow hown2 hnil' hbx hG hgs hg1 hN hx;refine hK.out _ _ trivial (fun _=>?_);clear hK K;refine tkZ 8 75 ?_ rfl ?_ hS ?_;rotate_left
     ·intro w' hw';go_simp
      try with_reducible rfl
     (try dsimp only [k2]);(try simp only [zA,zB,zC])
     refine tkZ 9 76 ?_ rfl ?_ hS ?_;rotate_left
     ·intro w' hw';go_simp
      try with_reducible rfl
     (try dsimp only [k2]);(try simp only [zA,zB,zC])
     refine rdZ 10 rfl (fun K hK=>?_);go_simp
     refine hK.out _ _ trivial (fun _=>?_);clear hK K;refine Kc (by kernel_rfl) ?_ _;have HE:Hid (jw L G (g+1)=((jw L G g).1++[(seg p m,seg (p+m) n)],p+m+n)):=hJJ (by rw [UN.out,GD.out]);have HD2:Hid ((gs++[Gr.mk (seg p m) (seg (p+m) n) ⟨a0,c0⟩ ⟨a1,c1⟩]).map Gr.data=(jw L G (g+1)).1):=hJJ (by rw [kz,HD.out,HE.out];simp [Gr.data]);have HP2:Hid ((jw L G (g+1)).2=p+m+n):=hJJ (by rw [HE.out]);clear hS c104 f104;go_wp2;go_roundw;case rel=>exact ⟨g+1,by omega,by go_num,by rw [HP2.out];go_num,a',c',_,HD2.out,HG.out⟩
     case measure=>simp [intOf];omega
    go_simp
    have hbw:Below v.heap.size v (v.alloc (.cells #[.slice a0 m c0,.slice a1 n c1] 68)):=(kb _ _).alloc (kj _) _;have hN:=K8 v (.cells #[.slice a0 m c0,.slice a1 n c1] 68);replace hgs:=hgs.step hbw;replace hg1:=hg1.step hbw (by have:=hg1.bel.size;omega);clear hbw;generalize hbn:v.heap.size=bn at hN |-;clear hbn;generalize kn v (.cells #[.slice a0 m c0,.slice a1 n c1] 68)=v at hgs hg1 hN |-;refine hK.out _ _ trivial (fun _=>?_);clear hK K;refine rdZ 4 rfl (fun K hK=>?_);have c4:v.cell? ⟨tb,104,none⟩=some (.slice ga g gc):=by rw [K6 _ _ _ _ _ _ hgs.tbk];simp [hc]
    go_simp
    refine hK.out _ _ trivial (fun _=>?_);clear hK K c4;refine rdZ 7 rfl (fun K hK=>?_);rw [if_pos (by rfl)];have hown2:v.ownsRow w.heap.size 68 2 (.slice ga g gc) g (gs.flatMap Gr.cells):=by have:=hgs.own;unfold jd at this;rw [hgs.len] at this;exact this
    refine Ka _ _ _ _ rfl w.heap.size 68 j0 (.agg #[.slice none 0 0,.slice none 0 0]) 2 48 Tryz.underlying27 hj hy0 hy1 hy2 rfl (by decide) (.slice ga g gc) g _ rfl hown2 ⟨bn,0,none⟩ 1 1 [.slice a0 m c0,.slice a1 n c1] rfl rfl ?c1 ?c2 ?c3 ?c4 hgs.gb.size ?_
    case c1 =>
     intro j e hj
     match j,hj with
     | 0,hj=>simp at hj;subst hj;rw [Tab.add_zero,K6 _ _ _ _ _ _ hN];rfl
     | 1,hj=>simp at hj;subst hj;rw [Tab.add_one,K6 _ _ _ _ _ _ hN];rfl
    case c2=>intro e he;simp at he;rcases he with rfl | rfl <;> rfl
    case c3=>unfold maxLen;omega
    case c4=>omega
    intro v' w5 hown' hgrow hnil'
    have hx:j0y v ⟨a0,c0⟩ (seg p m)/\j0y v ⟨a1,c1⟩ (seg (p+m) n):=by
     obtain ⟨s0,e0,r0⟩:=jY hg1.own;obtain ⟨s1,e1,r1⟩:=jY hg1.own1;simp only [kJ] at e0 e1;obtain ⟨s0a,s0c⟩:=s0;obtain ⟨s1a,s1c⟩:=s1;obtain ⟨rfl,_,rfl⟩:=e0;obtain ⟨rfl,_,rfl⟩:=e1;exact ⟨r0,r1⟩
    obtain ⟨hbx,a',c',rfl,hG⟩:=hgs.put ⟨seg p m,seg (p+m) n,⟨a0,c0⟩,⟨a1,c1⟩⟩ hx hgrow hc (by rw [show (Gr.mk (seg p m) (seg (p+m) n) ⟨a0,c0⟩ ⟨a1,c1⟩).cells=[.slice a0 m c0,.slice a1 n c1] from by simp [Gr.cells,Sl.val,JQ]];exact hown');have c104:w5.cell? ⟨tb,104,none⟩=some (.slice ga g gc):=by rw [K6 _ _ _ _ _ _ hbx];simp [hc]
    have f104:w5.frozen? ⟨tb,104,none⟩=false:=K7 _ _ _ _ _ hbx;have HG:=hJJ hG;clear hown' hgrow hown2 hnil' hbx hG hgs hg1 hN hx;refine hK.out _ _ trivial (fun _=>?_);clear hK K;refine tkZ 8 75 ?_ rfl ?_ hS ?_;rotate_left
    ·intro w' hw';go_simp
     try with_reducible rfl
    (try dsimp only [k2]);(try simp only [zA,zB,zC])
    refine tkZ 9 76 ?_ rfl ?_ hS ?_;rotate_left
    ·intro w' hw';go_simp
     try with_reducible rfl
    (try dsimp only [k2]);(try simp only [zA,zB,zC])
    refine rdZ 10 rfl (fun K hK=>?_);go_simp
    refine hK.out _ _ trivial (fun _=>?_);clear hK K;refine Kc (by kernel_rfl) ?_ _;have HE:Hid (jw L G (g+1)=((jw L G g).1++[(seg p m,seg (p+m) n)],p+m+n)):=hJJ (by rw [UN.out,GD.out]);have HD2:Hid ((gs++[Gr.mk (seg p m) (seg (p+m) n) ⟨a0,c0⟩ ⟨a1,c1⟩]).map Gr.data=(jw L G (g+1)).1):=hJJ (by rw [kz,HD.out,HE.out];simp [Gr.data]);have HP2:Hid ((jw L G (g+1)).2=p+m+n):=hJJ (by rw [HE.out]);clear hS c104 f104;go_wp2;go_roundw;case rel=>exact ⟨g+1,by omega,by go_num,by rw [HP2.out];go_num,a',c',_,HD2.out,HG.out⟩
    case measure=>simp [intOf];omega
  have hge:g=G:=by omega
  subst hge;have HN:Hid ((jw L g g).2=rn):=hJJ N0.out.symm;have HDD:Hid (gs.map Gr.data=rg):=hJJ (by rw [HD.out,D0.out]);rw [HN.out];clear hlt;go_wp2;go_ret;exact ⟨ga,gc,gs,rfl,HDD.out,HS.out⟩
end GenG
namespace GenT
open Zip
open Go.ChangeShapes Go.WideShapes Go.ChangeAt Go.RowKit
open Tab Gath GenG Clone PlaceM CodeAt
open RefS (num j2 jb)
theorem Bx.jbE {w W:World} {hd:Hd} {T:Tab} (h:Bx w hd T W) (p:Nat) (hp:p < 8) (x:Ph) :
  ∃ W',Sem.run Tryz.prog (storeCells ⟨w.heap.size+1,p*13,none⟩ x.cells) W=.ok () W'/\Bx w hd { T with phases:=T.phases.set p x } W':=by
 have hl:=j0o hd h.ph h.cf h.fl;have hr:=run_storeCells_at Tryz.prog (w.heap.size+1) (p*13) 33 x.cells 0 (T.cells hd).toArray W h.blk (by simp [hl,Ph.cells];omega) (fun v hv=>(k9.1 (Ph.one x)) v (by simpa using hv));simp only [Nat.add_zero] at hr;refine ⟨_,hr,h.write (j38 _ _ _ h.size) ?_ (by simp [h.ph]) h.cf h.fl rfl rfl rfl rfl⟩;rw [Kk _ _ _ _ _ _ h.blk,<-j7z hd h.ph p hp x,Nat.mul_comm 13 p];rfl
theorem jd6 {Q:Exit->Act->World->Prop} (a:Option Addr) (cap:Nat) (L:List Int) (w W0:World) (hd:Hd) (T:Tab) (n:Nat) (hn:n<=8) {f1 f6 f7 f8 f9 f10 f11 f12 f13 f14 f15 f16 f17 f18 f19 f20 f21 f22 f23 f24 f25 f26 f27 f28 f29 f30 f31 f32 f33 f34 f35 f36 f37 f38 f39 f40 f41 f42 f43 f44 f45 f46 f47 f48 f49 f50 f51 f52 f53 f54 f55 f56 f57 f58 f59 f60 f61 f62 f63 f64 f65 f66 f67 f68 f69 f70 f71 f72 f73 f74 f75 f76 f77 f78 f79 f80 f81 f82 f83 f84 f85 f86 f87 f88 f89 f90 f91 f92 f93 f94 f95 f96 f97 f98 f99 f100 f101 f102 f103 f104 f105 f106 f107 f108 f109 f110 f111 f112 f113 f114 f115 f116 f117 f118 f119 f120 f121 f122 f123 f124 f125 f126 f127 f128 f129 f130 f131 f132 f133 f134 f135 f136 f137 f138 f139 f140 f141 f142 f143 f144 f145 f146 f147 f148 f149 f150 f151 f152 f153 f154 f155 f156 f157 f158 f159 f160 f161 f162 f163 f164 f165 f166 f167 f168 f169 f170 f171 f172 f173 f174 f175 f176 f177 f178 f179 f180 f181 f182 f183 f184 f185:Value}
  (HL:Hid (∀ W,Below w.heap.size w W->jc W ⟨a,cap⟩ L)) (BX:Hid (Bx w hd { T with phases:=upd (fun p=>GenP.j0F L (10+12*p)) zPh 0,flash:=upd (fun _=>1) 0 0 } W0))
  (HP:∀ c a d v w,Q (.panic c) (a.put d v) w->Q (.panic c) a w) (HQ:Hid (∀ (x5 x15 x16 x17 x18 x19 x20 x21 x22 x23 x24 x25 x26 x27 x28 x29 x30:Value) (W':World),Bx w hd { T with phases:=upd (fun p=>GenP.j0F L (10+12*p)) zPh n,flash:=upd (fun _=>1) 0 n } W'->Q (.exit 0) ⟨#[kq a L.length cap,f1,k6 (some ⟨w.heap.size,0,none⟩),k6 (some ⟨w.heap.size+1,0,none⟩),km .i64 (n:Nat),x5,f6,f7,f8,f9,f10,f11,f12,f13,f14,x15,x16,x17,x18,x19,x20,x21,x22,x23,x24,x25,x26,x27,x28,x29,x30,f31,f32,f33,f34,f35,f36,f37,f38,f39,f40,f41,f42,f43,f44,f45,f46,f47,f48,f49,f50,f51,f52,f53,f54,f55,f56,f57,f58,f59,f60,f61,f62,f63,f64,f65,f66,f67,f68,f69,f70,f71,f72,f73,f74,f75,f76,f77,f78,f79,f80,f81,f82,f83,f84,f85,f86,f87,f88,f89,f90,f91,f92,f93,f94,f95,f96,f97,f98,f99,f100,f101,f102,f103,f104,f105,f106,f107,f108,f109,f110,f111,f112,f113,f114,f115,f116,f117,f118,f119,f120,f121,f122,f123,f124,f125,f126,f127,f128,f129,f130,f131,f132,f133,f134,f135,f136,f137,f138,f139,f140,f141,f142,f143,f144,f145,f146,f147,f148,f149,f150,f151,f152,f153,f154,f155,f156,f157,f158,f159,f160,f161,f162,f163,f164,f165,f166,f167,f168,f169,f170,f171,f172,f173,f174,f175,f176,f177,f178,f179,f180,f181,f182,f183,f184,f185],[]⟩ W')) :
  (lp 4 Tryz.f11).wp Tryz.prog Q ⟨#[kq a L.length cap,f1,k6 (some ⟨w.heap.size,0,none⟩),k6 (some ⟨w.heap.size+1,0,none⟩),km .i64 (n:Nat),km .i64 0,f6,f7,f8,f9,f10,f11,f12,f13,f14,f15,f16,f17,f18,f19,f20,f21,f22,f23,f24,f25,f26,f27,f28,f29,f30,f31,f32,f33,f34,f35,f36,f37,f38,f39,f40,f41,f42,f43,f44,f45,f46,f47,f48,f49,f50,f51,f52,f53,f54,f55,f56,f57,f58,f59,f60,f61,f62,f63,f64,f65,f66,f67,f68,f69,f70,f71,f72,f73,f74,f75,f76,f77,f78,f79,f80,f81,f82,f83,f84,f85,f86,f87,f88,f89,f90,f91,f92,f93,f94,f95,f96,f97,f98,f99,f100,f101,f102,f103,f104,f105,f106,f107,f108,f109,f110,f111,f112,f113,f114,f115,f116,f117,f118,f119,f120,f121,f122,f123,f124,f125,f126,f127,f128,f129,f130,f131,f132,f133,f134,f135,f136,f137,f138,f139,f140,f141,f142,f143,f144,f145,f146,f147,f148,f149,f150,f151,f152,f153,f154,f155,f156,f157,f158,f159,f160,f161,f162,f163,f164,f165,f166,f167,f168,f169,f170,f171,f172,f173,f174,f175,f176,f177,f178,f179,f180,f181,f182,f183,f184,f185],[]⟩ W0:=by
 conv=>arg 2;whnf
 dsimp only;go_loopw [5] (fun i wr=>∃ q:Nat,q<=n/\i=.int .i64 q/\Bx w hd { T with phases:=upd (fun p=>GenP.j0F L (10+12*p)) zPh q,flash:=upd (fun _=>1) 0 q } wr) (fun i _=>n - (intOf i).toNat)
 case atStart=>exact ⟨0,by omega,rfl,BX.out⟩
 case round =>
  obtain ⟨q,hq,rfl,hbx⟩:=hrel;have HB:=hJJ hbx;clear hbx BX;by_cases hlt:q < n
  ·go_wp2_with fail
   refine (GenP.j27 a cap L _ _ (HL.out _ HB.out.bel) (by go_num) (by go_num)).mono ?_;rintro e w2 ⟨rfl,hb⟩;obtain ⟨w3,hst,hB3⟩:=(HB.out.step hb).jbE q (by omega) (GenP.j0F L (10+12*q));have HB3:=hJJ hB3;clear hb hB3 HB;go_upto_region 7 with fail
   have e1:(upd (fun p=>GenP.j0F L (10+12*p)) zPh q).set q (GenP.j0F L (10+12*q))=upd (fun p=>GenP.j0F L (10+12*p)) zPh (q+1):=j7x _ _ _;have e2:(upd (fun _=>(1:Int)) 0 q).set q 1=upd (fun _=>1) 0 (q+1):=j7x _ _ _;have hs:=HB3.out.set (121+q) (I 1) (j3V hd HB3.out.ph HB3.out.cf HB3.out.fl q (by omega) 1) HB3.out.ph HB3.out.cf (by simp [j8X]) rfl rfl rfl rfl
   have c7:w3.cell? ⟨w.heap.size+1,121+q,none⟩=some (I 0):=by
    have h1:=(j1c HB3.out.blk 121 8 _ (j9 HB3.out.tab).flash) q _ (by rw [kp,jeC _ _ _ _ (by omega),if_neg (by omega)];rfl);exact h1
   have f7:=HB3.out.frozen (121+q);dsimp only at hs;rw [e1,e2] at hs;have HS:=hJJ hs;clear hs e1 e2 HB3;go_wp2;go_roundw;case rel=>exact ⟨q+1,by omega,by go_num,HS.out⟩
   case measure=>simp [intOf];omega
  have hqe:q=n:=by omega
  subst hqe;go_wp2;exact HQ.out _ _ _ _ _ _ _ _ _ _ _ _ _ _ _ _ _ _ HB.out
end GenT
namespace GenT
open Zip
open Go.ChangeShapes Go.WideShapes Go.ChangeAt Go.RowKit
open Tab Gath GenG Clone PlaceM CodeAt
open RefS (num j2 jb)
theorem jd7 {Q:Exit->Act->World->Prop} (a:Option Addr) (cap:Nat) (L:List Int) (w W0:World) (hd:Hd) (T:Tab) (n:Nat) (hn:n<=8) (sm:Few T) {f1 f5 f7 f8 f9 f10 f11 f12 f13 f14 f15 f16 f17 f18 f19 f20 f21 f22 f23 f24 f25 f26 f27 f28 f29 f30 f31 f32 f33 f34 f35 f36 f37 f38 f39 f40 f41 f42 f43 f44 f45 f46 f47 f48 f49 f50 f51 f52 f53 f54 f55 f56 f57 f58 f59 f60 f61 f62 f63 f64 f65 f66 f67 f68 f69 f70 f71 f72 f73 f74 f75 f76 f77 f78 f79 f80 f81 f82 f83 f84 f85 f86 f87 f88 f89 f90 f91 f92 f93 f94 f95 f96 f97 f98 f99 f100 f101 f102 f103 f104 f105 f106 f107 f108 f109 f110 f111 f112 f113 f114 f115 f116 f117 f118 f119 f120 f121 f122 f123 f124 f125 f126 f127 f128 f129 f130 f131 f132 f133 f134 f135 f136 f137 f138 f139 f140 f141 f142 f143 f144 f145 f146 f147 f148 f149 f150 f151 f152 f153 f154 f155 f156 f157 f158 f159 f160 f161 f162 f163 f164 f165 f166 f167 f168 f169 f170 f171 f172 f173 f174 f175 f176 f177 f178 f179 f180 f181 f182 f183 f184 f185:Value}
  (HL:Hid (∀ W,Below w.heap.size w W->jc W ⟨a,cap⟩ L)) (BX:Hid (Bx w hd T W0))
  (HP:∀ c a d v w,Q (.panic c) (a.put d v) w->Q (.panic c) a w) (HQ:Hid (∀ (x6 x7 x31 x32 x33 x34 x35 x36 x37 x38 x39 x40 x41 x42 x43 x44 x45 x46 x47 x48 x49 x50 x51 x52 x53 x54 x55 x56 x57 x58 x59 x60 x61 x62 x63 x64 x65 x66 x67 x68 x69 x70 x71 x72 x73:Value) (W':World),Bx w hd { T with conflict:=call L T T.conflict n } W'->Q (.exit 2) ⟨#[kq a L.length cap,f1,k6 (some ⟨w.heap.size,0,none⟩),k6 (some ⟨w.heap.size+1,0,none⟩),km .i64 (n:Nat),f5,x6,x7,f8,f9,f10,f11,f12,f13,f14,f15,f16,f17,f18,f19,f20,f21,f22,f23,f24,f25,f26,f27,f28,f29,f30,x31,x32,x33,x34,x35,x36,x37,x38,x39,x40,x41,x42,x43,x44,x45,x46,x47,x48,x49,x50,x51,x52,x53,x54,x55,x56,x57,x58,x59,x60,x61,x62,x63,x64,x65,x66,x67,x68,x69,x70,x71,x72,x73,f74,f75,f76,f77,f78,f79,f80,f81,f82,f83,f84,f85,f86,f87,f88,f89,f90,f91,f92,f93,f94,f95,f96,f97,f98,f99,f100,f101,f102,f103,f104,f105,f106,f107,f108,f109,f110,f111,f112,f113,f114,f115,f116,f117,f118,f119,f120,f121,f122,f123,f124,f125,f126,f127,f128,f129,f130,f131,f132,f133,f134,f135,f136,f137,f138,f139,f140,f141,f142,f143,f144,f145,f146,f147,f148,f149,f150,f151,f152,f153,f154,f155,f156,f157,f158,f159,f160,f161,f162,f163,f164,f165,f166,f167,f168,f169,f170,f171,f172,f173,f174,f175,f176,f177,f178,f179,f180,f181,f182,f183,f184,f185],[]⟩ W')) :
  (lp 9 Tryz.f11).wp Tryz.prog Q ⟨#[kq a L.length cap,f1,k6 (some ⟨w.heap.size,0,none⟩),k6 (some ⟨w.heap.size+1,0,none⟩),km .i64 (n:Nat),f5,km .i64 0,f7,f8,f9,f10,f11,f12,f13,f14,f15,f16,f17,f18,f19,f20,f21,f22,f23,f24,f25,f26,f27,f28,f29,f30,f31,f32,f33,f34,f35,f36,f37,f38,f39,f40,f41,f42,f43,f44,f45,f46,f47,f48,f49,f50,f51,f52,f53,f54,f55,f56,f57,f58,f59,f60,f61,f62,f63,f64,f65,f66,f67,f68,f69,f70,f71,f72,f73,f74,f75,f76,f77,f78,f79,f80,f81,f82,f83,f84,f85,f86,f87,f88,f89,f90,f91,f92,f93,f94,f95,f96,f97,f98,f99,f100,f101,f102,f103,f104,f105,f106,f107,f108,f109,f110,f111,f112,f113,f114,f115,f116,f117,f118,f119,f120,f121,f122,f123,f124,f125,f126,f127,f128,f129,f130,f131,f132,f133,f134,f135,f136,f137,f138,f139,f140,f141,f142,f143,f144,f145,f146,f147,f148,f149,f150,f151,f152,f153,f154,f155,f156,f157,f158,f159,f160,f161,f162,f163,f164,f165,f166,f167,f168,f169,f170,f171,f172,f173,f174,f175,f176,f177,f178,f179,f180,f181,f182,f183,f184,f185],[]⟩ W0:=by
 conv=>arg 2;whnf
 dsimp only;have BS:Hid (∀ (C:List Int) p q,PlaceM.beside { T with conflict:=C } p q=PlaceM.beside T p q):=hJJ (fun C p q=>j22 rfl p q);have CL:Hid (∀ C p,(call L T C p).length=C.length):=hJJ (j7y L T);have RL:Hid (∀ C p q,(j21 L T p C q).length=C.length):=hJJ (fun C p q=>j53 L T p C q);have SMC:Hid (∀ C:List Int,Few { T with conflict:=C }):=hJJ (fun C=>⟨sm.groups,sm.rows⟩);have C8:=hJJ BX.out.cf;generalize hC0:T.conflict=C0 at *;have BX0:Hid (Bx w hd { T with conflict:=call L T C0 0 } W0):=hJJ (by have:=BX.out;rw [<-hC0];exact this);clear BX hC0;go_loopw [6] (fun i wr=>∃ p:Nat,p<=n/\i=.int .i64 p/\Bx w hd { T with conflict:=call L T C0 p } wr) (fun i _=>n - (intOf i).toNat)
 case atStart=>exact ⟨0,by omega,rfl,BX0.out⟩
 case round =>
  obtain ⟨p,hp,rfl,hbx⟩:=hrel;have HB:=hJJ hbx;clear hbx BX0;by_cases hlt:p < n
  ·have HB2:Hid (Bx w hd { T with conflict:=j21 L T p (call L T C0 p) 0 } wr):=HB;have L8:Hid ((call L T C0 p).length=8):=hJJ (by rw [CL.out,C8.out]);have NX:Hid (call L T C0 (p+1)=j21 L T p (call L T C0 p) p):=hJJ rfl;generalize call L T C0 p=C1 at *;clear HB;go_wp2_with fail
   go_loopw [7] (fun i wr=>∃ q:Nat,q<=p/\i=.int .i64 q/\Bx w hd { T with conflict:=j21 L T p C1 q } wr) (fun i _=>p - (intOf i).toNat)
   case atStart=>exact ⟨0,by omega,rfl,HB2.out⟩
   case round =>
    obtain ⟨q,hq,rfl,hbx⟩:=hrel;have HB:=hJJ hbx;clear hbx HB2;by_cases hlt2:q < p
    ·have LC:Hid ((j21 L T p C1 q).length=8):=hJJ (by rw [RL.out,L8.out]);have NC:Hid (j21 L T p C1 (q+1)=j52 L T p q (j21 L T p C1 q)):=hJJ rfl;generalize j21 L T p C1 q=C at *;have CSet:Hid (j52 L T p q C=if PlaceM.beside T p q=false/\num L (110+8*p+q) 9 ≠ 1 then (C.set p (SetM.j08 (C.getD p 0) q:Nat)).set q (SetM.j08 ((C.set p (SetM.j08 (C.getD p 0) q:Nat)).getD q 0) p:Nat) else C):=hJJ rfl;generalize j52 L T p q C=CN at *
     have BC:Hid (∀ W,Below wr.heap.size wr W->Calls Tryz.prog 35 #[.agg ({ T with conflict:=C }.cells hd).toArray,.int .i64 p,.int .i64 q] W fun e w'=>e=.returned (.bool (PlaceM.beside T p q))/\Below W.heap.size W w'):=hJJ (fun W hb=>by
      have:=Where.j4Y { T with conflict:=C } hd p q W (HB.out.step hb).tab (SMC.out C);rw [BS.out] at this;exact this)
     have FC:Hid (∀ i W,i=110+8*(p:Int)+q->Below w.heap.size w W->Calls Tryz.prog 36 #[.slice a L.length cap,.int .i64 i,.int .i64 9] W fun e w'=>e=.returned (.int .i64 (num L (110+8*p+q) 9))/\W=w'):=hJJ (fun i W hi hb=>j4i a cap L i _ 9 hi W (HL.out W hb) (by omega) (by omega) (by omega));have LT:Hid (jl wr ⟨w.heap.size+1,0,none⟩ ({ T with conflict:=C }.cells hd)):=hJJ (by have:=Row.j1 HB.out.blk;simpa using this);have IA:Hid ((Tryz.prog.info? 33).map (·.size)=some ({ T with conflict:=C }.cells hd).length):=hJJ (by rw [j0o hd HB.out.ph HB.out.cf HB.out.fl];exact May.jK);generalize hcs:({ T with conflict:=C }:Tab).cells hd=cs at LT IA BC;go_upto_region 14 with fail
     go_wp2_with (refine lgZ 33 ⟨w.heap.size+1,0,none⟩ cs rfl LT.out Tryz.underlying33 IA.out ?_)
     refine (BC.out _ (kb _ _)).mono ?_;rintro e w2 ⟨rfl,hb⟩;have HB2:=hJJ (HB.out.step hb);clear hb LT IA BC hcs HB;generalize PlaceM.beside T p q=bb at *;cases bb with
     | true =>
      have HE:Hid (CN=C):=hJJ (by rw [CSet.out];simp);go_wp2;go_roundw;case rel=>exact ⟨q+1,by omega,by go_num,by rw [NC.out,HE.out];exact HB2.out⟩
      case measure=>simp [intOf];omega
     | false =>
      go_wp2_with fail
      refine (FC.out _ _ (by go_num) HB2.out.bel).mono ?_;rintro e w' ⟨rfl,rfl⟩;generalize num L (110+8*p+q) 9=x at *;by_cases hx:x=1
      ·have HE:Hid (CN=C):=hJJ (by rw [CSet.out];simp [hx]);subst hx;go_wp2;go_roundw;case rel=>exact ⟨q+1,by omega,by go_num,by rw [NC.out,HE.out];exact HB2.out⟩
       case measure=>simp [intOf];omega
      have HE:Hid (CN=(C.set p (SetM.j08 (C.getD p 0) q:Nat)).set q (SetM.j08 ((C.set p (SetM.j08 (C.getD p 0) q:Nat)).getD q 0) p:Nat)):=hJJ (by rw [CSet.out];simp [hx]);have hxb:(x != 1)=true:=by simpa using hx
      clear CSet FC;have CC:Hid (∀ (D:List Int) j v W,v=D.getD j 0->j < 8->D.length=8->Bx w hd { T with conflict:=D } W->W.cell? ⟨w.heap.size+1,105+j,none⟩=some (I v)/\W.frozen? ⟨w.heap.size+1,105+j,none⟩=false):=hJJ (fun D j v W hv hj h8 hb=>⟨hv ▸ (j1c hb.blk 105 8 _ (j9 hb.tab).conflict) j _ (by rw [kp,kF,kd (show j < D.length by omega)];rfl),hb.frozen _⟩);have ST:Hid (∀ (D:List Int) j x W,j < 8->D.length=8->Bx w hd { T with conflict:=D } W->Bx w hd { T with conflict:=D.set j x } (W.setCell ⟨w.heap.size+1,105+j,none⟩ (I x))):=hJJ (fun D j x W hj h8 hb=>hb.set (105+j) (I x) (j54 hd hb.ph hb.cf j hj x) hb.ph (by simp [h8]) hb.fl rfl rfl rfl rfl);generalize hv1:C.getD p 0=v1 at HE;have HV1:=hJJ hv1.symm;clear hv1;obtain ⟨c1,f1'⟩:=CC.out C p v1 _ HV1.out (by omega) LC.out HB2.out;go_upto_region 15 with fail
      clear hxb hx;go_wp2_with fail
      refine (RefS.j3t _ _ _).mono ?_;rintro e w3 ⟨rfl,hb⟩;have HB3:=hJJ (HB2.out.step hb);clear hb HB2 c1 f1';obtain ⟨c1,f1'⟩:=CC.out C p v1 _ HV1.out (by omega) LC.out HB3.out;generalize hX1:((SetM.j08 v1 q:Nat):Int)=X1 at *;clear hX1;have HB4:=hJJ (ST.out C p X1 _ (by omega) LC.out HB3.out);have LC2:Hid ((C.set p X1).length=8):=hJJ (by rw [List.length_set,LC.out]);clear HB3;go_upto_region 16 with fail
      generalize C.set p X1=C2 at *;generalize hv2:C2.getD q 0=v2 at HE;have HV2:=hJJ hv2.symm;clear hv2;generalize w3.setCell ⟨w.heap.size+1,105+p,none⟩ (I X1)=w4 at HB4 |-;clear c1 f1';obtain ⟨c1,f1'⟩:=CC.out C2 q v2 _ HV2.out (by omega) LC2.out HB4.out;go_wp2_with fail
      refine (RefS.j3t _ _ _).mono ?_;rintro e w5 ⟨rfl,hb⟩;have HB5:=hJJ (HB4.out.step hb);clear hb HB4 c1 f1';obtain ⟨c1,f1'⟩:=CC.out C2 q v2 _ HV2.out (by omega) LC2.out HB5.out;generalize hX2:((SetM.j08 v2 p:Nat):Int)=X2 at *;clear hX2;have HB6:=hJJ (ST.out C2 q X2 _ (by omega) LC2.out HB5.out);clear HB5 CC ST;go_wp2;go_roundw;case rel=>exact ⟨q+1,by omega,by go_num,by rw [NC.out,HE.out];exact HB6.out⟩
      case measure=>simp [intOf];omega
    have hqe:q=p:=by omega
    subst hqe;go_wp2;go_roundw;case rel=>exact ⟨q+1,by omega,by go_num,by rw [NX.out];exact HB.out⟩
    case measure=>simp [intOf];omega
  have hpe:p=n:=by omega
  subst hpe;go_wp2;exact HQ.out _ _ _ _ _ _ _ _ _ _ _ _ _ _ _ _ _ _ _ _ _ _ _ _ _ _ _ _ _ _ _ _ _ _ _ _ _ _ _ _ _ _ _ _ _ _ HB.out
end GenT
namespace GenT
open Zip
open Go.ChangeShapes Go.WideShapes Go.ChangeAt Go.RowKit
open Tab Gath GenG Clone PlaceM CodeAt
open RefS (num j2 jb)
theorem jd8:(Tryz.prog.info? 71).map (fun i=>(i.zero,i.size,i.bytes))=some (some (.agg #[I 0,F 0,F 0,F 0,F 0,I 0,I 0]),7,56):=by kernel_rfl
theorem j9Z {Q:Exit->Act->World->Prop} (a:Option Addr) (cap:Nat) (L:List Int) (w W0:World) (hd:Hd) (T:Tab) (n:Nat) (hn:n<=8) (n0:0 < n) (k:Nat) (hk:k<=20) {f1 f5 f6 f7 f8 f10 f11 f12 f13 f14 f15 f16 f17 f18 f19 f20 f21 f22 f23 f24 f25 f26 f27 f28 f29 f30 f31 f32 f33 f34 f35 f36 f37 f38 f39 f40 f41 f42 f43 f44 f45 f46 f47 f48 f49 f50 f51 f52 f53 f54 f55 f56 f57 f58 f59 f60 f61 f62 f63 f64 f65 f66 f67 f68 f69 f70 f71 f72 f73 f74 f75 f76 f77 f78 f79 f80 f81 f82 f83 f84 f85 f86 f87 f88 f89 f90 f91 f92 f93 f94 f95 f96 f97 f98 f99 f100 f101 f102 f103 f104 f105 f106 f107 f108 f109 f110 f111 f112 f113 f114 f115 f116 f117 f118 f119 f120 f121 f122 f123 f124 f125 f126 f127 f128 f129 f130 f131 f132 f133 f134 f135 f136 f137 f138 f139 f140 f141 f142 f143 f144 f145 f146 f147 f148 f149 f150 f151 f152 f153 f154 f155 f156 f157 f158 f159 f160 f161 f162 f163 f164 f165 f166 f167 f168 f169 f170 f171 f172 f173 f174 f175 f176 f177 f178 f179 f180 f181 f182 f183 f184 f185:Value}
  (HL:Hid (∀ W,Below w.heap.size w W->jc W ⟨a,cap⟩ L)) (s0:Sl) (BX:Hid (Bx w ⟨hd.g,s0,hd.r,hd.b⟩ { T with dets:=[] } W0))
  (HP:∀ c a d v w,Q (.panic c) (a.put d v) w->Q (.panic c) a w) (HQ:Hid (∀ (x9 x86 x87 x88 x89 x90 x91 x92 x93 x94 x95 x96 x97 x98 x99 x100:Value) (W':World) (s1:Sl),Bx w ⟨hd.g,s1,hd.r,hd.b⟩ { T with dets:=down (fun i:Nat=>GenD.Jq L (180+8*i) n) k k } W'->Q (.exit 6) ⟨#[kq a L.length cap,f1,k6 (some ⟨w.heap.size,0,none⟩),k6 (some ⟨w.heap.size+1,0,none⟩),km .i64 (n:Nat),f5,f6,f7,f8,x9,f10,f11,f12,f13,f14,f15,f16,f17,f18,f19,f20,f21,f22,f23,f24,f25,f26,f27,f28,f29,f30,f31,f32,f33,f34,f35,f36,f37,f38,f39,f40,f41,f42,f43,f44,f45,f46,f47,f48,f49,f50,f51,f52,f53,f54,f55,f56,f57,f58,f59,f60,f61,f62,f63,f64,f65,f66,f67,f68,f69,f70,f71,f72,f73,f74,f75,f76,f77,f78,f79,f80,f81,f82,f83,f84,f85,x86,x87,x88,x89,x90,x91,x92,x93,x94,x95,x96,x97,x98,x99,x100,f101,f102,f103,f104,f105,f106,f107,f108,f109,f110,f111,f112,f113,f114,f115,f116,f117,f118,f119,f120,f121,f122,f123,f124,f125,f126,f127,f128,f129,f130,f131,f132,f133,f134,f135,f136,f137,f138,f139,f140,f141,f142,f143,f144,f145,f146,f147,f148,f149,f150,f151,f152,f153,f154,f155,f156,f157,f158,f159,f160,f161,f162,f163,f164,f165,f166,f167,f168,f169,f170,f171,f172,f173,f174,f175,f176,f177,f178,f179,f180,f181,f182,f183,f184,f185],[]⟩ W')) :
  (lp 21 Tryz.f11).wp Tryz.prog Q ⟨#[kq a L.length cap,f1,k6 (some ⟨w.heap.size,0,none⟩),k6 (some ⟨w.heap.size+1,0,none⟩),km .i64 (n:Nat),f5,f6,f7,f8,km .i64 (k:Nat),f10,f11,f12,f13,f14,f15,f16,f17,f18,f19,f20,f21,f22,f23,f24,f25,f26,f27,f28,f29,f30,f31,f32,f33,f34,f35,f36,f37,f38,f39,f40,f41,f42,f43,f44,f45,f46,f47,f48,f49,f50,f51,f52,f53,f54,f55,f56,f57,f58,f59,f60,f61,f62,f63,f64,f65,f66,f67,f68,f69,f70,f71,f72,f73,f74,f75,f76,f77,f78,f79,f80,f81,f82,f83,f84,f85,f86,f87,f88,f89,f90,f91,f92,f93,f94,f95,f96,f97,f98,f99,f100,f101,f102,f103,f104,f105,f106,f107,f108,f109,f110,f111,f112,f113,f114,f115,f116,f117,f118,f119,f120,f121,f122,f123,f124,f125,f126,f127,f128,f129,f130,f131,f132,f133,f134,f135,f136,f137,f138,f139,f140,f141,f142,f143,f144,f145,f146,f147,f148,f149,f150,f151,f152,f153,f154,f155,f156,f157,f158,f159,f160,f161,f162,f163,f164,f165,f166,f167,f168,f169,f170,f171,f172,f173,f174,f175,f176,f177,f178,f179,f180,f181,f182,f183,f184,f185],[]⟩ W0:=by
 conv=>arg 2;whnf
 dsimp only;obtain ⟨j0,hj,hy0,hy1,hy2⟩:=Kj jd8;go_loopw [9] (fun i wr=>∃ j:Nat,j<=k/\i=.int .i64 (k - j:Nat)/\∃ s,Bx w ⟨hd.g,s,hd.r,hd.b⟩ { T with dets:=down (fun i:Nat=>GenD.Jq L (180+8*i) n) k j } wr) (fun i _=>(intOf i).toNat)
 case atStart=>exact ⟨0,by omega,by go_num,s0,BX.out⟩
 case round =>
  obtain ⟨j,hjk,rfl,⟨da,dc⟩,hbx⟩:=hrel;have HB:=hJJ hbx;clear hbx BX;by_cases hlt:j < k
  ·obtain ⟨i,hi⟩:∃ i:Nat,i=k - j:=⟨_,rfl⟩;have NX:Hid (down (fun i:Nat=>GenD.Jq L (180+8*i) n) k (j+1)=down (fun i:Nat=>GenD.Jq L (180+8*i) n) k j++[(GenD.Jq L (180+8*i) n)]):=hJJ (by rw [down,<-hi]);have DL:Hid ((down (fun i:Nat=>GenD.Jq L (180+8*i) n) k j).length=j):=hJJ (JZ _ _ _);generalize down (fun i:Nat=>GenD.Jq L (180+8*i) n) k j=D at *;have HI:=hJJ hi;have hi0:0 < i:=by omega
   have hi9:i<=20:=by omega
   rw [<-hi];clear hi;have e1:ks.wrap (8*(i:Int))=8*i:=by rw [kl];omega
   have e2:ks.wrap (180+8*(i:Int))=180+8*i:=by rw [kl];omega
   go_upto_region 23 with fail
   refine Kf (S:=fun _=>True) (by kernel_rfl) ?_;have hS:True:=trivial;have hb:Bx w ⟨hd.g,⟨da,dc⟩,hd.r,hd.b⟩ { T with dets:=D } { wr with drawn:=wr.drawn+1 }:=HB.out.step (kb _ _).drew;generalize ({ wr with drawn:=wr.drawn+1 }:World)=v at hb |-;clear HB;refine tqZ 0 90 ?_ rfl (fun _ _ _ h=>HP _ _ _ _ _ h) ?_ hS ?_;rotate_left
   ·intro w' hw';go_simp
    try with_reducible rfl
   (try dsimp only [k2]);(try simp only [zA,zB,zC])
   refine tqZ 2 92 ?_ rfl (fun _ _ _ h=>HP _ _ _ _ _ h) ?_ hS ?_;rotate_left
   ·intro w' hw';go_simp
    try with_reducible rfl
   (try dsimp only [k2]);(try simp only [zA,zB,zC])
   refine tqZ 3 93 ?_ rfl (fun _ _ _ h=>HP _ _ _ _ _ h) ?_ hS ?_;rotate_left
   ·intro w' hw';go_simp
    try with_reducible rfl
   (try dsimp only [k2]);(try simp only [zA,zB,zC])
   refine tqZ 4 94 ?_ rfl (fun _ _ _ h=>HP _ _ _ _ _ h) ?_ hS ?_;rotate_left
   ·intro w' hw';go_simp
    try with_reducible rfl
   (try dsimp only [k2]);(try simp only [zA,zB,zC])
   refine tqZ 5 95 ?_ rfl (fun _ _ _ h=>HP _ _ _ _ _ h) ?_ hS ?_;rotate_left
   ·intro w' hw';go_simp
    try with_reducible rfl
   (try dsimp only [k2]);(try simp only [zA,zB,zC])
   refine tqZ 6 96 ?_ rfl (fun _ _ _ h=>HP _ _ _ _ _ h) ?_ hS ?_;rotate_left
   ·intro w' hw';go_simp
    try with_reducible rfl
   (try dsimp only [k2]);(try simp only [zA,zB,zC])
   refine j1d 1 7 rfl rfl (fun K hK=>?_) (fun K hK=>?_)
   ·have c4:v.cell? ⟨w.heap.size+1,113,none⟩=some (.slice da D.length dc):=by rw [hb.cell,<-ka];exact (j9 hb.tab).d
    go_simp
    refine hK.out _ _ trivial (fun _=>?_);clear hK K;clear c4;refine rdZ 7 rfl (fun K hK=>?_);go_simp
    refine (GenD.j0c a cap L _ _ _ (HL.out _ hb.bel) (by omega) (by omega) (by omega) (by omega)).mono ?_;rintro e v2 ⟨rfl,hbb⟩;replace hb:=hb.step hbb;clear hbb;rename World=>v
    generalize hX:(GenD.Jq L (180+8*i) n)=X at NX |-;clear hX;rw [show X.cells.toArray=#[I X.phase,F X.on,F X.off,F X.delay,F X.extend,I X.maxOn,I X.maxOff] from rfl];go_simp
    refine hK.out _ _ trivial (fun _=>?_);clear hK K;refine rdZ 8 rfl (fun K hK=>?_);go_simp
    have hbw:Below v.heap.size v (v.alloc (.cells #[I X.phase,F X.on,F X.off,F X.delay,F X.extend,I X.maxOn,I X.maxOff] 71)):=(kb _ _).alloc (kj _) _;have hN:=K8 v (.cells #[I X.phase,F X.on,F X.off,F X.delay,F X.extend,I X.maxOn,I X.maxOff] 71);replace hb:=hb.step hbw;clear hbw;generalize hbn:v.heap.size=bn at hN |-;clear hbn;generalize kn v (.cells #[I X.phase,F X.on,F X.off,F X.delay,F X.extend,I X.maxOn,I X.maxOff] 71)=v at hb hN |-;refine hK.out _ _ trivial (fun _=>?_);clear hK K;refine rdZ 9 rfl (fun K hK=>?_);rw [if_pos (by rfl)];have hown2:v.ownsRow w.heap.size 71 7 (.slice da D.length dc) D.length (D.flatMap Det.cells):=hb.dets;refine Ka _ _ _ _ rfl w.heap.size 71 j0 (.agg #[I 0,F 0,F 0,F 0,F 0,I 0,I 0]) 7 56 Tryz.underlying29 hj hy0 hy1 hy2 rfl (by decide) (.slice da D.length dc) D.length _ rfl hown2 ⟨bn,0,none⟩ 1 1 X.cells rfl rfl ?c1 ?c2 ?c3 ?c4 hb.bel.size ?_
    case c1 =>
     intro j e hj;exact Row.j1 hN j e hj
    case c2=>intro e he;have h1:=Det.one X;exact (k9.1 h1) e (by simpa using he)
    case c3=>unfold maxLen;have:=DL.out;omega
    case c4=>have:=DL.out;omega
    intro v' w5 hown' hgrow hnil';obtain ⟨hbk,a',c',rfl,hG⟩:=hb.j55 X hgrow hown';have c5:w5.cell? ⟨w.heap.size+1,113,none⟩=some (.slice da D.length dc):=by rw [K6 _ _ _ _ _ _ hbk];exact (j9 hb.tab).d
    have f5:w5.frozen? ⟨w.heap.size+1,113,none⟩=false:=K7 _ _ _ _ _ hbk;have HG:=hJJ hG;clear hown' hgrow hown2 hnil' hbk hG hb hN;refine hK.out _ _ trivial (fun _=>?_);clear hK K;refine tqZ 10 100 ?_ rfl (fun _ _ _ h=>HP _ _ _ _ _ h) ?_ hS ?_;rotate_left
    ·intro w' hw';go_simp
     try with_reducible rfl
    (try dsimp only [k2]);(try simp only [zA,zB,zC])
    refine rdZ 11 rfl (fun K hK=>?_);go_simp
    refine hK.out _ _ trivial (fun _=>?_);clear hK K;refine Kc (by kernel_rfl) ?_ _;clear hS c5 f5;go_wp2;go_roundw;case rel=>exact ⟨j+1,by omega,by have:=HI.out;go_num,_,by rw [NX.out];exact HG.out⟩
    case measure=>simp [intOf];have:=HI.out;omega
   go_simp
   refine (GenD.j0c a cap L _ _ _ (HL.out _ hb.bel) (by omega) (by omega) (by omega) (by omega)).mono ?_;rintro e v2 ⟨rfl,hbb⟩;replace hb:=hb.step hbb;clear hbb;rename World=>v
   generalize hX:(GenD.Jq L (180+8*i) n)=X at NX |-;clear hX;rw [show X.cells.toArray=#[I X.phase,F X.on,F X.off,F X.delay,F X.extend,I X.maxOn,I X.maxOff] from rfl];go_simp
   refine hK.out _ _ trivial (fun _=>?_);clear hK K;refine j1d 1 8 rfl rfl (fun K hK=>?_) (fun K hK=>?_)
   ·have c4:v.cell? ⟨w.heap.size+1,113,none⟩=some (.slice da D.length dc):=by rw [hb.cell,<-ka];exact (j9 hb.tab).d
    go_simp
    refine hK.out _ _ trivial (fun _=>?_);clear hK K;clear c4;refine rdZ 8 rfl (fun K hK=>?_);go_simp
    have hbw:Below v.heap.size v (v.alloc (.cells #[I X.phase,F X.on,F X.off,F X.delay,F X.extend,I X.maxOn,I X.maxOff] 71)):=(kb _ _).alloc (kj _) _;have hN:=K8 v (.cells #[I X.phase,F X.on,F X.off,F X.delay,F X.extend,I X.maxOn,I X.maxOff] 71);replace hb:=hb.step hbw;clear hbw;generalize hbn:v.heap.size=bn at hN |-;clear hbn;generalize kn v (.cells #[I X.phase,F X.on,F X.off,F X.delay,F X.extend,I X.maxOn,I X.maxOff] 71)=v at hb hN |-;refine hK.out _ _ trivial (fun _=>?_);clear hK K;refine rdZ 9 rfl (fun K hK=>?_);rw [if_pos (by rfl)];have hown2:v.ownsRow w.heap.size 71 7 (.slice da D.length dc) D.length (D.flatMap Det.cells):=hb.dets;refine Ka _ _ _ _ rfl w.heap.size 71 j0 (.agg #[I 0,F 0,F 0,F 0,F 0,I 0,I 0]) 7 56 Tryz.underlying29 hj hy0 hy1 hy2 rfl (by decide) (.slice da D.length dc) D.length _ rfl hown2 ⟨bn,0,none⟩ 1 1 X.cells rfl rfl ?c1 ?c2 ?c3 ?c4 hb.bel.size ?_
    case c1 =>
     intro j e hj;exact Row.j1 hN j e hj
    case c2=>intro e he;have h1:=Det.one X;exact (k9.1 h1) e (by simpa using he)
    case c3=>unfold maxLen;have:=DL.out;omega
    case c4=>have:=DL.out;omega
    intro v' w5 hown' hgrow hnil';obtain ⟨hbk,a',c',rfl,hG⟩:=hb.j55 X hgrow hown';have c5:w5.cell? ⟨w.heap.size+1,113,none⟩=some (.slice da D.length dc):=by rw [K6 _ _ _ _ _ _ hbk];exact (j9 hb.tab).d
    have f5:w5.frozen? ⟨w.heap.size+1,113,none⟩=false:=K7 _ _ _ _ _ hbk;have HG:=hJJ hG;clear hown' hgrow hown2 hnil' hbk hG hb hN;refine hK.out _ _ trivial (fun _=>?_);clear hK K;refine tqZ 10 100 ?_ rfl (fun _ _ _ h=>HP _ _ _ _ _ h) ?_ hS ?_;rotate_left
    ·intro w' hw';go_simp
     try with_reducible rfl
    (try dsimp only [k2]);(try simp only [zA,zB,zC])
    refine rdZ 11 rfl (fun K hK=>?_);go_simp
    refine hK.out _ _ trivial (fun _=>?_);clear hK K;refine Kc (by kernel_rfl) ?_ _;clear hS c5 f5;go_wp2;go_roundw;case rel=>exact ⟨j+1,by omega,by have:=HI.out;go_num,_,by rw [NX.out];exact HG.out⟩
    case measure=>simp [intOf];have:=HI.out;omega
   go_simp
   have hbw:Below v.heap.size v (v.alloc (.cells #[I X.phase,F X.on,F X.off,F X.delay,F X.extend,I X.maxOn,I X.maxOff] 71)):=(kb _ _).alloc (kj _) _;have hN:=K8 v (.cells #[I X.phase,F X.on,F X.off,F X.delay,F X.extend,I X.maxOn,I X.maxOff] 71);replace hb:=hb.step hbw;clear hbw;generalize hbn:v.heap.size=bn at hN |-;clear hbn;generalize kn v (.cells #[I X.phase,F X.on,F X.off,F X.delay,F X.extend,I X.maxOn,I X.maxOff] 71)=v at hb hN |-;refine hK.out _ _ trivial (fun _=>?_);clear hK K;refine rdZ 1 rfl (fun K hK=>?_);have c4:v.cell? ⟨w.heap.size+1,113,none⟩=some (.slice da D.length dc):=by rw [hb.cell,<-ka];exact (j9 hb.tab).d
   go_simp
   refine hK.out _ _ trivial (fun _=>?_);clear hK K;clear c4;refine rdZ 9 rfl (fun K hK=>?_);rw [if_pos (by rfl)];have hown2:v.ownsRow w.heap.size 71 7 (.slice da D.length dc) D.length (D.flatMap Det.cells):=hb.dets;refine Ka _ _ _ _ rfl w.heap.size 71 j0 (.agg #[I 0,F 0,F 0,F 0,F 0,I 0,I 0]) 7 56 Tryz.underlying29 hj hy0 hy1 hy2 rfl (by decide) (.slice da D.length dc) D.length _ rfl hown2 ⟨bn,0,none⟩ 1 1 X.cells rfl rfl ?c1 ?c2 ?c3 ?c4 hb.bel.size ?_
   case c1 =>
    intro j e hj;exact Row.j1 hN j e hj
   case c2=>intro e he;have h1:=Det.one X;exact (k9.1 h1) e (by simpa using he)
   case c3=>unfold maxLen;have:=DL.out;omega
   case c4=>have:=DL.out;omega
   intro v' w5 hown' hgrow hnil';obtain ⟨hbk,a',c',rfl,hG⟩:=hb.j55 X hgrow hown';have c5:w5.cell? ⟨w.heap.size+1,113,none⟩=some (.slice da D.length dc):=by rw [K6 _ _ _ _ _ _ hbk];exact (j9 hb.tab).d
   have f5:w5.frozen? ⟨w.heap.size+1,113,none⟩=false:=K7 _ _ _ _ _ hbk;have HG:=hJJ hG;clear hown' hgrow hown2 hnil' hbk hG hb hN;refine hK.out _ _ trivial (fun _=>?_);clear hK K;refine tqZ 10 100 ?_ rfl (fun _ _ _ h=>HP _ _ _ _ _ h) ?_ hS ?_;rotate_left
   ·intro w' hw';go_simp
    try with_reducible rfl
   (try dsimp only [k2]);(try simp only [zA,zB,zC])
   refine rdZ 11 rfl (fun K hK=>?_);go_simp
   refine hK.out _ _ trivial (fun _=>?_);clear hK K;refine Kc (by kernel_rfl) ?_ _;clear hS c5 f5;go_wp2;go_roundw;case rel=>exact ⟨j+1,by omega,by have:=HI.out;go_num,_,by rw [NX.out];exact HG.out⟩
   case measure=>simp [intOf];have:=HI.out;omega
  have hje:j=k:=by omega
  subst hje;rw [show ((j - j:Nat):Int)=(0:Int) by omega];go_wp2;exact HQ.out _ _ _ _ _ _ _ _ _ _ _ _ _ _ _ _ _ _ HB.out
end GenT
namespace GenT
open Go.ChangeShapes Go.WideShapes Go.ChangeAt Go.RowKit
open Tab Gath GenG Clone PlaceM CodeAt
open RefS (num j2 jb)
theorem jd9:(Tryz.prog.info? 75).map (fun i=>(i.zero,i.size,i.bytes))=some (some (.agg #[I 0,I 0,I 0,I 0,I 0,I 0,I 0,I 0,I 0,I 0,I 0]),11,88):=by kernel_rfl
theorem j59 {T U:Tab} (h:T.groups=U.groups) (L:List Int) (i n:Int):GenR.JN T L i n=GenR.JN U L i n:=by
 unfold GenR.JN GenW.j8;simp only [j22 h]
theorem j8h {Q:Exit->Act->World->Prop} (a:Option Addr) (cap:Nat) (L:List Int) (w W0:World) (hd:Hd) (T:Tab) (n:Nat) (hn:n<=8) (n0:0 < n) (k:Nat) (hk:k<=20) (sm:Few T) {f1 f5 f6 f7 f8 f9 f11 f12 f13 f14 f15 f16 f17 f18 f19 f20 f21 f22 f23 f24 f25 f26 f27 f28 f29 f30 f31 f32 f33 f34 f35 f36 f37 f38 f39 f40 f41 f42 f43 f44 f45 f46 f47 f48 f49 f50 f51 f52 f53 f54 f55 f56 f57 f58 f59 f60 f61 f62 f63 f64 f65 f66 f67 f68 f69 f70 f71 f72 f73 f74 f75 f76 f77 f78 f79 f80 f81 f82 f83 f84 f85 f86 f87 f88 f89 f90 f91 f92 f93 f94 f95 f96 f97 f98 f99 f100 f101 f102 f103 f104 f105 f106 f107 f108 f109 f110 f111 f112 f113 f114 f115 f116 f117 f118 f119 f120 f121 f122 f123 f124 f125 f126 f127 f128 f129 f130 f131 f132 f133 f134 f135 f136 f137 f138 f139 f140 f141 f142 f143 f144 f145 f146 f147 f148 f149 f150 f151 f152 f153 f154 f155 f156 f157 f158 f159 f160 f161 f162 f163 f164 f165 f166 f167 f168 f169 f170 f171 f172 f173 f174 f175 f176 f177 f178 f179 f180 f181 f182 f183 f184 f185:Value}
  (HL:Hid (∀ W,Below w.heap.size w W->jc W ⟨a,cap⟩ L)) (s0:Sl) (BX:Hid (Bx w ⟨hd.g,hd.d,s0,hd.b⟩ { T with rails:=[] } W0))
  (HP:∀ c a d v w,Q (.panic c) (a.put d v) w->Q (.panic c) a w) (HQ:Hid (∀ (x10 x104 x105 x106 x107 x108 x109 x110 x111 x112 x113 x114 x115 x116 x117 x118 x119:Value) (W':World) (s1:Sl),Bx w ⟨hd.g,hd.d,s1,hd.b⟩ { T with rails:=down (fun i:Nat=>GenR.JN T L (260+16*i) n) k k } W'->Q (.exit 8) ⟨#[kq a L.length cap,f1,k6 (some ⟨w.heap.size,0,none⟩),k6 (some ⟨w.heap.size+1,0,none⟩),km .i64 (n:Nat),f5,f6,f7,f8,f9,x10,f11,f12,f13,f14,f15,f16,f17,f18,f19,f20,f21,f22,f23,f24,f25,f26,f27,f28,f29,f30,f31,f32,f33,f34,f35,f36,f37,f38,f39,f40,f41,f42,f43,f44,f45,f46,f47,f48,f49,f50,f51,f52,f53,f54,f55,f56,f57,f58,f59,f60,f61,f62,f63,f64,f65,f66,f67,f68,f69,f70,f71,f72,f73,f74,f75,f76,f77,f78,f79,f80,f81,f82,f83,f84,f85,f86,f87,f88,f89,f90,f91,f92,f93,f94,f95,f96,f97,f98,f99,f100,f101,f102,f103,x104,x105,x106,x107,x108,x109,x110,x111,x112,x113,x114,x115,x116,x117,x118,x119,f120,f121,f122,f123,f124,f125,f126,f127,f128,f129,f130,f131,f132,f133,f134,f135,f136,f137,f138,f139,f140,f141,f142,f143,f144,f145,f146,f147,f148,f149,f150,f151,f152,f153,f154,f155,f156,f157,f158,f159,f160,f161,f162,f163,f164,f165,f166,f167,f168,f169,f170,f171,f172,f173,f174,f175,f176,f177,f178,f179,f180,f181,f182,f183,f184,f185],[]⟩ W')) :
  (lp 25 Tryz.f11).wp Tryz.prog Q ⟨#[kq a L.length cap,f1,k6 (some ⟨w.heap.size,0,none⟩),k6 (some ⟨w.heap.size+1,0,none⟩),km .i64 (n:Nat),f5,f6,f7,f8,f9,km .i64 (k:Nat),f11,f12,f13,f14,f15,f16,f17,f18,f19,f20,f21,f22,f23,f24,f25,f26,f27,f28,f29,f30,f31,f32,f33,f34,f35,f36,f37,f38,f39,f40,f41,f42,f43,f44,f45,f46,f47,f48,f49,f50,f51,f52,f53,f54,f55,f56,f57,f58,f59,f60,f61,f62,f63,f64,f65,f66,f67,f68,f69,f70,f71,f72,f73,f74,f75,f76,f77,f78,f79,f80,f81,f82,f83,f84,f85,f86,f87,f88,f89,f90,f91,f92,f93,f94,f95,f96,f97,f98,f99,f100,f101,f102,f103,f104,f105,f106,f107,f108,f109,f110,f111,f112,f113,f114,f115,f116,f117,f118,f119,f120,f121,f122,f123,f124,f125,f126,f127,f128,f129,f130,f131,f132,f133,f134,f135,f136,f137,f138,f139,f140,f141,f142,f143,f144,f145,f146,f147,f148,f149,f150,f151,f152,f153,f154,f155,f156,f157,f158,f159,f160,f161,f162,f163,f164,f165,f166,f167,f168,f169,f170,f171,f172,f173,f174,f175,f176,f177,f178,f179,f180,f181,f182,f183,f184,f185],[]⟩ W0:=by
 conv=>arg 2;whnf
 dsimp only;obtain ⟨j0,hj,hy0,hy1,hy2⟩:=Kj jd9;go_loopw [10] (fun i wr=>∃ j:Nat,j<=k/\i=.int .i64 (k - j:Nat)/\∃ s,Bx w ⟨hd.g,hd.d,s,hd.b⟩ { T with rails:=down (fun i:Nat=>GenR.JN T L (260+16*i) n) k j } wr) (fun i _=>(intOf i).toNat)
 case atStart=>exact ⟨0,by omega,by go_num,s0,BX.out⟩
 case round =>
  obtain ⟨j,hjk,rfl,⟨da,dc⟩,hbx⟩:=hrel;have HB:=kE hbx;clear hbx BX;by_cases hlt:j < k
  ·obtain ⟨i,hi⟩:∃ i:Nat,i=k - j:=⟨_,rfl⟩;have NX:Hid (down (fun i:Nat=>GenR.JN T L (260+16*i) n) k (j+1)=down (fun i:Nat=>GenR.JN T L (260+16*i) n) k j++[(GenR.JN T L (260+16*i) n)]):=kE (by rw [down,<-hi]);have DL:Hid ((down (fun i:Nat=>GenR.JN T L (260+16*i) n) k j).length=j):=kE (JZ _ _ _);generalize down (fun i:Nat=>GenR.JN T L (260+16*i) n) k j=D at *;have HI:=kE hi;have hi0:0 < i:=by omega
   have hi9:i<=20:=by omega
   rw [<-hi];clear hi;have e1:ks.wrap (16*(i:Int))=16*i:=by rw [kl];omega
   have e2:ks.wrap (260+16*(i:Int))=260+16*i:=by rw [kl];omega
   have RC:Hid (∀ W,Bx w ⟨hd.g,hd.d,⟨da,dc⟩,hd.b⟩ { T with rails:=D } W->Calls Tryz.prog 39 #[.agg (({ T with rails:=D }:Tab).cells ⟨hd.g,hd.d,⟨da,dc⟩,hd.b⟩).toArray,.slice a L.length cap,.int .i64 (260+16*i),.int .i64 n] W fun e w'=>e=.returned (.agg (GenR.JN T L (260+16*i) n).cells.toArray)/\Below W.heap.size W w'):=kE (fun W hb=>by
    have:=GenR.j2M { T with rails:=D } ⟨hd.g,hd.d,⟨da,dc⟩,hd.b⟩ a cap L (260+16*i) n W hb.tab ⟨sm.groups,sm.rows⟩ (HL.out _ hb.bel) (by omega) (by omega) (by omega) (by omega);rw [j59 (T:={ T with rails:=D }) (U:=T) rfl] at this;exact this)
   have IA:Hid ((Tryz.prog.info? 33).map (·.size)=some (({ T with rails:=D }:Tab).cells ⟨hd.g,hd.d,⟨da,dc⟩,hd.b⟩).length):=kE (by rw [j0o _ HB.out.ph HB.out.cf HB.out.fl];exact May.jK);generalize hX:(GenR.JN T L (260+16*i) n)=X at NX RC;clear hX;generalize hcs:({ T with rails:=D }:Tab).cells ⟨hd.g,hd.d,⟨da,dc⟩,hd.b⟩=cs at RC IA;go_upto_region 27 with fail
   refine Kf (S:=fun _=>True) (by kernel_rfl) ?_;have hS:True:=trivial;have hb:Bx w ⟨hd.g,hd.d,⟨da,dc⟩,hd.b⟩ { T with rails:=D } { wr with drawn:=wr.drawn+1 }:=HB.out.step (kb _ _).drew;generalize ({ wr with drawn:=wr.drawn+1 }:World)=v at hb |-;clear HB;refine Held.take (i:=0) (some 108) rfl (v:=?_) rfl (by kernel_rfl) (by kernel_rfl) (by kernel_rfl) (fun _ _ _ h=>HP _ _ _ _ _ h) (kM ⟨by rfl,?_⟩) hS ?_;rotate_left
   ·intro w' hw';go_simp
    try with_reducible rfl
   (try dsimp only [k2]);(try simp only [k0,k3,k4])
   refine Held.take (i:=3) (some 111) rfl (v:=?_) rfl (by kernel_rfl) (by kernel_rfl) (by kernel_rfl) (fun _ _ _ h=>HP _ _ _ _ _ h) (kM ⟨by rfl,?_⟩) hS ?_;rotate_left
   ·intro w' hw';go_simp
    try with_reducible rfl
   (try dsimp only [k2]);(try simp only [k0,k3,k4])
   refine Held.take (i:=4) (some 112) rfl (v:=?_) rfl (by kernel_rfl) (by kernel_rfl) (by kernel_rfl) (fun _ _ _ h=>HP _ _ _ _ _ h) (kM ⟨by rfl,?_⟩) hS ?_;rotate_left
   ·intro w' hw';go_simp
    try with_reducible rfl
   (try dsimp only [k2]);(try simp only [k0,k3,k4])
   refine Held.take (i:=5) (some 113) rfl (v:=?_) rfl (by kernel_rfl) (by kernel_rfl) (by kernel_rfl) (fun _ _ _ h=>HP _ _ _ _ _ h) (kM ⟨by rfl,?_⟩) hS ?_;rotate_left
   ·intro w' hw';go_simp
    try with_reducible rfl
   (try dsimp only [k2]);(try simp only [k0,k3,k4])
   refine Held.take (i:=6) (some 114) rfl (v:=?_) rfl (by kernel_rfl) (by kernel_rfl) (by kernel_rfl) (fun _ _ _ h=>HP _ _ _ _ _ h) (kM ⟨by rfl,?_⟩) hS ?_;rotate_left
   ·intro w' hw';go_simp
    try with_reducible rfl
   (try dsimp only [k2]);(try simp only [k0,k3,k4])
   refine Held.take (i:=7) (some 115) rfl (v:=?_) rfl (by kernel_rfl) (by kernel_rfl) (by kernel_rfl) (fun _ _ _ h=>HP _ _ _ _ _ h) (kM ⟨by rfl,?_⟩) hS ?_;rotate_left
   ·intro w' hw';go_simp
    try with_reducible rfl
   (try dsimp only [k2]);(try simp only [k0,k3,k4])
   refine K9 (rs:=[1,2]) (by kernel_rfl) (by simp) (ki rfl (fun K hK=>?_) (ki rfl (fun K hK=>?_) kk))
   ·have c4:v.cell? ⟨w.heap.size+1,114,none⟩=some (.slice da D.length dc):=by rw [hb.cell,<-ka];exact (j9 hb.tab).r
    go_simp
    refine hK.out _ _ trivial (fun _=>?_);clear hK K;clear c4;refine K9 (rs:=[2]) (by kernel_rfl) (by simp) (ki rfl (fun K hK=>?_) kk);rw [if_pos (by rfl)];have LT:jl v ⟨w.heap.size+1,0,none⟩ cs:=by have:=Row.j1 hb.blk;rw [hcs] at this;simpa using this
    refine Row.Ji 33 _ rfl ⟨w.heap.size+1,0,none⟩ rfl cs _ LT Tryz.underlying33 rfl IA.out ?_
    (try dsimp only [k2]);(try simp only [k0,k3,k4])
    refine hK.out _ _ trivial (fun _=>?_);clear hK K;clear LT;refine K9 (rs:=[8]) (by kernel_rfl) (by simp) (ki rfl (fun K hK=>?_) kk);go_simp
    refine (RC.out _ hb).mono ?_;rintro e v2 ⟨rfl,hbb⟩;replace hb:=hb.step hbb;clear hbb;rename World=>v
    rw [show X.cells.toArray=#[I X.bars,I X.clear,I X.dwell,I X.exit,I X.delay,I X.green,I X.foot,I X.hold,I X.stay,I X.most,I X.limit] from rfl];go_simp
    refine hK.out _ _ trivial (fun _=>?_);clear hK K;refine K9 (rs:=[9]) (by kernel_rfl) (by simp) (ki rfl (fun K hK=>?_) kk);go_simp
    have hbw:Below v.heap.size v (v.alloc (.cells #[I X.bars,I X.clear,I X.dwell,I X.exit,I X.delay,I X.green,I X.foot,I X.hold,I X.stay,I X.most,I X.limit] 75)):=(kb _ _).alloc (kj _) _;have hN:=K8 v (.cells #[I X.bars,I X.clear,I X.dwell,I X.exit,I X.delay,I X.green,I X.foot,I X.hold,I X.stay,I X.most,I X.limit] 75);replace hb:=hb.step hbw;clear hbw;generalize hbn:v.heap.size=bn at hN |-;clear hbn;generalize kn v (.cells #[I X.bars,I X.clear,I X.dwell,I X.exit,I X.delay,I X.green,I X.foot,I X.hold,I X.stay,I X.most,I X.limit] 75)=v at hb hN |-;refine hK.out _ _ trivial (fun _=>?_);clear hK K;refine K9 (rs:=[10]) (by kernel_rfl) (by simp) (ki rfl (fun K hK=>?_) kk);rw [if_pos (by rfl)];have hown2:v.ownsRow w.heap.size 75 11 (.slice da D.length dc) D.length (D.flatMap Rl.cells):=hb.rails;refine Ka _ _ _ _ rfl w.heap.size 75 j0 (.agg #[I 0,I 0,I 0,I 0,I 0,I 0,I 0,I 0,I 0,I 0,I 0]) 11 88 Tryz.underlying30 hj hy0 hy1 hy2 rfl (by decide) (.slice da D.length dc) D.length _ rfl hown2 ⟨bn,0,none⟩ 1 1 X.cells rfl rfl ?c1 ?c2 ?c3 ?c4 hb.bel.size ?_
    case c1 =>
     intro j e hj;exact Row.j1 hN j e hj
    case c2=>intro e he;have h1:=Rl.one X;exact (k9.1 h1) e (by simpa using he)
    case c3=>unfold maxLen;have:=DL.out;omega
    case c4=>have:=DL.out;omega
    intro v' w5 hown' hgrow hnil';obtain ⟨hbk,a',c',rfl,hG⟩:=hb.j2m X hgrow hown';have c5:w5.cell? ⟨w.heap.size+1,114,none⟩=some (.slice da D.length dc):=by rw [K6 _ _ _ _ _ _ hbk];exact (j9 hb.tab).r
    have f5:w5.frozen? ⟨w.heap.size+1,114,none⟩=false:=K7 _ _ _ _ _ hbk;have HG:=kE hG;clear hown' hgrow hown2 hnil' hbk hG hb hN;refine hK.out _ _ trivial (fun _=>?_);clear hK K;refine Held.take (i:=11) (some 119) rfl (v:=?_) rfl (by kernel_rfl) (by kernel_rfl) (by kernel_rfl) (fun _ _ _ h=>HP _ _ _ _ _ h) (kM ⟨by rfl,?_⟩) hS ?_;rotate_left
    ·intro w' hw';go_simp
     try with_reducible rfl
    (try dsimp only [k2]);(try simp only [k0,k3,k4])
    refine K9 (rs:=[12]) (by kernel_rfl) (by simp) (ki rfl (fun K hK=>?_) kk);go_simp
    refine hK.out _ _ trivial (fun _=>?_);clear hK K;refine Kc (by kernel_rfl) ?_ _;clear hS c5 f5;go_wp2;go_roundw;case rel=>exact ⟨j+1,by omega,by have:=HI.out;go_num,_,by rw [NX.out];exact HG.out⟩
    case measure=>simp [intOf];have:=HI.out;omega
   rw [if_pos (by rfl)];have LT:jl v ⟨w.heap.size+1,0,none⟩ cs:=by have:=Row.j1 hb.blk;rw [hcs] at this;simpa using this
   refine Row.Ji 33 _ rfl ⟨w.heap.size+1,0,none⟩ rfl cs _ LT Tryz.underlying33 rfl IA.out ?_
   (try dsimp only [k2]);(try simp only [k0,k3,k4])
   refine hK.out _ _ trivial (fun _=>?_);clear hK K;clear LT;refine K9 (rs:=[1,8]) (by kernel_rfl) (by simp) (ki rfl (fun K hK=>?_) (ki rfl (fun K hK=>?_) kk))
   ·have c4:v.cell? ⟨w.heap.size+1,114,none⟩=some (.slice da D.length dc):=by rw [hb.cell,<-ka];exact (j9 hb.tab).r
    go_simp
    refine hK.out _ _ trivial (fun _=>?_);clear hK K;clear c4;refine K9 (rs:=[8]) (by kernel_rfl) (by simp) (ki rfl (fun K hK=>?_) kk);go_simp
    refine (RC.out _ hb).mono ?_;rintro e v2 ⟨rfl,hbb⟩;replace hb:=hb.step hbb;clear hbb;rename World=>v
    rw [show X.cells.toArray=#[I X.bars,I X.clear,I X.dwell,I X.exit,I X.delay,I X.green,I X.foot,I X.hold,I X.stay,I X.most,I X.limit] from rfl];go_simp
    refine hK.out _ _ trivial (fun _=>?_);clear hK K;refine K9 (rs:=[9]) (by kernel_rfl) (by simp) (ki rfl (fun K hK=>?_) kk);go_simp
    have hbw:Below v.heap.size v (v.alloc (.cells #[I X.bars,I X.clear,I X.dwell,I X.exit,I X.delay,I X.green,I X.foot,I X.hold,I X.stay,I X.most,I X.limit] 75)):=(kb _ _).alloc (kj _) _;have hN:=K8 v (.cells #[I X.bars,I X.clear,I X.dwell,I X.exit,I X.delay,I X.green,I X.foot,I X.hold,I X.stay,I X.most,I X.limit] 75);replace hb:=hb.step hbw;clear hbw;generalize hbn:v.heap.size=bn at hN |-;clear hbn;generalize kn v (.cells #[I X.bars,I X.clear,I X.dwell,I X.exit,I X.delay,I X.green,I X.foot,I X.hold,I X.stay,I X.most,I X.limit] 75)=v at hb hN |-;refine hK.out _ _ trivial (fun _=>?_);clear hK K;refine K9 (rs:=[10]) (by kernel_rfl) (by simp) (ki rfl (fun K hK=>?_) kk);rw [if_pos (by rfl)];have hown2:v.ownsRow w.heap.size 75 11 (.slice da D.length dc) D.length (D.flatMap Rl.cells):=hb.rails;refine Ka _ _ _ _ rfl w.heap.size 75 j0 (.agg #[I 0,I 0,I 0,I 0,I 0,I 0,I 0,I 0,I 0,I 0,I 0]) 11 88 Tryz.underlying30 hj hy0 hy1 hy2 rfl (by decide) (.slice da D.length dc) D.length _ rfl hown2 ⟨bn,0,none⟩ 1 1 X.cells rfl rfl ?c1 ?c2 ?c3 ?c4 hb.bel.size ?_
    case c1 =>
     intro j e hj;exact Row.j1 hN j e hj
    case c2=>intro e he;have h1:=Rl.one X;exact (k9.1 h1) e (by simpa using he)
    case c3=>unfold maxLen;have:=DL.out;omega
    case c4=>have:=DL.out;omega
    intro v' w5 hown' hgrow hnil';obtain ⟨hbk,a',c',rfl,hG⟩:=hb.j2m X hgrow hown';have c5:w5.cell? ⟨w.heap.size+1,114,none⟩=some (.slice da D.length dc):=by rw [K6 _ _ _ _ _ _ hbk];exact (j9 hb.tab).r
    have f5:w5.frozen? ⟨w.heap.size+1,114,none⟩=false:=K7 _ _ _ _ _ hbk;have HG:=kE hG;clear hown' hgrow hown2 hnil' hbk hG hb hN;refine hK.out _ _ trivial (fun _=>?_);clear hK K;refine Held.take (i:=11) (some 119) rfl (v:=?_) rfl (by kernel_rfl) (by kernel_rfl) (by kernel_rfl) (fun _ _ _ h=>HP _ _ _ _ _ h) (kM ⟨by rfl,?_⟩) hS ?_;rotate_left
    ·intro w' hw';go_simp
     try with_reducible rfl
    (try dsimp only [k2]);(try simp only [k0,k3,k4])
    refine K9 (rs:=[12]) (by kernel_rfl) (by simp) (ki rfl (fun K hK=>?_) kk);go_simp
    refine hK.out _ _ trivial (fun _=>?_);clear hK K;refine Kc (by kernel_rfl) ?_ _;clear hS c5 f5;go_wp2;go_roundw;case rel=>exact ⟨j+1,by omega,by have:=HI.out;go_num,_,by rw [NX.out];exact HG.out⟩
    case measure=>simp [intOf];have:=HI.out;omega
   go_simp
   refine (RC.out _ hb).mono ?_;rintro e v2 ⟨rfl,hbb⟩;replace hb:=hb.step hbb;clear hbb;rename World=>v
   rw [show X.cells.toArray=#[I X.bars,I X.clear,I X.dwell,I X.exit,I X.delay,I X.green,I X.foot,I X.hold,I X.stay,I X.most,I X.limit] from rfl];go_simp
   refine hK.out _ _ trivial (fun _=>?_);clear hK K;refine K9 (rs:=[1,9]) (by kernel_rfl) (by simp) (ki rfl (fun K hK=>?_) (ki rfl (fun K hK=>?_) kk))
   ·have c4:v.cell? ⟨w.heap.size+1,114,none⟩=some (.slice da D.length dc):=by rw [hb.cell,<-ka];exact (j9 hb.tab).r
    go_simp
    refine hK.out _ _ trivial (fun _=>?_);clear hK K;clear c4;refine K9 (rs:=[9]) (by kernel_rfl) (by simp) (ki rfl (fun K hK=>?_) kk);go_simp
    have hbw:Below v.heap.size v (v.alloc (.cells #[I X.bars,I X.clear,I X.dwell,I X.exit,I X.delay,I X.green,I X.foot,I X.hold,I X.stay,I X.most,I X.limit] 75)):=(kb _ _).alloc (kj _) _;have hN:=K8 v (.cells #[I X.bars,I X.clear,I X.dwell,I X.exit,I X.delay,I X.green,I X.foot,I X.hold,I X.stay,I X.most,I X.limit] 75);replace hb:=hb.step hbw;clear hbw;generalize hbn:v.heap.size=bn at hN |-;clear hbn;generalize kn v (.cells #[I X.bars,I X.clear,I X.dwell,I X.exit,I X.delay,I X.green,I X.foot,I X.hold,I X.stay,I X.most,I X.limit] 75)=v at hb hN |-;refine hK.out _ _ trivial (fun _=>?_);clear hK K;refine K9 (rs:=[10]) (by kernel_rfl) (by simp) (ki rfl (fun K hK=>?_) kk);rw [if_pos (by rfl)];have hown2:v.ownsRow w.heap.size 75 11 (.slice da D.length dc) D.length (D.flatMap Rl.cells):=hb.rails;refine Ka _ _ _ _ rfl w.heap.size 75 j0 (.agg #[I 0,I 0,I 0,I 0,I 0,I 0,I 0,I 0,I 0,I 0,I 0]) 11 88 Tryz.underlying30 hj hy0 hy1 hy2 rfl (by decide) (.slice da D.length dc) D.length _ rfl hown2 ⟨bn,0,none⟩ 1 1 X.cells rfl rfl ?c1 ?c2 ?c3 ?c4 hb.bel.size ?_
    case c1 =>
     intro j e hj;exact Row.j1 hN j e hj
    case c2=>intro e he;have h1:=Rl.one X;exact (k9.1 h1) e (by simpa using he)
    case c3=>unfold maxLen;have:=DL.out;omega
    case c4=>have:=DL.out;omega
    intro v' w5 hown' hgrow hnil';obtain ⟨hbk,a',c',rfl,hG⟩:=hb.j2m X hgrow hown';have c5:w5.cell? ⟨w.heap.size+1,114,none⟩=some (.slice da D.length dc):=by rw [K6 _ _ _ _ _ _ hbk];exact (j9 hb.tab).r
    have f5:w5.frozen? ⟨w.heap.size+1,114,none⟩=false:=K7 _ _ _ _ _ hbk;have HG:=kE hG;clear hown' hgrow hown2 hnil' hbk hG hb hN;refine hK.out _ _ trivial (fun _=>?_);clear hK K;refine Held.take (i:=11) (some 119) rfl (v:=?_) rfl (by kernel_rfl) (by kernel_rfl) (by kernel_rfl) (fun _ _ _ h=>HP _ _ _ _ _ h) (kM ⟨by rfl,?_⟩) hS ?_;rotate_left
    ·intro w' hw';go_simp
     try with_reducible rfl
    (try dsimp only [k2]);(try simp only [k0,k3,k4])
    refine K9 (rs:=[12]) (by kernel_rfl) (by simp) (ki rfl (fun K hK=>?_) kk);go_simp
    refine hK.out _ _ trivial (fun _=>?_);clear hK K;refine Kc (by kernel_rfl) ?_ _;clear hS c5 f5;go_wp2;go_roundw;case rel=>exact ⟨j+1,by omega,by have:=HI.out;go_num,_,by rw [NX.out];exact HG.out⟩
    case measure=>simp [intOf];have:=HI.out;omega
   go_simp
   have hbw:Below v.heap.size v (v.alloc (.cells #[I X.bars,I X.clear,I X.dwell,I X.exit,I X.delay,I X.green,I X.foot,I X.hold,I X.stay,I X.most,I X.limit] 75)):=(kb _ _).alloc (kj _) _;have hN:=K8 v (.cells #[I X.bars,I X.clear,I X.dwell,I X.exit,I X.delay,I X.green,I X.foot,I X.hold,I X.stay,I X.most,I X.limit] 75);replace hb:=hb.step hbw;clear hbw;generalize hbn:v.heap.size=bn at hN |-;clear hbn;generalize kn v (.cells #[I X.bars,I X.clear,I X.dwell,I X.exit,I X.delay,I X.green,I X.foot,I X.hold,I X.stay,I X.most,I X.limit] 75)=v at hb hN |-;refine hK.out _ _ trivial (fun _=>?_);clear hK K;refine K9 (rs:=[1]) (by kernel_rfl) (by simp) (ki rfl (fun K hK=>?_) kk);have c4:v.cell? ⟨w.heap.size+1,114,none⟩=some (.slice da D.length dc):=by rw [hb.cell,<-ka];exact (j9 hb.tab).r
   go_simp
   refine hK.out _ _ trivial (fun _=>?_);clear hK K;clear c4;refine K9 (rs:=[10]) (by kernel_rfl) (by simp) (ki rfl (fun K hK=>?_) kk);rw [if_pos (by rfl)];have hown2:v.ownsRow w.heap.size 75 11 (.slice da D.length dc) D.length (D.flatMap Rl.cells):=hb.rails;refine Ka _ _ _ _ rfl w.heap.size 75 j0 (.agg #[I 0,I 0,I 0,I 0,I 0,I 0,I 0,I 0,I 0,I 0,I 0]) 11 88 Tryz.underlying30 hj hy0 hy1 hy2 rfl (by decide) (.slice da D.length dc) D.length _ rfl hown2 ⟨bn,0,none⟩ 1 1 X.cells rfl rfl ?c1 ?c2 ?c3 ?c4 hb.bel.size ?_
   case c1 =>
    intro j e hj;exact Row.j1 hN j e hj
   case c2=>intro e he;have h1:=Rl.one X;exact (k9.1 h1) e (by simpa using he)
   case c3=>unfold maxLen;have:=DL.out;omega
   case c4=>have:=DL.out;omega
   intro v' w5 hown' hgrow hnil';obtain ⟨hbk,a',c',rfl,hG⟩:=hb.j2m X hgrow hown';have c5:w5.cell? ⟨w.heap.size+1,114,none⟩=some (.slice da D.length dc):=by rw [K6 _ _ _ _ _ _ hbk];exact (j9 hb.tab).r
   have f5:w5.frozen? ⟨w.heap.size+1,114,none⟩=false:=K7 _ _ _ _ _ hbk;have HG:=kE hG;clear hown' hgrow hown2 hnil' hbk hG hb hN;refine hK.out _ _ trivial (fun _=>?_);clear hK K;refine Held.take (i:=11) (some 119) rfl (v:=?_) rfl (by kernel_rfl) (by kernel_rfl) (by kernel_rfl) (fun _ _ _ h=>HP _ _ _ _ _ h) (kM ⟨by rfl,?_⟩) hS ?_;rotate_left
   ·intro w' hw';go_simp
    try with_reducible rfl
   (try dsimp only [k2]);(try simp only [k0,k3,k4])
   refine K9 (rs:=[12]) (by kernel_rfl) (by simp) (ki rfl (fun K hK=>?_) kk);go_simp
   refine hK.out _ _ trivial (fun _=>?_);clear hK K;refine Kc (by kernel_rfl) ?_ _;clear hS c5 f5;go_wp2;go_roundw;case rel=>exact ⟨j+1,by omega,by have:=HI.out;go_num,_,by rw [NX.out];exact HG.out⟩
   case measure=>simp [intOf];have:=HI.out;omega
  have hje:j=k:=by omega
  subst hje;rw [show ((j - j:Nat):Int)=(0:Int) by omega];go_wp2;exact HQ.out _ _ _ _ _ _ _ _ _ _ _ _ _ _ _ _ _ _ _ HB.out
end GenT
namespace GenT
open Zip
open Go.ChangeShapes Go.WideShapes Go.ChangeAt Go.RowKit
open Tab Gath GenG Clone PlaceM CodeAt
open RefS (num j2 jb)
theorem j3A (x y:Int):Tryz.prog.built 77 [(0,I x),(1,I y)]=some #[I x,I y]:=by kernel_rfl
theorem jda:(Tryz.prog.info? 77).map (fun i=>(i.zero,i.size,i.bytes))=some (some (.agg #[I 0,I 0]),2,16):=by kernel_rfl
theorem j8i {Q:Exit->Act->World->Prop} (a:Option Addr) (cap:Nat) (L:List Int) (w W0:World) (hd:Hd) (T:Tab) (n:Nat) (hn:n<=8) (n0:0 < n) (k:Nat) (hk:k<=20) {f1 f5 f6 f7 f8 f9 f10 f12 f13 f14 f15 f16 f17 f18 f19 f20 f21 f22 f23 f24 f25 f26 f27 f28 f29 f30 f31 f32 f33 f34 f35 f36 f37 f38 f39 f40 f41 f42 f43 f44 f45 f46 f47 f48 f49 f50 f51 f52 f53 f54 f55 f56 f57 f58 f59 f60 f61 f62 f63 f64 f65 f66 f67 f68 f69 f70 f71 f72 f73 f74 f75 f76 f77 f78 f79 f80 f81 f82 f83 f84 f85 f86 f87 f88 f89 f90 f91 f92 f93 f94 f95 f96 f97 f98 f99 f100 f101 f102 f103 f104 f105 f106 f107 f108 f109 f110 f111 f112 f113 f114 f115 f116 f117 f118 f119 f120 f121 f122 f123 f124 f125 f126 f127 f128 f129 f130 f131 f132 f133 f134 f135 f136 f137 f138 f139 f140 f141 f142 f143 f144 f145 f146 f147 f148 f149 f150 f151 f152 f153 f154 f155 f156 f157 f158 f159 f160 f161 f162 f163 f164 f165 f166 f167 f168 f169 f170 f171 f172 f173 f174 f175 f176 f177 f178 f179 f180 f181 f182 f183 f184 f185:Value}
  (HL:Hid (∀ W,Below w.heap.size w W->jc W ⟨a,cap⟩ L)) (s0:Sl) (BX:Hid (Bx w ⟨hd.g,hd.d,hd.r,s0⟩ { T with buses:=[] } W0))
  (HP:∀ c a d v w,Q (.panic c) (a.put d v) w->Q (.panic c) a w) (HQ:Hid (∀ (x11 x122 x123 x124 x125 x126 x127 x128 x129 x130 x131 x132 x133 x134 x135 x136 x137 x138 x139 x140 x141 x142 x143 x144 x145 x146 x147 x148:Value) (W':World) (s1:Sl),Bx w ⟨hd.g,hd.d,hd.r,s1⟩ { T with buses:=down (fun i:Nat=>j0V L i n) k k } W'->Q (.exit 10) ⟨#[kq a L.length cap,f1,k6 (some ⟨w.heap.size,0,none⟩),k6 (some ⟨w.heap.size+1,0,none⟩),km .i64 (n:Nat),f5,f6,f7,f8,f9,f10,x11,f12,f13,f14,f15,f16,f17,f18,f19,f20,f21,f22,f23,f24,f25,f26,f27,f28,f29,f30,f31,f32,f33,f34,f35,f36,f37,f38,f39,f40,f41,f42,f43,f44,f45,f46,f47,f48,f49,f50,f51,f52,f53,f54,f55,f56,f57,f58,f59,f60,f61,f62,f63,f64,f65,f66,f67,f68,f69,f70,f71,f72,f73,f74,f75,f76,f77,f78,f79,f80,f81,f82,f83,f84,f85,f86,f87,f88,f89,f90,f91,f92,f93,f94,f95,f96,f97,f98,f99,f100,f101,f102,f103,f104,f105,f106,f107,f108,f109,f110,f111,f112,f113,f114,f115,f116,f117,f118,f119,f120,f121,x122,x123,x124,x125,x126,x127,x128,x129,x130,x131,x132,x133,x134,x135,x136,x137,x138,x139,x140,x141,x142,x143,x144,x145,x146,x147,x148,f149,f150,f151,f152,f153,f154,f155,f156,f157,f158,f159,f160,f161,f162,f163,f164,f165,f166,f167,f168,f169,f170,f171,f172,f173,f174,f175,f176,f177,f178,f179,f180,f181,f182,f183,f184,f185],[]⟩ W')) :
  (lp 29 Tryz.f11).wp Tryz.prog Q ⟨#[kq a L.length cap,f1,k6 (some ⟨w.heap.size,0,none⟩),k6 (some ⟨w.heap.size+1,0,none⟩),km .i64 (n:Nat),f5,f6,f7,f8,f9,f10,km .i64 (k:Nat),f12,f13,f14,f15,f16,f17,f18,f19,f20,f21,f22,f23,f24,f25,f26,f27,f28,f29,f30,f31,f32,f33,f34,f35,f36,f37,f38,f39,f40,f41,f42,f43,f44,f45,f46,f47,f48,f49,f50,f51,f52,f53,f54,f55,f56,f57,f58,f59,f60,f61,f62,f63,f64,f65,f66,f67,f68,f69,f70,f71,f72,f73,f74,f75,f76,f77,f78,f79,f80,f81,f82,f83,f84,f85,f86,f87,f88,f89,f90,f91,f92,f93,f94,f95,f96,f97,f98,f99,f100,f101,f102,f103,f104,f105,f106,f107,f108,f109,f110,f111,f112,f113,f114,f115,f116,f117,f118,f119,f120,f121,f122,f123,f124,f125,f126,f127,f128,f129,f130,f131,f132,f133,f134,f135,f136,f137,f138,f139,f140,f141,f142,f143,f144,f145,f146,f147,f148,f149,f150,f151,f152,f153,f154,f155,f156,f157,f158,f159,f160,f161,f162,f163,f164,f165,f166,f167,f168,f169,f170,f171,f172,f173,f174,f175,f176,f177,f178,f179,f180,f181,f182,f183,f184,f185],[]⟩ W0:=by
 conv=>arg 2;whnf
 dsimp only;obtain ⟨j0,hj,hy0,hy1,hy2⟩:=Kj jda;go_loopw [11] (fun i wr=>∃ j:Nat,j<=k/\i=.int .i64 (k - j:Nat)/\∃ s,Bx w ⟨hd.g,hd.d,hd.r,s⟩ { T with buses:=down (fun i:Nat=>j0V L i n) k j } wr) (fun i _=>(intOf i).toNat)
 case atStart=>exact ⟨0,by omega,by go_num,s0,BX.out⟩
 case round =>
  obtain ⟨j,hjk,rfl,⟨da,dc⟩,hbx⟩:=hrel;have HB:=hJJ hbx;clear hbx BX;by_cases hlt:j < k
  ·obtain ⟨i,hi⟩:∃ i:Nat,i=k - j:=⟨_,rfl⟩;have NX:Hid (down (fun i:Nat=>j0V L i n) k (j+1)=down (fun i:Nat=>j0V L i n) k j++[(j0V L i n)]):=hJJ (by rw [down,<-hi]);have DL:Hid ((down (fun i:Nat=>j0V L i n) k j).length=j):=hJJ (JZ _ _ _);generalize down (fun i:Nat=>j0V L i n) k j=D at *;have HI:=hJJ hi;have hi0:0 < i:=by omega
   have hi9:i<=20:=by omega
   rw [<-hi];clear hi;have e1:ks.wrap (2*(i:Int))=2*i:=by rw [kl];omega
   have e2:ks.wrap (330+2*(i:Int))=330+2*i:=by rw [kl];omega
   have e3:ks.wrap (331+2*(i:Int))=331+2*i:=by rw [kl];omega
   obtain ⟨x1,hx1,F1⟩:∃ x:Int,x=num L (330+2*i) 256/\Hid (∀ W,Below w.heap.size w W->Calls Tryz.prog 36 #[.slice a L.length cap,.int .i64 (330+2*i),.int .i64 256] W fun e w'=>e=.returned (.int .i64 x)/\w'=W):=⟨_,rfl,hJJ (fun W hb=>(jb a cap L _ _ W (HL.out _ hb) (by omega) (by omega) (by omega)).mono fun _ _ ⟨e,q⟩=>⟨e,q.symm⟩)⟩;obtain ⟨x2,hx2,⟨r2,s2⟩,F2⟩:∃ x:Int,x=num L (331+2*i) 30/\(0<=x/\x < 30)/\Hid (∀ W,Below w.heap.size w W->Calls Tryz.prog 36 #[.slice a L.length cap,.int .i64 (331+2*i),.int .i64 30] W fun e w'=>e=.returned (.int .i64 x)/\w'=W):=⟨_,rfl,j2 _ _ _ (by omega),hJJ (fun W hb=>(jb a cap L _ _ W (HL.out _ hb) (by omega) (by omega) (by omega)).mono fun _ _ ⟨e,q⟩=>⟨e,q.symm⟩)⟩;have HX:Hid ([I (max 1 (bits .and .i64 x1 (GenR.Je n))),I (1+x2)]=(j0V L i n).cells):=hJJ (by rw [hx1,hx2];rfl);have e4:ks.wrap (1+x2)=1+x2:=by rw [kl];omega
   clear hx1 hx2;generalize j0V L i n=X at NX HX;go_upto_region 31 with fail
   refine Kf (S:=fun _=>True) (by kernel_rfl) ?_;have hS:True:=trivial;have hb:Bx w ⟨hd.g,hd.d,hd.r,⟨da,dc⟩⟩ { T with buses:=D } { wr with drawn:=wr.drawn+1 }:=HB.out.step (kb _ _).drew;generalize ({ wr with drawn:=wr.drawn+1 }:World)=v at hb |-;clear HB;refine tqZ 0 126 ?_ rfl (fun _ _ _ h=>HP _ _ _ _ _ h) ?_ hS ?_;rotate_left
   ·intro w' hw';go_simp
    try with_reducible rfl
   (try dsimp only [k2]);(try simp only [zA,zB,zC])
   refine tqZ 2 128 ?_ rfl (fun _ _ _ h=>HP _ _ _ _ _ h) ?_ hS ?_;rotate_left
   ·intro w' hw';go_simp
    try with_reducible rfl
   (try dsimp only [k2]);(try simp only [zA,zB,zC])
   refine tqZ 3 129 ?_ rfl (fun _ _ _ h=>HP _ _ _ _ _ h) ?_ hS ?_;rotate_left
   ·intro w' hw';go_simp
    try with_reducible rfl
   (try dsimp only [k2]);(try simp only [zA,zB,zC])
   refine tqZ 4 130 ?_ rfl (fun _ _ _ h=>HP _ _ _ _ _ h) ?_ hS ?_;rotate_left
   ·intro w' hw';go_simp
    try with_reducible rfl
   (try dsimp only [k2]);(try simp only [zA,zB,zC])
   refine tqZ 5 131 ?_ rfl (fun _ _ _ h=>HP _ _ _ _ _ h) ?_ hS ?_;rotate_left
   ·intro w' hw';go_simp
    try with_reducible rfl
   (try dsimp only [k2]);(try simp only [zA,zB,zC])
   refine tqZ 7 133 ?_ rfl (fun _ _ _ h=>HP _ _ _ _ _ h) ?_ hS ?_;rotate_left
   ·intro w' hw';go_simp
    try with_reducible rfl
   (try dsimp only [k2]);(try simp only [zA,zB,zC])
   refine tqZ 8 134 ?_ rfl (fun _ _ _ h=>HP _ _ _ _ _ h) ?_ hS ?_;rotate_left
   ·intro w' hw';go_simp
    try with_reducible rfl
   (try dsimp only [k2]);(try simp only [zA,zB,zC])
   refine tqZ 9 135 ?_ rfl (fun _ _ _ h=>HP _ _ _ _ _ h) ?_ hS ?_;rotate_left
   ·intro w' hw';go_simp
    try with_reducible rfl
   (try dsimp only [k2]);(try simp only [zA,zB,zC])
   refine tqZ 10 136 (.int .i64 (GenR.Je n)) rfl (fun _ _ _ h=>HP _ _ _ _ _ h) ?_ hS ?_
   ·intro w' hw';go_simp
    try (first | rfl | (simp only [kt];split <;> split <;> omega))
   (try dsimp only [k2]);(try simp only [zA,zB,zC])
   refine tqZ 13 139 ?_ rfl (fun _ _ _ h=>HP _ _ _ _ _ h) ?_ hS ?_;rotate_left
   ·intro w' hw';go_simp
    try with_reducible rfl
   (try dsimp only [k2]);(try simp only [zA,zB,zC])
   refine tqZ 14 140 ?_ rfl (fun _ _ _ h=>HP _ _ _ _ _ h) ?_ hS ?_;rotate_left
   ·intro w' hw';go_simp
    try with_reducible rfl
   (try dsimp only [k2]);(try simp only [zA,zB,zC])
   refine tqZ 15 141 ?_ rfl (fun _ _ _ h=>HP _ _ _ _ _ h) ?_ hS ?_;rotate_left
   ·intro w' hw';go_simp
    try with_reducible rfl
   (try dsimp only [k2]);(try simp only [zA,zB,zC])
   refine tqZ 16 142 ?_ rfl (fun _ _ _ h=>HP _ _ _ _ _ h) ?_ hS ?_;rotate_left
   ·intro w' hw';go_simp
    try with_reducible rfl
   (try dsimp only [k2]);(try simp only [zA,zB,zC])
   refine j1d 1 6 rfl rfl (fun K hK=>?_) (fun K hK=>?_)
   ·have c4:v.cell? ⟨w.heap.size+1,115,none⟩=some (.slice da D.length dc):=by rw [hb.cell,<-ka];exact (j9 hb.tab).b
    go_simp
    refine hK.out _ _ trivial (fun _=>?_);clear hK K;clear c4;refine rdZ 6 rfl (fun K hK=>?_);go_simp
    refine (F1.out _ hb.bel).mono ?_;rintro e w' ⟨rfl,hq⟩;subst w';go_simp
    refine hK.out _ _ trivial (fun _=>?_);clear hK K;refine tqZ 11 137 (.int .i64 (bits .and .i64 x1 (GenR.Je n))) rfl (fun _ _ _ h=>HP _ _ _ _ _ h) ?_ hS ?_
    ·intro w' hw';go_simp
     try (first | rfl | (simp only [kt];split <;> split <;> omega))
    (try dsimp only [k2]);(try simp only [zA,zB,zC])
    refine tqZ 12 138 (.int .i64 (max 1 (bits .and .i64 x1 (GenR.Je n)))) rfl (fun _ _ _ h=>HP _ _ _ _ _ h) ?_ hS ?_
    ·intro w' hw';go_simp
     try (first | rfl | (simp only [kt];split <;> split <;> omega))
    (try dsimp only [k2]);(try simp only [zA,zB,zC])
    refine rdZ 17 rfl (fun K hK=>?_);go_simp
    refine (F2.out _ hb.bel).mono ?_;rintro e w' ⟨rfl,hq⟩;subst w';go_simp
    refine hK.out _ _ trivial (fun _=>?_);clear hK K;refine tqZ 18 144 (.int .i64 (1+x2)) rfl (fun _ _ _ h=>HP _ _ _ _ _ h) ?_ hS ?_
    ·intro w' hw';go_simp
     try (first | rfl | (simp only [kt];split <;> split <;> omega))
    (try dsimp only [k2]);(try simp only [zA,zB,zC])
    refine Held.j0h (i:=19) (some 145) rfl 77 _ #[I (max 1 (bits .and .i64 x1 (GenR.Je n))),I (1+x2)] rfl rfl (by kernel_rfl) (by kernel_rfl) (by kernel_rfl) (fun _ _ _ h=>HP _ _ _ _ _ h) (by rfl) hS (by simp only [kL,kK,kS];exact j3A _ _) ?_
    (try dsimp only [k2]);(try simp only [zA,zB,zC])
    refine rdZ 20 rfl (fun K hK=>?_);go_simp
    have hbw:Below v.heap.size v (v.alloc (.cells #[I (max 1 (bits .and .i64 x1 (GenR.Je n))),I (1+x2)] 77)):=(kb _ _).alloc (kj _) _;have hN:=K8 v (.cells #[I (max 1 (bits .and .i64 x1 (GenR.Je n))),I (1+x2)] 77);replace hb:=hb.step hbw;clear hbw;generalize hbn:v.heap.size=bn at hN |-;clear hbn;generalize kn v (.cells #[I (max 1 (bits .and .i64 x1 (GenR.Je n))),I (1+x2)] 77)=v at hb hN |-;refine hK.out _ _ trivial (fun _=>?_);clear hK K;refine rdZ 21 rfl (fun K hK=>?_);rw [if_pos (by rfl)];have hown2:v.ownsRow w.heap.size 77 2 (.slice da D.length dc) D.length (D.flatMap Bs.cells):=hb.buses;refine Ka _ _ _ _ rfl w.heap.size 77 j0 (.agg #[I 0,I 0]) 2 16 Tryz.underlying31 hj hy0 hy1 hy2 rfl (by decide) (.slice da D.length dc) D.length _ rfl hown2 ⟨bn,0,none⟩ 1 1 [I (max 1 (bits .and .i64 x1 (GenR.Je n))),I (1+x2)] rfl rfl ?c1 ?c2 ?c3 ?c4 hb.bel.size ?_
    case c1 =>
     intro j e hj;exact Row.j1 hN j e hj
    case c2=>intro e he;have h1:=(show (#[I (max 1 (bits .and .i64 x1 (GenR.Je n))),I (1+x2)]:Array Value).all (·.oneCell')=true from by simp [kG]);exact (k9.1 h1) e (by simpa using he)
    case c3=>unfold maxLen;have:=DL.out;omega
    case c4=>have:=DL.out;omega
    intro v' w5 hown' hgrow hnil';rw [HX.out] at hown';obtain ⟨hbk,a',c',rfl,hG⟩:=hb.j2n X hgrow hown';have c5:w5.cell? ⟨w.heap.size+1,115,none⟩=some (.slice da D.length dc):=by rw [K6 _ _ _ _ _ _ hbk];exact (j9 hb.tab).b
    have f5:w5.frozen? ⟨w.heap.size+1,115,none⟩=false:=K7 _ _ _ _ _ hbk;have HG:=hJJ hG;clear hown' hgrow hown2 hnil' hbk hG hb hN;refine hK.out _ _ trivial (fun _=>?_);clear hK K;refine tqZ 22 148 ?_ rfl (fun _ _ _ h=>HP _ _ _ _ _ h) ?_ hS ?_;rotate_left
    ·intro w' hw';go_simp
     try with_reducible rfl
    (try dsimp only [k2]);(try simp only [zA,zB,zC])
    refine rdZ 23 rfl (fun K hK=>?_);go_simp
    refine hK.out _ _ trivial (fun _=>?_);clear hK K;refine Kc (by kernel_rfl) ?_ _;clear hS c5 f5;go_wp2;go_roundw;case rel=>exact ⟨j+1,by omega,by have:=HI.out;go_num,_,by rw [NX.out];exact HG.out⟩
    case measure=>simp [intOf];have:=HI.out;omega
   go_simp
   refine (F1.out _ hb.bel).mono ?_;rintro e w' ⟨rfl,hq⟩;subst w';go_simp
   refine hK.out _ _ trivial (fun _=>?_);clear hK K;refine tqZ 11 137 (.int .i64 (bits .and .i64 x1 (GenR.Je n))) rfl (fun _ _ _ h=>HP _ _ _ _ _ h) ?_ hS ?_
   ·intro w' hw';go_simp
    try (first | rfl | (simp only [kt];split <;> split <;> omega))
   (try dsimp only [k2]);(try simp only [zA,zB,zC])
   refine tqZ 12 138 (.int .i64 (max 1 (bits .and .i64 x1 (GenR.Je n)))) rfl (fun _ _ _ h=>HP _ _ _ _ _ h) ?_ hS ?_
   ·intro w' hw';go_simp
    try (first | rfl | (simp only [kt];split <;> split <;> omega))
   (try dsimp only [k2]);(try simp only [zA,zB,zC])
   refine j1d 1 17 rfl rfl (fun K hK=>?_) (fun K hK=>?_)
   ·have c4:v.cell? ⟨w.heap.size+1,115,none⟩=some (.slice da D.length dc):=by rw [hb.cell,<-ka];exact (j9 hb.tab).b
    go_simp
    refine hK.out _ _ trivial (fun _=>?_);clear hK K;clear c4;refine rdZ 17 rfl (fun K hK=>?_);go_simp
    refine (F2.out _ hb.bel).mono ?_;rintro e w' ⟨rfl,hq⟩;subst w';go_simp
    refine hK.out _ _ trivial (fun _=>?_);clear hK K;refine tqZ 18 144 (.int .i64 (1+x2)) rfl (fun _ _ _ h=>HP _ _ _ _ _ h) ?_ hS ?_
    ·intro w' hw';go_simp
     try (first | rfl | (simp only [kt];split <;> split <;> omega))
    (try dsimp only [k2]);(try simp only [zA,zB,zC])
    refine Held.j0h (i:=19) (some 145) rfl 77 _ #[I (max 1 (bits .and .i64 x1 (GenR.Je n))),I (1+x2)] rfl rfl (by kernel_rfl) (by kernel_rfl) (by kernel_rfl) (fun _ _ _ h=>HP _ _ _ _ _ h) (by rfl) hS (by simp only [kL,kK,kS];exact j3A _ _) ?_
    (try dsimp only [k2]);(try simp only [zA,zB,zC])
    refine rdZ 20 rfl (fun K hK=>?_);go_simp
    have hbw:Below v.heap.size v (v.alloc (.cells #[I (max 1 (bits .and .i64 x1 (GenR.Je n))),I (1+x2)] 77)):=(kb _ _).alloc (kj _) _;have hN:=K8 v (.cells #[I (max 1 (bits .and .i64 x1 (GenR.Je n))),I (1+x2)] 77);replace hb:=hb.step hbw;clear hbw;generalize hbn:v.heap.size=bn at hN |-;clear hbn;generalize kn v (.cells #[I (max 1 (bits .and .i64 x1 (GenR.Je n))),I (1+x2)] 77)=v at hb hN |-;refine hK.out _ _ trivial (fun _=>?_);clear hK K;refine rdZ 21 rfl (fun K hK=>?_);rw [if_pos (by rfl)];have hown2:v.ownsRow w.heap.size 77 2 (.slice da D.length dc) D.length (D.flatMap Bs.cells):=hb.buses;refine Ka _ _ _ _ rfl w.heap.size 77 j0 (.agg #[I 0,I 0]) 2 16 Tryz.underlying31 hj hy0 hy1 hy2 rfl (by decide) (.slice da D.length dc) D.length _ rfl hown2 ⟨bn,0,none⟩ 1 1 [I (max 1 (bits .and .i64 x1 (GenR.Je n))),I (1+x2)] rfl rfl ?c1 ?c2 ?c3 ?c4 hb.bel.size ?_
    case c1 =>
     intro j e hj;exact Row.j1 hN j e hj
    case c2=>intro e he;have h1:=(show (#[I (max 1 (bits .and .i64 x1 (GenR.Je n))),I (1+x2)]:Array Value).all (·.oneCell')=true from by simp [kG]);exact (k9.1 h1) e (by simpa using he)
    case c3=>unfold maxLen;have:=DL.out;omega
    case c4=>have:=DL.out;omega
    intro v' w5 hown' hgrow hnil';rw [HX.out] at hown';obtain ⟨hbk,a',c',rfl,hG⟩:=hb.j2n X hgrow hown';have c5:w5.cell? ⟨w.heap.size+1,115,none⟩=some (.slice da D.length dc):=by rw [K6 _ _ _ _ _ _ hbk];exact (j9 hb.tab).b
    have f5:w5.frozen? ⟨w.heap.size+1,115,none⟩=false:=K7 _ _ _ _ _ hbk;have HG:=hJJ hG;clear hown' hgrow hown2 hnil' hbk hG hb hN;refine hK.out _ _ trivial (fun _=>?_);clear hK K;refine tqZ 22 148 ?_ rfl (fun _ _ _ h=>HP _ _ _ _ _ h) ?_ hS ?_;rotate_left
    ·intro w' hw';go_simp
     try with_reducible rfl
    (try dsimp only [k2]);(try simp only [zA,zB,zC])
    refine rdZ 23 rfl (fun K hK=>?_);go_simp
    refine hK.out _ _ trivial (fun _=>?_);clear hK K;refine Kc (by kernel_rfl) ?_ _;clear hS c5 f5;go_wp2;go_roundw;case rel=>exact ⟨j+1,by omega,by have:=HI.out;go_num,_,by rw [NX.out];exact HG.out⟩
    case measure=>simp [intOf];have:=HI.out;omega
   go_simp
   refine (F2.out _ hb.bel).mono ?_;rintro e w' ⟨rfl,hq⟩;subst w';go_simp
   refine hK.out _ _ trivial (fun _=>?_);clear hK K;refine tqZ 18 144 (.int .i64 (1+x2)) rfl (fun _ _ _ h=>HP _ _ _ _ _ h) ?_ hS ?_
   ·intro w' hw';go_simp
    try (first | rfl | (simp only [kt];split <;> split <;> omega))
   (try dsimp only [k2]);(try simp only [zA,zB,zC])
   refine Held.j0h (i:=19) (some 145) rfl 77 _ #[I (max 1 (bits .and .i64 x1 (GenR.Je n))),I (1+x2)] rfl rfl (by kernel_rfl) (by kernel_rfl) (by kernel_rfl) (fun _ _ _ h=>HP _ _ _ _ _ h) (by rfl) hS (by simp only [kL,kK,kS];exact j3A _ _) ?_
   (try dsimp only [k2]);(try simp only [zA,zB,zC])
   refine j1d 1 20 rfl rfl (fun K hK=>?_) (fun K hK=>?_)
   ·have c4:v.cell? ⟨w.heap.size+1,115,none⟩=some (.slice da D.length dc):=by rw [hb.cell,<-ka];exact (j9 hb.tab).b
    go_simp
    refine hK.out _ _ trivial (fun _=>?_);clear hK K;clear c4;refine rdZ 20 rfl (fun K hK=>?_);go_simp
    have hbw:Below v.heap.size v (v.alloc (.cells #[I (max 1 (bits .and .i64 x1 (GenR.Je n))),I (1+x2)] 77)):=(kb _ _).alloc (kj _) _;have hN:=K8 v (.cells #[I (max 1 (bits .and .i64 x1 (GenR.Je n))),I (1+x2)] 77);replace hb:=hb.step hbw;clear hbw;generalize hbn:v.heap.size=bn at hN |-;clear hbn;generalize kn v (.cells #[I (max 1 (bits .and .i64 x1 (GenR.Je n))),I (1+x2)] 77)=v at hb hN |-;refine hK.out _ _ trivial (fun _=>?_);clear hK K;refine rdZ 21 rfl (fun K hK=>?_);rw [if_pos (by rfl)];have hown2:v.ownsRow w.heap.size 77 2 (.slice da D.length dc) D.length (D.flatMap Bs.cells):=hb.buses;refine Ka _ _ _ _ rfl w.heap.size 77 j0 (.agg #[I 0,I 0]) 2 16 Tryz.underlying31 hj hy0 hy1 hy2 rfl (by decide) (.slice da D.length dc) D.length _ rfl hown2 ⟨bn,0,none⟩ 1 1 [I (max 1 (bits .and .i64 x1 (GenR.Je n))),I (1+x2)] rfl rfl ?c1 ?c2 ?c3 ?c4 hb.bel.size ?_
    case c1 =>
     intro j e hj;exact Row.j1 hN j e hj
    case c2=>intro e he;have h1:=(show (#[I (max 1 (bits .and .i64 x1 (GenR.Je n))),I (1+x2)]:Array Value).all (·.oneCell')=true from by simp [kG]);exact (k9.1 h1) e (by simpa using he)
    case c3=>unfold maxLen;have:=DL.out;omega
    case c4=>have:=DL.out;omega
    intro v' w5 hown' hgrow hnil';rw [HX.out] at hown';obtain ⟨hbk,a',c',rfl,hG⟩:=hb.j2n X hgrow hown';have c5:w5.cell? ⟨w.heap.size+1,115,none⟩=some (.slice da D.length dc):=by rw [K6 _ _ _ _ _ _ hbk];exact (j9 hb.tab).b
    have f5:w5.frozen? ⟨w.heap.size+1,115,none⟩=false:=K7 _ _ _ _ _ hbk;have HG:=hJJ hG;clear hown' hgrow hown2 hnil' hbk hG hb hN;refine hK.out _ _ trivial (fun _=>?_);clear hK K;refine tqZ 22 148 ?_ rfl (fun _ _ _ h=>HP _ _ _ _ _ h) ?_ hS ?_;rotate_left
    ·intro w' hw';go_simp
     try with_reducible rfl
    (try dsimp only [k2]);(try simp only [zA,zB,zC])
    refine rdZ 23 rfl (fun K hK=>?_);go_simp
    refine hK.out _ _ trivial (fun _=>?_);clear hK K;refine Kc (by kernel_rfl) ?_ _;clear hS c5 f5;go_wp2;go_roundw;case rel=>exact ⟨j+1,by omega,by have:=HI.out;go_num,_,by rw [NX.out];exact HG.out⟩
    case measure=>simp [intOf];have:=HI.out;omega
   go_simp
   have hbw:Below v.heap.size v (v.alloc (.cells #[I (max 1 (bits .and .i64 x1 (GenR.Je n))),I (1+x2)] 77)):=(kb _ _).alloc (kj _) _;have hN:=K8 v (.cells #[I (max 1 (bits .and .i64 x1 (GenR.Je n))),I (1+x2)] 77);replace hb:=hb.step hbw;clear hbw;generalize hbn:v.heap.size=bn at hN |-;clear hbn;generalize kn v (.cells #[I (max 1 (bits .and .i64 x1 (GenR.Je n))),I (1+x2)] 77)=v at hb hN |-;refine hK.out _ _ trivial (fun _=>?_);clear hK K;refine rdZ 1 rfl (fun K hK=>?_);have c4:v.cell? ⟨w.heap.size+1,115,none⟩=some (.slice da D.length dc):=by rw [hb.cell,<-ka];exact (j9 hb.tab).b
   go_simp
   refine hK.out _ _ trivial (fun _=>?_);clear hK K;clear c4;refine rdZ 21 rfl (fun K hK=>?_);rw [if_pos (by rfl)];have hown2:v.ownsRow w.heap.size 77 2 (.slice da D.length dc) D.length (D.flatMap Bs.cells):=hb.buses;refine Ka _ _ _ _ rfl w.heap.size 77 j0 (.agg #[I 0,I 0]) 2 16 Tryz.underlying31 hj hy0 hy1 hy2 rfl (by decide) (.slice da D.length dc) D.length _ rfl hown2 ⟨bn,0,none⟩ 1 1 [I (max 1 (bits .and .i64 x1 (GenR.Je n))),I (1+x2)] rfl rfl ?c1 ?c2 ?c3 ?c4 hb.bel.size ?_
   case c1 =>
    intro j e hj;exact Row.j1 hN j e hj
   case c2=>intro e he;have h1:=(show (#[I (max 1 (bits .and .i64 x1 (GenR.Je n))),I (1+x2)]:Array Value).all (·.oneCell')=true from by simp [kG]);exact (k9.1 h1) e (by simpa using he)
   case c3=>unfold maxLen;have:=DL.out;omega
   case c4=>have:=DL.out;omega
   intro v' w5 hown' hgrow hnil';rw [HX.out] at hown';obtain ⟨hbk,a',c',rfl,hG⟩:=hb.j2n X hgrow hown';have c5:w5.cell? ⟨w.heap.size+1,115,none⟩=some (.slice da D.length dc):=by rw [K6 _ _ _ _ _ _ hbk];exact (j9 hb.tab).b
   have f5:w5.frozen? ⟨w.heap.size+1,115,none⟩=false:=K7 _ _ _ _ _ hbk;have HG:=hJJ hG;clear hown' hgrow hown2 hnil' hbk hG hb hN;refine hK.out _ _ trivial (fun _=>?_);clear hK K;refine tqZ 22 148 ?_ rfl (fun _ _ _ h=>HP _ _ _ _ _ h) ?_ hS ?_;rotate_left
   ·intro w' hw';go_simp
    try with_reducible rfl
   (try dsimp only [k2]);(try simp only [zA,zB,zC])
   refine rdZ 23 rfl (fun K hK=>?_);go_simp
   refine hK.out _ _ trivial (fun _=>?_);clear hK K;refine Kc (by kernel_rfl) ?_ _;clear hS c5 f5;go_wp2;go_roundw;case rel=>exact ⟨j+1,by omega,by have:=HI.out;go_num,_,by rw [NX.out];exact HG.out⟩
   case measure=>simp [intOf];have:=HI.out;omega
  have hje:j=k:=by omega
  subst hje;rw [show ((j - j:Nat):Int)=(0:Int) by omega];go_wp2;exact HQ.out _ _ _ _ _ _ _ _ _ _ _ _ _ _ _ _ _ _ _ _ _ _ _ _ _ _ _ _ _ _ HB.out
end GenT
namespace GenT
open Zip
open Go.ChangeShapes Go.WideShapes Go.ChangeAt Go.RowKit
open Tab Gath GenG Clone PlaceM CodeAt
open RefS (num j2 jb)
theorem jbF (T:Tab) (x p:Int):WaitS.j15 { T with window:=x } p=WaitS.j15 T p:=rfl
theorem jbG {Q:Exit->Act->World->Prop} (a:Option Addr) (cap:Nat) (L:List Int) (w W0:World) (hd:Hd) (T:Tab) (n:Nat) (hn:n<=8) (sm:Few T) (few:T.rails.length<=1000) {f1 f5 f6 f7 f8 f9 f10 f11 f13 f14 f15 f16 f17 f18 f19 f20 f21 f22 f23 f24 f25 f26 f27 f28 f29 f30 f31 f32 f33 f34 f35 f36 f37 f38 f39 f40 f41 f42 f43 f44 f45 f46 f47 f48 f49 f50 f51 f52 f53 f54 f55 f56 f57 f58 f59 f60 f61 f62 f63 f64 f65 f66 f67 f68 f69 f70 f71 f72 f73 f74 f75 f76 f77 f78 f79 f80 f81 f82 f83 f84 f85 f86 f87 f88 f89 f90 f91 f92 f93 f94 f95 f96 f97 f98 f99 f100 f101 f102 f103 f104 f105 f106 f107 f108 f109 f110 f111 f112 f113 f114 f115 f116 f117 f118 f119 f120 f121 f122 f123 f124 f125 f126 f127 f128 f129 f130 f131 f132 f133 f134 f135 f136 f137 f138 f139 f140 f141 f142 f143 f144 f145 f146 f147 f148 f149 f150 f151 f152 f153 f154 f155 f156 f157 f158 f159 f160 f161 f162 f163 f164 f165 f166 f167 f168 f169 f170 f171 f172 f173 f174 f175 f176 f177 f178 f179 f180 f181 f182 f183 f184 f185:Value}
  (HL:Hid (∀ W,Below w.heap.size w W->jc W ⟨a,cap⟩ L)) (BX:Hid (Bx w hd { T with window:=0 } W0))
  (HP:∀ c a d v w,Q (.panic c) (a.put d v) w->Q (.panic c) a w) (HQ:Hid (∀ (x12 x167 x168 x169 x170 x171 x172 x173 x174 x175 x176 x177 x178 x179 x180 x181 x182 x183 x184:Value) (W':World),Bx w hd { T with window:=if T.rails.length=0 then 0 else j1z T n } W'->Q (.exit 12) ⟨#[kq a L.length cap,f1,k6 (some ⟨w.heap.size,0,none⟩),k6 (some ⟨w.heap.size+1,0,none⟩),km .i64 (n:Nat),f5,f6,f7,f8,f9,f10,f11,x12,f13,f14,f15,f16,f17,f18,f19,f20,f21,f22,f23,f24,f25,f26,f27,f28,f29,f30,f31,f32,f33,f34,f35,f36,f37,f38,f39,f40,f41,f42,f43,f44,f45,f46,f47,f48,f49,f50,f51,f52,f53,f54,f55,f56,f57,f58,f59,f60,f61,f62,f63,f64,f65,f66,f67,f68,f69,f70,f71,f72,f73,f74,f75,f76,f77,f78,f79,f80,f81,f82,f83,f84,f85,f86,f87,f88,f89,f90,f91,f92,f93,f94,f95,f96,f97,f98,f99,f100,f101,f102,f103,f104,f105,f106,f107,f108,f109,f110,f111,f112,f113,f114,f115,f116,f117,f118,f119,f120,f121,f122,f123,f124,f125,f126,f127,f128,f129,f130,f131,f132,f133,f134,f135,f136,f137,f138,f139,f140,f141,f142,f143,f144,f145,f146,f147,f148,f149,f150,f151,f152,f153,f154,f155,f156,f157,f158,f159,f160,f161,f162,f163,f164,f165,f166,x167,x168,x169,x170,x171,x172,x173,x174,x175,x176,x177,x178,x179,x180,x181,x182,x183,x184,f185],[]⟩ W')) :
  (lp 39 Tryz.f11).wp Tryz.prog Q ⟨#[kq a L.length cap,f1,k6 (some ⟨w.heap.size,0,none⟩),k6 (some ⟨w.heap.size+1,0,none⟩),km .i64 (n:Nat),f5,f6,f7,f8,f9,f10,f11,km .i64 0,f13,f14,f15,f16,f17,f18,f19,f20,f21,f22,f23,f24,f25,f26,f27,f28,f29,f30,f31,f32,f33,f34,f35,f36,f37,f38,f39,f40,f41,f42,f43,f44,f45,f46,f47,f48,f49,f50,f51,f52,f53,f54,f55,f56,f57,f58,f59,f60,f61,f62,f63,f64,f65,f66,f67,f68,f69,f70,f71,f72,f73,f74,f75,f76,f77,f78,f79,f80,f81,f82,f83,f84,f85,f86,f87,f88,f89,f90,f91,f92,f93,f94,f95,f96,f97,f98,f99,f100,f101,f102,f103,f104,f105,f106,f107,f108,f109,f110,f111,f112,f113,f114,f115,f116,f117,f118,f119,f120,f121,f122,f123,f124,f125,f126,f127,f128,f129,f130,f131,f132,f133,f134,f135,f136,f137,f138,f139,f140,f141,f142,f143,f144,f145,f146,f147,f148,f149,f150,f151,f152,f153,f154,f155,f156,f157,f158,f159,f160,f161,f162,f163,f164,f165,f166,f167,f168,f169,f170,f171,f172,f173,f174,f175,f176,f177,f178,f179,f180,f181,f182,f183,f184,f185],[]⟩ W0:=by
 conv=>arg 2;whnf
 dsimp only;have SMC:Hid (∀ x:Int,Few { T with window:=x }):=hJJ (fun x=>⟨sm.groups,sm.rows⟩);go_loopw [12] (fun i wr=>∃ q:Nat,q<=n/\i=.int .i64 q/\(T.rails.length=0->q=0)/\Bx w hd { T with window:=j1z T q } wr) (fun i _=>n - (intOf i).toNat)
 case atStart=>exact ⟨0,by omega,rfl,fun _=>rfl,BX.out⟩
 case round =>
  obtain ⟨q,hq,rfl,hq0,hbx⟩:=hrel;have HB:=hJJ hbx;clear hbx BX;have NX:Hid (j1z T (q+1)=max (j1z T q) (WaitS.j15 T q)):=hJJ rfl;obtain ⟨sg,sd,⟨ra,rc⟩,sb⟩:=hd;have c114:wr.cell? ⟨w.heap.size+1,114,none⟩=some (.slice ra T.rails.length rc):=by rw [HB.out.cell,<-ka];exact (j9 HB.out.tab).r
  by_cases hlt:q < n
  ·by_cases hr:T.rails.length=0
   ·have hq1:=hq0 hr;have HQ2:Hid ((if T.rails.length=0 then 0 else j1z T n)=j1z T q):=hJJ (by rw [if_pos hr,hq1];rfl);have HB2:Hid (Bx w ⟨sg,sd,⟨ra,rc⟩,sb⟩ { T with window:=if T.rails.length=0 then 0 else j1z T n } wr):=hJJ (by rw [HQ2.out];exact HB.out);clear HQ2 HB NX hq0;go_wp2;exact HQ.out _ _ _ _ _ _ _ _ _ _ _ _ _ _ _ _ _ _ _ _ HB2.out
   generalize j1z T q=m at *
   have WC:Hid (∀ W,Bx w ⟨sg,sd,⟨ra,rc⟩,sb⟩ { T with window:=m } W->Calls Tryz.prog 40 #[.agg (({ T with window:=m }:Tab).cells ⟨sg,sd,⟨ra,rc⟩,sb⟩).toArray,.int .i64 q] W fun e w'=>e=.returned (.int .i64 (WaitS.j15 T q))/\Below W.heap.size W w'):=hJJ (fun W hb=>by
    have:=WaitS.jbv { T with window:=m } ⟨sg,sd,⟨ra,rc⟩,sb⟩ q W hb.tab (SMC.out m) few;rw [jbF] at this;exact this)
   have IA:Hid ((Tryz.prog.info? 33).map (·.size)=some (({ T with window:=m }:Tab).cells ⟨sg,sd,⟨ra,rc⟩,sb⟩).length):=hJJ (by rw [j0o _ HB.out.ph HB.out.cf HB.out.fl];exact May.jK);generalize WaitS.j15 T q=z at NX WC;generalize hcs:({ T with window:=m }:Tab).cells ⟨sg,sd,⟨ra,rc⟩,sb⟩=cs at WC IA;go_upto_region 41 with fail
   clear c114;refine Kf (S:=fun _=>True) (by kernel_rfl) ?_;have hS:True:=trivial;have hb:Bx w ⟨sg,sd,⟨ra,rc⟩,sb⟩ { T with window:=m } { wr with drawn:=wr.drawn+1 }:=HB.out.step (kb _ _).drew;generalize ({ wr with drawn:=wr.drawn+1 }:World)=v at hb |-;clear HB;refine tqZ 0 178 ?_ rfl (fun _ _ _ h=>HP _ _ _ _ _ h) ?_ hS ?_;rotate_left
   ·intro w' hw';go_simp
    try with_reducible rfl
   (try dsimp only [k2]);(try simp only [zA,zB,zC])
   refine tqZ 3 181 ?_ rfl (fun _ _ _ h=>HP _ _ _ _ _ h) ?_ hS ?_;rotate_left
   ·intro w' hw';go_simp
    try with_reducible rfl
   (try dsimp only [k2]);(try simp only [zA,zB,zC])
   refine j1d 1 2 rfl rfl (fun K hK=>?_) (fun K hK=>?_)
   ·have c4:v.cell? ⟨w.heap.size+1,129,none⟩=some (.int .i64 m):=by rw [hb.cell,<-ka];exact (j9 hb.tab).window
    go_simp
    refine hK.out _ _ trivial (fun _=>?_);clear hK K;clear c4;refine rdZ 2 rfl (fun K hK=>?_);rw [if_pos (by rfl)];have LT:jl v ⟨w.heap.size+1,0,none⟩ cs:=by have:=Row.j1 hb.blk;rw [hcs] at this;simpa using this
    refine Row.Ji 33 _ rfl ⟨w.heap.size+1,0,none⟩ rfl cs _ LT Tryz.underlying33 rfl IA.out ?_
    (try dsimp only [k2]);(try simp only [zA,zB,zC])
    refine hK.out _ _ trivial (fun _=>?_);clear hK K;clear LT;refine rdZ 4 rfl (fun K hK=>?_);go_simp
    refine (WC.out _ hb).mono ?_;rintro e v2 ⟨rfl,hbb⟩;replace hb:=hb.step hbb;clear hbb;rename World=>v
    go_simp
    refine hK.out _ _ trivial (fun _=>?_);clear hK K;refine tqZ 5 183 (.int .i64 (max m z)) rfl (fun _ _ _ h=>HP _ _ _ _ _ h) ?_ hS ?_
    ·intro w' hw';go_simp
     try (first | rfl | (simp only [kt];split <;> split <;> omega))
    (try dsimp only [k2]);(try simp only [zA,zB,zC])
    refine tqZ 6 184 ?_ rfl (fun _ _ _ h=>HP _ _ _ _ _ h) ?_ hS ?_;rotate_left
    ·intro w' hw';go_simp
     try with_reducible rfl
    (try dsimp only [k2]);(try simp only [zA,zB,zC])
    refine rdZ 7 rfl (fun K hK=>?_);have c5:v.cell? ⟨w.heap.size+1,129,none⟩=some (.int .i64 m):=by rw [hb.cell,<-ka];exact (j9 hb.tab).window
    have f5:=hb.frozen 129;have HG:=hJJ (hb.set 129 (I (max m z)) (j1A ⟨sg,sd,⟨ra,rc⟩,sb⟩ hb.ph hb.cf hb.fl (max m z)) hb.ph hb.cf hb.fl rfl rfl rfl rfl);clear hb;go_simp
    refine hK.out _ _ trivial (fun _=>?_);clear hK K;refine Kc (by kernel_rfl) ?_ _;clear hS c5 f5;go_wp2;go_roundw;case rel=>exact ⟨q+1,by omega,by go_num,fun e=>(hr e).elim,by rw [NX.out];exact HG.out⟩
    case measure=>simp [intOf];omega
   rw [if_pos (by rfl)];have LT:jl v ⟨w.heap.size+1,0,none⟩ cs:=by have:=Row.j1 hb.blk;rw [hcs] at this;simpa using this
   refine Row.Ji 33 _ rfl ⟨w.heap.size+1,0,none⟩ rfl cs _ LT Tryz.underlying33 rfl IA.out ?_
   (try dsimp only [k2]);(try simp only [zA,zB,zC])
   refine hK.out _ _ trivial (fun _=>?_);clear hK K;clear LT;refine j1d 1 4 rfl rfl (fun K hK=>?_) (fun K hK=>?_)
   ·have c4:v.cell? ⟨w.heap.size+1,129,none⟩=some (.int .i64 m):=by rw [hb.cell,<-ka];exact (j9 hb.tab).window
    go_simp
    refine hK.out _ _ trivial (fun _=>?_);clear hK K;clear c4;refine rdZ 4 rfl (fun K hK=>?_);go_simp
    refine (WC.out _ hb).mono ?_;rintro e v2 ⟨rfl,hbb⟩;replace hb:=hb.step hbb;clear hbb;rename World=>v
    go_simp
    refine hK.out _ _ trivial (fun _=>?_);clear hK K;refine tqZ 5 183 (.int .i64 (max m z)) rfl (fun _ _ _ h=>HP _ _ _ _ _ h) ?_ hS ?_
    ·intro w' hw';go_simp
     try (first | rfl | (simp only [kt];split <;> split <;> omega))
    (try dsimp only [k2]);(try simp only [zA,zB,zC])
    refine tqZ 6 184 ?_ rfl (fun _ _ _ h=>HP _ _ _ _ _ h) ?_ hS ?_;rotate_left
    ·intro w' hw';go_simp
     try with_reducible rfl
    (try dsimp only [k2]);(try simp only [zA,zB,zC])
    refine rdZ 7 rfl (fun K hK=>?_);have c5:v.cell? ⟨w.heap.size+1,129,none⟩=some (.int .i64 m):=by rw [hb.cell,<-ka];exact (j9 hb.tab).window
    have f5:=hb.frozen 129;have HG:=hJJ (hb.set 129 (I (max m z)) (j1A ⟨sg,sd,⟨ra,rc⟩,sb⟩ hb.ph hb.cf hb.fl (max m z)) hb.ph hb.cf hb.fl rfl rfl rfl rfl);clear hb;go_simp
    refine hK.out _ _ trivial (fun _=>?_);clear hK K;refine Kc (by kernel_rfl) ?_ _;clear hS c5 f5;go_wp2;go_roundw;case rel=>exact ⟨q+1,by omega,by go_num,fun e=>(hr e).elim,by rw [NX.out];exact HG.out⟩
    case measure=>simp [intOf];omega
   go_simp
   refine (WC.out _ hb).mono ?_;rintro e v2 ⟨rfl,hbb⟩;replace hb:=hb.step hbb;clear hbb;rename World=>v
   go_simp
   refine hK.out _ _ trivial (fun _=>?_);clear hK K;refine rdZ 1 rfl (fun K hK=>?_);have c4:v.cell? ⟨w.heap.size+1,129,none⟩=some (.int .i64 m):=by rw [hb.cell,<-ka];exact (j9 hb.tab).window
   go_simp
   refine hK.out _ _ trivial (fun _=>?_);clear hK K;clear c4;refine tqZ 5 183 (.int .i64 (max m z)) rfl (fun _ _ _ h=>HP _ _ _ _ _ h) ?_ hS ?_
   ·intro w' hw';go_simp
    try (first | rfl | (simp only [kt];split <;> split <;> omega))
   (try dsimp only [k2]);(try simp only [zA,zB,zC])
   refine tqZ 6 184 ?_ rfl (fun _ _ _ h=>HP _ _ _ _ _ h) ?_ hS ?_;rotate_left
   ·intro w' hw';go_simp
    try with_reducible rfl
   (try dsimp only [k2]);(try simp only [zA,zB,zC])
   refine rdZ 7 rfl (fun K hK=>?_);have c5:v.cell? ⟨w.heap.size+1,129,none⟩=some (.int .i64 m):=by rw [hb.cell,<-ka];exact (j9 hb.tab).window
   have f5:=hb.frozen 129;have HG:=hJJ (hb.set 129 (I (max m z)) (j1A ⟨sg,sd,⟨ra,rc⟩,sb⟩ hb.ph hb.cf hb.fl (max m z)) hb.ph hb.cf hb.fl rfl rfl rfl rfl);clear hb;go_simp
   refine hK.out _ _ trivial (fun _=>?_);clear hK K;refine Kc (by kernel_rfl) ?_ _;clear hS c5 f5;go_wp2;go_roundw;case rel=>exact ⟨q+1,by omega,by go_num,fun e=>(hr e).elim,by rw [NX.out];exact HG.out⟩
   case measure=>simp [intOf];omega
  have hqe:q=n:=by omega
  by_cases hr:T.rails.length=0
  ·have hq1:=hq0 hr;have HB2:Hid (Bx w ⟨sg,sd,⟨ra,rc⟩,sb⟩ { T with window:=if T.rails.length=0 then 0 else j1z T n } wr):=hJJ (by rw [if_pos hr];have:=HB.out;rw [hq1] at this;exact this);clear HB NX hq0 hq1;subst hqe;go_wp2;exact HQ.out _ _ _ _ _ _ _ _ _ _ _ _ _ _ _ _ _ _ _ _ HB2.out
  have HB2:Hid (Bx w ⟨sg,sd,⟨ra,rc⟩,sb⟩ { T with window:=if T.rails.length=0 then 0 else j1z T n } wr):=hJJ (by rw [if_neg hr];have:=HB.out;rw [hqe] at this;exact this);clear HB NX hq0;subst hqe;go_wp2;exact HQ.out _ _ _ _ _ _ _ _ _ _ _ _ _ _ _ _ _ _ _ _ HB2.out
end GenT
namespace GenT
open Zip
open Go.ChangeShapes Go.WideShapes Go.ChangeAt Go.RowKit
open Tab Gath GenG Clone PlaceM CodeAt
open RefS (num j2 jb)
theorem jbH (a:Option Addr) (cap:Nat) (L:List Int) (w W0:World) (hd0:Hd) (T0:Tab) (n8:J9 L<=8) (HL:Hid (∀ W,Below w.heap.size w W->jc W ⟨a,cap⟩ L)) (BX:Hid (Bx w hd0 T0 W0))
  (TS:{ T0 with extend:=num L 178 12,budget:=num L 179 40,start:=num L 180 8,revert:=num L 181 8,least:=num L 182 12,share:=num L 183 4 }=j0n L) (kR:Nat) (lR:kR<=20) (LR:Hid ((j0n L).rails.length=kR)) (GT2:Hid (jj L=if kR=0 then j0n L else { j0n L with window:=j1z (j0n L) (J9 L) })) {f1 f5 f6 f7 f8 f9 f10 f11 f12 f13 f14 f15 f16 f17 f18 f19 f20 f21 f22 f23 f24 f25 f26 f27 f28 f29 f30 f31 f32 f33 f34 f35 f36 f37 f38 f39 f40 f41 f42 f43 f44 f45 f46 f47 f48 f49 f50 f51 f52 f53 f54 f55 f56 f57 f58 f59 f60 f61 f62 f63 f64 f65 f66 f67 f68 f69 f70 f71 f72 f73 f74 f75 f76 f77 f78 f79 f80 f81 f82 f83 f84 f85 f86 f87 f88 f89 f90 f91 f92 f93 f94 f95 f96 f97 f98 f99 f100 f101 f102 f103 f104 f105 f106 f107 f108 f109 f110 f111 f112 f113 f114 f115 f116 f117 f118 f119 f120 f121 f122 f123 f124 f125 f126 f127 f128 f129 f130 f131 f132 f133 f134 f135 f136 f137 f138 f139 f140 f141 f142 f143 f144 f145 f146 f147 f148 f149 f150 f151 f152 f153 f154 f155 f156 f157 f158 f159 f160 f161 f162 f163 f164 f165 f166 f167 f168 f169 f170 f171 f172 f173 f174 f175 f176 f177 f178 f179 f180 f181 f182 f183 f184 f185:Value} :
  (sq 32 Tryz.f11).wp Tryz.prog (bodyPost Tryz.prog Tryz.f11 fun e w'=>∃ hd,e=.returned (.agg ((jj L).cells hd).toArray)/\jy w' hd (jj L)/\jcZ w.heap.size w' hd (jj L)/\Below w.heap.size w w') ⟨#[kq a L.length cap,f1,k6 (some ⟨w.heap.size,0,none⟩),k6 (some ⟨w.heap.size+1,0,none⟩),km .i64 (J9 L:Nat),f5,f6,f7,f8,f9,f10,f11,f12,f13,f14,f15,f16,f17,f18,f19,f20,f21,f22,f23,f24,f25,f26,f27,f28,f29,f30,f31,f32,f33,f34,f35,f36,f37,f38,f39,f40,f41,f42,f43,f44,f45,f46,f47,f48,f49,f50,f51,f52,f53,f54,f55,f56,f57,f58,f59,f60,f61,f62,f63,f64,f65,f66,f67,f68,f69,f70,f71,f72,f73,f74,f75,f76,f77,f78,f79,f80,f81,f82,f83,f84,f85,f86,f87,f88,f89,f90,f91,f92,f93,f94,f95,f96,f97,f98,f99,f100,f101,f102,f103,f104,f105,f106,f107,f108,f109,f110,f111,f112,f113,f114,f115,f116,f117,f118,f119,f120,f121,f122,f123,f124,f125,f126,f127,f128,f129,f130,f131,f132,f133,f134,f135,f136,f137,f138,f139,f140,f141,f142,f143,f144,f145,f146,f147,f148,f149,f150,f151,f152,f153,f154,f155,f156,f157,f158,f159,f160,f161,f162,f163,f164,f165,f166,f167,f168,f169,f170,f171,f172,f173,f174,f175,f176,f177,f178,f179,f180,f181,f182,f183,f184,f185],[]⟩ W0:=by
 conv=>arg 2;whnf
 dsimp only;obtain ⟨n0,hn0,F0⟩:∃ x:Int,x=num L 178 12/\Hid (∀ W,Below w.heap.size w W->Calls Tryz.prog 36 #[.slice a L.length cap,.int .i64 178,.int .i64 12] W fun e w'=>e=.returned (.int .i64 x)/\w'=W):=⟨_,rfl,hJJ (fun W hb=>(jb a cap L _ _ W (HL.out _ hb) (by omega) (by omega) (by omega)).mono fun _ _ ⟨e,q⟩=>⟨e,q.symm⟩)⟩;obtain ⟨n1,hn1,F1⟩:∃ x:Int,x=num L 179 40/\Hid (∀ W,Below w.heap.size w W->Calls Tryz.prog 36 #[.slice a L.length cap,.int .i64 179,.int .i64 40] W fun e w'=>e=.returned (.int .i64 x)/\w'=W):=⟨_,rfl,hJJ (fun W hb=>(jb a cap L _ _ W (HL.out _ hb) (by omega) (by omega) (by omega)).mono fun _ _ ⟨e,q⟩=>⟨e,q.symm⟩)⟩;obtain ⟨n2,hn2,F2⟩:∃ x:Int,x=num L 180 8/\Hid (∀ W,Below w.heap.size w W->Calls Tryz.prog 36 #[.slice a L.length cap,.int .i64 180,.int .i64 8] W fun e w'=>e=.returned (.int .i64 x)/\w'=W):=⟨_,rfl,hJJ (fun W hb=>(jb a cap L _ _ W (HL.out _ hb) (by omega) (by omega) (by omega)).mono fun _ _ ⟨e,q⟩=>⟨e,q.symm⟩)⟩;obtain ⟨n3,hn3,F3⟩:∃ x:Int,x=num L 181 8/\Hid (∀ W,Below w.heap.size w W->Calls Tryz.prog 36 #[.slice a L.length cap,.int .i64 181,.int .i64 8] W fun e w'=>e=.returned (.int .i64 x)/\w'=W):=⟨_,rfl,hJJ (fun W hb=>(jb a cap L _ _ W (HL.out _ hb) (by omega) (by omega) (by omega)).mono fun _ _ ⟨e,q⟩=>⟨e,q.symm⟩)⟩;obtain ⟨n4,hn4,F4⟩:∃ x:Int,x=num L 182 12/\Hid (∀ W,Below w.heap.size w W->Calls Tryz.prog 36 #[.slice a L.length cap,.int .i64 182,.int .i64 12] W fun e w'=>e=.returned (.int .i64 x)/\w'=W):=⟨_,rfl,hJJ (fun W hb=>(jb a cap L _ _ W (HL.out _ hb) (by omega) (by omega) (by omega)).mono fun _ _ ⟨e,q⟩=>⟨e,q.symm⟩)⟩;obtain ⟨n5,hn5,F5⟩:∃ x:Int,x=num L 183 4/\Hid (∀ W,Below w.heap.size w W->Calls Tryz.prog 36 #[.slice a L.length cap,.int .i64 183,.int .i64 4] W fun e w'=>e=.returned (.int .i64 x)/\w'=W):=⟨_,rfl,hJJ (fun W hb=>(jb a cap L _ _ W (HL.out _ hb) (by omega) (by omega) (by omega)).mono fun _ _ ⟨e,q⟩=>⟨e,q.symm⟩)⟩;have TS2:Hid (j5p T0 [n0,n1,n2,n3,n4,n5]=j0n L):=hJJ (by rw [hn0,hn1,hn2,hn3,hn4,hn5,<-TS];rfl);have BY0:Hid (Bx w hd0 (j5p T0 []) W0):=BX;clear hn0 hn1 hn2 hn3 hn4 hn5 TS BX;go_wp2_with fail
 refine (F0.out _ BY0.out.bel).mono ?_;rintro e w' ⟨rfl,hq⟩;subst w';obtain ⟨⟨old,c0⟩,f0,hs⟩:=j1k BY0.out n0 116 0 rfl (by omega);have BY1:Hid (Bx w hd0 (j5p T0 [n0]) _):=hJJ hs;clear hs BY0 F0;go_upto_region 33 with fail
 clear c0 f0;go_wp2_with fail
 refine (F1.out _ BY1.out.bel).mono ?_;rintro e w' ⟨rfl,hq⟩;subst w';obtain ⟨⟨old,c0⟩,f0,hs⟩:=j1k BY1.out n1 117 1 rfl (by omega);have BY2:Hid (Bx w hd0 (j5p T0 [n0,n1]) _):=hJJ hs;clear hs BY1 F1;go_upto_region 34 with fail
 clear c0 f0;go_wp2_with fail
 refine (F2.out _ BY2.out.bel).mono ?_;rintro e w' ⟨rfl,hq⟩;subst w';obtain ⟨⟨old,c0⟩,f0,hs⟩:=j1k BY2.out n2 118 2 rfl (by omega);have BY3:Hid (Bx w hd0 (j5p T0 [n0,n1,n2]) _):=hJJ hs;clear hs BY2 F2;go_upto_region 35 with fail
 clear c0 f0;go_wp2_with fail
 refine (F3.out _ BY3.out.bel).mono ?_;rintro e w' ⟨rfl,hq⟩;subst w';obtain ⟨⟨old,c0⟩,f0,hs⟩:=j1k BY3.out n3 119 3 rfl (by omega);have BY4:Hid (Bx w hd0 (j5p T0 [n0,n1,n2,n3]) _):=hJJ hs;clear hs BY3 F3;go_upto_region 36 with fail
 clear c0 f0;go_wp2_with fail
 refine (F4.out _ BY4.out.bel).mono ?_;rintro e w' ⟨rfl,hq⟩;subst w';obtain ⟨⟨old,c0⟩,f0,hs⟩:=j1k BY4.out n4 120 4 rfl (by omega);have BY5:Hid (Bx w hd0 (j5p T0 [n0,n1,n2,n3,n4]) _):=hJJ hs;clear hs BY4 F4;go_upto_region 37 with fail
 clear c0 f0;go_wp2_with fail
 refine (F5.out _ BY5.out.bel).mono ?_;rintro e w' ⟨rfl,hq⟩;subst w';obtain ⟨⟨old,c0⟩,f0,hs⟩:=j1k BY5.out n5 130 5 rfl (by omega);have BY6:Hid (Bx w hd0 (j5p T0 [n0,n1,n2,n3,n4,n5]) _):=hJJ hs;clear hs BY5 F5;go_upto_region 38 with fail
 clear c0 f0;have BZ:Hid (Bx w hd0 (j0n L) _):=hJJ (by rw [<-TS2.out];exact BY6.out);clear TS2 BY6;go_wp2_with fail
 refine jbG a cap L w _ hd0 (j0n L) (J9 L) n8 (jbz L) (by rw [LR.out];omega) HL (hJJ (by rw [j23];exact BZ.out)) (fun _ _ d _ _ h=>by cases d <;> exact h) (hJJ ?_);intro v6_12 v6_167 v6_168 v6_169 v6_170 v6_171 v6_172 v6_173 v6_174 v6_175 v6_176 v6_177 v6_178 v6_179 v6_180 v6_181 v6_182 v6_183 v6_184 w7 hb7
 have BE:Hid (Bx w hd0 (jj L) w7):=hJJ (by
  rw [GT2.out];rw [LR.out] at hb7;by_cases e:kR=0
  ·rw [if_pos e] at hb7 |-;rw [j23] at hb7;exact hb7
  rw [if_neg e] at hb7 |-;exact hb7)
 clear hb7 BZ LR GT2;dsimp only;obtain ⟨w8,hst,hbk,htab,hown,hbel⟩:=BE.out.j9T;have IA:Hid ((Tryz.prog.info? 33).map (·.size)=some ((jj L).cells hd0).length):=hJJ (by rw [j0o _ BE.out.ph BE.out.cf BE.out.fl];exact May.jK);have LT:Hid (jl w7 ⟨w.heap.size+1,0,none⟩ ((jj L).cells hd0)):=hJJ (by have:=Row.j1 BE.out.blk;simpa using this);have FIN:Hid (∃ hd,Ending.returned (.agg ((jj L).cells hd0).toArray)=.returned (.agg ((jj L).cells hd).toArray)/\jy w8 hd (jj L)/\jcZ w.heap.size w8 hd (jj L)/\Below w.heap.size w w8):=hJJ ⟨hd0,rfl,htab,hown,hbel⟩;have HK:=hJJ hbk;have csl:=j0o hd0 BE.out.ph BE.out.cf BE.out.fl;clear hbk htab hown hbel BE;generalize (jj L).cells hd0=cs at *;go_wp2_with (refine lgZ 33 ⟨w.heap.size+1,0,none⟩ cs rfl LT.out Tryz.underlying33 IA.out ?_)
 (try simp only [kY,Exit.then])
 refine bodyPost_ret (v:=.agg cs.toArray) ?_ rfl FIN.out;exact results_cell_row rfl _ _ w.heap.size 33 _ (0,0) _ rfl HK.out Tryz.underlying33 rfl (by have:=IA.out;simpa using this)
end GenT
namespace GenT
open Zip
open Go.ChangeShapes Go.WideShapes Go.ChangeAt Go.RowKit
open Tab Gath GenG Clone PlaceM CodeAt
open RefS (num j2 jb)
theorem ja0 (a:Option Addr) (cap:Nat) (L:List Int) (w:World) (h:jc w ⟨a,cap⟩ L) :
  Calls Tryz.prog 11 #[.slice a L.length cap] w fun e w'=>∃ hd,e=.returned (.agg ((jj L).cells hd).toArray)/\jy w' hd (jj L)/\jcZ w.heap.size w' hd (jj L)/\Below w.heap.size w w':=by
 have HL:Hid (∀ W,Below w.heap.size w W->jc W ⟨a,cap⟩ L):=hJJ (fun W hb=>h.below hb);have SM1:=hJJ (j57 L);have GT:Hid (jj L=if (num L 176 4 % 3).toNat=0 then j0n L else { j0n L with window:=j1z (j0n L) (J9 L) }):=hJJ rfl;have TF:Hid (j19 L=if num L 174 ((J9 L:Int)+1) < J9 L then { j3y L with flash:=(j3y L).flash.set (num L 174 ((J9 L:Int)+1)).toNat 2 } else j3y L):=hJJ rfl;have TC0:Hid ({ j8a L (J9 L) with conflict:=call L (j8a L (J9 L)) (j8a L (J9 L)).conflict (J9 L) }=j3y L):=hJJ (by rw [j5O (T:=j8a L (J9 L)) (U:=j3x L) rfl];rfl);have n8:=j56 L;have n1:=j7F L;have hz:=(Kn jeD).1;have Z104:(jB.cells zHd)[104]?=some (.slice none 0 0):=rfl;have ZL:(jB.cells zHd).length=131:=rfl;have B0:Hid (Below w.heap.size w ((w.alloc (.cells (jB.cells zHd).toArray 33)).alloc (.cells (jB.cells zHd).toArray 33))):=hJJ (((kb _ _).alloc (kj _) _).alloc (by simp) _);have S0:Hid (((w.alloc (.cells (jB.cells zHd).toArray 33)).alloc (.cells (jB.cells zHd).toArray 33)).heap.size=w.heap.size+2):=hJJ (by simp);have R0:Hid (((w.alloc (.cells (jB.cells zHd).toArray 33)).alloc (.cells (jB.cells zHd).toArray 33)).heap[w.heap.size]?=some (.cells (jB.cells zHd).toArray 33 (0,0))):=hJJ (Kl w _ _);have R1:Hid (((w.alloc (.cells (jB.cells zHd).toArray 33)).alloc (.cells (jB.cells zHd).toArray 33)).heap[w.heap.size+1]?=some (.cells (jB.cells zHd).toArray 33 (0,0))):=hJJ (Km w _ _);have FST:Hid (∀ (W0 W:World) (ga:Option Addr) (gc:Nat) (gs:List Gr),Below w.heap.size w W0->W0.heap.size=w.heap.size+2->W0.heap[w.heap.size]?=some (.cells (jB.cells zHd).toArray 33 (0,0))->gs.map Gr.data=j13 L->GS W0 (w.heap.size+1) (jB.cells zHd) ga gc (j0e L) gs W->Bx w ⟨⟨ga,gc⟩,⟨none,0⟩,⟨none,0⟩,⟨none,0⟩⟩ (j3x L) W):=hJJ (fun W0 W ga gc gs=>Bx.first);generalize hZ:jB.cells zHd=Z at *;clear hZ;go_enter Tryz.func11,Tryz.ntmps11
 go_upto_region 2 with fail
 generalize (w.alloc (.cells Z.toArray 33)).alloc (.cells Z.toArray 33)=W0 at B0 S0 R0 R1 |-;go_wp2_with fail
 refine (jbD (w.heap.size+1) a cap L Z W0 R1.out ZL Z104 (hJJ (fun W hg=>HL.out W ⟨hg.os.trans B0.out.os,hg.tape.trans B0.out.tape,hg.output.trans B0.out.output,by have:=hg.size;have:=S0.out;omega,fun j hj=>(hg.block j (by have:=S0.out;omega) (fun e=>by simp at e;omega)).trans (B0.out.block j hj)⟩))).mono ?_;rintro e w1 ⟨ga,gc,gs,rfl,hdt,hgs⟩;have BX:=hJJ (FST.out W0 w1 ga gc gs B0.out S0.out R0.out hdt hgs);clear hdt hgs hz Z104 ZL B0 S0 R0 R1 FST h;go_wp2_with fail
 refine jd6 a cap L w w1 _ (j3x L) (J9 L) n8 HL BX (fun _ _ d _ _ h=>by cases d <;> exact h) (hJJ ?_);intro y5 y15 y16 y17 y18 y19 y20 y21 y22 y23 y24 y25 y26 y27 y28 y29 y30 w2 hb2;have BX2:Hid (Bx w _ (j8a L (J9 L)) w2):=hJJ hb2;clear hb2 BX;dsimp only;go_wp2_with fail
 refine jd7 a cap L w w2 _ (j8a L (J9 L)) (J9 L) n8 ⟨SM1.out.groups,SM1.out.rows⟩ HL BX2 (fun _ _ d _ _ h=>by cases d <;> exact h) (hJJ ?_);intro z6 z7 z31 z32 z33 z34 z35 z36 z37 z38 z39 z40 z41 z42 z43 z44 z45 z46 z47 z48 z49 z50 z51 z52 z53 z54 z55 z56 z57 z58 z59 z60 z61 z62 z63 z64 z65 z66 z67 z68 z69 z70 z71 z72 z73 w3 hb3;have BX3:Hid (Bx w _ (j3y L) w3):=hJJ (by rw [TC0.out] at hb3;exact hb3);clear hb3 BX2 TC0;dsimp only;have hp:=j2 L 174 ((J9 L:Int)+1) (by omega);go_upto_region 17 with fail
 go_wp2_with fail
 refine (jb a cap L _ _ w3 (HL.out _ BX3.out.bel) (by omega) (by omega) (by omega)).mono ?_;rintro e w' ⟨rfl,rfl⟩
 go_upto_if 80 with fail
 go_cut [8] from 74 (fun t8 wx=>Bx w ⟨⟨ga,gc⟩,⟨none,0⟩,⟨none,0⟩,⟨none,0⟩⟩ (j19 L) wx)
 case first =>
  generalize num L 174 ((J9 L:Int)+1)=p at *;by_cases hlt:p < (J9 L:Int)
  ·obtain ⟨k,rfl⟩:=Int.eq_ofNat_of_zero_le hp.1;have TE:Hid (j19 L={ j3y L with flash:=(j3y L).flash.set k 2 }):=hJJ (by rw [TF.out,if_pos hlt];rfl);have hs:=BX3.out.set (121+k) (I 2) (j3V _ BX3.out.ph BX3.out.cf BX3.out.fl k (by omega) 2) BX3.out.ph BX3.out.cf (by simp [BX3.out.fl]) rfl rfl rfl rfl;have c7:w3.cell? ⟨w.heap.size+1,121+k,none⟩=some (I ((j3y L).flash.getD k 0)):=(j1c BX3.out.blk 121 8 _ (j9 BX3.out.tab).flash) k _ (by rw [kp,kF,kd (show k < (j3y L).flash.length by rw [BX3.out.fl];omega)];rfl);have f7:=BX3.out.frozen (121+k);rw [<-TE.out] at hs;have HS:=hJJ hs;generalize (j3y L).flash.getD k 0=old at c7;clear hs BX3 TE TF;go_wp2_with fail
   go_meet
   exact HS.out
  have HS:Hid (Bx w ⟨⟨ga,gc⟩,⟨none,0⟩,⟨none,0⟩,⟨none,0⟩⟩ (j19 L) w3):=hJJ (by rw [TF.out,if_neg hlt];exact BX3.out);clear BX3 TF;go_wp2_with fail
  go_meet
  exact HS.out
 case rest =>
  have BX4:=hJJ hcut;clear hcut BX3 TF hp;obtain ⟨kd0,kd1⟩:=j2 L 175 9 (by omega);obtain ⟨kr0,kr1⟩:=j2 L 176 4 (by omega);obtain ⟨kb0,kb1⟩:=j2 L 177 3 (by omega);obtain ⟨kD,hkD⟩:∃ k,k=(num L 175 9).toNat:=⟨_,rfl⟩;obtain ⟨kR,hkR⟩:∃ k,k=(num L 176 4 % 3).toNat:=⟨_,rfl⟩;obtain ⟨kB,hkB⟩:∃ k,k=(num L 177 3).toNat:=⟨_,rfl⟩;have ED:Hid (num L 175 9=(kD:Int)):=hJJ (by omega);have ER:Hid ((num L 176 4).tmod 3=(kR:Int)):=hJJ (by rw [Int.tmod_eq_emod_of_nonneg kr0];omega);have EB:Hid (num L 177 3=(kB:Int)):=hJJ (by omega);have lD:kD<=20:=by omega
  have lR:kR<=20:=by omega
  have lB:kB<=20:=by omega
  have TD:Hid ({ j19 L with dets:=down (fun i:Nat=>GenD.Jq L (180+8*i) (J9 L)) kD kD }=j37 L kD):=hJJ (by rw [hkD];rfl)
  have TR:Hid ({ j37 L kD with rails:=down (fun i:Nat=>GenR.JN (j37 L kD) L (260+16*i) (J9 L)) kR kR }=j6q L kR):=hJJ (by
   rw [j5P (g:=fun i:Nat=>GenR.JN (j3x L) L (260+16*i) (J9 L)) (fun i=>j59 (T:=j37 L kD) (U:=j3x L) (j0A L) L _ _),hkR,hkD];rfl)
  have TB:Hid ({ j6q L kR with buses:=down (fun i:Nat=>j0V L i (J9 L)) kB kB }=j9Q L kB):=hJJ (by rw [hkB,hkR];rfl);have TS:Hid ({ j9Q L kB with extend:=num L 178 12,budget:=num L 179 40,start:=num L 180 8,revert:=num L 181 8,least:=num L 182 12,share:=num L 183 4 }=j0n L):=hJJ (by rw [hkB];rfl);have LR:Hid ((j0n L).rails.length=kR):=hJJ (by rw [j8e,hkR]);have GT2:Hid (jj L=if kR=0 then j0n L else { j0n L with window:=j1z (j0n L) (J9 L) }):=hJJ (by rw [GT.out,hkR]);clear hkD hkR hkB GT kd0 kd1 kr0 kr1 kb0 kb1;go_wp2_with fail
  refine (jb a cap L _ _ _ (HL.out _ BX4.out.bel) (by omega) (by omega) (by omega)).mono ?_;rintro e w' ⟨rfl,rfl⟩;rw [ED.out];go_wp2_with fail
  refine j9Z a cap L w _ ⟨⟨ga,gc⟩,⟨none,0⟩,⟨none,0⟩,⟨none,0⟩⟩ (j19 L) (J9 L) n8 n1 kD lD HL ⟨none,0⟩ (hJJ (by rw [j9S];exact BX4.out)) (fun _ _ d _ _ h=>by cases d <;> exact h) (hJJ ?_);intro v3_9 v3_86 v3_87 v3_88 v3_89 v3_90 v3_91 v3_92 v3_93 v3_94 v3_95 v3_96 v3_97 v3_98 v3_99 v3_100 w4 s1 hb4;have BX5:Hid (Bx w _ (j37 L kD) w4):=hJJ (by rw [TD.out] at hb4;exact hb4);clear hb4 BX4;dsimp only;go_wp2_with fail
  refine (jb a cap L _ _ _ (HL.out _ BX5.out.bel) (by omega) (by omega) (by omega)).mono ?_;rintro e w' ⟨rfl,rfl⟩;go_upto_region 25 with fail
  rw [ER.out];go_wp2_with fail
  refine j8h a cap L w _ ⟨⟨ga,gc⟩,s1,⟨none,0⟩,⟨none,0⟩⟩ (j37 L kD) (J9 L) n8 n1 kR lR ⟨by rw [show (j37 L kD).groups=j13 L from j0A L];exact SM1.out.groups,by rw [show (j37 L kD).groups=j13 L from j0A L];exact SM1.out.rows⟩ HL ⟨none,0⟩ (hJJ (by rw [j8c];exact BX5.out)) (fun _ _ d _ _ h=>by cases d <;> exact h) (hJJ ?_);intro v4_10 v4_104 v4_105 v4_106 v4_107 v4_108 v4_109 v4_110 v4_111 v4_112 v4_113 v4_114 v4_115 v4_116 v4_117 v4_118 v4_119 w5 s2 hb5;have BX6:Hid (Bx w _ (j6q L kR) w5):=hJJ (by rw [TR.out] at hb5;exact hb5);clear hb5 BX5 TR;dsimp only;go_wp2_with fail
  refine (jb a cap L _ _ _ (HL.out _ BX6.out.bel) (by omega) (by omega) (by omega)).mono ?_;rintro e w' ⟨rfl,rfl⟩;rw [EB.out];go_wp2_with fail
  refine j8i a cap L w _ ⟨⟨ga,gc⟩,s1,s2,⟨none,0⟩⟩ (j6q L kR) (J9 L) n8 n1 kB lB HL ⟨none,0⟩ (hJJ (by rw [j8d];exact BX6.out)) (fun _ _ d _ _ h=>by cases d <;> exact h) (hJJ ?_);intro v5_11 v5_122 v5_123 v5_124 v5_125 v5_126 v5_127 v5_128 v5_129 v5_130 v5_131 v5_132 v5_133 v5_134 v5_135 v5_136 v5_137 v5_138 v5_139 v5_140 v5_141 v5_142 v5_143 v5_144 v5_145 v5_146 v5_147 v5_148 w6 s3 hb6;have BX7:Hid (Bx w _ (j9Q L kB) w6):=hJJ (by rw [TB.out] at hb6;exact hb6);clear hb6 BX6 TB;dsimp only;simp only [kY,Exit.then,if_true]
  apply_assumption
  exact jbH a cap L w _ _ (j9Q L kB) n8 HL BX7 TS.out kR lR LR GT2
theorem j3h (a:Option Addr) (cap:Nat) (L:List Int) (w:World) (h:jc w ⟨a,cap⟩ L) :
  Calls Tryz.prog 11 #[.slice a L.length cap] w fun e w'=>∃ hd,e=.returned (.agg ((jj L).cells hd).toArray)/\jy w' hd (jj L)/\Below w.heap.size w w' :=
 (ja0 a cap L w h).mono (by
  rintro e w' ⟨hd,rfl,ht,_,hb⟩;exact ⟨hd,rfl,ht,hb⟩)
end GenT
namespace Same
open Zip
open Go.ChangeShapes Go.WideShapes Go.ChangeAt Go.RowKit
open Tab Owned CodeAt
open May (j3 chain jL jG j0f jT jH j06 jK jg St)
structure Two (w:World) (cs ds:Array Value) (h k:Hd) (T U:Tab) (W:World):Prop where
 t:St w w.heap.size cs h T W
 u:St w (w.heap.size+1) ds k U W
theorem Two.step {w W W':World} {cs ds:Array Value} {h k:Hd} {T U:Tab} (p:Two w cs ds h k T U W) (hb:Below W.heap.size W W'):Two w cs ds h k T U W':=⟨p.t.step hb,p.u.step hb⟩
theorem ja1 {l m:List Gr} {k:Nat} {v u:Gr} (h:l[k]?=some v) (h':m[k]?=some u) (e:(l.take k).map Gr.data=(m.take k).map Gr.data) (hv:v.data=u.data):(l.take (k+1)).map Gr.data=(m.take (k+1)).map Gr.data:=by
 rw [jL l k v h,jL m k u h',kz,kz,e];simp [hv]
theorem j8j {l m:List Gr} {k:Nat} {v u:Gr} (h:l[k]?=some v) (h':m[k]?=some u) (hv:¬ v.data=u.data):¬ l.map Gr.data=m.map Gr.data:=fun e=>hv (by
 have h3:=congrArg (·[k]?) e;simp only [kp,h,h',Option.map_some] at h3;exact kA h3)
structure j39 (T U:Tab):Prop where
 h1:T.phases=U.phases
 h2:T.conflict=U.conflict
 h3:T.flash=U.flash
 h4:T.groups.length=U.groups.length
 h5:T.dets.length=U.dets.length
 h6:T.rails.length=U.rails.length
 h7:T.buses.length=U.buses.length
theorem jbI {Q:Exit->Act->World->Prop} (T U:Tab) (h k:Hd) (w w1:World) (cs ds:Array Value) (L1:Hid (jy w h T)) (L2:Hid (jy w k U)) (C:Hid (j45 T h cs)) (D:Hid (j45 U k ds)) (SS:Hid (Two w cs ds h k T U w1)) (f0 f1 f4 f5 f6 f7 f8 f9 f10 f11 f12 f13 f14 f15 f16 f17 f18 f19 f20 f21 f22 f23 f24 f25 f26 f27 f28 f29 f30 f31 f32 f33 f34 f35 f36 f37 f38 f39 f40 f41 f42 f43 f44 f45 f46 f47 f48 f49 f50 f51 f52 f53 f54 f55 f56 f57 f58 f59 f60 f61 f62 f63 f64 f65 f66 f67 f68 f69 f70 f71 f72 f73 f74 f75 f76 f77 f78 f79 f80 f81 f82 f83 f84 f85 f86 f87 f88 f89 f90 f91 f92 f93 f94 f95 f96 f97 f98 f99 f100 f101 f102 f103 f104 f105 f106 f107 f108 f109 f110 f111 f112 f113 f114 f115 f116 f117 f118 f119 f120 f121 f122 f123 f124 f125 f126 f127 f128 f129 f130 f131 f132 f133 f134 f135 f136 f137 f138 f139 f140 f141 f142 f143 f144 f145 f146 f147 f148 f149 f150 f151 f152 f153 f154 f155 f156 f157 f158 f159 f160 f161 f162 f163 f164 f165 f166 f167 f168 f169 f170 f171 f172 f173 f174 f175 f176 f177 f178 f179 f180 f181 f182 f183 f184 f185 f186 f187 f188 f189 f190 f191 f192 f193 f194 f195 f196 f197 f198 f199 f200 f201 f202 f203 f204 f205 f206 f207 f208 f209 f210 f211 f212 f213 f214 f215 f216 f217 f218 f219 f220 f221 f222 f223 f224 f225 f226 f227 f228 f229 f230 f231 f232 f233 f234 f235 f236 f237 f238 f239 f240 f241 f242:Value)
  (HQ:Hid (∀ (x11 x12 x13 x14 x15 x16 x17 x18 x19 x20 x21 x22 x23 x24 x25 x26 x27 x28 x29 x30 x31 x32 x33 x34 x35 x36 x37 x38 x39 x40 x41 x42 x43 x44 x45 x46 x47 x48 x49 x50 x51 x52 x53 x54 x55 x56 x57 x58 x59 x60 x61 x62 x63 x64:Value) (b:Bool),(b=false ↔ j39 T U)->Q .normal ⟨#[f0,f1,k6 (some ⟨w.heap.size,0,none⟩),k6 (some ⟨w.heap.size+1,0,none⟩),f4,f5,f6,f7,f8,f9,f10,x11,x12,x13,x14,x15,x16,x17,x18,x19,x20,x21,x22,x23,x24,x25,x26,x27,x28,x29,x30,x31,x32,x33,x34,x35,x36,x37,x38,x39,x40,x41,x42,x43,x44,x45,x46,x47,x48,x49,x50,x51,x52,x53,x54,x55,x56,x57,x58,x59,x60,x61,x62,x63,x64,kW b,f66,f67,f68,f69,f70,f71,f72,f73,f74,f75,f76,f77,f78,f79,f80,f81,f82,f83,f84,f85,f86,f87,f88,f89,f90,f91,f92,f93,f94,f95,f96,f97,f98,f99,f100,f101,f102,f103,f104,f105,f106,f107,f108,f109,f110,f111,f112,f113,f114,f115,f116,f117,f118,f119,f120,f121,f122,f123,f124,f125,f126,f127,f128,f129,f130,f131,f132,f133,f134,f135,f136,f137,f138,f139,f140,f141,f142,f143,f144,f145,f146,f147,f148,f149,f150,f151,f152,f153,f154,f155,f156,f157,f158,f159,f160,f161,f162,f163,f164,f165,f166,f167,f168,f169,f170,f171,f172,f173,f174,f175,f176,f177,f178,f179,f180,f181,f182,f183,f184,f185,f186,f187,f188,f189,f190,f191,f192,f193,f194,f195,f196,f197,f198,f199,f200,f201,f202,f203,f204,f205,f206,f207,f208,f209,f210,f211,f212,f213,f214,f215,f216,f217,f218,f219,f220,f221,f222,f223,f224,f225,f226,f227,f228,f229,f230,f231,f232,f233,f234,f235,f236,f237,f238,f239,f240,f241,f242],[]⟩ w1)) :
  (rg 1 Tryz.f9).wp Tryz.prog Q ⟨#[f0,f1,k6 (some ⟨w.heap.size,0,none⟩),k6 (some ⟨w.heap.size+1,0,none⟩),f4,f5,f6,f7,f8,f9,f10,f11,f12,f13,f14,f15,f16,f17,f18,f19,f20,f21,f22,f23,f24,f25,f26,f27,f28,f29,f30,f31,f32,f33,f34,f35,f36,f37,f38,f39,f40,f41,f42,f43,f44,f45,f46,f47,f48,f49,f50,f51,f52,f53,f54,f55,f56,f57,f58,f59,f60,f61,f62,f63,f64,f65,f66,f67,f68,f69,f70,f71,f72,f73,f74,f75,f76,f77,f78,f79,f80,f81,f82,f83,f84,f85,f86,f87,f88,f89,f90,f91,f92,f93,f94,f95,f96,f97,f98,f99,f100,f101,f102,f103,f104,f105,f106,f107,f108,f109,f110,f111,f112,f113,f114,f115,f116,f117,f118,f119,f120,f121,f122,f123,f124,f125,f126,f127,f128,f129,f130,f131,f132,f133,f134,f135,f136,f137,f138,f139,f140,f141,f142,f143,f144,f145,f146,f147,f148,f149,f150,f151,f152,f153,f154,f155,f156,f157,f158,f159,f160,f161,f162,f163,f164,f165,f166,f167,f168,f169,f170,f171,f172,f173,f174,f175,f176,f177,f178,f179,f180,f181,f182,f183,f184,f185,f186,f187,f188,f189,f190,f191,f192,f193,f194,f195,f196,f197,f198,f199,f200,f201,f202,f203,f204,f205,f206,f207,f208,f209,f210,f211,f212,f213,f214,f215,f216,f217,f218,f219,f220,f221,f222,f223,f224,f225,f226,f227,f228,f229,f230,f231,f232,f233,f234,f235,f236,f237,f238,f239,f240,f241,f242],[]⟩ w1:=by
 conv=>arg 2;whnf
 have E1:=hJJ (j4J T.phases U.phases L1.out.ph L2.out.ph);have E3:=hJJ (j2g T.conflict U.conflict L1.out.cf L2.out.cf);have E7:=hJJ (j2g T.flash U.flash L1.out.fl L2.out.fl);have q104:=SS.out.t.cell C.out.g;have q113:=SS.out.t.cell C.out.d;have q114:=SS.out.t.cell C.out.r;have q115:=SS.out.t.cell C.out.b;have r104:=SS.out.u.cell D.out.g;have r113:=SS.out.u.cell D.out.d;have r114:=SS.out.u.cell D.out.r;have r115:=SS.out.u.cell D.out.b;have PA:Hid (jl w1 ⟨w.heap.size,0,none⟩ (T.phases.flatMap Ph.cells)):=hJJ (j2l SS.out.t.blk 0 104 _ (by rw [kc];exact C.out.phases));have PB:Hid (jl w1 ⟨w.heap.size+1,0,none⟩ (U.phases.flatMap Ph.cells)):=hJJ (j2l SS.out.u.blk 0 104 _ (by rw [kc];exact D.out.phases));have IA:Hid ((Tryz.prog.info? 26).map (·.size)=some (T.phases.flatMap Ph.cells).length):=hJJ (jbe.trans (by rw [j4m,L1.out.ph]));have IB:Hid ((Tryz.prog.info? 26).map (·.size)=some (U.phases.flatMap Ph.cells).length):=hJJ (jbe.trans (by rw [j4m,L2.out.ph]));generalize T.phases.flatMap Ph.cells=pa at PA IA E1;generalize U.phases.flatMap Ph.cells=pb at PB IB E1;have CA:Hid (jl w1 ⟨w.heap.size,105,none⟩ (T.conflict.map I)):=hJJ (j2l SS.out.t.blk 105 8 _ C.out.conflict);have CB:Hid (jl w1 ⟨w.heap.size+1,105,none⟩ (U.conflict.map I)):=hJJ (j2l SS.out.u.blk 105 8 _ D.out.conflict);have JA:Hid ((Tryz.prog.info? 28).map (·.size)=some (T.conflict.map I).length):=hJJ (by rw [kv,L1.out.cf];exact j8U);have JB:Hid ((Tryz.prog.info? 28).map (·.size)=some (U.conflict.map I).length):=hJJ (by rw [kv,L2.out.cf];exact j8U);generalize T.conflict.map I=ca at CA JA E3;generalize U.conflict.map I=cb at CB JB E3;have FA:Hid (jl w1 ⟨w.heap.size,121,none⟩ (T.flash.map I)):=hJJ (j2l SS.out.t.blk 121 8 _ C.out.flash);have FB:Hid (jl w1 ⟨w.heap.size+1,121,none⟩ (U.flash.map I)):=hJJ (j2l SS.out.u.blk 121 8 _ D.out.flash);have KA:Hid ((Tryz.prog.info? 28).map (·.size)=some (T.flash.map I).length):=hJJ (by rw [kv,L1.out.fl];exact j8U);have KB:Hid ((Tryz.prog.info? 28).map (·.size)=some (U.flash.map I).length):=hJJ (by rw [kv,L2.out.fl];exact j8U);generalize T.flash.map I=fa at FA KA E7;generalize U.flash.map I=fb at FB KB E7
 go_step
 by_cases h1:T.phases=U.phases;rotate_left
 ·rw [decide_eq_false h1] at E1;have NE:Hid (¬ j39 T U):=fun e=>h1 e.h1;clear h1;refine Ke rfl (fun K hK=>?_);go_simp
  refine hK _ _ ?_;clear hK K
  (try dsimp only [k2]);(try simp only [zA,zB,zC])
  refine Row.j7 26 _ rfl (by rfl) ⟨w.heap.size,0,none⟩ rfl pa _ PA.out Tryz.underlying26 rfl IA.out ?_
  (try dsimp only [k2]);(try simp only [zA,zB,zC])
  refine Ke rfl (fun K hK=>?_);go_simp
  refine hK _ _ ?_;clear hK K
  (try dsimp only [k2]);(try simp only [zA,zB,zC])
  refine Row.j7 26 _ rfl (by rfl) ⟨w.heap.size+1,0,none⟩ rfl pb _ PB.out Tryz.underlying26 rfl IB.out ?_
  (try dsimp only [k2]);(try simp only [zA,zB,zC])
  refine Row.JG 26 _ _ _ rfl (by rfl) pa.toArray pb.toArray rfl rfl jaC false E1.out ?_;simp only [ku,kx]
  (try dsimp only [k2]);(try simp only [zA,zB,zC])
  go_wp2;exact HQ.out _ _ _ _ _ _ _ _ _ _ _ _ _ _ _ _ _ _ _ _ _ _ _ _ _ _ _ _ _ _ _ _ _ _ _ _ _ _ _ _ _ _ _ _ _ _ _ _ _ _ _ _ _ _ true (by simp only [kh,false_iff];exact NE.out)
 rw [decide_eq_true h1] at E1;have H1:=hJJ h1;clear h1;refine Ke rfl (fun K hK=>?_);go_simp
 refine hK _ _ ?_;clear hK K
 (try dsimp only [k2]);(try simp only [zA,zB,zC])
 refine Row.j7 26 _ rfl (by rfl) ⟨w.heap.size,0,none⟩ rfl pa _ PA.out Tryz.underlying26 rfl IA.out ?_
 (try dsimp only [k2]);(try simp only [zA,zB,zC])
 refine Ke rfl (fun K hK=>?_);go_simp
 refine hK _ _ ?_;clear hK K
 (try dsimp only [k2]);(try simp only [zA,zB,zC])
 refine Row.j7 26 _ rfl (by rfl) ⟨w.heap.size+1,0,none⟩ rfl pb _ PB.out Tryz.underlying26 rfl IB.out ?_
 (try dsimp only [k2]);(try simp only [zA,zB,zC])
 refine Row.JG 26 _ _ _ rfl (by rfl) pa.toArray pb.toArray rfl rfl jaC true E1.out ?_;simp only [ku,kx]
 (try dsimp only [k2]);(try simp only [zA,zB,zC])
 clear PA PB IA IB E1;refine Ke rfl (fun K hK=>?_);go_simp
 refine hK _ _ ?_;clear hK K
 (try dsimp only [k2]);(try simp only [zA,zB,zC])
 by_cases h2:T.conflict=U.conflict;rotate_left
 ·rw [decide_eq_false h2] at E3;have NE:Hid (¬ j39 T U):=fun e=>h2 e.h2;clear h2;refine k5 (by rfl) (fun K hK=>?_);go_simp
  refine hK _ _ ?_;clear hK K
  (try dsimp only [k2]);(try simp only [zA,zB,zC])
  refine Row.j7 28 _ rfl (by rfl) ⟨w.heap.size,105,none⟩ rfl ca _ CA.out Tryz.underlying28 rfl JA.out ?_
  (try dsimp only [k2]);(try simp only [zA,zB,zC])
  refine k5 (by rfl) (fun K hK=>?_);go_simp
  refine hK _ _ ?_;clear hK K
  (try dsimp only [k2]);(try simp only [zA,zB,zC])
  refine Row.j7 28 _ rfl (by rfl) ⟨w.heap.size+1,105,none⟩ rfl cb _ CB.out Tryz.underlying28 rfl JB.out ?_
  (try dsimp only [k2]);(try simp only [zA,zB,zC])
  refine Row.JG 28 _ _ _ rfl (by rfl) ca.toArray cb.toArray rfl rfl j68 false E3.out ?_;simp only [ku,kx]
  (try dsimp only [k2]);(try simp only [zA,zB,zC])
  go_wp2;exact HQ.out _ _ _ _ _ _ _ _ _ _ _ _ _ _ _ _ _ _ _ _ _ _ _ _ _ _ _ _ _ _ _ _ _ _ _ _ _ _ _ _ _ _ _ _ _ _ _ _ _ _ _ _ _ _ true (by simp only [kh,false_iff];exact NE.out)
 rw [decide_eq_true h2] at E3;have H2:=hJJ h2;clear h2;refine k5 (by rfl) (fun K hK=>?_);go_simp
 refine hK _ _ ?_;clear hK K
 (try dsimp only [k2]);(try simp only [zA,zB,zC])
 refine Row.j7 28 _ rfl (by rfl) ⟨w.heap.size,105,none⟩ rfl ca _ CA.out Tryz.underlying28 rfl JA.out ?_
 (try dsimp only [k2]);(try simp only [zA,zB,zC])
 refine k5 (by rfl) (fun K hK=>?_);go_simp
 refine hK _ _ ?_;clear hK K
 (try dsimp only [k2]);(try simp only [zA,zB,zC])
 refine Row.j7 28 _ rfl (by rfl) ⟨w.heap.size+1,105,none⟩ rfl cb _ CB.out Tryz.underlying28 rfl JB.out ?_
 (try dsimp only [k2]);(try simp only [zA,zB,zC])
 refine Row.JG 28 _ _ _ rfl (by rfl) ca.toArray cb.toArray rfl rfl j68 true E3.out ?_;simp only [ku,kx]
 (try dsimp only [k2]);(try simp only [zA,zB,zC])
 clear CA CB JA JB E3;refine Ke rfl (fun K hK=>?_);go_simp
 refine hK _ _ ?_;clear hK K
 (try dsimp only [k2]);(try simp only [zA,zB,zC])
 refine Ke rfl (fun K hK=>?_);go_simp
 refine hK _ _ ?_;clear hK K
 (try dsimp only [k2]);(try simp only [zA,zB,zC])
 by_cases h3:T.flash=U.flash;rotate_left
 ·rw [decide_eq_false h3] at E7;have NE:Hid (¬ j39 T U):=fun e=>h3 e.h3;clear h3;refine k5 (by rfl) (fun K hK=>?_);go_simp
  refine hK _ _ ?_;clear hK K
  (try dsimp only [k2]);(try simp only [zA,zB,zC])
  refine Row.j7 28 _ rfl (by rfl) ⟨w.heap.size,121,none⟩ rfl fa _ FA.out Tryz.underlying28 rfl KA.out ?_
  (try dsimp only [k2]);(try simp only [zA,zB,zC])
  refine k5 (by rfl) (fun K hK=>?_);go_simp
  refine hK _ _ ?_;clear hK K
  (try dsimp only [k2]);(try simp only [zA,zB,zC])
  refine Row.j7 28 _ rfl (by rfl) ⟨w.heap.size+1,121,none⟩ rfl fb _ FB.out Tryz.underlying28 rfl KB.out ?_
  (try dsimp only [k2]);(try simp only [zA,zB,zC])
  refine Row.JG 28 _ _ _ rfl (by rfl) fa.toArray fb.toArray rfl rfl j68 false E7.out ?_;simp only [ku,kx]
  (try dsimp only [k2]);(try simp only [zA,zB,zC])
  go_wp2;exact HQ.out _ _ _ _ _ _ _ _ _ _ _ _ _ _ _ _ _ _ _ _ _ _ _ _ _ _ _ _ _ _ _ _ _ _ _ _ _ _ _ _ _ _ _ _ _ _ _ _ _ _ _ _ _ _ true (by simp only [kh,false_iff];exact NE.out)
 rw [decide_eq_true h3] at E7;have H3:=hJJ h3;clear h3;refine k5 (by rfl) (fun K hK=>?_);go_simp
 refine hK _ _ ?_;clear hK K
 (try dsimp only [k2]);(try simp only [zA,zB,zC])
 refine Row.j7 28 _ rfl (by rfl) ⟨w.heap.size,121,none⟩ rfl fa _ FA.out Tryz.underlying28 rfl KA.out ?_
 (try dsimp only [k2]);(try simp only [zA,zB,zC])
 refine k5 (by rfl) (fun K hK=>?_);go_simp
 refine hK _ _ ?_;clear hK K
 (try dsimp only [k2]);(try simp only [zA,zB,zC])
 refine Row.j7 28 _ rfl (by rfl) ⟨w.heap.size+1,121,none⟩ rfl fb _ FB.out Tryz.underlying28 rfl KB.out ?_
 (try dsimp only [k2]);(try simp only [zA,zB,zC])
 refine Row.JG 28 _ _ _ rfl (by rfl) fa.toArray fb.toArray rfl rfl j68 true E7.out ?_;simp only [ku,kx]
 (try dsimp only [k2]);(try simp only [zA,zB,zC])
 clear FA FB KA KB E7;refine Ke rfl (fun K hK=>?_);go_simp
 refine hK _ _ ?_;clear hK K
 (try dsimp only [k2]);(try simp only [zA,zB,zC])
 refine Ke rfl (fun K hK=>?_);go_simp
 refine hK _ _ ?_;clear hK K
 (try dsimp only [k2]);(try simp only [zA,zB,zC])
 clear C D L1 L2 SS;by_cases h4:T.groups.length=U.groups.length;rotate_left
 ·have NE:Hid (¬ j39 T U):=fun e=>h4 (e.h4);have hn:((T.groups.length:Int) != (U.groups.length:Int))=true:=by rw [bne_iff_ne];omega
  clear h4;go_wp2;exact HQ.out _ _ _ _ _ _ _ _ _ _ _ _ _ _ _ _ _ _ _ _ _ _ _ _ _ _ _ _ _ _ _ _ _ _ _ _ _ _ _ _ _ _ _ _ _ _ _ _ _ _ _ _ _ _ true (by simp only [kh,false_iff];exact NE.out)
 have hn:((T.groups.length:Int) != (U.groups.length:Int))=false:=by rw [bne_eq_false_iff_eq];omega
 have H4:=hJJ h4;clear h4;refine k5 (by rfl) (fun K hK=>?_);go_simp
 refine hK _ _ ?_;clear hK K
 (try dsimp only [k2]);(try simp only [zA,zB,zC])
 refine k5 (by rfl) (fun K hK=>?_);go_simp
 refine hK _ _ ?_;clear hK K
 (try dsimp only [k2]);(try simp only [zA,zB,zC])
 refine k5 (by rfl) (fun K hK=>?_);go_simp
 refine hK _ _ ?_;clear hK K
 (try dsimp only [k2]);(try simp only [zA,zB,zC])
 refine k5 (by rfl) (fun K hK=>?_);go_simp
 refine hK _ _ ?_;clear hK K
 (try dsimp only [k2]);(try simp only [zA,zB,zC])
 refine k5 (by rfl) (fun K hK=>?_);go_simp
 refine hK _ _ ?_;clear hK K
 (try dsimp only [k2]);(try simp only [zA,zB,zC])
 refine k5 (by rfl) (fun K hK=>?_);go_simp
 refine hK _ _ ?_;clear hK K
 (try dsimp only [k2]);(try simp only [zA,zB,zC])
 refine k5 (by rfl) (fun K hK=>?_);go_simp
 refine hK _ _ ?_;clear hK K
 (try dsimp only [k2]);(try simp only [zA,zB,zC])
 refine Ke rfl (fun K hK=>?_);go_simp
 refine hK _ _ ?_;clear hK K
 (try dsimp only [k2]);(try simp only [zA,zB,zC])
 refine Ke rfl (fun K hK=>?_);go_simp
 refine hK _ _ ?_;clear hK K
 (try dsimp only [k2]);(try simp only [zA,zB,zC])
 by_cases h5:T.dets.length=U.dets.length;rotate_left
 ·have NE:Hid (¬ j39 T U):=fun e=>h5 (by exact e.h5);have hn:((T.dets.length:Int) != (U.dets.length:Int))=true:=by rw [bne_iff_ne];omega
  clear h5;go_wp2;exact HQ.out _ _ _ _ _ _ _ _ _ _ _ _ _ _ _ _ _ _ _ _ _ _ _ _ _ _ _ _ _ _ _ _ _ _ _ _ _ _ _ _ _ _ _ _ _ _ _ _ _ _ _ _ _ _ true (by simp only [kh,false_iff];exact NE.out)
 have hn:((T.dets.length:Int) != (U.dets.length:Int))=false:=by rw [bne_eq_false_iff_eq];omega
 have H5:=hJJ h5;clear h5;refine k5 (by rfl) (fun K hK=>?_);go_simp
 refine hK _ _ ?_;clear hK K
 (try dsimp only [k2]);(try simp only [zA,zB,zC])
 refine k5 (by rfl) (fun K hK=>?_);go_simp
 refine hK _ _ ?_;clear hK K
 (try dsimp only [k2]);(try simp only [zA,zB,zC])
 refine k5 (by rfl) (fun K hK=>?_);go_simp
 refine hK _ _ ?_;clear hK K
 (try dsimp only [k2]);(try simp only [zA,zB,zC])
 refine k5 (by rfl) (fun K hK=>?_);go_simp
 refine hK _ _ ?_;clear hK K
 (try dsimp only [k2]);(try simp only [zA,zB,zC])
 refine k5 (by rfl) (fun K hK=>?_);go_simp
 refine hK _ _ ?_;clear hK K
 (try dsimp only [k2]);(try simp only [zA,zB,zC])
 refine k5 (by rfl) (fun K hK=>?_);go_simp
 refine hK _ _ ?_;clear hK K
 (try dsimp only [k2]);(try simp only [zA,zB,zC])
 refine k5 (by rfl) (fun K hK=>?_);go_simp
 refine hK _ _ ?_;clear hK K
 (try dsimp only [k2]);(try simp only [zA,zB,zC])
 refine Ke rfl (fun K hK=>?_);go_simp
 refine hK _ _ ?_;clear hK K
 (try dsimp only [k2]);(try simp only [zA,zB,zC])
 refine Ke rfl (fun K hK=>?_);go_simp
 refine hK _ _ ?_;clear hK K
 (try dsimp only [k2]);(try simp only [zA,zB,zC])
 by_cases h6:T.rails.length=U.rails.length;rotate_left
 ·have NE:Hid (¬ j39 T U):=fun e=>h6 (by exact e.h6);have hn:((T.rails.length:Int) != (U.rails.length:Int))=true:=by rw [bne_iff_ne];omega
  clear h6;go_wp2;exact HQ.out _ _ _ _ _ _ _ _ _ _ _ _ _ _ _ _ _ _ _ _ _ _ _ _ _ _ _ _ _ _ _ _ _ _ _ _ _ _ _ _ _ _ _ _ _ _ _ _ _ _ _ _ _ _ true (by simp only [kh,false_iff];exact NE.out)
 have hn:((T.rails.length:Int) != (U.rails.length:Int))=false:=by rw [bne_eq_false_iff_eq];omega
 have H6:=hJJ h6;clear h6;refine k5 (by rfl) (fun K hK=>?_);go_simp
 refine hK _ _ ?_;clear hK K
 (try dsimp only [k2]);(try simp only [zA,zB,zC])
 refine k5 (by rfl) (fun K hK=>?_);go_simp
 refine hK _ _ ?_;clear hK K
 (try dsimp only [k2]);(try simp only [zA,zB,zC])
 refine k5 (by rfl) (fun K hK=>?_);go_simp
 refine hK _ _ ?_;clear hK K
 (try dsimp only [k2]);(try simp only [zA,zB,zC])
 refine k5 (by rfl) (fun K hK=>?_);go_simp
 refine hK _ _ ?_;clear hK K
 (try dsimp only [k2]);(try simp only [zA,zB,zC])
 refine k5 (by rfl) (fun K hK=>?_);go_simp
 refine hK _ _ ?_;clear hK K
 (try dsimp only [k2]);(try simp only [zA,zB,zC])
 refine k5 (by rfl) (fun K hK=>?_);go_simp
 refine hK _ _ ?_;clear hK K
 (try dsimp only [k2]);(try simp only [zA,zB,zC])
 refine k5 (by rfl) (fun K hK=>?_);go_simp
 refine hK _ _ ?_;clear hK K
 (try dsimp only [k2]);(try simp only [zA,zB,zC])
 refine Ke rfl (fun K hK=>?_);go_simp
 refine hK _ _ ?_;clear hK K
 (try dsimp only [k2]);(try simp only [zA,zB,zC])
 refine Ke rfl (fun K hK=>?_);go_simp
 refine hK _ _ ?_;clear hK K
 (try dsimp only [k2]);(try simp only [zA,zB,zC])
 by_cases h7:T.buses.length=U.buses.length;rotate_left
 ·have NE:Hid (¬ j39 T U):=fun e=>h7 (by exact e.h7);have hn:((T.buses.length:Int) != (U.buses.length:Int))=true:=by rw [bne_iff_ne];omega
  clear h7;go_wp2;exact HQ.out _ _ _ _ _ _ _ _ _ _ _ _ _ _ _ _ _ _ _ _ _ _ _ _ _ _ _ _ _ _ _ _ _ _ _ _ _ _ _ _ _ _ _ _ _ _ _ _ _ _ _ _ _ _ true (by simp only [kh,false_iff];exact NE.out)
 have hn:((T.buses.length:Int) != (U.buses.length:Int))=false:=by rw [bne_eq_false_iff_eq];omega
 have H7:=hJJ h7;clear h7;go_wp2;exact HQ.out _ _ _ _ _ _ _ _ _ _ _ _ _ _ _ _ _ _ _ _ _ _ _ _ _ _ _ _ _ _ _ _ _ _ _ _ _ _ _ _ _ _ _ _ _ _ _ _ _ _ _ _ _ _ false (by simp only [true_iff];exact ⟨H1.out,H2.out,H3.out,H4.out,H5.out,H6.out,H7.out⟩)
end Same
namespace Same
open Zip
open Go.ChangeShapes Go.WideShapes Go.ChangeAt Go.RowKit
open Tab Owned CodeAt
open May (j3 chain jL jG j0f jT jH j06 jK jg St)
theorem ja2 {Q:Exit->Act->World->Prop} (w wr:World) (q n n' c c':Nat) (x y:Addr) (a0 a1 b0 b1:Option Addr) (cap0 cap1 bap0 bap1:Nat) (l0 l1 m0 m1:List Int) (hlt:q < n) (hlu:q < n') (K1:n<=c/\c<=2 ^ 63 - 1) (K2:n'<=c'/\c'<=2 ^ 63 - 1)
  (qq104:Hid (wr.cell? ⟨w.heap.size,104,none⟩=some (.slice (some x) n c))) (rr104:Hid (wr.cell? ⟨w.heap.size+1,104,none⟩=some (.slice (some y) n' c')))
  (C0:Hid (wr.cell? (x.add (q*2))=some (.slice a0 l0.length cap0)/\wr.cell? ⟨(x.add (q*2)).block,(x.add (q*2)).off+1,none⟩=some (.slice a1 l1.length cap1)))
  (D0:Hid (wr.cell? (y.add (q*2))=some (.slice b0 m0.length bap0)/\wr.cell? ⟨(y.add (q*2)).block,(y.add (q*2)).off+1,none⟩=some (.slice b1 m1.length bap1)))
  (H0:Hid (jc wr ⟨a0,cap0⟩ l0)) (H1:Hid (jc wr ⟨a1,cap1⟩ l1)) (H2:Hid (jc wr ⟨b0,bap0⟩ m0)) (H3:Hid (jc wr ⟨b1,bap1⟩ m1)) (f0 f1 f4 f6 f7 f8 f9 f10 f11 f12 f13 f14 f15 f16 f17 f18 f19 f20 f21 f22 f23 f24 f25 f26 f27 f28 f29 f30 f31 f32 f33 f34 f35 f36 f37 f38 f39 f40 f41 f42 f43 f44 f45 f46 f47 f48 f49 f50 f51 f52 f53 f54 f55 f56 f57 f58 f59 f60 f61 f62 f63 f64 f65 f66 f67 f68 f69 f70 f71 f72 f73 f74 f75 f76 f77 f78 f79 f80 f81 f82 f83 f84 f85 f86 f87 f88 f89 f90 f91 f92 f93 f94 f95 f96 f97 f98 f99 f100 f101 f102 f103 f104 f105 f106 f107 f108 f109 f110 f111 f112 f113 f114 f115 f116 f117 f118 f119 f120 f121 f122 f123 f124 f125 f126 f127 f128 f129 f130 f131 f132 f133 f134 f135 f136 f137 f138 f139 f140 f141 f142 f143 f144 f145 f146 f147 f148 f149 f150 f151 f152 f153 f154 f155 f156 f157 f158 f159 f160 f161 f162 f163 f164 f165 f166 f167 f168 f169 f170 f171 f172 f173 f174 f175 f176 f177 f178 f179 f180 f181 f182 f183 f184 f185 f186 f187 f188 f189 f190 f191 f192 f193 f194 f195 f196 f197 f198 f199 f200 f201 f202 f203 f204 f205 f206 f207 f208 f209 f210 f211 f212 f213 f214 f215 f216 f217 f218 f219 f220 f221 f222 f223 f224 f225 f226 f227 f228 f229 f230 f231 f232 f233 f234 f235 f236 f237 f238 f239 f240 f241 f242:Value)
  (HQ:Hid (∀ (x105 x106 x107 x108 x109 x110 x111 x112 x113 x114 x115 x116 x117 x118 x119 x120 x121 x122 x123 x124 x125 x126 x127 x128 x129 x130 x131 x132 x133:Value) (b:Bool) (w':World),(b=false ↔ l0=m0/\l1=m1)->Below wr.heap.size wr w'->Q .normal ⟨#[f0,f1,k6 (some ⟨w.heap.size,0,none⟩),k6 (some ⟨w.heap.size+1,0,none⟩),f4,km .i64 (q:Int),f6,f7,f8,f9,f10,f11,f12,f13,f14,f15,f16,f17,f18,f19,f20,f21,f22,f23,f24,f25,f26,f27,f28,f29,f30,f31,f32,f33,f34,f35,f36,f37,f38,f39,f40,f41,f42,f43,f44,f45,f46,f47,f48,f49,f50,f51,f52,f53,f54,f55,f56,f57,f58,f59,f60,f61,f62,f63,f64,f65,f66,f67,f68,f69,f70,f71,f72,f73,f74,f75,f76,f77,f78,f79,f80,f81,f82,f83,f84,f85,f86,f87,f88,f89,f90,f91,f92,f93,f94,f95,f96,f97,f98,f99,f100,f101,f102,f103,f104,x105,x106,x107,x108,x109,x110,x111,x112,x113,x114,x115,x116,x117,x118,x119,x120,x121,x122,x123,x124,x125,x126,x127,x128,x129,x130,x131,x132,x133,kW b,f135,f136,f137,f138,f139,f140,f141,f142,f143,f144,f145,f146,f147,f148,f149,f150,f151,f152,f153,f154,f155,f156,f157,f158,f159,f160,f161,f162,f163,f164,f165,f166,f167,f168,f169,f170,f171,f172,f173,f174,f175,f176,f177,f178,f179,f180,f181,f182,f183,f184,f185,f186,f187,f188,f189,f190,f191,f192,f193,f194,f195,f196,f197,f198,f199,f200,f201,f202,f203,f204,f205,f206,f207,f208,f209,f210,f211,f212,f213,f214,f215,f216,f217,f218,f219,f220,f221,f222,f223,f224,f225,f226,f227,f228,f229,f230,f231,f232,f233,f234,f235,f236,f237,f238,f239,f240,f241,f242],[]⟩ w')) :
  (rg 8 Tryz.f9).wp Tryz.prog Q ⟨#[f0,f1,k6 (some ⟨w.heap.size,0,none⟩),k6 (some ⟨w.heap.size+1,0,none⟩),f4,km .i64 (q:Int),f6,f7,f8,f9,f10,f11,f12,f13,f14,f15,f16,f17,f18,f19,f20,f21,f22,f23,f24,f25,f26,f27,f28,f29,f30,f31,f32,f33,f34,f35,f36,f37,f38,f39,f40,f41,f42,f43,f44,f45,f46,f47,f48,f49,f50,f51,f52,f53,f54,f55,f56,f57,f58,f59,f60,f61,f62,f63,f64,f65,f66,f67,f68,f69,f70,f71,f72,f73,f74,f75,f76,f77,f78,f79,f80,f81,f82,f83,f84,f85,f86,f87,f88,f89,f90,f91,f92,f93,f94,f95,f96,f97,f98,f99,f100,f101,f102,f103,f104,f105,f106,f107,f108,f109,f110,f111,f112,f113,f114,f115,f116,f117,f118,f119,f120,f121,f122,f123,f124,f125,f126,f127,f128,f129,f130,f131,f132,f133,f134,f135,f136,f137,f138,f139,f140,f141,f142,f143,f144,f145,f146,f147,f148,f149,f150,f151,f152,f153,f154,f155,f156,f157,f158,f159,f160,f161,f162,f163,f164,f165,f166,f167,f168,f169,f170,f171,f172,f173,f174,f175,f176,f177,f178,f179,f180,f181,f182,f183,f184,f185,f186,f187,f188,f189,f190,f191,f192,f193,f194,f195,f196,f197,f198,f199,f200,f201,f202,f203,f204,f205,f206,f207,f208,f209,f210,f211,f212,f213,f214,f215,f216,f217,f218,f219,f220,f221,f222,f223,f224,f225,f226,f227,f228,f229,f230,f231,f232,f233,f234,f235,f236,f237,f238,f239,f240,f241,f242],[]⟩ wr:=by
 conv=>arg 2;whnf
 have lift:Hid (∀ (p:Ph.S (Row.Old wr)) (z:Addr) (c:Value),wr.cell? z=some c->p.world.cell? z=some c):=hJJ (fun p z c hz=>(p.is.cell (kr wr _ hz)).trans hz);have f1:=fun p:Ph.S (Row.Old wr)=>lift.out p _ _ qq104.out;have f2:=fun p:Ph.S (Row.Old wr)=>lift.out p _ _ rr104.out;have f3:=fun p:Ph.S (Row.Old wr)=>lift.out p _ _ C0.out.1;have f4:=fun p:Ph.S (Row.Old wr)=>lift.out p _ _ C0.out.2;have f5:=fun p:Ph.S (Row.Old wr)=>lift.out p _ _ D0.out.1;have f6:=fun p:Ph.S (Row.Old wr)=>lift.out p _ _ D0.out.2;have hne:Nonempty (Ph.S (Row.Old wr)):=⟨⟨0,wr,kb _ _⟩⟩;refine Pw.region (Row.Old wr) [] (by kernel_rfl) (by kernel_rfl) (Row.Old.drew _) ?_
 iterate 12
  (refine Pw.calm rfl (fun K hK=>?_)
   go_simp
   refine hK _ ?_;clear hK K)
 (refine Pw.calm rfl (fun K hK=>?_)
  go_simp
  refine ⟨_,fun p=>Row.Old.call (j3v a0 b0 cap0 bap0 l0 m0 _ (H0.out.below p.is) (H2.out.below p.is)),hK _ ?_⟩;clear hK K)
 by_cases hd0:l0=m0;rotate_left
 ·rw [decide_eq_false hd0]
  iterate 2
   (refine Pw.calm rfl (fun K hK=>?_)
    go_simp
    refine hK _ ?_;clear hK K)
  refine Pw.JH 14 (by kernel_rfl) ?_
  (try simp only [k7,kg,k8,kc,Pw.Jc])
  (try dsimp only [k2])
  (try simp only [k0,k3,k4])
  iterate 1
   (refine Pw.calm rfl (fun K hK=>?_)
    go_simp
    refine hK _ ?_;clear hK K)
  refine Pw.nil ?_;intro w3 hb3;exact HQ.out _ _ _ _ _ _ _ _ _ _ _ _ _ _ _ _ _ _ _ _ _ _ _ _ _ _ _ _ _ true w3 (by simp only [kh,false_iff];exact fun e=>hd0 e.1) hb3
 rw [decide_eq_true hd0];have HD0:=hJJ hd0;clear hd0
 iterate 2
  (refine Pw.calm rfl (fun K hK=>?_)
   go_simp
   refine hK _ ?_;clear hK K)
 iterate 12
  (refine Pw.calm rfl (fun K hK=>?_)
   go_simp
   refine hK _ ?_;clear hK K)
 (refine Pw.calm rfl (fun K hK=>?_)
  go_simp
  refine ⟨_,fun p=>Row.Old.call (j3v a1 b1 cap1 bap1 l1 m1 _ (H1.out.below p.is) (H3.out.below p.is)),hK _ ?_⟩;clear hK K)
 by_cases hd1:l1=m1
 ·rw [decide_eq_true hd1]
  iterate 2
   (refine Pw.calm rfl (fun K hK=>?_)
    go_simp
    refine hK _ ?_;clear hK K)
  refine Pw.nil ?_;intro w3 hb3;exact HQ.out _ _ _ _ _ _ _ _ _ _ _ _ _ _ _ _ _ _ _ _ _ _ _ _ _ _ _ _ _ false w3 (by simp only [true_iff];exact ⟨HD0.out,hd1⟩) hb3
 rw [decide_eq_false hd1]
 iterate 2
  (refine Pw.calm rfl (fun K hK=>?_)
   go_simp
   refine hK _ ?_;clear hK K)
 refine Pw.nil ?_;intro w3 hb3;exact HQ.out _ _ _ _ _ _ _ _ _ _ _ _ _ _ _ _ _ _ _ _ _ _ _ _ _ _ _ _ _ true w3 (by simp only [kh,false_iff];exact fun e=>hd1 e.2) hb3
end Same
namespace Same
open Zip
open Go.ChangeShapes Go.WideShapes Go.ChangeAt Go.RowKit
open Tab Owned CodeAt
open May (j3 chain jL jG j0f jT jH j06 jK jg St)
theorem jdb {Q:Exit->Act->World->Prop} (wc:World) (g7 g8:Nat) (v0 u0:Det) (hg7:wc.heap[g7]?=some (.cells v0.cells.toArray 71 (0,0))) (hg8:wc.heap[g8]?=some (.cells u0.cells.toArray 71 (0,0))) (f0 f1 f2 f3 f4 f5 f6 f9 f10 f11 f12 f13 f14 f15 f16 f17 f18 f19 f20 f21 f22 f23 f24 f25 f26 f27 f28 f29 f30 f31 f32 f33 f34 f35 f36 f37 f38 f39 f40 f41 f42 f43 f44 f45 f46 f47 f48 f49 f50 f51 f52 f53 f54 f55 f56 f57 f58 f59 f60 f61 f62 f63 f64 f65 f66 f67 f68 f69 f70 f71 f72 f73 f74 f75 f76 f77 f78 f79 f80 f81 f82 f83 f84 f85 f86 f87 f88 f89 f90 f91 f92 f93 f94 f95 f96 f97 f98 f99 f100 f101 f102 f103 f104 f105 f106 f107 f108 f109 f110 f111 f112 f113 f114 f115 f116 f117 f118 f119 f120 f121 f122 f123 f124 f125 f126 f127 f128 f129 f130 f131 f132 f133 f134 f135 f136 f137 f138 f139 f140 f141 f142 f143 f144 f145 f146 f147 f148 f149 f150 f151 f152 f153 f154 f155 f156 f157 f158 f159 f160 f161 f162 f163 f164 f165 f166 f167 f168 f169 f170 f171 f172 f173 f174 f175 f176 f177 f178 f179 f180 f181 f182 f183 f184 f185 f186 f187 f188 f189 f190 f191 f192 f193 f194 f195 f196 f197 f198 f199 f200 f201 f202 f203 f204 f205 f206 f207 f208 f209 f210 f211 f212 f213 f214 f215 f216 f217 f218 f219 f220 f221 f222 f223 f224 f225 f226 f227 f228 f229 f230 f231 f232 f233 f234 f235 f236 f237 f238 f239 f240 f241 f242:Value)
  (HQ:Hid (∀ (x152 x153 x154 x155 x156 x157 x158 x159 x160 x161 x162 x163 x164 x165 x166 x167 x168 x169 x170 x171 x172 x173 x174 x175 x176 x177 x178 x179 x180 x181 x182 x183 x184 x185 x186 x187 x188 x189 x190 x191 x192 x193 x194 x195 x196 x197 x198 x199 x200 x201 x202 x203 x204 x205:Value) (b:Bool) (w':World),(b=false ↔ v0=u0)->Below wc.heap.size wc w'->Q .normal ⟨#[f0,f1,f2,f3,f4,f5,f6,k6 (some ⟨g7,0,none⟩),k6 (some ⟨g8,0,none⟩),f9,f10,f11,f12,f13,f14,f15,f16,f17,f18,f19,f20,f21,f22,f23,f24,f25,f26,f27,f28,f29,f30,f31,f32,f33,f34,f35,f36,f37,f38,f39,f40,f41,f42,f43,f44,f45,f46,f47,f48,f49,f50,f51,f52,f53,f54,f55,f56,f57,f58,f59,f60,f61,f62,f63,f64,f65,f66,f67,f68,f69,f70,f71,f72,f73,f74,f75,f76,f77,f78,f79,f80,f81,f82,f83,f84,f85,f86,f87,f88,f89,f90,f91,f92,f93,f94,f95,f96,f97,f98,f99,f100,f101,f102,f103,f104,f105,f106,f107,f108,f109,f110,f111,f112,f113,f114,f115,f116,f117,f118,f119,f120,f121,f122,f123,f124,f125,f126,f127,f128,f129,f130,f131,f132,f133,f134,f135,f136,f137,f138,f139,f140,f141,f142,f143,f144,f145,f146,f147,f148,f149,f150,f151,x152,x153,x154,x155,x156,x157,x158,x159,x160,x161,x162,x163,x164,x165,x166,x167,x168,x169,x170,x171,x172,x173,x174,x175,x176,x177,x178,x179,x180,x181,x182,x183,x184,x185,x186,x187,x188,x189,x190,x191,x192,x193,x194,x195,x196,x197,x198,x199,x200,x201,x202,x203,x204,x205,kW b,f207,f208,f209,f210,f211,f212,f213,f214,f215,f216,f217,f218,f219,f220,f221,f222,f223,f224,f225,f226,f227,f228,f229,f230,f231,f232,f233,f234,f235,f236,f237,f238,f239,f240,f241,f242],[]⟩ w')) :
  (rg 14 Tryz.f9).wp Tryz.prog Q ⟨#[f0,f1,f2,f3,f4,f5,f6,k6 (some ⟨g7,0,none⟩),k6 (some ⟨g8,0,none⟩),f9,f10,f11,f12,f13,f14,f15,f16,f17,f18,f19,f20,f21,f22,f23,f24,f25,f26,f27,f28,f29,f30,f31,f32,f33,f34,f35,f36,f37,f38,f39,f40,f41,f42,f43,f44,f45,f46,f47,f48,f49,f50,f51,f52,f53,f54,f55,f56,f57,f58,f59,f60,f61,f62,f63,f64,f65,f66,f67,f68,f69,f70,f71,f72,f73,f74,f75,f76,f77,f78,f79,f80,f81,f82,f83,f84,f85,f86,f87,f88,f89,f90,f91,f92,f93,f94,f95,f96,f97,f98,f99,f100,f101,f102,f103,f104,f105,f106,f107,f108,f109,f110,f111,f112,f113,f114,f115,f116,f117,f118,f119,f120,f121,f122,f123,f124,f125,f126,f127,f128,f129,f130,f131,f132,f133,f134,f135,f136,f137,f138,f139,f140,f141,f142,f143,f144,f145,f146,f147,f148,f149,f150,f151,f152,f153,f154,f155,f156,f157,f158,f159,f160,f161,f162,f163,f164,f165,f166,f167,f168,f169,f170,f171,f172,f173,f174,f175,f176,f177,f178,f179,f180,f181,f182,f183,f184,f185,f186,f187,f188,f189,f190,f191,f192,f193,f194,f195,f196,f197,f198,f199,f200,f201,f202,f203,f204,f205,f206,f207,f208,f209,f210,f211,f212,f213,f214,f215,f216,f217,f218,f219,f220,f221,f222,f223,f224,f225,f226,f227,f228,f229,f230,f231,f232,f233,f234,f235,f236,f237,f238,f239,f240,f241,f242],[]⟩ wc:=by
 conv=>arg 2;whnf
 have M1:Hid (jl wc ⟨g7,0,none⟩ v0.cells):=hJJ (by have:=Row.j1 hg7;simpa using this);have M2:Hid (jl wc ⟨g8,0,none⟩ u0.cells):=hJJ (by have:=Row.j1 hg8;simpa using this);clear hg7 hg8;have hne:Nonempty (Ph.S (Row.Old wc)):=⟨⟨0,wc,kb _ _⟩⟩;refine Pw.region (Row.Old wc) [] (by kernel_rfl) (by kernel_rfl) (Row.Old.drew _) ?_;by_cases h0:v0.phase=u0.phase;rotate_left
 ·skip
  have NE:Hid (¬ v0=u0):=fun e=>h0 (by rw [e]);have hb:((v0.phase:Int) != (u0.phase:Int))=true:=by rw [bne_iff_ne];omega
  clear h0;have q7:∀ p:Ph.S (Row.Old wc),p.world.cell? ⟨g7,0,none⟩=some (I v0.phase):=fun p=>by have:=(M1.out.below p.is) 0 _ rfl;rwa [ke,kf] at this
  have q8:∀ p:Ph.S (Row.Old wc),p.world.cell? ⟨g8,0,none⟩=some (I u0.phase):=fun p=>by have:=(M2.out.below p.is) 0 _ rfl;rwa [ke,kf] at this
  iterate 5
   (refine Pw.calm rfl (fun K hK=>?_)
    go_simp
    refine hK _ ?_;clear hK K)
  clear q7 q8
  iterate 1
   (refine Pw.calm rfl (fun K hK=>?_)
    go_simp
    refine hK _ ?_;clear hK K)
  refine Pw.JH 5 (by kernel_rfl) ?_
  (try simp only [k7,kg,k8,kc,Pw.Jc])
  (try dsimp only [k2])
  (try simp only [k0,k3,k4])
  iterate 2
   (refine Pw.calm rfl (fun K hK=>?_)
    go_simp
    refine hK _ ?_;clear hK K)
  refine Pw.JH 5 (by kernel_rfl) ?_
  (try simp only [k7,kg,k8,kc,Pw.Jc])
  (try dsimp only [k2])
  (try simp only [k0,k3,k4])
  iterate 2
   (refine Pw.calm rfl (fun K hK=>?_)
    go_simp
    refine hK _ ?_;clear hK K)
  refine Pw.JH 7 (by kernel_rfl) ?_
  (try simp only [k7,kg,k8,kc,Pw.Jc])
  (try dsimp only [k2])
  (try simp only [k0,k3,k4])
  iterate 2
   (refine Pw.calm rfl (fun K hK=>?_)
    go_simp
    refine hK _ ?_;clear hK K)
  refine Pw.JH 7 (by kernel_rfl) ?_
  (try simp only [k7,kg,k8,kc,Pw.Jc])
  (try dsimp only [k2])
  (try simp only [k0,k3,k4])
  iterate 2
   (refine Pw.calm rfl (fun K hK=>?_)
    go_simp
    refine hK _ ?_;clear hK K)
  refine Pw.JH 7 (by kernel_rfl) ?_
  (try simp only [k7,kg,k8,kc,Pw.Jc])
  (try dsimp only [k2])
  (try simp only [k0,k3,k4])
  iterate 2
   (refine Pw.calm rfl (fun K hK=>?_)
    go_simp
    refine hK _ ?_;clear hK K)
  refine Pw.JH 7 (by kernel_rfl) ?_
  (try simp only [k7,kg,k8,kc,Pw.Jc])
  (try dsimp only [k2])
  (try simp only [k0,k3,k4])
  iterate 1
   (refine Pw.calm rfl (fun K hK=>?_)
    go_simp
    refine hK _ ?_;clear hK K)
  refine Pw.nil ?_;intro w3 hb3;exact HQ.out _ _ _ _ _ _ _ _ _ _ _ _ _ _ _ _ _ _ _ _ _ _ _ _ _ _ _ _ _ _ _ _ _ _ _ _ _ _ _ _ _ _ _ _ _ _ _ _ _ _ _ _ _ _ true w3 (by simp only [kh,false_iff];exact NE.out) hb3
 have hb0:((v0.phase:Int) != (u0.phase:Int))=false:=by rw [bne_eq_false_iff_eq];omega
 have E0:=hJJ h0;clear h0;have q7:∀ p:Ph.S (Row.Old wc),p.world.cell? ⟨g7,0,none⟩=some (I v0.phase):=fun p=>by have:=(M1.out.below p.is) 0 _ rfl;rwa [ke,kf] at this
 have q8:∀ p:Ph.S (Row.Old wc),p.world.cell? ⟨g8,0,none⟩=some (I u0.phase):=fun p=>by have:=(M2.out.below p.is) 0 _ rfl;rwa [ke,kf] at this
 iterate 5
  (refine Pw.calm rfl (fun K hK=>?_)
   go_simp
   refine hK _ ?_;clear hK K)
 clear q7 q8
 iterate 1
  (refine Pw.calm rfl (fun K hK=>?_)
   go_simp
   refine hK _ ?_;clear hK K)
 clear hb0;by_cases h1:v0.maxOn=u0.maxOn;rotate_left
 ·skip
  have NE:Hid (¬ v0=u0):=fun e=>h1 (by rw [e]);have hb:((v0.maxOn:Int) != (u0.maxOn:Int))=true:=by rw [bne_iff_ne];omega
  clear h1;have q7:∀ p:Ph.S (Row.Old wc),p.world.cell? ⟨g7,5,none⟩=some (I v0.maxOn):=fun p=>by have:=(M1.out.below p.is) 5 _ rfl;rwa [ke,kf] at this
  have q8:∀ p:Ph.S (Row.Old wc),p.world.cell? ⟨g8,5,none⟩=some (I u0.maxOn):=fun p=>by have:=(M2.out.below p.is) 5 _ rfl;rwa [ke,kf] at this
  iterate 5
   (refine Pw.calm rfl (fun K hK=>?_)
    go_simp
    refine hK _ ?_;clear hK K)
  clear q7 q8
  iterate 2
   (refine Pw.calm rfl (fun K hK=>?_)
    go_simp
    refine hK _ ?_;clear hK K)
  refine Pw.JH 5 (by kernel_rfl) ?_
  (try simp only [k7,kg,k8,kc,Pw.Jc])
  (try dsimp only [k2])
  (try simp only [k0,k3,k4])
  iterate 2
   (refine Pw.calm rfl (fun K hK=>?_)
    go_simp
    refine hK _ ?_;clear hK K)
  refine Pw.JH 7 (by kernel_rfl) ?_
  (try simp only [k7,kg,k8,kc,Pw.Jc])
  (try dsimp only [k2])
  (try simp only [k0,k3,k4])
  iterate 2
   (refine Pw.calm rfl (fun K hK=>?_)
    go_simp
    refine hK _ ?_;clear hK K)
  refine Pw.JH 7 (by kernel_rfl) ?_
  (try simp only [k7,kg,k8,kc,Pw.Jc])
  (try dsimp only [k2])
  (try simp only [k0,k3,k4])
  iterate 2
   (refine Pw.calm rfl (fun K hK=>?_)
    go_simp
    refine hK _ ?_;clear hK K)
  refine Pw.JH 7 (by kernel_rfl) ?_
  (try simp only [k7,kg,k8,kc,Pw.Jc])
  (try dsimp only [k2])
  (try simp only [k0,k3,k4])
  iterate 2
   (refine Pw.calm rfl (fun K hK=>?_)
    go_simp
    refine hK _ ?_;clear hK K)
  refine Pw.JH 7 (by kernel_rfl) ?_
  (try simp only [k7,kg,k8,kc,Pw.Jc])
  (try dsimp only [k2])
  (try simp only [k0,k3,k4])
  iterate 1
   (refine Pw.calm rfl (fun K hK=>?_)
    go_simp
    refine hK _ ?_;clear hK K)
  refine Pw.nil ?_;intro w3 hb3;exact HQ.out _ _ _ _ _ _ _ _ _ _ _ _ _ _ _ _ _ _ _ _ _ _ _ _ _ _ _ _ _ _ _ _ _ _ _ _ _ _ _ _ _ _ _ _ _ _ _ _ _ _ _ _ _ _ true w3 (by simp only [kh,false_iff];exact NE.out) hb3
 have hb1:((v0.maxOn:Int) != (u0.maxOn:Int))=false:=by rw [bne_eq_false_iff_eq];omega
 have E1:=hJJ h1;clear h1;have q7:∀ p:Ph.S (Row.Old wc),p.world.cell? ⟨g7,5,none⟩=some (I v0.maxOn):=fun p=>by have:=(M1.out.below p.is) 5 _ rfl;rwa [ke,kf] at this
 have q8:∀ p:Ph.S (Row.Old wc),p.world.cell? ⟨g8,5,none⟩=some (I u0.maxOn):=fun p=>by have:=(M2.out.below p.is) 5 _ rfl;rwa [ke,kf] at this
 iterate 5
  (refine Pw.calm rfl (fun K hK=>?_)
   go_simp
   refine hK _ ?_;clear hK K)
 clear q7 q8
 iterate 2
  (refine Pw.calm rfl (fun K hK=>?_)
   go_simp
   refine hK _ ?_;clear hK K)
 clear hb1;by_cases h2:v0.maxOff=u0.maxOff;rotate_left
 ·skip
  have NE:Hid (¬ v0=u0):=fun e=>h2 (by rw [e]);have hb:((v0.maxOff:Int) != (u0.maxOff:Int))=true:=by rw [bne_iff_ne];omega
  clear h2;have q7:∀ p:Ph.S (Row.Old wc),p.world.cell? ⟨g7,6,none⟩=some (I v0.maxOff):=fun p=>by have:=(M1.out.below p.is) 6 _ rfl;rwa [ke,kf] at this
  have q8:∀ p:Ph.S (Row.Old wc),p.world.cell? ⟨g8,6,none⟩=some (I u0.maxOff):=fun p=>by have:=(M2.out.below p.is) 6 _ rfl;rwa [ke,kf] at this
  iterate 5
   (refine Pw.calm rfl (fun K hK=>?_)
    go_simp
    refine hK _ ?_;clear hK K)
  clear q7 q8
  iterate 2
   (refine Pw.calm rfl (fun K hK=>?_)
    go_simp
    refine hK _ ?_;clear hK K)
  refine Pw.JH 7 (by kernel_rfl) ?_
  (try simp only [k7,kg,k8,kc,Pw.Jc])
  (try dsimp only [k2])
  (try simp only [k0,k3,k4])
  iterate 2
   (refine Pw.calm rfl (fun K hK=>?_)
    go_simp
    refine hK _ ?_;clear hK K)
  refine Pw.JH 7 (by kernel_rfl) ?_
  (try simp only [k7,kg,k8,kc,Pw.Jc])
  (try dsimp only [k2])
  (try simp only [k0,k3,k4])
  iterate 2
   (refine Pw.calm rfl (fun K hK=>?_)
    go_simp
    refine hK _ ?_;clear hK K)
  refine Pw.JH 7 (by kernel_rfl) ?_
  (try simp only [k7,kg,k8,kc,Pw.Jc])
  (try dsimp only [k2])
  (try simp only [k0,k3,k4])
  iterate 2
   (refine Pw.calm rfl (fun K hK=>?_)
    go_simp
    refine hK _ ?_;clear hK K)
  refine Pw.JH 7 (by kernel_rfl) ?_
  (try simp only [k7,kg,k8,kc,Pw.Jc])
  (try dsimp only [k2])
  (try simp only [k0,k3,k4])
  iterate 1
   (refine Pw.calm rfl (fun K hK=>?_)
    go_simp
    refine hK _ ?_;clear hK K)
  refine Pw.nil ?_;intro w3 hb3;exact HQ.out _ _ _ _ _ _ _ _ _ _ _ _ _ _ _ _ _ _ _ _ _ _ _ _ _ _ _ _ _ _ _ _ _ _ _ _ _ _ _ _ _ _ _ _ _ _ _ _ _ _ _ _ _ _ true w3 (by simp only [kh,false_iff];exact NE.out) hb3
 have hb2:((v0.maxOff:Int) != (u0.maxOff:Int))=false:=by rw [bne_eq_false_iff_eq];omega
 have E2:=hJJ h2;clear h2;have q7:∀ p:Ph.S (Row.Old wc),p.world.cell? ⟨g7,6,none⟩=some (I v0.maxOff):=fun p=>by have:=(M1.out.below p.is) 6 _ rfl;rwa [ke,kf] at this
 have q8:∀ p:Ph.S (Row.Old wc),p.world.cell? ⟨g8,6,none⟩=some (I u0.maxOff):=fun p=>by have:=(M2.out.below p.is) 6 _ rfl;rwa [ke,kf] at this
 iterate 5
  (refine Pw.calm rfl (fun K hK=>?_)
   go_simp
   refine hK _ ?_;clear hK K)
 clear q7 q8
 iterate 2
  (refine Pw.calm rfl (fun K hK=>?_)
   go_simp
   refine hK _ ?_;clear hK K)
 clear hb2;by_cases h3:v0.on=u0.on;rotate_left
 ·skip
  have NE:Hid (¬ v0=u0):=fun e=>h3 (by rw [e]);have hb:((v0.on:Int) != (u0.on:Int))=true:=by rw [bne_iff_ne];omega
  clear h3;have q7:∀ p:Ph.S (Row.Old wc),p.world.cell? ⟨g7,1,none⟩=some (F v0.on):=fun p=>by have:=(M1.out.below p.is) 1 _ rfl;rwa [ke,kf] at this
  have q8:∀ p:Ph.S (Row.Old wc),p.world.cell? ⟨g8,1,none⟩=some (F u0.on):=fun p=>by have:=(M2.out.below p.is) 1 _ rfl;rwa [ke,kf] at this
  iterate 2
   (refine Pw.calm rfl (fun K hK=>?_)
    go_simp
    refine hK _ ?_;clear hK K)
  (refine Pw.calm rfl (fun K hK=>?_)
   go_simp
   refine ⟨_,fun p=>Row.Old.pure (MayF.Jb _ _),hK _ ?_⟩;clear hK K)
  iterate 2
   (refine Pw.calm rfl (fun K hK=>?_)
    go_simp
    refine hK _ ?_;clear hK K)
  (refine Pw.calm rfl (fun K hK=>?_)
   go_simp
   refine ⟨_,fun p=>Row.Old.pure (MayF.Jb _ _),hK _ ?_⟩;clear hK K)
  iterate 1
   (refine Pw.calm rfl (fun K hK=>?_)
    go_simp
    refine hK _ ?_;clear hK K)
  clear q7 q8
  iterate 2
   (refine Pw.calm rfl (fun K hK=>?_)
    go_simp
    refine hK _ ?_;clear hK K)
  refine Pw.JH 7 (by kernel_rfl) ?_
  (try simp only [k7,kg,k8,kc,Pw.Jc])
  (try dsimp only [k2])
  (try simp only [k0,k3,k4])
  iterate 2
   (refine Pw.calm rfl (fun K hK=>?_)
    go_simp
    refine hK _ ?_;clear hK K)
  refine Pw.JH 7 (by kernel_rfl) ?_
  (try simp only [k7,kg,k8,kc,Pw.Jc])
  (try dsimp only [k2])
  (try simp only [k0,k3,k4])
  iterate 2
   (refine Pw.calm rfl (fun K hK=>?_)
    go_simp
    refine hK _ ?_;clear hK K)
  refine Pw.JH 7 (by kernel_rfl) ?_
  (try simp only [k7,kg,k8,kc,Pw.Jc])
  (try dsimp only [k2])
  (try simp only [k0,k3,k4])
  iterate 1
   (refine Pw.calm rfl (fun K hK=>?_)
    go_simp
    refine hK _ ?_;clear hK K)
  refine Pw.nil ?_;intro w3 hb3;exact HQ.out _ _ _ _ _ _ _ _ _ _ _ _ _ _ _ _ _ _ _ _ _ _ _ _ _ _ _ _ _ _ _ _ _ _ _ _ _ _ _ _ _ _ _ _ _ _ _ _ _ _ _ _ _ _ true w3 (by simp only [kh,false_iff];exact NE.out) hb3
 have hb3:((v0.on:Int) != (u0.on:Int))=false:=by rw [bne_eq_false_iff_eq];omega
 have E3:=hJJ h3;clear h3;have q7:∀ p:Ph.S (Row.Old wc),p.world.cell? ⟨g7,1,none⟩=some (F v0.on):=fun p=>by have:=(M1.out.below p.is) 1 _ rfl;rwa [ke,kf] at this
 have q8:∀ p:Ph.S (Row.Old wc),p.world.cell? ⟨g8,1,none⟩=some (F u0.on):=fun p=>by have:=(M2.out.below p.is) 1 _ rfl;rwa [ke,kf] at this
 iterate 2
  (refine Pw.calm rfl (fun K hK=>?_)
   go_simp
   refine hK _ ?_;clear hK K)
 (refine Pw.calm rfl (fun K hK=>?_)
  go_simp
  refine ⟨_,fun p=>Row.Old.pure (MayF.Jb _ _),hK _ ?_⟩;clear hK K)
 iterate 2
  (refine Pw.calm rfl (fun K hK=>?_)
   go_simp
   refine hK _ ?_;clear hK K)
 (refine Pw.calm rfl (fun K hK=>?_)
  go_simp
  refine ⟨_,fun p=>Row.Old.pure (MayF.Jb _ _),hK _ ?_⟩;clear hK K)
 iterate 1
  (refine Pw.calm rfl (fun K hK=>?_)
   go_simp
   refine hK _ ?_;clear hK K)
 clear q7 q8
 iterate 2
  (refine Pw.calm rfl (fun K hK=>?_)
   go_simp
   refine hK _ ?_;clear hK K)
 clear hb3;by_cases h4:v0.off=u0.off;rotate_left
 ·skip
  have NE:Hid (¬ v0=u0):=fun e=>h4 (by rw [e]);have hb:((v0.off:Int) != (u0.off:Int))=true:=by rw [bne_iff_ne];omega
  clear h4;have q7:∀ p:Ph.S (Row.Old wc),p.world.cell? ⟨g7,2,none⟩=some (F v0.off):=fun p=>by have:=(M1.out.below p.is) 2 _ rfl;rwa [ke,kf] at this
  have q8:∀ p:Ph.S (Row.Old wc),p.world.cell? ⟨g8,2,none⟩=some (F u0.off):=fun p=>by have:=(M2.out.below p.is) 2 _ rfl;rwa [ke,kf] at this
  iterate 2
   (refine Pw.calm rfl (fun K hK=>?_)
    go_simp
    refine hK _ ?_;clear hK K)
  (refine Pw.calm rfl (fun K hK=>?_)
   go_simp
   refine ⟨_,fun p=>Row.Old.pure (MayF.Jb _ _),hK _ ?_⟩;clear hK K)
  iterate 2
   (refine Pw.calm rfl (fun K hK=>?_)
    go_simp
    refine hK _ ?_;clear hK K)
  (refine Pw.calm rfl (fun K hK=>?_)
   go_simp
   refine ⟨_,fun p=>Row.Old.pure (MayF.Jb _ _),hK _ ?_⟩;clear hK K)
  iterate 1
   (refine Pw.calm rfl (fun K hK=>?_)
    go_simp
    refine hK _ ?_;clear hK K)
  clear q7 q8
  iterate 2
   (refine Pw.calm rfl (fun K hK=>?_)
    go_simp
    refine hK _ ?_;clear hK K)
  refine Pw.JH 7 (by kernel_rfl) ?_
  (try simp only [k7,kg,k8,kc,Pw.Jc])
  (try dsimp only [k2])
  (try simp only [k0,k3,k4])
  iterate 2
   (refine Pw.calm rfl (fun K hK=>?_)
    go_simp
    refine hK _ ?_;clear hK K)
  refine Pw.JH 7 (by kernel_rfl) ?_
  (try simp only [k7,kg,k8,kc,Pw.Jc])
  (try dsimp only [k2])
  (try simp only [k0,k3,k4])
  iterate 1
   (refine Pw.calm rfl (fun K hK=>?_)
    go_simp
    refine hK _ ?_;clear hK K)
  refine Pw.nil ?_;intro w3 hb3;exact HQ.out _ _ _ _ _ _ _ _ _ _ _ _ _ _ _ _ _ _ _ _ _ _ _ _ _ _ _ _ _ _ _ _ _ _ _ _ _ _ _ _ _ _ _ _ _ _ _ _ _ _ _ _ _ _ true w3 (by simp only [kh,false_iff];exact NE.out) hb3
 have hb4:((v0.off:Int) != (u0.off:Int))=false:=by rw [bne_eq_false_iff_eq];omega
 have E4:=hJJ h4;clear h4;have q7:∀ p:Ph.S (Row.Old wc),p.world.cell? ⟨g7,2,none⟩=some (F v0.off):=fun p=>by have:=(M1.out.below p.is) 2 _ rfl;rwa [ke,kf] at this
 have q8:∀ p:Ph.S (Row.Old wc),p.world.cell? ⟨g8,2,none⟩=some (F u0.off):=fun p=>by have:=(M2.out.below p.is) 2 _ rfl;rwa [ke,kf] at this
 iterate 2
  (refine Pw.calm rfl (fun K hK=>?_)
   go_simp
   refine hK _ ?_;clear hK K)
 (refine Pw.calm rfl (fun K hK=>?_)
  go_simp
  refine ⟨_,fun p=>Row.Old.pure (MayF.Jb _ _),hK _ ?_⟩;clear hK K)
 iterate 2
  (refine Pw.calm rfl (fun K hK=>?_)
   go_simp
   refine hK _ ?_;clear hK K)
 (refine Pw.calm rfl (fun K hK=>?_)
  go_simp
  refine ⟨_,fun p=>Row.Old.pure (MayF.Jb _ _),hK _ ?_⟩;clear hK K)
 iterate 1
  (refine Pw.calm rfl (fun K hK=>?_)
   go_simp
   refine hK _ ?_;clear hK K)
 clear q7 q8
 iterate 2
  (refine Pw.calm rfl (fun K hK=>?_)
   go_simp
   refine hK _ ?_;clear hK K)
 clear hb4;by_cases h5:v0.delay=u0.delay;rotate_left
 ·skip
  have NE:Hid (¬ v0=u0):=fun e=>h5 (by rw [e]);have hb:((v0.delay:Int) != (u0.delay:Int))=true:=by rw [bne_iff_ne];omega
  clear h5;have q7:∀ p:Ph.S (Row.Old wc),p.world.cell? ⟨g7,3,none⟩=some (F v0.delay):=fun p=>by have:=(M1.out.below p.is) 3 _ rfl;rwa [ke,kf] at this
  have q8:∀ p:Ph.S (Row.Old wc),p.world.cell? ⟨g8,3,none⟩=some (F u0.delay):=fun p=>by have:=(M2.out.below p.is) 3 _ rfl;rwa [ke,kf] at this
  iterate 2
   (refine Pw.calm rfl (fun K hK=>?_)
    go_simp
    refine hK _ ?_;clear hK K)
  (refine Pw.calm rfl (fun K hK=>?_)
   go_simp
   refine ⟨_,fun p=>Row.Old.pure (MayF.Jb _ _),hK _ ?_⟩;clear hK K)
  iterate 2
   (refine Pw.calm rfl (fun K hK=>?_)
    go_simp
    refine hK _ ?_;clear hK K)
  (refine Pw.calm rfl (fun K hK=>?_)
   go_simp
   refine ⟨_,fun p=>Row.Old.pure (MayF.Jb _ _),hK _ ?_⟩;clear hK K)
  iterate 1
   (refine Pw.calm rfl (fun K hK=>?_)
    go_simp
    refine hK _ ?_;clear hK K)
  clear q7 q8
  iterate 2
   (refine Pw.calm rfl (fun K hK=>?_)
    go_simp
    refine hK _ ?_;clear hK K)
  refine Pw.JH 7 (by kernel_rfl) ?_
  (try simp only [k7,kg,k8,kc,Pw.Jc])
  (try dsimp only [k2])
  (try simp only [k0,k3,k4])
  iterate 1
   (refine Pw.calm rfl (fun K hK=>?_)
    go_simp
    refine hK _ ?_;clear hK K)
  refine Pw.nil ?_;intro w3 hb3;exact HQ.out _ _ _ _ _ _ _ _ _ _ _ _ _ _ _ _ _ _ _ _ _ _ _ _ _ _ _ _ _ _ _ _ _ _ _ _ _ _ _ _ _ _ _ _ _ _ _ _ _ _ _ _ _ _ true w3 (by simp only [kh,false_iff];exact NE.out) hb3
 have hb5:((v0.delay:Int) != (u0.delay:Int))=false:=by rw [bne_eq_false_iff_eq];omega
 have E5:=hJJ h5;clear h5;have q7:∀ p:Ph.S (Row.Old wc),p.world.cell? ⟨g7,3,none⟩=some (F v0.delay):=fun p=>by have:=(M1.out.below p.is) 3 _ rfl;rwa [ke,kf] at this
 have q8:∀ p:Ph.S (Row.Old wc),p.world.cell? ⟨g8,3,none⟩=some (F u0.delay):=fun p=>by have:=(M2.out.below p.is) 3 _ rfl;rwa [ke,kf] at this
 iterate 2
  (refine Pw.calm rfl (fun K hK=>?_)
   go_simp
   refine hK _ ?_;clear hK K)
 (refine Pw.calm rfl (fun K hK=>?_)
  go_simp
  refine ⟨_,fun p=>Row.Old.pure (MayF.Jb _ _),hK _ ?_⟩;clear hK K)
 iterate 2
  (refine Pw.calm rfl (fun K hK=>?_)
   go_simp
   refine hK _ ?_;clear hK K)
 (refine Pw.calm rfl (fun K hK=>?_)
  go_simp
  refine ⟨_,fun p=>Row.Old.pure (MayF.Jb _ _),hK _ ?_⟩;clear hK K)
 iterate 1
  (refine Pw.calm rfl (fun K hK=>?_)
   go_simp
   refine hK _ ?_;clear hK K)
 clear q7 q8
 iterate 2
  (refine Pw.calm rfl (fun K hK=>?_)
   go_simp
   refine hK _ ?_;clear hK K)
 clear hb5;by_cases h6:v0.extend=u0.extend;rotate_left
 ·skip
  have NE:Hid (¬ v0=u0):=fun e=>h6 (by rw [e]);have hb:((v0.extend:Int) != (u0.extend:Int))=true:=by rw [bne_iff_ne];omega
  clear h6;have q7:∀ p:Ph.S (Row.Old wc),p.world.cell? ⟨g7,4,none⟩=some (F v0.extend):=fun p=>by have:=(M1.out.below p.is) 4 _ rfl;rwa [ke,kf] at this
  have q8:∀ p:Ph.S (Row.Old wc),p.world.cell? ⟨g8,4,none⟩=some (F u0.extend):=fun p=>by have:=(M2.out.below p.is) 4 _ rfl;rwa [ke,kf] at this
  iterate 2
   (refine Pw.calm rfl (fun K hK=>?_)
    go_simp
    refine hK _ ?_;clear hK K)
  (refine Pw.calm rfl (fun K hK=>?_)
   go_simp
   refine ⟨_,fun p=>Row.Old.pure (MayF.Jb _ _),hK _ ?_⟩;clear hK K)
  iterate 2
   (refine Pw.calm rfl (fun K hK=>?_)
    go_simp
    refine hK _ ?_;clear hK K)
  (refine Pw.calm rfl (fun K hK=>?_)
   go_simp
   refine ⟨_,fun p=>Row.Old.pure (MayF.Jb _ _),hK _ ?_⟩;clear hK K)
  iterate 1
   (refine Pw.calm rfl (fun K hK=>?_)
    go_simp
    refine hK _ ?_;clear hK K)
  clear q7 q8
  iterate 1
   (refine Pw.calm rfl (fun K hK=>?_)
    go_simp
    refine hK _ ?_;clear hK K)
  refine Pw.nil ?_;intro w3 hb3;exact HQ.out _ _ _ _ _ _ _ _ _ _ _ _ _ _ _ _ _ _ _ _ _ _ _ _ _ _ _ _ _ _ _ _ _ _ _ _ _ _ _ _ _ _ _ _ _ _ _ _ _ _ _ _ _ _ true w3 (by simp only [kh,false_iff];exact NE.out) hb3
 have hb6:((v0.extend:Int) != (u0.extend:Int))=false:=by rw [bne_eq_false_iff_eq];omega
 have E6:=hJJ h6;clear h6;have q7:∀ p:Ph.S (Row.Old wc),p.world.cell? ⟨g7,4,none⟩=some (F v0.extend):=fun p=>by have:=(M1.out.below p.is) 4 _ rfl;rwa [ke,kf] at this
 have q8:∀ p:Ph.S (Row.Old wc),p.world.cell? ⟨g8,4,none⟩=some (F u0.extend):=fun p=>by have:=(M2.out.below p.is) 4 _ rfl;rwa [ke,kf] at this
 iterate 2
  (refine Pw.calm rfl (fun K hK=>?_)
   go_simp
   refine hK _ ?_;clear hK K)
 (refine Pw.calm rfl (fun K hK=>?_)
  go_simp
  refine ⟨_,fun p=>Row.Old.pure (MayF.Jb _ _),hK _ ?_⟩;clear hK K)
 iterate 2
  (refine Pw.calm rfl (fun K hK=>?_)
   go_simp
   refine hK _ ?_;clear hK K)
 (refine Pw.calm rfl (fun K hK=>?_)
  go_simp
  refine ⟨_,fun p=>Row.Old.pure (MayF.Jb _ _),hK _ ?_⟩;clear hK K)
 iterate 1
  (refine Pw.calm rfl (fun K hK=>?_)
   go_simp
   refine hK _ ?_;clear hK K)
 clear q7 q8
 iterate 1
  (refine Pw.calm rfl (fun K hK=>?_)
   go_simp
   refine hK _ ?_;clear hK K)
 clear hb6;refine Pw.nil ?_;intro w3 hb3
 have EQ:Hid (v0=u0):=hJJ (by
  have e0:=E0.out;have e1:=E1.out;have e2:=E2.out;have e3:=E3.out;have e4:=E4.out;have e5:=E5.out;have e6:=E6.out;obtain ⟨a0,a1,a2,a3,a4,a5,a6⟩:=v0;obtain ⟨b0,b1,b2,b3,b4,b5,b6⟩:=u0;simp only at e0 e1 e2 e3 e4 e5 e6;subst e0 e1 e2 e3 e4 e5 e6;rfl)
 exact HQ.out _ _ _ _ _ _ _ _ _ _ _ _ _ _ _ _ _ _ _ _ _ _ _ _ _ _ _ _ _ _ _ _ _ _ _ _ _ _ _ _ _ _ _ _ _ _ _ _ _ _ _ _ _ _ false w3 (by simp only [true_iff];exact EQ.out) hb3
end Same
namespace Same
open Zip
open Go.ChangeShapes Go.WideShapes Go.ChangeAt Go.RowKit
open Tab Owned CodeAt
open May (j3 chain jL jG j0f jT jH j06 jK jg St)
theorem ja3 (T U:Tab) (h k:Hd) (w:World) (ht:jy w h T) (hu:jy w k U) :
  Calls Tryz.prog 9 #[.agg (T.cells h).toArray,.agg (U.cells k).toArray] w fun e w'=>e=.returned (.bool (decide (T=U)))/\Below w.heap.size w w':=by
 have C:=hJJ (j9 ht);have D:=hJJ (j9 hu);generalize (T.cells h).toArray=cs at C |-;generalize (U.cells k).toArray=ds at D |-;obtain ⟨gs,hgd,hgr⟩:=ht.groups;obtain ⟨us,hud,hur⟩:=hu.groups;have Hgr:=hJJ hgr;have Hur:=hJJ hur;have Kg:=hgr.1.len;have Ku:=hur.1.len;have Kd:=ht.dets.len;have Kd':=hu.dets.len;have Kr:=ht.rails.len;have Kr':=hu.rails.len;have Kb:=ht.buses.len;have Kb':=hu.buses.len;unfold maxLen at Kg Ku Kd Kd' Kr Kr' Kb Kb';have Hgl:=hJJ (show T.groups.length=gs.length by rw [<-hgd,kv]);have Hul:=hJJ (show U.groups.length=us.length by rw [<-hud,kv]);have b1w:Below w.heap.size w ((w.alloc (.cells cs 33)).alloc (.cells ds 33)):=((kb _ _).alloc (kj _) _).alloc (by simp) _;have SS:Hid (Two w cs ds h k T U ((w.alloc (.cells cs 33)).alloc (.cells ds 33))):=⟨⟨b1w,Kl w _ _,ht.below b1w,kj _⟩,⟨b1w,Km w _ _,hu.below b1w,by omega⟩⟩;have E1:=hJJ (j4J T.phases U.phases ht.ph hu.ph);have E3:=hJJ (j2g T.conflict U.conflict ht.cf hu.cf);have E7:=hJJ (j2g T.flash U.flash ht.fl hu.fl);have GD:Hid (gs.map Gr.data=us.map Gr.data ↔ T.groups=U.groups):=by rw [hgd,hud];exact Iff.rfl
 have L1:=hJJ ht;have L2:=hJJ hu;have hsz:=C.out.size;have hsd:=D.out.size;clear ht hu hgr hur b1w hgd hud;go_enter Tryz.func9,Tryz.ntmps9
 go_upto_region 1 with fail
 generalize (w.alloc (.cells cs 33)).alloc (.cells ds 33)=w1 at SS |-;clear hsz hsd;clear E1 E3 E7;refine jbI T U h k w w1 cs ds L1 L2 C D SS _ _ _ _ _ _ _ _ _ _ _ _ _ _ _ _ _ _ _ _ _ _ _ _ _ _ _ _ _ _ _ _ _ _ _ _ _ _ _ _ _ _ _ _ _ _ _ _ _ _ _ _ _ _ _ _ _ _ _ _ _ _ _ _ _ _ _ _ _ _ _ _ _ _ _ _ _ _ _ _ _ _ _ _ _ _ _ _ _ _ _ _ _ _ _ _ _ _ _ _ _ _ _ _ _ _ _ _ _ _ _ _ _ _ _ _ _ _ _ _ _ _ _ _ _ _ _ _ _ _ _ _ _ _ _ _ _ _ _ _ _ _ _ _ _ _ _ _ _ _ _ _ _ _ _ _ _ _ _ _ _ _ _ _ _ _ _ _ _ _ _ _ _ _ _ _ _ _ _ _ _ _ _ _ _ _ _ _ _ _ _ _ _ _ _ _ _ _ _ _ _ _ _ _ _ _ _ _ _ _ _ _ _ _ _ _ _ _ _ _ _ _ _ _ _ _ _ _ _ _ _ _ _ _ _ _ _ _ _ _ _ (hJJ ?_);intro x11 x12 x13 x14 x15 x16 x17 x18 x19 x20 x21 x22 x23 x24 x25 x26 x27 x28 x29 x30 x31 x32 x33 x34 x35 x36 x37 x38 x39 x40 x41 x42 x43 x44 x45 x46 x47 x48 x49 x50 x51 x52 x53 x54 x55 x56 x57 x58 x59 x60 x61 x62 x63 x64 b hb;cases b;rotate_left
 ·have NE:Hid (¬ T=U):=fun e=>by
   have h2:j39 T U:=by rw [e];exact ⟨rfl,rfl,rfl,rfl,rfl,rfl,rfl⟩
   have:=hb.2 h2;simp at this
  clear hb;go_wp2;go_ret;exact ⟨j3 (decide_eq_false NE.out).symm,SS.out.t.bel⟩
 have HH:=hJJ (hb.1 rfl);clear hb;generalize w1=wc at SS |-;go_upto_region 3 with fail
 have a0:=SS.out.t.cell C.out.extend;have a1:=SS.out.t.cell C.out.budget;have a2:=SS.out.t.cell C.out.start;have a3:=SS.out.t.cell C.out.revert;have a4:=SS.out.t.cell C.out.least;have a5:=SS.out.t.cell C.out.window;have a6:=SS.out.t.cell C.out.share;have SB:=SS.out.step (show Below wc.heap.size wc (wc.alloc (.cells #[I T.extend,I T.budget,I T.start,I T.revert,I T.least,I T.window,I T.share] 3)) from (kb _ _).alloc (kj _) _);have b0:=SB.u.cell D.out.extend;have b1:=SB.u.cell D.out.budget;have b2:=SB.u.cell D.out.start;have b3:=SB.u.cell D.out.revert;have b4:=SB.u.cell D.out.least;have b5:=SB.u.cell D.out.window;have b6:=SB.u.cell D.out.share;clear SB;go_wp2_with fail
 refine (j9K (some ⟨wc.heap.size,0,none⟩) (some ⟨wc.heap.size+1,0,none⟩) 7 7 (single T) (single U) 7 7 rfl rfl _ ((jg wc _ (single T) 7 rfl (by decide) _ rfl).below ((kb _ _).alloc (kj _) _)) (jg _ _ (single U) 7 rfl (by decide) (wc.heap.size+1) (by simp))).mono ?_;rintro e w2 ⟨rfl,hb⟩;have hb2:Below wc.heap.size wc w2:=Below.trans (K4 (K4 (kb _ _) (kj _) _) (by simp) _) (hb.mono (by simp <;> omega));have S2:=hJJ (SS.out.step hb2);clear hb hb2 SS a0 a1 a2 a3 a4 a5 a6 b0 b1 b2 b3 b4 b5 b6;by_cases h8:single T=single U;rotate_left
 ·have NE:Hid (¬ T=U):=fun e=>h8 (by rw [e]);rw [decide_eq_false h8];clear h8;go_wp2;go_ret;exact ⟨j3 (decide_eq_false NE.out).symm,S2.out.t.bel⟩
 rw [decide_eq_true h8];have H8:=hJJ h8;have HLg:Hid (gs.length=us.length):=hJJ (by rw [<-Hgl.out,<-Hul.out];exact HH.out.h4);have q104:=S2.out.t.cell C.out.g;rw [Hgl.out] at q104;clear h8;go_wp2_with fail
 go_loopw [5] (fun i wr=>∃ q:Nat,q<=gs.length/\i=.int .i64 q/\(gs.take q).map Gr.data=(us.take q).map Gr.data/\Two w cs ds h k T U wr) (fun i _=>gs.length - (intOf i).toNat)
 case atStart=>exact ⟨0,by omega,rfl,rfl,S2.out⟩
 case round =>
  clear S2 q104;obtain ⟨q,hq,rfl,hall,hs⟩:=hrel;have S1:=hJJ hs;have Hall:=hJJ hall;clear hs hall;have q104:=S1.out.t.cell C.out.g;rw [Hgl.out] at q104;by_cases hlt:q < gs.length
  ·have hlu:q < us.length:=by have:=HLg.out;omega
   have hv:=kd hlt;have hu:=kd hlu;generalize gs[q]=v at hv;generalize us[q]=u at hu;obtain ⟨x,hx,hc⟩:=(Hgr.out.1.below S1.out.t.bel).at hv;obtain ⟨y,hy,hc'⟩:=(Hur.out.1.below S1.out.u.bel).at hu;have ok1:=(Hgr.out.2 v (ko hv)).below S1.out.t.bel;have ok2:=(Hur.out.2 u (ko hu)).below S1.out.u.bel;have HV:=hJJ hv;have HU:=hJJ hu;obtain ⟨l0,l1,⟨a0,cap0⟩,⟨a1,cap1⟩⟩:=v;obtain ⟨m0,m1,⟨b0,bap0⟩,⟨b1,bap1⟩⟩:=u;have H0:=hJJ ok1.1;have H1:=hJJ ok1.2;have H2:=hJJ ok2.1;have H3:=hJJ ok2.2;have r104:=S1.out.u.cell D.out.g;rw [Hul.out] at r104;have qq104:Hid (wr.cell? ⟨w.heap.size,104,none⟩=some (.slice (some x) gs.length h.g.cap)):=by have:=q104;simp only [Sl.val,hx] at this;exact this
   have rr104:Hid (wr.cell? ⟨w.heap.size+1,104,none⟩=some (.slice (some y) us.length k.g.cap)):=by have:=r104;simp only [Sl.val,hy] at this;exact this
   have c0:=hc 0 _ rfl;have c1:=hc 1 _ rfl;have d0:=hc' 0 _ rfl;have d1:=hc' 1 _ rfl;rw [add_zero] at c0 d0;rw [add_one] at c1 d1;have C0:=hJJ (And.intro c0 c1);have D0:=hJJ (And.intro d0 d1);clear r104 hc hc' hv hu ok1 ok2 hx hy c0 c1 d0 d1;go_wp2_with fail
   refine ja2 w wr q gs.length us.length h.g.cap k.g.cap x y a0 a1 b0 b1 cap0 cap1 bap0 bap1 l0 l1 m0 m1 hlt hlu Kg Ku qq104 rr104 C0 D0 H0 H1 H2 H3 _ _ _ _ _ _ _ _ _ _ _ _ _ _ _ _ _ _ _ _ _ _ _ _ _ _ _ _ _ _ _ _ _ _ _ _ _ _ _ _ _ _ _ _ _ _ _ _ _ _ _ _ _ _ _ _ _ _ _ _ _ _ _ _ _ _ _ _ _ _ _ _ _ _ _ _ _ _ _ _ _ _ _ _ _ _ _ _ _ _ _ _ _ _ _ _ _ _ _ _ _ _ _ _ _ _ _ _ _ _ _ _ _ _ _ _ _ _ _ _ _ _ _ _ _ _ _ _ _ _ _ _ _ _ _ _ _ _ _ _ _ _ _ _ _ _ _ _ _ _ _ _ _ _ _ _ _ _ _ _ _ _ _ _ _ _ _ _ _ _ _ _ _ _ _ _ _ _ _ _ _ _ _ _ _ _ _ _ _ _ _ _ _ _ _ _ _ _ _ _ _ _ _ _ _ _ _ _ _ _ _ _ _ _ _ _ _ _ _ _ _ _ _ _ _ _ _ _ _ _ _ _ _ _ _ _ _ _ _ _ (hJJ ?_);intro x105 x106 x107 x108 x109 x110 x111 x112 x113 x114 x115 x116 x117 x118 x119 x120 x121 x122 x123 x124 x125 x126 x127 x128 x129 x130 x131 x132 x133 b w3 hbq hb3;have S3:=hJJ (S1.out.step hb3);clear hb3 q104 qq104 rr104 C0 D0 H0 H1 H2 H3 S1;cases b
   ·have HD:=hJJ (hbq.1 rfl);clear hbq;go_wp2;go_roundw;case rel=>exact ⟨q+1,by omega,by go_num,ja1 HV.out HU.out Hall.out (by simp only [Gr.data,HD.out.1,HD.out.2]),S3.out⟩
    case measure=>simp [intOf];omega
   have NE:Hid (¬ T=U):=fun e=>j8j HV.out HU.out (fun e=>by
    simp only [Gr.data,Prod.mk.injEq] at e;have:=hbq.2 e;simp at this) (GD.out.2 (by rw [e]))
   clear hbq;go_wp2;go_ret;exact ⟨j3 (decide_eq_false NE.out).symm,S3.out.t.bel⟩
  have HG:Hid (T.groups=U.groups):=GD.out.1 (by
   have e:=Hall.out
   rwa [kN (by omega),kN (by have:=HLg.out;omega)] at e)
  have q113:=S1.out.t.cell C.out.d;clear Hall;go_wp2_with fail
  clear q104;go_loopw [6] (fun i wr=>∃ q:Nat,q<=T.dets.length/\i=.int .i64 q/\T.dets.take q=U.dets.take q/\Two w cs ds h k T U wr) (fun i _=>T.dets.length - (intOf i).toNat)
  case atStart=>exact ⟨0,by omega,rfl,rfl,S1.out⟩
  case round =>
   clear S1 q113;obtain ⟨q,hq,rfl,hall,hs⟩:=hrel;have S1:=hJJ hs;have Hall:=hJJ hall;clear hs hall;have q113:=S1.out.t.cell C.out.d;by_cases hlt:q < T.dets.length
   ·have hlu:q < U.dets.length:=by have:=HH.out.h5;omega
    have hv:=kd hlt;have hu:=kd hlu;generalize T.dets[q]=v0 at hv;generalize U.dets[q]=u0 at hu;obtain ⟨x,hx,hc⟩:=S1.out.t.tab.dets.at hv;obtain ⟨y,hy,hc'⟩:=S1.out.u.tab.dets.at hu;have HV:=hJJ hv;have HU:=hJJ hu;have HC:=hJJ hc;have HC':=hJJ hc';have r113:=S1.out.u.cell D.out.d;have qq113:Hid (wr.cell? ⟨w.heap.size,113,none⟩=some (.slice (some x) T.dets.length h.d.cap)):=by have:=q113;simp only [Sl.val,hx] at this;exact this
    have rr113:Hid (wr.cell? ⟨w.heap.size+1,113,none⟩=some (.slice (some y) U.dets.length k.d.cap)):=by have:=r113;simp only [Sl.val,hy] at this;exact this
    clear r113 hc hc' hv hu hx hy;go_upto_region 13 with fail
    refine jbf (fun c a a' w e h=>by cases a;cases a';cases e;exact h) w wr q T.dets.length U.dets.length h.d.cap k.d.cap x y v0 u0 hlt hlu Kd Kd' qq113 rr113 HC HC' _ _ _ _ _ _ _ _ _ _ _ _ _ _ _ _ _ _ _ _ _ _ _ _ _ _ _ _ _ _ _ _ _ _ _ _ _ _ _ _ _ _ _ _ _ _ _ _ _ _ _ _ _ _ _ _ _ _ _ _ _ _ _ _ _ _ _ _ _ _ _ _ _ _ _ _ _ _ _ _ _ _ _ _ _ _ _ _ _ _ _ _ _ _ _ _ _ _ _ _ _ _ _ _ _ _ _ _ _ _ _ _ _ _ _ _ _ _ _ _ _ _ _ _ _ _ _ _ _ _ _ _ _ _ _ _ _ _ _ _ _ _ _ _ _ _ _ _ _ _ _ _ _ _ _ _ _ _ _ _ _ _ _ _ _ _ _ _ _ _ _ _ _ _ _ _ _ _ _ _ _ _ _ _ _ _ _ _ _ _ _ _ _ _ _ _ _ _ _ _ _ _ _ _ _ _ _ _ _ _ _ _ _ _ _ _ _ _ _ _ _ _ _ _ _ _ _ _ _ _ _ _ _ _ _ _ _ _ _ _ (hJJ ?_);intro x142 x143 x144 x145 x146 x147 x148 x149 x150 x151 g7 g8 wb hg7 hg8 hbx;have S2:=hJJ (S1.out.step hbx);have G7:=hJJ hg7;have G8:=hJJ hg8;clear hg7 hg8 hbx q113 qq113 rr113 HC HC' S1;go_upto_region 14 with fail
    refine jdb wb g7 g8 v0 u0 G7.out G8.out _ _ _ _ _ _ _ _ _ _ _ _ _ _ _ _ _ _ _ _ _ _ _ _ _ _ _ _ _ _ _ _ _ _ _ _ _ _ _ _ _ _ _ _ _ _ _ _ _ _ _ _ _ _ _ _ _ _ _ _ _ _ _ _ _ _ _ _ _ _ _ _ _ _ _ _ _ _ _ _ _ _ _ _ _ _ _ _ _ _ _ _ _ _ _ _ _ _ _ _ _ _ _ _ _ _ _ _ _ _ _ _ _ _ _ _ _ _ _ _ _ _ _ _ _ _ _ _ _ _ _ _ _ _ _ _ _ _ _ _ _ _ _ _ _ _ _ _ _ _ _ _ _ _ _ _ _ _ _ _ _ _ _ _ _ _ _ _ _ _ _ _ _ _ _ _ _ _ _ _ _ _ _ _ _ _ _ _ _ _ _ _ _ _ _ _ _ _ _ _ _ _ _ _ _ _ _ _ _ _ _ _ _ _ _ _ _ _ _ _ _ _ _ _ _ _ _ _ _ _ _ _ _ _ _ _ _ _ _ _ _ (hJJ ?_);intro x152 x153 x154 x155 x156 x157 x158 x159 x160 x161 x162 x163 x164 x165 x166 x167 x168 x169 x170 x171 x172 x173 x174 x175 x176 x177 x178 x179 x180 x181 x182 x183 x184 x185 x186 x187 x188 x189 x190 x191 x192 x193 x194 x195 x196 x197 x198 x199 x200 x201 x202 x203 x204 x205 b w3 hbq hb3;have S3:=hJJ (S2.out.step hb3);clear hb3 G7 G8 S2;cases b
    ·have EQ:=hJJ (hbq.1 rfl);clear hbq;go_wp2;go_roundw;case rel=>exact ⟨q+1,by omega,by go_num,j4j HV.out HU.out Hall.out EQ.out,S3.out⟩
     case measure=>simp [intOf];omega
    have NE:Hid (¬ T=U):=fun e=>j35 HV.out HU.out (fun e=>by
     have:=hbq.2 e;simp at this) (by rw [e])
    clear hbq;go_wp2;go_ret;exact ⟨j3 (decide_eq_false NE.out).symm,S3.out.t.bel⟩
   have HD:Hid (T.dets=U.dets):=hJJ (j6m Hall.out HH.out.h5 hlt);have q114:=S1.out.t.cell C.out.r;clear Hall;go_wp2_with fail
   clear q113;go_loopw [9] (fun i wr=>∃ q:Nat,q<=T.rails.length/\i=.int .i64 q/\T.rails.take q=U.rails.take q/\Two w cs ds h k T U wr) (fun i _=>T.rails.length - (intOf i).toNat)
   case atStart=>exact ⟨0,by omega,rfl,rfl,S1.out⟩
   case round =>
    clear S1 q114;obtain ⟨q,hq,rfl,hall,hs⟩:=hrel;have S1:=hJJ hs;have Hall:=hJJ hall;clear hs hall;have q114:=S1.out.t.cell C.out.r;by_cases hlt:q < T.rails.length
    ·skip
     have hlu:q < U.rails.length:=by have:=HH.out.h6;omega
     have hv:=kd hlt;have hu:=kd hlu;generalize T.rails[q]=v at hv;generalize U.rails[q]=u at hu;obtain ⟨x,hx,hc⟩:=S1.out.t.tab.rails.at hv;obtain ⟨y,hy,hc'⟩:=S1.out.u.tab.rails.at hu;have HV:=hJJ hv;have HU:=hJJ hu;have HC:=hJJ hc;have HC':=hJJ hc';have r:=S1.out.u.cell D.out.r;have qq:Hid (wr.cell? ⟨w.heap.size,114,none⟩=some (.slice (some x) T.rails.length h.r.cap)):=by have:=q114;simp only [Sl.val,hx] at this;exact this
     have rr:Hid (wr.cell? ⟨w.heap.size+1,114,none⟩=some (.slice (some y) U.rails.length k.r.cap)):=by have:=r;simp only [Sl.val,hy] at this;exact this
     clear r hc hc' hv hu hx hy;go_upto_region 19 with fail
     have f1:∀ p:Ph.S (Row.Old wr),p.world.cell? ⟨w.heap.size,114,none⟩=some (.slice (some x) T.rails.length h.r.cap):=fun p=>(p.is.cell (kr wr _ qq.out)).trans qq.out;have f2:∀ p:Ph.S (Row.Old wr),p.world.cell? ⟨w.heap.size+1,114,none⟩=some (.slice (some y) U.rails.length k.r.cap):=fun p=>(p.is.cell (kr wr _ rr.out)).trans rr.out;have hne:Nonempty (Ph.S (Row.Old wr)):=⟨⟨0,wr,kb _ _⟩⟩;clear q114;refine Pw.region (Row.Old wr) [] (by kernel_rfl) (by kernel_rfl) (Row.Old.drew _) ?_
     iterate 4
      (refine Pw.calm rfl (fun K hK=>?_)
       go_simp
       refine hK _ ?_;clear hK K)
     refine Pw.load rfl rfl 75 _ rfl (x.add (q*11)) rfl v.cells _ (fun p=>HC.out.below p.is) Tryz.underlying75 rfl jH ?_
     (try dsimp only [k2]);(try simp only [zA,zB,zC])
     iterate 4
      (refine Pw.calm rfl (fun K hK=>?_)
       go_simp
       refine hK _ ?_;clear hK K)
     refine Pw.load rfl rfl 75 _ rfl (y.add (q*11)) rfl u.cells _ (fun p=>HC'.out.below p.is) Tryz.underlying75 rfl jH ?_
     (try dsimp only [k2]);(try simp only [zA,zB,zC])
     refine Pw.neq 75 _ _ _ rfl rfl rfl v.cells.toArray u.cells.toArray rfl rfl jdU _ (jaA v u) ?_
     (try dsimp only [k2]);(try simp only [zA,zB,zC])
     refine Pw.nil ?_;intro w3 hb3;have S3:=hJJ (S1.out.step hb3);clear hb3 hne f1 f2;by_cases hvu:v=u
     ·have HE:=hJJ hvu;rw [decide_eq_true hvu];clear hvu;simp only [kx];go_wp2;go_roundw;case rel=>exact ⟨q+1,by omega,by go_num,j4j HV.out HU.out Hall.out HE.out,S3.out⟩
      case measure=>simp [intOf];omega
     have NE:Hid (¬ T=U):=fun e=>j35 HV.out HU.out hvu (by rw [e]);rw [decide_eq_false hvu];clear hvu;simp only [ku];go_wp2;go_ret;exact ⟨j3 (decide_eq_false NE.out).symm,S3.out.t.bel⟩
    have HErails:Hid (T.rails=U.rails):=hJJ (j6m Hall.out HH.out.h6 hlt);clear Hall;have q115:=S1.out.t.cell C.out.b;go_wp2_with fail
    clear q114;go_loopw [10] (fun i wr=>∃ q:Nat,q<=T.buses.length/\i=.int .i64 q/\T.buses.take q=U.buses.take q/\Two w cs ds h k T U wr) (fun i _=>T.buses.length - (intOf i).toNat)
    case atStart=>exact ⟨0,by omega,rfl,rfl,S1.out⟩
    case round =>
     clear S1 q115;obtain ⟨q,hq,rfl,hall,hs⟩:=hrel;have S1:=hJJ hs;have Hall:=hJJ hall;clear hs hall;have q115:=S1.out.t.cell C.out.b;by_cases hlt:q < T.buses.length
     ·skip
      have hlu:q < U.buses.length:=by have:=HH.out.h7;omega
      have hv:=kd hlt;have hu:=kd hlu;generalize T.buses[q]=v at hv;generalize U.buses[q]=u at hu;obtain ⟨x,hx,hc⟩:=S1.out.t.tab.buses.at hv;obtain ⟨y,hy,hc'⟩:=S1.out.u.tab.buses.at hu;have HV:=hJJ hv;have HU:=hJJ hu;have HC:=hJJ hc;have HC':=hJJ hc';have r:=S1.out.u.cell D.out.b;have qq:Hid (wr.cell? ⟨w.heap.size,115,none⟩=some (.slice (some x) T.buses.length h.b.cap)):=by have:=q115;simp only [Sl.val,hx] at this;exact this
      have rr:Hid (wr.cell? ⟨w.heap.size+1,115,none⟩=some (.slice (some y) U.buses.length k.b.cap)):=by have:=r;simp only [Sl.val,hy] at this;exact this
      clear r hc hc' hv hu hx hy;go_upto_region 24 with fail
      have f1:∀ p:Ph.S (Row.Old wr),p.world.cell? ⟨w.heap.size,115,none⟩=some (.slice (some x) T.buses.length h.b.cap):=fun p=>(p.is.cell (kr wr _ qq.out)).trans qq.out;have f2:∀ p:Ph.S (Row.Old wr),p.world.cell? ⟨w.heap.size+1,115,none⟩=some (.slice (some y) U.buses.length k.b.cap):=fun p=>(p.is.cell (kr wr _ rr.out)).trans rr.out;have hne:Nonempty (Ph.S (Row.Old wr)):=⟨⟨0,wr,kb _ _⟩⟩;clear q115;refine Pw.region (Row.Old wr) [] (by kernel_rfl) (by kernel_rfl) (Row.Old.drew _) ?_
      iterate 4
       (refine Pw.calm rfl (fun K hK=>?_)
        go_simp
        refine hK _ ?_;clear hK K)
      refine Pw.load rfl rfl 77 _ rfl (x.add (q*2)) rfl v.cells _ (fun p=>HC.out.below p.is) Tryz.underlying77 rfl j06 ?_
      (try dsimp only [k2]);(try simp only [zA,zB,zC])
      iterate 4
       (refine Pw.calm rfl (fun K hK=>?_)
        go_simp
        refine hK _ ?_;clear hK K)
      refine Pw.load rfl rfl 77 _ rfl (y.add (q*2)) rfl u.cells _ (fun p=>HC'.out.below p.is) Tryz.underlying77 rfl j06 ?_
      (try dsimp only [k2]);(try simp only [zA,zB,zC])
      refine Pw.neq 77 _ _ _ rfl rfl rfl v.cells.toArray u.cells.toArray rfl rfl jdV _ (jcr v u) ?_
      (try dsimp only [k2]);(try simp only [zA,zB,zC])
      refine Pw.nil ?_;intro w3 hb3;have S3:=hJJ (S1.out.step hb3);clear hb3 hne f1 f2;by_cases hvu:v=u
      ·have HE:=hJJ hvu;rw [decide_eq_true hvu];clear hvu;simp only [kx];go_wp2;go_roundw;case rel=>exact ⟨q+1,by omega,by go_num,j4j HV.out HU.out Hall.out HE.out,S3.out⟩
       case measure=>simp [intOf];omega
      have NE:Hid (¬ T=U):=fun e=>j35 HV.out HU.out hvu (by rw [e]);rw [decide_eq_false hvu];clear hvu;simp only [ku];go_wp2;go_ret;exact ⟨j3 (decide_eq_false NE.out).symm,S3.out.t.bel⟩
     have HEbuses:Hid (T.buses=U.buses):=hJJ (j6m Hall.out HH.out.h7 hlt);clear Hall;go_wp2;go_ret;exact ⟨j3 (decide_eq_true (jex HH.out.h1 HG.out HH.out.h2 HD.out HErails.out HEbuses.out HH.out.h3 H8.out)).symm,S1.out.t.bel⟩
end Same
namespace Arg
open Go Go.RowKit Go.ChangeShapes Tab
section
variable {α:Type} {n:Nat} {f:α->List Value} {w u:World} {s:Sl} {l:List α}
theorem jdc (h:ju n f w s l):∃ x:Addr,(∀ q (hq:q < l.length),s.a=some x/\jl w (x.add (q*n)) (f l[q]))/\l.length<=s.cap/\s.cap<=maxLen:=by
 obtain ⟨h1,h2⟩:=h.len;cases hs:s.a with
 | none =>
  refine ⟨⟨0,0,none⟩,fun q hq=>?_,h1,h2⟩;obtain ⟨x,e,_⟩:=h.at (kd hq);rw [hs] at e;cases e
 | some y =>
  refine ⟨y,fun q hq=>?_,h1,h2⟩;obtain ⟨x,e,k⟩:=h.at (kd hq);rw [hs] at e;obtain rfl:=kA e;exact ⟨rfl,k⟩
theorem ja4 {v:Value} {x:Addr} {q:Nat} (h:jl w (x.add (q*1)) [v]) (hb:Below w.heap.size w u):u.cell? (x.add q)=some v:=by
 have:=jl.below h hb 0 v rfl
 rwa [Tab.add_zero,Nat.mul_one] at this
theorem ints_at {l:List Int} (h:ju 1 (fun n:Int=>[Tab.I n]) w s l):∃ (x:Addr) (z:Nat->Int),(∀ q,q < l.length->s.a=some x/\jl w (x.add (q*1)) [Tab.I (z q)])/\l.length<=s.cap/\s.cap<=maxLen:=by
 obtain ⟨x,h0,h1,h2⟩:=jdc h;refine ⟨x,fun q=>l.getD q 0,fun q hq=>?_,h1,h2⟩;obtain ⟨e,k⟩:=h0 q hq;refine ⟨e,?_⟩;show jl w _ [Tab.I (l.getD q 0)];rw [show l.getD q 0=l[q] by simp [List.getD,kd hq]];exact k
end
end Arg
namespace TabArg
open Go Go.ChangeShapes Go.WideShapes Go.Deep Flat Tab
section
variable {H:Type} {enc:TypeId × Value->H} {P:Program} {w:World} {base:Nat} {spare:Nat->Bool} {held:Bool}
abbrev Tr (enc:TypeId × Value->H) (P:Program) (w:World) (base:Nat) (spare:Nat->Bool) (held:Bool) (t:TypeId) (v:Value):Prop:=∃ n y,K5 enc P w base spare held n t [v]=some y
theorem jeF {α:Type} [Inhabited α] {t e:TypeId} {k:Nat} {f:α->List Value} {p:α->Prop} {v:Value} (ht:P.underlying t=some (.slice e)) (hC:P.cellsOf e=k)
  (hel:∀ n cs x,K5 enc P w base spare held n e cs=some x->∃ v,cs=f v/\p v) (h:Tr enc P w base spare held t v) :
  ∃ (s:Sl) (l:List α),v=s.val l.length/\ju k f w s l/\∀ u ∈ l,p u:=by
 obtain ⟨n,y,h⟩:=h;rcases Deep.open_slice ht h with ⟨h0,_⟩ | ⟨a,len,cap,m,n',D,Pl,hcs,_,hl,hm,hmm,_,hx⟩
 ·simp only [kU,and_true] at h0;exact ⟨⟨none,0⟩,[],h0,ju.nil w,by simp⟩
 simp only [kU,and_true] at hcs;have hlm:len<=m:=by rw [hmm];split <;> omega
 have each:∀ i,∃ u:α,i < len->jl w (a.add (i*k)) (f u)/\p u:=by
  intro i;by_cases hi:i < len
  ·obtain ⟨cs',h1,h2⟩:=hx i (by omega);rw [hC] at h1;obtain ⟨_,hlen,hcell⟩:=World.cells?_some h1;obtain ⟨u,rfl,hp⟩:=hel _ _ _ h2;refine ⟨u,fun _=>⟨fun j v hv=>?_,hp⟩⟩;have hj:j < k:=by rw [<-hlen];exact (kH.1 hv).1
   rw [hcell j hj,hv]
  exact ⟨default,fun h=>absurd h hi⟩
 refine ⟨⟨some a,cap⟩,(List.range len).map fun i=>Classical.choose (each i),?_,.inr ⟨a,rfl,by simpa using hl,hm,?_⟩,?_⟩
 ·rw [hcs];simp
 ·intro i u hu;rw [kp] at hu;by_cases hi:i < len
  ·rw [List.getElem?_range hi] at hu;obtain rfl:=kA hu;exact (kO (each i) hi).1
  simp [List.getElem?_eq_none (l:=List.range len) (i:=i) (by simpa using hi)] at hu
 intro u hu;obtain ⟨i,hi,rfl⟩:=kZ.1 hu;exact (kO (each i) (List.mem_range.1 hi)).2
instance:Inhabited Gr:=⟨⟨[],[],⟨none,0⟩,⟨none,0⟩⟩⟩
end
end TabArg
namespace Rf
open Zip
open Go.ChangeShapes Go.WideShapes Go.ChangeAt Go.RowKit
open B Put Rd Nx Num Nm
theorem J7 (g:Nat) (ad:Option Addr) (cap:Nat) (l:List Nat) (k:Nat) (code fat:Int) (w:World) (h:Rd w g ad cap l k code fat) :
  Calls Tryz.prog 25 #[.pointer (some ⟨g,0,none⟩)] w fun e w'=>e=.returned (.bool (decide (code=0)))/\w=w':=by
 have h2:=h.c2;clear h;go_enter Tryz.func25,Tryz.ntmps25
 go_wp2;go_ret;exact ⟨rfl,rfl⟩
theorem j7H (g:Nat) (ad:Option Addr) (cap:Nat) (l:List Nat) (k s:Nat) (w:World) (h:Rd w g ad cap l k 0 0) (hl:l.length<=10000) (hk:k<=l.length) (hs:l.length < k+s) (h8:s<=8) :
  Calls Tryz.prog 67 #[.pointer (some ⟨g,0,none⟩),.int .i64 s] w fun e w'=>e=.returned (.int .u64 0)/\Rd w' g ad cap l k 2 l.length/\But g w w':=by
 have h0:=h.c0;have h1:=h.c1;have h2:=h.c2;have h3:=h.c3;have h4:=h.fz 2;have h5:=h.fz 3;have HR:=hJJ h;have ht:((l.length:Int) - (k:Int) < (s:Int)):=by omega
 clear h;go_enter Tryz.func67,Tryz.ntmps67
 go_wp2
 go_quiet (fail)
 have hdr:Below w.heap.size w (w.drewN nq):=below_drewN (kb _ _) nq;have HR2:=hJJ (HR.out.below hdr);have hset:But g (w.drewN nq) (((w.drewN nq).setCell ⟨g,2,none⟩ (.int .i64 2)).setCell ⟨g,3,none⟩ (.int .i64 l.length)):=(But.set g 2 _ _).trans (But.set g 3 _ _);have hgo:But g w (((w.drewN nq).setCell ⟨g,2,none⟩ (.int .i64 2)).setCell ⟨g,3,none⟩ (.int .i64 l.length)):=(But.of hdr).trans hset;have hk:=Rd.keeps HR2.out 2 l.length;go_wp2;go_ret;exact ⟨rfl,hk,hgo⟩
theorem j4k (g:Nat) (ad:Option Addr) (cap:Nat) (l:List Nat) (k s:Nat) (w:World) (h:Rd w g ad cap l k 0 0) (hl:l.length<=10000) (hs:k+s<=l.length) (h8:s<=8) :
  Calls Tryz.prog 67 #[.pointer (some ⟨g,0,none⟩),.int .i64 s] w fun e w'=>e=.returned (.int .u64 (val l k s:Nat))/\∃ n,w'=w.drewN n:=by
 have h0:=h.c0;have h1:=h.c1;have HR:=hJJ h;have ht:¬ ((l.length:Int) - (k:Int) < (s:Int)):=by omega
 clear h;go_enter Tryz.func67,Tryz.ntmps67
 go_wp2
 go_quiet (fail)
 go_wp2;go_loopw [5,6] (fun t i wr=>∃ q:Nat,q<=s/\i=.int .i64 q/\t=.int .u64 (val l k q:Nat)/\∃ n,wr=w.drewN n) (fun _ i _=>s - (intOf i).toNat)
 case atStart=>exact ⟨0,Nat.zero_le _,rfl,rfl,_,rfl⟩
 case round =>
  obtain ⟨q,hq,rfl,rfl,n,rfl⟩:=hrel;by_cases hlt:q < s
  ·obtain ⟨x,rfl,hcl⟩:=HR.out.row.cells (k:=k+q) (by omega);have hcell:w.cell? (x.add (k+q))=some (.int .u8 (l.getD (k+q) 0:Nat)):=hcl _ (by omega);clear hcl;have hy:l.getD (k+q) 0 < 256:=HR.out.row.lt _ (by omega);have hv:=j6Z l k q (by omega) (by omega) HR.out.row.2.1;have hqk:k+q < l.length:=by omega
   generalize l.getD (k+q) 0=y at hcell hv hy;generalize hv1:val l k (q+1)=v1 at hv;have Hv1:=hJJ hv1;clear hv1;generalize val l k q=v0 at hv;go_wp2
   go_quiet (fail)
   go_wp2;go_roundw;case rel=>exact ⟨q+1,by omega,by go_num,by rw [Hv1.out],n+nq,by simp [World.drewN]⟩
   case measure=>simp [intOf];omega
  obtain rfl:q=s:=by omega
  go_wp2;go_ret;exact ⟨rfl,_,rfl⟩
theorem j4E (g:Nat) (ad:Option Addr) (cap:Nat) (l:List Nat) (k:Nat) (code fat:Int) (size low high:Int) (w:World) (h:Rd w g ad cap l k code fat) (hne:code ≠ 0) :
  Calls Tryz.prog 24 #[.pointer (some ⟨g,0,none⟩),.int .i64 size,.int .i64 low,.int .i64 high] w fun e w'=>e=.returned (.int .i64 0)/\Rd w' g ad cap l k code fat/\But g w w':=by
 have HR:=hJJ h;clear h;go_enter Tryz.func24,Tryz.ntmps24
 go_wp2_with fail
 refine (J7 g ad cap l k code fat (_) HR.out).mono ?_;rintro e w' ⟨rfl,rfl⟩;rw [show decide (code=0)=false from decide_eq_false hne];go_wp2;go_ret;exact ⟨rfl,HR.out,But.refl _ _⟩
theorem j4e (g:Nat) (ad:Option Addr) (cap:Nat) (l:List Nat) (k:Nat) (size low high:Int) (w:World) (h:Rd w g ad cap l k 0 0) (hl:l.length<=10000) (hk:k<=l.length) (hs:l.length < k+(lim size 7)) :
  Calls Tryz.prog 24 #[.pointer (some ⟨g,0,none⟩),.int .i64 size,.int .i64 low,.int .i64 high] w fun e w'=>e=.returned (.int .i64 0)/\Rd w' g ad cap l k 2 l.length/\But g w w':=by
 have HR:=hJJ h;clear h;go_enter Tryz.func24,Tryz.ntmps24
 go_wp2_with fail
 refine (J7 g ad cap l k 0 0 (_) HR.out).mono ?_;rintro e w' ⟨rfl,rfl⟩;rw [show decide ((0:Int)=0)=true from rfl];go_wp2_with fail
 refine (j2O size 7 _).mono ?_;rintro e w' ⟨rfl,rfl⟩;have hs7:=JI size 7;generalize hsz:lim size 7=sz at hs hs7 |-;have HSZ:=hJJ hsz;clear hsz;go_wp2_with fail
 refine (j7H g ad cap l k sz _ HR.out hl hk hs (by omega)).mono ?_;rintro e w1 ⟨rfl,hr1,hb1⟩;have HR1:=hJJ hr1;clear hr1;have hw:wrap64 0=0:=by unfold wrap64;omega
 go_wp2_with fail
 refine (J7 g ad cap l k 2 l.length (_) HR1.out).mono ?_;rintro e w' ⟨rfl,rfl⟩;rw [show decide ((2:Int)=0)=false from decide_eq_false (by decide)];go_wp2_with fail
 refine (J7 g ad cap l k 2 l.length (_) HR1.out).mono ?_;rintro e w' ⟨rfl,rfl⟩;rw [show decide ((2:Int)=0)=false from decide_eq_false (by decide)];go_wp2;go_ret;exact ⟨rfl,HR1.out,hb1⟩
theorem j3j (g:Nat) (ad:Option Addr) (cap:Nat) (l:List Nat) (k:Nat) (size low high:Int) (w:World) (h:Rd w g ad cap l k 0 0) (hl:l.length<=10000) (hs:k+lim size 7<=l.length) (hlow:(val l k (lim size 7):Int) < low) :
  Calls Tryz.prog 24 #[.pointer (some ⟨g,0,none⟩),.int .i64 size,.int .i64 low,.int .i64 high] w fun e w'=>e=.returned (.int .i64 0)/\Rd w' g ad cap l k 4 k/\But g w w':=by
 have HR:=hJJ h;clear h;go_enter Tryz.func24,Tryz.ntmps24
 go_wp2_with fail
 refine (J7 g ad cap l k 0 0 (_) HR.out).mono ?_;rintro e w' ⟨rfl,rfl⟩;rw [show decide ((0:Int)=0)=true from rfl];go_wp2_with fail
 refine (j2O size 7 _).mono ?_;rintro e w' ⟨rfl,rfl⟩;have hs7:=JI size 7;generalize hsz:lim size 7=sz at hs hs7 hlow |-;have HSZ:=hJJ hsz;clear hsz;go_wp2_with fail
 refine (j4k g ad cap l k sz _ HR.out hl hs (by omega)).mono ?_;rintro e w' ⟨rfl,n,rfl⟩;have hv56:val l k sz < 72057594037927936:=j0k l k sz HR.out.row.2.1 (by omega);generalize hval:val l k sz=v at hv56 hlow |-;have HV:=hJJ hval;clear hval;have hw:wrap64 (v:Int)=v:=by unfold wrap64;omega
 have hw2:ks.wrap (v:Int)=v:=by rw [kl];omega
 have hlo:decide ((v:Int) < low)=true:=decide_eq_true (by omega);have hdr:Below w.heap.size w (w.drewN n):=below_drewN (kb _ _) n;have HR2:=hJJ (HR.out.below hdr);go_wp2_with fail
 refine (J7 g ad cap l k 0 0 (_) HR2.out).mono ?_;rintro e w' ⟨rfl,rfl⟩;rw [show decide ((0:Int)=0)=true from rfl];have h1:=HR2.out.c1;have h2:=HR2.out.c2;have h3:=HR2.out.c3;have h4:=HR2.out.fz 2;have h5:=HR2.out.fz 3;have hset:But g (w.drewN n) (((w.drewN n).setCell ⟨g,2,none⟩ (.int .i64 4)).setCell ⟨g,3,none⟩ (.int .i64 k)):=(But.set g 2 _ _).trans (But.set g 3 _ _);have Hgo:=hJJ ((But.of hdr).trans hset);have Hk:=hJJ (Rd.keeps HR2.out 4 k);clear hset;go_wp2_with fail
 refine (J7 g ad cap l k 4 k (_) Hk.out).mono ?_;rintro e w' ⟨rfl,rfl⟩;rw [show decide ((4:Int)=0)=false from decide_eq_false (by decide)];go_wp2;go_ret;exact ⟨rfl,Hk.out,Hgo.out⟩
theorem j3k (g:Nat) (ad:Option Addr) (cap:Nat) (l:List Nat) (k:Nat) (size low high:Int) (w:World) (h:Rd w g ad cap l k 0 0) (hl:l.length<=10000) (hs:k+lim size 7<=l.length) (hlow:¬ (val l k (lim size 7):Int) < low) (hhigh:high < (val l k (lim size 7):Int)) :
  Calls Tryz.prog 24 #[.pointer (some ⟨g,0,none⟩),.int .i64 size,.int .i64 low,.int .i64 high] w fun e w'=>e=.returned (.int .i64 0)/\Rd w' g ad cap l k 4 k/\But g w w':=by
 have HR:=hJJ h;clear h;go_enter Tryz.func24,Tryz.ntmps24
 go_wp2_with fail
 refine (J7 g ad cap l k 0 0 (_) HR.out).mono ?_;rintro e w' ⟨rfl,rfl⟩;rw [show decide ((0:Int)=0)=true from rfl];go_wp2_with fail
 refine (j2O size 7 _).mono ?_;rintro e w' ⟨rfl,rfl⟩;have hs7:=JI size 7;generalize hsz:lim size 7=sz at hs hs7 hlow hhigh |-;have HSZ:=hJJ hsz;clear hsz;go_wp2_with fail
 refine (j4k g ad cap l k sz _ HR.out hl hs (by omega)).mono ?_;rintro e w' ⟨rfl,n,rfl⟩;have hv56:val l k sz < 72057594037927936:=j0k l k sz HR.out.row.2.1 (by omega);generalize hval:val l k sz=v at hv56 hlow hhigh |-;have HV:=hJJ hval;clear hval;have hw:wrap64 (v:Int)=v:=by unfold wrap64;omega
 have hw2:ks.wrap (v:Int)=v:=by rw [kl];omega
 have hlo:decide ((v:Int) < low)=false:=decide_eq_false (by omega);have hhi:decide ((v:Int) > high)=true:=decide_eq_true (by omega);have hdr:Below w.heap.size w (w.drewN n):=below_drewN (kb _ _) n;have HR2:=hJJ (HR.out.below hdr);go_wp2_with fail
 refine (J7 g ad cap l k 0 0 (_) HR2.out).mono ?_;rintro e w' ⟨rfl,rfl⟩;rw [show decide ((0:Int)=0)=true from rfl];have h1:=HR2.out.c1;have h2:=HR2.out.c2;have h3:=HR2.out.c3;have h4:=HR2.out.fz 2;have h5:=HR2.out.fz 3;have hset:But g (w.drewN n) (((w.drewN n).setCell ⟨g,2,none⟩ (.int .i64 4)).setCell ⟨g,3,none⟩ (.int .i64 k)):=(But.set g 2 _ _).trans (But.set g 3 _ _);have Hgo:=hJJ ((But.of hdr).trans hset);have Hk:=hJJ (Rd.keeps HR2.out 4 k);clear hset;go_wp2_with fail
 refine (J7 g ad cap l k 4 k (_) Hk.out).mono ?_;rintro e w' ⟨rfl,rfl⟩;rw [show decide ((4:Int)=0)=false from decide_eq_false (by decide)];go_wp2;go_ret;exact ⟨rfl,Hk.out,Hgo.out⟩
theorem j7W (g:Nat) (ad:Option Addr) (cap:Nat) (l:List Nat) (k:Nat) (size low high:Int) (w:World) (h:Rd w g ad cap l k 0 0) (hl:l.length<=10000) (hs:k+(lim size 7)<=l.length) (hlow:¬ (val l k (lim size 7):Int) < low) (hhigh:¬ high < (val l k (lim size 7):Int)) :
  Calls Tryz.prog 24 #[.pointer (some ⟨g,0,none⟩),.int .i64 size,.int .i64 low,.int .i64 high] w fun e w'=>e=.returned (.int .i64 (val l k (lim size 7):Nat))/\Rd w' g ad cap l (k+lim size 7) 0 0/\But g w w':=by
 have HR:=hJJ h;clear h;go_enter Tryz.func24,Tryz.ntmps24
 go_wp2_with fail
 refine (J7 g ad cap l k 0 0 (_) HR.out).mono ?_;rintro e w' ⟨rfl,rfl⟩;rw [show decide ((0:Int)=0)=true from rfl];go_wp2_with fail
 refine (j2O size 7 _).mono ?_;rintro e w' ⟨rfl,rfl⟩;have hs7:=JI size 7;generalize hsz:lim size 7=sz at hs hs7 hlow hhigh |-;have HSZ:=hJJ hsz;clear hsz;go_wp2_with fail
 refine (j4k g ad cap l k sz _ HR.out hl hs (by omega)).mono ?_;rintro e w' ⟨rfl,n,rfl⟩;have hv56:val l k sz < 72057594037927936:=j0k l k sz HR.out.row.2.1 (by omega);generalize hval:val l k sz=v at hv56 hlow hhigh |-;have HV:=hJJ hval;clear hval;have hw:wrap64 (v:Int)=v:=by unfold wrap64;omega
 have hw2:ks.wrap (v:Int)=v:=by rw [kl];omega
 have hlo:decide ((v:Int) < low)=false:=decide_eq_false (by omega);have hhi:decide ((v:Int) > high)=false:=decide_eq_false (by omega);have hdr:Below w.heap.size w (w.drewN n):=below_drewN (kb _ _) n;have HR2:=hJJ (HR.out.below hdr);go_wp2_with fail
 refine (J7 g ad cap l k 0 0 (_) HR2.out).mono ?_;rintro e w' ⟨rfl,rfl⟩;rw [show decide ((0:Int)=0)=true from rfl];go_wp2_with fail
 refine (J7 g ad cap l k 0 0 (_) HR2.out).mono ?_;rintro e w' ⟨rfl,rfl⟩;rw [show decide ((0:Int)=0)=true from rfl];have h1:=HR2.out.c1;have h4:=HR2.out.fz 1;have hset:But g (w.drewN n) ((w.drewN n).setCell ⟨g,1,none⟩ (.int .i64 ((k:Int)+sz))):=But.set g 1 _ _;have Hgo:=hJJ ((But.of hdr).trans hset)
 have hmv:Rd ((w.drewN n).setCell ⟨g,1,none⟩ (.int .i64 ((k:Int)+sz))) g ad cap l (k+sz) 0 0:=by
  have h:=Rd.j71 HR2.out (k+sz);rw [kV] at h;exact h
 have Hmv:=hJJ hmv;clear hset hmv;go_wp2;go_ret;try rw [HSZ.out]
 exact ⟨HV.out.symm ▸ rfl,Hmv.out,Hgo.out⟩
theorem j2x (g:Nat) (ad:Option Addr) (cap:Nat) (l:List Nat) (k:Nat) (code fat:Int) (w:World) (h:Rd w g ad cap l k code fat) (hne:code ≠ 0) :
  Calls Tryz.prog 115 #[.pointer (some ⟨g,0,none⟩)] w fun e w'=>e=.returned (.float .f64 0)/\Rd w' g ad cap l k code fat/\But g w w':=by
 have HR:=hJJ h;clear h;go_enter Tryz.func115,Tryz.ntmps115
 go_wp2_with fail
 refine (J7 g ad cap l k code fat (_) HR.out).mono ?_;rintro e w' ⟨rfl,rfl⟩;rw [show decide (code=0)=false from decide_eq_false hne];go_wp2;go_ret;exact ⟨rfl,HR.out,But.refl _ _⟩
theorem j3i (g:Nat) (ad:Option Addr) (cap:Nat) (l:List Nat) (k:Nat) (w:World) (h:Rd w g ad cap l k 0 0) (hl:l.length<=10000) (hk:k<=l.length) (hs:l.length < k+8) :
  Calls Tryz.prog 115 #[.pointer (some ⟨g,0,none⟩)] w fun e w'=>e=.returned (.float .f64 0)/\Rd w' g ad cap l k 2 l.length/\But g w w':=by
 have HR:=hJJ h;clear h;go_enter Tryz.func115,Tryz.ntmps115
 go_wp2_with fail
 refine (J7 g ad cap l k 0 0 (_) HR.out).mono ?_;rintro e w' ⟨rfl,rfl⟩;rw [show decide ((0:Int)=0)=true from rfl];go_wp2_with fail
 refine (j7H g ad cap l k 8 _ HR.out hl hk hs (by omega)).mono ?_;rintro e w1 ⟨rfl,hr1,hb1⟩;have HR1:=hJJ hr1;clear hr1;have hw:wrap64 0=0:=by unfold wrap64;omega
 go_wp2_with fail
 refine (J7 g ad cap l k 2 l.length (_) HR1.out).mono ?_;rintro e w' ⟨rfl,rfl⟩;rw [show decide ((2:Int)=0)=false from decide_eq_false (by decide)];go_wp2;go_ret;exact ⟨rfl,HR1.out,hb1⟩
theorem j4F (g:Nat) (ad:Option Addr) (cap:Nat) (l:List Nat) (k:Nat) (w:World) (h:Rd w g ad cap l k 0 0) (hl:l.length<=10000) (hs:k+8<=l.length) :
  Calls Tryz.prog 115 #[.pointer (some ⟨g,0,none⟩)] w fun e w'=>e=.returned (.float .f64 (val l k 8))/\Rd w' g ad cap l (k+8) 0 0/\But g w w':=by
 have HR:=hJJ h;clear h;have hfb:=j2r;go_enter Tryz.func115,Tryz.ntmps115
 go_wp2_with fail
 refine (J7 g ad cap l k 0 0 (_) HR.out).mono ?_;rintro e w' ⟨rfl,rfl⟩;rw [show decide ((0:Int)=0)=true from rfl];go_wp2_with fail
 refine (j4k g ad cap l k 8 _ HR.out hl hs (by omega)).mono ?_;rintro e w' ⟨rfl,n,rfl⟩;generalize hval:val l k 8=v;have HV:=hJJ hval;clear hval;have hdr:Below w.heap.size w (w.drewN n):=below_drewN (kb _ _) n;have HR2:=hJJ (HR.out.below hdr);go_wp2_with fail
 refine (J7 g ad cap l k 0 0 (_) HR2.out).mono ?_;rintro e w' ⟨rfl,rfl⟩;rw [show decide ((0:Int)=0)=true from rfl];have h1:=HR2.out.c1;have h4:=HR2.out.fz 1;have hset:But g (w.drewN n) ((w.drewN n).setCell ⟨g,1,none⟩ (.int .i64 ((k:Int)+8))):=But.set g 1 _ _;have Hgo:=hJJ ((But.of hdr).trans hset)
 have hmv:Rd ((w.drewN n).setCell ⟨g,1,none⟩ (.int .i64 ((k:Int)+8))) g ad cap l (k+8) 0 0:=by
  have h:=Rd.j71 HR2.out (k+8);rw [kV] at h;exact h
 have Hmv:=hJJ hmv;clear hset hmv;go_wp2;go_ret;try rw [HSZ.out]
 exact ⟨HV.out.symm ▸ rfl,Hmv.out,Hgo.out⟩
theorem j2W (g:Nat) (ad:Option Addr) (cap:Nat) (l:List Nat) (s:St) (size low high:Int) (w:World) (h:Rs w g ad cap l s) (hl:l.length<=10000) (hg:Nm.Good l s) :
  Calls Tryz.prog 24 #[.pointer (some ⟨g,0,none⟩),.int .i64 size,.int .i64 low,.int .i64 high] w fun e w' =>
   e=.returned (.int .i64 (num l s (lim size 7) low high).1)/\Rs w' g ad cap l (num l s (lim size 7) low high).2/\But g w w':=by
 obtain ⟨k,code,fat⟩:=s;unfold num;by_cases h0:code ≠ 0
 ·rw [if_pos h0];exact j4E g ad cap l k code fat size low high w h h0
 rw [if_neg h0];obtain rfl:code=0:=by omega
 obtain rfl:fat=0:=hg.2 rfl;by_cases h1:l.length < k+lim size 7
 ·rw [if_pos h1];exact j4e g ad cap l k size low high w h hl hg.1 h1
 rw [if_neg h1];by_cases h2:(val l k (lim size 7):Int) < low
 ·rw [if_pos (.inl h2)];exact j3j g ad cap l k size low high w h hl (by omega) h2
 by_cases h3:high < (val l k (lim size 7):Int)
 ·rw [if_pos (.inr h3)];exact j3k g ad cap l k size low high w h hl (by omega) h2 h3
 rw [if_neg (by rintro (h | h) <;> contradiction)];exact j7W g ad cap l k size low high w h hl (by omega) h2 h3
theorem j3l (g:Nat) (ad:Option Addr) (cap:Nat) (l:List Nat) (s:St) (w:World) (h:Rs w g ad cap l s) (hl:l.length<=10000) (hg:Nm.Good l s) :
  Calls Tryz.prog 115 #[.pointer (some ⟨g,0,none⟩)] w fun e w' =>
   e=.returned (.float .f64 (flt l s).1)/\Rs w' g ad cap l (flt l s).2/\But g w w':=by
 obtain ⟨k,code,fat⟩:=s;unfold flt;by_cases h0:code ≠ 0
 ·rw [if_pos h0];exact j2x g ad cap l k code fat w h h0
 rw [if_neg h0];obtain rfl:code=0:=by omega
 obtain rfl:fat=0:=hg.2 rfl;by_cases h1:l.length < k+8
 ·rw [if_pos h1];exact j3i g ad cap l k w h hl hg.1 h1
 rw [if_neg h1];exact j4F g ad cap l k w h hl (by omega)
theorem j4G (g:Nat) (ad:Option Addr) (cap:Nat) (l:List Nat) (s:St) (w:World) (h:Rs w g ad cap l s) (hl:l.length<=10000) (hg:Nm.Good l s) :
  Calls Tryz.prog 97 #[.pointer (some ⟨g,0,none⟩)] w fun e w' =>
   e=.returned (.bool (decide ((num l s 1 0 1).1=1)))/\Rs w' g ad cap l (num l s 1 0 1).2/\But g w w':=by
 have h1:=j2W g ad cap l s 1 0 1 w h hl hg;rw [show lim 1 7=1 from rfl] at h1;generalize num l s 1 0 1=r at h1;clear h hg;go_enter Tryz.func97,Tryz.ntmps97
 go_wp2_with fail
 refine h1.mono ?_;rintro e w' ⟨rfl,hr,hb⟩;have HR:=hJJ hr;clear hr h1;go_wp2;go_ret;exact ⟨rfl,HR.out,hb⟩
end Rf
namespace Blk
open Go Go.RowKit Go.ChangeShapes Tab
abbrev Bl:Type:=Nat × Array Value × TypeId
section
variable {w u v:World} {L:List Bl}
theorem jdB {g:Nat} {o:Obj} (hg:u.heap[g]?=some o):g < u.heap.size:=(ky.1 hg).1
theorem jdC:∀ {L:List Nat} {i j:Nat} {a b:Nat},L.Nodup->L[i]?=some a->L[j]?=some b->i ≠ j->a ≠ b
 | [],_,_,_,_,_,h,_,_=>by simp at h
 | c :: L,0,0,_,_,_,_,_,h=>absurd rfl h
 | c :: L,0,j+1,a,b,hn,hi,hj,_=>by
  simp at hi hj;subst hi;intro e;subst e;exact (kC.1 hn).1 (ko hj)
 | c :: L,i+1,0,a,b,hn,hi,hj,_=>by
  simp at hi hj;subst hj;intro e;subst e;exact (kC.1 hn).1 (ko hi)
 | c :: L,i+1,j+1,a,b,hn,hi,hj,h=>jdC (kC.1 hn).2 (by simpa using hi) (by simpa using hj) (fun e=>h (by rw [e]))
end
end Blk
namespace Dp
open Zip
open Go Go.RowKit Go.ChangeShapes
open Tab Po
open Rd (Rd But)
open Nm (St)
open Put (lim)
open Rr (may)
def some_ (bs:List Nat) (s:St) (lv:Bool):Nat × St :=
 if (Nm.flt bs s).2.code=0 then (if may lv (Nm.flt bs s).1=true then Nm.flt bs s else (0,⟨s.k,4,s.k⟩)) else (0,(Nm.flt bs s).2)
def DP (bs:List Nat):PP where
 σ:=St
 num s size most _:=.ok (Nm.num bs s (lim size 7) 0 most)
 flt s lv _:=.ok (some_ bs s lv)
 flg s _:=.ok (decide ((Nm.num bs s 1 0 1).1=1),(Nm.num bs s 1 0 1).2)
structure Ds (B g:Nat) (ad:Option Addr) (cap:Nat) (bs:List Nat) (s:St) (W:World):Prop where
 rd:Rd W g ad cap bs s.k s.code s.fat
 good:Nm.Good bs s
 len:bs.length<=10000
 lo:bs ≠ []->∀ x,ad=some x->x.block < B
 gl:g < B
 bl:B<=W.heap.size
section
variable {B g:Nat} {ad:Option Addr} {cap:Nat} {bs:List Nat} {s s':St} {W V:World}
theorem Ds.mem (h:Ds B g ad cap bs s W) (hb:Below W.heap.size W V):Ds B g ad cap bs s V:=⟨h.rd.below hb,h.good,h.len,h.lo,h.gl,kw h.bl hb.size⟩
theorem Ds.but (h:Ds B g ad cap bs s W) {b:Nat} (hb:But b W V) (hB:B<=b):Ds B g ad cap bs s V :=
 ⟨h.rd.but hb (by have:=h.gl;omega) (fun hn x hx e=>by have:=h.lo hn x hx;omega),h.good,h.len,h.lo,h.gl,kw h.bl hb.size⟩
theorem But.row {b:Nat} {W:World} (cs:Array Value) {old:Array Value} {t:TypeId} (h:W.heap[b]?=some (.cells old t (0,0))) (hs:old.size=cs.size):But b W (W.setRow b cs):=by
 refine ⟨rfl,rfl,rfl,by simp [K0],fun k _ hk=>Kh _ _ _ _ hk,fun k hk=>?_⟩;by_cases e:k=b
 ·subst e;unfold kT;rw [Kk _ _ _ cs _ _ h,h];simp [hs]
 unfold kT;rw [Kh _ _ _ _ e]
structure Bkg (g:Nat) (w:World) (L:List Blk.Bl) (u:World):Prop where
 bel:But g w u
 gl:g < w.heap.size
 low:∀ x ∈ L,w.heap.size<=x.1
 blk:∀ x ∈ L,u.heap[x.1]?=some (.cells x.2.1 x.2.2 (0,0))
 apart:(L.map (·.1)).Nodup
end
section
variable {g:Nat} {w u v:World} {L:List Blk.Bl}
theorem Bkg.nil (hg:g < w.heap.size):Bkg g w [] w:=⟨But.refl _ _,hg,by simp,by simp,by simp⟩
theorem Bkg.step (h:Bkg g w L u) (hb:But g u v):Bkg g w L v :=
 ⟨h.bel.trans hb,h.gl,h.low,fun x hx=>(hb.block _ (Blk.jdB (h.blk x hx)) (by have:=h.low x hx;have:=h.gl;omega)).trans (h.blk x hx),h.apart⟩
theorem Bkg.lt (h:Bkg g w L u) {x:Blk.Bl} (hx:x ∈ L):x.1 < u.heap.size:=Blk.jdB (h.blk x hx)
theorem Bkg.alloc (h:Bkg g w L u) (cs:Array Value) (t:TypeId):Bkg g w ((u.heap.size,cs,t) :: L) (u.alloc (.cells cs t)):=by
 refine ⟨h.bel.trans (But.of ((kb _ _).alloc (kj _) _)),h.gl,?_,?_,?_⟩
 ·intro x hx;rcases kX.1 hx with rfl | hx
  ·exact h.bel.size
  exact h.low x hx
 ·intro x hx;rcases kX.1 hx with rfl | hx
  ·exact K8 u _
  rw [Below.heap_alloc _ _ _ (h.lt hx)];exact h.blk x hx
 rw [kK,kC];refine ⟨fun hm=>?_,h.apart⟩;obtain ⟨x,hx,e⟩:=kZ.1 hm;have:=h.lt hx;simp only at e;omega
theorem Bkg.at (h:Bkg g w L u) (i:Nat) {b:Nat} {cs:Array Value} {t:TypeId} (hi:L[i]?=some (b,cs,t)):u.heap[b]?=some (.cells cs t (0,0)):=h.blk (b,cs,t) (ko hi)
theorem Bkg.cell (h:Bkg g w L u) (i j:Nat) {b:Nat} {cs:Array Value} {t:TypeId} {v:Value} (hi:L[i]?=some (b,cs,t)) (hv:cs[j]?=some v):u.cell? ⟨b,j,none⟩=some v:=by rw [K6 _ _ _ _ _ _ (h.at i hi),hv]
theorem Bkg.frozen (h:Bkg g w L u) (i j:Nat) {b:Nat} {cs:Array Value} {t:TypeId} (hi:L[i]?=some (b,cs,t)):u.frozen? ⟨b,j,none⟩=false:=K7 _ _ _ _ _ (h.at i hi)
theorem Bkg.ge (h:Bkg g w L u) (i:Nat) {b:Nat} {cs:Array Value} {t:TypeId} (hi:L[i]?=some (b,cs,t)):w.heap.size<=b:=h.low (b,cs,t) (ko hi)
theorem Bkg.put (h:Bkg g w L u) (i:Nat) {b:Nat} {cs:Array Value} {t:TypeId} (hi:L[i]?=some (b,cs,t)) (cs':Array Value):Bkg g w (L.set i (b,cs',t)) (u.setRow b cs'):=by
 have hlt:i < L.length:=(kH.1 hi).1;have hge:=h.ge i hi
 have hmap:(L.set i (b,cs',t)).map (·.1)=L.map (·.1):=by
  rw [List.map_set];apply kQ;intro k;rw [kI];split
  ·rename_i e;subst e;rw [kv,if_pos hlt,kp,hi];rfl
  rfl
 refine ⟨⟨h.bel.os,h.bel.tape,h.bel.output,by simp [K0];exact h.bel.size,fun k hk hne=>?_,fun k hk=>?_⟩,h.gl,?_,?_,by rw [hmap];exact h.apart⟩
 ·rw [Kh _ _ _ _ (by omega)];exact h.bel.block k hk hne
 ·have h1:=h.bel.shape k hk;unfold kT at h1 |-;rw [Kh _ _ _ _ (by omega)];exact h1
 ·intro x hx;rcases List.mem_or_eq_of_mem_set hx with hx | rfl
  ·exact h.low x hx
  exact hge
 intro x hx;obtain ⟨k,hk⟩:=List.mem_iff_getElem?.1 hx;rw [kI] at hk;split at hk
 ·rename_i e;subst e
  (try rw [if_pos hlt] at hk)
  obtain rfl:=kA hk;exact Kk _ _ _ _ _ _ (h.at i hi)
 rename_i e;have hne:x.1 ≠ b:=Blk.jdC h.apart (i:=k) (j:=i) (by rw [kp,hk];rfl) (by rw [kp,hi];rfl) (fun e'=>e e'.symm);rw [Kh _ _ _ _ hne];exact h.blk x (ko hk)
theorem Bkg.set (h:Bkg g w L u) (i j:Nat) {b:Nat} {cs:Array Value} {t:TypeId} (hi:L[i]?=some (b,cs,t)) (v:Value):Bkg g w (L.set i (b,cs.setIfInBounds j v,t)) (u.setCell ⟨b,j,none⟩ v):=by
 rw [setCell_eq_setRow u b j cs t (0,0) v (h.at i hi)];exact h.put i hi _
end
section
variable {B g:Nat} {ad:Option Addr} {cap:Nat} {bs:List Nat}
abbrev ptr (g:Nat):Value:=.pointer (some ⟨g,0,none⟩)
theorem j09 (s:St) (size most:Int) (W:World) (h:Ds B g ad cap bs s W):Calls Tryz.prog 24 #[ptr g,.int .i64 size,.int .i64 0,.int .i64 most] W fun e W'=>e=.returned (I (Nm.num bs s (lim size 7) 0 most).1)/\Ds B g ad cap bs (Nm.num bs s (lim size 7) 0 most).2 W'/\But g W W' :=
 (Rf.j2W g ad cap bs s size 0 most W h.rd h.len h.good).mono fun e W' ⟨h1,h2,h3⟩=>⟨h1,⟨h2,Nm.j2V bs s _ 0 most h.good,h.len,h.lo,h.gl,kw h.bl h3.size⟩,h3⟩
theorem j8k (s:St) (W:World) (h:Ds B g ad cap bs s W):Calls Tryz.prog 97 #[ptr g] W fun e W'=>e=.returned (.bool (decide ((Nm.num bs s 1 0 1).1=1)))/\Ds B g ad cap bs (Nm.num bs s 1 0 1).2 W'/\But g W W' :=
 (Rf.j4G g ad cap bs s W h.rd h.len h.good).mono fun e W' ⟨h1,h2,h3⟩=>⟨h1,⟨h2,Nm.j2V bs s _ 0 1 h.good,h.len,h.lo,h.gl,kw h.bl h3.size⟩,h3⟩
theorem Jh (s:St) (W:World) (h:Ds B g ad cap bs s W):Calls Tryz.prog 65 #[ptr g] W fun e W'=>e=.returned (I (Nm.num bs s (lim 2 7) 0 9999).1)/\Ds B g ad cap bs (Nm.num bs s (lim 2 7) 0 9999).2 W'/\But g W W':=by
 have h1:=hJJ (j09 s 2 9999 W h);generalize Nm.num bs s (lim 2 7) 0 9999=r at h1;clear h;go_enter Tryz.func65,Tryz.ntmps65
 go_wp2_with fail
 refine h1.out.mono ?_;rintro e w' ⟨rfl,hr,hb⟩;have HR:=hJJ hr;have HB:=hJJ hb;clear hr h1 hb;go_wp2;go_ret;exact ⟨rfl,HR.out,HB.out⟩
theorem j6w (s:St) (lv:Bool) (W:World) (h:Ds B g ad cap bs s W):Calls Tryz.prog 98 #[ptr g,.bool lv] W fun e W'=>e=.returned (.float .f64 (some_ bs s lv).1)/\Ds B g ad cap bs (some_ bs s lv).2 W'/\But g W W':=by
 have hfl:=Rf.j3l g ad cap bs s W h.rd h.len h.good;have hgd:=Nm.j73 bs s h.good;have hlen:=h.len;have hlo:=h.lo;have hgl:=h.gl;have hbl:=h.bl;have hle:=h.good.1
 have hsk:(Nm.flt bs s).2.code=0->s.code=0:=fun hc=>by
  unfold Nm.flt at hc;by_cases h0:s.code ≠ 0
  ·rw [if_pos h0] at hc;exact absurd hc h0
  omega
 unfold some_;have k1:W.cell? ⟨g,1,none⟩=some (I s.k):=h.rd.c1;generalize hr:Nm.flt bs s=r at hfl hgd hsk |-;obtain ⟨v,k',code,fat⟩:=r;simp only at hfl hgd hsk |-;have HFL:=hJJ hfl;have HGD:=hJJ hgd;clear hfl hgd hr h;obtain ⟨k,c0,f0⟩:=s;simp only at k1 hle hsk |-;by_cases hc:code=0
 ·subst hc;obtain rfl:fat=0:=HGD.out.2 rfl;cases hm:may lv v
  ·have HE:Hid ((if (0:Int)=0 then (if false=true then (v,(⟨k',0,0⟩:St)) else (0,⟨k,4,k⟩)) else (0,⟨k',0,0⟩))=(0,⟨k,4,k⟩)):=hJJ (by simp);rw [HE.out];simp only;have HL:=hJJ hm;go_enter Tryz.func98,Tryz.ntmps98
   go_wp2_with fail
   refine HFL.out.mono ?_;rintro e W1 ⟨rfl,hrd,hb⟩;have HR:=hJJ hrd;have HB:=hJJ hb;clear hrd hb k1;have hrr:Rd W1 g ad cap bs k' 0 0:=HR.out;have HR1:=hJJ hrr;clear hrr;go_wp2_with fail
   refine (Rf.J7 g ad cap bs k' 0 0 _ HR1.out).mono ?_;rintro e w' ⟨rfl,rfl⟩;rw [show decide ((0:Int)=0)=true from rfl];have h1:=HR1.out.c1;have h2:=HR1.out.c2;have h3:=HR1.out.c3;have h4:=HR1.out.fz 2;have h5:=HR1.out.fz 3;have h6:=HR1.out.fz 1;have hset:But g W1 (((W1.setCell ⟨g,2,none⟩ (I 4)).setCell ⟨g,3,none⟩ (I k)).setCell ⟨g,1,none⟩ (I k)):=((But.set g 2 _ _).trans (But.set g 3 _ _)).trans (But.set g 1 _ _);have Hk:=Num.Rd.keeps HR1.out 4 k;have Hk2:=hJJ (Num.Rd.j71 Hk k);have Hgo:=hJJ (HB.out.trans hset);clear hset Hk;cases lv
   ·go_wp2_with fail
    refine (MayF.j5v v _).mono ?_;rintro e w' ⟨rfl,rfl⟩;rw [show MayF.span v=false from HL.out];go_wp2_with fail
    refine (Rf.J7 g ad cap bs k 4 k _ Hk2.out).mono ?_;rintro e w' ⟨rfl,rfl⟩;rw [show decide ((4:Int)=0)=false from decide_eq_false (by decide)];go_wp2;go_ret;exact ⟨rfl,⟨Hk2.out,⟨hle,fun h=>by cases h⟩,hlen,hlo,hgl,kw hbl Hgo.out.size⟩,Hgo.out⟩
   go_wp2_with fail
   refine (MayF.j4v v _).mono ?_;rintro e w' ⟨rfl,rfl⟩;rw [show MayF.level v=false from HL.out];go_wp2_with fail
   refine (Rf.J7 g ad cap bs k 4 k _ Hk2.out).mono ?_;rintro e w' ⟨rfl,rfl⟩;rw [show decide ((4:Int)=0)=false from decide_eq_false (by decide)];go_wp2;go_ret;exact ⟨rfl,⟨Hk2.out,⟨hle,fun h=>by cases h⟩,hlen,hlo,hgl,kw hbl Hgo.out.size⟩,Hgo.out⟩
  have HE:Hid ((if (0:Int)=0 then (if true=true then (v,(⟨k',0,0⟩:St)) else (0,⟨k,4,k⟩)) else (0,⟨k',0,0⟩))=(v,⟨k',0,0⟩)):=hJJ (by simp);rw [HE.out];simp only;have HL:=hJJ hm;go_enter Tryz.func98,Tryz.ntmps98
  go_wp2_with fail
  refine HFL.out.mono ?_;rintro e W1 ⟨rfl,hrd,hb⟩;have HR:=hJJ hrd;have HB:=hJJ hb;clear hrd hb k1;have hrr:Rd W1 g ad cap bs k' 0 0:=HR.out;have HR1:=hJJ hrr;clear hrr;go_wp2_with fail
  refine (Rf.J7 g ad cap bs k' 0 0 _ HR1.out).mono ?_;rintro e w' ⟨rfl,rfl⟩;rw [show decide ((0:Int)=0)=true from rfl];cases lv
  ·go_wp2_with fail
   refine (MayF.j5v v _).mono ?_;rintro e w' ⟨rfl,rfl⟩;rw [show MayF.span v=true from HL.out];go_wp2_with fail
   refine (Rf.J7 g ad cap bs k' 0 0 _ HR1.out).mono ?_;rintro e w' ⟨rfl,rfl⟩;rw [show decide ((0:Int)=0)=true from rfl];go_wp2;go_ret;exact ⟨rfl,⟨HR1.out,HGD.out,hlen,hlo,hgl,kw hbl HB.out.size⟩,HB.out⟩
  go_wp2_with fail
  refine (MayF.j4v v _).mono ?_;rintro e w' ⟨rfl,rfl⟩;rw [show MayF.level v=true from HL.out];go_wp2_with fail
  refine (Rf.J7 g ad cap bs k' 0 0 _ HR1.out).mono ?_;rintro e w' ⟨rfl,rfl⟩;rw [show decide ((0:Int)=0)=true from rfl];go_wp2;go_ret;exact ⟨rfl,⟨HR1.out,HGD.out,hlen,hlo,hgl,kw hbl HB.out.size⟩,HB.out⟩
 have HE:Hid ((if code=0 then (if may lv v=true then (v,(⟨k',code,fat⟩:St)) else (0,⟨k,4,k⟩)) else (0,⟨k',code,fat⟩))=(0,⟨k',code,fat⟩)):=hJJ (if_neg hc);rw [HE.out];simp only;have hcd:decide (code=0)=false:=decide_eq_false hc;go_enter Tryz.func98,Tryz.ntmps98
 go_wp2_with fail
 refine HFL.out.mono ?_;rintro e W1 ⟨rfl,hrd,hb⟩;have hrr:Rd W1 g ad cap bs k' code fat:=hrd;have HR1:=hJJ hrr;have HB:=hJJ hb;clear hrr hrd hb k1;go_wp2_with fail
 refine (Rf.J7 g ad cap bs k' code fat _ HR1.out).mono ?_;rintro e w' ⟨rfl,rfl⟩;rw [hcd];go_wp2_with fail
 refine (Rf.J7 g ad cap bs k' code fat _ HR1.out).mono ?_;rintro e w' ⟨rfl,rfl⟩;rw [hcd];go_wp2;go_ret;exact ⟨rfl,⟨HR1.out,HGD.out,hlen,hlo,hgl,kw hbl HB.out.size⟩,HB.out⟩
end
end Dp
end Go.Proofs.YtonpphjleapafaaGreat
