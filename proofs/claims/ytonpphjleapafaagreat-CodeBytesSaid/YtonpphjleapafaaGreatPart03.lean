/- 28 texts in one file, in build order. -/
import Derived.Test.YtonpphjleapafaaGreatPart01
import Derived.Test.YtonpphjleapafaaGreatRows
import Derived.Test.YtonpphjleapafaaGreatPart02
import Derived.StillTailTactics
import Derived.Great.BuildSlice
import Derived.Laws.AppendOwnNone
import Derived.OwnWalk
import Derived.Laws.BitsLemmas
import Derived.WalkKit
import Derived.ProofKit
import Derived.IntWalk
import Derived.Lib.Hide
import Derived.LoopTactic
import Derived.Below
import Derived.BigQuiet
import Derived.Deep.QuietTactic
import Derived.Deep.Cut
import Derived.Laws.Rows
import Derived.Laws.FloatArith
set_option linter.unusedVariables false
set_option linter.unusedSimpArgs false
set_option linter.unusedSectionVars false
set_option maxHeartbeats 8000000
set_option maxRecDepth 100000
open List renaming replicate→ka, setIfInBounds_toArray→kc, set_cons_zero→kf, set_cons_succ→kg, length_map→kj, length_append→kk, getElem?_eq_some_iff→km, append_assoc→kq, getElem?_eq_getElem→kt, drop_succ_cons→ku, getD_eq_getElem?_getD→kw, flatMap_cons→ky, drop_zero→kA, take_succ_cons→kB, length_replicate→kC, map_replicate→kD, map_cons→kF, length_cons→kJ, take_zero→kK, mem_map_of_mem→kO, eq_nil_of_length_eq_zero→kP, length→kR, append_nil→kT, take_append_drop→kU, length_set→kZ, take_succ_eq_append_getElem→K6, length_take→K7, range_succ→K8, map_append→K9, replicate_succ→Ka, map_congr_left→Kb, flatMap_append→Kd, mem_singleton→Ke, getElem?_set→Kg, size_toArray→Kh, mem_cons→Kj, all_eq_true→Kl, flatMap_nil→Km, getElem?_cons_zero→Ko, map_map→Kr, mem_map→Ks, take_of_length_le→Kt, mem_append→Kv, mem_filter→Kw, singleton_append→Kx, map_eq_nil_iff→KA, range→KD, filter_append→KF, getElem?_take→KH, getElem?_map→KI, flatMap_map→KL, cons_append→KO, map_id→KP, mem_range→q4, all_cons→qa, map→qf
open Array renaming getElem?_eq_some_iff→kb, getElem?_toList→Ky
open Nat renaming le_trans→ke, le_refl→ki, lt_of_lt_of_le→kr, zero_le→kQ, pow_le_pow_right→kW, or_lt_two_pow→Ki, min_eq_left→Ku, pow_lt_pow_right→Kz, testBit_two_pow→KB, zero_add→KK, mod_eq_of_lt→KM, zero_testBit→KN, mul_one→KQ, add_mul→KR, testBit_or→q5, zero_mul→qd
open Go.RowKit.Below renaming heap_setCell→kh, refl→ko, heap_alloc→kY
open Go.World renaming setCell→kl, alloc→kn, ownsRow_nil→KJ, drew→q7, shape?→qc
open Bool renaming eq_iff_iff→kv, and_eq_true→kX, or_eq_true→KW
open Go.Value renaming oneCell'→kx, slice→kG, ownBlock→kL, int→Kn
open Go.Lib renaming hid→kz
open Go.IntKind renaming wrap_i64→kE, i64→kV
open Go.Exit renaming inBlock→kH
open Go.Instr renaming index→kI
open Go.Act renaming put→kM
open Go.Sem renaming run→kN
open Int renaming toNat_natCast→K0, toNat_of_nonneg→Kc, emod_lt_of_pos→Kf, eq_ofNat_of_zero_le→Kq, natCast_add→KT, natCast_mul→KU, natCast_pow→KV, emod_nonneg→KY, ofNat→qb
open BitVec renaming ofInt→K5, toNat_ofInt→KE
open Except.error renaming inj→Kk
open Except.ok renaming inj→KC
open Go.World.ownsRow renaming kept→KG
open Option.some renaming inj→KS
open Go.Ending renaming returned→KX
open Prod renaming fst→KZ
open Go.Addr renaming add→q6, add_mid→qe
open Except renaming ok→qg
open Go renaming heap_setCell_same→qh, cell_of_row→qi, frozen_of_row→qj, heap_alloc_new→qk, wpList_store_row→ql, setRow_heap→qm, results_cell_row→qn, bodyPost_ret→qo, setCell_eq_setRow→qp, setRow_other→qq, leaves_cons→qr, wpQuiet_nil→qs, wpStill_nil→qt, zero_of_info→qu, wpList_append_own→qv
namespace Go.Proofs.YtonpphjleapafaaGreat
namespace Po
open Zip
open Go Go.RowKit Go.ChangeShapes
open Tab
theorem j77 {n j:Nat} {js:List Nat} (hj:j ∈ js) (h:∀ j ∈ js,j < n):∃ x,(ka n (I 0))[j]?=some (I x):=⟨0,by rw [List.getElem?_replicate,if_pos (h j hj)]⟩
theorem j9p (m:Int) {q:Nat} (h:q < 8):st8 m 8=st8 m q++([.num 1 m q]++(st8 m 8).drop (q+1)):=by
 rw [Kx]
 have h1:(st8 m 8).drop q=.num 1 m q :: (st8 m 8).drop (q+1):=by
  rw [List.drop_eq_getElem_cons (by simpa using h)];simp
 rw [<-h1]
 have h2:st8 m q=(st8 m 8).take q:=by
  unfold st8;rw [<-List.map_take,List.take_range,Ku (by omega)]
 rw [h2,kU]
theorem j2i {P:PP} {m:Int} {q:Nat} {l l':List Value} {s s':P.σ} {f:Flt} (h:q < 8) (h1:runs P (st8 m q) l s=.ok (l',s')) (h2:Sp.run P l' s' (.num 1 m q)=.error f):runs P (st8 m 8) l s=.error f:=by
 rw [j9p m h,J2,h1];dsimp only;rw [J2,jD,h2]
theorem j32 {P:PP} {m:Int} {q:Nat} {l l' l2:List Value} {s s' s2:P.σ} (h1:runs P (st8 m q) l s=.ok (l',s')) (h2:Sp.run P l' s' (.num 1 m q)=.ok (l2,s2)):runs P (st8 m (q+1)) l s=.ok (l2,s2):=by
 unfold st8;rw [K8,K9,J2,h1];dsimp only;rw [show [q].map (Sp.num 1 m)=[.num 1 m q] from rfl,jD,h2]
theorem j9q {z:List Value} {q:Nat} (h:q < 8):ka 8 z=ka q z++([z]++ka (8 - (q+1)) z):=by
 rw [Kx,<-Ka,List.replicate_append_replicate];congr 1;omega
theorem j5D {P:PP} {st:List Sp} {z:List Value} {q:Nat} {ys:List (List Value)} {s s':P.σ} {f:Flt} (h:q < 8) (h1:jf P st (ka q z) s=.ok (ys,s')) (h2:runs P st z s'=.error f):jf P st (ka 8 z) s=.error f:=by
 rw [j9q h,jx,h1];dsimp only;rw [jx,Jy,h2]
theorem JX {P:PP} {st:List Sp} {z x:List Value} {q:Nat} {ys:List (List Value)} {s s' s2:P.σ} (h1:jf P st (ka q z) s=.ok (ys,s')) (h2:runs P st z s'=.ok (x,s2)):jf P st (ka (q+1) z) s=.ok (ys++[x],s2):=by
 rw [show ka (q+1) z=ka q z++[z] from List.replicate_succ',jx,h1];dsimp only;rw [Jy,h2]
theorem j78 {z:List Value} {q:Nat} (h:q < 8):(ka (8 - q) z).flatten=z++(ka (8 - (q+1)) z).flatten:=by
 rw [show 8 - q=8 - (q+1)+1 by omega,Ka,List.flatten_cons]
theorem jcv {P:PP} {st:List Sp} {z:List Value} {q n:Nat} {ys:List (List Value)} {s s':P.σ} (hz:z.length=n) (h:jf P st (ka q z) s=.ok (ys,s')):ys.flatten.length=q*n:=by
 rw [List.length_flatten,Jz P st h,kD,List.sum_replicate_nat,hz]
def jf3 (P:PP) (R:P.σ->World->Prop) (B tb:Nat) (r:Except Flt (Raw × P.σ)) (W:World) (e:Ending) (W':World):Prop:=match r with
 | .ok (x,s')=>e=.returned (.tuple #[])/\R s' W'/\Mv B tb W W'/\∃ ga da ra ba zs,W'.heap[tb]?=some (.cells (bx x.ph.flatten (.slice ga x.gs.length x.gs.length) x.cf (slc da x.ds) (slc ra x.rs) (slc ba x.bs) x.tm x.fl x.tk).toArray 33 (0,0))/\zs.map (·.2)=x.gs/\(x.gs ≠ []->∃ b,tb+1<=b/\ga=some ⟨b,0,none⟩/\W'.heap[b]?=some (.cells (zs.flatMap zc).toArray 68 (0,0)))/\Rows (tb+1) W' zs/\jM (tb+1) W' da x.ds 71/\jM (tb+1) W' ra x.rs 75/\jM (tb+1) W' ba x.bs 77
 | .error f=>e=.panicked [{ v:=fault f,recovered:=false }]/\Below B W W'
section
variable {P:PP} {R:P.σ->World->Prop} {B:Nat} {ok:Nat->Nat × Nat->Prop} {ti:TypeId} {v rv:Value} {FN FF FG:FuncId}
theorem jaL (PT:Port P R B ok ti v rv FN FF FG) (FEW:Hid (∀ most s y s1,P.num s 1 most 0=.ok (y,s1)->∃ n:Nat,y=n/\n<=1000)) {s:P.σ} {W:World} (hR:R s W) (hB:B<=W.heap.size) {tb:Nat} (htb:W.heap[tb]?=some (.cells (bx (ka 8 zPh).flatten nl (ka 8 (I 0)) nl nl nl (ka 5 (I 0)) (ka 8 (I 0)) (ka 2 (I 0))).toArray 33 (0,0))) (hB2:B<=tb) (hfit:Fit (parts P s)) :
  Calls Tryz.prog 20 #[.iface ti v,.pointer (some ⟨tb,0,none⟩)] W (jf3 P R B tb (parts P s) W):=by
 have hm:=PT.mn;have na:=PT.nn;have en:=PT.en;have htl:=(kb.1 htb).1;have HBX:=hJJ htb;have HS:=hJJ hR;have HFIT:=hJJ hfit;have HTB:=hJJ (PT.new tb hB2);obtain ⟨res,hres⟩:∃ r,r=parts P s:=⟨_,rfl⟩;rw [<-hres] at HFIT |-;unfold parts at hres;have HRES:=hJJ hres;clear hres;clear htb hR hfit;go_enter Tryz.func20,Tryz.ntmps20
 go_wp2_with fail
 go_loopw [7] (fun i wr=>∃ (q:Nat) (ys:List (List Value)) (s':P.σ),q<=8/\i=.int .i64 (q:Int)/\jf P j1H (ka q zPh) s=.ok (ys,s')/\R s' wr/\Mv B tb W wr/\wr.heap[tb]?=some (.cells (ys.flatten++((ka (8 - q) zPh).flatten++(nl :: ((ka 8 (I 0))++(nl :: nl :: nl :: ((ka 5 (I 0))++((ka 8 (I 0))++(ka 2 (I 0))))))))).toArray 33 (0,0))) (fun i _=>8 - (intOf i).toNat)
 case atStart=>exact ⟨0,[],s,by omega,rfl,rfl,HS.out,Mv.refl _ _ _,HBX.out⟩
 case round =>
  obtain ⟨q,ys,s',hq,rfl,hrun,hr,hmv,hbv⟩:=hrel;have HE:=hJJ hrun;have HM:=hJJ hmv;have HBV:=hJJ hbv;have HS1:=hJJ hr;have hyl:=jcv (z:=zPh) (n:=13) rfl hrun;clear hrun hmv hbv hr HS HBX;by_cases hlt:q < 8
  ·have e1:ys.flatten++((ka (8 - q) zPh).flatten++(nl :: ((ka 8 (I 0))++(nl :: nl :: nl :: ((ka 5 (I 0))++((ka 8 (I 0))++(ka 2 (I 0))))))))=ys.flatten++(zPh++((ka (8 - (q+1)) zPh).flatten++(nl :: ((ka 8 (I 0))++(nl :: nl :: nl :: ((ka 5 (I 0))++((ka 8 (I 0))++(ka 2 (I 0))))))))):=by rw [j78 hlt,kq]
   have HE1:=hJJ e1;have hfA:Fit (runs P j1H zPh s'):=fun h=>HFIT.out (by rw [HRES.out,j5D hlt HE.out h];rfl);have hcall:=hJJ (j27 PT (l:=zPh) (b:=tb) (o:=q*13) (cs:=(ys.flatten++((ka (8 - q) zPh).flatten++(nl :: ((ka 8 (I 0))++(nl :: nl :: nl :: ((ka 5 (I 0))++((ka 8 (I 0))++(ka 2 (I 0))))))))).toArray) (t:=33) (fr:=(0,0)) rfl HS1.out (ke hB HM.out.low.size) HTB.out (.inr (by decide)) (j31 e1 hyl) (by rw [j30 e1 hyl];exact HBV.out) hfA);clear hfA e1;go_wp2_with fail
   refine hcall.out.mono ?_;intro e W' he;cases hr:runs P j1H zPh s' with
   | error f =>
    have he2:Ends P R B tb (q*13) _ 33 (0,0) (runs P j1H zPh s') wr e W':=he;rw [hr] at he2;obtain ⟨rfl,h2⟩:=he2;refine ⟨rfl,?_⟩;rw [HRES.out,j5D hlt HE.out hr];exact ⟨rfl,HM.out.low.trans h2⟩
   | ok y =>
    obtain ⟨x,s2⟩:=y;have he2:Ends P R B tb (q*13) _ 33 (0,0) (runs P j1H zPh s') wr e W':=he;rw [hr] at he2;obtain ⟨rfl,h2,h3,h4⟩:=he2;rw [j1r HE1.out hyl (Jv P j1H hr)] at h4;have H2:=hJJ h2;have H3:=hJJ (HM.out.trans h3);have H4:=hJJ h4;have HEN:=hJJ (JX HE.out hr);clear h2 h3 h4 he hr hcall;go_wp2;go_roundw;case rel=>exact ⟨q+1,ys++[x],s2,by omega,by go_num,HEN.out,H2.out,H3.out,by rw [H4.out,List.flatten_append,List.flatten_singleton,kq]⟩
    case measure=>simp [intOf];omega
  obtain rfl:q=8:=by omega
  have h9:=HRES.out;rw [HE.out,andThen_ok] at h9;dsimp only at h9;have HRES:=hJJ h9;clear h9;have HBX:Hid (wr.heap[tb]?=some (.cells (bx ys.flatten nl (ka 8 (I 0)) nl nl nl (ka 5 (I 0)) (ka 8 (I 0)) (ka 2 (I 0))).toArray 33 (0,0))):=hJJ (by rw [HBV.out];rfl);obtain ⟨PH,hPH⟩:∃ PH,PH=ys.flatten:=⟨_,rfl⟩;have hPL:PH.length=104:=by rw [hPH];exact hyl
  have HPH:=hJJ hPH;rw [<-hPH] at HBX;have HS:=HS1;have hCL:((ka 8 (I 0)):List Value).length=8:=rfl;clear HE HBV HS1 hyl hPH;have hfA:Fit (Jt P 4 s'):=fun h=>HFIT.out (by rw [HRES.out,h,jJ]);have hcall:=hJJ (jaK PT (FEW.out 8) (most:=4) HS.out (ke hB HM.out.low.size) (FEW.out 4 s') HBX.out (oc:=104) (by decide) hB2 (j6b (A:=PH) rfl hPL) hfA);clear hfA;go_wp2_with fail
  refine hcall.out.mono ?_;intro e W1 he;cases hr:Jt P 4 s' with
  | error f =>
   rw [hr] at he HRES;obtain ⟨rfl,h2⟩:=he;refine ⟨rfl,?_⟩;rw [HRES.out];exact ⟨rfl,HM.out.low.trans h2⟩
  | ok y =>
  obtain ⟨gs,s1⟩:=y;rw [hr] at he;have h9:=HRES.out;rw [hr,andThen_ok] at h9;dsimp only at h9;have HRES:=hJJ h9;clear h9;obtain ⟨rfl,hR2,hM2,ga,zs,hzs,hb2,hg2,hr2⟩:=he;rw [j4f (cs:=bx PH nl (ka 8 (I 0)) nl nl nl (ka 5 (I 0)) (ka 8 (I 0)) (ka 2 (I 0))) (A:=PH) _ rfl hPL] at hb2;have HBX:Hid (W1.heap[tb]?=some (.cells (bx PH (.slice ga gs.length gs.length) (ka 8 (I 0)) nl nl nl (ka 5 (I 0)) (ka 8 (I 0)) (ka 2 (I 0))).toArray 33 (0,0))):=hJJ hb2;have HZS:=hJJ hzs;have htw:tb+1<=wr.heap.size:=kr htl HM.out.low.size
  obtain ⟨K1,HK,HKM,HKD1⟩:∃ K:World->Prop,Hid (K W1)/\Hid (∀ V U,Mv B tb V U->K V->K U)/\Hid (∀ V,K V->(gs ≠ []->∃ b,tb+1<=b/\ga=some ⟨b,0,none⟩/\V.heap[b]?=some (.cells (zs.flatMap zc).toArray 68 (0,0)))/\Rows (tb+1) V zs) :=
   ⟨fun V=>(gs ≠ []->∃ b,tb+1<=b/\ga=some ⟨b,0,none⟩/\V.heap[b]?=some (.cells (zs.flatMap zc).toArray 68 (0,0)))/\Rows (tb+1) V zs,
    hJJ ⟨fun h=>by obtain ⟨b,h1,h2,h3⟩:=hg2 h;exact ⟨b,by omega,h2,h3⟩,fun z hz=>⟨(hr2 z hz).1.j5l htw,(hr2 z hz).2.j5l htw⟩⟩,
    hJJ (fun V U hm h=>⟨fun hx=>by obtain ⟨b,h1,h2,h3⟩:=h.1 hx;exact ⟨b,h1,h2,hm.Ju h3 (.inr (by decide)) (by omega)⟩,fun z hz=>⟨(h.2 z hz).1.Ju hm (by omega) (by decide),(h.2 z hz).2.Ju hm (by omega) (by decide)⟩⟩),hJJ (fun V h=>h)⟩
  have HM:=hJJ (HM.out.trans hM2);have HS:=hJJ hR2;clear hR2 hM2 hb2 hg2 hr2 hzs hr hcall;generalize hgv:(kG ga gs.length gs.length)=gv at HBX;have HGV:=hJJ hgv;clear hgv;go_wp2_with fail
  go_loopw [23] (fun i wr=>∃ (q:Nat) (cf:List Value) (s':P.σ),q<=8/\i=.int .i64 (q:Int)/\runs P (st8 255 q) (ka 8 (I 0)) s1=.ok (cf,s')/\R s' wr/\Mv B tb W wr/\K1 wr/\wr.heap[tb]?=some (.cells (bx PH gv cf nl nl nl (ka 5 (I 0)) (ka 8 (I 0)) (ka 2 (I 0))).toArray 33 (0,0))) (fun i _=>8 - (intOf i).toNat)
  case atStart=>exact ⟨0,(ka 8 (I 0)),s1,by omega,rfl,rfl,HS.out,HM.out,HK.out,HBX.out⟩
  case round =>
   obtain ⟨q,cf,s',hq,rfl,hrun,hr,hmv,hk,hbv⟩:=hrel;have HE:=hJJ hrun;have HM:=hJJ hmv;have HBV:=hJJ hbv;have HS1:=hJJ hr;have HK:=hJJ hk;obtain ⟨hcl,hci⟩:=j1s hrun;clear hrun hmv hbv hr hk HS HBX;by_cases hlt:q < 8
   ·obtain ⟨x,hx⟩:=hci q hlt;have e1:bx PH gv cf nl nl nl (ka 5 (I 0)) (ka 8 (I 0)) (ka 2 (I 0))=(PH++[gv])++(cf++(nl :: nl :: nl :: ((ka 5 (I 0))++((ka 8 (I 0))++(ka 2 (I 0)))))):=by simp [bx]
    have hA1:(PH++[gv]).length=105:=by rw [kk,hPL];rfl
    have HE1:=hJJ e1;have hfA:Fit (Sp.run P cf s' (.num 1 255 q)):=fun h=>HFIT.out (by rw [HRES.out,j2i hlt HE.out h,jJ]);have hal:Below wr.heap.size wr (wr.alloc (.cells #[.pointer (some ⟨tb,105+q,none⟩)] 105)):=(ko _ _).alloc (ki _) _;have htw:=(kb.1 HBV.out).1;have hcall:=hJJ (j2L PT (l:=cf) (b:=tb) (o:=105) (cs:=(bx PH gv cf nl nl nl (ka 5 (I 0)) (ka 8 (I 0)) (ka 2 (I 0))).toArray) (t:=33) (fr:=(0,0)) (lb:=wr.heap.size) (fr2:=(0,0)) (cap:=1) (n:=1) [q] rfl (by decide) (PT.stay s' wr _ HS1.out hal.size (fun j cs t fr hj _=>hal.block j (kb.1 hj).1)) (ke (ke hB HM.out.low.size) hal.size) HTB.out (.inr (by decide)) (j31 e1 hA1) (by rw [j30 e1 hA1];exact (hal.block tb htw).trans HBV.out) (fun j hj=>by obtain rfl:=Ke.1 hj;exact ⟨x,hx⟩) (qk wr _) (by omega) (ki _) (by rw [show [q].map (Sp.num 1 255)=[.num 1 255 q] from rfl,jD];exact hfA));have HAL:=hJJ hal;clear hfA e1 hal hx hci;go_wp2_with fail
    refine hcall.out.mono ?_;intro e W' he;rw [show [q].map (Sp.num 1 255)=[.num 1 255 q] from rfl,jD] at he;cases hr:Sp.run P cf s' (.num 1 255 q) with
    | error f =>
     rw [hr] at he;obtain ⟨rfl,h2⟩:=he;refine ⟨rfl,?_⟩;rw [HRES.out,j2i hlt HE.out hr];exact ⟨rfl,HM.out.low.trans ((HAL.out.mono (ke hB HM.out.low.size)).trans h2)⟩
    | ok y =>
     obtain ⟨cf2,s2⟩:=y;rw [hr] at he;obtain ⟨rfl,h2,h3,h4⟩:=he;rw [j1r HE1.out hA1 (by have:=j5S P _ hr;exact this)] at h4;have hmm:=(Mv.of (b:=tb) HAL.out (ke hB HM.out.low.size)).trans h3;have H2:=hJJ h2;have H3:=hJJ (HM.out.trans hmm);have H4:Hid (W'.heap[tb]?=some (.cells (bx PH gv cf2 nl nl nl (ka 5 (I 0)) (ka 8 (I 0)) (ka 2 (I 0))).toArray 33 (0,0))):=hJJ (by rw [h4];simp [bx]);have HK2:=hJJ (HKM.out _ _ hmm HK.out);have HEN:=hJJ (j32 HE.out hr);clear h2 h3 h4 hr hcall hmm;go_wp2;go_roundw;case rel=>exact ⟨q+1,cf2,s2,by omega,by go_num,HEN.out,H2.out,H3.out,HK2.out,H4.out⟩
     case measure=>simp [intOf];omega
   obtain rfl:q=8:=by omega
   have h9:=HRES.out;rw [HE.out,andThen_ok] at h9;dsimp only at h9;have HRES:=hJJ h9;have HBX:=HBV;have HS:=HS1;have hCL:=hcl;clear h9 HE HBV HS1 hcl hci;have e1:bx PH gv cf nl nl nl (ka 5 (I 0)) (ka 8 (I 0)) (ka 2 (I 0))=(PH++(gv :: cf))++(nl :: (nl :: nl :: ((ka 5 (I 0))++((ka 8 (I 0))++(ka 2 (I 0)))))):=by simp [bx]
   have hA1:((PH++(gv :: cf))).length=113:=by simp [hPL,hCL]
   have hfA:Fit (jr P 16 stD [I 0,.float .f64 0,.float .f64 0,.float .f64 0,.float .f64 0,I 0,I 0] s'):=fun h=>HFIT.out (by rw [HRES.out,h,jJ]);have htw:tb+1<=wr.heap.size:=kr htl HM.out.low.size;have hcall:=hJJ (jaH PT (st:=stD) (fun _ _=>rfl) (hJJ (fun W s l b o cs t fr hk hR hB hok ht hl hb hf=>j0c PT hk hR hB hok ht hl hb hf)) rfl HS.out (ke hB HM.out.low.size) (FEW.out 16 s') HBX.out (oc:=113) (by decide) hB2 (j6b e1 hA1) hfA);clear hfA;go_wp2_with fail
   refine hcall.out.mono ?_;intro e W2 he;cases hr:jr P 16 stD [I 0,.float .f64 0,.float .f64 0,.float .f64 0,.float .f64 0,I 0,I 0] s' with
   | error f =>
    rw [hr] at he HRES;obtain ⟨rfl,h2⟩:=he;refine ⟨rfl,?_⟩;rw [HRES.out];exact ⟨rfl,HM.out.low.trans h2⟩
   | ok y =>
   obtain ⟨ds,s2⟩:=y;rw [hr] at he;have h9:=HRES.out;rw [hr,andThen_ok] at h9;dsimp only at h9;have HRES:=hJJ h9;clear h9;obtain ⟨rfl,hR2,hM2,ad,hb2,hn2⟩:=he;rw [j4f (cs:=bx PH gv cf nl nl nl (ka 5 (I 0)) (ka 8 (I 0)) (ka 2 (I 0))) _ e1 hA1] at hb2;obtain ⟨dv,hdv⟩:∃ x,x=slc ad ds:=⟨_,rfl⟩;rw [show kG ad ds.length ds.length=dv from hdv.symm] at hb2;have HBX:Hid (W2.heap[tb]?=some (.cells (bx PH gv cf dv nl nl (ka 5 (I 0)) (ka 8 (I 0)) (ka 2 (I 0))).toArray 33 (0,0))):=hJJ (by rw [hb2];simp [bx]);have HdV:=hJJ hdv;clear hdv
   obtain ⟨K2,HK,HKM,HKDd⟩:∃ K:World->Prop,Hid (K W2)/\Hid (∀ V U,Mv B tb V U->K V->K U)/\Hid (∀ V,K V->K1 V/\jM (tb+1) V ad ds 71) :=
    ⟨fun V=>K1 V/\jM (tb+1) V ad ds 71,hJJ ⟨HKM.out _ _ hM2 HK.out,(show jM wr.heap.size W2 ad ds 71 from hn2).j5l htw⟩,hJJ (fun V U hm h=>⟨HKM.out _ _ hm h.1,h.2.Ju hm (by omega) (by decide)⟩),hJJ (fun V h=>h)⟩
   have HM:=hJJ (HM.out.trans hM2);have HS:=hJJ hR2;clear hR2 hM2 hb2 hn2 hr hcall e1 hA1 htw;have e1:bx PH gv cf dv nl nl (ka 5 (I 0)) (ka 8 (I 0)) (ka 2 (I 0))=(PH++(gv :: (cf++[dv])))++(nl :: (nl :: ((ka 5 (I 0))++((ka 8 (I 0))++(ka 2 (I 0)))))):=by simp [bx]
   have hA1:((PH++(gv :: (cf++[dv])))).length=114:=by simp [hPL,hCL]
   have hfA:Fit (jr P 4 stR [I 0,I 0,I 0,I 0,I 0,I 0,I 0,I 0,I 0,I 0,I 0] s2):=fun h=>HFIT.out (by rw [HRES.out,h,jJ]);have htw:tb+1<=W2.heap.size:=kr htl HM.out.low.size;have hcall:=hJJ (jaI PT (st:=stR) (fun _ _=>rfl) (hJJ (fun W s l b o cs t fr hk hR hB hok ht hl hb hf=>j2M PT hk hR hB hok ht hl hb hf)) rfl HS.out (ke hB HM.out.low.size) (FEW.out 4 s2) HBX.out (oc:=114) (by decide) hB2 (j6b e1 hA1) hfA);clear hfA;go_wp2_with fail
   refine hcall.out.mono ?_;intro e W3 he;cases hr:jr P 4 stR [I 0,I 0,I 0,I 0,I 0,I 0,I 0,I 0,I 0,I 0,I 0] s2 with
   | error f =>
    rw [hr] at he HRES;obtain ⟨rfl,h2⟩:=he;refine ⟨rfl,?_⟩;rw [HRES.out];exact ⟨rfl,HM.out.low.trans h2⟩
   | ok y =>
   obtain ⟨rs,s3⟩:=y;rw [hr] at he;have h9:=HRES.out;rw [hr,andThen_ok] at h9;dsimp only at h9;have HRES:=hJJ h9;clear h9;obtain ⟨rfl,hR2,hM2,ar,hb2,hn2⟩:=he;rw [j4f (cs:=bx PH gv cf dv nl nl (ka 5 (I 0)) (ka 8 (I 0)) (ka 2 (I 0))) _ e1 hA1] at hb2;obtain ⟨rlv,hrlv⟩:∃ x,x=slc ar rs:=⟨_,rfl⟩;rw [show kG ar rs.length rs.length=rlv from hrlv.symm] at hb2;have HBX:Hid (W3.heap[tb]?=some (.cells (bx PH gv cf dv rlv nl (ka 5 (I 0)) (ka 8 (I 0)) (ka 2 (I 0))).toArray 33 (0,0))):=hJJ (by rw [hb2];simp [bx]);have HrV:=hJJ hrlv;clear hrlv
   obtain ⟨K3,HK,HKM,HKDr⟩:∃ K:World->Prop,Hid (K W3)/\Hid (∀ V U,Mv B tb V U->K V->K U)/\Hid (∀ V,K V->K2 V/\jM (tb+1) V ar rs 75) :=
    ⟨fun V=>K2 V/\jM (tb+1) V ar rs 75,hJJ ⟨HKM.out _ _ hM2 HK.out,(show jM W2.heap.size W3 ar rs 75 from hn2).j5l htw⟩,hJJ (fun V U hm h=>⟨HKM.out _ _ hm h.1,h.2.Ju hm (by omega) (by decide)⟩),hJJ (fun V h=>h)⟩
   have HM:=hJJ (HM.out.trans hM2);have HS:=hJJ hR2;clear hR2 hM2 hb2 hn2 hr hcall e1 hA1 htw;have e1:bx PH gv cf dv rlv nl (ka 5 (I 0)) (ka 8 (I 0)) (ka 2 (I 0))=(PH++(gv :: (cf++[dv,rlv])))++(nl :: ((ka 5 (I 0))++((ka 8 (I 0))++(ka 2 (I 0))))):=by simp [bx]
   have hA1:((PH++(gv :: (cf++[dv,rlv])))).length=115:=by simp [hPL,hCL]
   have hfA:Fit (jr P 4 stB [I 0,I 0] s3):=fun h=>HFIT.out (by rw [HRES.out,h,jJ]);have htw:tb+1<=W3.heap.size:=kr htl HM.out.low.size;have hcall:=hJJ (jaJ PT (st:=stB) (fun _ _=>rfl) (hJJ (fun W s l b o cs t fr hk hR hB hok ht hl hb hf=>j8s PT hk hR hB hok ht hl hb hf)) rfl HS.out (ke hB HM.out.low.size) (FEW.out 4 s3) HBX.out (oc:=115) (by decide) hB2 (j6b e1 hA1) hfA);clear hfA;go_wp2_with fail
   refine hcall.out.mono ?_;intro e W4 he;cases hr:jr P 4 stB [I 0,I 0] s3 with
   | error f =>
    rw [hr] at he HRES;obtain ⟨rfl,h2⟩:=he;refine ⟨rfl,?_⟩;rw [HRES.out];exact ⟨rfl,HM.out.low.trans h2⟩
   | ok y =>
   obtain ⟨bs,s4⟩:=y;rw [hr] at he;have h9:=HRES.out;rw [hr,andThen_ok] at h9;dsimp only at h9;have HRES:=hJJ h9;clear h9;obtain ⟨rfl,hR2,hM2,ab,hb2,hn2⟩:=he;rw [j4f (cs:=bx PH gv cf dv rlv nl (ka 5 (I 0)) (ka 8 (I 0)) (ka 2 (I 0))) _ e1 hA1] at hb2;obtain ⟨bv,hbv⟩:∃ x,x=slc ab bs:=⟨_,rfl⟩;rw [show kG ab bs.length bs.length=bv from hbv.symm] at hb2;have HBX:Hid (W4.heap[tb]?=some (.cells (bx PH gv cf dv rlv bv (ka 5 (I 0)) (ka 8 (I 0)) (ka 2 (I 0))).toArray 33 (0,0))):=hJJ (by rw [hb2];simp [bx]);have HbV:=hJJ hbv;clear hbv
   obtain ⟨K4,HK,HKM,HKDb⟩:∃ K:World->Prop,Hid (K W4)/\Hid (∀ V U,Mv B tb V U->K V->K U)/\Hid (∀ V,K V->K3 V/\jM (tb+1) V ab bs 77) :=
    ⟨fun V=>K3 V/\jM (tb+1) V ab bs 77,hJJ ⟨HKM.out _ _ hM2 HK.out,(show jM W3.heap.size W4 ab bs 77 from hn2).j5l htw⟩,hJJ (fun V U hm h=>⟨HKM.out _ _ hm h.1,h.2.Ju hm (by omega) (by decide)⟩),hJJ (fun V h=>h)⟩
   have HM:=hJJ (HM.out.trans hM2);have HS:=hJJ hR2;clear hR2 hM2 hb2 hn2 hr hcall e1 hA1 htw;go_upto_region 14 with fail
   refine QT.j0q W4.heap.size 16 (by kernel_rfl) (by kernel_rfl) (by kernel_rfl) (by kernel_rfl) (v:=.iface ti v) (fun _ _ _ h=>h) (Or.inl ⟨by rfl,fun w'=>by go_simp;try rfl⟩) ?_;dsimp only [kM];simp only [kc,kf,kg,kB,kK,ku,kA];repeat (quiet_step (fail))
   refine qs ?_;intro _ hw';obtain ⟨p,rfl⟩:=hw';have hBW:=ke hB HM.out.low.size;have htw:=(kb.1 HBX.out).1;have hBX2:=(p.below.block tb htw).trans HBX.out;have hS2:=PT.stay s4 W4 p.world HS.out p.below.size (fun j cs t fr hj _=>p.below.block j (kb.1 hj).1);have hmp:Mv B tb W4 p.world:=Mv.of p.below hBW;have HK:=hJJ (HKM.out _ _ hmp HK.out);have HM:=hJJ (HM.out.trans hmp);have hBV:=ke hB HM.out.low.size;clear hBW htw hmp;generalize p.world=V5 at hBX2 hS2 HK HM hBV |-
   (try simp only [ku,kA])
   have e1:bx PH gv cf dv rlv bv (ka 5 (I 0)) (ka 8 (I 0)) (ka 2 (I 0))=(PH++(gv :: (cf++[dv,rlv,bv])))++((ka 5 (I 0))++((ka 8 (I 0))++(ka 2 (I 0)))):=by simp [bx]
   have hA1:((PH++(gv :: (cf++[dv,rlv,bv])))).length=116:=by simp [hPL,hCL]
   have hfA:Fit (runs P ([0,1,2,3,4].map (Sp.num 2 9999)) (ka 5 (I 0)) s4):=fun h=>HFIT.out (by rw [HRES.out,h,jJ]);have hal:Below V5.heap.size V5 (V5.alloc (.cells #[.pointer (some ⟨tb,116,none⟩),.pointer (some ⟨tb,117,none⟩),.pointer (some ⟨tb,118,none⟩),.pointer (some ⟨tb,119,none⟩),.pointer (some ⟨tb,120,none⟩)] 105)):=(ko _ _).alloc (ki _) _;have htw:=(kb.1 hBX2).1;have hcall:Hid (Calls Tryz.prog 57 #[.iface ti v,.slice (some ⟨V5.heap.size,0,none⟩) 5 5] (V5.alloc (.cells #[.pointer (some ⟨tb,116,none⟩),.pointer (some ⟨tb,117,none⟩),.pointer (some ⟨tb,118,none⟩),.pointer (some ⟨tb,119,none⟩),.pointer (some ⟨tb,120,none⟩)] 105)) (Ends P R B tb 116 (bx PH gv cf dv rlv bv (ka 5 (I 0)) (ka 8 (I 0)) (ka 2 (I 0))).toArray 33 (0,0) (runs P ([0,1,2,3,4].map (Sp.num 2 9999)) (ka 5 (I 0)) s4) (V5.alloc (.cells #[.pointer (some ⟨tb,116,none⟩),.pointer (some ⟨tb,117,none⟩),.pointer (some ⟨tb,118,none⟩),.pointer (some ⟨tb,119,none⟩),.pointer (some ⟨tb,120,none⟩)] 105)))):=hJJ (j0L PT (l:=(ka 5 (I 0))) (b:=tb) (o:=116) (cs:=(bx PH gv cf dv rlv bv (ka 5 (I 0)) (ka 8 (I 0)) (ka 2 (I 0))).toArray) (t:=33) (fr:=(0,0)) (lb:=V5.heap.size) (fr2:=(0,0)) (cap:=5) (n:=5) [0,1,2,3,4] rfl (by decide) (PT.stay s4 V5 _ hS2 hal.size (fun j cs t fr hj _=>hal.block j (kb.1 hj).1)) (ke hBV hal.size) HTB.out (.inr (by decide)) (j31 e1 hA1) (by rw [j30 e1 hA1];exact (hal.block tb htw).trans hBX2) (fun j hj=>j77 hj (by decide)) (qk V5 _) (by omega) (ki _) hfA);have HMA:=hJJ ((Mv.of (b:=tb) hal hBV));have HBV:=hJJ hBV;clear hfA hal hBX2 hS2 hBV htw HS HBX;go_wp2_with fail
   refine hcall.out.mono ?_;intro e W5 he;cases hr:runs P ([0,1,2,3,4].map (Sp.num 2 9999)) (ka 5 (I 0)) s4 with
   | error f =>
    rw [hr] at he HRES;obtain ⟨rfl,h2⟩:=he;refine ⟨rfl,?_⟩;rw [HRES.out];exact ⟨rfl,HM.out.low.trans (HMA.out.low.trans h2)⟩
   | ok y =>
   obtain ⟨tm,s5⟩:=y;rw [hr] at he;have h9:=HRES.out;rw [hr,andThen_ok] at h9;dsimp only at h9;have HRES:=hJJ h9;clear h9;obtain ⟨rfl,hR2,hM2,hb2⟩:=he;rw [j1r e1 hA1 (by rw [Jv P _ hr])] at hb2;have HBX:Hid (W5.heap[tb]?=some (.cells (bx PH gv cf dv rlv bv tm (ka 8 (I 0)) (ka 2 (I 0))).toArray 33 (0,0))):=hJJ (by rw [hb2];simp [bx]);have hmm:=HMA.out.trans hM2;have HK:=hJJ (HKM.out _ _ hmm HK.out);have HM:=hJJ (HM.out.trans hmm);have HS:=hJJ hR2;have hXL:=(j1s hr).1;clear hR2 hM2 hb2 hr hcall e1 hA1 hmm HMA HBV;have hTL:=hXL;clear hXL;go_wp2_with fail
   go_loopw [68] (fun i wr=>∃ (q:Nat) (fl:List Value) (s':P.σ),q<=8/\i=.int .i64 (q:Int)/\runs P (st8 2 q) (ka 8 (I 0)) s5=.ok (fl,s')/\R s' wr/\Mv B tb W wr/\K4 wr/\wr.heap[tb]?=some (.cells (bx PH gv cf dv rlv bv tm fl (ka 2 (I 0))).toArray 33 (0,0))) (fun i _=>8 - (intOf i).toNat)
   case atStart=>exact ⟨0,(ka 8 (I 0)),s5,by omega,rfl,rfl,HS.out,HM.out,HK.out,HBX.out⟩
   case round =>
    obtain ⟨q,fl,s',hq,rfl,hrun,hr,hmv,hk,hbv⟩:=hrel;have HE:=hJJ hrun;have HM:=hJJ hmv;have HBX:=hJJ hbv;have HS:=hJJ hr;have HK:=hJJ hk;obtain ⟨hfl,hci⟩:=j1s hrun;clear hrun hmv hbv hr hk;by_cases hlt:q < 8
    ·obtain ⟨x,hx⟩:=hci q hlt;go_upto_region 18 with fail
     refine QB.jo 9 (by kernel_rfl) (by kernel_rfl) ?_;have e1:bx PH gv cf dv rlv bv tm fl (ka 2 (I 0))=(PH++(gv :: (cf++(dv :: rlv :: bv :: tm))))++(fl++(ka 2 (I 0))):=by simp [bx]
     have hA1:(PH++(gv :: (cf++(dv :: rlv :: bv :: tm)))).length=121:=by simp [hPL,hCL,hTL]
     have HE1:=hJJ e1;have hfA:Fit (Sp.run P fl s' (.num 1 2 q)):=fun h=>HFIT.out (by rw [HRES.out,j2i hlt HE.out h,jJ]);have hal:Below wr.heap.size wr wr.drew:=(ko _ _).drew;have htw:=(kb.1 HBX.out).1;have hbw:=ke hB HM.out.low.size;have hcall:=hJJ (PT.num s' wr.drew tb 121 (bx PH gv cf dv rlv bv tm fl (ka 2 (I 0))).toArray 33 (0,0) fl 1 2 q x (PT.stay s' wr _ HS.out hal.size (fun j cs t fr hj _=>hal.block j (kb.1 hj).1)) (ke hbw hal.size) HTB.out (.inr (by decide)) (j31 e1 hA1) (by rw [j30 e1 hA1];exact (hal.block tb htw).trans HBX.out) hx hfA);have HAL:=hJJ (Mv.of (b:=tb) hal hbw);clear hfA e1 hal hx hci htw hbw HBX HS;generalize wr.drew=V at hcall HAL |-;simp only [kB,kK,ku,kA];repeat still_step
     refine qt ?_;go_wp2_with fail
     refine hcall.out.mono ?_;intro e W' he;cases hr:Sp.run P fl s' (.num 1 2 q) with
     | error f =>
      rw [hr] at he;obtain ⟨rfl,h2⟩:=he;refine ⟨rfl,?_⟩;rw [HRES.out,j2i hlt HE.out hr];exact ⟨rfl,HM.out.low.trans (HAL.out.low.trans h2)⟩
     | ok y =>
      obtain ⟨fl2,s2⟩:=y;rw [hr] at he;obtain ⟨rfl,h2,h3,h4⟩:=he;rw [j1r HE1.out hA1 (by have:=j5S P _ hr;exact this)] at h4;have hmm:=HAL.out.trans h3;have H2:=hJJ h2;have H3:=hJJ (HM.out.trans hmm);have H4:Hid (W'.heap[tb]?=some (.cells (bx PH gv cf dv rlv bv tm fl2 (ka 2 (I 0))).toArray 33 (0,0))):=hJJ (by rw [h4];simp [bx]);have HK2:=hJJ (HKM.out _ _ hmm HK.out);have HEN:=hJJ (j32 HE.out hr);clear h2 h3 h4 hr hcall hmm;go_wp2;go_roundw;case rel=>exact ⟨q+1,fl2,s2,by omega,by go_num,HEN.out,H2.out,H3.out,HK2.out,H4.out⟩
      case measure=>simp [intOf];omega
    obtain rfl:q=8:=by omega
    have h9:=HRES.out;rw [HE.out,andThen_ok] at h9;dsimp only at h9;have HRES:=hJJ h9;clear h9 HE hci;go_upto_region 20 with fail
    refine QT.j0q wr.heap.size 7 (by kernel_rfl) (by kernel_rfl) (by kernel_rfl) (by kernel_rfl) (v:=.iface ti v) (fun _ _ _ h=>h) (Or.inl ⟨by rfl,fun w'=>by go_simp;try rfl⟩) ?_;dsimp only [kM];simp only [kc,kf,kg,kB,kK,ku,kA];repeat (quiet_step (fail))
    refine qs ?_;intro _ hw';obtain ⟨p,rfl⟩:=hw';have hBW:=ke hB HM.out.low.size;have htw:=(kb.1 HBX.out).1;have hBX2:=(p.below.block tb htw).trans HBX.out;have hS2:=PT.stay s' wr p.world HS.out p.below.size (fun j cs t fr hj _=>p.below.block j (kb.1 hj).1);have hmp:Mv B tb wr p.world:=Mv.of p.below hBW;have HK:=hJJ (HKM.out _ _ hmp HK.out);have HM:=hJJ (HM.out.trans hmp);have hBV:=ke hB HM.out.low.size;clear hBW htw hmp;generalize p.world=V9 at hBX2 hS2 HK HM hBV |-
    (try simp only [ku,kA])
    have e1:bx PH gv cf dv rlv bv tm fl (ka 2 (I 0))=(PH++(gv :: (cf++(dv :: rlv :: bv :: (tm++fl)))))++((ka 2 (I 0))++([]:List Value)):=by simp [bx]
    have hA1:((PH++(gv :: (cf++(dv :: rlv :: bv :: (tm++fl)))))).length=129:=by simp [hPL,hCL,hTL,hfl]
    have hfA:Fit (runs P ([0,1].map (Sp.num 4 2147483647)) (ka 2 (I 0)) s'):=fun h=>HFIT.out (by rw [HRES.out,h,jJ]);have hal:Below V9.heap.size V9 (V9.alloc (.cells #[.pointer (some ⟨tb,129,none⟩),.pointer (some ⟨tb,130,none⟩)] 105)):=(ko _ _).alloc (ki _) _;have htw:=(kb.1 hBX2).1;have hcall:Hid (Calls Tryz.prog 58 #[.iface ti v,.slice (some ⟨V9.heap.size,0,none⟩) 2 2] (V9.alloc (.cells #[.pointer (some ⟨tb,129,none⟩),.pointer (some ⟨tb,130,none⟩)] 105)) (Ends P R B tb 129 (bx PH gv cf dv rlv bv tm fl (ka 2 (I 0))).toArray 33 (0,0) (runs P ([0,1].map (Sp.num 4 2147483647)) (ka 2 (I 0)) s') (V9.alloc (.cells #[.pointer (some ⟨tb,129,none⟩),.pointer (some ⟨tb,130,none⟩)] 105)))):=hJJ (j3d PT (l:=(ka 2 (I 0))) (b:=tb) (o:=129) (cs:=(bx PH gv cf dv rlv bv tm fl (ka 2 (I 0))).toArray) (t:=33) (fr:=(0,0)) (lb:=V9.heap.size) (fr2:=(0,0)) (cap:=2) (n:=2) [0,1] rfl (by decide) (PT.stay s' V9 _ hS2 hal.size (fun j cs t fr hj _=>hal.block j (kb.1 hj).1)) (ke hBV hal.size) HTB.out (.inr (by decide)) (j31 e1 hA1) (by rw [j30 e1 hA1];exact (hal.block tb htw).trans hBX2) (fun j hj=>j77 hj (by decide)) (qk V9 _) (by omega) (ki _) hfA);have HMA:=hJJ ((Mv.of (b:=tb) hal hBV));have HBV:=hJJ hBV;clear hfA hal hBX2 hS2 hBV htw HS HBX;go_wp2_with fail
    refine hcall.out.mono ?_;intro e W9 he;cases hr:runs P ([0,1].map (Sp.num 4 2147483647)) (ka 2 (I 0)) s' with
    | error f =>
     rw [hr] at he HRES;obtain ⟨rfl,h2⟩:=he;refine ⟨rfl,?_⟩;rw [HRES.out];exact ⟨rfl,HM.out.low.trans (HMA.out.low.trans h2)⟩
    | ok y =>
    obtain ⟨tk,s7⟩:=y;rw [hr] at he;have h9:=HRES.out;rw [hr,andThen_ok] at h9;dsimp only at h9;have HRES:=hJJ h9;clear h9;obtain ⟨rfl,hR2,hM2,hb2⟩:=he;rw [j1r e1 hA1 (by rw [Jv P _ hr])] at hb2;have HBX:Hid (W9.heap[tb]?=some (.cells (bx PH gv cf dv rlv bv tm fl tk).toArray 33 (0,0))):=hJJ (by rw [hb2];simp [bx]);have hmm:=HMA.out.trans hM2;have HK:=hJJ (HKM.out _ _ hmm HK.out);have HM:=hJJ (HM.out.trans hmm);have HS:=hJJ hR2;have hXL:=(j1s hr).1;clear hR2 hM2 hb2 hr hcall e1 hA1 hmm HMA HBV;clear hXL;go_wp2
    go_end0
    have k4:=HKDb.out _ HK.out;have k3:=HKDr.out _ k4.1;have k2:=HKDd.out _ k3.1;have k1:=HKD1.out _ k2.1;rw [HRES.out];exact ⟨rfl,HS.out,HM.out,ga,ad,ar,ab,zs,by rw [HBX.out,<-HGV.out,HdV.out,HrV.out,HbV.out,HPH.out],HZS.out,k1.1,k1.2,k2.2,k3.2,k4.2⟩
end
end Po
namespace Rr
open Zip
open Go Go.RowKit Go.ChangeShapes
open Tab
open Po
open Rd (Rd But)
open Put (lim)
open Go.Proofs.YtonpphjleapafaaGreat.B (Own jY jA)
def may (lv:Bool) (x:Nat):Bool:=if lv=true then MayF.level x else MayF.span x
def RP (bs:List Nat):PP where
 σ:=Nat
 num s size most _:=if (Nm.num bs ⟨s,0,0⟩ (lim size 7) 0 most).2.code=0 then .ok ((Nm.num bs ⟨s,0,0⟩ (lim size 7) 0 most).1,(Nm.num bs ⟨s,0,0⟩ (lim size 7) 0 most).2.k) else .error ((Nm.num bs ⟨s,0,0⟩ (lim size 7) 0 most).2.code,(Nm.num bs ⟨s,0,0⟩ (lim size 7) 0 most).2.fat)
 flt s lv _:=if (Nm.flt bs ⟨s,0,0⟩).2.code=0 then (if may lv (Nm.flt bs ⟨s,0,0⟩).1=true then .ok ((Nm.flt bs ⟨s,0,0⟩).1,(Nm.flt bs ⟨s,0,0⟩).2.k) else .error (4,s)) else .error ((Nm.flt bs ⟨s,0,0⟩).2.code,(Nm.flt bs ⟨s,0,0⟩).2.fat)
 flg s _:=if (Nm.num bs ⟨s,0,0⟩ 1 0 1).2.code=0 then .ok (decide ((Nm.num bs ⟨s,0,0⟩ 1 0 1).1=1),(Nm.num bs ⟨s,0,0⟩ 1 0 1).2.k) else .error ((Nm.num bs ⟨s,0,0⟩ 1 0 1).2.code,(Nm.num bs ⟨s,0,0⟩ 1 0 1).2.fat)
structure RS (B g:Nat) (ad:Option Addr) (cap:Nat) (bs:List Nat) (s:Nat) (W:World):Prop where
 rd:Rd W g ad cap bs s 0 0
 le:s<=bs.length
 len:bs.length<=10000
 ge:B<=g
 shp:W.shape? g=some (95,4)
 own:Own B W (.slice ad bs.length cap) bs
 b8:∀ x ∈ bs,x < 256
section
variable {B g:Nat} {ad:Option Addr} {cap:Nat} {bs:List Nat} {s s':Nat} {W W':World}
theorem j0x {W:World} {g n:Nat} {t:TypeId} (h:W.shape? g=some (t,n)):∃ cs fr,W.heap[g]?=some (.cells cs t fr)/\cs.size=n:=by
 unfold qc at h;split at h
 ·rename_i c e fr hc;cases h;exact ⟨c,fr,hc,rfl⟩
 cases h
theorem j79 {v:Value} {l:List Nat} (h:Own B W v l) (hk:∀ (j:Nat) (cs:Array Value),W.heap[j]?=some (.cells cs 5 (0,0))->W'.heap[j]?=W.heap[j]?):Own B W' v l:=by
 refine ⟨h.1,?_⟩;rcases h.2 with h0 | ⟨g,c,cur,h1,h2,h3,h4⟩
 ·exact .inl h0
 exact .inr ⟨g,c,cur,h1,h2,(hk g cur h3).trans h3,h4⟩
theorem RS.stay (h:RS B g ad cap bs s W) (hs:W.heap.size<=W'.heap.size) (hk:∀ (j:Nat) (cs:Array Value) (t:TypeId) (fr:Nat × Nat),W.heap[j]?=some (.cells cs t fr)->Pt t->W'.heap[j]?=W.heap[j]?):RS B g ad cap bs s W':=by
 obtain ⟨cs,fr,hg,hn⟩:=j0x h.shp;have hg':=hk g cs _ fr hg (.inr (.inr rfl));have hown:=j79 (W':=W') h.own (fun j cs hj=>hk j cs _ _ hj (.inl rfl));have hcell:∀ i,W'.cell? ⟨g,i,none⟩=W.cell? ⟨g,i,none⟩:=fun i=>World.cell?_of_block (w:=W) (a:=⟨g,i,none⟩) hg';obtain ⟨a,c,e,hr⟩:=jY hown h.b8;cases e
 exact ⟨⟨kr h.rd.lt hs,hr,h.rd.off,(hcell 0).trans h.rd.c0,(hcell 1).trans h.rd.c1,(hcell 2).trans h.rd.c2,(hcell 3).trans h.rd.c3,fun i=>(World.frozen?_of_block (w:=W) (a:=⟨g,i,none⟩) hg').trans (h.rd.fz i),h.rd.cap_le⟩,
  h.le,h.len,h.ge,by unfold qc;rw [hg',hg];simp [hn],hown,h.b8⟩
theorem RS.mem (h:RS B g ad cap bs s W) (hb:Below W.heap.size W W'):RS B g ad cap bs s W':=h.stay hb.size (fun j cs t fr hj _=>hb.block j (kb.1 hj).1)
end
theorem j6c (g:Nat) (ad:Option Addr) (cap:Nat) (l:List Nat) (k:Nat) (w:World) (h:Rd w g ad cap l k 0 0) :
  Calls Tryz.prog 113 #[rdr g] w fun e w'=>e=.returned (.tuple #[])/\Below w.heap.size w w':=by
 have hb:=(ko w.heap.size w).alloc (ki _) (.cells #[.pointer (some ⟨g,0,none⟩)] 55);have hg:=qk w (.cells #[.pointer (some ⟨g,0,none⟩)] 55);have HR:=hJJ (h.below hb);have HB:=hJJ hb;have HE:Hid (Same.Eqs 36 [I 0,I 0] [I 0,I 0] true):=hJJ (by have:=j3n 0 0 0 0;simpa using this);clear h hb;go_enter Tryz.func113,Tryz.ntmps113
 go_upto_region 1 with fail
 generalize kn w _=v at HR HB hg |-;have k0:v.cell? ⟨w.heap.size,0,none⟩=some (.pointer (some ⟨g,0,none⟩)):=by rw [qi _ _ _ _ _ _ hg];rfl
 go_wp2_with fail
 refine (Rd.j5x g ad cap l k 0 0 v HR.out).mono ?_;rintro e v1 ⟨rfl,hb1⟩;go_upto_region 2 with fail
 have hb2:=hb1.alloc hb1.size (.cells #[I 0,I 0] 36);have hg2:=qk v1 (.cells #[I 0,I 0] 36);generalize kn v1 _=v2 at hb2 hg2 |-;generalize v1.heap.size=nb at hg2 |-;have HB2:Hid (Below w.heap.size w v2):=hJJ (HB.out.trans (hb2.mono HB.out.size));have HG:=hJJ hg2;clear hb1 hb2 hg2 k0 hg;have LF:Hid (jl v2 ⟨nb,0,none⟩ [I 0,I 0]):=hJJ (by have:=Row.j1 HG.out;simpa using this);go_wp2_with (first | (refine lgZ 36 ⟨nb,0,none⟩ [I 0,I 0] rfl LF.out Tryz.underlying36 jW ?_) | (refine Row.JG 36 _ _ _ rfl rfl #[I 0,I 0] #[I 0,I 0] rfl rfl j7Y true HE.out ?_))
 go_end0
 exact ⟨rfl,HB2.out⟩
theorem je0 {B g b o:Nat} {ad:Option Addr} {cap:Nat} {bs:List Nat} {s s':Nat} {code fat:Int} {cs:Array Value} {t:TypeId} {l:List Value} {j:Nat} {x:Value} {W v v1:World} (hR:RS B g ad cap bs s v) (hv:Below W.heap.size W v) (hB:B<=W.heap.size) (ht:b < B\/¬ Pt t) (hl:o+l.length<=cs.size) (hb:W.heap[b]?=some (.cells (wrt cs o l) t (0,0)))
  (hj:j < l.length) (hrd:Rd v1 g ad cap bs s' code fat) (hbut:But g v v1) (hbB:B<=b) :
  b ≠ g/\v1.heap[b]?=some (.cells (wrt cs o l) t (0,0))/\v1.setCell ⟨b,o+j,none⟩ x=v1.setRow b (wrt cs o (l.set j x))/\(v1.setRow b (wrt cs o (l.set j x))).heap[b]?=some (.cells (wrt cs o (l.set j x)) t (0,0)) /\
   (∀ (k:Nat) (c2:Array Value) (t2:TypeId) (f2:Nat × Nat),W.heap[k]?=some (.cells c2 t2 f2)->¬ Pt t2->k ≠ b->(v1.setRow b (wrt cs o (l.set j x))).heap[k]?=W.heap[k]?)/\Rd (v1.setRow b (wrt cs o (l.set j x))) g ad cap bs s' code fat/\But b v1 (v1.setRow b (wrt cs o (l.set j x)))/\(code=0->fat=0->s'<=bs.length->RS B g ad cap bs s' (v1.setRow b (wrt cs o (l.set j x)))):=by
 obtain ⟨gc,gf,hg,_⟩:=j0x hR.shp;have hb1:=(hv.block b (kb.1 hb).1).trans hb
 have hne:b ≠ g:=by
  intro e;subst e;rw [hg] at hb1;cases hb1;rcases ht with ht | ht
  ·exact absurd hR.ge (by omega)
  exact ht (.inr (.inr rfl))
 have hb2:=(hbut.block b (kb.1 hb1).1 hne).trans hb1
 have hs:v1.setCell ⟨b,o+j,none⟩ x=v1.setRow b (wrt cs o (l.set j x)):=by
  rw [qp v1 b (o+j) _ t (0,0) x hb2,jc1 hl hj]
 have hbb:But b v1 (v1.setRow b (wrt cs o (l.set j x))):=by rw [<-hs];exact But.set b _ v1 x
 have hoff:bs ≠ []->∀ y,ad=some y->y.block ≠ b:=by
  intro hne2 y hy e;subst hy;rcases hR.own.2 with ⟨h0,h1⟩ | ⟨g2,c2,cur,h1,h2,h3,_⟩
  ·exact hne2 (kP h1)
  cases h1;simp only at e;subst e;rw [hb1] at h3;cases h3;rcases ht with ht | ht
  ·omega
  exact ht (.inl rfl)
 have hrd2:=hrd.but hbb (Ne.symm hne) hoff;refine ⟨hne,hb2,hs,qm _ _ _ _ _ _ hb2,fun k c2 t2 f2 hk hp hkb=>?_,hrd2,hbb,fun e1 e2 hle=>?_⟩;rotate_left
 ·subst e1 e2;refine ⟨hrd2,hle,hR.len,hR.ge,(hbb.shape g (kr hR.rd.lt hbut.size)).trans ((hbut.shape g hR.rd.lt).trans hR.shp),j79 hR.own (fun k c2 hk=>?_),hR.b8⟩
  have hkb:k ≠ b:=fun e=>by
   subst e;rw [hb1] at hk;cases hk;rcases ht with ht | ht
   ·omega
   exact ht (.inl rfl)
  have hkg:k ≠ g:=fun e=>by subst e;rw [hg] at hk;cases hk
  rw [qq _ _ _ _ hkb];exact hbut.block k (kb.1 hk).1 hkg
 rw [qq _ _ _ _ hkb];have hkl:=(kb.1 hk).1;have h1:=(hv.block k hkl).trans hk;have hkg:k ≠ g:=fun e=>by subst e;rw [hg] at h1;cases h1;exact hp (.inr (.inr rfl))
 exact (hbut.block k (kb.1 h1).1 hkg).trans (hv.block k hkl)
theorem j6d {B g:Nat} {ad:Option Addr} {cap:Nat} {bs:List Nat} (s:Nat) (W:World) (b o:Nat) (cs:Array Value) (t:TypeId) (fr:Nat × Nat) (l:List Value) (size most:Int) (j:Nat) (x:Int) (hR:RS B g ad cap bs s W) (hB:B<=W.heap.size) (hok:fr=(0,0)/\B<=b) (ht:b < B\/¬ Pt t) (hl:o+l.length<=cs.size) (hb:W.heap[b]?=some (.cells (wrt cs o l) t fr)) (hx:l[j]?=some (I x)) :
  Calls Tryz.prog 91 #[rdr g,.int .i64 size,.int .i64 most,.pointer (some ⟨b,o+j,none⟩)] W (Po.Ends (RP bs) (RS B g ad cap bs) B b o cs t fr (Sp.run (RP bs) l s (.num size most j)) W):=by
 obtain ⟨rfl,hbB⟩:=hok;have hj:j < l.length:=(km.1 hx).1;have hB0:=(ko W.heap.size W).alloc (ki _) (.cells #[.pointer (some ⟨g,0,none⟩)] 55);have hg0:=qk W (.cells #[.pointer (some ⟨g,0,none⟩)] 55);have hR0:=hR.mem hB0;have hnx:=fun v (hr:Rd v g ad cap bs s 0 0)=>Nm.j2W g ad cap bs ⟨s,0,0⟩ size 0 most v hr hR.len ⟨hR.le,fun _=>rfl⟩;have hgd:=Nm.j2V bs ⟨s,0,0⟩ (lim size 7) 0 most ⟨hR.le,fun _=>rfl⟩
 have hrun:Sp.run (RP bs) l s (.num size most j)=if (Nm.num bs ⟨s,0,0⟩ (lim size 7) 0 most).2.code=0 then .ok (l.set j (I (Nm.num bs ⟨s,0,0⟩ (lim size 7) 0 most).1),(Nm.num bs ⟨s,0,0⟩ (lim size 7) 0 most).2.k) else .error ((Nm.num bs ⟨s,0,0⟩ (lim size 7) 0 most).2.code,(Nm.num bs ⟨s,0,0⟩ (lim size 7) 0 most).2.fat):=by
  simp only [Sp.run,hx,RP];by_cases hc:(Nm.num bs ⟨s,0,0⟩ (lim size 7) 0 most).2.code=0
  ·simp only [hc,if_true]
  simp only [hc,if_false]
 generalize Nm.num bs ⟨s,0,0⟩ (lim size 7) 0 most=nn at hnx hgd hrun;obtain ⟨nv,k',code,fat⟩:=nn;dsimp only at hrun hnx hgd;have HRUN:=hJJ hrun;have HNX:=hJJ hnx;have HGD:=hJJ hgd;have HRR:=hJJ hR0;have HB0:=hJJ hB0;have HBB:=hJJ hb;have HT:=hJJ ht;have HLN:=hJJ hl;generalize Sp.run (RP bs) l s (.num size most j)=res at HRUN |-;clear hrun hnx hgd hR0 hB0 hb ht hl hx;go_enter Tryz.func91,Tryz.ntmps91
 go_upto_region 1 with fail
 generalize kn W _=v at HRR HB0 hg0 |-;generalize hrb:W.heap.size=rb at hg0 |-;have k0:v.cell? ⟨rb,0,none⟩=some (.pointer (some ⟨g,0,none⟩)):=by rw [qi _ _ _ _ _ _ hg0];rfl
 go_wp2_with fail
 refine (HNX.out v HRR.out.rd).mono ?_;rintro e v1 ⟨rfl,hrd,hbut⟩;obtain ⟨h1,h2,h3,h4,h5,h6,h7,h8⟩:=je0 (x:=I nv) HRR.out HB0.out hB HT.out HLN.out HBB.out hj hrd hbut hbB;have hbl:=(kb.1 HBB.out).1
 have hrb1:=(hbut.block rb (kb.1 hg0).1 (fun e=>by
  obtain ⟨gc,gf,hg,_⟩:=j0x HRR.out.shp;rw [e,hg] at hg0;cases hg0)).trans hg0
 have c1:∃ y,v1.cell? ⟨b,o+j,none⟩=some y:=⟨_,by rw [qi _ _ _ _ _ _ h2,j2v HLN.out hj];exact kt hj⟩;obtain ⟨y,c1⟩:=c1;have f1:v1.frozen? ⟨b,o+j,none⟩=false:=qj _ _ _ _ _ h2;have hrb2:=(h7.block rb (kb.1 hrb1).1 (by omega)).trans hrb1;have H3:=hJJ h3;have HBU:=hJJ hbut;clear k0 hg0 hrb1 hrd h2;go_upto_region 2 with fail
 clear c1 f1
 (try rw [h3])
 generalize v1.setRow b (wrt cs o (l.set j (I nv)))=v2 at h4 h5 h6 h7 h8 hrb2 |-;have LR:Hid (jl v2 ⟨rb,0,none⟩ [.pointer (some ⟨g,0,none⟩)]):=hJJ (by have:=Row.j1 hrb2;simpa using this);have HLOW:Hid (Below B W v2):=hJJ (((HB0.out.mono hB).trans (HBU.out.below (ke hB HB0.out.size) HRR.out.ge)).trans (h7.below (ke (ke hB HB0.out.size) HBU.out.size) hbB));have H4:=hJJ h4;have H5:=hJJ h5;have H6:=hJJ h6;have H8:=hJJ h8;clear h3 h4 h5 h6 h7 h8 hrb2;by_cases hc:code=0
 ·subst hc;obtain rfl:fat=0:=HGD.out.2 rfl;have hw:=hJJ (j6c g ad cap bs k' v2 H6.out);go_wp2_with (refine lgZ 55 ⟨rb,0,none⟩ [.pointer (some ⟨g,0,none⟩)] rfl LR.out Tryz.underlying55 JD ?_)
  refine hw.out.mono ?_;rintro e v3 ⟨rfl,hb3⟩;have HB3:=hJJ hb3;clear hb3;go_wp2
  go_end0
  rw [HRUN.out]
  (first | rw [if_pos rfl] | simp only [if_true])
  have hR2:RS B g ad cap bs k' v2:=by first | exact H8.out rfl rfl HGD.out.1 | exact H8.out trivial trivial HGD.out.1 | exact H8.out trivial rfl HGD.out.1
  refine ⟨rfl,hR2.mem HB3.out,⟨HLOW.out.trans (HB3.out.mono (ke hB HLOW.out.size)),fun k c2 t2 f2 hk hp hkb=>?_⟩,(HB3.out.block b (kb.1 H4.out).1).trans H4.out⟩;have h8:=H5.out k c2 t2 f2 hk hp hkb;exact (HB3.out.block k (kb.1 (h8.trans hk)).1).trans h8
 have hw:=hJJ (j2Z g ad cap bs k' code fat v2 H6.out hc);go_wp2_with (refine lgZ 55 ⟨rb,0,none⟩ [.pointer (some ⟨g,0,none⟩)] rfl LR.out Tryz.underlying55 JD ?_)
 refine hw.out.mono ?_;rintro e v3 ⟨rfl,hb3⟩;refine ⟨rfl,?_⟩;rw [HRUN.out,if_neg hc];exact ⟨rfl,HLOW.out.trans (hb3.mono (ke hB HLOW.out.size))⟩
end Rr
namespace Rr
open Zip
open Go Go.RowKit Go.ChangeShapes
open Tab
open Po
open Rd (Rd But)
open Put (lim)
open Go.Proofs.YtonpphjleapafaaGreat.B (Own jY jA)
theorem jf4 {B g:Nat} {ad:Option Addr} {cap:Nat} {bs:List Nat} (s:Nat) (W:World) (b o:Nat) (cs:Array Value) (t:TypeId) (fr:Nat × Nat) (l:List Value) (j:Nat) (x:Bool) (hR:RS B g ad cap bs s W) (hB:B<=W.heap.size) (hok:fr=(0,0)/\B<=b) (ht:b < B\/¬ Pt t) (hl:o+l.length<=cs.size) (hb:W.heap[b]?=some (.cells (wrt cs o l) t fr)) (hx:l[j]?=some (.bool x)) :
  Calls Tryz.prog 151 #[rdr g,.pointer (some ⟨b,o+j,none⟩)] W (Po.Ends (RP bs) (RS B g ad cap bs) B b o cs t fr (Sp.run (RP bs) l s (.flg j)) W):=by
 obtain ⟨rfl,hbB⟩:=hok;have hj:j < l.length:=(km.1 hx).1;have hB0:=(ko W.heap.size W).alloc (ki _) (.cells #[.pointer (some ⟨g,0,none⟩)] 55);have hg0:=qk W (.cells #[.pointer (some ⟨g,0,none⟩)] 55);have hR0:=hR.mem hB0;have hnx:=fun v (hr:Rd v g ad cap bs s 0 0)=>Nm.j4G g ad cap bs ⟨s,0,0⟩ v hr hR.len ⟨hR.le,fun _=>rfl⟩;have hgd:=Nm.j2V bs ⟨s,0,0⟩ 1 0 1 ⟨hR.le,fun _=>rfl⟩
 have hrun:Sp.run (RP bs) l s (.flg j)=if (Nm.num bs ⟨s,0,0⟩ 1 0 1).2.code=0 then .ok (l.set j (.bool (decide ((Nm.num bs ⟨s,0,0⟩ 1 0 1).1=1))),(Nm.num bs ⟨s,0,0⟩ 1 0 1).2.k) else .error ((Nm.num bs ⟨s,0,0⟩ 1 0 1).2.code,(Nm.num bs ⟨s,0,0⟩ 1 0 1).2.fat):=by
  simp only [Sp.run,hx,RP];by_cases hc:(Nm.num bs ⟨s,0,0⟩ 1 0 1).2.code=0
  ·simp only [hc,if_true]
  simp only [hc,if_false]
 generalize Nm.num bs ⟨s,0,0⟩ 1 0 1=nn at hnx hgd hrun;obtain ⟨nv,k',code,fat⟩:=nn;dsimp only at hrun hnx hgd;have HRUN:=hJJ hrun;have HNX:=hJJ hnx;have HGD:=hJJ hgd;have HRR:=hJJ hR0;have HB0:=hJJ hB0;have HBB:=hJJ hb;have HT:=hJJ ht;have HLN:=hJJ hl;generalize Sp.run (RP bs) l s (.flg j)=res at HRUN |-;clear hrun hnx hgd hR0 hB0 hb ht hl hx;go_enter Tryz.func151,Tryz.ntmps151
 go_upto_region 1 with fail
 generalize kn W _=v at HRR HB0 hg0 |-;generalize hrb:W.heap.size=rb at hg0 |-;have k0:v.cell? ⟨rb,0,none⟩=some (.pointer (some ⟨g,0,none⟩)):=by rw [qi _ _ _ _ _ _ hg0];rfl
 go_wp2_with fail
 refine (HNX.out v HRR.out.rd).mono ?_;rintro e v1 ⟨rfl,hrd,hbut⟩;obtain ⟨h1,h2,h3,h4,h5,h6,h7,h8⟩:=je0 (x:=.bool (decide (nv=1))) HRR.out HB0.out hB HT.out HLN.out HBB.out hj hrd hbut hbB;have hbl:=(kb.1 HBB.out).1
 have hrb1:=(hbut.block rb (kb.1 hg0).1 (fun e=>by
  obtain ⟨gc,gf,hg,_⟩:=j0x HRR.out.shp;rw [e,hg] at hg0;cases hg0)).trans hg0
 have c1:∃ y,v1.cell? ⟨b,o+j,none⟩=some y:=⟨_,by rw [qi _ _ _ _ _ _ h2,j2v HLN.out hj];exact kt hj⟩;obtain ⟨y,c1⟩:=c1;have f1:v1.frozen? ⟨b,o+j,none⟩=false:=qj _ _ _ _ _ h2;have hrb2:=(h7.block rb (kb.1 hrb1).1 (by omega)).trans hrb1;have H3:=hJJ h3;have HBU:=hJJ hbut;clear k0 hg0 hrb1 hrd h2;go_upto_region 2 with fail
 clear c1 f1
 (try rw [h3])
 generalize v1.setRow b (wrt cs o (l.set j (.bool (decide (nv=1)))))=v2 at h4 h5 h6 h7 h8 hrb2 |-;have LR:Hid (jl v2 ⟨rb,0,none⟩ [.pointer (some ⟨g,0,none⟩)]):=hJJ (by have:=Row.j1 hrb2;simpa using this);have HLOW:Hid (Below B W v2):=hJJ (((HB0.out.mono hB).trans (HBU.out.below (ke hB HB0.out.size) HRR.out.ge)).trans (h7.below (ke (ke hB HB0.out.size) HBU.out.size) hbB));have H4:=hJJ h4;have H5:=hJJ h5;have H6:=hJJ h6;have H8:=hJJ h8;clear h3 h4 h5 h6 h7 h8 hrb2;by_cases hc:code=0
 ·subst hc;obtain rfl:fat=0:=HGD.out.2 rfl;have hw:=hJJ (j6c g ad cap bs k' v2 H6.out);go_wp2_with (refine lgZ 55 ⟨rb,0,none⟩ [.pointer (some ⟨g,0,none⟩)] rfl LR.out Tryz.underlying55 JD ?_)
  refine hw.out.mono ?_;rintro e v3 ⟨rfl,hb3⟩;have HB3:=hJJ hb3;clear hb3;go_wp2
  go_end0
  rw [HRUN.out]
  (first | rw [if_pos rfl] | simp only [if_true])
  have hR2:RS B g ad cap bs k' v2:=by first | exact H8.out rfl rfl HGD.out.1 | exact H8.out trivial trivial HGD.out.1 | exact H8.out trivial rfl HGD.out.1
  refine ⟨rfl,hR2.mem HB3.out,⟨HLOW.out.trans (HB3.out.mono (ke hB HLOW.out.size)),fun k c2 t2 f2 hk hp hkb=>?_⟩,(HB3.out.block b (kb.1 H4.out).1).trans H4.out⟩;have h8:=H5.out k c2 t2 f2 hk hp hkb;exact (HB3.out.block k (kb.1 (h8.trans hk)).1).trans h8
 have hw:=hJJ (j2Z g ad cap bs k' code fat v2 H6.out hc);go_wp2_with (refine lgZ 55 ⟨rb,0,none⟩ [.pointer (some ⟨g,0,none⟩)] rfl LR.out Tryz.underlying55 JD ?_)
 refine hw.out.mono ?_;rintro e v3 ⟨rfl,hb3⟩;refine ⟨rfl,?_⟩;rw [HRUN.out,if_neg hc];exact ⟨rfl,HLOW.out.trans (hb3.mono (ke hB HLOW.out.size))⟩
end Rr
namespace Ml
open Zip
open Go Go.RowKit Go.ChangeShapes
open Tab Clone
open May (jT)
def mT (d:Det):Tab:={ jB with dets:=[d] }
def mH (g:Nat):Hd:=⟨⟨none,0⟩,⟨some ⟨g,0,none⟩,1⟩,⟨none,0⟩,⟨none,0⟩⟩
theorem je1 (d:Det) (g:Nat):Tryz.prog.built 33 [(3,.slice (some ⟨g,0,none⟩) 1 1)]=some ((mT d).cells (mH g)).toArray:=by kernel_rfl
theorem jfA (d:Det) {w:World} {g:Nat} (hg:w.heap[g]?=some (.cells d.cells.toArray 71 (0,0))):jy w (mH g) (mT d) :=
 ⟨rfl,rfl,rfl,⟨[],rfl,ju.nil w,fun g hg=>by simp at hg⟩,.inr ⟨_,rfl,ki _,by show 1<=maxLen;decide,fun i v hi=>by
  match i,hi with
  | 0,hi =>
   obtain rfl:d=v:=KS hi;rw [qd,Tab.add_zero];have:=Row.j1 hg;simpa using this
  | i+1,hi=>simp [mT] at hi⟩,ju.nil w,ju.nil w⟩
theorem jf5 (d:Det):May.jZ (mT d)=May.Det.may d:=by
 have e1:May.jF 8 May.Ph.may (mT d).phases=true:=show May.jF 8 May.Ph.may jB.phases=true by decide +kernel
 have e2:May.jF 4 May.jQ (mT d).groups=true:=show May.jF 4 May.jQ jB.groups=true by decide +kernel
 have e3:May.jq 255 (mT d).conflict=true:=show May.jq 255 jB.conflict=true by decide +kernel
 have e4:May.jF 16 May.Det.may (mT d).dets=May.Det.may d:=by simp [May.jF,mT]
 have e5:May.jF 4 May.Rl.may (mT d).rails=true:=show May.jF 4 May.Rl.may jB.rails=true by decide +kernel
 have e6:May.jF 4 May.Bs.may (mT d).buses=true:=show May.jF 4 May.Bs.may jB.buses=true by decide +kernel
 have e7:May.jq 9999 [(mT d).extend,(mT d).budget,(mT d).start,(mT d).revert,(mT d).least]=true:=show May.jq 9999 [jB.extend,jB.budget,jB.start,jB.revert,jB.least]=true by decide +kernel
 have e8:May.jq 2 (mT d).flash=true:=show May.jq 2 jB.flash=true by decide +kernel
 have e9:May.jq 2147483647 [(mT d).window,(mT d).share]=true:=show May.jq 2147483647 [jB.window,jB.share]=true by decide +kernel
 unfold May.jZ;rw [e1,e2,e3,e4,e5,e6,e7,e8,e9];simp
theorem j7a (d:Det) (W:World):Calls Tryz.prog 114 #[.agg d.cells.toArray] W fun e W'=>e=.returned (.bool (May.Det.may d))/\Below W.heap.size W W':=by
 obtain ⟨p0,p1,p2,p3,p4,p5,p6⟩:=d;simp only [Det.cells];have hb:=(ko W.heap.size W).alloc (ki _) (.cells #[I p0,F p1,F p2,F p3,F p4,I p5,I p6] 71);have hg:=qk W (.cells #[I p0,F p1,F p2,F p3,F p4,I p5,I p6] 71);have BM:=hJJ (je1 ⟨p0,p1,p2,p3,p4,p5,p6⟩);have MI:Hid (∀ (g:Nat) (V:World),V.heap[g]?=some (.cells #[I p0,F p1,F p2,F p3,F p4,I p5,I p6] 71 (0,0))->Calls Tryz.prog 42 #[.agg ((mT ⟨p0,p1,p2,p3,p4,p5,p6⟩).cells (mH g)).toArray] V fun e W'=>e=.returned (.bool (May.Det.may ⟨p0,p1,p2,p3,p4,p5,p6⟩))/\Below V.heap.size V W'):=hJJ (fun g V hg=>by rw [<-jf5];exact May.j8D (mT ⟨p0,p1,p2,p3,p4,p5,p6⟩) (mH g) V (jfA ⟨p0,p1,p2,p3,p4,p5,p6⟩ hg));have ID:(Tryz.prog.info? 71).map (·.size)=some [I p0,F p1,F p2,F p3,F p4,I p5,I p6].length:=jT;go_enter Tryz.func114,Tryz.ntmps114
 go_upto_region 1 with fail
 generalize kn W _=v at hb hg |-;have HB:=hJJ hb;have LD:Hid (jl v ⟨W.heap.size,0,none⟩ [I p0,F p1,F p2,F p3,F p4,I p5,I p6]):=hJJ (by have:=Row.j1 hg;simpa using this);clear hb hg;go_wp2_with (first | (refine lgZ 71 ⟨W.heap.size,0,none⟩ [I p0,F p1,F p2,F p3,F p4,I p5,I p6] rfl LD.out Tryz.underlying71 ID ?_) | (refine Held.j5i rfl 33 3 (.tmp 4) rfl (.slice (some ⟨v.heap.size,0,none⟩) 1 1) rfl _ (BM.out _) ?_))
 have hc:=hJJ (MI.out v.heap.size (v.alloc (.cells #[I p0,F p1,F p2,F p3,F p4,I p5,I p6] 71)) (qk v _));refine hc.out.mono ?_;rintro e v2 ⟨rfl,hb⟩;have HB2:=hJJ (HB.out.trans ((((ko v.heap.size v).alloc (ki _) _).trans (hb.mono (by simp))).mono HB.out.size));clear hb;go_wp2;go_ret;exact ⟨rfl,HB2.out⟩
theorem je2 (x:Nat):May.Det.may ⟨0,x,4607182418800017408,0,0,0,0⟩=MayF.level x:=by
 have e1:May.jq 7 [0]=true:=by decide
 have e2:MayF.level 4607182418800017408=true:=by decide +kernel
 have e3:MayF.span 0=true:=by decide +kernel
 have e4:May.jq 9999 [0,0]=true:=by decide
 show (May.jq 7 [0] && (MayF.level x && (MayF.level 4607182418800017408 && (MayF.span 0 && (MayF.span 0 && May.jq 9999 [0,0])))))=_;rw [e1,e2,e3,e4];simp
theorem je3 (x:Nat):May.Det.may ⟨0,4607182418800017408,4607182418800017408,x,0,0,0⟩=MayF.span x:=by
 have e1:May.jq 7 [0]=true:=by decide
 have e2:MayF.level 4607182418800017408=true:=by decide +kernel
 have e3:MayF.span 0=true:=by decide +kernel
 have e4:May.jq 9999 [0,0]=true:=by decide
 show (May.jq 7 [0] && (MayF.level 4607182418800017408 && (MayF.level 4607182418800017408 && (MayF.span x && (MayF.span 0 && May.jq 9999 [0,0])))))=_;rw [e1,e2,e3,e4];simp
theorem jcw (x:Nat) (W:World):Calls Tryz.prog 95 #[.float .f64 x] W fun e W'=>e=.returned (.bool (MayF.level x))/\Below W.heap.size W W':=by
 have HC:=hJJ (j7a ⟨0,x,4607182418800017408,0,0,0,0⟩ W);rw [je2] at HC;go_enter Tryz.func95,Tryz.ntmps95
 go_wp2_with fail
 refine HC.out.mono ?_;rintro e v2 ⟨rfl,hb⟩;have HB:=hJJ hb;clear hb;go_wp2;go_ret;exact ⟨rfl,HB.out⟩
theorem jcx (x:Nat) (W:World):Calls Tryz.prog 96 #[.float .f64 x] W fun e W'=>e=.returned (.bool (MayF.span x))/\Below W.heap.size W W':=by
 have HC:=hJJ (j7a ⟨0,4607182418800017408,4607182418800017408,x,0,0,0⟩ W);rw [je3] at HC;go_enter Tryz.func96,Tryz.ntmps96
 go_wp2_with fail
 refine HC.out.mono ?_;rintro e v2 ⟨rfl,hb⟩;have HB:=hJJ hb;clear hb;go_wp2;go_ret;exact ⟨rfl,HB.out⟩
end Ml
namespace Rr
open Zip
open Go Go.RowKit Go.ChangeShapes
open Tab
open Po
open Rd (Rd But)
open Put (lim)
open Go.Proofs.YtonpphjleapafaaGreat.B (Own jY jA)
theorem jR {P:Program} {w:World} {a:Addr} {u:Value} {k:FloatKind} {v:Nat} (h:w.cell? a=some u) (hf:w.frozen? a=false):kN P (store a (.float k v)) w=.ok () (w.setCell a (.float k v)):=by
 rw [run_store P w a _ _ rfl];simp [stored,h,hf]
theorem j8H {F:FuncId} (en':∀ (args:Array Value) (w:World),(callFunc F args).run Tryz.prog w=.ok (.enter F args) w) {B g:Nat} {ad:Option Addr} {cap:Nat} {bs:List Nat} (s:Nat) (W:World) (b o:Nat) (cs:Array Value) (t:TypeId) (fr:Nat × Nat) (l:List Value) (lv:Bool) (j x:Nat) (hR:RS B g ad cap bs s W) (hB:B<=W.heap.size) (hok:fr=(0,0)/\B<=b) (ht:b < B\/¬ Pt t) (hl:o+l.length<=cs.size) (hb:W.heap[b]?=some (.cells (wrt cs o l) t fr)) (hx:l[j]?=some (.float .f64 x)) (HMF:Hid (∀ y V,Calls Tryz.prog F #[.float .f64 y] V fun e V'=>e=.returned (.bool (may lv y))/\Below V.heap.size V V')) :
  Calls Tryz.prog 152 #[rdr g,.pointer (some ⟨b,o+j,none⟩),.func (.func F) #[] #[]] W (Po.Ends (RP bs) (RS B g ad cap bs) B b o cs t fr (Sp.run (RP bs) l s (.flt lv j)) W):=by
 obtain ⟨rfl,hbB⟩:=hok;have hj:j < l.length:=(km.1 hx).1;have hB0:=(ko W.heap.size W).alloc (ki _) (.cells #[.pointer (some ⟨g,0,none⟩)] 55);have hg0:=qk W (.cells #[.pointer (some ⟨g,0,none⟩)] 55);have hR0:=hR.mem hB0;have hnx:=fun v (hr:Rd v g ad cap bs s 0 0)=>Nm.j3l g ad cap bs ⟨s,0,0⟩ v hr hR.len ⟨hR.le,fun _=>rfl⟩;have hgd:=Nm.j73 bs ⟨s,0,0⟩ ⟨hR.le,fun _=>rfl⟩
 have hrun:Sp.run (RP bs) l s (.flt lv j)=if (Nm.flt bs ⟨s,0,0⟩).2.code=0 then (if may lv (Nm.flt bs ⟨s,0,0⟩).1=true then .ok (l.set j (.float .f64 (Nm.flt bs ⟨s,0,0⟩).1),(Nm.flt bs ⟨s,0,0⟩).2.k) else .error (4,s)) else .error ((Nm.flt bs ⟨s,0,0⟩).2.code,(Nm.flt bs ⟨s,0,0⟩).2.fat):=by
  simp only [Sp.run,hx,RP];by_cases hc:(Nm.flt bs ⟨s,0,0⟩).2.code=0
  ·simp only [hc,if_true];by_cases hm:may lv (Nm.flt bs ⟨s,0,0⟩).1=true
   ·simp [hm]
   simp [hm]
  simp only [hc,if_false]
 generalize Nm.flt bs ⟨s,0,0⟩=nn at hnx hgd hrun;obtain ⟨nv,k',code,fat⟩:=nn;dsimp only at hrun hnx hgd;have HRUN:=hJJ hrun;have HNX:=hJJ hnx;have HGD:=hJJ hgd;have HRR:=hJJ hR0;have HB0:=hJJ hB0;have HBB:=hJJ hb;have HT:=hJJ ht;have HLN:=hJJ hl;generalize Sp.run (RP bs) l s (.flt lv j)=res at HRUN |-;clear hrun hnx hgd hR0 hB0 hb ht hl hx;go_enter Tryz.func152,Tryz.ntmps152
 go_upto_region 1 with fail
 generalize kn W _=v at HRR HB0 hg0 |-;generalize hrb:W.heap.size=rb at hg0 |-;have k0:v.cell? ⟨rb,0,none⟩=some (.pointer (some ⟨g,0,none⟩)):=by rw [qi _ _ _ _ _ _ hg0];rfl
 go_wp2_with fail
 refine (Rd.j4B g ad cap bs s 0 0 v HRR.out.rd).mono ?_;rintro e vA ⟨rfl,rfl⟩;go_wp2_with fail
 refine (HNX.out v HRR.out.rd).mono ?_;rintro e v1 ⟨rfl,hrd,hbut⟩;obtain ⟨h1,h2,h3,h4,h5,h6,h7,h8⟩:=je0 (x:=.float .f64 nv) HRR.out HB0.out hB HT.out HLN.out HBB.out hj hrd hbut hbB;have hbl:=(kb.1 HBB.out).1
 have hrb1:=(hbut.block rb (kb.1 hg0).1 (fun e=>by
  obtain ⟨gc,gf,hg,_⟩:=j0x HRR.out.shp;rw [e,hg] at hg0;cases hg0)).trans hg0
 have c1:∃ y,v1.cell? ⟨b,o+j,none⟩=some y:=⟨_,by rw [qi _ _ _ _ _ _ h2,j2v HLN.out hj];exact kt hj⟩;obtain ⟨y,c1⟩:=c1;have f1:v1.frozen? ⟨b,o+j,none⟩=false:=qj _ _ _ _ _ h2;have hrb2:=(h7.block rb (kb.1 hrb1).1 (by omega)).trans hrb1;have H3:=hJJ h3;have HBU:=hJJ hbut;clear k0 hg0 hrb1 hrd h2;have hsf:kN Tryz.prog (store ⟨b,o+j,none⟩ (.float .f64 nv)) v1=.ok () (v1.setCell ⟨b,o+j,none⟩ (.float .f64 nv)):=jR c1 f1;go_upto_region 3 with fail
 clear c1 f1 hsf
 (try rw [h3])
 generalize v1.setRow b (wrt cs o (l.set j (.float .f64 nv)))=v2 at h4 h5 h6 h7 h8 hrb2 |-;have LR:Hid (jl v2 ⟨rb,0,none⟩ [.pointer (some ⟨g,0,none⟩)]):=hJJ (by have:=Row.j1 hrb2;simpa using this);have HLOW:Hid (Below B W v2):=hJJ (((HB0.out.mono hB).trans (HBU.out.below (ke hB HB0.out.size) HRR.out.ge)).trans (h7.below (ke (ke hB HB0.out.size) HBU.out.size) hbB));have H4:=hJJ h4;have H5:=hJJ h5;have H6:=hJJ h6;have H8:=hJJ h8;clear h3 h4 h5 h6 h7 h8 hrb2;by_cases hc:code=0
 ·subst hc;obtain rfl:fat=0:=HGD.out.2 rfl;have hw:=hJJ (j6c g ad cap bs k' v2 H6.out);go_wp2_with (refine lgZ 55 ⟨rb,0,none⟩ [.pointer (some ⟨g,0,none⟩)] rfl LR.out Tryz.underlying55 JD ?_)
  refine hw.out.mono ?_;rintro e v3 ⟨rfl,hb3⟩;have HB3:=hJJ hb3;clear hb3;have hR2:RS B g ad cap bs k' v2:=by first | exact H8.out rfl rfl HGD.out.1 | exact H8.out trivial trivial HGD.out.1 | exact H8.out trivial rfl HGD.out.1
  have h43:=(HB3.out.block b (kb.1 H4.out).1).trans H4.out;have cx:v3.cell? ⟨b,o+j,none⟩=some (.float .f64 nv):=by rw [qi _ _ _ _ _ _ h43,j2v (by rw [kZ];exact HLN.out) (by rw [kZ];exact hj)];simp [hj]
  have HMV:Hid (Mv B b W v3):=hJJ ⟨HLOW.out.trans (HB3.out.mono (ke hB HLOW.out.size)),fun k c2 t2 f2 hk hp hkb=>by
   have h8:=H5.out k c2 t2 f2 hk hp hkb;exact (HB3.out.block k (kb.1 (h8.trans hk)).1).trans h8⟩
  have HR3:=hJJ (hR2.mem HB3.out);have H43:=hJJ h43;have HML:=hJJ (HMF.out nv v3);have HMAY:Hid (∀ m,may lv nv=m->res=if m=true then .ok (l.set j (.float .f64 nv),k') else .error (4,s)):=hJJ (fun m hm=>by rw [HRUN.out,<-hm];first | rw [if_pos rfl] | simp only [if_true]);clear hR2 h43;go_wp2_with fail
  refine HML.out.mono ?_;rintro e v4 ⟨rfl,hb4⟩;cases hm:may lv nv with
  | true =>
   have hr:=HMAY.out true hm;have HB4:=hJJ hb4;clear hb4 hm;go_wp2
   go_end0
   rw [hr]
   (first | rw [if_pos rfl] | simp only [if_true])
   refine ⟨rfl,HR3.out.mem HB4.out,⟨HMV.out.low.trans (HB4.out.mono (ke hB HMV.out.low.size)),fun k c2 t2 f2 hk hp hkb=>?_⟩,(HB4.out.block b (kb.1 H43.out).1).trans H43.out⟩;have h8:=HMV.out.other k c2 t2 f2 hk hp hkb;exact (HB4.out.block k (kb.1 (h8.trans hk)).1).trans h8
  | false =>
   have hr:=HMAY.out false hm;have HB4:=hJJ hb4;clear hb4 hm;go_wp2_with fail
   refine (j1O 4 s v4).mono ?_;rintro e v5 ⟨rfl,rfl⟩;refine ⟨rfl,?_⟩
   (try rw [hr])
   (try rw [if_neg (by simp)])
   exact ⟨rfl,HMV.out.low.trans (HB4.out.mono (ke hB HMV.out.low.size))⟩
 have hw:=hJJ (j2Z g ad cap bs k' code fat v2 H6.out hc);go_wp2_with (refine lgZ 55 ⟨rb,0,none⟩ [.pointer (some ⟨g,0,none⟩)] rfl LR.out Tryz.underlying55 JD ?_)
 refine hw.out.mono ?_;rintro e v3 ⟨rfl,hb3⟩;refine ⟨rfl,?_⟩;rw [HRUN.out,if_neg hc];exact ⟨rfl,HLOW.out.trans (hb3.mono (ke hB HLOW.out.size))⟩
theorem je4 {B g:Nat} {ad:Option Addr} {cap:Nat} {bs:List Nat} (s:Nat) (W:World) (b o:Nat) (cs:Array Value) (t:TypeId) (fr:Nat × Nat) (l:List Value) (lv:Bool) (j x:Nat) (hR:RS B g ad cap bs s W) (hB:B<=W.heap.size) (hok:fr=(0,0)/\B<=b) (ht:b < B\/¬ Pt t) (hl:o+l.length<=cs.size) (hb:W.heap[b]?=some (.cells (wrt cs o l) t fr)) (hx:l[j]?=some (.float .f64 x)) :
  Calls Tryz.prog 152 #[rdr g,.pointer (some ⟨b,o+j,none⟩),.func (.func (if lv=true then 95 else 96)) #[] #[]] W (Po.Ends (RP bs) (RS B g ad cap bs) B b o cs t fr (Sp.run (RP bs) l s (.flt lv j)) W):=by
 cases lv
 ·rw [if_neg (by simp)];exact j8H (fun _ _=>rfl) s W b o cs t fr l false j x hR hB hok ht hl hb hx (hJJ (fun y V=>Ml.jcx y V))
 rw [if_pos rfl];exact j8H (fun _ _=>rfl) s W b o cs t fr l true j x hR hB hok ht hl hb hx (hJJ (fun y V=>Ml.jcw y V))
end Rr
namespace Rr
open Go Go.RowKit
open Tab
open Po
theorem rport {B g:Nat} {ad:Option Addr} {cap:Nat} {bs:List Nat}:Port (RP bs) (RS B g ad cap bs) B (fun b fr=>fr=(0,0)/\B<=b) 55 (rdr g) (rdr g) 91 152 151 where
 mn:=fun n w=>rfl
 mf:=fun n w=>rfl
 mg:=fun n w=>rfl
 nn:=fun n w=>rfl
 nf:=fun n w=>rfl
 ng:=fun n w=>rfl
 en:=fun args w=>rfl
 ef:=fun args w=>rfl
 eg:=fun args w=>rfl
 stay:=fun s W W' h hs hk=>h.stay hs hk
 new:=fun b hb=>⟨rfl,hb⟩
 num:=fun s W b o cs t fr l size most j x hR hB hok ht hl hb hx _=>j6d s W b o cs t fr l size most j x hR hB hok ht hl hb hx
 flt:=fun s W b o cs t fr l lv j x hR hB hok ht hl hb hx _=>je4 s W b o cs t fr l lv j x hR hB hok ht hl hb hx
 flg:=fun s W b o cs t fr l j x hR hB hok ht hl hb hx _=>jf4 s W b o cs t fr l j x hR hB hok ht hl hb hx
end Rr
namespace Po
open Go Go.RowKit
open Tab
structure Roomy (P:PP):Prop where
 num:∀ s size most x,Fit (P.num s size most x)
 flt:∀ s lv x,Fit (P.flt s lv x)
 flg:∀ s x,Fit (P.flg s x)
section
variable {P:PP}
theorem Roomy.run (h:Roomy P) (l:List Value) (s:P.σ) (c:Sp):Fit (c.run P l s):=by
 intro e;cases c <;> simp only [Sp.run] at e <;> split at e <;> (try split at e) <;> (try cases e)
 ·rename_i hx;exact h.num _ _ _ _ hx
 ·rename_i hx;exact h.flt _ _ _ hx
 rename_i hx;exact h.flg _ _ hx
theorem Roomy.runs (h:Roomy P):∀ (cs:List Sp) (l:List Value) (s:P.σ),Fit (runs P cs l s)
 | [],l,s=>by intro e;cases e
 | c :: cs,l,s=>by
  intro e;rw [Po.runs] at e;cases hc:c.run P l s with
  | ok r=>rw [hc] at e;exact h.runs cs _ _ e
  | error f=>rw [hc] at e;cases e;exact h.run l s c hc
theorem Roomy.jf (h:Roomy P) (st:List Sp):∀ (xs:List (List Value)) (s:P.σ),Fit (jf P st xs s)
 | [],s=>by intro e;cases e
 | x :: xs,s=>by
  intro e;rw [Po.jf] at e;cases hc:Po.runs P st x s with
  | error f=>rw [hc] at e;cases e;exact h.runs _ _ _ hc
  | ok r =>
   rw [hc] at e;cases h2:Po.jf P st xs r.2 with
   | error f=>simp only [h2] at e;cases e;exact h.jf st _ _ h2
   | ok r2=>simp only [h2] at e;cases e
theorem Roomy.jr (h:Roomy P) (most:Int) (st:List Sp) (zr:List Value) (s:P.σ):Fit (jr P most st zr s):=by
 intro e;unfold Po.jr at e;split at e
 ·rename_i hx;cases e;exact h.num _ _ _ _ hx
 exact h.jf _ _ _ e
theorem Roomy.JW (h:Roomy P) (s:P.σ):Fit (JW P s):=by
 intro e;unfold Po.JW at e;split at e
 ·rename_i hx;cases e;exact h.jr _ _ _ _ hx
 split at e
 ·rename_i hx;cases e;exact h.jr _ _ _ _ hx
 cases e
theorem Roomy.jX (h:Roomy P):∀ (n:Nat) (s:P.σ),Fit (jX P n s)
 | 0,s=>by intro e;cases e
 | n+1,s=>by
  intro e;rw [Po.jX] at e;split at e
  ·rename_i hx;cases e;exact h.jX n s hx
  split at e
  ·rename_i hx;cases e;exact h.JW _ hx
  cases e
theorem Roomy.Jt (h:Roomy P) (most:Int) (s:P.σ):Fit (Jt P most s):=by
 intro e;unfold Po.Jt at e;split at e
 ·rename_i hx;cases e;exact h.num _ _ _ _ hx
 exact h.jX _ _ e
theorem j0d {α β:Type} {r:Except Flt α} {k:α->Except Flt β} (h:Fit r) (hk:∀ x,Fit (k x)):Fit (andThen r k):=by
 intro e;cases r with
 | error f=>rw [jJ] at e;cases e;exact h rfl
 | ok x=>exact hk x e
theorem Roomy.parts (h:Roomy P) (s:P.σ):Fit (parts P s):=by
 unfold Po.parts;refine j0d (h.jf _ _ _) fun _=>j0d (h.Jt _ _) fun _=>j0d (h.runs _ _ _) fun _=>j0d (h.jr _ _ _ _) fun _=>j0d (h.jr _ _ _ _) fun _=>j0d (h.jr _ _ _ _) fun _=>j0d (h.runs _ _ _) fun _=>j0d (h.runs _ _ _) fun _=>j0d (h.runs _ _ _) fun _=>?_;intro e;cases e
end
theorem j7b (bs:List Nat) (s size:Nat) (low high:Int):(Nm.num bs ⟨s,0,0⟩ size low high).2.code ≠ -1:=by
 unfold Nm.num
 (repeat' split) <;> simp
theorem jaM (bs:List Nat) (s:Nat):(Nm.flt bs ⟨s,0,0⟩).2.code ≠ -1:=by
 unfold Nm.flt
 (repeat' split) <;> simp
theorem je5 (bs:List Nat):Roomy (Rr.RP bs) where
 num:=fun s size most x e=>by
  simp only [Rr.RP] at e;split at e
  ·cases e
  exact j7b bs s _ _ _ (congrArg KZ (Kk e))
 flt:=fun s lv x e=>by
  simp only [Rr.RP] at e;split at e
  ·split at e <;> cases e
  exact jaM bs s (congrArg KZ (Kk e))
 flg:=fun s x e=>by
  simp only [Rr.RP] at e;split at e
  ·cases e
  exact j7b bs s _ _ _ (congrArg KZ (Kk e))
theorem je6 {bs:List Nat} (hb:∀ x ∈ bs,x < 256):∀ most (s:Nat) y (s1:Nat),(Rr.RP bs).num s 1 most 0=.ok (y,s1)->∃ n:Nat,y=n/\n<=1000:=by
 intro most s y s1 h;simp only [Rr.RP] at h;split at h
 ·have h1:=congrArg KZ (KC h);simp only at h1;subst h1;have hv:=Nx.val_lt bs s (Put.lim 1 7) hb;have hl:Put.lim 1 7=1:=by decide
  rw [hl] at hv;unfold Nm.num
  (repeat' split)
  ·exact ⟨0,rfl,by omega⟩
  ·exact ⟨0,rfl,by omega⟩
  ·exact ⟨0,rfl,by omega⟩
  refine ⟨_,rfl,?_⟩;simp only [hl];omega
 cases h
end Po
namespace Po
open Go Go.RowKit Go.ChangeShapes
open Tab
def iv:Value->Int
 | .int _ x=>x
 | _=>0
def bv:Value->Bool
 | .bool x=>x
 | _=>false
def fv:Value->Nat
 | .float _ x=>x
 | _=>0
theorem jU {l:List Value} {k:Nat} {ks:List Nat} (h:l.map kind=k :: ks):∃ v l',l=v :: l'/\kind v=k/\l'.map kind=ks:=by
 cases l with
 | nil=>cases h
 | cons v l' =>
  rw [kF] at h;injection h with h1 h2
  exact ⟨v,l',rfl,h1,h2⟩
theorem j7c {l:List Value} (h:l.map kind=[]):l=[]:=KA.1 h
theorem j4g:∀ {l:List Value} {n:Nat},l.map kind=ka n 0->(l.map iv).map I=l
 | [],_,_=>rfl
 | v :: l,0,h=>by cases h
 | v :: l,n+1,h=>by
  rw [kF,Ka] at h;injection h with h1 h2
  obtain ⟨x,rfl⟩:=J3 h1;rw [kF,kF,j4g h2];rfl
def jf6 (l:List Value):Ph:=⟨bv (l.getD 0 (.bool false)),iv (l.getD 1 (.bool false)),iv (l.getD 2 (.bool false)),iv (l.getD 3 (.bool false)),iv (l.getD 4 (.bool false)),iv (l.getD 5 (.bool false)),iv (l.getD 6 (.bool false)),iv (l.getD 7 (.bool false)),iv (l.getD 8 (.bool false)),iv (l.getD 9 (.bool false)),iv (l.getD 10 (.bool false)),bv (l.getD 11 (.bool false)),bv (l.getD 12 (.bool false))⟩
theorem j4L {l:List Value} (h:l.map kind=zPh.map kind):(jf6 l).cells=l:=by
 rw [show zPh.map kind=[1,0,0,0,0,0,0,0,0,0,0,1,1] from rfl] at h;obtain ⟨v0,l0,rfl,h0,g0⟩:=jU h;obtain ⟨x0,rfl⟩:=j5r h0;obtain ⟨v1,l1,rfl,h1,g1⟩:=jU g0;obtain ⟨x1,rfl⟩:=J3 h1;obtain ⟨v2,l2,rfl,h2,g2⟩:=jU g1;obtain ⟨x2,rfl⟩:=J3 h2;obtain ⟨v3,l3,rfl,h3,g3⟩:=jU g2;obtain ⟨x3,rfl⟩:=J3 h3;obtain ⟨v4,l4,rfl,h4,g4⟩:=jU g3;obtain ⟨x4,rfl⟩:=J3 h4;obtain ⟨v5,l5,rfl,h5,g5⟩:=jU g4;obtain ⟨x5,rfl⟩:=J3 h5;obtain ⟨v6,l6,rfl,h6,g6⟩:=jU g5;obtain ⟨x6,rfl⟩:=J3 h6;obtain ⟨v7,l7,rfl,h7,g7⟩:=jU g6;obtain ⟨x7,rfl⟩:=J3 h7;obtain ⟨v8,l8,rfl,h8,g8⟩:=jU g7;obtain ⟨x8,rfl⟩:=J3 h8;obtain ⟨v9,l9,rfl,h9,g9⟩:=jU g8;obtain ⟨x9,rfl⟩:=J3 h9;obtain ⟨v10,l10,rfl,h10,g10⟩:=jU g9;obtain ⟨x10,rfl⟩:=J3 h10;obtain ⟨v11,l11,rfl,h11,g11⟩:=jU g10;obtain ⟨x11,rfl⟩:=j5r h11;obtain ⟨v12,l12,rfl,h12,g12⟩:=jU g11;obtain ⟨x12,rfl⟩:=j5r h12;obtain rfl:=j7c g12;rfl
def jaN (l:List Value):Det:=⟨iv (l.getD 0 (.bool false)),fv (l.getD 1 (.bool false)),fv (l.getD 2 (.bool false)),fv (l.getD 3 (.bool false)),fv (l.getD 4 (.bool false)),iv (l.getD 5 (.bool false)),iv (l.getD 6 (.bool false))⟩
theorem j1S {l:List Value} (h:l.map kind=zDt.map kind):(jaN l).cells=l:=by
 rw [show zDt.map kind=[0,2,2,2,2,0,0] from rfl] at h;obtain ⟨v0,l0,rfl,h0,g0⟩:=jU h;obtain ⟨x0,rfl⟩:=J3 h0;obtain ⟨v1,l1,rfl,h1,g1⟩:=jU g0;obtain ⟨x1,rfl⟩:=j4s h1;obtain ⟨v2,l2,rfl,h2,g2⟩:=jU g1;obtain ⟨x2,rfl⟩:=j4s h2;obtain ⟨v3,l3,rfl,h3,g3⟩:=jU g2;obtain ⟨x3,rfl⟩:=j4s h3;obtain ⟨v4,l4,rfl,h4,g4⟩:=jU g3;obtain ⟨x4,rfl⟩:=j4s h4;obtain ⟨v5,l5,rfl,h5,g5⟩:=jU g4;obtain ⟨x5,rfl⟩:=J3 h5;obtain ⟨v6,l6,rfl,h6,g6⟩:=jU g5;obtain ⟨x6,rfl⟩:=J3 h6;obtain rfl:=j7c g6;rfl
def je7 (l:List Value):Rl:=⟨iv (l.getD 0 (.bool false)),iv (l.getD 1 (.bool false)),iv (l.getD 2 (.bool false)),iv (l.getD 3 (.bool false)),iv (l.getD 4 (.bool false)),iv (l.getD 5 (.bool false)),iv (l.getD 6 (.bool false)),iv (l.getD 7 (.bool false)),iv (l.getD 8 (.bool false)),iv (l.getD 9 (.bool false)),iv (l.getD 10 (.bool false))⟩
theorem j2A {l:List Value} (h:l.map kind=zRl.map kind):(je7 l).cells=l:=by
 rw [show zRl.map kind=[0,0,0,0,0,0,0,0,0,0,0] from rfl] at h;obtain ⟨v0,l0,rfl,h0,g0⟩:=jU h;obtain ⟨x0,rfl⟩:=J3 h0;obtain ⟨v1,l1,rfl,h1,g1⟩:=jU g0;obtain ⟨x1,rfl⟩:=J3 h1;obtain ⟨v2,l2,rfl,h2,g2⟩:=jU g1;obtain ⟨x2,rfl⟩:=J3 h2;obtain ⟨v3,l3,rfl,h3,g3⟩:=jU g2;obtain ⟨x3,rfl⟩:=J3 h3;obtain ⟨v4,l4,rfl,h4,g4⟩:=jU g3;obtain ⟨x4,rfl⟩:=J3 h4;obtain ⟨v5,l5,rfl,h5,g5⟩:=jU g4;obtain ⟨x5,rfl⟩:=J3 h5;obtain ⟨v6,l6,rfl,h6,g6⟩:=jU g5;obtain ⟨x6,rfl⟩:=J3 h6;obtain ⟨v7,l7,rfl,h7,g7⟩:=jU g6;obtain ⟨x7,rfl⟩:=J3 h7;obtain ⟨v8,l8,rfl,h8,g8⟩:=jU g7;obtain ⟨x8,rfl⟩:=J3 h8;obtain ⟨v9,l9,rfl,h9,g9⟩:=jU g8;obtain ⟨x9,rfl⟩:=J3 h9;obtain ⟨v10,l10,rfl,h10,g10⟩:=jU g9;obtain ⟨x10,rfl⟩:=J3 h10;obtain rfl:=j7c g10;rfl
def jf7 (l:List Value):Bs:=⟨iv (l.getD 0 (.bool false)),iv (l.getD 1 (.bool false))⟩
theorem j4M {l:List Value} (h:l.map kind=zBs.map kind):(jf7 l).cells=l:=by
 rw [show zBs.map kind=[0,0] from rfl] at h;obtain ⟨v0,l0,rfl,h0,g0⟩:=jU h;obtain ⟨x0,rfl⟩:=J3 h0;obtain ⟨v1,l1,rfl,h1,g1⟩:=jU g0;obtain ⟨x1,rfl⟩:=J3 h1;obtain rfl:=j7c g1;rfl
theorem je8 {r:List Value} (h:r.map kind=[0]):[I (iv (r.getD 0 (.bool false)))]=r:=by
 obtain ⟨v,l,rfl,h0,g0⟩:=jU h;obtain ⟨x,rfl⟩:=J3 h0;obtain rfl:=j7c g0;rfl
def ofRow (r:List (List Value)):List Int:=r.map fun c=>iv (c.getD 0 (.bool false))
theorem j07 {r:List (List Value)} (h:∀ c ∈ r,c.map kind=[0]):(ofRow r).map (fun n=>[I n])=r:=by
 unfold ofRow;rw [Kr]
 conv=>rhs;rw [<-KP r]
 exact Kb fun c hc=>je8 (h c hc)
theorem j6e {β:Type} {f:List Value->β} {g:β->List Value} {l:List (List Value)} (h:∀ r ∈ l,g (f r)=r):(l.map f).map g=l:=by
 rw [Kr]
 conv=>rhs;rw [<-KP l]
 exact Kb h
def jt (x:Raw):Tab :=
 ⟨x.ph.map jf6,x.gs.map (fun g=>(ofRow g.1,ofRow g.2)),x.cf.map iv,x.ds.map jaN,x.rs.map je7,x.bs.map jf7,
  iv (x.tm.getD 0 (.bool false)),iv (x.tm.getD 1 (.bool false)),iv (x.tm.getD 2 (.bool false)),iv (x.tm.getD 3 (.bool false)),iv (x.tm.getD 4 (.bool false)),x.fl.map iv,iv (x.tk.getD 0 (.bool false)),iv (x.tk.getD 1 (.bool false))⟩
def j0R (T:Tab):Raw:=⟨T.phases.map Ph.cells,T.groups.map (fun g=>(g.1.map (fun n=>[I n]),g.2.map (fun n=>[I n]))),T.conflict.map I,T.dets.map Det.cells,T.rails.map Rl.cells,T.buses.map Bs.cells,[I T.extend,I T.budget,I T.start,I T.revert,I T.least],T.flash.map I,[I T.window,I T.share]⟩
structure j5E (x:Raw):Prop where
 pn:x.ph.length=8
 ph:∀ r ∈ x.ph,r.map kind=zPh.map kind
 gs:∀ g ∈ x.gs,(∀ r ∈ g.1,r.map kind=[0])/\∀ r ∈ g.2,r.map kind=[0]
 cf:x.cf.map kind=ka 8 0
 ds:∀ r ∈ x.ds,r.map kind=zDt.map kind
 rs:∀ r ∈ x.rs,r.map kind=zRl.map kind
 bs:∀ r ∈ x.bs,r.map kind=zBs.map kind
 tm:x.tm.map kind=ka 5 0
 fl:x.fl.map kind=ka 8 0
 tk:x.tk.map kind=ka 2 0
 gn:x.gs.length<=1000/\∀ g ∈ x.gs,g.1.length<=1000/\g.2.length<=1000
 ln:x.ds.length<=1000/\x.rs.length<=1000/\x.bs.length<=1000
theorem jcg {l:List Value} (h:l.map kind=ka 5 0):l=[I (iv (l.getD 0 (.bool false))),I (iv (l.getD 1 (.bool false))),I (iv (l.getD 2 (.bool false))),I (iv (l.getD 3 (.bool false))),I (iv (l.getD 4 (.bool false)))]:=by
 rw [show ka 5 0=[0,0,0,0,0] from rfl] at h;obtain ⟨v0,l0,rfl,h0,g0⟩:=jU h;obtain ⟨x0,rfl⟩:=J3 h0;obtain ⟨v1,l1,rfl,h1,g1⟩:=jU g0;obtain ⟨x1,rfl⟩:=J3 h1;obtain ⟨v2,l2,rfl,h2,g2⟩:=jU g1;obtain ⟨x2,rfl⟩:=J3 h2;obtain ⟨v3,l3,rfl,h3,g3⟩:=jU g2;obtain ⟨x3,rfl⟩:=J3 h3;obtain ⟨v4,l4,rfl,h4,g4⟩:=jU g3;obtain ⟨x4,rfl⟩:=J3 h4;obtain rfl:=j7c g4;rfl
theorem two {l:List Value} (h:l.map kind=ka 2 0):l=[I (iv (l.getD 0 (.bool false))),I (iv (l.getD 1 (.bool false)))]:=by
 rw [show ka 2 0=[0,0] from rfl] at h;obtain ⟨v0,l0,rfl,h0,g0⟩:=jU h;obtain ⟨x0,rfl⟩:=J3 h0;obtain ⟨v1,l1,rfl,h1,g1⟩:=jU g0;obtain ⟨x1,rfl⟩:=J3 h1;obtain rfl:=j7c g1;rfl
theorem j6f {x:Raw} (h:j5E x):j0R (jt x)=x:=by
 obtain ⟨ph,gs,cf,ds,rs,bs,tm,fl,tk⟩:=x;unfold j0R jt;simp only
 have hg:(gs.map (fun g=>(ofRow g.1,ofRow g.2))).map (fun g=>(g.1.map (fun n=>[I n]),g.2.map (fun n=>[I n])))=gs:=by
  rw [Kr]
  conv=>rhs;rw [<-KP gs]
  refine Kb fun g hg=>?_;have:=h.gs g hg;simp only [Function.comp,id];rw [j07 this.1,j07 this.2]
 rw [j6e (fun r hr=>j4L (h.ph r hr)),hg,j4g h.cf,j6e (fun r hr=>j1S (h.ds r hr)),j6e (fun r hr=>j2A (h.rs r hr)),j6e (fun r hr=>j4M (h.bs r hr)),<-jcg h.tm,j4g h.fl,<-two h.tk]
theorem j4N {β:Type} {g:β->List Value} (l:List β):(l.map g).flatten=l.flatMap g:=(List.flatMap_def ..).symm
section
variable {W:World}
theorem j33 {β:Type} {g:β->List Value} {n n0:Nat} {a:Option Addr} {xs:List (List Value)} {T:TypeId} (l:List β) (hx:l.map g=xs) (hg:∀ v,(g v).length=n) (h:jM n0 W a xs T) (hl:xs.length<=1000):∃ s:Sl,slc a xs=s.val l.length/\ju n g W s l:=by
 have hlen:l.length=xs.length:=by rw [<-hx,kj]
 refine ⟨⟨a,xs.length⟩,by unfold slc;rw [hlen],?_⟩;by_cases he:xs=[]
 ·subst he;obtain rfl:l=[]:=KA.1 hx;cases a with
  | none=>exact .inl ⟨rfl,rfl,rfl⟩
  | some y=>exact .inr ⟨y,rfl,ki _,kQ _,fun i v hv=>by simp at hv⟩
 obtain ⟨b,_,rfl,hb⟩:=h he;subst hx;rw [j4N] at hb;have:=Copy.j2Y hg l hb (by rw [kj] at hl;unfold maxLen;omega);rw [kj];exact this
theorem j8I {x:Raw} (h:j5E x) {n0:Nat} {ga da ra ba:Option Addr} {zs:List Zr} (hz:zs.map (·.2)=x.gs) (hgb:x.gs ≠ []->∃ b,n0<=b/\ga=some ⟨b,0,none⟩/\W.heap[b]?=some (.cells (zs.flatMap zc).toArray 68 (0,0))) (hr:Rows n0 W zs)
  (hd:jM n0 W da x.ds 71) (hl:jM n0 W ra x.rs 75) (hb:jM n0 W ba x.bs 77) :
  ∃ H,bx x.ph.flatten (.slice ga x.gs.length x.gs.length) x.cf (slc da x.ds) (slc ra x.rs) (slc ba x.bs) x.tm x.fl x.tk=(jt x).cells H/\jy W H (jt x):=by
 have hraw:=j6f h;have e1:(jt x).phases.map Ph.cells=x.ph:=congrArg Raw.ph hraw;have e3:(jt x).conflict.map I=x.cf:=congrArg Raw.cf hraw;have e4:(jt x).dets.map Det.cells=x.ds:=congrArg Raw.ds hraw;have e5:(jt x).rails.map Rl.cells=x.rs:=congrArg Raw.rs hraw;have e6:(jt x).buses.map Bs.cells=x.bs:=congrArg Raw.bs hraw;have e7:[I (jt x).extend,I (jt x).budget,I (jt x).start,I (jt x).revert,I (jt x).least]=x.tm:=congrArg Raw.tm hraw;have e8:(jt x).flash.map I=x.fl:=congrArg Raw.fl hraw;have e9:[I (jt x).window,I (jt x).share]=x.tk:=congrArg Raw.tk hraw;have egs:(jt x).groups=x.gs.map (fun g=>(ofRow g.1,ofRow g.2)):=rfl;generalize jt x=T at *;obtain ⟨sd,hsd,rd⟩:=j33 (g:=Det.cells) (n:=7) T.dets e4 (fun _=>rfl) hd h.ln.1;obtain ⟨sr,hsr,rr⟩:=j33 (g:=Rl.cells) (n:=11) T.rails e5 (fun _=>rfl) hl h.ln.2.1;obtain ⟨sb,hsb,rb⟩:=j33 (g:=Bs.cells) (n:=2) T.buses e6 (fun _=>rfl) hb h.ln.2.2;have hgn:T.groups.length=x.gs.length:=by rw [egs,kj]
 have hgrp:∃ gs:List Gr,gs.map Gr.data=T.groups/\j0g W ⟨ga,x.gs.length⟩ gs:=by
  have hall:∀ z ∈ zs,∃ g:Gr,g.cells=zc z/\g.data=(ofRow z.2.1,ofRow z.2.2)/\g.ok W:=by
   intro z hz2;have hm:z.2 ∈ x.gs:=by rw [<-hz];exact kO hz2
   obtain ⟨r0,r1⟩:=hr z hz2;have hk:=h.gs _ hm;have hn:=h.gn.2 _ hm;obtain ⟨s0,q0,w0⟩:=j33 (g:=fun n=>[I n]) (n:=1) (ofRow z.2.1) (j07 hk.1) (fun _=>rfl) r0 hn.1;obtain ⟨s1,q1,w1⟩:=j33 (g:=fun n=>[I n]) (n:=1) (ofRow z.2.2) (j07 hk.2) (fun _=>rfl) r1 hn.2;exact ⟨⟨ofRow z.2.1,ofRow z.2.2,s0,s1⟩,by unfold zc Gr.cells;rw [q0,q1],rfl,w0,w1⟩
  have hex:∀ zs':List Zr,(∀ z ∈ zs',∃ g:Gr,g.cells=zc z/\g.data=(ofRow z.2.1,ofRow z.2.2)/\g.ok W)->∃ gs:List Gr,gs.flatMap Gr.cells=zs'.flatMap zc/\gs.map Gr.data=zs'.map (fun z=>(ofRow z.2.1,ofRow z.2.2))/\gs.length=zs'.length/\∀ g ∈ gs,g.ok W:=by
   intro zs'
   induction zs' with
   | nil=>intro _;exact ⟨[],rfl,rfl,rfl,fun g hg=>by simp at hg⟩
   | cons z zs' ih =>
    intro ha;obtain ⟨g,g1,g2,g3⟩:=ha z (by simp);obtain ⟨gs,i1,i2,i3,i4⟩:=ih (fun z' hz'=>ha z' (by simp [hz']));refine ⟨g :: gs,by rw [ky,ky,g1,i1],by rw [kF,kF,g2,i2],by rw [kJ,kJ,i3],fun g' hg'=>?_⟩;rcases Kj.1 hg' with rfl | hg'
    ·exact g3
    exact i4 g' hg'
  obtain ⟨gs,f1,f2,f3,f4⟩:=hex zs hall;have hzl:zs.length=x.gs.length:=by rw [<-hz,kj]
  refine ⟨gs,?_,?_,f4⟩
  ·rw [f2,egs,<-hz,Kr];rfl
  by_cases he:x.gs=[]
  ·have hgl:gs=[]:=kP (by rw [f3,hzl,he];rfl);subst hgl;rw [he];cases ga with
   | none=>exact .inl ⟨rfl,rfl,rfl⟩
   | some y=>exact .inr ⟨y,rfl,ki _,kQ _,fun i v hv=>by simp at hv⟩
  obtain ⟨b,_,rfl,hb⟩:=hgb he;rw [<-f1] at hb;have:=Copy.j2Y (enc:=Gr.cells) (n:=2) (fun _=>rfl) gs hb (by rw [f3,hzl];have:=h.gn.1;unfold maxLen;omega)
  rwa [f3,hzl] at this
 refine ⟨⟨⟨ga,x.gs.length⟩,sd,sr,sb⟩,?_,⟨?_,?_,?_,hgrp,rd,rr,rb⟩⟩
 ·unfold bx Tab.cells;rw [<-e1,j4N,e3,<-hsd,<-hsr,<-hsb,e8,<-e7,<-e9];show _=_++(kG ga T.groups.length x.gs.length :: _);rw [hgn];rfl
 ·have:=congrArg kR e1;rw [kj] at this;rw [this,h.pn]
 ·have:=congrArg kR e3;rw [kj] at this;have h2:=congrArg kR h.cf;rw [kj,kC] at h2;rw [this,h2]
 have:=congrArg kR e8;rw [kj] at this;have h2:=congrArg kR h.fl;rw [kj,kC] at h2;rw [this,h2]
end
section
variable {P:PP}
theorem j4O {st:List Sp}:∀ {xs:List (List Value)} {s:P.σ} {ys:List (List Value)} {s':P.σ},jf P st xs s=.ok (ys,s')->ys.map (qf kind)=xs.map (qf kind)
 | [],s,ys,s',h=>by cases h;rfl
 | x :: xs,s,ys,s',h=>by
  rw [jf] at h;cases h1:runs P st x s with
  | error f=>rw [h1] at h;cases h
  | ok r =>
   rw [h1] at h;simp only at h;cases h2:jf P st xs r.2 with
   | error f=>rw [h2] at h;cases h
   | ok q =>
    rw [h2] at h;cases h;rw [kF,kF,j4O h2,Jn P st h1]
theorem j3o {st:List Sp} {z:List Value} {n:Nat} {s:P.σ} {ys:List (List Value)} {s':P.σ} (h:jf P st (ka n z) s=.ok (ys,s')):ys.length=n/\∀ r ∈ ys,r.map kind=z.map kind:=by
 have h1:=j4O h;rw [kD] at h1;have h2:=congrArg kR h1;rw [kj,kC] at h2;refine ⟨h2,fun r hr=>?_⟩;have h3:r.map kind ∈ ys.map (qf kind):=kO hr;rw [h1] at h3;exact List.eq_of_mem_replicate h3
theorem j0S (FEW:∀ most s y s1,P.num s 1 most 0=.ok (y,s1)->∃ n:Nat,y=n/\n<=1000) {most:Int} {st:List Sp} {z:List Value} {s:P.σ} {ys:List (List Value)} {s':P.σ} (h:jr P most st z s=.ok (ys,s')):ys.length<=1000/\∀ r ∈ ys,r.map kind=z.map kind:=by
 unfold jr at h;cases h1:P.num s 1 most 0 with
 | error f=>rw [h1] at h;cases h
 | ok r =>
  rw [h1] at h;obtain ⟨y,s1⟩:=r;obtain ⟨n,hn,hn2⟩:=FEW _ _ _ _ h1;have h2:=j3o h;refine ⟨?_,h2.2⟩;rw [h2.1,hn];exact hn2
theorem j4P (FEW:∀ most s y s1,P.num s 1 most 0=.ok (y,s1)->∃ n:Nat,y=n/\n<=1000):∀ {n:Nat} {s:P.σ} {ys:List (List (List Value) × List (List Value))} {s':P.σ},jX P n s=.ok (ys,s')->ys.length=n/\∀ g ∈ ys,((∀ r ∈ g.1,r.map kind=[0])/\∀ r ∈ g.2,r.map kind=[0])/\g.1.length<=1000/\g.2.length<=1000
 | 0,s,ys,s',h=>by cases h;exact ⟨rfl,fun g hg=>by simp at hg⟩
 | n+1,s,ys,s',h=>by
  rw [jX] at h;cases h1:jX P n s with
  | error f=>rw [h1] at h;cases h
  | ok r =>
   rw [h1] at h;simp only at h;cases h2:JW P r.2 with
   | error f=>rw [h2] at h;cases h
   | ok q =>
    rw [h2] at h;cases h;obtain ⟨i1,i2⟩:=j4P FEW h1;refine ⟨by rw [kk,i1];rfl,fun g hg=>?_⟩;rcases Kv.1 hg with hg | hg
    ·exact i2 g hg
    rw [Ke] at hg;subst hg;unfold JW at h2;cases h3:j0a P r.2 with
    | error f=>rw [h3] at h2;cases h2
    | ok a =>
     rw [h3] at h2;simp only at h2;cases h4:j0a P a.2 with
     | error f=>rw [h4] at h2;cases h2
     | ok b =>
      rw [h4] at h2;cases h2;have k3:=j0S FEW h3;have k4:=j0S FEW h4;exact ⟨⟨k3.2,k4.2⟩,k3.1,k4.1⟩
theorem then_ok {α β:Type} {r:Except Flt α} {k:α->Except Flt β} {y:β} (h:andThen r k=.ok y):∃ x,r=.ok x/\k x=.ok y:=by
 cases r with
 | error f=>cases h
 | ok x=>exact ⟨x,rfl,h⟩
theorem j4Q (FEW:∀ most s y s1,P.num s 1 most 0=.ok (y,s1)->∃ n:Nat,y=n/\n<=1000) {s:P.σ} {x:Raw} {s':P.σ} (h:parts P s=.ok (x,s')):j5E x:=by
 unfold parts at h;obtain ⟨x1,h1,h⟩:=then_ok h;obtain ⟨x2,h2,h⟩:=then_ok h;obtain ⟨x3,h3,h⟩:=then_ok h;obtain ⟨x4,h4,h⟩:=then_ok h;obtain ⟨x5,h5,h⟩:=then_ok h;obtain ⟨x6,h6,h⟩:=then_ok h;obtain ⟨x7,h7,h⟩:=then_ok h;obtain ⟨x8,h8,h⟩:=then_ok h;obtain ⟨x9,h9,h⟩:=then_ok h;cases h;have k1:=j3o h1;have k3:=Jn P _ h3;have k7:=Jn P _ h7;have k8:=Jn P _ h8;have k9:=Jn P _ h9;rw [kD] at k3 k7 k8 k9;have k4:=j0S FEW h4;have k5:=j0S FEW h5;have k6:=j0S FEW h6
 have k2:x2.1.length<=1000/\∀ g ∈ x2.1,((∀ r ∈ g.1,r.map kind=[0])/\∀ r ∈ g.2,r.map kind=[0])/\g.1.length<=1000/\g.2.length<=1000:=by
  unfold Jt at h2;cases hn:P.num x1.2 1 4 0 with
  | error f=>rw [hn] at h2;cases h2
  | ok r =>
   rw [hn] at h2;obtain ⟨y,s1⟩:=r;obtain ⟨n,hy,hn2⟩:=FEW _ _ _ _ hn;have:=j4P FEW h2;refine ⟨?_,this.2⟩;rw [this.1,hy];exact hn2
 exact ⟨k1.1,k1.2,fun g hg=>(k2.2 g hg).1,k3,k4.2,k5.2,k6.2,k7,k8,k9,⟨k2.1,fun g hg=>(k2.2 g hg).2⟩,k4.1,k5.1,k6.1⟩
end
end Po
namespace Bk
open Go.ChangeShapes Go.WideShapes Go.ChangeAt Go.RowKit
open B Put Nx
theorem je9 (k:Nat) (n:Int):(be (low k n):Int)=n % 2 ^ (8*k):=by
 induction k with
 | zero=>simp [low,be]
 | succ k ih =>
  have hp:(2:Int) ^ (8*(k+1))=2 ^ (8*k)*256:=by rw [show 8*(k+1)=8*k+8 by omega,Int.pow_add];rfl
  have hpos:(0:Int) < 2 ^ (8*k):=Int.pow_pos (by decide);rw [low,j11,jE,hp,KT,KU,ih,Kc (by omega),j5Y n _ hpos];have h1:=Int.emod_emod_of_dvd n (Int.dvd_mul_right (2 ^ (8*k)) 256);rw [<-h1];have h2:=Int.emod_add_mul_ediv (n % (2 ^ (8*k)*256)) (2 ^ (8*k))
  have h3:((256 ^ k:Nat):Int)=2 ^ (8*k):=by
   rw [KV,Int.pow_mul];rfl
  rw [h3,Int.mul_comm (n % (2 ^ (8*k)*256) / 2 ^ (8*k))];omega
end Bk
namespace By
open Go Go.RowKit
open Tab Po
open Rr (RP may)
open Put (low jE Jk j0Y lim)
open Nx (val be j11)
section
variable {bs:List Nat}
theorem j3p (s:Nat) (size most x:Int) (hm:0<=most):(RP bs).num s size most x=if bs.length < s+lim size 7 then .error (2,(bs.length:Int)) else if most < (val bs s (lim size 7):Int) then .error (4,(s:Int)) else .ok ((val bs s (lim size 7):Int),s+lim size 7):=by
 simp only [RP,Nm.num];by_cases h1:bs.length < s+lim size 7
 ·simp [h1]
 by_cases h2:most < (val bs s (lim size 7):Int)
 ·simp [h1,h2]
 have h3:¬ ((val bs s (lim size 7):Int) < 0\/most < (val bs s (lim size 7):Int)):=by omega
 have h4:¬ (val bs s (lim size 7):Int) < 0:=by omega
 simp [h1,h2,h4]
theorem jea (s:Nat) (lv:Bool) (x:Nat):(RP bs).flt s lv x=if bs.length < s+8 then .error (2,(bs.length:Int)) else if may lv (val bs s 8)=true then .ok (val bs s 8,s+8) else .error (4,(s:Int)):=by
 simp only [RP,Nm.flt];by_cases h1:bs.length < s+8
 ·simp [h1]
 simp [h1]
theorem jeb (s:Nat) (x:Bool):(RP bs).flg s x=if bs.length < s+1 then .error (2,(bs.length:Int)) else if 1 < val bs s 1 then .error (4,(s:Int)) else .ok (decide (val bs s 1=1),s+1):=by
 simp only [RP,Nm.num];by_cases h1:bs.length < s+1
 ·simp [h1]
 by_cases h2:1 < val bs s 1
 ·have h3:(1:Int) < (val bs s 1:Int):=by omega
  simp [h1,h2,h3]
 have h3:¬ (1:Int) < (val bs s 1:Int):=by omega
 have h4:¬ ((val bs s 1:Int) < 0\/(1:Int) < (val bs s 1:Int)):=by omega
 simp only [h1,h2,h4,if_false];simp;omega
end
def jS:Sp->Nat
 | .num _ _ j=>j
 | .flt _ j=>j
 | .flg j=>j
def j5m:Sp->Value->List Nat
 | .num size _ _,.int _ x=>low (lim size 7) x
 | .flt _ _,.float _ x=>low 8 (x:Int)
 | .flg _,.bool b=>[if b=true then 1 else 0]
 | _,_=>[]
def j1D:Sp->Value->Bool
 | .num _ most _,.int .i64 x=>decide (0<=x) && decide (x<=most)
 | .flt lv _,.float .f64 x=>may lv x && decide (x < 18446744073709551616)
 | .flg _,.bool _=>true
 | _,_=>false
def kS:Sp->Nat
 | .num _ _ _=>0
 | .flt _ _=>2
 | .flg _=>1
def jcy:Sp->Bool
 | .num size most _=>decide (0<=most) && decide (most < 2 ^ (8*lim size 7))
 | _=>true
theorem j81:∀ (l:List Nat),(∀ x ∈ l,x < 256)->low l.length (be l:Int)=l
 | [],_=>rfl
 | x :: l,h=>by
  have hx:x < 256:=h x (by simp);have hl:∀ y ∈ l,y < 256:=fun y hy=>h y (by simp [hy]);have hp:(2:Int) ^ (8*l.length)=((256 ^ l.length:Nat):Int):=by rw [KV,Int.pow_mul];rfl
  have hb:be l < 256 ^ l.length:=by
   have:=Bk.je9 l.length (be l:Int);rw [j81 l hl] at this;have hpos:(0:Int) < 2 ^ (8*l.length):=Int.pow_pos (by decide);have h2:=Kf (be l:Int) hpos;rw [<-this,hp] at h2;omega
  rw [kJ,low,j11,hp];have hpos:0 < 256 ^ l.length:=Nat.pow_pos (by decide)
  have e1:((x*256 ^ l.length+be l:Nat):Int) / ((256 ^ l.length:Nat):Int)=x:=by
   rw [<-Int.natCast_ediv,Nat.mul_comm,Nat.mul_add_div hpos,Nat.div_eq_of_lt hb,Nat.add_zero]
  rw [e1];have e2:((x:Int) % 256).toNat=x:=by omega
  rw [e2];congr 1
  have e3:low l.length ((x*256 ^ l.length+be l:Nat):Int)=low l.length (be l:Int):=by
   refine j0Y _ _ _ ?_;rw [hp,KT,KU,Int.add_comm,Int.add_mul_emod_self_right]
  rw [e3,j81 l hl]
theorem j2j {bs:List Nat} (hb:∀ x ∈ bs,x < 256) {s k:Nat} (h:s+k<=bs.length):bs.drop s=low k (val bs s k:Int)++bs.drop (s+k):=by
 have hl:((bs.drop s).take k).length=k:=by rw [K7,List.length_drop];omega
 have h1:=j81 ((bs.drop s).take k) (fun x hx=>hb x (List.mem_of_mem_drop (List.mem_of_mem_take hx)));rw [hl] at h1;unfold val;rw [h1,<-List.drop_drop,kU]
section
variable {bs:List Nat}
theorem jaO (hb:∀ x ∈ bs,x < 256) {c:Sp} {l l':List Value} {s s':Nat} {u:Value} (hu:l[jS c]?=some u) (hk:kind u=kS c) (hf:jcy c=true) (h:Sp.run (RP bs) l s c=.ok (l',s')) :
  ∃ v,l'=l.set (jS c) v/\j1D c v=true/\s'=s+(j5m c v).length/\s'<=bs.length/\bs.drop s=j5m c v++bs.drop s':=by
 cases c with
 | num size most j =>
  obtain ⟨x,rfl⟩:=J3 hk;simp only [jcy,kX,decide_eq_true_eq] at hf;simp only [Sp.run] at h;rw [show l[j]?=some (I x) from hu] at h;dsimp only at h;rw [j3p s size most x (by omega)] at h;by_cases h1:bs.length < s+lim size 7
  ·rw [if_pos h1] at h;cases h
  rw [if_neg h1] at h;by_cases h2:most < (val bs s (lim size 7):Int)
  ·rw [if_pos h2] at h;cases h
  rw [if_neg h2] at h;cases h;refine ⟨I (val bs s (lim size 7)),rfl,by simp [j1D];omega,by simp [j5m,jE],by omega,?_⟩;simp only [j5m];exact j2j hb (by omega)
 | flt lv j =>
  obtain ⟨x,rfl⟩:=j4s hk;simp only [Sp.run] at h;rw [show l[j]?=some (.float .f64 x) from hu] at h;dsimp only at h;rw [jea] at h;by_cases h1:bs.length < s+8
  ·rw [if_pos h1] at h;cases h
  rw [if_neg h1] at h;by_cases h2:may lv (val bs s 8)=true
  ·rw [if_pos h2] at h;cases h;have hlt:=Nx.val_lt bs s 8 hb;refine ⟨.float .f64 (val bs s 8),rfl,?_,by simp [j5m,jE],by omega,?_⟩
   ·simp only [j1D,h2,Bool.true_and,decide_eq_true_eq];have:(256:Nat) ^ 8=18446744073709551616:=by decide
    omega
   simp only [j5m];exact j2j hb (by omega)
  rw [if_neg h2] at h;cases h
 | flg j =>
  obtain ⟨x,rfl⟩:=j5r hk;simp only [Sp.run] at h;rw [show l[j]?=some (.bool x) from hu] at h;dsimp only at h;rw [jeb] at h;by_cases h1:bs.length < s+1
  ·rw [if_pos h1] at h;cases h
  rw [if_neg h1] at h;by_cases h2:1 < val bs s 1
  ·rw [if_pos h2] at h;cases h
  rw [if_neg h2] at h;cases h;refine ⟨.bool (decide (val bs s 1=1)),rfl,rfl,by simp [j5m],by omega,?_⟩;have h3:=j2j hb (s:=s) (k:=1) (by omega);rw [h3];congr 1;generalize val bs s 1=y at h2;rcases (show y=0\/y=1 by omega) with rfl | rfl <;> simp [j5m,low]
end
end By
namespace By
open Go Go.RowKit
open Tab Po
open Rr (RP may)
open Put (low jE Jk j0Y lim)
open Nx (val be j11)
abbrev d0:Value:=.bool false
def j0b (st:List Sp) (L:List Value):List Nat:=st.flatMap fun c=>j5m c (L.getD (jS c) d0)
def j6E (L:List Value):List Sp->List Value->List Value
 | [],l=>l
 | c :: st,l=>j6E L st (l.set (jS c) (L.getD (jS c) d0))
def Jj (st:List Sp) (L:List Value):Bool:=st.all fun c=>match L[jS c]? with
 | some v=>j1D c v
 | none=>false
def fits (st:List Sp):Bool:=st.all jcy
theorem j9r {c:Sp} {st:List Sp} (h:fits (c :: st)=true):jcy c=true/\fits st=true:=by
 unfold fits at h |-
 rwa [qa,kX] at h
section
variable {P:PP}
theorem j6g {l L:List Value} {s s':P.σ} (h:runs P [] l s=.ok (L,s')):L=l/\s'=s:=by cases h;exact ⟨rfl,rfl⟩
theorem j5n {c:Sp} {st:List Sp} {l:List Value} {s:P.σ} {r:List Value × P.σ} (h:runs P (c :: st) l s=.ok r):∃ l1 s1,Sp.run P l s c=.ok (l1,s1)/\runs P st l1 s1=.ok r:=by
 rw [runs] at h;cases h1:Sp.run P l s c with
 | error f=>rw [h1] at h;cases h
 | ok q=>rw [h1] at h;exact ⟨q.1,q.2,rfl,h⟩
theorem j4R {st:List Sp} {x:List Value} {xs ys:List (List Value)} {s s2:P.σ} (h:jf P st (x :: xs) s=.ok (ys,s2)):∃ x' s1 ys1,runs P st x s=.ok (x',s1)/\jf P st xs s1=.ok (ys1,s2)/\ys=x' :: ys1:=by
 rw [jf] at h;cases h1:runs P st x s with
 | error f=>rw [h1] at h;cases h
 | ok q =>
  rw [h1] at h;simp only at h;cases h2:jf P st xs q.2 with
  | error f=>rw [h2] at h;cases h
  | ok r=>rw [h2] at h;cases h;exact ⟨q.1,q.2,r.1,rfl,h2,rfl⟩
theorem j4S {most:Int} {st:List Sp} {z:List Value} {s s1:P.σ} {n:Nat} {r:List (List Value) × P.σ} (h1:P.num s 1 most 0=.ok ((n:Int),s1)) (h2:jf P st (ka n z) s1=.ok r):jr P most st z s=.ok r:=by
 unfold jr;rw [h1];exact h2
theorem j9s {most:Int} {st:List Sp} {z:List Value} {s:P.σ} {r:List (List Value) × P.σ} (h:jr P most st z s=.ok r):∃ y s1,P.num s 1 most 0=.ok (y,s1)/\jf P st (ka y.toNat z) s1=.ok r:=by
 unfold jr at h;cases h1:P.num s 1 most 0 with
 | error f=>rw [h1] at h;cases h
 | ok q=>rw [h1] at h;exact ⟨q.1,q.2,rfl,h⟩
theorem jcz {s s1 s2:P.σ} {r0 r1:List (List Value)} (h1:j0a P s=.ok (r0,s1)) (h2:j0a P s1=.ok (r1,s2)):JW P s=.ok ((r0,r1),s2):=by
 unfold JW;rw [h1];simp only [h2]
theorem jaP {s s2:P.σ} {g:List (List Value) × List (List Value)} (h:JW P s=.ok (g,s2)):∃ s1,j0a P s=.ok (g.1,s1)/\j0a P s1=.ok (g.2,s2):=by
 unfold JW at h;cases h1:j0a P s with
 | error f=>rw [h1] at h;cases h
 | ok a =>
  rw [h1] at h;simp only at h;cases h2:j0a P a.2 with
  | error f=>rw [h2] at h;cases h
  | ok b=>rw [h2] at h;cases h;exact ⟨a.2,rfl,h2⟩
theorem j6h {n:Nat} {s s1 s2:P.σ} {gs:List (List (List Value) × List (List Value))} {g:List (List Value) × List (List Value)} (h1:jX P n s=.ok (gs,s1)) (h2:JW P s1=.ok (g,s2)):jX P (n+1) s=.ok (gs++[g],s2):=by
 rw [jX,h1];simp only [h2]
theorem j5o {n:Nat} {s s2:P.σ} {gs:List (List (List Value) × List (List Value))} (h:jX P (n+1) s=.ok (gs,s2)):∃ g1 s1 g,jX P n s=.ok (g1,s1)/\JW P s1=.ok (g,s2)/\gs=g1++[g]:=by
 rw [jX] at h;cases h1:jX P n s with
 | error f=>rw [h1] at h;cases h
 | ok a =>
  rw [h1] at h;simp only at h;cases h2:JW P a.2 with
  | error f=>rw [h2] at h;cases h
  | ok b=>rw [h2] at h;cases h;exact ⟨a.1,a.2,b.1,rfl,h2,rfl⟩
theorem jaQ {most:Int} {s s1:P.σ} {n:Nat} {r:List (List (List Value) × List (List Value)) × P.σ} (h1:P.num s 1 most 0=.ok ((n:Int),s1)) (h2:jX P n s1=.ok r):Jt P most s=.ok r:=by
 unfold Jt;rw [h1];exact h2
theorem j9t {most:Int} {s:P.σ} {r:List (List (List Value) × List (List Value)) × P.σ} (h:Jt P most s=.ok r):∃ y s1,P.num s 1 most 0=.ok (y,s1)/\jX P y.toNat s1=.ok r:=by
 unfold Jt at h;cases h1:P.num s 1 most 0 with
 | error f=>rw [h1] at h;cases h
 | ok q=>rw [h1] at h;exact ⟨q.1,q.2,rfl,h⟩
end
section
variable {bs:List Nat}
theorem j1h (hb:∀ x ∈ bs,x < 256):∀ (st:List Sp) {l L:List Value} {s s':Nat},(∀ c ∈ st,∃ u,l[jS c]?=some u/\kind u=kS c)->(st.map jS).Nodup->fits st=true->s<=bs.length->runs (RP bs) st l s=.ok (L,s') ->
  Jj st L=true/\s'=s+(j0b st L).length/\s'<=bs.length/\bs.drop s=j0b st L++bs.drop s'/\∀ i,i ∉ st.map jS->L[i]?=l[i]?
 | [],l,L,s,s',hk,hn,hf,hs,h=>by
  obtain ⟨rfl,h2⟩:=j6g h;have h2:s'=s:=h2;subst h2;exact ⟨rfl,rfl,hs,rfl,fun _ _=>rfl⟩
 | c :: st,l,L,s,s',hk,hn,hf,hs,h=>by
  obtain ⟨hf1,hf2⟩:=j9r hf;rw [kF,List.nodup_cons] at hn;obtain ⟨u,hu,hku⟩:=hk c (by simp);obtain ⟨l1,s1,h1,h2⟩:=j5n h;obtain ⟨v,rfl,hgv,hs0,hs1,hd1⟩:=jaO hb hu hku hf1 h1
  have hk2:∀ c' ∈ st,∃ u,(l.set (jS c) v)[jS c']?=some u/\kind u=kS c':=fun c' hc'=>by
   obtain ⟨u',h2,h3⟩:=hk c' (by simp [hc']);refine ⟨u',?_,h3⟩;rw [Kg,if_neg (fun e=>hn.1 (by rw [e];exact kO hc'))];exact h2
  obtain ⟨i1,i2,i3,i4,i5⟩:=j1h hb st hk2 hn.2 hf2 hs1 h2
  have hLv:L[jS c]?=some v:=by
   rw [i5 _ hn.1,Kg,if_pos rfl,if_pos (km.1 hu).1]
  have hvd:L.getD (jS c) d0=v:=by rw [kw,hLv];rfl
  have he:j0b (c :: st) L=j5m c v++j0b st L:=by unfold j0b;rw [ky,hvd]
  refine ⟨?_,?_,i3,?_,fun i hi=>?_⟩
  ·unfold Jj at i1 |-;rw [qa,i1,hLv,Bool.and_true];exact hgv
  ·rw [he,kk,i2,hs0];omega
  ·rw [he,kq,<-i4];exact hd1
  rw [kF,Kj,not_or] at hi;rw [i5 i hi.2,Kg,if_neg (fun e=>hi.1 e.symm)]
structure St (st:List Sp) (z:List Value):Prop where
 fit:fits st=true
 nd:(st.map jS).Nodup
 kd:∀ c ∈ st,∃ u,z[jS c]?=some u/\kind u=kS c
 all:∀ L,L.map kind=z.map kind->j6E L st z=L
theorem j3q (hb:∀ x ∈ bs,x < 256) {st:List Sp} {z:List Value} (H:St st z):∀ (n:Nat) {ys:List (List Value)} {s s':Nat},s<=bs.length->jf (RP bs) st (ka n z) s=.ok (ys,s') ->
  (∀ y ∈ ys,Jj st y=true)/\s'=s+(ys.flatMap (j0b st)).length/\s'<=bs.length/\bs.drop s=ys.flatMap (j0b st)++bs.drop s'
 | 0,ys,s,s',hs,h=>by
  have h2:(qg ([],s):Except Flt (List (List Value) × Nat))=.ok (ys,s'):=h;cases h2;exact ⟨fun y hy=>by simp at hy,rfl,hs,rfl⟩
 | n+1,ys,s,s',hs,h=>by
  obtain ⟨L,s1,ys1,h1,h2,rfl⟩:=j4R (x:=z) (xs:=ka n z) h;obtain ⟨a1,a2,a3,a4,_⟩:=j1h hb st H.kd H.nd H.fit hs h1;obtain ⟨b1,b2,b3,b4⟩:=j3q hb H n a3 h2;refine ⟨fun y hy=>?_,?_,b3,?_⟩
  ·rcases Kj.1 hy with rfl | hy
   ·exact a1
   exact b1 y hy
  ·rw [ky,kk,b2,a2];omega
  rw [ky,kq,<-b4];exact a4
def j2s (f:List Value->List Nat) (xs:List (List Value)):List Nat:=low 1 (xs.length:Int)++xs.flatMap f
theorem jfB:lim 1 7=1:=by decide
theorem j8J (hb:∀ x ∈ bs,x < 256) {s s1:Nat} {most y:Int} (hm:0<=most) (h:(RP bs).num s 1 most 0=.ok (y,s1)):∃ n:Nat,y=n/\(n:Int)<=most/\s1=s+1/\s1<=bs.length/\bs.drop s=low 1 (n:Int)++bs.drop s1:=by
 rw [j3p s 1 most 0 hm,jfB] at h;by_cases h1:bs.length < s+1
 ·rw [if_pos h1] at h;cases h
 rw [if_neg h1] at h;by_cases h2:most < (val bs s 1:Int)
 ·rw [if_pos h2] at h;cases h
 rw [if_neg h2] at h;cases h;exact ⟨_,rfl,by omega,rfl,by omega,j2j hb (by omega)⟩
theorem j34 (hb:∀ x ∈ bs,x < 256) {st:List Sp} {z:List Value} (H:St st z) {ys:List (List Value)} {most:Int} (hm:0<=most) {s s':Nat} (hs:s<=bs.length) (h:jr (RP bs) most st z s=.ok (ys,s')) :
  (ys.length:Int)<=most/\(∀ y ∈ ys,Jj st y=true)/\s'=s+(j2s (j0b st) ys).length/\s'<=bs.length/\bs.drop s=j2s (j0b st) ys++bs.drop s':=by
 obtain ⟨y,s1,h1,h2⟩:=j9s h;obtain ⟨n,rfl,hn,hs0,hs1,hd⟩:=j8J hb hm h1;rw [K0] at h2;have hl:=(j3o h2).1;obtain ⟨b1,b2,b3,b4⟩:=j3q hb H n hs1 h2;refine ⟨by rw [hl];exact hn,b1,?_,b3,?_⟩
 ·unfold j2s;rw [kk,jE,b2,hs0];omega
 unfold j2s;rw [kq,<-b4,hl];exact hd
abbrev stI:List Sp:=[.num 1 7 0]
theorem jec:St stI [I 0] where
 fit:=by decide
 nd:=by decide
 kd:=fun c hc=>by simp at hc;subst hc;exact ⟨I 0,rfl,rfl⟩
 all:=fun L h=>by
  obtain ⟨v,l,rfl,h0,g0⟩:=jU (k:=0) (ks:=[]) h;obtain rfl:=j7c g0;rfl
abbrev j9u (r:List (List Value)):List Nat:=j2s (j0b stI) r
def j7d (g:List (List Value) × List (List Value)):List Nat:=j9u g.1++j9u g.2
def j7e (r:List (List Value)):Bool:=decide ((r.length:Int)<=8) && r.all (Jj stI)
theorem j8K (hb:∀ x ∈ bs,x < 256) {r:List (List Value)} {s s':Nat} (hs:s<=bs.length) (h:j0a (RP bs) s=.ok (r,s')):j7e r=true/\s'=s+(j9u r).length/\s'<=bs.length/\bs.drop s=j9u r++bs.drop s':=by
 obtain ⟨a1,a2,a3,a4,a5⟩:=j34 hb jec (by decide) hs h;refine ⟨?_,a3,a4,a5⟩;unfold j7e;rw [kX,decide_eq_true_eq,Kl];exact ⟨a1,a2⟩
theorem jcA (hb:∀ x ∈ bs,x < 256) {g:List (List Value) × List (List Value)} {s s':Nat} (hs:s<=bs.length) (h:JW (RP bs) s=.ok (g,s')):(j7e g.1=true/\j7e g.2=true)/\s'=s+(j7d g).length/\s'<=bs.length/\bs.drop s=j7d g++bs.drop s':=by
 obtain ⟨s1,h1,h2⟩:=jaP h;obtain ⟨a1,a2,a3,a4⟩:=j8K hb hs h1;obtain ⟨b1,b2,b3,b4⟩:=j8K hb a3 h2;refine ⟨⟨a1,b1⟩,?_,b3,?_⟩
 ·unfold j7d;rw [kk,b2,a2];omega
 unfold j7d;rw [kq,<-b4];exact a4
def gG (g:List (List Value) × List (List Value)):Bool:=j7e g.1 && j7e g.2
theorem j7f (hb:∀ x ∈ bs,x < 256):∀ (n:Nat) {gs:List (List (List Value) × List (List Value))} {s s':Nat},s<=bs.length->jX (RP bs) n s=.ok (gs,s')->gs.length=n/\(∀ g ∈ gs,gG g=true)/\s'=s+(gs.flatMap j7d).length/\s'<=bs.length/\bs.drop s=gs.flatMap j7d++bs.drop s'
 | 0,gs,s,s',hs,h=>by
  have h2:(qg ([],s):Except Flt (List (List (List Value) × List (List Value)) × Nat))=.ok (gs,s'):=h;cases h2;exact ⟨rfl,fun g hg=>by simp at hg,rfl,hs,rfl⟩
 | n+1,gs,s,s',hs,h=>by
  obtain ⟨g1,s1,g,h1,h2,rfl⟩:=j5o h;obtain ⟨a1,a2,a3,a4,a5⟩:=j7f hb n hs h1;obtain ⟨b1,b2,b3,b4⟩:=jcA hb a4 h2;refine ⟨by rw [kk,a1];rfl,fun g' hg'=>?_,?_,b3,?_⟩
  ·rcases Kv.1 hg' with hg' | hg'
   ·exact a2 g' hg'
   rw [Ke] at hg';subst hg';unfold gG;rw [b1.1,b1.2];rfl
  ·rw [Kd,kk,b2,a3];simp only [ky,Km,kT];omega
  rw [Kd,kq];simp only [ky,Km,kT];rw [<-b4];exact a5
def j4T (gs:List (List (List Value) × List (List Value))):List Nat:=low 1 (gs.length:Int)++gs.flatMap j7d
theorem j9v (hb:∀ x ∈ bs,x < 256) {gs:List (List (List Value) × List (List Value))} {s s':Nat} (hs:s<=bs.length) (h:Jt (RP bs) 4 s=.ok (gs,s')):(gs.length:Int)<=4/\(∀ g ∈ gs,gG g=true)/\s'=s+(j4T gs).length/\s'<=bs.length/\bs.drop s=j4T gs++bs.drop s':=by
 obtain ⟨y,s1,h1,h2⟩:=j9t h;obtain ⟨n,rfl,hn,hs0,hs1,hd⟩:=j8J hb (by decide) h1;rw [K0] at h2;obtain ⟨b0,b1,b2,b3,b4⟩:=j7f hb n hs1 h2;refine ⟨by rw [b0];exact hn,b1,?_,b3,?_⟩
 ·unfold j4T;rw [kk,jE,b2,hs0];omega
 unfold j4T;rw [kq,<-b4,b0];exact hd
end
end By
namespace CrcB
open Zip
open Go.ChangeShapes Go.WideShapes Go.ChangeAt Go.RowKit
open CrcM Crc
def j0u (l:List Nat):List Value:=l.map fun n:Nat=>.int .u8 (n:Int)
theorem j0N (l:List Nat):(j0u l).length=l.length:=kj ..
theorem j28 (l:List Nat) (i:Nat) (h:i < l.length):(j0u l)[i]?=some (.int .u8 (l.getD i 0:Nat)):=by
 unfold j0u;rw [KI,kw,kt h];rfl
def Own (B:Nat) (w:World) (v:Value) (l:List Nat):Prop:=w.ownsRow B 5 1 v l.length (j0u l)
theorem jA {B:Nat} {w w':World} {v:Value} {l:List Nat} (h:Own B w v l) (hb:Below w.heap.size w w'):Own B w' v l :=
 h.kept (row:=none) ⟨hb.os,hb.tape,hb.output,hb.size,fun j hj _=>hb.block j hj⟩ (by cases hv:v.ownBlock <;> simp)
section
variable {ops:Array Oper} {rest:List Oper} {o:Oper} {a:Act} {w:World} {Q:Exit->Act->World->Prop}
end
theorem j82 {B:Nat} {w:World} {v:Value} {l:List Nat} (h:Own B w v l) (hl:0 < l.length) :
  ∃ g cap,v=.slice (some ⟨g,0,none⟩) l.length cap/\B<=g/\(∀ i,w.frozen? ⟨g,i,none⟩=false)/\∀ i,i < l.length->w.cell? ⟨g,i,none⟩=some (.int .u8 (l.getD i 0:Nat)):=by
 rcases h.2 with ⟨rfl,h0⟩ | ⟨g,cap,cur,rfl,h1,h2,h3,h4,h5,h6⟩
 ·omega
 refine ⟨g,cap,rfl,h1,fun i=>by simp [World.frozen?,h2],fun i hi=>?_⟩;have h7:=j28 l i hi;rw [<-h6,KQ,List.getElem?_take_of_lt hi] at h7;rw [qi w g i cur _ (0,0) h2,<-Ky];exact h7
theorem jcB {B:Nat} {w:World} {g cap:Nat} {l:List Nat} (h:Own B w (.slice (some ⟨g,0,none⟩) l.length cap) l) (i y:Nat) (hi:i < l.length) :
  Own B (w.setCell ⟨g,i,none⟩ (.int .u8 (y:Int))) (.slice (some ⟨g,0,none⟩) l.length cap) (l.set i y):=by
 rcases h.2 with ⟨h0,_⟩ | ⟨g',cap',cur,e,h1,h2,h3,h4,h5,h6⟩
 ·cases h0
 cases e;rw [qp w g i cur _ (0,0) _ h2];refine ⟨by rw [j0N,KQ],.inr ⟨g,cap,_,by rw [kZ],h1,qm w g cur _ _ _ h2,by rw [kZ];exact h3,h4,by rw [Array.size_setIfInBounds];exact h5,?_⟩⟩;rw [Array.toList_setIfInBounds,kZ,List.take_set,h6];exact (List.map_set ..).symm
theorem j7g {B:Nat} {w:World} {g n cap:Nat} {l:List Nat} (h:Own B w (.slice (some ⟨g,0,none⟩) n cap) l) (hn:l.length=n) (i y:Nat) (hi:i < n) :
  Own B (w.setCell ⟨g,i,none⟩ (.int .u8 (y:Int))) (.slice (some ⟨g,0,none⟩) n cap) (l.set i y):=by
 subst hn;exact jcB h _ _ hi
theorem jed (a:Option Addr) (n cap:Nat) (l:List Nat) (w:World) (hn:l.length=n) (h:Row w a l) :
  Calls Tryz.prog 44 #[.slice a n cap] w fun e w'=>e=.returned (.int .u16 (crc 65535 l:Nat))/\Below w.heap.size w w':=by
 subst hn;exact CrcA.j64 a cap l w h
theorem made (n:Nat):(madeCells (Kn .u8 0).cells (n*1)).toList=j0u (ka n 0):=by
 rw [KQ,show (Kn .u8 0).cells=#[.int .u8 0] from rfl,toList_madeCells_one,j0u,kD];rfl
end CrcB
namespace Rr
open Zip
open Go Go.RowKit Go.ChangeShapes
open Tab
open Po
open Rd (Rd But)
open Put (lim)
open CrcM (crc)
def j1Q (bs:List Nat) (B g:Nat) (ad:Option Addr) (cap:Nat) (r:Except Flt (Int × Nat)) (W:World) (e:Ending) (W':World):Prop:=match r with
 | .ok (y,s')=>e=.returned (I y)/\RS B g ad cap bs s' W'/\∀ b,Mv B b W W'
 | .error f=>e=.panicked [{ v:=fault f,recovered:=false }]/\Below B W W'
def jaR (bs:List Nat) (B g:Nat) (ad:Option Addr) (cap:Nat) (r:Except Flt Nat) (W:World) (e:Ending) (W':World):Prop:=match r with
 | .ok s'=>e=.returned (.tuple #[])/\RS B g ad cap bs s' W'/\∀ b,Mv B b W W'
 | .error f=>e=.panicked [{ v:=fault f,recovered:=false }]/\Below B W W'
theorem Mv.start {B:Nat} {W V U:World} (h:Below W.heap.size W V) (hB:B<=W.heap.size) {nb:Nat} (hn:W.heap.size<=nb) (k:Mv B nb V U) (b:Nat):Mv B b W U :=
 ⟨(h.mono hB).trans k.low,fun j cs t fr hj ht _=>by
  have hl:=(kb.1 hj).1;have h1:=h.block j hl;exact (k.other j cs t fr (h1.trans hj) ht (by omega)).trans h1⟩
section
variable {B g:Nat} {ad:Option Addr} {cap:Nat} {bs:List Nat}
theorem jfC (s:Nat) (w:World) (h:RS B g ad cap bs s w) (hB:B<=w.heap.size) :
  Calls Tryz.prog 46 #[rdr g,.int .i64 3] w (j1Q bs B g ad cap ((RP bs).num s 3 16777215 0) w):=by
 have hb:=(ko w.heap.size w).alloc (ki _) (.cells #[.pointer (some ⟨g,0,none⟩)] 55);have hb2:=hb.alloc hb.size (.cells #[I 0] 3);have hg1:=qk w (.cells #[.pointer (some ⟨g,0,none⟩)] 55);have hg2:=qk (w.alloc (.cells #[.pointer (some ⟨g,0,none⟩)] 55)) (.cells #[I 0] 3);have hs1:(w.alloc (.cells #[.pointer (some ⟨g,0,none⟩)] 55)).heap.size=w.heap.size+1:=by simp
 rw [hs1] at hg2
 have hg3:((w.alloc (.cells #[.pointer (some ⟨g,0,none⟩)] 55)).alloc (.cells #[I 0] 3)).heap[w.heap.size]?=some (.cells #[.pointer (some ⟨g,0,none⟩)] 55 (0,0)):=by
  rw [kY _ _ _ (by rw [hs1];omega)];exact hg1
 have HR:=hJJ (h.mem hb2);have HW:=hJJ hb2;obtain ⟨res,hres⟩:∃ r,(RP bs).num s 3 16777215 0=r:=⟨_,rfl⟩;have HRES:=hJJ hres;rw [hres];clear h hb hg1 hs1 hb2 hres;go_enter Tryz.func46,Tryz.ntmps46
 go_upto_region 2 with fail
 generalize kn (kn w _) _=v at HR HW hg2 hg3 |-;generalize hnb:w.heap.size+1=nb at hg2 |-;generalize hrb:w.heap.size=rb at hg3 HW |-;have LR:Hid (∀ W,Below v.heap.size v W->jl W ⟨rb,0,none⟩ [.pointer (some ⟨g,0,none⟩)]):=hJJ (fun W hb=>by have:=Row.j1 ((hb.block rb (kb.1 hg3).1).trans hg3);simpa using this);have HG2:=hJJ hg2;clear hg2 hg3;refine QT.region v.heap.size 6 (by kernel_rfl) (by kernel_rfl) ?_;simp only [kB,kK]
 repeat first
  | (refine QL.j1q rfl 55 _ rfl ⟨rb,0,none⟩ rfl [.pointer (some ⟨g,0,none⟩)] _ (fun w' ⟨p,e⟩=>by rw [e];exact LR.out _ p.below) Tryz.underlying55 rfl JD ?_
     dsimp only [kM];simp only [kc,kf,kg])
  | (quiet_step (fail))
  | (refine j1P rfl (I 16777216) (fun w=>rfl) ?_
     dsimp only [kM];simp only [kc,kf,kg])
 refine qs ?_;intro _ hw';obtain ⟨p,rfl⟩:=hw';have HR2:=hJJ (HR.out.mem p.below);have hn2:=(p.below.block nb (kb.1 HG2.out).1).trans HG2.out;have HWD:Hid (Below w.heap.size w p.world):=hJJ (by rw [hrb];exact HW.out.trans (p.below.mono (by have:=HW.out.size;omega)));generalize p.world=vd at HR2 hn2 HWD |-;simp only [ku,kA];have hB2:B<=vd.heap.size:=ke hB HWD.out.size;have HN:=hJJ (j6d s vd nb 0 #[I 0] 3 (0,0) [I 0] 3 16777215 0 0 HR2.out hB2 ⟨rfl,by omega⟩ (Or.inr (by decide)) (ki _) hn2 rfl);clear hn2;go_wp2_with fail
 refine HN.out.mono ?_;intro e v3 hE;unfold Po.Ends at hE;simp only [Sp.run,Ko] at hE;have hrr:=HRES.out;cases res with
 | error fl =>
  rw [hrr] at hE;obtain ⟨rfl,hb3⟩:=hE;exact ⟨rfl,rfl,(HWD.out.mono hB).trans hb3⟩
 | ok r =>
  obtain ⟨y,s'⟩:=r;rw [hrr] at hE;obtain ⟨rfl,hst,hmv,hcl⟩:=hE;have c1:v3.cell? ⟨nb,0,none⟩=some (I y):=by rw [qi _ _ _ _ _ _ hcl];rfl
  have HST:=hJJ hst;have HMV:=hJJ hmv;clear hst hmv hcl;go_wp2;go_ret;exact ⟨rfl,HST.out,Mv.start HWD.out hB (by omega) HMV.out⟩
theorem jfD (s:Nat) (w:World) (h:RS B g ad cap bs s w) (hB:B<=w.heap.size) :
  Calls Tryz.prog 46 #[rdr g,.int .i64 2] w (j1Q bs B g ad cap ((RP bs).num s 2 65535 0) w):=by
 have hb:=(ko w.heap.size w).alloc (ki _) (.cells #[.pointer (some ⟨g,0,none⟩)] 55);have hb2:=hb.alloc hb.size (.cells #[I 0] 3);have hg1:=qk w (.cells #[.pointer (some ⟨g,0,none⟩)] 55);have hg2:=qk (w.alloc (.cells #[.pointer (some ⟨g,0,none⟩)] 55)) (.cells #[I 0] 3);have hs1:(w.alloc (.cells #[.pointer (some ⟨g,0,none⟩)] 55)).heap.size=w.heap.size+1:=by simp
 rw [hs1] at hg2
 have hg3:((w.alloc (.cells #[.pointer (some ⟨g,0,none⟩)] 55)).alloc (.cells #[I 0] 3)).heap[w.heap.size]?=some (.cells #[.pointer (some ⟨g,0,none⟩)] 55 (0,0)):=by
  rw [kY _ _ _ (by rw [hs1];omega)];exact hg1
 have HR:=hJJ (h.mem hb2);have HW:=hJJ hb2;obtain ⟨res,hres⟩:∃ r,(RP bs).num s 2 65535 0=r:=⟨_,rfl⟩;have HRES:=hJJ hres;rw [hres];clear h hb hg1 hs1 hb2 hres;go_enter Tryz.func46,Tryz.ntmps46
 go_upto_region 2 with fail
 generalize kn (kn w _) _=v at HR HW hg2 hg3 |-;generalize hnb:w.heap.size+1=nb at hg2 |-;generalize hrb:w.heap.size=rb at hg3 HW |-;have LR:Hid (∀ W,Below v.heap.size v W->jl W ⟨rb,0,none⟩ [.pointer (some ⟨g,0,none⟩)]):=hJJ (fun W hb=>by have:=Row.j1 ((hb.block rb (kb.1 hg3).1).trans hg3);simpa using this);have HG2:=hJJ hg2;clear hg2 hg3;refine QT.region v.heap.size 6 (by kernel_rfl) (by kernel_rfl) ?_;simp only [kB,kK]
 repeat first
  | (refine QL.j1q rfl 55 _ rfl ⟨rb,0,none⟩ rfl [.pointer (some ⟨g,0,none⟩)] _ (fun w' ⟨p,e⟩=>by rw [e];exact LR.out _ p.below) Tryz.underlying55 rfl JD ?_
     dsimp only [kM];simp only [kc,kf,kg])
  | (quiet_step (fail))
  | (refine j1P rfl (I 65536) (fun w=>rfl) ?_
     dsimp only [kM];simp only [kc,kf,kg])
 refine qs ?_;intro _ hw';obtain ⟨p,rfl⟩:=hw';have HR2:=hJJ (HR.out.mem p.below);have hn2:=(p.below.block nb (kb.1 HG2.out).1).trans HG2.out;have HWD:Hid (Below w.heap.size w p.world):=hJJ (by rw [hrb];exact HW.out.trans (p.below.mono (by have:=HW.out.size;omega)));generalize p.world=vd at HR2 hn2 HWD |-;simp only [ku,kA];have hB2:B<=vd.heap.size:=ke hB HWD.out.size;have HN:=hJJ (j6d s vd nb 0 #[I 0] 3 (0,0) [I 0] 2 65535 0 0 HR2.out hB2 ⟨rfl,by omega⟩ (Or.inr (by decide)) (ki _) hn2 rfl);clear hn2;go_wp2_with fail
 refine HN.out.mono ?_;intro e v3 hE;unfold Po.Ends at hE;simp only [Sp.run,Ko] at hE;have hrr:=HRES.out;cases res with
 | error fl =>
  rw [hrr] at hE;obtain ⟨rfl,hb3⟩:=hE;exact ⟨rfl,rfl,(HWD.out.mono hB).trans hb3⟩
 | ok r =>
  obtain ⟨y,s'⟩:=r;rw [hrr] at hE;obtain ⟨rfl,hst,hmv,hcl⟩:=hE;have c1:v3.cell? ⟨nb,0,none⟩=some (I y):=by rw [qi _ _ _ _ _ _ hcl];rfl
  have HST:=hJJ hst;have HMV:=hJJ hmv;clear hst hmv hcl;go_wp2;go_ret;exact ⟨rfl,HST.out,Mv.start HWD.out hB (by omega) HMV.out⟩
def JL (bs:List Nat):Except Flt Nat:=match (RP bs).num (0:Nat) 3 16777215 0 with
 | .error f=>.error f
 | .ok (y,s')=>if y=5784065 then .ok s' else .error (3,0)
theorem jaS (w:World) (h:RS B g ad cap bs 0 w) (hB:B<=w.heap.size) :
  Calls Tryz.prog 19 #[rdr g] w (jaR bs B g ad cap (JL bs) w):=by
 have hb:=(ko w.heap.size w).alloc (ki _) (.cells #[.pointer (some ⟨g,0,none⟩)] 55);have hg1:=qk w (.cells #[.pointer (some ⟨g,0,none⟩)] 55);have HR:=hJJ (h.mem hb);have HW:=hJJ hb;clear h hb;obtain ⟨r2,hr2⟩:∃ r,JL bs=r:=⟨_,rfl⟩;rw [hr2];unfold JL at hr2;obtain ⟨res,hres⟩:∃ r,(RP bs).num (0:Nat) 3 16777215 0=r:=⟨_,rfl⟩;rw [hres] at hr2;have HRES:=hJJ hres;have HR2:=hJJ hr2;clear hres hr2;go_enter Tryz.func19,Tryz.ntmps19
 go_upto_region 1 with fail
 generalize kn w _=v at HR HW hg1 |-;generalize hrb:w.heap.size=rb at hg1 HW |-;have LR:Hid (jl v ⟨rb,0,none⟩ [.pointer (some ⟨g,0,none⟩)]):=hJJ (by have:=Row.j1 hg1;simpa using this);have HB2:Hid (B<=v.heap.size):=hJJ (ke hB (by have:=HW.out.size;omega));go_wp2_with (refine Row.j7 55 _ rfl (by first | rfl | (go_simp;done) | fail) ⟨rb,0,none⟩ rfl [.pointer (some ⟨g,0,none⟩)] _ LR.out Tryz.underlying55 rfl JD ?_)
 refine (jfC 0 v HR.out HB2.out).mono ?_;intro e v3 hE;rw [HRES.out] at hE;unfold j1Q at hE;cases res with
 | error fl =>
  obtain ⟨rfl,hb3⟩:=hE;refine ⟨rfl,?_⟩;rw [<-HR2.out];exact ⟨rfl,(HW.out.mono (by omega)).trans hb3⟩
 | ok r =>
  obtain ⟨y,s'⟩:=r;obtain ⟨rfl,hst,hmv⟩:=hE;have HST:=hJJ hst;have HMV:=hJJ hmv;clear hst hmv;have HM2:Hid (∀ b,Mv B b w v3):=hJJ (Mv.start (by rw [hrb];exact HW.out) hB (ki _) (HMV.out w.heap.size));clear HMV;by_cases hy:y=5784065
  ·subst hy;have e2:r2=.ok s':=by rw [<-HR2.out];exact if_pos rfl
   clear HR2;subst e2;go_wp2
   go_end0
   exact ⟨rfl,HST.out,HM2.out⟩
  have e2:r2=.error (3,0):=by rw [<-HR2.out];exact if_neg hy
  clear HR2;subst e2;go_wp2_with fail
  refine (j1O 3 0 _).mono ?_;rintro e v4 ⟨rfl,rfl⟩;exact ⟨rfl,rfl,(HM2.out 0).low⟩
def j2B (bs:List Nat) (s:Nat):Except Flt Nat:=if s < bs.length then .error (6,s) else .ok s
theorem jcC (s:Nat) (w:World) (h:RS B g ad cap bs s w) (hB:B<=w.heap.size) :
  Calls Tryz.prog 22 #[rdr g] w (jaR bs B g ad cap (j2B bs s) w):=by
 obtain ⟨r2,hr2⟩:∃ r,j2B bs s=r:=⟨_,rfl⟩;rw [hr2];unfold j2B at hr2;have HR2:=hJJ hr2;clear hr2;have hb:=(ko w.heap.size w).alloc (ki _) (.cells #[.pointer (some ⟨g,0,none⟩)] 55);have hg1:=qk w (.cells #[.pointer (some ⟨g,0,none⟩)] 55);have HR:=hJJ (h.mem hb);have HW:=hJJ hb;clear h hb;go_enter Tryz.func22,Tryz.ntmps22
 go_upto_region 1 with fail
 generalize kn w _=v at HR HW hg1 |-;generalize hrb:w.heap.size=rb at hg1 HW |-;have LR:Hid (jl v ⟨rb,0,none⟩ [.pointer (some ⟨g,0,none⟩)]):=hJJ (by have:=Row.j1 hg1;simpa using this);have HB2:Hid (B<=v.heap.size):=hJJ (ke hB (by have:=HW.out.size;omega));have k0:v.cell? ⟨rb,0,none⟩=some (.pointer (some ⟨g,0,none⟩)):=by rw [qi _ _ _ _ _ _ hg1];rfl
 have HM:Hid (∀ b,Mv B b w v):=hJJ (fun b=>Mv.of (by rw [hrb];exact HW.out) hB);go_wp2_with fail
 refine (Rd.j2U g ad cap bs s 0 0 v HR.out.rd HR.out.len HR.out.le).mono ?_;rintro e v3 ⟨rfl,n,rfl⟩;have hbd:Below v.heap.size v (v.drewN n):=⟨rfl,rfl,rfl,ki _,fun _ _=>rfl⟩;have hst:=HR.out.mem hbd;have kd:(v.drewN n).cell? ⟨rb,0,none⟩=some (.pointer (some ⟨g,0,none⟩)):=k0;have HM2:Hid (∀ b,Mv B b w (v.drewN n)):=hJJ (fun b=>(HM.out b).trans (Mv.of hbd HB2.out));clear k0 hbd;generalize v.drewN n=v3 at hst kd HM2 |-;have HST:=hJJ hst;clear hst;by_cases hy:s < bs.length
 ·have e2:r2=.error (6,s):=by rw [<-HR2.out];exact if_pos hy
  clear HR2;subst e2;have hp:(0:Int) < (bs.length:Int) - s:=by omega
  go_wp2_with fail
  refine (Rd.j4B g ad cap bs s 0 0 _ HST.out.rd).mono ?_;rintro e v4 ⟨rfl,rfl⟩;go_wp2_with fail
  refine (j1O 6 s _).mono ?_;rintro e v4 ⟨rfl,rfl⟩;exact ⟨rfl,rfl,(HM2.out 0).low⟩
 have e2:r2=.ok s:=by rw [<-HR2.out];exact if_neg hy
 clear HR2;subst e2;have hp:¬ (0:Int) < (bs.length:Int) - s:=by omega
 go_wp2
 go_end0
 exact ⟨rfl,HST.out,HM2.out⟩
def j2q (bs:List Nat) (s:Nat):Except Flt Nat:=match (RP bs).num s 2 65535 0 with
 | .error f=>.error f
 | .ok (y,s')=>if y=((crc 65535 (bs.take s):Nat):Int) then .ok s' else .error (5,s)
theorem jcD (s:Nat) (w:World) (h:RS B g ad cap bs s w) (hB:B<=w.heap.size) (bd:Option Addr) (bcap:Nat) (hrow:∀ W,Below B w W->Go.Proofs.YtonpphjleapafaaGreat.B.Row W bd bs) (hcap:bs.length<=bcap) :
  Calls Tryz.prog 21 #[rdr g,.slice bd bs.length bcap] w (jaR bs B g ad cap (j2q bs s) w):=by
 obtain ⟨r2,hr2⟩:∃ r,j2q bs s=r:=⟨_,rfl⟩;rw [hr2];unfold j2q at hr2;obtain ⟨res,hres⟩:∃ r,(RP bs).num s 2 65535 0=r:=⟨_,rfl⟩;rw [hres] at hr2;have HRES:=hJJ hres;have hle:=h.le;have hln:=h.len;obtain ⟨cr,hcr⟩:∃ n:Nat,crc 65535 (bs.take s)=n:=⟨_,rfl⟩;have hcr2:cr < 65536:=by rw [<-hcr];exact CrcM.j3e _ _ (by decide)
 rw [hcr] at hr2;have HR2:=hJJ hr2;have CR:Hid (∀ W,Below B w W->Calls Tryz.prog 44 #[.slice bd s bcap] W fun e w'=>e=.returned (.int .u16 (cr:Int))/\Below W.heap.size W w'):=hJJ (fun W hb=>by rw [<-hcr];exact CrcB.jed bd s bcap (bs.take s) W (by rw [K7];omega) (Go.Proofs.YtonpphjleapafaaGreat.B.j6J (hrow W hb) s));clear hres hr2 hcr hrow;obtain ⟨len,hlen⟩:∃ n,bs.length=n:=⟨_,rfl⟩;rw [hlen] at hle hln hcap |-;clear hlen;have hk1:s<=bcap:=by omega
 have ew:wrap64 (cr:Int)=cr:=IntWalk.wrap64_in _ (by omega);have ew2:kV.wrap (cr:Int)=cr:=by rw [kE];omega
 have hb:=(ko w.heap.size w).alloc (ki _) (.cells #[.pointer (some ⟨g,0,none⟩)] 55);have hg1:=qk w (.cells #[.pointer (some ⟨g,0,none⟩)] 55);have HR:=hJJ (h.mem hb);have HW:=hJJ hb;clear h hb;go_enter Tryz.func21,Tryz.ntmps21
 go_upto_region 1 with fail
 generalize kn w _=v at HR HW hg1 |-;have HMW:Hid (∀ b,Mv B b w v):=hJJ (fun b=>Mv.of HW.out hB);have HB2:Hid (B<=v.heap.size):=hJJ (ke hB HW.out.size);generalize hrb:w.heap.size=rb at hg1 HW |-;have k0:v.cell? ⟨rb,0,none⟩=some (.pointer (some ⟨g,0,none⟩)):=by rw [qi _ _ _ _ _ _ hg1];rfl
 have LK:Hid (∀ W,(∀ b,Mv B b v W)->jl W ⟨rb,0,none⟩ [.pointer (some ⟨g,0,none⟩)]):=hJJ (fun W hm=>by have:=Row.j1 (((hm (rb+1)).other rb _ _ _ hg1 (by decide) (by omega)).trans hg1);simpa using this);go_wp2_with fail
 refine (Rd.j4B g ad cap bs s 0 0 v HR.out.rd).mono ?_;rintro e v4 ⟨rfl,rfl⟩;go_upto_region 2 with fail
 clear k0 hg1;refine wp_region_held (S:=fun w'=>jl w' ⟨rb,0,none⟩ [.pointer (some ⟨g,0,none⟩)]) (by kernel_rfl) ?_;have hd:Below v.heap.size v { v with drawn:=v.drawn+1 }:=(ko _ _).drew;have hm:∀ b,Mv B b v { v with drawn:=v.drawn+1 }:=fun b=>Mv.of hd HB2.out;have hS:=LK.out _ hm;have HSV:=hJJ (HR.out.mem hd);have HMW1:Hid (∀ b,Mv B b w { v with drawn:=v.drawn+1 }):=hJJ (fun b=>(HMW.out b).trans (hm b));have LK1:Hid (∀ W,(∀ b,Mv B b { v with drawn:=v.drawn+1 } W)->jl W ⟨rb,0,none⟩ [.pointer (some ⟨g,0,none⟩)]):=hJJ (fun W h2=>LK.out W (fun b=>(hm b).trans (h2 b)));have HBV:Hid (B<=({ v with drawn:=v.drawn+1 }:World).heap.size):=hJJ HB2.out;clear hd hm HR HMW LK HB2 HW;generalize ({ v with drawn:=v.drawn+1 }:World)=V at hS HSV HMW1 LK1 HBV |-;have HMW:=HMW1;have LK:=LK1;clear HMW1 LK1;refine tlZ 0 8 55 (.tmp 2) ⟨rb,0,none⟩ [.pointer (some ⟨g,0,none⟩)] rfl hS (fun w' hw'=>hw') Tryz.underlying55 JD ?_
 (try dsimp only [kM]);(try simp only [zA,zB,zC])
 refine tkZ 2 10 ?_ rfl ?_ hS ?_;rotate_left
 ·intro w' hw';go_simp
  try with_reducible rfl
 (try dsimp only [kM]);(try simp only [zA,zB,zC])
 refine tkZ 3 11 ?_ rfl ?_ hS ?_;rotate_left
 ·intro w' hw';go_simp
  try with_reducible rfl
 (try dsimp only [kM]);(try simp only [zA,zB,zC])
 refine tkZ 4 12 ?_ rfl ?_ hS ?_;rotate_left
 ·intro w' hw';go_simp
  try with_reducible rfl
 (try dsimp only [kM]);(try simp only [zA,zB,zC])
 refine rdZ 1 rfl (fun K hK=>?_);go_simp
 refine (jfD s V HSV.out HBV.out).mono ?_;intro e V2 hE;rw [HRES.out] at hE;unfold j1Q at hE;cases res with
 | error fl =>
  obtain ⟨rfl,hb3⟩:=hE;have e2:r2=.error fl:=HR2.out.symm;subst e2;go_simp
  exact ⟨rfl,rfl,(HMW.out 0).low.trans hb3⟩
 | ok r =>
  obtain ⟨y,s'⟩:=r;obtain ⟨rfl,hst,hmv⟩:=hE;have hq:jl V2 ⟨rb,0,none⟩ [.pointer (some ⟨g,0,none⟩)]:=LK.out V2 hmv;have HSV3:Hid (RS B g ad cap bs s' V2):=hJJ hst;have HMW3:Hid (∀ b,Mv B b w V2):=hJJ (fun b=>(HMW.out b).trans (hmv b));clear hS hst hmv HSV HMW HBV LK;go_simp
  refine hK.out _ _ hq (fun hS=>?_);clear hK K hq;rename World=>V
  (try dsimp only [kM]);(try simp only [zA,zB,zC])
  refine rdZ 5 rfl (fun K hK=>?_);go_simp
  refine (CR.out V (HMW3.out 0).low).mono ?_;rintro e V2 ⟨rfl,hb⟩;have hq:jl V2 ⟨rb,0,none⟩ [.pointer (some ⟨g,0,none⟩)]:=jl.below hS hb;have HSV4:=hJJ (HSV3.out.mem hb);have HMW4:Hid (∀ b,Mv B b w V2):=hJJ (fun b=>(HMW3.out b).trans (Mv.of hb (ke hB (HMW3.out 0).low.size)));clear HMW3 HSV3 hb;have HSV3:=HSV4;have HMW3:=HMW4;clear HSV4 HMW4;go_simp
  refine hK.out _ _ hq (fun hS=>?_);clear hK K hq
  (try dsimp only [kM]);(try simp only [zA,zB,zC])
  refine tkZ 6 14 ?_ rfl ?_ hS ?_;rotate_left
  ·intro w' hw';go_simp
   try with_reducible rfl
  (try dsimp only [kM]);(try simp only [zA,zB,zC])
  by_cases hy:y=(cr:Int)
  ·have e2:r2=.ok s':=by rw [<-HR2.out];exact if_pos hy
   clear HR2;subst e2 hy;refine tkZ 7 15 ?_ rfl ?_ hS ?_;rotate_left
   ·intro w' hw';go_simp
    try with_reducible rfl
   (try dsimp only [kM]);(try simp only [zA,zB,zC])
   refine wpAnyH_done (by kernel_rfl) ?_ _;go_wp2
   go_end0
   exact ⟨rfl,HSV3.out,HMW3.out⟩
  have e2:r2=.error (5,s):=by rw [<-HR2.out];exact if_neg hy
  clear HR2;subst e2;refine tkZ 7 15 ?_ rfl ?_ hS ?_;rotate_left
  ·intro w' hw';go_simp
   try with_reducible rfl
  (try dsimp only [kM]);(try simp only [zA,zB,zC])
  refine wpAnyH_done (by kernel_rfl) ?_ _;go_wp2_with fail
  refine (j1O 5 s _).mono ?_;rintro e v9 ⟨rfl,rfl⟩;exact ⟨rfl,rfl,(HMW3.out 0).low⟩
end
end Rr
namespace Rr
open Zip
open Go Go.RowKit Go.ChangeShapes
open Tab
open Po
open Rd (Rd But)
open Clone (jB zHd j1p j3m)
def Kp (n0:Nat) (W V:World):Prop:=∀ (j:Nat) (cs:Array Value) (t:TypeId) (fr:Nat × Nat),W.heap[j]?=some (.cells cs t fr)->¬ Pt t->n0<=j->V.heap[j]?=W.heap[j]?
section
variable {n0:Nat} {W V U:World}
theorem Kp.mv {B b:Nat} (h:Mv B b W V) (hb:b < n0):Kp n0 W V:=fun j cs t fr hj ht hn=>h.other j cs t fr hj ht (by omega)
theorem Kp.but {g:Nat} (h:But g W V) (hg:g < n0):Kp n0 W V:=fun j cs t fr hj ht hn=>h.block j (kb.1 hj).1 (by omega)
theorem Kp.row {g:Nat} (cs2:Array Value) (hg:g < n0):Kp n0 W (W.setRow g cs2):=fun j cs t fr hj ht hn=>qq _ _ _ _ (by omega)
theorem j7h {a:Option Addr} {xs:List (List Value)} {T:TypeId} (h:jM n0 W a xs T) (k:Kp n0 W V) (hT:¬ Pt T):jM n0 V a xs T:=fun hx=>by
 obtain ⟨b,h1,h2,h3⟩:=h hx;exact ⟨b,h1,h2,(k b _ _ _ h3 hT h1).trans h3⟩
structure Got (x:Raw) (n0:Nat) (ga da ra ba:Option Addr) (zs:List Zr) (W:World):Prop where
 z:zs.map (·.2)=x.gs
 g:x.gs ≠ []->∃ b,n0<=b/\ga=some ⟨b,0,none⟩/\W.heap[b]?=some (.cells (zs.flatMap zc).toArray 68 (0,0))
 r:Po.Rows n0 W zs
 d:jM n0 W da x.ds 71
 l:jM n0 W ra x.rs 75
 b:jM n0 W ba x.bs 77
theorem Got.kp {x:Raw} {ga da ra ba:Option Addr} {zs:List Zr} (h:Got x n0 ga da ra ba zs W) (k:Kp n0 W V):Got x n0 ga da ra ba zs V :=
 ⟨h.z,fun hx=>by
  obtain ⟨b,h1,h2,h3⟩:=h.g hx;exact ⟨b,h1,h2,(k b _ _ _ h3 (by decide) h1).trans h3⟩,fun z hz=>⟨j7h (h.r z hz).1 k (by decide),j7h (h.r z hz).2 k (by decide)⟩,j7h h.d k (by decide),j7h h.l k (by decide),j7h h.b k (by decide)⟩
end
def JF (bs:List Nat):Except Flt Raw:=if 2048 < bs.length then .error (1,0) else andThen (JL bs) fun s1=>andThen (parts (RP bs) s1) fun x=>andThen (j2q bs x.2) fun s3=>andThen (j2B bs s3) fun _=>.ok x.1
def j1t (r:Except Flt Raw) (w:World) (e:Ending) (w':World):Prop:=Below w.heap.size w w'/\match r with
 | .error f=>e=.returned (.tuple #[.agg (jB.cells zHd).toArray,.agg #[I f.1,I f.2]])
 | .ok x=>∃ hd,e=.returned (.tuple #[.agg ((jt x).cells hd).toArray,.agg #[I 0,I 0]])/\jy w' hd (jt x)
theorem j9w (b:Nat) (z0 z1:Int) (w:World) (hc:w.heap[b]?=some (.cells #[I z0,I z1] 36 (0,0))) :
  CallsD Tryz.prog 15 #[.pointer (some ⟨b,0,none⟩)] .returning w fun e u' w'=>e=.returned (.tuple #[])/\u'=.returning/\But b w w'/\w'.heap[b]?=some (.cells #[I 0,I 0] 36 (0,0)):=by
 refine callsD_of_wpS Tryz.func15 rfl fun c₀ cs hu=>?_;apply wpS_region;simp [wpOpsS,go_sem,recoverD,hu];refine (j4u _).mono ?_;rintro e w' ⟨rfl,hb⟩;have hc1:=(hb.block b (kb.1 hc).1).trans hc;have c0:w'.cell? ⟨b,0,none⟩=some (I z0):=by rw [qi _ _ _ _ _ _ hc1];rfl
 have c1:w'.cell? ⟨b,1,none⟩=some (I z1):=by rw [qi _ _ _ _ _ _ hc1];rfl
 have f0:w'.frozen? ⟨b,0,none⟩=false:=qj _ _ _ _ _ hc1;have f1:w'.frozen? ⟨b,1,none⟩=false:=qj _ _ _ _ _ hc1;have hs1:w'.setCell ⟨b,0,none⟩ (I 0)=w'.setRow b #[I 0,I z1]:=qp w' b 0 #[I z0,I z1] 36 (0,0) (I 0) hc1;have hr1:=qm w' b _ #[I 0,I z1] _ _ hc1;have hs2:(w'.setRow b #[I 0,I z1]).setCell ⟨b,1,none⟩ (I 0)=(w'.setRow b #[I 0,I z1]).setRow b #[I 0,I 0]:=qp _ b 1 #[I 0,I z1] 36 (0,0) (I 0) hr1;have hr2:=qm _ b _ #[I 0,I 0] _ _ hr1;rw [<-hs2,<-hs1] at hr2;have hbut:But b w ((w'.setCell ⟨b,0,none⟩ (I 0)).setCell ⟨b,1,none⟩ (I 0)):=((But.of hb).trans (But.set b 0 w' _)).trans (But.set b 1 _ _);clear hs1 hs2 hr1;simp [wpOpsS,go_sem,c0,f0,c1,f1,World.cell?_setCell_other,bodyPostS,results,Tryz.results15];cases c₀;simp_all
theorem j83 (bs:List Nat) (ad:Option Addr) (cap:Nat) (w:World) (hrow:Go.Proofs.YtonpphjleapafaaGreat.B.Row w ad bs) (hlen:bs.length<=10000) (hnil:ad=none->cap=0) (hcap:bs.length<=cap) :
  Calls Tryz.prog 6 #[.slice ad bs.length cap] w (j1t (JF bs) w):=by
 have hmf:∀ (fn:Fn) (first cap:Array Value) (w:World),(Instr.makeFunc fn first cap).run Tryz.prog w=.ok (.func fn first cap) w:=fun _ _ _ _=>rfl;have hmi:∀ (v:Value) (w:World),(Instr.makeInterface 55 v).run Tryz.prog w=.ok (.iface 55 v) w:=fun _ _=>rfl;obtain ⟨res,hres⟩:∃ r,JF bs=r:=⟨_,rfl⟩;rw [hres];have HRES:=hJJ hres;clear hres;have hz:=(qu j1p).1;have ZS:(jB.cells zHd).toArray.size=131:=(j9 (j3m w)).size;have ZI0:(Tryz.prog.info? 33).map (·.size)=some (jB.cells zHd).toArray.size:=by rw [ZS];kernel_rfl
 have ZB:(bx (ka 8 zPh).flatten nl (ka 8 (I 0)) nl nl nl (ka 5 (I 0)) (ka 8 (I 0)) (ka 2 (I 0))).toArray=(jB.cells zHd).toArray:=rfl;obtain ⟨Z,hZ⟩:∃ Z,(jB.cells zHd).toArray=Z:=⟨_,rfl⟩;rw [hZ] at hz ZI0 ZB ZS;have EZ:=hJJ hZ;have ZI:=hJJ ZI0;have EB:=hJJ ZB;have EZS:=hJJ ZS;clear ZI0 ZB ZS;have hb1:=(ko w.heap.size w).alloc (ki _) (.cells Z 33);have hb2:=hb1.alloc hb1.size (.cells #[I 0,I 0] 36);have hg1:=qk w (.cells Z 33);have hg2:=qk (w.alloc (.cells Z 33)) (.cells #[I 0,I 0] 36);have hs1:(w.alloc (.cells Z 33)).heap.size=w.heap.size+1:=by simp
 rw [hs1] at hg2
 have hg3:((w.alloc (.cells Z 33)).alloc (.cells #[I 0,I 0] 36)).heap[w.heap.size]?=some (.cells Z 33 (0,0)):=by
  rw [kY _ _ _ (by rw [hs1];omega)];exact hg1
 clear hZ hb1 hg1 hs1;have HROW:=hJJ hrow;have HLEN:=hJJ hlen;have HNIL:=hJJ hnil;have HCAP:=hJJ hcap;clear hrow hlen hnil hcap;obtain ⟨len,hln⟩:∃ n,bs.length=n:=⟨_,rfl⟩;rw [hln];have HLN:=hJJ hln;clear hln
 go_enter_defers Tryz.func6,Tryz.ntmps6
 go_upto_region 2 with fail
 generalize kn (kn w _) _=v at hb2 hg2 hg3 |-;have HB:=hJJ hb2;have hvs:=HB.out.size;generalize hfb:w.heap.size+1=fb at hg2 |-;generalize htb:w.heap.size=tb at hg3 |-;have HF:=hJJ hg2;have HT:=hJJ hg3;clear hb2 hg2 hg3;by_cases hbig:2048 < len
 ·go_wp2_with fail
  refine (j1O 1 0 _).mono ?_;rintro e v3 ⟨rfl,rfl⟩
  have e2:res=.error (1,0):=by
   rw [<-HRES.out];unfold JF;rw [if_pos (by rw [HLN.out];exact hbig)]
  have hlow:Below v.heap.size v v:=ko _ _;have hF3:=(hlow.block fb (kb.1 HF.out).1).trans HF.out;have hT3:=(hlow.block tb (kb.1 HT.out).1).trans HT.out
  (try go_wp2)
  refine qr (f:=15) (args:=#[.pointer (some ⟨fb,0,none⟩)]) (by simp) (by simp [go_sem]) ?_;refine (j0l fb 0 0 (1) (0) v hF3).mono ?_;rintro e u' w'' ⟨rfl,rfl,hbut,hF4⟩;have hT4:=(hbut.block tb (kb.1 hT3).1 (by omega)).trans hT3;have hBB:Below w.heap.size w w'':=(HB.out.trans (hlow.mono HB.out.size)).trans (hbut.below (ke HB.out.size hlow.size) (by omega));refine ⟨_,jz rfl _ w'' tb fb 33 36 Z #[I (1),I (0)] _ _ rfl rfl hT4 hF4 Tryz.underlying33 rfl ZI.out Tryz.underlying36 rfl jW,hBB,?_⟩
  (try rw [e2])
  rw [<-EZ.out]
 have HBIG:Hid (¬ 2048 < bs.length):=hJJ (by rw [HLN.out];exact hbig);go_wp2_with fail
 rw [<-HLN.out];refine (Rd.jco ad cap bs v (HROW.out.below (HB.out)) (by have:=HLEN.out;omega) HNIL.out).mono ?_;rintro e v1 ⟨g,ad',cap',rfl,hg,_,hrd,hown,hshp,hb⟩;have hst:RS v.heap.size g ad' cap' bs 0 v1:=⟨hrd,kQ _,by have:=HLEN.out;omega,hg,hshp,hown,HROW.out.2.1⟩;go_upto_region 5 with fail
 have hb3:=hb.alloc hb.size (.cells #[.pointer (some ⟨g,0,none⟩)] 55);have hr3:=qk v1 (.cells #[.pointer (some ⟨g,0,none⟩)] 55);have hst3:=hst.mem ((ko v1.heap.size v1).alloc (ki _) (.cells #[.pointer (some ⟨g,0,none⟩)] 55));have hrb0:v.heap.size<=v1.heap.size:=hb.size;generalize kn v1 _=v2 at hb3 hr3 hst3 |-;generalize v1.heap.size=rb at hr3 hrb0 |-;have LR:Hid (∀ W,(∀ b,Mv v.heap.size b v2 W)->jl W ⟨rb,0,none⟩ [.pointer (some ⟨g,0,none⟩)]):=hJJ (fun W hm=>by have:=Row.j1 (((hm (rb+1)).other rb _ _ _ hr3 (by decide) (by omega)).trans hr3);simpa using this);have HRB:=hJJ hr3;have HST:=hJJ hst3;have HB2:=hJJ hb3;clear hb hb3 hr3 hst hst3 hrd hown hshp hg;go_wp2_with (refine Row.j7 55 _ rfl (by first | rfl | (go_simp;done) | fail) ⟨rb,0,none⟩ rfl [.pointer (some ⟨g,0,none⟩)] _ (LR.out _ (fun b=>Mv.refl _ _ _)) Tryz.underlying55 rfl JD ?_)
 refine (jaS v2 HST.out HB2.out.size).mono ?_;intro e v3 hE;obtain ⟨r1,hr1⟩:∃ r,JL bs=r:=⟨_,rfl⟩;rw [hr1] at hE;cases r1 with
 | error fl =>
  obtain ⟨fc,fa⟩:=fl;obtain ⟨rfl,hb4⟩:=hE
  have e2:res=.error (fc,fa):=by
   rw [<-HRES.out];unfold JF;rw [if_neg HBIG.out,hr1];rfl
  have hlow:Below v.heap.size v v3:=HB2.out.trans hb4;have hF3:=(hlow.block fb (kb.1 HF.out).1).trans HF.out;have hT3:=(hlow.block tb (kb.1 HT.out).1).trans HT.out
  (try go_wp2)
  refine qr (f:=15) (args:=#[.pointer (some ⟨fb,0,none⟩)]) (by simp) (by simp [go_sem]) ?_;refine (j0l fb 0 0 (fc) (fa) v3 hF3).mono ?_;rintro e u' w'' ⟨rfl,rfl,hbut,hF4⟩;have hT4:=(hbut.block tb (kb.1 hT3).1 (by omega)).trans hT3;have hBB:Below w.heap.size w w'':=(HB.out.trans (hlow.mono HB.out.size)).trans (hbut.below (ke HB.out.size hlow.size) (by omega));refine ⟨_,jz rfl _ w'' tb fb 33 36 Z #[I (fc),I (fa)] _ _ rfl rfl hT4 hF4 Tryz.underlying33 rfl ZI.out Tryz.underlying36 rfl jW,hBB,?_⟩
  (try rw [e2])
  rw [<-EZ.out]
 | ok s1 =>
  obtain ⟨rfl,hst4,hmv4⟩:=hE;have HR1:=hJJ hr1;have HST4:=hJJ hst4;have HM4:Hid (∀ b,Mv v.heap.size b v2 v3):=hJJ hmv4;clear hr1 hst4 hmv4 HST;go_upto_region 7 with fail
  have ha:=qk v3 (.cells Z 33);have hba:=(ko v3.heap.size v3).alloc (ki _) (.cells Z 33);have hst5:=HST4.out.mem hba;have hB3:v.heap.size<=v3.heap.size:=ke HB2.out.size (HM4.out 0).low.size;have hm5:∀ b,Mv v.heap.size b v2 (v3.alloc (.cells Z 33)):=fun b=>(HM4.out b).trans (Mv.of hba hB3);have hB5:v.heap.size<=(v3.alloc (.cells Z 33)).heap.size:=ke hB3 hba.size;have hrr:rb < v3.heap.size:=kr (kb.1 HRB.out).1 (HM4.out 0).low.size;generalize kn v3 _=v4 at ha hst5 hm5 hB5 |-;generalize v3.heap.size=rt at ha hB3 hrr |-;have HM5:=hJJ hm5;have HST5:=hJJ hst5;have HA:=hJJ ha;clear ha hst5 hm5 HST4 HM4 hba;have CP:=hJJ (jaL (PT:=rport (B:=v.heap.size) (g:=g) (ad:=ad') (cap:=cap') (bs:=bs)) (hJJ (je6 HROW.out.2.1)) (s:=s1) HST5.out hB5 (tb:=rt) (by rw [EB.out];exact HA.out) hB3 ((je5 bs).parts s1));go_wp2_with (refine Row.j7 55 _ rfl (by first | rfl | (go_simp;done) | fail) ⟨rb,0,none⟩ rfl [.pointer (some ⟨g,0,none⟩)] _ (LR.out _ (fun b=>HM5.out b)) Tryz.underlying55 rfl JD ?_)
  refine CP.out.mono ?_;clear CP;intro e v5 hE;obtain ⟨r2,hr2⟩:∃ r,parts (RP bs) s1=r:=⟨_,rfl⟩;rw [hr2] at hE;have hlow5:Below v.heap.size v v4:=HB2.out.trans (HM5.out 0).low;cases r2 with
  | error fl =>
   obtain ⟨fc,fa⟩:=fl;obtain ⟨rfl,hb4⟩:=hE
   have e2:res=.error (fc,fa):=by
    rw [<-HRES.out];unfold JF;rw [if_neg HBIG.out,HR1.out,andThen_ok,hr2];rfl
   have hlow:Below v.heap.size v v5:=hlow5.trans hb4;have hF3:=(hlow.block fb (kb.1 HF.out).1).trans HF.out;have hT3:=(hlow.block tb (kb.1 HT.out).1).trans HT.out
   (try go_wp2)
   refine qr (f:=15) (args:=#[.pointer (some ⟨fb,0,none⟩)]) (by simp) (by simp [go_sem]) ?_;refine (j0l fb 0 0 (fc) (fa) v5 hF3).mono ?_;rintro e u' w'' ⟨rfl,rfl,hbut,hF4⟩;have hT4:=(hbut.block tb (kb.1 hT3).1 (by omega)).trans hT3;have hBB:Below w.heap.size w w'':=(HB.out.trans (hlow.mono HB.out.size)).trans (hbut.below (ke HB.out.size hlow.size) (by omega));refine ⟨_,jz rfl _ w'' tb fb 33 36 Z #[I (fc),I (fa)] _ _ rfl rfl hT4 hF4 Tryz.underlying33 rfl ZI.out Tryz.underlying36 rfl jW,hBB,?_⟩
   (try rw [e2])
   rw [<-EZ.out]
  | ok xs =>
   obtain ⟨x,s2⟩:=xs;obtain ⟨rfl,hst6,hmv6,ga,da,ra,ba,zs,hbx,hz1,hz2,hz3,hz4,hz5,hz6⟩:=hE;have hok:=j4Q (je6 HROW.out.2.1) hr2;have HR2:=hJJ hr2;have HST6:Hid (RS v.heap.size g ad' cap' bs s2 v5):=hJJ hst6;have HGOT:Hid (Got x (rt+1) ga da ra ba zs v5):=hJJ ⟨hz1,hz2,hz3,hz4,hz5,hz6⟩;have HOK:=hJJ hok;have HBX:=hJJ hbx;have HM6:=hJJ hmv6;have hB6:v.heap.size<=v5.heap.size:=ke hB5 hmv6.low.size;have hlow6:Below v.heap.size v v5:=hlow5.trans hmv6.low
   have LR6:Hid (∀ W,(∀ b,Mv v.heap.size b v5 W)->jl W ⟨rb,0,none⟩ [.pointer (some ⟨g,0,none⟩)]):=hJJ (fun W hm=>by
    have h1:=((HM5.out rt).other rb _ _ _ HRB.out (by decide) (by omega)).trans HRB.out;have h2:=(HM6.out.other rb _ _ _ h1 (by decide) (by omega)).trans h1;have:=Row.j1 (((hm (rb+1)).other rb _ _ _ h2 (by decide) (by omega)).trans h2);simpa using this)
   clear hst6 hmv6 hbx hz1 hz2 hz3 hz4 hz5 hz6 hr2 hok HST5;have CS:=hJJ (jcD (bs:=bs) (ad:=ad') (cap:=cap') s2 v5 HST6.out hB6 ad cap (fun W hb=>HROW.out.below (HB.out.trans ((hlow6.trans hb).mono HB.out.size))) HCAP.out);go_wp2_with (refine Row.j7 55 _ rfl (by first | rfl | (go_simp;done) | fail) ⟨rb,0,none⟩ rfl [.pointer (some ⟨g,0,none⟩)] _ (LR6.out _ (fun b=>Mv.refl _ _ _)) Tryz.underlying55 rfl JD ?_)
   refine CS.out.mono ?_;clear CS;intro e v6 hE;obtain ⟨r3,hr3⟩:∃ r,j2q bs s2=r:=⟨_,rfl⟩;rw [hr3] at hE;cases r3 with
   | error fl =>
    obtain ⟨fc,fa⟩:=fl;obtain ⟨rfl,hb4⟩:=hE
    have e2:res=.error (fc,fa):=by
     rw [<-HRES.out];unfold JF;rw [if_neg HBIG.out,HR1.out,andThen_ok,HR2.out,andThen_ok,hr3];rfl
    have hlow:Below v.heap.size v v6:=hlow6.trans hb4;have hF3:=(hlow.block fb (kb.1 HF.out).1).trans HF.out;have hT3:=(hlow.block tb (kb.1 HT.out).1).trans HT.out
    (try go_wp2)
    refine qr (f:=15) (args:=#[.pointer (some ⟨fb,0,none⟩)]) (by simp) (by simp [go_sem]) ?_;refine (j0l fb 0 0 (fc) (fa) v6 hF3).mono ?_;rintro e u' w'' ⟨rfl,rfl,hbut,hF4⟩;have hT4:=(hbut.block tb (kb.1 hT3).1 (by omega)).trans hT3;have hBB:Below w.heap.size w w'':=(HB.out.trans (hlow.mono HB.out.size)).trans (hbut.below (ke HB.out.size hlow.size) (by omega));refine ⟨_,jz rfl _ w'' tb fb 33 36 Z #[I (fc),I (fa)] _ _ rfl rfl hT4 hF4 Tryz.underlying33 rfl ZI.out Tryz.underlying36 rfl jW,hBB,?_⟩
    (try rw [e2])
    rw [<-EZ.out]
   | ok s3 =>
    obtain ⟨rfl,hst7,hmv7⟩:=hE;have HR3:=hJJ hr3;have HST7:Hid (RS v.heap.size g ad' cap' bs s3 v6):=hJJ hst7;have HM7:Hid (∀ b,Mv v.heap.size b v5 v6):=hJJ hmv7;have hB7:v.heap.size<=v6.heap.size:=ke hB6 (hmv7 0).low.size;have hlow7:Below v.heap.size v v6:=hlow6.trans (hmv7 0).low;clear hr3 hst7 hmv7 HST6;go_wp2_with (refine Row.j7 55 _ rfl (by first | rfl | (go_simp;done) | fail) ⟨rb,0,none⟩ rfl [.pointer (some ⟨g,0,none⟩)] _ (LR6.out _ (fun b=>HM7.out b)) Tryz.underlying55 rfl JD ?_)
    refine (jcC s3 v6 HST7.out hB7).mono ?_;intro e v7 hE;obtain ⟨r4,hr4⟩:∃ r,j2B bs s3=r:=⟨_,rfl⟩;rw [hr4] at hE;cases r4 with
    | error fl =>
     obtain ⟨fc,fa⟩:=fl;obtain ⟨rfl,hb4⟩:=hE
     have e2:res=.error (fc,fa):=by
      rw [<-HRES.out];unfold JF;rw [if_neg HBIG.out,HR1.out,andThen_ok,HR2.out,andThen_ok,HR3.out,andThen_ok,hr4];rfl
     have hlow:Below v.heap.size v v7:=hlow7.trans hb4;have hF3:=(hlow.block fb (kb.1 HF.out).1).trans HF.out;have hT3:=(hlow.block tb (kb.1 HT.out).1).trans HT.out
     (try go_wp2)
     refine qr (f:=15) (args:=#[.pointer (some ⟨fb,0,none⟩)]) (by simp) (by simp [go_sem]) ?_;refine (j0l fb 0 0 (fc) (fa) v7 hF3).mono ?_;rintro e u' w'' ⟨rfl,rfl,hbut,hF4⟩;have hT4:=(hbut.block tb (kb.1 hT3).1 (by omega)).trans hT3;have hBB:Below w.heap.size w w'':=(HB.out.trans (hlow.mono HB.out.size)).trans (hbut.below (ke HB.out.size hlow.size) (by omega));refine ⟨_,jz rfl _ w'' tb fb 33 36 Z #[I (fc),I (fa)] _ _ rfl rfl hT4 hF4 Tryz.underlying33 rfl ZI.out Tryz.underlying36 rfl jW,hBB,?_⟩
     (try rw [e2])
     rw [<-EZ.out]
    | ok s4 =>
     obtain ⟨rfl,hst8,hmv8⟩:=hE
     have e2:res=.ok x:=by
      rw [<-HRES.out];unfold JF;rw [if_neg HBIG.out,HR1.out,andThen_ok,HR2.out,andThen_ok,HR3.out,andThen_ok,hr4];rfl
     have hm8:∀ b,Mv v.heap.size b v5 v7:=fun b=>(HM7.out b).trans (hmv8 b);have hbx8:=((hm8 (rt+1)).other rt _ _ _ HBX.out (by decide) (by omega)).trans HBX.out;have hgot8:=HGOT.out.kp (Kp.mv (hm8 0) (by omega));have hlow8:Below v.heap.size v v7:=hlow6.trans (hm8 0).low;obtain ⟨hd0,hcs,htab⟩:=j8I HOK.out hgot8.z hgot8.g hgot8.r hgot8.d hgot8.l hgot8.b;have CO:=j9 htab;have hcs2:∃ c:List Value,c=(jt x).cells hd0:=⟨_,rfl⟩;obtain ⟨c,hc⟩:=hcs2;rw [hcs,<-hc] at hbx8;rw [<-hc] at CO;have csl:c.length=131:=by have:=CO.size;rwa [Kh] at this
     have ONE:=CO.one;have HC:=hJJ hc;have HCS:=hJJ hcs;have HG8:=hJJ hgot8;have HBX8:=hJJ hbx8;have IC:Hid ((Tryz.prog.info? 33).map (·.size)=some c.length):=hJJ (by rw [csl];kernel_rfl);clear hcs hc hgot8 hbx8 htab CO hst8 hmv8 hr4 HM7 HST7;have hT8:=(hlow8.block tb (kb.1 HT.out).1).trans HT.out;have hF8:=(hlow8.block fb (kb.1 HF.out).1).trans HF.out;have HT8:=hJJ hT8;have hF9:(v7.setRow tb c.toArray).heap[fb]?=some (.cells #[I 0,I 0] 36 (0,0)):=by rw [qq _ _ _ _ (by omega)];exact hF8
     have HF9:=hJJ hF9;have IC2:Hid ((Tryz.prog.info? 33).map (·.size)=some c.toArray.size):=hJJ (by rw [Kh];exact IC.out);have ISZ:Hid (Z.size=c.toArray.size):=hJJ (by rw [EZS.out,Kh,csl]);have HONE:=hJJ ONE;have HL8:=hJJ hlow8;clear hT8 hF9 hF8 ONE csl hlow8;go_wp2_with (first | (refine Row.j7 33 _ rfl (by first | rfl | (go_simp;done) | fail) ⟨rt,0,none⟩ rfl c _ (by have:=Row.j1 HBX8.out;simpa using this) Tryz.underlying33 rfl IC.out ?_) | (refine ql rfl 33 _ _ rfl tb c.toArray rfl rfl 33 _ HT8.out IC2.out ISZ.out HONE.out ?_) | (refine ql rfl 36 _ _ rfl fb #[I 0,I 0] rfl rfl 36 _ HF9.out jW rfl (by simp [kx]) ?_))
     have hT9:((v7.setRow tb c.toArray).setRow fb #[I 0,I 0]).heap[tb]?=some (.cells c.toArray 33 (0,0)):=by
      rw [qq _ _ _ _ (by omega)];exact qm _ _ _ _ _ _ HT8.out
     have hF9:=qm _ fb _ #[I 0,I 0] _ _ HF9.out;have hlow9:Below w.heap.size w ((v7.setRow tb c.toArray).setRow fb #[I 0,I 0]):=below_setRow (below_setRow (HB.out.trans (HL8.out.mono HB.out.size)) (by omega) _) (by omega) _;have hgot9:=(HG8.out.kp (Kp.row c.toArray (show tb < rt+1 by omega))).kp (Kp.row #[I 0,I 0] (show fb < rt+1 by omega));generalize (v7.setRow tb c.toArray).setRow fb #[I 0,I 0]=v9 at hT9 hF9 hlow9 hgot9 |-
     (try go_wp2)
     refine qr (f:=15) (args:=#[.pointer (some ⟨fb,0,none⟩)]) (by simp) (by simp [go_sem]) ?_;refine (j9w fb 0 0 v9 hF9).mono ?_;rintro e u' w'' ⟨rfl,rfl,hbut,hF4⟩;have hT4:=(hbut.block tb (kb.1 hT9).1 (by omega)).trans hT9;have hgot4:=hgot9.kp (Kp.but hbut (show fb < rt+1 by omega));have hBB:Below w.heap.size w w'':=hlow9.trans (hbut.below hlow9.size (by omega));obtain ⟨hd9,hcs9,htab9⟩:=j8I HOK.out hgot4.z hgot4.g hgot4.r hgot4.d hgot4.l hgot4.b;have hc9:c=(jt x).cells hd9:=by rw [HC.out,<-HCS.out];exact hcs9
     refine ⟨_,jz rfl _ w'' tb fb 33 36 c.toArray #[I 0,I 0] _ _ rfl rfl hT4 hF4 Tryz.underlying33 rfl IC2.out Tryz.underlying36 rfl jW,hBB,?_⟩
     (try rw [e2])
     exact ⟨hd9,by rw [hc9],htab9⟩
end Rr
namespace By
open Go Go.RowKit
open Tab Po
open Rr (RP may JF JL j2q j2B)
open Put (low jE Jk j0Y lim)
open Nx (val be j11)
open Cd (ji phB JE rlB bsB j0v grB J5 JK J0 jP B8)
open CrcM (crc)
open May (jq inB jZ jF jQ j02)
def kdB (st:List Sp) (z:List Value):Bool:=st.all fun c=>match z[jS c]? with
 | some u=>kind u == kS c
 | none=>false
theorem j3J {st:List Sp} {z:List Value} (h:kdB st z=true):∀ c ∈ st,∃ u,z[jS c]?=some u/\kind u=kS c:=fun c hc=>by
 have h1:=Kl.1 h c hc;cases hu:z[jS c]? with
 | none=>rw [hu] at h1;cases h1
 | some u=>rw [hu] at h1;exact ⟨u,rfl,by simpa using h1⟩
theorem jf8:St j1H zPh where
 fit:=by decide +kernel
 nd:=by decide
 kd:=j3J (by decide)
 all:=fun L h=>by rw [<-j4L h];rfl
theorem jf9:St stD zDt where
 fit:=by decide +kernel
 nd:=by decide
 kd:=j3J (by decide)
 all:=fun L h=>by rw [<-j1S h];rfl
theorem jfa:St stR zRl where
 fit:=by decide +kernel
 nd:=by decide
 kd:=j3J (by decide)
 all:=fun L h=>by rw [<-j2A h];rfl
theorem jfb:St stB zBs where
 fit:=by decide +kernel
 nd:=by decide
 kd:=j3J (by decide)
 all:=fun L h=>by rw [<-j4M h];rfl
abbrev stT:List Sp:=[0,1,2,3,4].map (Sp.num 2 9999)
abbrev stK:List Sp:=[0,1].map (Sp.num 4 2147483647)
theorem jfc {m:Int} {L:List Value} (h:L.map kind=(ka 8 (I 0)).map kind):j6E L (st8 m 8) (ka 8 (I 0))=L:=by
 rw [kD] at h;have h1:=j4g (n:=8) h;have hl:=congrArg kR h;rw [kj,kC] at hl;obtain ⟨a0,a1,a2,a3,a4,a5,a6,a7,rfl⟩:=eight hl;rw [<-h1];rfl
theorem jaT:St (st8 255 8) (ka 8 (I 0)) where
 fit:=by decide +kernel
 nd:=by decide
 kd:=j3J (by decide)
 all:=fun L h=>jfc h
theorem jaU:St (st8 2 8) (ka 8 (I 0)) where
 fit:=by decide +kernel
 nd:=by decide
 kd:=j3J (by decide)
 all:=fun L h=>jfc h
theorem jee:St stT (ka 5 (I 0)) where
 fit:=by decide +kernel
 nd:=by decide
 kd:=j3J (by decide)
 all:=fun L h=>by
  rw [kD] at h;rw [jcg h];rfl
theorem jef:St stK (ka 2 (I 0)) where
 fit:=by decide +kernel
 nd:=by decide
 kd:=j3J (by decide)
 all:=fun L h=>by
  rw [kD] at h;rw [two h];rfl
def j6i (x:Raw):List Nat:=x.ph.flatMap (j0b j1H)++(j4T x.gs++(j0b (st8 255 8) x.cf++(j2s (j0b stD) x.ds++(j2s (j0b stR) x.rs++(j2s (j0b stB) x.bs++(j0b stT x.tm++(j0b (st8 2 8) x.fl++j0b stK x.tk)))))))
structure jaV (x:Raw):Prop where
 ph:∀ r ∈ x.ph,Jj j1H r=true
 gn:(x.gs.length:Int)<=4
 gs:∀ g ∈ x.gs,gG g=true
 cf:Jj (st8 255 8) x.cf=true
 dn:(x.ds.length:Int)<=16
 ds:∀ r ∈ x.ds,Jj stD r=true
 rn:(x.rs.length:Int)<=4
 rs:∀ r ∈ x.rs,Jj stR r=true
 bn:(x.bs.length:Int)<=4
 bs:∀ r ∈ x.bs,Jj stB r=true
 tm:Jj stT x.tm=true
 fl:Jj (st8 2 8) x.fl=true
 tk:Jj stK x.tk=true
section
variable {P:PP}
theorem j7i {x:Raw} {s s1 s2 s3 s4 s5 s6 s7 s8 s9:P.σ} (h1:jf P j1H (ka 8 zPh) s=.ok (x.ph,s1)) (h2:Jt P 4 s1=.ok (x.gs,s2)) (h3:runs P (st8 255 8) (ka 8 (I 0)) s2=.ok (x.cf,s3)) (h4:jr P 16 stD zDt s3=.ok (x.ds,s4)) (h5:jr P 4 stR zRl s4=.ok (x.rs,s5)) (h6:jr P 4 stB zBs s5=.ok (x.bs,s6)) (h7:runs P stT (ka 5 (I 0)) s6=.ok (x.tm,s7)) (h8:runs P (st8 2 8) (ka 8 (I 0)) s7=.ok (x.fl,s8)) (h9:runs P stK (ka 2 (I 0)) s8=.ok (x.tk,s9)):parts P s=.ok (x,s9):=by
 unfold parts;rw [h1,andThen_ok];simp only;rw [h2,andThen_ok];simp only;rw [h3,andThen_ok];simp only;rw [show jr P 16 stD [I 0,.float .f64 0,.float .f64 0,.float .f64 0,.float .f64 0,I 0,I 0] s3=_ from h4,andThen_ok];simp only;rw [show jr P 4 stR [I 0,I 0,I 0,I 0,I 0,I 0,I 0,I 0,I 0,I 0,I 0] s4=_ from h5,andThen_ok];simp only;rw [show jr P 4 stB [I 0,I 0] s5=_ from h6,andThen_ok];simp only;rw [h7,andThen_ok];simp only;rw [h8,andThen_ok];simp only;rw [h9,andThen_ok]
theorem j9x {x:Raw} {s s9:P.σ} (h:parts P s=.ok (x,s9)):∃ s1 s2 s3 s4 s5 s6 s7 s8,jf P j1H (ka 8 zPh) s=.ok (x.ph,s1)/\Jt P 4 s1=.ok (x.gs,s2)/\runs P (st8 255 8) (ka 8 (I 0)) s2=.ok (x.cf,s3)/\jr P 16 stD zDt s3=.ok (x.ds,s4)/\jr P 4 stR zRl s4=.ok (x.rs,s5)/\jr P 4 stB zBs s5=.ok (x.bs,s6)/\runs P stT (ka 5 (I 0)) s6=.ok (x.tm,s7)/\runs P (st8 2 8) (ka 8 (I 0)) s7=.ok (x.fl,s8)/\runs P stK (ka 2 (I 0)) s8=.ok (x.tk,s9):=by
 unfold parts at h;obtain ⟨x1,h1,h⟩:=Po.then_ok h;obtain ⟨x2,h2,h⟩:=Po.then_ok h;obtain ⟨x3,h3,h⟩:=Po.then_ok h;obtain ⟨x4,h4,h⟩:=Po.then_ok h;obtain ⟨x5,h5,h⟩:=Po.then_ok h;obtain ⟨x6,h6,h⟩:=Po.then_ok h;obtain ⟨x7,h7,h⟩:=Po.then_ok h;obtain ⟨x8,h8,h⟩:=Po.then_ok h;obtain ⟨x9,h9,h⟩:=Po.then_ok h;cases h;exact ⟨x1.2,x2.2,x3.2,x4.2,x5.2,x6.2,x7.2,x8.2,h1,h2,h3,h4,h5,h6,h7,h8,h9⟩
end
section
variable {bs:List Nat}
theorem j9y (hb:∀ x ∈ bs,x < 256) {x:Raw} {s s':Nat} (hs:s<=bs.length) (h:parts (RP bs) s=.ok (x,s')):jaV x/\s'=s+(j6i x).length/\s'<=bs.length/\bs.drop s=j6i x++bs.drop s':=by
 obtain ⟨s1,s2,s3,s4,s5,s6,s7,s8,h1,h2,h3,h4,h5,h6,h7,h8,h9⟩:=j9x h;obtain ⟨a1,b1,c1,e1⟩:=j3q hb jf8 8 hs h1;obtain ⟨n2,a2,b2,c2,e2⟩:=j9v hb c1 h2;obtain ⟨a3,b3,c3,e3,_⟩:=j1h hb _ jaT.kd jaT.nd jaT.fit c2 h3;obtain ⟨n4,a4,b4,c4,e4⟩:=j34 hb jf9 (by decide) c3 h4;obtain ⟨n5,a5,b5,c5,e5⟩:=j34 hb jfa (by decide) c4 h5;obtain ⟨n6,a6,b6,c6,e6⟩:=j34 hb jfb (by decide) c5 h6;obtain ⟨a7,b7,c7,e7,_⟩:=j1h hb _ jee.kd jee.nd jee.fit c6 h7;obtain ⟨a8,b8,c8,e8,_⟩:=j1h hb _ jaU.kd jaU.nd jaU.fit c7 h8;obtain ⟨a9,b9,c9,e9,_⟩:=j1h hb _ jef.kd jef.nd jef.fit c8 h9;refine ⟨⟨a1,n2,a2,a3,n4,a4,n5,a5,n6,a6,a7,a8,a9⟩,?_,c9,?_⟩
 ·unfold j6i;simp only [kk];omega
 unfold j6i;rw [e1,e2,e3,e4,e5,e6,e7,e8,e9];simp only [kq]
end
theorem j0Z (b:Bool):low 1 (Cd.one b)=[if b=true then 1 else 0]:=by cases b <;> decide +kernel
theorem jeg (p:Ph):j0b j1H p.cells=phB p:=by
 have h:j0b j1H p.cells=[if p.on=true then 1 else 0]++(low 2 p.min++(low 2 p.gap++(low 2 p.max++(low 2 p.top++(low 2 p.step++(low 2 p.yellow++(low 2 p.red++(low 2 p.walk++(low 2 p.blinks++(low 1 p.J4++([if p.lock=true then 1 else 0]++([if p.rest=true then 1 else 0]++[])))))))))))):=rfl;rw [h];simp [phB,ji,j0Z]
theorem jeh (p:Det):j0b stD p.cells=JE p:=by
 have h:j0b stD p.cells=low 1 p.phase++(low 8 (p.on:Int)++(low 8 (p.off:Int)++(low 8 (p.delay:Int)++(low 8 (p.extend:Int)++(low 2 p.maxOn++(low 2 p.maxOff++[])))))):=rfl;rw [h];simp [JE,ji,j0Z]
theorem jei (p:Rl):j0b stR p.cells=rlB p:=by
 have h:j0b stR p.cells=low 1 p.bars++(low 1 p.clear++(low 1 p.dwell++(low 1 p.exit++(low 2 p.delay++(low 2 p.green++(low 2 p.foot++(low 2 p.hold++(low 2 p.stay++(low 2 p.most++(low 4 p.limit++[])))))))))):=rfl;rw [h];simp [rlB,ji,j0Z]
theorem jej (p:Bs):j0b stB p.cells=bsB p:=by
 have h:j0b stB p.cells=low 1 p.set++(low 2 p.lock++[]):=rfl;rw [h];simp [bsB,ji]
theorem jcE (n:Int):j0b stI [I n]=low 1 n:=by
 have h:j0b stI [I n]=low 1 n++[]:=rfl;rw [h,kT]
theorem jaW (p:Ph):Jj j1H p.cells=May.Ph.may p:=by
 rw [kv];simp [Jj,May.Ph.may,jq,inB,j1D,jS,Ph.cells,and_assoc]
theorem jaX (p:Rl):Jj stR p.cells=May.Rl.may p:=by
 rw [kv];simp [Jj,May.Rl.may,jq,inB,j1D,jS,Rl.cells,and_assoc]
theorem jaY (p:Bs):Jj stB p.cells=May.Bs.may p:=by
 rw [kv];simp [Jj,May.Bs.may,jq,inB,j1D,jS,Bs.cells,and_assoc]
theorem jcF (n:Int):Jj stI [I n]=inB 7 n:=by
 rw [kv];simp [Jj,inB,j1D,jS]
def jaZ (d:Det):Prop:=d.on < 18446744073709551616/\d.off < 18446744073709551616/\d.delay < 18446744073709551616/\d.extend < 18446744073709551616
theorem j84 (p:Det):Jj stD p.cells=true ↔ May.Det.may p=true/\jaZ p:=by
 simp [Jj,May.Det.may,jq,inB,j1D,jS,Det.cells,may,jaZ];constructor
 ·rintro ⟨a,⟨b,b2⟩,⟨c,c2⟩,⟨d,d2⟩,⟨e,e2⟩,f⟩;simp_all
 rintro ⟨⟨a,b,c,d,e,f⟩,b2,c2,d2,e2⟩;simp_all
end By
namespace By
open Go Go.RowKit
open Tab Po
open Rr (RP may JF JL j2q j2B)
open Put (low jE Jk j0Y lim)
open Nx (val be j11)
open Cd (ji phB JE rlB bsB j0v grB J5 JK J0 jP B8)
open CrcM (crc)
open May (jq inB jZ jF jQ j02)
def jb0 (T:Tab):Prop:=∀ d ∈ T.dets,jaZ d
structure j7j (T:Tab):Prop where
 p:T.phases.length=8
 c:T.conflict.length=8
 f:T.flash.length=8
theorem j8L {α:Type} {f:List Value->List Nat} {g:α->List Value} {h:α->List Nat} (e:∀ a,f (g a)=h a) (l:List α):(l.map g).flatMap f=l.flatMap h:=by
 rw [KL];congr 1;funext a;exact e a
theorem j4h {α:Type} {f:List Value->List Nat} {g:α->List Value} {h:α->List Nat} (e:∀ a,f (g a)=h a) (l:List α):j2s f (l.map g)=J5 h l:=by
 unfold j2s J5;rw [kj,j8L e]
theorem j8M (l:List Int):j9u (l.map (fun n=>[I n]))=j0v l:=by
 unfold j9u;rw [j4h (f:=j0b stI) (g:=fun n=>[I n]) (h:=low 1) jcE];rfl
theorem jb1 (gs:List (List Int × List Int)):j4T (gs.map (fun g=>(g.1.map (fun n=>[I n]),g.2.map (fun n=>[I n]))))=J5 grB gs:=by
 unfold j4T J5;rw [kj,KL];congr 1;congr 1;funext g;unfold j7d grB;simp only;rw [j8M,j8M]
theorem jdv {m:Int} {l:List Int} (h:l.length=8):j0b (st8 m 8) (l.map I)=ji 1 l:=by
 obtain ⟨a0,a1,a2,a3,a4,a5,a6,a7,rfl⟩:=eight h;rfl
theorem j8N {m:Int} {l:List Int} (h:l.length=8):Jj (st8 m 8) (l.map I)=jq m l:=by
 obtain ⟨a0,a1,a2,a3,a4,a5,a6,a7,rfl⟩:=eight h;rw [kv];simp [Jj,st8,KD,List.range.loop,jq,inB,j1D,jS,and_assoc]
theorem jcG {T:Tab} (h:j7j T):j6i (j0R T)=JK T:=by
 unfold j6i j0R JK;simp only;rw [j8L jeg,jb1,jdv h.c,j4h jeh,j4h jei,j4h jej,jdv h.f];rfl
theorem j7k (l:List Int):j7e (l.map (fun n=>[I n]))=j02 l:=by
 unfold j7e j02 jq;rw [kj,List.all_map];congr 1
 ·by_cases h:l.length<=8
  ·rw [decide_eq_true h,decide_eq_true (by omega)]
  rw [decide_eq_false h,decide_eq_false (by omega)]
 congr 1;funext n;exact jcF n
theorem j7l (g:List Int × List Int):gG (g.1.map (fun n=>[I n]),g.2.map (fun n=>[I n]))=jQ g:=by
 unfold gG jQ;simp only;rw [j7k,j7k]
theorem jdw (a b c d e:Int):Jj stT [I a,I b,I c,I d,I e]=jq 9999 [a,b,c,d,e]:=by
 rw [kv];simp [Jj,jq,inB,j1D,jS,and_assoc]
theorem jdx (a b:Int):Jj stK [I a,I b]=jq 2147483647 [a,b]:=by
 rw [kv];simp [Jj,jq,inB,j1D,jS,and_assoc]
theorem j7m {α:Type} {m:Int} {f:α->Bool} {l:List α}:jF m f l=true ↔ (l.length:Int)<=m/\∀ v ∈ l,f v=true:=by
 unfold jF;rw [kX,decide_eq_true_eq,Kl]
theorem j1T {α:Type} {g:α->List Value} {f:List Value->Bool} {l:List α}:(∀ r ∈ l.map g,f r=true) ↔ ∀ v ∈ l,f (g v)=true:=by
 constructor
 ·intro h v hv;exact h _ (kO hv)
 intro h r hr;obtain ⟨v,hv,rfl⟩:=Ks.1 hr;exact h v hv
theorem jb2 {T:Tab} (h:j7j T):jaV (j0R T) ↔ jZ T=true/\jb0 T:=by
 unfold jZ;simp only [kX,j7m];constructor
 ·intro g;have gp:=g.ph;have gg:=g.gs;have gc:=g.cf;have gd:=g.ds;have gr:=g.rs;have gb:=g.bs;have gt:=g.tm;have gf:=g.fl;have gk:=g.tk;have n1:=g.gn;have n2:=g.dn;have n3:=g.rn;have n4:=g.bn;simp only [j0R,kj] at gp gg gc gd gr gb gt gf gk n1 n2 n3 n4;rw [j8N h.c] at gc;rw [j8N h.f] at gf;rw [jdw] at gt;rw [jdx] at gk;have gd2:=j1T.1 gd;refine ⟨⟨⟨by rw [h.p];decide,fun v hv=>by have:=j1T.1 gp v hv;rwa [jaW] at this⟩,⟨n1,fun v hv=>?_⟩,gc,⟨n2,fun v hv=>((j84 v).1 (gd2 v hv)).1⟩,⟨n3,fun v hv=>by have:=j1T.1 gr v hv;rwa [jaX] at this⟩,⟨n4,fun v hv=>by have:=j1T.1 gb v hv;rwa [jaY] at this⟩,gt,gf,gk⟩,fun d hd=>((j84 d).1 (gd2 d hd)).2⟩;have:=gg _ (kO hv)
  rwa [j7l] at this
 rintro ⟨⟨⟨_,p⟩,⟨n1,gs⟩,c,⟨n2,d⟩,⟨n3,r⟩,⟨n4,b⟩,t,f,k⟩,fd⟩;refine ⟨j1T.2 fun v hv=>by rw [jaW];exact p v hv,?_,?_,?_,?_,j1T.2 fun v hv=>(j84 v).2 ⟨d v hv,fd v hv⟩,?_,j1T.2 fun v hv=>by rw [jaX];exact r v hv,?_,j1T.2 fun v hv=>by rw [jaY];exact b v hv,?_,?_,?_⟩
 ·simp only [j0R,kj];exact n1
 ·intro g hg;obtain ⟨v,hv,rfl⟩:=Ks.1 hg;rw [j7l];exact gs v hv
 ·simp only [j0R];rw [j8N h.c];exact c
 ·simp only [j0R,kj];exact n2
 ·simp only [j0R,kj];exact n3
 ·simp only [j0R,kj];exact n4
 ·simp only [j0R];rw [jdw];exact t
 ·simp only [j0R];rw [j8N h.f];exact f
 simp only [j0R];rw [jdx];exact k
theorem jb3 {bs:List Nat} (hb:∀ x ∈ bs,x < 256) {s:Nat} (h:JL bs=.ok s):s=3/\3<=bs.length/\bs=[88,66,1]++bs.drop 3:=by
 unfold JL at h;rw [j3p (0:Nat) 3 16777215 0 (by decide),show lim 3 7=3 by decide] at h;by_cases h1:bs.length < 0+3
 ·rw [if_pos h1] at h;cases h
 rw [if_neg h1] at h;by_cases h2:(16777215:Int) < (val bs 0 3:Int)
 ·rw [if_pos h2] at h;cases h
 rw [if_neg h2] at h;simp only at h;by_cases h3:(val bs 0 3:Int)=5784065
 ·rw [if_pos h3] at h;have h4:0+3=s:=KC h;have h5:=j2j hb (s:=0) (k:=3) (by omega);rw [h3,kA,show low 3 5784065=[88,66,1] by decide +kernel] at h5;exact ⟨by omega,by omega,h5⟩
 rw [if_neg h3] at h;cases h
theorem jcH {bs:List Nat} (hb:∀ x ∈ bs,x < 256) {s s':Nat} (h:j2q bs s=.ok s'):s'=s+2/\s'<=bs.length/\bs.drop s=low 2 ((crc 65535 (bs.take s):Nat):Int)++bs.drop s':=by
 unfold j2q at h;rw [j3p s 2 65535 0 (by decide),show lim 2 7=2 by decide] at h;by_cases h1:bs.length < s+2
 ·rw [if_pos h1] at h;cases h
 rw [if_neg h1] at h;by_cases h2:(65535:Int) < (val bs s 2:Int)
 ·rw [if_pos h2] at h;cases h
 rw [if_neg h2] at h;simp only at h;by_cases h3:(val bs s 2:Int)=((crc 65535 (bs.take s):Nat):Int)
 ·rw [if_pos h3] at h;have h4:s+2=s':=KC h;subst h4;refine ⟨rfl,by omega,?_⟩;rw [<-h3];exact j2j hb (by omega)
 rw [if_neg h3] at h;cases h
theorem jcI {bs:List Nat} {x:Raw} (h:JF bs=.ok x):bs.length<=2048/\∃ (s1 s2 s3 s4:Nat),JL bs=.ok s1/\parts (RP bs) s1=.ok (x,s2)/\j2q bs s2=.ok s3/\j2B bs s3=.ok s4:=by
 unfold JF at h;by_cases hbig:2048 < bs.length
 ·rw [if_pos hbig] at h;cases h
 rw [if_neg hbig] at h;obtain ⟨s1,h1,h⟩:=Po.then_ok h;obtain ⟨x2,h2,h⟩:=Po.then_ok h;obtain ⟨s3,h3,h⟩:=Po.then_ok h;obtain ⟨s4,h4,h⟩:=Po.then_ok h;cases h;exact ⟨by omega,s1,x2.2,s3,s4,h1,h2,h3,h4⟩
theorem jcJ {bs:List Nat} (hb:∀ x ∈ bs,x < 256) {x:Raw} (h:JF bs=.ok x):j5E x/\bs=jP (J0 (jt x))/\jZ (jt x)=true/\jb0 (jt x)/\j7j (jt x)/\bs.length<=2048:=by
 obtain ⟨hbig,s1,s2,s3,s4,h1,h2,h3,h4⟩:=jcI h;obtain ⟨rfl,hl3,e3⟩:=jb3 hb h1;have hok:=j4Q (je6 hb) h2;obtain ⟨hg,hs2,hl2,hd2⟩:=j9y hb hl3 h2;obtain ⟨rfl,hl4,hd4⟩:=jcH hb h3;unfold j2B at h4;by_cases he:s2+2 < bs.length
 ·rw [if_pos he] at h4;cases h4
 have hraw:=j6f hok
 have hlen:j7j (jt x):=by
  refine ⟨?_,?_,?_⟩
  ·simp only [jt,kj];exact hok.pn
  ·simp only [jt,kj];have:=congrArg kR hok.cf
   rwa [kj,kC] at this
  simp only [jt,kj];have:=congrArg kR hok.fl
  rwa [kj,kC] at this
 have hbody:J0 (jt x)=[88,66,1]++j6i x:=by
  have he:j6i x=JK (jt x):=by have:=jcG hlen;rwa [hraw] at this
  rw [he];rfl
 have hg2:jaV (j0R (jt x)):=by rw [hraw];exact hg
 have hmf:=(jb2 hlen).1 hg2;refine ⟨hok,?_,hmf.1,hmf.2,hlen,by omega⟩;have hnil:bs.drop (s2+2)=[]:=List.drop_eq_nil_of_le (by omega);rw [hnil,kT] at hd4
 have htake:bs.take s2=J0 (jt x):=by
  have t1:bs.take s2++bs.drop s2=bs:=kU _ _;rw [hbody]
  have t2:bs=([88,66,1]++j6i x)++bs.drop s2:=by
   rw [kq,<-hd2];exact e3
  conv=>lhs;rw [t2]
  refine List.take_left' ?_;rw [kk,hs2];rfl
 rw [htake] at hd4;unfold jP;rw [<-hd4,<-htake,kU]
end By
namespace By
open Go Go.RowKit
open Tab Po
open Rr (JF j1t j83)
open Cd (J0 jP B8)
open May (jZ)
theorem j9z {n:Nat} {W:World} {v:Value} {l:List Nat} (h:B.Own n W v l) (hl:∀ x ∈ l,x < 256):∃ a cap,v=.slice a l.length cap/\B.Row W a l/\l.length<=cap/\(a=none->cap=0):=by
 obtain ⟨a,c,e,hr⟩:=B.jY h hl;rcases h.2 with ⟨h1,h2⟩ | ⟨g,cap,cur,h1,h2,h3,h4,h5⟩
 ·rw [e] at h1;injection h1 with q1 q2 q3
  exact ⟨_,_,e,hr,by omega,fun _=>q3⟩
 rw [e] at h1;injection h1 with q1 q2 q3
 subst q1 q3;exact ⟨_,_,e,hr,h4,fun h=>by cases h⟩
theorem jcK (T:Tab):∀ x ∈ jP (J0 T),x < 256:=(B8.body T).app (B8.low _ _)
theorem j9A {T:Tab} {hd:Hd} {w:World} (ht:jy w hd T) (hm:jZ T=true):Calls Tryz.prog 13 #[.agg (T.cells hd).toArray] w fun e w'=>∃ a cap,e=.returned (.tuple #[.slice a (jP (J0 T)).length cap,I 0])/\B.Row w' a (jP (J0 T))/\(jP (J0 T)).length<=cap/\(a=none->cap=0)/\Below w.heap.size w w' :=
 (Po.j6Y ht hm).mono fun e w' ⟨v,h1,h2,h3⟩=>by
  obtain ⟨a,cap,rfl,hr,hc,hn⟩:=j9z h2 (jcK T);exact ⟨a,cap,h1,hr,hc,hn,h3⟩
end By
namespace SetM
def low (s:Int):Nat:=(s % 256).toNat
theorem Jk (s:Int):low s < 256:=by unfold low;omega
def has (s p:Int):Bool:=decide (0<=p) && (low s).testBit p.toNat
def bit (p:Int):Nat:=if 0<=p/\p < 8 then 2 ^ p.toNat else 0
def j08 (s p:Int):Nat:=low s ||| bit p
theorem j9B (s:Int):(K5 64 s).toNat % 256=low s:=by
 rw [KE];unfold low;show (s % ((18446744073709551616:Nat):Int)).toNat % 256=_;omega
theorem toNat_ofNat (b:Nat) (h:b < 256):(K5 64 (b:Int)).toNat=b:=by
 rw [KE];show ((b:Int) % ((18446744073709551616:Nat):Int)).toNat=_;omega
theorem wrap_small (n:Nat) (h:n < 256):kV.wrap (n:Int)=n:=by
 rw [kE];omega
theorem jcL (s:Int) (b:Nat) (h:b < 256):bits .and .i64 s (b:Int)=((low s &&& b:Nat):Int):=by
 show kV.wrap ((K5 64 s &&& K5 64 (b:Int)).toNat:Nat)=_;rw [BitVec.toNat_and,toNat_ofNat b h];have h1:(K5 64 s).toNat &&& b < 256:=Nat.and_lt_two_pow (n:=8) _ h;have h2:((K5 64 s).toNat &&& b) % 2 ^ 8=_:=Nat.and_mod_two_pow;rw [wrap_small _ h1,<-j9B s];rw [KM h1,KM (show b < 2 ^ 8 from h)] at h2;rw [h2]
theorem j60 (p:Int):bit p < 256:=by
 unfold bit;split
 ·rename_i h;have:2 ^ p.toNat<=2 ^ 7:=kW (by decide) (by omega);omega
 decide
theorem jcM (s p:Int):j08 s p < 256:=Ki (n:=8) (Jk s) (j60 p)
theorem j3r (m k:Nat) (h:m < 256) (hk:8<=k):m.testBit k=false :=
 Nat.testBit_lt_two_pow (kr h (kW (n:=2) (by decide) hk:2 ^ 8<=2 ^ k))
theorem jb4 (p:Int) (k:Nat):(bit p).testBit k=decide ((k:Int)=p/\k < 8):=by
 unfold bit;split
 ·rename_i h;rw [KB];rw [kv,decide_eq_true_iff,decide_eq_true_iff];omega
 rename_i h;rw [KN];symm;rw [decide_eq_false_iff_not];omega
theorem j8O (s p:Int) (h:p < 0):has s p=false:=by unfold has;rw [decide_eq_false (by omega)];rfl
theorem j8P (s p:Int) (h:8<=p):has s p=false:=by
 unfold has;rw [j3r _ _ (Jk s) (by omega),Bool.and_false]
theorem j2k (s:Int) (k:Nat):has s k=(low s).testBit k:=by unfold has;simp
theorem jcN (s:Int) (k:Nat) (h:k < 8):bits .and .i64 (s / 2 ^ k) 1=if has s k then 1 else 0:=by
 have h1:=jcL (s / 2 ^ k) 1 (by decide)
 have h2:low (s / 2 ^ k) &&& 1=low s / 2 ^ k % 2:=by
  rw [Nat.and_one_is_mod];have h3:k=0\/k=1\/k=2\/k=3\/k=4\/k=5\/k=6\/k=7:=by omega
  unfold low;rcases h3 with rfl | rfl | rfl | rfl | rfl | rfl | rfl | rfl;all_goals (simp only [Nat.reducePow,Int.reducePow];omega)
 rw [h2] at h1;rw [j2k,Nat.testBit_eq_decide_div_mod_eq];rw [show ((1:Nat):Int)=1 from rfl] at h1;rw [h1];have h4:low s / 2 ^ k % 2 < 2:=Nat.mod_lt _ (by decide);split <;> rename_i h5
 ·rw [of_decide_eq_true h5];rfl
 have:low s / 2 ^ k % 2=0:=by simp at h5;omega
 rw [this];rfl
def upto (s:Int) (k:Nat):List Int:=((KD k).filter fun j=>(low s).testBit j).map qb
def list (s:Int):List Int:=upto s 8
theorem j9C (s:Int):upto s 0=[]:=rfl
theorem jb5 (s:Int) (k:Nat) (h:has s k=true):upto s (k+1)=upto s k++[(k:Int)]:=by
 rw [j2k] at h;unfold upto;rw [K8,KF,K9];simp [h]
theorem j9D (s:Int) (k:Nat) (h:has s k=false):upto s (k+1)=upto s k:=by
 rw [j2k] at h;unfold upto;rw [K8,KF,K9];simp [h]
theorem j7n (s:Int) (k:Nat):(upto s k).length<=k:=by
 unfold upto;rw [kj];have:=List.length_filter_le (fun j=>(low s).testBit j) (KD k);simpa using this
theorem j4U (s:Int):(list s).length<=8:=j7n s 8
theorem j7o (s p:Int):p ∈ list s ↔ has s p=true:=by
 unfold list upto;rw [Ks];constructor
 ·rintro ⟨j,hj,rfl⟩;rw [Kw] at hj;rw [show qb j=(j:Int) from rfl,j2k];exact hj.2
 intro h
 have h0:0<=p:=by
  by_cases h1:0<=p
  ·exact h1
  rw [j8O s p (by omega)] at h;cases h
 have h8:p < 8:=by
  by_cases h1:p < 8
  ·exact h1
  rw [j8P s p (by omega)] at h;cases h
 obtain ⟨k,rfl⟩:=Kq h0;rw [j2k] at h;have h9:k < 8:=by omega
 exact ⟨k,Kw.2 ⟨q4.2 h9,h⟩,rfl⟩
theorem j6j (s p:Int) (h:p ∈ list s):0<=p/\p < 8:=by
 unfold list upto at h;obtain ⟨j,hj,rfl⟩:=Ks.1 h;have:=q4.1 (Kw.1 hj).1;rw [show qb j=(j:Int) from rfl];omega
def of (l:List Int):Nat:=l.foldl (fun m p=>m ||| bit p) 0
theorem jcO (l:List Int) (p:Int):of (l++[p])=of l ||| bit p:=by unfold of;rw [List.foldl_append];rfl
theorem jcP (l:List Int) (m:Nat) (h:m < 256):l.foldl (fun m p=>m ||| bit p) m < 256:=by
 induction l generalizing m with
 | nil=>exact h
 | cons p l ih=>exact ih _ (Ki (n:=8) h (j60 p))
theorem of_lt (l:List Int):of l < 256:=jcP l 0 (by decide)
theorem j9E (l:List Int) (m k:Nat):(l.foldl (fun m p=>m ||| bit p) m).testBit k=(m.testBit k || decide ((k:Int) ∈ l/\k < 8)):=by
 induction l generalizing m with
 | nil=>simp
 | cons p l ih =>
  rw [List.foldl_cons,ih,q5,jb4,Bool.or_assoc];congr 1;rw [kv,KW,decide_eq_true_iff,decide_eq_true_iff,decide_eq_true_iff,Kj];constructor
  ·rintro (⟨a,b⟩ | ⟨a,b⟩)
   ·exact ⟨.inl a,b⟩
   exact ⟨.inr a,b⟩
  rintro ⟨a | a,b⟩
  ·exact .inl ⟨a,b⟩
  exact .inr ⟨a,b⟩
theorem j8Q (l:List Int) (k:Nat):(of l).testBit k=decide ((k:Int) ∈ l/\k < 8):=by
 unfold of;rw [j9E,KN,Bool.false_or]
theorem jdy {m m':Nat} (h:m < 256) (h':m' < 256) (e:∀ k,k < 8->m.testBit k=m'.testBit k):m=m':=by
 apply Nat.eq_of_testBit_eq;intro k;by_cases hk:k < 8
 ·exact e k hk
 rw [j3r m k h (by omega),j3r m' k h' (by omega)]
def JS (l:List Int):Nat->Nat
 | 0=>0
 | k+1=>if (k:Int) ∈ l then JS l k ||| 2 ^ k else JS l k
theorem j5F (l:List Int) (k:Nat) (h:(k:Int) ∈ l):JS l (k+1)=JS l k ||| 2 ^ k:=by rw [JS,if_pos h]
theorem j4V (l:List Int) (k:Nat) (h:¬ (k:Int) ∈ l):JS l (k+1)=JS l k:=by rw [JS,if_neg h]
theorem j7p (l:List Int) (k:Nat):JS l k < 2 ^ k:=by
 induction k with
 | zero=>exact Nat.one_pos
 | succ k ih =>
  have h1:JS l k < 2 ^ (k+1):=kr ih (kW (by decide) (by omega));rw [JS];split
  ·exact Ki h1 (Kz (by decide) (by omega))
  exact h1
theorem j85 (l:List Int) (k j:Nat):(JS l k).testBit j=decide (j < k/\(j:Int) ∈ l):=by
 induction k with
 | zero=>simp [JS]
 | succ k ih =>
  by_cases h:(k:Int) ∈ l
  ·rw [j5F l k h,q5,ih,KB,kv,KW,decide_eq_true_iff,decide_eq_true_iff,decide_eq_true_iff];constructor
   ·rintro (⟨a,b⟩ | rfl)
    ·exact ⟨by omega,b⟩
    exact ⟨by omega,h⟩
   rintro ⟨a,b⟩;by_cases e:k=j
   ·exact .inr e
   exact .inl ⟨by omega,b⟩
  rw [j4V l k h,ih,kv,decide_eq_true_iff,decide_eq_true_iff];constructor
  ·rintro ⟨a,b⟩;exact ⟨by omega,b⟩
  rintro ⟨a,b⟩;have:j ≠ k:=by rintro rfl;exact h b
  exact ⟨by omega,b⟩
theorem jb6 (l:List Int):JS l 8=of l:=by
 refine jdy (j7p l 8) (of_lt l) fun k hk=>?_;rw [j85,j8Q,kv,decide_eq_true_iff,decide_eq_true_iff,and_comm]
theorem j9F (s:Int) (k:Nat) (hk:k < 8):decide ((k:Int) ∈ list s/\k < 8)=(low s).testBit k:=by
 rw [kv,decide_eq_true_iff,j7o,j2k];exact ⟨fun h=>h.1,fun h=>⟨h,hk⟩⟩
theorem jcQ (s:Int):of (list s)=low s:=by
 refine jdy (of_lt _) (Jk s) fun k hk=>?_;rw [j8Q,j9F s k hk]
theorem jcR (s p:Int):of (list s++[p])=j08 s p:=by
 rw [jcO,jcQ];rfl
end SetM
namespace RefS
open Go.ChangeShapes Go.WideShapes Go.ChangeAt Go.RowKit
open Go.Proofs.YtonpphjleapafaaGreat
theorem jn {k:IntKind} {a b:Int} (h:a=b):KX (.int k a)=.returned (.int k b):=by rw [h]
theorem j3 {a b:Bool} (h:a=b):KX (.bool a)=.returned (.bool b):=by rw [h]
theorem eight {p:Int} (h:0<=p) (h':p < 8):p=0\/p=1\/p=2\/p=3\/p=4\/p=5\/p=6\/p=7:=by omega
theorem j12 (s:Int) (k:Nat) (h:k < 8):(bits .and .i64 (s / 2 ^ k) 1 == 1)=SetM.has s k:=by
 rw [SetM.jcN s k h];cases SetM.has s k <;> rfl
theorem j1i (s p:Int) (w:World):Calls Tryz.prog 100 #[.int .i64 s,.int .i64 p] w fun e w'=>e=.returned (.bool (SetM.has s p))/\w=w':=by
 by_cases h1:p < 0
 ·have HB:=kz (SetM.j8O s p h1);go_enter Tryz.func100,Tryz.ntmps100
  go_wp2;go_ret;exact ⟨j3 HB.out.symm,rfl⟩
 by_cases h2:8<=p
 ·have HB:=kz (SetM.j8P s p h2);go_enter Tryz.func100,Tryz.ntmps100
  go_wp2;go_ret;exact ⟨j3 HB.out.symm,rfl⟩
 rcases eight (p:=p) (by omega) (by omega) with rfl | rfl | rfl | rfl | rfl | rfl | rfl | rfl
 ·have HB:=kz (show (bits .and .i64 s 1 == 1)=SetM.has s 0 from by have:=j12 s 0 (by decide);simpa using this);clear h1 h2;go_enter Tryz.func100,Tryz.ntmps100
  go_wp2;go_ret;exact ⟨j3 HB.out,rfl⟩
 ·have HB:=kz (show (bits .and .i64 (s / 2) 1 == 1)=SetM.has s 1 from j12 s 1 (by decide));clear h1 h2;go_enter Tryz.func100,Tryz.ntmps100
  go_wp2;go_ret;exact ⟨j3 HB.out,rfl⟩
 ·have HB:=kz (show (bits .and .i64 (s / 4) 1 == 1)=SetM.has s 2 from j12 s 2 (by decide));clear h1 h2;go_enter Tryz.func100,Tryz.ntmps100
  go_wp2;go_ret;exact ⟨j3 HB.out,rfl⟩
 ·have HB:=kz (show (bits .and .i64 (s / 8) 1 == 1)=SetM.has s 3 from j12 s 3 (by decide));clear h1 h2;go_enter Tryz.func100,Tryz.ntmps100
  go_wp2;go_ret;exact ⟨j3 HB.out,rfl⟩
 ·have HB:=kz (show (bits .and .i64 (s / 16) 1 == 1)=SetM.has s 4 from j12 s 4 (by decide));clear h1 h2;go_enter Tryz.func100,Tryz.ntmps100
  go_wp2;go_ret;exact ⟨j3 HB.out,rfl⟩
 ·have HB:=kz (show (bits .and .i64 (s / 32) 1 == 1)=SetM.has s 5 from j12 s 5 (by decide));clear h1 h2;go_enter Tryz.func100,Tryz.ntmps100
  go_wp2;go_ret;exact ⟨j3 HB.out,rfl⟩
 ·have HB:=kz (show (bits .and .i64 (s / 64) 1 == 1)=SetM.has s 6 from j12 s 6 (by decide));clear h1 h2;go_enter Tryz.func100,Tryz.ntmps100
  go_wp2;go_ret;exact ⟨j3 HB.out,rfl⟩
 have HB:=kz (show (bits .and .i64 (s / 128) 1 == 1)=SetM.has s 7 from j12 s 7 (by decide));clear h1 h2;go_enter Tryz.func100,Tryz.ntmps100
 go_wp2;go_ret;exact ⟨j3 HB.out,rfl⟩
theorem j1E:(Tryz.prog.info? 3).map (fun i=>(i.zero,i.size,i.bytes))=some (some (.int .i64 0),1,8):=by kernel_rfl
def jd (B:Nat) (W:World) (v:Value) (l:List Int):Prop:=W.ownsRow B 3 1 v l.length (l.map (Kn .i64))/\(v=.slice none 0 0 ↔ l=[])
def jfE (w:World) (l:List Int) (e:Ending) (W':World):Prop:=∃ v,e=.returned v/\jd w.heap.size W' v l/\Below w.heap.size w W'
theorem j8R {W:World} {n₀ e size k:Nat} {v:Value} {xs:List Value} (h:W.ownsRow n₀ e size v k xs) (j:Nat) (hj:v.ownBlock=some j):n₀<=j:=by
 rcases h.2 with ⟨rfl,_⟩ | ⟨g,cap,cur,rfl,hb,_,_⟩
 ·simp [kL] at hj
 obtain rfl:g=j:=by simpa [kL] using hj
 exact hb
theorem jb7 (pre:List Int) (x:Int):pre.map (Kn .i64)++[.int .i64 x]=(pre++[x]).map (Kn .i64):=by simp
theorem add_zero (x:Addr):x.add 0=x:=by cases x;simp [q6]
def Row (w:World) (a:Option Addr) (l:List Int):Prop:=l.length<=maxLen/\(l=[]\/∃ x,a=some x/\∀ i,i < l.length->w.cell? (x.add i)=some (.int .i64 (l.getD i 0)))
theorem Row.cells {w:World} {a:Option Addr} {l:List Int} (h:Row w a l) {k:Nat} (hk:k < l.length):∃ x,a=some x/\∀ i,i < l.length->w.cell? (x.add i)=some (.int .i64 (l.getD i 0)):=by
 rcases h.2 with rfl | h
 ·simp at hk
 exact h
theorem Row.below {w w':World} {a:Option Addr} {l:List Int} (h:Row w a l) (hb:Below w.heap.size w w'):Row w' a l:=by
 refine ⟨h.1,?_⟩;rcases h.2 with h | ⟨x,hx,hc⟩
 ·exact .inl h
 exact .inr ⟨x,hx,fun i hi=>(hb.cell (World.block_lt_of_cell? w _ (hc i hi))).trans (hc i hi)⟩
theorem j86 {B:Nat} {w:World} {v:Value} {l:List Int} (h:jd B w v l):∃ a cap,v=.slice a l.length cap/\Row w a l:=by
 rcases h.1.2 with ⟨rfl,h0⟩ | ⟨g,cap,cur,rfl,h1,h2,h3,h4,h5,h6⟩
 ·have:l=[]:=h.2.1 rfl;subst this;exact ⟨none,0,rfl,kQ _,.inl rfl⟩
 refine ⟨_,cap,rfl,by omega,.inr ⟨_,rfl,fun i hi=>?_⟩⟩;exact h.1.cells (g:=g) rfl i (.int .i64 (l.getD i 0)) (by rw [KI,kw,kt hi];rfl)
theorem take_succ (l:List Int) (k:Nat) (h:k < l.length):l.take (k+1)=l.take k++[l.getD k 0]:=by
 rw [K6 h,kw,kt h];rfl
theorem jb8 (m b:Nat) (hm:m < 256) (hb:b < 256):bits .or .i64 (m:Int) (b:Int)=((m ||| b:Nat):Int) :=
 (bits_nat .i64 8 (by decide) (fun n h0 h1=>by rw [kE];omega) m b hm hb).2
theorem jek (l:List Int) (k:Nat) (h:k<=8):SetM.JS l k < 256:=kr (SetM.j7p l k) (kW (n:=2) (by decide) h:2 ^ k<=2 ^ 8)
theorem jel (l:List Int) (k:Nat) (h:k < 8) (hm:(k:Int) ∈ l):bits .or .i64 (SetM.JS l k:Nat) ((2 ^ k:Nat):Int)=(SetM.JS l (k+1):Nat):=by
 rw [jb8 _ _ (jek l k (by omega)) (show 2 ^ k < 2 ^ 8 from Kz (by decide) h),SetM.j5F l k hm]
theorem jb9 (k:Nat) (h:k < 8):wrap64 ((2:Int) ^ k)=((2 ^ k:Nat):Int):=by
 have h3:k=0\/k=1\/k=2\/k=3\/k=4\/k=5\/k=6\/k=7:=by omega
 rcases h3 with rfl | rfl | rfl | rfl | rfl | rfl | rfl | rfl <;> decide +kernel
theorem jcS (l:List Int) (k:Nat) (h:k < 8) (hm:(k:Int) ∈ l):bits .or .i64 (SetM.JS l k:Nat) (wrap64 ((2:Int) ^ k))=(SetM.JS l (k+1):Nat):=by
 rw [jb9 k h,jel l k h hm]
theorem jba {l:List Int} {p:Int} (h:p ∈ l):∃ j,j < l.length/\l.getD j 0=p/\∀ i,i < j->l.getD i 0 ≠ p:=by
 induction l with
 | nil=>simp at h
 | cons y l ih =>
  by_cases e:y=p
  ·exact ⟨0,by simp,by simpa using e,fun i hi=>by omega⟩
  obtain ⟨j,h1,h2,h3⟩:=ih (by simpa [Ne.symm e] using h);refine ⟨j+1,by simp;omega,by simpa using h2,fun i hi=>?_⟩;cases i with
  | zero=>simpa using e
  | succ i=>simpa using h3 i (by omega)
theorem j6k (a:Option Addr) (cap:Nat) (l:List Int) (w:World) (h:Row w a l) :
  Calls Tryz.prog 71 #[.slice a l.length cap] w fun e w'=>e=.returned (.int .i64 (SetM.of l:Nat))/\w=w':=by
 have h1:=h.1;unfold maxLen at h1;have Hr:=kz h;clear h;go_enter Tryz.func71,Tryz.ntmps71
 go_wp2
 go_loop [3,4] (fun t p=>∃ k:Nat,k<=8/\p=.int .i64 k/\t=.int .i64 (SetM.JS l k:Nat)) (fun _ p=>8 - (intOf p).toNat)
 case atStart=>exact ⟨0,kQ _,rfl,rfl⟩
 case round =>
  obtain ⟨k,hk,rfl,rfl⟩:=hrel;by_cases hlt:k < 8
  ·by_cases hm:(k:Int) ∈ l
   ·have HS:=kz (jcS l k hlt hm);obtain ⟨j,hj,hjk,hjn⟩:=jba hm;have Hj:=kz hjk;have Hn:=kz hjn;clear hjk hjn hm;go_wp2
    go_loop [3,5] (fun t i=>∃ m:Nat,m<=j/\i=.int .i64 m/\t=.int .i64 (SetM.JS l k:Nat)) (fun _ i=>j - (intOf i).toNat)
    case atStart=>exact ⟨0,kQ _,rfl,rfl⟩
    case round =>
     obtain ⟨m,hm,rfl,rfl⟩:=hrel;have hml:m < l.length:=by omega
     obtain ⟨x,rfl,hc⟩:=Hr.out.cells hml;have hcell:=hc m hml;clear hc;by_cases hmj:m < j
     ·have hne:=Hn.out m hmj;generalize l.getD m 0=y at hne hcell;go_wp2
      go_round
      case rel=>exact ⟨m+1,by omega,by go_num,rfl⟩
      case measure=>simp [intOf];omega
     obtain rfl:m=j:=by omega
     rw [Hj.out] at hcell;go_wp2
     go_round
     case rel=>exact ⟨k+1,by omega,by go_num,by rw [HS.out]⟩
     case measure=>simp [intOf];omega
   have HS:=kz (SetM.j4V l k hm);have Hm:Hid (∀ i,i < l.length->l.getD i 0 ≠ (k:Int)):=kz (fun i hi e=>hm (by rw [<-e,kw,kt hi];exact List.getElem_mem hi));clear hm;go_wp2
   go_loop [3,5] (fun t i=>∃ m:Nat,m<=l.length/\i=.int .i64 m/\t=.int .i64 (SetM.JS l k:Nat)) (fun _ i=>l.length - (intOf i).toNat)
   case atStart=>exact ⟨0,kQ _,rfl,rfl⟩
   case round =>
    obtain ⟨m,hm,rfl,rfl⟩:=hrel;by_cases hml:m < l.length
    ·obtain ⟨x,rfl,hc⟩:=Hr.out.cells hml;have hcell:=hc m hml;clear hc;have hne:=Hm.out m hml;generalize l.getD m 0=y at hne hcell;go_wp2
     go_round
     case rel=>exact ⟨m+1,by omega,by go_num,rfl⟩
     case measure=>simp [intOf];omega
    go_wp2
    go_round
    case rel=>exact ⟨k+1,by omega,by go_num,by rw [HS.out]⟩
    case measure=>simp [intOf];omega
  have HS:=kz (SetM.jb6 l);obtain rfl:k=8:=by omega
  go_wp2;go_ret;exact ⟨jn (by rw [HS.out]),rfl⟩
theorem j5G {B:Nat} {l:List Int} {x:Int} {v':Value} {w1:World} (h:w1.ownsRow B 3 1 v' (l.length+1) (l.map (Kn .i64)++[.int .i64 x])) (hn:¬ v'=.slice none 0 0):jd B w1 v' (l++[x]):=by
 refine ⟨?_,?_⟩
 ·rw [kk,<-jb7];exact h
 simp [hn]
theorem j3s (s:Int) (w:World):Calls Tryz.prog 72 #[.int .i64 s] w (jfE w (SetM.list s)):=by
 obtain ⟨i0,hi,hz0,hz1,hz2⟩:=info_parts j1E;go_enter Tryz.func72,Tryz.ntmps72
 go_wp2;go_loopw [3,4] (fun v p wr=>∃ k:Nat,k<=8/\p=.int .i64 k/\jd w.heap.size wr v (SetM.upto s k)/\Below w.heap.size w wr) (fun _ p _=>8 - (intOf p).toNat)
 case atStart=>exact ⟨0,kQ _,rfl,⟨KJ _ _ _ _,by simp [SetM.j9C]⟩,ko _ _⟩
 case round =>
  obtain ⟨k,hk,rfl,⟨hown,hnil⟩,hbel⟩:=hrel;have hB:=hbel.size;have Hn:=kz hnil;clear hnil;by_cases hlt:k < 8
  ·have hul:=SetM.j7n s k;by_cases hh:SetM.has s k=true
   ·have Hs:=kz (SetM.jb5 s k hh)
    go_wp2_with (first
     | (go_at_call 100;refine (j1i _ _ _).mono ?_;rintro e w' ⟨rfl,rfl⟩;rw [hh])
     | (at_builtin;refine qv _ rfl _ _ 42 rfl w.heap.size 3 i0 (.int .i64 0) 1 8 Tryz.underlying42 hi hz0 hz1 hz2 rfl (by decide) _ _ _ rfl (hown.alloc _) ⟨wr.heap.size,0,none⟩ 1 1 [.int .i64 (k:Int)] rfl rfl ?c1 ?c2 ?c3 ?c4 ?c5 ?_))
    case c1 =>
     intro j u hj
     match j,hj with
     | 0,hj=>simp at hj;subst hj;simp [q6]
    case c2=>intro u hu;simp at hu;subst hu;rfl
    case c3=>unfold maxLen;omega
    case c4=>omega
    case c5=>simp;omega
    intro v' w1 hown' hgrow hnil';have hbel':Below w.heap.size w w1:=(hbel.alloc (by omega) _).grown hgrow (by simp;omega) fun j hj=>j8R hown j hj;have Hown:=kz (j5G hown' hnil');clear hown' hgrow hown hnil';go_wp2;go_roundw;case rel=>exact ⟨k+1,by omega,by go_num,by rw [Hs.out];exact Hown.out,hbel'⟩
    case measure=>simp [intOf];omega
   have hh':SetM.has s k=false:=by simpa using hh
   have Hs:=kz (SetM.j9D s k hh');clear hh;go_wp2_with (go_at_call 100;refine (j1i _ _ _).mono ?_;rintro e w' ⟨rfl,rfl⟩;rw [hh'])
   go_roundw;case rel=>exact ⟨k+1,by omega,by go_num,by rw [Hs.out];exact ⟨hown,Hn.out⟩,hbel⟩
   case measure=>simp [intOf];omega
  obtain rfl:k=8:=by omega
  go_wp2;go_ret;exact ⟨_,rfl,⟨hown,Hn.out⟩,hbel⟩
theorem j3t (s p:Int) (w:World):Calls Tryz.prog 37 #[.int .i64 s,.int .i64 p] w fun e w'=>e=.returned (.int .i64 (SetM.j08 s p:Nat))/\Below w.heap.size w w':=by
 obtain ⟨i0,hi,hz0,hz1,hz2⟩:=info_parts j1E;have hl8:=SetM.j4U s;have HS:=kz (SetM.jcR s p);go_enter Tryz.func37,Tryz.ntmps37
 go_wp2_with fail
 refine (j3s _ _).mono ?_;rintro e w1 ⟨v,rfl,⟨hown,hnil⟩,hbel⟩;have hB:=hbel.size;clear hnil;go_wp2_with (at_builtin;refine qv _ rfl _ _ 42 rfl w.heap.size 3 i0 (.int .i64 0) 1 8 Tryz.underlying42 hi hz0 hz1 hz2 rfl (by decide) _ _ _ rfl (hown.alloc _) ⟨w1.heap.size,0,none⟩ 1 1 [.int .i64 p] rfl rfl ?c1 ?c2 ?c3 ?c4 ?c5 ?_)
 case c1 =>
  intro j u hj
  match j,hj with
  | 0,hj=>simp at hj;subst hj;simp [q6]
 case c2=>intro u hu;simp at hu;subst hu;rfl
 case c3=>unfold maxLen;omega
 case c4=>omega
 case c5=>simp;omega
 intro v' w2 hown' hgrow hnil';have hbel':Below w.heap.size w w2:=(hbel.alloc (by omega) _).grown hgrow (by simp;omega) fun j hj=>j8R hown j hj;obtain ⟨L,hL⟩:∃ L,SetM.list s++[p]=L:=⟨_,rfl⟩;have hrow':=j5G hown' hnil';rw [hL] at HS hrow';obtain ⟨a,cap,rfl,hrow⟩:=j86 hrow';have Hrow:=kz hrow;clear hown' hgrow hown hnil' hrow hrow' hL;go_wp2_with (go_at_call 71;refine (j6k _ _ L _ Hrow.out).mono ?_;rintro e w' ⟨rfl,rfl⟩)
 go_ret;exact ⟨jn (by rw [HS.out]),hbel'⟩
theorem j0K (v n:Int) (w:World) (h:0 < n) (h':n<=9223372036854775807) :
  Calls Tryz.prog 12 #[.int .i64 v,.int .i64 n] w fun e w'=>e=.returned (.int .i64 (v % n))/\w=w':=by
 have hm:=KY v (show n ≠ 0 by omega);have hm2:=Kf v h
 have ht:0<=v.tmod n/\v % n=v.tmod n\/v.tmod n < 0/\v % n=v.tmod n+n:=by
  have h1:=Int.tmod_eq_emod (a:=v) (b:=n);split at h1 <;> omega
 have hb : -9223372036854775808<=v.tmod n/\v.tmod n<=9223372036854775807:=by omega
 obtain ⟨hb1,hb2⟩:=hb;have hn0:n ≠ 0:=by omega
 rcases ht with ⟨ht,he⟩ | ⟨ht,he⟩
 ·have He:=kz he;clear he hm hm2;go_enter Tryz.func12,Tryz.ntmps12
  go_wp2;go_ret;exact ⟨jn (by rw [He.out]),rfl⟩
 have He:=kz he;clear he hm hm2;go_enter Tryz.func12,Tryz.ntmps12
 go_wp2;go_ret;exact ⟨jn (by rw [He.out]),rfl⟩
open Tab in
def num (L:List Int) (i:Int) (n:Int):Int:=L.getD i.toNat 0 % n
open Tab in
theorem j4B (a:Option Addr) (cap:Nat) (L:List Int) (i:Int) (w:World) (h:jc w ⟨a,cap⟩ L) (h0:0<=i) :
  Calls Tryz.prog 70 #[.slice a L.length cap,.int .i64 i] w fun e w'=>e=.returned (.int .i64 (L.getD i.toNat 0))/\w=w':=by
 have hl:=h.len;unfold maxLen at hl;obtain ⟨k,rfl⟩:=Kq h0;by_cases hk:k < L.length
 ·have hv:=kt hk;generalize hu:L[k]=u at hv;obtain ⟨x,hx,hc⟩:=jc.at h hv;obtain rfl:a=some x:=hx;have HE:Hid (u=L.getD ((k:Int)).toNat 0):=kz (by rw [K0,kw,hv];rfl);generalize L.getD ((k:Int)).toNat 0=r at HE |-;clear hv hu h;go_enter Tryz.func70,Tryz.ntmps70
  go_wp2;go_ret;exact ⟨jn HE.out,rfl⟩
 have HE:Hid (0=L.getD ((k:Int)).toNat 0):=kz (by rw [K0,kw,List.getElem?_eq_none (by omega)];rfl);generalize L.getD ((k:Int)).toNat 0=r at HE |-;clear h;go_enter Tryz.func70,Tryz.ntmps70
 go_wp2;go_ret;exact ⟨jn HE.out,rfl⟩
open Tab in
theorem jb (a:Option Addr) (cap:Nat) (L:List Int) (i n:Int) (w:World) (h:jc w ⟨a,cap⟩ L) (h0:0<=i) (hn:0 < n) (hn':n<=1000) :
  Calls Tryz.prog 36 #[.slice a L.length cap,.int .i64 i,.int .i64 n] w fun e w'=>e=.returned (.int .i64 (num L i n))/\w=w':=by
 have H:=kz h;clear h;go_enter Tryz.func36,Tryz.ntmps36
 go_wp2_with fail
 refine (j4B a cap L i w H.out h0).mono ?_;rintro e w' ⟨rfl,rfl⟩;have HE:Hid (L.getD i.toNat 0 % n=num L i n):=kz rfl;generalize L.getD i.toNat 0=v at HE |-;go_wp2_with fail
 refine (j0K v n _ hn (by omega)).mono ?_;rintro e w' ⟨rfl,rfl⟩;go_wp2;go_ret;exact ⟨jn HE.out,rfl⟩
theorem j2 (L:List Int) (i n:Int) (hn:0 < n):0<=num L i n/\num L i n < n:=⟨KY _ (by omega),Kf _ hn⟩
end RefS
namespace Gath
open Go Go.RowKit
open Tab
section
variable {α:Type} {enc:α->List Value} {size:Nat} {B:Nat} {w w':World} {e:TypeId} {v:Value} {l:List α}
def jd (enc:α->List Value) (size B:Nat) (w:World) (e:TypeId) (v:Value) (l:List α):Prop:=w.ownsRow B e size v l.length (l.flatMap enc)
theorem jd.nil:jd enc size B w e (.slice none 0 0) ([]:List α):=KJ _ _ _ _
theorem jd.snoc {x:α} {v':Value} (h:w.ownsRow B e size v' (l.length+1) (l.flatMap enc++enc x)):jd enc size B w e v' (l++[x]):=by
 unfold jd;rw [kk,Kd,ky,Km,kT];exact h
theorem jd.below (h:jd enc size B w e v l) (hb:Below w.heap.size w w'):jd enc size B w' e v l :=
 KG (row:=none) h ⟨hb.os,hb.tape,hb.output,hb.size,fun j hj _=>hb.block j hj⟩ (by cases hv:v.ownBlock <;> simp)
theorem jd.mono {B':Nat} (h:jd enc size B w e v l) (hb:B'<=B):jd enc size B' w e v l:=by
 refine ⟨h.1,?_⟩;rcases h.2 with hn | ⟨g,cap,cur,rfl,h1,h2⟩
 ·exact .inl hn
 exact .inr ⟨g,cap,cur,rfl,by omega,h2⟩
theorem jd.blk (h:jd enc size B w e v l) (j:Nat) (hj:v.ownBlock=some j):B<=j:=by
 rcases h.2 with ⟨rfl,_⟩ | ⟨g,cap,cur,rfl,hb,_,_⟩
 ·simp [kL] at hj
 obtain rfl:g=j:=by simpa [kL] using hj
 exact hb
theorem j2h (henc:∀ x,(enc x).length=size):∀ (l:List α) (i:Nat) (x:α),l[i]?=some x->((l.flatMap enc).drop (i*size)).take size=enc x
 | [],i,x,h=>by simp at h
 | y :: l,0,x,h=>by
  obtain rfl:y=x:=by simpa using h
  rw [qd,kA,ky,<-henc y,List.take_left]
 | y :: l,i+1,x,h=>by
  rw [ky,KR,Nat.one_mul,Nat.add_comm,<-henc y,List.drop_append,List.drop_of_length_le (by omega),List.nil_append,Nat.add_sub_cancel_left,henc y];exact j2h henc l i x (by simpa using h)
theorem jd.row (h:jd enc size B w e v l) (henc:∀ x,(enc x).length=size):∃ s:Sl,v=s.val l.length/\ju size enc w s l:=by
 rcases h.2 with ⟨rfl,h0⟩ | ⟨g,cap,cur,rfl,h1,h2,h3,h4,h5,h6⟩
 ·have:l=[]:=kP h0;subst this;exact ⟨⟨none,0⟩,rfl,ju.nil w⟩
 refine ⟨⟨some ⟨g,0,none⟩,cap⟩,rfl,.inr ⟨_,rfl,h3,h4,fun i x hx j u hu=>?_⟩⟩;have hi:i < l.length:=(km.1 hx).1;have hj:j < size:=by rw [<-henc x];exact (km.1 hu).1
 rw [qe,KK,qe,qi _ _ _ _ _ _ h2];have hf:=j2h henc l i x hx;rw [<-h6] at hf;rw [<-hf] at hu
 have hlt:i*size+j < l.length*size:=by
  have:(i+1)*size<=l.length*size:=Nat.mul_le_mul_right _ hi;rw [KR,Nat.one_mul] at this;omega
 rw [KH,if_pos hj,List.getElem?_drop,KH,if_pos hlt,Ky] at hu;exact hu
end
end Gath
namespace GenG
open Go.ChangeShapes Go.WideShapes Go.ChangeAt Go.RowKit
open Tab Gath
open RefS (num jb j2 jn)
def seg (p m:Nat):List Int:=(KD m).map fun i=>((p+i:Nat):Int)
theorem JQ (p m:Nat):(seg p m).length=m:=by simp [seg]
theorem j7q (p m:Nat):seg p (m+1)=seg p m++[((p+m:Nat):Int)]:=by unfold seg;rw [K8,K9];rfl
def lim (G g:Nat):Nat:=9+g - G
def j3K (L:List Int) (g:Nat):Nat:=(num L (1+2*g) 3).toNat
def j3L (L:List Int) (g:Nat) (m:Nat):Nat:=if num L (2+2*g) 3=0/\m=0 then 1 else (num L (2+2*g) 3).toNat
def n0 (L:List Int) (G g p:Nat):Nat:=min (j3K L g) (lim G g - p)
def n1 (L:List Int) (G g p:Nat):Nat:=min (j3L L g (n0 L G g p)) (lim G g - (p+n0 L G g p))
def j9G (L:List Int) (G g p:Nat):List Int × List Int:=(seg p (n0 L G g p),seg (p+n0 L G g p) (n1 L G g p))
def jw (L:List Int) (G:Nat):Nat->List (List Int × List Int) × Nat
 | 0=>([],0)
 | g+1=>((jw L G g).1++[j9G L G g (jw L G g).2],(jw L G g).2+n0 L G g (jw L G g).2+n1 L G g (jw L G g).2)
def j0e (L:List Int):Nat:=(1+num L 0 3).toNat
def j13 (L:List Int):List (List Int × List Int):=(jw L (j0e L) (j0e L)).1
def J9 (L:List Int):Nat:=(jw L (j0e L) (j0e L)).2
theorem j0T (L:List Int):1<=j0e L/\j0e L<=3:=by have:=j2 L 0 3 (by omega);unfold j0e;omega
theorem j4W (L:List Int) (g:Nat):j3K L g<=2:=by have:=j2 L (1+2*g) 3 (by omega);unfold j3K;omega
theorem j4X (L:List Int) (g m:Nat):j3L L g m<=2:=by have:=j2 L (2+2*g) 3 (by omega);unfold j3L;split <;> omega
theorem j8S (L:List Int) (G:Nat) (hG:G<=3):∀ g,g<=G->(jw L G g).2<=8
 | 0,_=>kQ _
 | g+1,h=>by
  have:=j8S L G hG g (by omega);show (jw L G g).2+n0 L G g (jw L G g).2+n1 L G g (jw L G g).2<=8;unfold n1 n0 lim;omega
theorem j6l (L:List Int) (G:Nat):∀ g,(jw L G g).1.length=g
 | 0=>rfl
 | g+1=>by show ((jw L G g).1++[_]).length=g+1;rw [kk,j6l L G g];rfl
def j0y (w:World) (s:Sl) (l:List Int):Prop:=jc w s l/\∀ x,s.a=some x->∃ cs:Array Value,w.heap[x.block]?=some (.cells cs 3 (0,0))
theorem j0y.below {w w':World} {s:Sl} {l:List Int} (h:j0y w s l) (hb:Below w.heap.size w w'):j0y w' s l:=⟨h.1.below hb,fun x hx=>by
 obtain ⟨cs,hc⟩:=h.2 x hx;exact ⟨cs,(hb.block _ (kb.1 hc).1).trans hc⟩⟩
theorem j0m (x:Addr) (k:Nat):(x.add k).block=x.block:=by unfold q6;split <;> rfl
theorem j0y.grown {w w':World} {s:Sl} {l:List Int} {row:Option Nat} (h:j0y w s l) (hg:w.grownBy w' row) (hne:∀ x,s.a=some x->some x.block ≠ row):j0y w' s l:=by
 refine ⟨?_,fun x hx=>?_⟩
 ·rcases h.1 with h | ⟨x,h1,h2,h3,h4⟩
  ·exact .inl h
  exact .inr ⟨x,h1,h2,h3,fun i v hv j u hu=>hg.cell (h4 i v hv j u hu) (by rw [j0m,j0m];exact hne x h1)⟩
 obtain ⟨cs,hc⟩:=h.2 x hx;exact ⟨cs,(hg.block _ (kb.1 hc).1 (hne x hx)).trans hc⟩
theorem j0y.ne {w:World} {s:Sl} {l:List Int} {b:Nat} {cs:Array Value} {t:TypeId} (h:j0y w s l) (hb:w.heap[b]?=some (.cells cs t (0,0))) (ht:t ≠ 3):∀ x,s.a=some x->x.block ≠ b:=by
 intro x hx e;obtain ⟨ds,hc⟩:=h.2 x hx;rw [e,hb] at hc;simp at hc;exact ht hc.2
theorem jC (W:World) (b i:Nat) (v:Value):W.grownBy (W.setCell ⟨b,i,none⟩ v) (some b) :=
 ⟨rfl,rfl,rfl,by simp,fun j _ hj=>heap_setCell_other _ _ _ _ (fun e=>hj (by rw [e]))⟩
theorem jY {B:Nat} {w:World} {v:Value} {l:List Int} (h:jd (fun n=>[I n]) 1 B w 3 v l):∃ s:Sl,v=s.val l.length/\j0y w s l:=by
 obtain ⟨s,hs,hr⟩:=jd.row h (enc:=fun n=>[I n]) (fun _=>rfl);refine ⟨s,hs,hr,fun x hx=>?_⟩;rcases h.2 with ⟨e,_⟩ | ⟨g,cap,cur,e,h1,h2,_⟩
 ·rw [hs] at e;simp [Sl.val,hx] at e
 rw [hs] at e;simp [Sl.val,hx] at e;obtain ⟨rfl,_⟩:=e;exact ⟨cur,h2⟩
theorem jm {α:Type} {enc:α->List Value} {n B:Nat} {w w':World} {t:TypeId} {v:Value} {l:List α} {row:Option Nat} (h:jd enc n B w t v l) (hg:w.grownBy w' row) (hne:∀ m,v.ownBlock=some m->row ≠ some m):jd enc n B w' t v l :=
 KG h hg (by
  cases e:v.ownBlock with
  | none=>exact .inl rfl
  | some m=>exact .inr (fun e'=>hne m e e'.symm))
theorem j5W {α:Type} {enc:α->List Value} {n B:Nat} {w:World} {t:TypeId} {v:Value} {l:List α} (h:jd enc n B w t v l):∀ m,v.ownBlock=some m->m < w.heap.size:=by
 intro m hm;rcases h.2 with ⟨rfl,_⟩ | ⟨g,cap,cur,rfl,h1,h2,_⟩
 ·simp [kL] at hm
 simp [kL] at hm;subst hm;exact (kb.1 h2).1
theorem jv {α:Type} {enc:α->List Value} {n B:Nat} {w:World} {t:TypeId} {v:Value} {l:List α} (h:jd enc n B w t v l):∀ m,v.ownBlock=some m->∃ cs:Array Value,w.heap[m]?=some (.cells cs t (0,0)):=by
 intro m hm;rcases h.2 with ⟨rfl,_⟩ | ⟨g,cap,cur,rfl,h1,h2,_⟩
 ·simp [kL] at hm
 simp [kL] at hm;subst hm;exact ⟨cur,h2⟩
theorem jN {α:Type} {enc:α->List Value} {n B:Nat} {w:World} {t t':TypeId} {v:Value} {l:List α} {b:Nat} {cs:Array Value} (h:jd enc n B w t v l) (hb:w.heap[b]?=some (.cells cs t' (0,0))) (ht:t' ≠ t):v.ownBlock ≠ some b:=by
 intro e;obtain ⟨ds,hd⟩:=jv h b e;rw [hb] at hd;simp at hd;exact ht hd.2
theorem j3M {w w':World} (hb:Below w.heap.size w w') (row:Option Nat):w.grownBy w' row:=⟨hb.os,hb.tape,hb.output,hb.size,fun j hj _=>hb.block j hj⟩
theorem j1U {w w1 w2:World} {b:Nat} {row:Option Nat} (h:w.grownBy w1 (some b)) (h2:w1.grownBy w2 row) (hr:∀ m,row=some m->m=b\/w.heap.size<=m):w.grownBy w2 (some b):=by
 refine ⟨h2.os.trans h.os,h2.tape.trans h.tape,h2.output.trans h.output,ke h.size h2.size,fun j hj hne=>?_⟩;rw [h2.block j (kr hj h.size) (fun e=>by rcases hr j e.symm with e' | e';exact hne (by rw [e']);omega),h.block j hj hne]
structure G0 (Bg:Nat) (w1:World) (a:Option Addr) (c:Nat) (p i:Nat) (W:World):Prop where
 bel:Below Bg w1 W
 box:W.heap[Bg]?=some (.cells #[.slice a i c,.slice none 0 0] 68 (0,0))
 own:jd (fun n=>[I n]) 1 (Bg+1) W 3 (.slice a i c) (seg p i)
theorem G0.step {Bg:Nat} {w1 W W':World} {a:Option Addr} {c p i:Nat} (h:G0 Bg w1 a c p i W) (hb:Below W.heap.size W W') (hB:Bg<=W.heap.size):G0 Bg w1 a c p i W' :=
 ⟨h.bel.trans (hb.mono hB),(hb.block _ (kb.1 h.box).1).trans h.box,h.own.below hb⟩
theorem G0.put {Bg:Nat} {w1 W W':World} {a:Option Addr} {c p i:Nat} {v':Value} (h:G0 Bg w1 a c p i W) (hB:Bg+1<=W.heap.size) (hg:W.grownBy W' (kG a i c).ownBlock)
  (ho:W'.ownsRow (Bg+1) 3 1 v' (i+1) ((seg p i).flatMap (fun n=>[I n])++[I ((p+i:Nat):Int)])) :
  (W'.heap[Bg]?=some (.cells #[.slice a i c,.slice none 0 0] 68 (0,0)))/\∃ a' c',v'=.slice a' (i+1) c'/\G0 Bg w1 a' c' p (i+1) (W'.setCell ⟨Bg,0,none⟩ v'):=by
 have hne:some Bg ≠ (kG a i c).ownBlock:=fun e=>by have:=h.own.blk _ e.symm;omega
 have hbx:=(hg.block Bg (by omega) hne).trans h.box
 have hO:jd (fun n=>[I n]) 1 (Bg+1) W' 3 v' (seg p (i+1)):=by
  rw [j7q];refine jd.snoc ?_;rw [JQ];exact ho
 obtain ⟨⟨a',c'⟩,hs,hr⟩:=jY hO;rw [JQ] at hs;refine ⟨hbx,a',c',hs,?_⟩;have hB':Bg<=W'.heap.size:=ke (by omega) hg.size;refine ⟨?_,?_,?_⟩
 ·exact (h.bel.grown hg (by omega) (fun k hk=>by have:=h.own.blk k hk;omega)).setCell (p:=⟨Bg,0,none⟩) (ki _) v'
 ·rw [qh _ _ _ _ _ _ hbx,hs];rfl
 rw [hs] at hO |-;exact jm hO (jC _ _ _ _) (fun m hm e=>by have:=hO.blk m hm;cases e;omega)
structure G1 (Bg:Nat) (w1:World) (B1:Nat) (a:Option Addr) (c:Nat) (p m:Nat) (a1:Option Addr) (c1:Nat) (i:Nat) (W:World):Prop where
 bel:Below Bg w1 W
 box:W.heap[Bg]?=some (.cells #[.slice a m c,.slice a1 i c1] 68 (0,0))
 own:jd (fun n=>[I n]) 1 (Bg+1) W 3 (.slice a m c) (seg p m)
 lt:∀ j,(kG a m c).ownBlock=some j->j < B1
 own1:jd (fun n=>[I n]) 1 B1 W 3 (.slice a1 i c1) (seg (p+m) i)
 sz:B1<=W.heap.size
theorem G0.next {Bg:Nat} {w1 W:World} {a:Option Addr} {c p m:Nat} (h:G0 Bg w1 a c p m W):G1 Bg w1 W.heap.size a c p m none 0 0 W :=
 ⟨h.bel,h.box,h.own,j5W h.own,jd.nil,ki _⟩
theorem G1.step {Bg B1:Nat} {w1 W W':World} {a a1:Option Addr} {c p m c1 i:Nat} (h:G1 Bg w1 B1 a c p m a1 c1 i W) (hb:Below W.heap.size W W') (hB:Bg<=W.heap.size):G1 Bg w1 B1 a c p m a1 c1 i W' :=
 ⟨h.bel.trans (hb.mono hB),(hb.block _ (kb.1 h.box).1).trans h.box,h.own.below hb,h.lt,h.own1.below hb,ke h.sz hb.size⟩
theorem G1.put {Bg B1:Nat} {w1 W W':World} {a a1:Option Addr} {c p m c1 i:Nat} {v':Value} (h:G1 Bg w1 B1 a c p m a1 c1 i W) (h1:Bg < B1) (hB:B1<=W.heap.size) (hg:W.grownBy W' (kG a1 i c1).ownBlock)
  (ho:W'.ownsRow B1 3 1 v' (i+1) ((seg (p+m) i).flatMap (fun n=>[I n])++[I ((p+m+i:Nat):Int)])) :
  (W'.heap[Bg]?=some (.cells #[.slice a m c,.slice a1 i c1] 68 (0,0)))/\∃ a' c',v'=.slice a' (i+1) c'/\G1 Bg w1 B1 a c p m a' c' (i+1) (W'.setCell ⟨Bg,1,none⟩ v'):=by
 have hne:some Bg ≠ (kG a1 i c1).ownBlock:=fun e=>by have:=h.own1.blk _ e.symm;omega
 have hbx:=(hg.block Bg (by omega) hne).trans h.box
 have hO:jd (fun n=>[I n]) 1 B1 W' 3 v' (seg (p+m) (i+1)):=by
  rw [j7q];refine jd.snoc ?_;rw [JQ];exact ho
 have hO0:jd (fun n=>[I n]) 1 (Bg+1) W' 3 (.slice a m c) (seg p m):=jm h.own hg (fun j hj e=>by have:=h.lt j hj;have:=h.own1.blk j e;omega);obtain ⟨⟨a',c'⟩,hs,hr⟩:=jY hO;rw [JQ] at hs;refine ⟨hbx,a',c',hs,?_⟩;have hB':Bg<=W'.heap.size:=ke (by omega) hg.size;refine ⟨?_,?_,?_,h.lt,?_,by simp;exact ke h.sz hg.size⟩
 ·exact (h.bel.grown hg (by omega) (fun k hk=>by have:=h.own1.blk k hk;omega)).setCell (p:=⟨Bg,1,none⟩) (ki _) v'
 ·rw [qh _ _ _ _ _ _ hbx,hs];rfl
 ·exact jm hO0 (jC _ _ _ _) (fun m hm e=>by have:=hO0.blk m hm;cases e;omega)
 rw [hs] at hO |-;exact jm hO (jC _ _ _ _) (fun m hm e=>by have:=hO.blk m hm;cases e;omega)
structure GS (w:World) (tb:Nat) (cs:List Value) (ga:Option Addr) (gc:Nat) (g:Nat) (gs:List Gr) (W:World):Prop where
 gb:w.grownBy W (some tb)
 tbk:W.heap[tb]?=some (.cells (cs.set 104 (.slice ga g gc)).toArray 33 (0,0))
 own:jd Gr.cells 2 w.heap.size W 68 (.slice ga g gc) gs
 len:gs.length=g
 rows:∀ x ∈ gs,j0y W x.s0 x.r0/\j0y W x.s1 x.r1
theorem GS.step {w W W':World} {tb:Nat} {cs:List Value} {ga:Option Addr} {gc g:Nat} {gs:List Gr} (h:GS w tb cs ga gc g gs W) (hb:Below W.heap.size W W'):GS w tb cs ga gc g gs W' :=
 ⟨j1U h.gb (j3M hb none) (fun m e=>by cases e),(hb.block _ (kb.1 h.tbk).1).trans h.tbk,h.own.below hb,h.len,fun x hx=>⟨(h.rows x hx).1.below hb,(h.rows x hx).2.below hb⟩⟩
theorem GS.put {w W W':World} {tb:Nat} {cs:List Value} {ga:Option Addr} {gc g:Nat} {gs:List Gr} {v':Value} (x:Gr) (h:GS w tb cs ga gc g gs W) (hx:j0y W x.s0 x.r0/\j0y W x.s1 x.r1) (hg:W.grownBy W' (kG ga g gc).ownBlock) (hc:cs.length=131)
  (ho:W'.ownsRow w.heap.size 68 2 v' (g+1) (gs.flatMap Gr.cells++x.cells)) :
  (W'.heap[tb]?=some (.cells (cs.set 104 (.slice ga g gc)).toArray 33 (0,0)))/\∃ a' c',v'=.slice a' (g+1) c'/\GS w tb cs a' c' (g+1) (gs++[x]) (W'.setCell ⟨tb,104,none⟩ v'):=by
 have hne:some tb ≠ (kG ga g gc).ownBlock:=fun e=>jN h.own h.tbk (by decide) e.symm;have hbx:=(hg.block tb (kb.1 h.tbk).1 hne).trans h.tbk;have hO:jd Gr.cells 2 w.heap.size W' 68 v' (gs++[x]):=jd.snoc (by rw [h.len];exact ho);obtain ⟨⟨a',c'⟩,hs,hr⟩:=jd.row hO (fun _=>rfl);have hs2:v'=.slice a' (g+1) c':=by rw [hs,kk,h.len];rfl
 have hK:∀ s l,j0y W s l->j0y (W'.setCell ⟨tb,104,none⟩ v') s l:=fun s l hr=>by
  have h1:j0y W' s l:=hr.grown hg (fun y hy e=>by
   obtain ⟨ds,hd⟩:=jv h.own _ e.symm;exact hr.ne hd (by decide) y hy rfl)
  exact h1.grown (jC _ _ _ _) (fun y hy e=>h1.ne hbx (by decide) y hy (by cases e;rfl))
 refine ⟨hbx,a',c',hs2,?_,?_,?_,by rw [kk,h.len];rfl,?_⟩
 ·exact j1U (j1U h.gb hg (fun m e=>.inr (h.own.blk m e))) (jC _ _ _ _) (fun m e=>.inl (by cases e;rfl))
 ·rw [qh _ _ _ _ _ _ hbx,hs2];simp
 ·rw [<-hs2];exact jm hO (jC _ _ _ _) (fun m hm e=>by cases e;exact jN hO hbx (by decide) hm)
 intro y hy;rcases Kv.1 hy with hy | hy
 ·exact ⟨hK _ _ (h.rows y hy).1,hK _ _ (h.rows y hy).2⟩
 obtain rfl:y=x:=by simpa using hy
 exact ⟨hK _ _ hx.1,hK _ _ hx.2⟩
theorem j4i (a:Option Addr) (cap:Nat) (L:List Int) (i j n:Int) (hij:i=j) (w:World) (h:jc w ⟨a,cap⟩ L) (h0:0<=i) (hn:0 < n) (hn':n<=1000) :
  Calls Tryz.prog 36 #[.slice a L.length cap,.int .i64 i,.int .i64 n] w fun e w'=>e=.returned (.int .i64 (num L j n))/\w=w':=by
 subst hij;exact jb a cap L i n w h h0 hn hn'
theorem jem:(Tryz.prog.info? 68).map (fun i=>(i.zero,i.size))=some (some (.agg #[.slice none 0 0,.slice none 0 0]),2):=by kernel_rfl
theorem jbb:(Tryz.prog.info? 68).map (·.size)=some 2:=by kernel_rfl
theorem j87:(Tryz.prog.info? 68).map (fun i=>(i.zero,i.size,i.bytes))=some (some (.agg #[.slice none 0 0,.slice none 0 0]),2,48):=by kernel_rfl
end GenG
namespace Clone
open Go.ChangeShapes Go.WideShapes Go.ChangeAt Go.RowKit
open Tab Copy Owned
open May (chain jG j0f jT jH j06 jK jL)
end Clone
namespace Same
open Go.ChangeShapes Go.WideShapes Go.ChangeAt Go.RowKit
open Tab
open May (j3 chain jL jG j0f jT jH j06 jg)
theorem j4j {α:Type} {l m:List α} {k:Nat} {v u:α} (h:l[k]?=some v) (h':m[k]?=some u) (e:l.take k=m.take k) (hv:v=u):l.take (k+1)=m.take (k+1):=by
 rw [jL l k v h,jL m k u h',e,hv]
theorem j35 {α:Type} {l m:List α} {k:Nat} {v u:α} (h:l[k]?=some v) (h':m[k]?=some u) (hv:¬ v=u):¬ l=m:=by
 rintro rfl;rw [h] at h';exact hv (KS h')
theorem j6m {α:Type} {l m:List α} {k:Nat} (e:l.take k=m.take k) (hl:l.length=m.length) (hk:¬ k < l.length):l=m:=by
 rwa [Kt (by omega),Kt (by omega)] at e
end Same
namespace Same
open Go.ChangeShapes Go.WideShapes Go.ChangeAt Go.RowKit
open Tab
open May (j3 chain jL jG j0f jT jH j06 jg)
end Same
namespace Same
open Go.ChangeShapes Go.WideShapes Go.ChangeAt Go.RowKit
open Tab
open May (j3 chain jL jG j0f jT jH j06 jg St)
theorem below_setRow {B:Nat} {a w:World} (h:Below B a w) {g:Nat} (hg:B<=g) (cs:Array Value):Below B a (w.setRow g cs) :=
 h.trans ⟨rfl,rfl,rfl,by simp [World.setRow],fun j hj=>qq _ _ _ _ (by omega)⟩
end Same
namespace GenP
open Zip
open Go.ChangeShapes Go.WideShapes Go.ChangeAt Go.RowKit
open Tab Clone RefS
open May (jG)
open Same (below_setRow)
theorem jen:(Tryz.prog.info? 25).map (fun i=>(i.zero,i.size))=some (some (.agg zPh.cells.toArray),13):=by kernel_rfl
def J4 (x walk:Int):Int:=if x > 3\/x=3/\walk=0 then 0 else x
def j0F (L:List Int) (i:Int):Ph :=
 let min:=1+num L i 12
 let max:=min+num L (i+5) 25
 let walks:=num L (i+7) 2=1
 let walk:=if walks then 1+num L (i+8) 10 else 0
 ⟨true,min,num L (i+1) 9,max,max+num L (i+6) 15,1+num L (i+2) 6,10+num L (i+3) 4,num L (i+4) 5,walk,if walks then 1+num L (i+8) 97 / 10 else 0,J4 (num L (i+9) 7) walk,decide (num L (i+10) 3 > 0),decide (num L (i+11) 4=1)⟩
theorem j27 (a:Option Addr) (cap:Nat) (L:List Int) (i:Int) (w:World) (h:jc w ⟨a,cap⟩ L) (h0:0<=i) (h1:i<=100000) :
  Calls Tryz.prog 34 #[.slice a L.length cap,.int .i64 i] w fun e w'=>e=.returned (.agg (j0F L i).cells.toArray)/\Below w.heap.size w w':=by
 obtain ⟨x0,hx0,⟨r0,s0⟩,F0⟩:∃ x:Int,x=num L i 12/\(0<=x/\x < 12)/\Hid (∀ W,Below w.heap.size w W->Calls Tryz.prog 36 #[.slice a L.length cap,.int .i64 i,.int .i64 12] W fun e w'=>e=.returned (.int .i64 x)/\w'=W):=⟨_,rfl,j2 _ _ _ (by omega),hJJ (fun W hb=>(jb a cap L _ _ W (h.below hb) (by omega) (by omega) (by omega)).mono fun _ _ ⟨e,q⟩=>⟨e,q.symm⟩)⟩;obtain ⟨x1,hx1,⟨r1,s1⟩,F1⟩:∃ x:Int,x=num L (i+1) 9/\(0<=x/\x < 9)/\Hid (∀ W,Below w.heap.size w W->Calls Tryz.prog 36 #[.slice a L.length cap,.int .i64 (i+1),.int .i64 9] W fun e w'=>e=.returned (.int .i64 x)/\w'=W):=⟨_,rfl,j2 _ _ _ (by omega),hJJ (fun W hb=>(jb a cap L _ _ W (h.below hb) (by omega) (by omega) (by omega)).mono fun _ _ ⟨e,q⟩=>⟨e,q.symm⟩)⟩;obtain ⟨x2,hx2,⟨r2,s2⟩,F2⟩:∃ x:Int,x=num L (i+2) 6/\(0<=x/\x < 6)/\Hid (∀ W,Below w.heap.size w W->Calls Tryz.prog 36 #[.slice a L.length cap,.int .i64 (i+2),.int .i64 6] W fun e w'=>e=.returned (.int .i64 x)/\w'=W):=⟨_,rfl,j2 _ _ _ (by omega),hJJ (fun W hb=>(jb a cap L _ _ W (h.below hb) (by omega) (by omega) (by omega)).mono fun _ _ ⟨e,q⟩=>⟨e,q.symm⟩)⟩;obtain ⟨x3,hx3,⟨r3,s3⟩,F3⟩:∃ x:Int,x=num L (i+3) 4/\(0<=x/\x < 4)/\Hid (∀ W,Below w.heap.size w W->Calls Tryz.prog 36 #[.slice a L.length cap,.int .i64 (i+3),.int .i64 4] W fun e w'=>e=.returned (.int .i64 x)/\w'=W):=⟨_,rfl,j2 _ _ _ (by omega),hJJ (fun W hb=>(jb a cap L _ _ W (h.below hb) (by omega) (by omega) (by omega)).mono fun _ _ ⟨e,q⟩=>⟨e,q.symm⟩)⟩;obtain ⟨x4,hx4,⟨r4,s4⟩,F4⟩:∃ x:Int,x=num L (i+4) 5/\(0<=x/\x < 5)/\Hid (∀ W,Below w.heap.size w W->Calls Tryz.prog 36 #[.slice a L.length cap,.int .i64 (i+4),.int .i64 5] W fun e w'=>e=.returned (.int .i64 x)/\w'=W):=⟨_,rfl,j2 _ _ _ (by omega),hJJ (fun W hb=>(jb a cap L _ _ W (h.below hb) (by omega) (by omega) (by omega)).mono fun _ _ ⟨e,q⟩=>⟨e,q.symm⟩)⟩;obtain ⟨x5,hx5,⟨r5,s5⟩,F5⟩:∃ x:Int,x=num L (i+5) 25/\(0<=x/\x < 25)/\Hid (∀ W,Below w.heap.size w W->Calls Tryz.prog 36 #[.slice a L.length cap,.int .i64 (i+5),.int .i64 25] W fun e w'=>e=.returned (.int .i64 x)/\w'=W):=⟨_,rfl,j2 _ _ _ (by omega),hJJ (fun W hb=>(jb a cap L _ _ W (h.below hb) (by omega) (by omega) (by omega)).mono fun _ _ ⟨e,q⟩=>⟨e,q.symm⟩)⟩;obtain ⟨x6,hx6,⟨r6,s6⟩,F6⟩:∃ x:Int,x=num L (i+6) 15/\(0<=x/\x < 15)/\Hid (∀ W,Below w.heap.size w W->Calls Tryz.prog 36 #[.slice a L.length cap,.int .i64 (i+6),.int .i64 15] W fun e w'=>e=.returned (.int .i64 x)/\w'=W):=⟨_,rfl,j2 _ _ _ (by omega),hJJ (fun W hb=>(jb a cap L _ _ W (h.below hb) (by omega) (by omega) (by omega)).mono fun _ _ ⟨e,q⟩=>⟨e,q.symm⟩)⟩;obtain ⟨x7,hx7,⟨r7,s7⟩,F7⟩:∃ x:Int,x=num L (i+7) 2/\(0<=x/\x < 2)/\Hid (∀ W,Below w.heap.size w W->Calls Tryz.prog 36 #[.slice a L.length cap,.int .i64 (i+7),.int .i64 2] W fun e w'=>e=.returned (.int .i64 x)/\w'=W):=⟨_,rfl,j2 _ _ _ (by omega),hJJ (fun W hb=>(jb a cap L _ _ W (h.below hb) (by omega) (by omega) (by omega)).mono fun _ _ ⟨e,q⟩=>⟨e,q.symm⟩)⟩;obtain ⟨x8,hx8,⟨r8,s8⟩,F8⟩:∃ x:Int,x=num L (i+8) 10/\(0<=x/\x < 10)/\Hid (∀ W,Below w.heap.size w W->Calls Tryz.prog 36 #[.slice a L.length cap,.int .i64 (i+8),.int .i64 10] W fun e w'=>e=.returned (.int .i64 x)/\w'=W):=⟨_,rfl,j2 _ _ _ (by omega),hJJ (fun W hb=>(jb a cap L _ _ W (h.below hb) (by omega) (by omega) (by omega)).mono fun _ _ ⟨e,q⟩=>⟨e,q.symm⟩)⟩;obtain ⟨xb,hxb,⟨rb,sb⟩,Fb⟩:∃ x:Int,x=num L (i+8) 97/\(0<=x/\x < 97)/\Hid (∀ W,Below w.heap.size w W->Calls Tryz.prog 36 #[.slice a L.length cap,.int .i64 (i+8),.int .i64 97] W fun e w'=>e=.returned (.int .i64 x)/\w'=W):=⟨_,rfl,j2 _ _ _ (by omega),hJJ (fun W hb=>(jb a cap L _ _ W (h.below hb) (by omega) (by omega) (by omega)).mono fun _ _ ⟨e,q⟩=>⟨e,q.symm⟩)⟩;obtain ⟨x9,hx9,⟨r9,s9⟩,F9⟩:∃ x:Int,x=num L (i+9) 7/\(0<=x/\x < 7)/\Hid (∀ W,Below w.heap.size w W->Calls Tryz.prog 36 #[.slice a L.length cap,.int .i64 (i+9),.int .i64 7] W fun e w'=>e=.returned (.int .i64 x)/\w'=W):=⟨_,rfl,j2 _ _ _ (by omega),hJJ (fun W hb=>(jb a cap L _ _ W (h.below hb) (by omega) (by omega) (by omega)).mono fun _ _ ⟨e,q⟩=>⟨e,q.symm⟩)⟩;obtain ⟨xt,hxt,⟨rt,st⟩,Ft⟩:∃ x:Int,x=num L (i+10) 3/\(0<=x/\x < 3)/\Hid (∀ W,Below w.heap.size w W->Calls Tryz.prog 36 #[.slice a L.length cap,.int .i64 (i+10),.int .i64 3] W fun e w'=>e=.returned (.int .i64 x)/\w'=W):=⟨_,rfl,j2 _ _ _ (by omega),hJJ (fun W hb=>(jb a cap L _ _ W (h.below hb) (by omega) (by omega) (by omega)).mono fun _ _ ⟨e,q⟩=>⟨e,q.symm⟩)⟩;obtain ⟨xe,hxe,⟨re,se⟩,Fe⟩:∃ x:Int,x=num L (i+11) 4/\(0<=x/\x < 4)/\Hid (∀ W,Below w.heap.size w W->Calls Tryz.prog 36 #[.slice a L.length cap,.int .i64 (i+11),.int .i64 4] W fun e w'=>e=.returned (.int .i64 x)/\w'=W):=⟨_,rfl,j2 _ _ _ (by omega),hJJ (fun W hb=>(jb a cap L _ _ W (h.below hb) (by omega) (by omega) (by omega)).mono fun _ _ ⟨e,q⟩=>⟨e,q.symm⟩)⟩;have RES:Hid (j0F L i=⟨true,1+x0,x1,1+x0+x5,1+x0+x5+x6,1+x2,10+x3,x4,if x7=1 then 1+x8 else 0,if x7=1 then 1+xb / 10 else 0,J4 x9 (if x7=1 then 1+x8 else 0),decide (xt > 0),decide (xe=1)⟩):=hJJ (by subst hx0 hx1 hx2 hx3 hx4 hx5 hx6 hx7 hx8 hxb hx9 hxt hxe;rfl);generalize j0F L i=R at RES |-;clear hx0 hx1 hx2 hx3 hx4 hx5 hx6 hx7 hx8 hxb hx9 hxt hxe h;have hz:=(qu jen).1;have HB:Hid (Below w.heap.size w (w.alloc (.cells zPh.cells.toArray 25))):=hJJ ((ko _ _).alloc (ki _) _);have hg:=qk w (.cells zPh.cells.toArray 25);have hs:(w.alloc (.cells zPh.cells.toArray 25)).heap.size=w.heap.size+1:=by simp
 have HG:=hJJ hg;have HS:=hJJ hs;clear hg hs;simp only [zPh,Ph.cells] at hz HB HG HS;go_enter Tryz.func34,Tryz.ntmps34
 go_upto_region 1 with fail
 generalize (kn w _)=u at HB HG HS |-;go_wp2_with fail
 refine (F0.out _ HB.out).mono ?_;rintro e w' ⟨rfl,hq⟩;subst w';go_wp2_with fail
 refine (F1.out _ HB.out).mono ?_;rintro e w' ⟨rfl,hq⟩;subst w';go_wp2_with fail
 refine (F2.out _ HB.out).mono ?_;rintro e w' ⟨rfl,hq⟩;subst w';go_wp2_with fail
 refine (F3.out _ HB.out).mono ?_;rintro e w' ⟨rfl,hq⟩;subst w';go_wp2_with fail
 refine (F4.out _ HB.out).mono ?_;rintro e w' ⟨rfl,hq⟩;subst w';go_upto_region 2 with (refine Row.jh rfl 25 _ _ rfl u _ #[.bool true,I (1+x0),I x1,I 0,I 0,I (1+x2),I (10+x3),I x4,I 0,I 0,I 0,.bool false,.bool false] rfl rfl rfl jG rfl (by simp [kx]) ?_)
 (try dsimp only [kM])
 have hb:=HB.out.alloc HB.out.size (.cells #[.bool true,I (1+x0),I x1,I 0,I 0,I (1+x2),I (10+x3),I x4,I 0,I 0,I 0,.bool false,.bool false] 25);have g5:=qk u (.cells #[.bool true,I (1+x0),I x1,I 0,I 0,I (1+x2),I (10+x3),I x4,I 0,I 0,I 0,.bool false,.bool false] 25);have g4:=(kY u (.cells #[.bool true,I (1+x0),I x1,I 0,I 0,I (1+x2),I (10+x3),I x4,I 0,I 0,I 0,.bool false,.bool false] 25) w.heap.size (by have:=HS.out;omega)).trans HG.out;have b5lt:w.heap.size < u.heap.size:=by have:=HS.out;omega
 clear HB HG HS;generalize kn u _=u0 at g4 g5 hb |-;generalize u.heap.size=b5 at g5 b5lt |-;have G4:=hJJ g4;have G5:=hJJ g5;have HB:=hJJ hb;clear g4 g5 hb;have e0:kV.wrap (i+5)=i+5:=by rw [kE];omega
 have e1:kV.wrap (1+x0+x5)=1+x0+x5:=by rw [kE];omega
 have g4:u0.drew.heap[w.heap.size]?=some (.cells #[.bool false,.int .i64 0,.int .i64 0,.int .i64 0,.int .i64 0,.int .i64 0,.int .i64 0,.int .i64 0,.int .i64 0,.int .i64 0,.int .i64 0,.bool false,.bool false] 25 (0,0)):=G4.out;have g5:u0.drew.heap[b5]?=some (.cells #[.bool true,I (1+x0),I x1,I 0,I 0,I (1+x2),I (10+x3),I x4,I 0,I 0,I 0,.bool false,.bool false] 25 (0,0)):=G5.out;have hb:Below w.heap.size w u0.drew:=HB.out.drew;clear G4 G5 HB;refine QB.jo 8 (by kernel_rfl) (by kernel_rfl) ?_;generalize q7 u0=u1 at g4 g5 hb |-;have G4:=hJJ g4;have G5:=hJJ g5;have HB:=hJJ hb;clear g4 g5 hb;have c1:u1.cell? ⟨b5,1,none⟩=some (I (1+x0)):=by rw [qi _ _ _ _ _ _ G5.out];rfl
 have c3:u1.cell? ⟨b5,3,none⟩=some (I 0):=by rw [qi _ _ _ _ _ _ G5.out];rfl
 have f3:u1.frozen? ⟨b5,3,none⟩=false:=qj _ _ _ _ _ G5.out;simp only [kB,kK,ku,kA];repeat still_step
 still_call (F5.out _ HB.out)
 repeat still_step
 refine qt ?_;go_upto_region 3 with fail
 clear e0 e1;have g5:=qh u1 b5 3 _ _ (I (1+x0+x5)) G5.out;simp only [kc,kg,kf] at g5;have g4:=(kh u1 ⟨b5,3,none⟩ (I (1+x0+x5)) w.heap.size (by simp;omega)).trans G4.out;have hb:=Owned.ja HB.out (g:=b5) (i:=3) (by omega) (I (1+x0+x5));clear c1 c3 f3 G4 G5 HB;generalize kl u1 ⟨b5,3,none⟩ (I (1+x0+x5))=u2 at g4 g5 hb |-;have G4:=hJJ g4;have G5:=hJJ g5;have HB:=hJJ hb;clear g4 g5 hb;have e0:kV.wrap (i+6)=i+6:=by rw [kE];omega
 have e1:kV.wrap (1+x0+x5+x6)=1+x0+x5+x6:=by rw [kE];omega
 have g4:u2.drew.heap[w.heap.size]?=some (.cells #[.bool false,.int .i64 0,.int .i64 0,.int .i64 0,.int .i64 0,.int .i64 0,.int .i64 0,.int .i64 0,.int .i64 0,.int .i64 0,.int .i64 0,.bool false,.bool false] 25 (0,0)):=G4.out;have g5:u2.drew.heap[b5]?=some (.cells #[.bool true,I (1+x0),I x1,I (1+x0+x5),I 0,I (1+x2),I (10+x3),I x4,I 0,I 0,I 0,.bool false,.bool false] 25 (0,0)):=G5.out;have hb:Below w.heap.size w u2.drew:=HB.out.drew;clear G4 G5 HB;refine QB.jo 8 (by kernel_rfl) (by kernel_rfl) ?_;generalize q7 u2=u3 at g4 g5 hb |-;have G4:=hJJ g4;have G5:=hJJ g5;have HB:=hJJ hb;clear g4 g5 hb;have c3:u3.cell? ⟨b5,3,none⟩=some (I (1+x0+x5)):=by rw [qi _ _ _ _ _ _ G5.out];rfl
 have c4:u3.cell? ⟨b5,4,none⟩=some (I 0):=by rw [qi _ _ _ _ _ _ G5.out];rfl
 have f4:u3.frozen? ⟨b5,4,none⟩=false:=qj _ _ _ _ _ G5.out;simp only [kB,kK,ku,kA];repeat still_step
 still_call (F6.out _ HB.out)
 repeat still_step
 refine qt ?_;go_upto_region 4 with fail
 clear e0 e1;have g5:=qh u3 b5 4 _ _ (I (1+x0+x5+x6)) G5.out;simp only [kc,kg,kf] at g5;have g4:=(kh u3 ⟨b5,4,none⟩ (I (1+x0+x5+x6)) w.heap.size (by simp;omega)).trans G4.out;have hb:=Owned.ja HB.out (g:=b5) (i:=4) (by omega) (I (1+x0+x5+x6));clear c3 c4 f4 G4 G5 HB;generalize kl u3 ⟨b5,4,none⟩ (I (1+x0+x5+x6))=u4 at g4 g5 hb |-;have G4:=hJJ g4;have G5:=hJJ g5;have HB:=hJJ hb;clear g4 g5 hb;go_wp2_with fail
 refine (F7.out _ HB.out).mono ?_;rintro e w' ⟨rfl,hq⟩;subst w';by_cases h7:x7=1
 ·have H7:=hJJ h7;have e7:(x7 == 1)=true:=by simpa using h7
  clear h7;go_upto_region 5 with fail
  have c8:u4.cell? ⟨b5,8,none⟩=some (I 0):=by rw [qi _ _ _ _ _ _ G5.out];rfl
  have f8:u4.frozen? ⟨b5,8,none⟩=false:=qj _ _ _ _ _ G5.out;go_wp2_with fail
  refine (F8.out _ HB.out).mono ?_;rintro e w' ⟨rfl,hq⟩;subst w';go_upto_region 6 with fail
  have g5:=qh u4 b5 8 _ _ (I (1+x8)) G5.out;simp only [kc,kg,kf] at g5;have g4:=(kh u4 ⟨b5,8,none⟩ (I (1+x8)) w.heap.size (by simp;omega)).trans G4.out;have hb:=Owned.ja HB.out (g:=b5) (i:=8) (by omega) (I (1+x8));clear c8 f8 G4 G5 HB;generalize kl u4 ⟨b5,8,none⟩ (I (1+x8))=u5 at g4 g5 hb |-;have G4:=hJJ g4;have G5:=hJJ g5;have HB:=hJJ hb;clear g4 g5 hb;have c9:u5.cell? ⟨b5,9,none⟩=some (I 0):=by rw [qi _ _ _ _ _ _ G5.out];rfl
  have f9:u5.frozen? ⟨b5,9,none⟩=false:=qj _ _ _ _ _ G5.out;go_wp2_with fail
  refine (Fb.out _ HB.out).mono ?_;rintro e w' ⟨rfl,hq⟩;subst w';go_upto_region 7 with fail
  have g5:=qh u5 b5 9 _ _ (I (1+xb / 10)) G5.out;simp only [kc,kg,kf] at g5;have g4:=(kh u5 ⟨b5,9,none⟩ (I (1+xb / 10)) w.heap.size (by simp;omega)).trans G4.out;have hb:=Owned.ja HB.out (g:=b5) (i:=9) (by omega) (I (1+xb / 10));clear c9 f9 G4 G5 HB;generalize kl u5 ⟨b5,9,none⟩ (I (1+xb / 10))=u6 at g4 g5 hb |-;have G4:=hJJ g4;have G5:=hJJ g5;have HB:=hJJ hb;clear g4 g5 hb;have c10:u6.cell? ⟨b5,10,none⟩=some (I 0):=by rw [qi _ _ _ _ _ _ G5.out];rfl
  have f10:u6.frozen? ⟨b5,10,none⟩=false:=qj _ _ _ _ _ G5.out;go_wp2_with fail
  refine (F9.out _ HB.out).mono ?_;rintro e w' ⟨rfl,hq⟩;subst w';go_upto_region 8 with fail
  have g5:=qh u6 b5 10 _ _ (I x9) G5.out;simp only [kc,kg,kf] at g5;have g4:=(kh u6 ⟨b5,10,none⟩ (I x9) w.heap.size (by simp;omega)).trans G4.out;have hb:=Owned.ja HB.out (g:=b5) (i:=10) (by omega) (I x9);clear c10 f10 G4 G5 HB;generalize kl u6 ⟨b5,10,none⟩ (I x9)=u7 at g4 g5 hb |-;have G4:=hJJ g4;have G5:=hJJ g5;have HB:=hJJ hb;clear g4 g5 hb;have c8:u7.cell? ⟨b5,8,none⟩=some (I (1+x8)):=by rw [qi _ _ _ _ _ _ G5.out];rfl
  have c10:u7.cell? ⟨b5,10,none⟩=some (I x9):=by rw [qi _ _ _ _ _ _ G5.out];rfl
  have f10:u7.frozen? ⟨b5,10,none⟩=false:=qj _ _ _ _ _ G5.out;by_cases h9:x9 > 3
  ·have RC:Hid (J4 x9 (1+x8)=0):=hJJ (by unfold J4;rw [if_pos (by omega)]);have H9:=hJJ h9;have q9:¬ (x9<=3):=by omega
   go_upto_region 10 with fail
   have g5:=qh u7 b5 10 _ _ (I 0) G5.out;simp only [kc,kg,kf] at g5;have g4:=(kh u7 ⟨b5,10,none⟩ (I 0) w.heap.size (by simp;omega)).trans G4.out;have hb:=Owned.ja HB.out (g:=b5) (i:=10) (by omega) (I 0);clear c8 c10 f10 G4 G5 HB;generalize kl u7 ⟨b5,10,none⟩ (I 0)=u8 at g4 g5 hb |-;have G4:=hJJ g4;have G5:=hJJ g5;have HB:=hJJ hb;clear g4 g5 hb;have c11:u8.cell? ⟨b5,11,none⟩=some (.bool false):=by rw [qi _ _ _ _ _ _ G5.out];rfl
   have f11:u8.frozen? ⟨b5,11,none⟩=false:=qj _ _ _ _ _ G5.out;go_wp2_with fail
   refine (Ft.out _ HB.out).mono ?_;rintro e w' ⟨rfl,hq⟩;subst w';go_upto_region 11 with fail
   have g5:=qh u8 b5 11 _ _ (.bool (decide (xt > 0))) G5.out;simp only [kc,kg,kf] at g5;have g4:=(kh u8 ⟨b5,11,none⟩ (.bool (decide (xt > 0))) w.heap.size (by simp;omega)).trans G4.out;have hb:=Owned.ja HB.out (g:=b5) (i:=11) (by omega) (.bool (decide (xt > 0)));clear c11 f11 G4 G5 HB;generalize kl u8 ⟨b5,11,none⟩ (.bool (decide (xt > 0)))=u9 at g4 g5 hb |-;have G4:=hJJ g4;have G5:=hJJ g5;have HB:=hJJ hb;clear g4 g5 hb;have c12:u9.cell? ⟨b5,12,none⟩=some (.bool false):=by rw [qi _ _ _ _ _ _ G5.out];rfl
   have f12:u9.frozen? ⟨b5,12,none⟩=false:=qj _ _ _ _ _ G5.out;go_wp2_with fail
   refine (Fe.out _ HB.out).mono ?_;rintro e w' ⟨rfl,hq⟩;subst w';go_upto_region 12 with fail
   have g5:=qh u9 b5 12 _ _ (.bool (decide (xe=1))) G5.out;simp only [kc,kg,kf] at g5;have g4:=(kh u9 ⟨b5,12,none⟩ (.bool (decide (xe=1))) w.heap.size (by simp;omega)).trans G4.out;have hb:=Owned.ja HB.out (g:=b5) (i:=12) (by omega) (.bool (decide (xe=1)));clear c12 f12 G4 G5 HB;generalize kl u9 ⟨b5,12,none⟩ (.bool (decide (xe=1)))=u10 at g4 g5 hb |-;have G4:=hJJ g4;have G5:=hJJ g5;have HB:=hJJ hb;clear g4 g5 hb;have FIN:Hid (R.cells.toArray=#[.bool true,I (1+x0),I x1,I (1+x0+x5),I (1+x0+x5+x6),I (1+x2),I (10+x3),I x4,I (1+x8),I (1+xb / 10),I 0,.bool (decide (xt > 0)),.bool (decide (xe=1))]):=hJJ (by rw [RES.out];simp only [Ph.cells,if_pos H7.out,RC.out]);have LV:Hid (jl u10 ⟨b5,0,none⟩ #[.bool true,I (1+x0),I x1,I (1+x0+x5),I (1+x0+x5+x6),I (1+x2),I (10+x3),I x4,I (1+x8),I (1+xb / 10),I 0,.bool (decide (xt > 0)),.bool (decide (xe=1))].toList):=hJJ (Row.j1 G5.out);have HG:=hJJ (below_setRow HB.out (g:=w.heap.size) (ki _) #[.bool true,I (1+x0),I x1,I (1+x0+x5),I (1+x0+x5+x6),I (1+x2),I (10+x3),I x4,I (1+x8),I (1+xb / 10),I 0,.bool (decide (xt > 0)),.bool (decide (xe=1))]);have HK:=hJJ (qm u10 w.heap.size _ #[.bool true,I (1+x0),I x1,I (1+x0+x5),I (1+x0+x5+x6),I (1+x2),I (10+x3),I x4,I (1+x8),I (1+xb / 10),I 0,.bool (decide (xt > 0)),.bool (decide (xe=1))] _ _ G4.out);go_wp2_with (first | (refine Row.j7 25 _ rfl (by first | rfl | go_simp) ⟨b5,0,none⟩ rfl #[.bool true,I (1+x0),I x1,I (1+x0+x5),I (1+x0+x5+x6),I (1+x2),I (10+x3),I x4,I (1+x8),I (1+xb / 10),I 0,.bool (decide (xt > 0)),.bool (decide (xe=1))].toList _ LV.out Tryz.underlying25 rfl jG ?_) | (refine ql rfl 25 _ _ rfl w.heap.size #[.bool true,I (1+x0),I x1,I (1+x0+x5),I (1+x0+x5+x6),I (1+x2),I (10+x3),I x4,I (1+x8),I (1+xb / 10),I 0,.bool (decide (xt > 0)),.bool (decide (xe=1))] rfl rfl 25 _ G4.out jG rfl (by simp [kx]) ?_))
   generalize u10.setRow w.heap.size #[.bool true,I (1+x0),I x1,I (1+x0+x5),I (1+x0+x5+x6),I (1+x2),I (10+x3),I x4,I (1+x8),I (1+xb / 10),I 0,.bool (decide (xt > 0)),.bool (decide (xe=1))]=uz at HG HK |-;go_wp2_with fail
   (try simp only [kH,Exit.then])
   refine qo (v:=.agg #[.bool true,I (1+x0),I x1,I (1+x0+x5),I (1+x0+x5+x6),I (1+x2),I (10+x3),I x4,I (1+x8),I (1+xb / 10),I 0,.bool (decide (xt > 0)),.bool (decide (xe=1))]) ?_ rfl ⟨by rw [FIN.out],HG.out⟩;exact qn rfl _ _ w.heap.size 25 _ (0,0) _ rfl HK.out Tryz.underlying25 rfl jG
  have RC:Hid (J4 x9 (1+x8)=x9):=hJJ (by unfold J4;rw [if_neg (by omega)]);have H9:=hJJ h9;have q9:x9<=3:=by omega
  have q8:(1+x8 == 0)=false:=by rw [beq_eq_false_iff_ne];omega
  have Q8:=hJJ (show ¬ (1+x8=0) from by omega);by_cases h3:x9=3
  ·have e3:(x9 == 3)=true:=by simpa using h3
   clear h3 h9;go_upto_region 10 with fail
   clear c8 c10 f10 e3 q8;have c11:u7.cell? ⟨b5,11,none⟩=some (.bool false):=by rw [qi _ _ _ _ _ _ G5.out];rfl
   have f11:u7.frozen? ⟨b5,11,none⟩=false:=qj _ _ _ _ _ G5.out;go_wp2_with fail
   refine (Ft.out _ HB.out).mono ?_;rintro e w' ⟨rfl,hq⟩;subst w';go_upto_region 11 with fail
   have g5:=qh u7 b5 11 _ _ (.bool (decide (xt > 0))) G5.out;simp only [kc,kg,kf] at g5;have g4:=(kh u7 ⟨b5,11,none⟩ (.bool (decide (xt > 0))) w.heap.size (by simp;omega)).trans G4.out;have hb:=Owned.ja HB.out (g:=b5) (i:=11) (by omega) (.bool (decide (xt > 0)));clear c11 f11 G4 G5 HB;generalize kl u7 ⟨b5,11,none⟩ (.bool (decide (xt > 0)))=u8 at g4 g5 hb |-;have G4:=hJJ g4;have G5:=hJJ g5;have HB:=hJJ hb;clear g4 g5 hb;have c12:u8.cell? ⟨b5,12,none⟩=some (.bool false):=by rw [qi _ _ _ _ _ _ G5.out];rfl
   have f12:u8.frozen? ⟨b5,12,none⟩=false:=qj _ _ _ _ _ G5.out;go_wp2_with fail
   refine (Fe.out _ HB.out).mono ?_;rintro e w' ⟨rfl,hq⟩;subst w';go_upto_region 12 with fail
   have g5:=qh u8 b5 12 _ _ (.bool (decide (xe=1))) G5.out;simp only [kc,kg,kf] at g5;have g4:=(kh u8 ⟨b5,12,none⟩ (.bool (decide (xe=1))) w.heap.size (by simp;omega)).trans G4.out;have hb:=Owned.ja HB.out (g:=b5) (i:=12) (by omega) (.bool (decide (xe=1)));clear c12 f12 G4 G5 HB;generalize kl u8 ⟨b5,12,none⟩ (.bool (decide (xe=1)))=u9 at g4 g5 hb |-;have G4:=hJJ g4;have G5:=hJJ g5;have HB:=hJJ hb;clear g4 g5 hb;have FIN:Hid (R.cells.toArray=#[.bool true,I (1+x0),I x1,I (1+x0+x5),I (1+x0+x5+x6),I (1+x2),I (10+x3),I x4,I (1+x8),I (1+xb / 10),I x9,.bool (decide (xt > 0)),.bool (decide (xe=1))]):=hJJ (by rw [RES.out];simp only [Ph.cells,if_pos H7.out,RC.out]);have LV:Hid (jl u9 ⟨b5,0,none⟩ #[.bool true,I (1+x0),I x1,I (1+x0+x5),I (1+x0+x5+x6),I (1+x2),I (10+x3),I x4,I (1+x8),I (1+xb / 10),I x9,.bool (decide (xt > 0)),.bool (decide (xe=1))].toList):=hJJ (Row.j1 G5.out);have HG:=hJJ (below_setRow HB.out (g:=w.heap.size) (ki _) #[.bool true,I (1+x0),I x1,I (1+x0+x5),I (1+x0+x5+x6),I (1+x2),I (10+x3),I x4,I (1+x8),I (1+xb / 10),I x9,.bool (decide (xt > 0)),.bool (decide (xe=1))]);have HK:=hJJ (qm u9 w.heap.size _ #[.bool true,I (1+x0),I x1,I (1+x0+x5),I (1+x0+x5+x6),I (1+x2),I (10+x3),I x4,I (1+x8),I (1+xb / 10),I x9,.bool (decide (xt > 0)),.bool (decide (xe=1))] _ _ G4.out);go_wp2_with (first | (refine Row.j7 25 _ rfl (by first | rfl | go_simp) ⟨b5,0,none⟩ rfl #[.bool true,I (1+x0),I x1,I (1+x0+x5),I (1+x0+x5+x6),I (1+x2),I (10+x3),I x4,I (1+x8),I (1+xb / 10),I x9,.bool (decide (xt > 0)),.bool (decide (xe=1))].toList _ LV.out Tryz.underlying25 rfl jG ?_) | (refine ql rfl 25 _ _ rfl w.heap.size #[.bool true,I (1+x0),I x1,I (1+x0+x5),I (1+x0+x5+x6),I (1+x2),I (10+x3),I x4,I (1+x8),I (1+xb / 10),I x9,.bool (decide (xt > 0)),.bool (decide (xe=1))] rfl rfl 25 _ G4.out jG rfl (by simp [kx]) ?_))
   generalize u9.setRow w.heap.size #[.bool true,I (1+x0),I x1,I (1+x0+x5),I (1+x0+x5+x6),I (1+x2),I (10+x3),I x4,I (1+x8),I (1+xb / 10),I x9,.bool (decide (xt > 0)),.bool (decide (xe=1))]=uz at HG HK |-;go_wp2_with fail
   (try simp only [kH,Exit.then])
   refine qo (v:=.agg #[.bool true,I (1+x0),I x1,I (1+x0+x5),I (1+x0+x5+x6),I (1+x2),I (10+x3),I x4,I (1+x8),I (1+xb / 10),I x9,.bool (decide (xt > 0)),.bool (decide (xe=1))]) ?_ rfl ⟨by rw [FIN.out],HG.out⟩;exact qn rfl _ _ w.heap.size 25 _ (0,0) _ rfl HK.out Tryz.underlying25 rfl jG
  have e3:(x9 == 3)=false:=by simpa using h3
  clear h3 h9;go_upto_region 10 with fail
  clear c8 c10 f10 e3 q8;have c11:u7.cell? ⟨b5,11,none⟩=some (.bool false):=by rw [qi _ _ _ _ _ _ G5.out];rfl
  have f11:u7.frozen? ⟨b5,11,none⟩=false:=qj _ _ _ _ _ G5.out;go_wp2_with fail
  refine (Ft.out _ HB.out).mono ?_;rintro e w' ⟨rfl,hq⟩;subst w';go_upto_region 11 with fail
  have g5:=qh u7 b5 11 _ _ (.bool (decide (xt > 0))) G5.out;simp only [kc,kg,kf] at g5;have g4:=(kh u7 ⟨b5,11,none⟩ (.bool (decide (xt > 0))) w.heap.size (by simp;omega)).trans G4.out;have hb:=Owned.ja HB.out (g:=b5) (i:=11) (by omega) (.bool (decide (xt > 0)));clear c11 f11 G4 G5 HB;generalize kl u7 ⟨b5,11,none⟩ (.bool (decide (xt > 0)))=u8 at g4 g5 hb |-;have G4:=hJJ g4;have G5:=hJJ g5;have HB:=hJJ hb;clear g4 g5 hb;have c12:u8.cell? ⟨b5,12,none⟩=some (.bool false):=by rw [qi _ _ _ _ _ _ G5.out];rfl
  have f12:u8.frozen? ⟨b5,12,none⟩=false:=qj _ _ _ _ _ G5.out;go_wp2_with fail
  refine (Fe.out _ HB.out).mono ?_;rintro e w' ⟨rfl,hq⟩;subst w';go_upto_region 12 with fail
  have g5:=qh u8 b5 12 _ _ (.bool (decide (xe=1))) G5.out;simp only [kc,kg,kf] at g5;have g4:=(kh u8 ⟨b5,12,none⟩ (.bool (decide (xe=1))) w.heap.size (by simp;omega)).trans G4.out;have hb:=Owned.ja HB.out (g:=b5) (i:=12) (by omega) (.bool (decide (xe=1)));clear c12 f12 G4 G5 HB;generalize kl u8 ⟨b5,12,none⟩ (.bool (decide (xe=1)))=u9 at g4 g5 hb |-;have G4:=hJJ g4;have G5:=hJJ g5;have HB:=hJJ hb;clear g4 g5 hb;have FIN:Hid (R.cells.toArray=#[.bool true,I (1+x0),I x1,I (1+x0+x5),I (1+x0+x5+x6),I (1+x2),I (10+x3),I x4,I (1+x8),I (1+xb / 10),I x9,.bool (decide (xt > 0)),.bool (decide (xe=1))]):=hJJ (by rw [RES.out];simp only [Ph.cells,if_pos H7.out,RC.out]);have LV:Hid (jl u9 ⟨b5,0,none⟩ #[.bool true,I (1+x0),I x1,I (1+x0+x5),I (1+x0+x5+x6),I (1+x2),I (10+x3),I x4,I (1+x8),I (1+xb / 10),I x9,.bool (decide (xt > 0)),.bool (decide (xe=1))].toList):=hJJ (Row.j1 G5.out);have HG:=hJJ (below_setRow HB.out (g:=w.heap.size) (ki _) #[.bool true,I (1+x0),I x1,I (1+x0+x5),I (1+x0+x5+x6),I (1+x2),I (10+x3),I x4,I (1+x8),I (1+xb / 10),I x9,.bool (decide (xt > 0)),.bool (decide (xe=1))]);have HK:=hJJ (qm u9 w.heap.size _ #[.bool true,I (1+x0),I x1,I (1+x0+x5),I (1+x0+x5+x6),I (1+x2),I (10+x3),I x4,I (1+x8),I (1+xb / 10),I x9,.bool (decide (xt > 0)),.bool (decide (xe=1))] _ _ G4.out);go_wp2_with (first | (refine Row.j7 25 _ rfl (by first | rfl | go_simp) ⟨b5,0,none⟩ rfl #[.bool true,I (1+x0),I x1,I (1+x0+x5),I (1+x0+x5+x6),I (1+x2),I (10+x3),I x4,I (1+x8),I (1+xb / 10),I x9,.bool (decide (xt > 0)),.bool (decide (xe=1))].toList _ LV.out Tryz.underlying25 rfl jG ?_) | (refine ql rfl 25 _ _ rfl w.heap.size #[.bool true,I (1+x0),I x1,I (1+x0+x5),I (1+x0+x5+x6),I (1+x2),I (10+x3),I x4,I (1+x8),I (1+xb / 10),I x9,.bool (decide (xt > 0)),.bool (decide (xe=1))] rfl rfl 25 _ G4.out jG rfl (by simp [kx]) ?_))
  generalize u9.setRow w.heap.size #[.bool true,I (1+x0),I x1,I (1+x0+x5),I (1+x0+x5+x6),I (1+x2),I (10+x3),I x4,I (1+x8),I (1+xb / 10),I x9,.bool (decide (xt > 0)),.bool (decide (xe=1))]=uz at HG HK |-;go_wp2_with fail
  (try simp only [kH,Exit.then])
  refine qo (v:=.agg #[.bool true,I (1+x0),I x1,I (1+x0+x5),I (1+x0+x5+x6),I (1+x2),I (10+x3),I x4,I (1+x8),I (1+xb / 10),I x9,.bool (decide (xt > 0)),.bool (decide (xe=1))]) ?_ rfl ⟨by rw [FIN.out],HG.out⟩;exact qn rfl _ _ w.heap.size 25 _ (0,0) _ rfl HK.out Tryz.underlying25 rfl jG
 have H7:=hJJ h7;have e7:(x7 == 1)=false:=by simpa using h7
 clear h7;go_upto_region 7 with fail
 have c10:u4.cell? ⟨b5,10,none⟩=some (I 0):=by rw [qi _ _ _ _ _ _ G5.out];rfl
 have f10:u4.frozen? ⟨b5,10,none⟩=false:=qj _ _ _ _ _ G5.out;go_wp2_with fail
 refine (F9.out _ HB.out).mono ?_;rintro e w' ⟨rfl,hq⟩;subst w';go_upto_region 8 with fail
 have g5:=qh u4 b5 10 _ _ (I x9) G5.out;simp only [kc,kg,kf] at g5;have g4:=(kh u4 ⟨b5,10,none⟩ (I x9) w.heap.size (by simp;omega)).trans G4.out;have hb:=Owned.ja HB.out (g:=b5) (i:=10) (by omega) (I x9);clear c10 f10 G4 G5 HB;generalize kl u4 ⟨b5,10,none⟩ (I x9)=u5 at g4 g5 hb |-;have G4:=hJJ g4;have G5:=hJJ g5;have HB:=hJJ hb;clear g4 g5 hb;have c8:u5.cell? ⟨b5,8,none⟩=some (I 0):=by rw [qi _ _ _ _ _ _ G5.out];rfl
 have c10:u5.cell? ⟨b5,10,none⟩=some (I x9):=by rw [qi _ _ _ _ _ _ G5.out];rfl
 have f10:u5.frozen? ⟨b5,10,none⟩=false:=qj _ _ _ _ _ G5.out;by_cases h9:x9 > 3
 ·have RC:Hid (J4 x9 (0)=0):=hJJ (by unfold J4;rw [if_pos (by omega)]);have H9:=hJJ h9;have q9:¬ (x9<=3):=by omega
  go_upto_region 10 with fail
  have g5:=qh u5 b5 10 _ _ (I 0) G5.out;simp only [kc,kg,kf] at g5;have g4:=(kh u5 ⟨b5,10,none⟩ (I 0) w.heap.size (by simp;omega)).trans G4.out;have hb:=Owned.ja HB.out (g:=b5) (i:=10) (by omega) (I 0);clear c8 c10 f10 G4 G5 HB;generalize kl u5 ⟨b5,10,none⟩ (I 0)=u6 at g4 g5 hb |-;have G4:=hJJ g4;have G5:=hJJ g5;have HB:=hJJ hb;clear g4 g5 hb;have c11:u6.cell? ⟨b5,11,none⟩=some (.bool false):=by rw [qi _ _ _ _ _ _ G5.out];rfl
  have f11:u6.frozen? ⟨b5,11,none⟩=false:=qj _ _ _ _ _ G5.out;go_wp2_with fail
  refine (Ft.out _ HB.out).mono ?_;rintro e w' ⟨rfl,hq⟩;subst w';go_upto_region 11 with fail
  have g5:=qh u6 b5 11 _ _ (.bool (decide (xt > 0))) G5.out;simp only [kc,kg,kf] at g5;have g4:=(kh u6 ⟨b5,11,none⟩ (.bool (decide (xt > 0))) w.heap.size (by simp;omega)).trans G4.out;have hb:=Owned.ja HB.out (g:=b5) (i:=11) (by omega) (.bool (decide (xt > 0)));clear c11 f11 G4 G5 HB;generalize kl u6 ⟨b5,11,none⟩ (.bool (decide (xt > 0)))=u7 at g4 g5 hb |-;have G4:=hJJ g4;have G5:=hJJ g5;have HB:=hJJ hb;clear g4 g5 hb;have c12:u7.cell? ⟨b5,12,none⟩=some (.bool false):=by rw [qi _ _ _ _ _ _ G5.out];rfl
  have f12:u7.frozen? ⟨b5,12,none⟩=false:=qj _ _ _ _ _ G5.out;go_wp2_with fail
  refine (Fe.out _ HB.out).mono ?_;rintro e w' ⟨rfl,hq⟩;subst w';go_upto_region 12 with fail
  have g5:=qh u7 b5 12 _ _ (.bool (decide (xe=1))) G5.out;simp only [kc,kg,kf] at g5;have g4:=(kh u7 ⟨b5,12,none⟩ (.bool (decide (xe=1))) w.heap.size (by simp;omega)).trans G4.out;have hb:=Owned.ja HB.out (g:=b5) (i:=12) (by omega) (.bool (decide (xe=1)));clear c12 f12 G4 G5 HB;generalize kl u7 ⟨b5,12,none⟩ (.bool (decide (xe=1)))=u8 at g4 g5 hb |-;have G4:=hJJ g4;have G5:=hJJ g5;have HB:=hJJ hb;clear g4 g5 hb;have FIN:Hid (R.cells.toArray=#[.bool true,I (1+x0),I x1,I (1+x0+x5),I (1+x0+x5+x6),I (1+x2),I (10+x3),I x4,I 0,I 0,I 0,.bool (decide (xt > 0)),.bool (decide (xe=1))]):=hJJ (by rw [RES.out];simp only [Ph.cells,if_neg H7.out,RC.out]);have LV:Hid (jl u8 ⟨b5,0,none⟩ #[.bool true,I (1+x0),I x1,I (1+x0+x5),I (1+x0+x5+x6),I (1+x2),I (10+x3),I x4,I 0,I 0,I 0,.bool (decide (xt > 0)),.bool (decide (xe=1))].toList):=hJJ (Row.j1 G5.out);have HG:=hJJ (below_setRow HB.out (g:=w.heap.size) (ki _) #[.bool true,I (1+x0),I x1,I (1+x0+x5),I (1+x0+x5+x6),I (1+x2),I (10+x3),I x4,I 0,I 0,I 0,.bool (decide (xt > 0)),.bool (decide (xe=1))]);have HK:=hJJ (qm u8 w.heap.size _ #[.bool true,I (1+x0),I x1,I (1+x0+x5),I (1+x0+x5+x6),I (1+x2),I (10+x3),I x4,I 0,I 0,I 0,.bool (decide (xt > 0)),.bool (decide (xe=1))] _ _ G4.out);go_wp2_with (first | (refine Row.j7 25 _ rfl (by first | rfl | go_simp) ⟨b5,0,none⟩ rfl #[.bool true,I (1+x0),I x1,I (1+x0+x5),I (1+x0+x5+x6),I (1+x2),I (10+x3),I x4,I 0,I 0,I 0,.bool (decide (xt > 0)),.bool (decide (xe=1))].toList _ LV.out Tryz.underlying25 rfl jG ?_) | (refine ql rfl 25 _ _ rfl w.heap.size #[.bool true,I (1+x0),I x1,I (1+x0+x5),I (1+x0+x5+x6),I (1+x2),I (10+x3),I x4,I 0,I 0,I 0,.bool (decide (xt > 0)),.bool (decide (xe=1))] rfl rfl 25 _ G4.out jG rfl (by simp [kx]) ?_))
  generalize u8.setRow w.heap.size #[.bool true,I (1+x0),I x1,I (1+x0+x5),I (1+x0+x5+x6),I (1+x2),I (10+x3),I x4,I 0,I 0,I 0,.bool (decide (xt > 0)),.bool (decide (xe=1))]=uz at HG HK |-;go_wp2_with fail
  (try simp only [kH,Exit.then])
  refine qo (v:=.agg #[.bool true,I (1+x0),I x1,I (1+x0+x5),I (1+x0+x5+x6),I (1+x2),I (10+x3),I x4,I 0,I 0,I 0,.bool (decide (xt > 0)),.bool (decide (xe=1))]) ?_ rfl ⟨by rw [FIN.out],HG.out⟩;exact qn rfl _ _ w.heap.size 25 _ (0,0) _ rfl HK.out Tryz.underlying25 rfl jG
 have H9:=hJJ h9;have q9:x9<=3:=by omega
 by_cases h3:x9=3
 ·have RC:Hid (J4 x9 (0)=0):=hJJ (by unfold J4;rw [if_pos (by omega)]);have H3:=hJJ h3;have e3:(x9 == 3)=true:=by simpa using h3
  clear h3 h9;go_upto_region 10 with fail
  have g5:=qh u5 b5 10 _ _ (I 0) G5.out;simp only [kc,kg,kf] at g5;have g4:=(kh u5 ⟨b5,10,none⟩ (I 0) w.heap.size (by simp;omega)).trans G4.out;have hb:=Owned.ja HB.out (g:=b5) (i:=10) (by omega) (I 0);clear c8 c10 f10 G4 G5 HB;generalize kl u5 ⟨b5,10,none⟩ (I 0)=u6 at g4 g5 hb |-;have G4:=hJJ g4;have G5:=hJJ g5;have HB:=hJJ hb;clear g4 g5 hb;clear e3;have c11:u6.cell? ⟨b5,11,none⟩=some (.bool false):=by rw [qi _ _ _ _ _ _ G5.out];rfl
  have f11:u6.frozen? ⟨b5,11,none⟩=false:=qj _ _ _ _ _ G5.out;go_wp2_with fail
  refine (Ft.out _ HB.out).mono ?_;rintro e w' ⟨rfl,hq⟩;subst w';go_upto_region 11 with fail
  have g5:=qh u6 b5 11 _ _ (.bool (decide (xt > 0))) G5.out;simp only [kc,kg,kf] at g5;have g4:=(kh u6 ⟨b5,11,none⟩ (.bool (decide (xt > 0))) w.heap.size (by simp;omega)).trans G4.out;have hb:=Owned.ja HB.out (g:=b5) (i:=11) (by omega) (.bool (decide (xt > 0)));clear c11 f11 G4 G5 HB;generalize kl u6 ⟨b5,11,none⟩ (.bool (decide (xt > 0)))=u7 at g4 g5 hb |-;have G4:=hJJ g4;have G5:=hJJ g5;have HB:=hJJ hb;clear g4 g5 hb;have c12:u7.cell? ⟨b5,12,none⟩=some (.bool false):=by rw [qi _ _ _ _ _ _ G5.out];rfl
  have f12:u7.frozen? ⟨b5,12,none⟩=false:=qj _ _ _ _ _ G5.out;go_wp2_with fail
  refine (Fe.out _ HB.out).mono ?_;rintro e w' ⟨rfl,hq⟩;subst w';go_upto_region 12 with fail
  have g5:=qh u7 b5 12 _ _ (.bool (decide (xe=1))) G5.out;simp only [kc,kg,kf] at g5;have g4:=(kh u7 ⟨b5,12,none⟩ (.bool (decide (xe=1))) w.heap.size (by simp;omega)).trans G4.out;have hb:=Owned.ja HB.out (g:=b5) (i:=12) (by omega) (.bool (decide (xe=1)));clear c12 f12 G4 G5 HB;generalize kl u7 ⟨b5,12,none⟩ (.bool (decide (xe=1)))=u8 at g4 g5 hb |-;have G4:=hJJ g4;have G5:=hJJ g5;have HB:=hJJ hb;clear g4 g5 hb;have FIN:Hid (R.cells.toArray=#[.bool true,I (1+x0),I x1,I (1+x0+x5),I (1+x0+x5+x6),I (1+x2),I (10+x3),I x4,I 0,I 0,I 0,.bool (decide (xt > 0)),.bool (decide (xe=1))]):=hJJ (by rw [RES.out];simp only [Ph.cells,if_neg H7.out,RC.out]);have LV:Hid (jl u8 ⟨b5,0,none⟩ #[.bool true,I (1+x0),I x1,I (1+x0+x5),I (1+x0+x5+x6),I (1+x2),I (10+x3),I x4,I 0,I 0,I 0,.bool (decide (xt > 0)),.bool (decide (xe=1))].toList):=hJJ (Row.j1 G5.out);have HG:=hJJ (below_setRow HB.out (g:=w.heap.size) (ki _) #[.bool true,I (1+x0),I x1,I (1+x0+x5),I (1+x0+x5+x6),I (1+x2),I (10+x3),I x4,I 0,I 0,I 0,.bool (decide (xt > 0)),.bool (decide (xe=1))]);have HK:=hJJ (qm u8 w.heap.size _ #[.bool true,I (1+x0),I x1,I (1+x0+x5),I (1+x0+x5+x6),I (1+x2),I (10+x3),I x4,I 0,I 0,I 0,.bool (decide (xt > 0)),.bool (decide (xe=1))] _ _ G4.out);go_wp2_with (first | (refine Row.j7 25 _ rfl (by first | rfl | go_simp) ⟨b5,0,none⟩ rfl #[.bool true,I (1+x0),I x1,I (1+x0+x5),I (1+x0+x5+x6),I (1+x2),I (10+x3),I x4,I 0,I 0,I 0,.bool (decide (xt > 0)),.bool (decide (xe=1))].toList _ LV.out Tryz.underlying25 rfl jG ?_) | (refine ql rfl 25 _ _ rfl w.heap.size #[.bool true,I (1+x0),I x1,I (1+x0+x5),I (1+x0+x5+x6),I (1+x2),I (10+x3),I x4,I 0,I 0,I 0,.bool (decide (xt > 0)),.bool (decide (xe=1))] rfl rfl 25 _ G4.out jG rfl (by simp [kx]) ?_))
  generalize u8.setRow w.heap.size #[.bool true,I (1+x0),I x1,I (1+x0+x5),I (1+x0+x5+x6),I (1+x2),I (10+x3),I x4,I 0,I 0,I 0,.bool (decide (xt > 0)),.bool (decide (xe=1))]=uz at HG HK |-;go_wp2_with fail
  (try simp only [kH,Exit.then])
  refine qo (v:=.agg #[.bool true,I (1+x0),I x1,I (1+x0+x5),I (1+x0+x5+x6),I (1+x2),I (10+x3),I x4,I 0,I 0,I 0,.bool (decide (xt > 0)),.bool (decide (xe=1))]) ?_ rfl ⟨by rw [FIN.out],HG.out⟩;exact qn rfl _ _ w.heap.size 25 _ (0,0) _ rfl HK.out Tryz.underlying25 rfl jG
 have RC:Hid (J4 x9 (0)=x9):=hJJ (by unfold J4;rw [if_neg (by omega)]);have H3:=hJJ h3;have e3:(x9 == 3)=false:=by simpa using h3
 clear h3 h9;go_upto_region 10 with fail
 clear c8 c10 f10 e3;have c11:u5.cell? ⟨b5,11,none⟩=some (.bool false):=by rw [qi _ _ _ _ _ _ G5.out];rfl
 have f11:u5.frozen? ⟨b5,11,none⟩=false:=qj _ _ _ _ _ G5.out;go_wp2_with fail
 refine (Ft.out _ HB.out).mono ?_;rintro e w' ⟨rfl,hq⟩;subst w';go_upto_region 11 with fail
 have g5:=qh u5 b5 11 _ _ (.bool (decide (xt > 0))) G5.out;simp only [kc,kg,kf] at g5;have g4:=(kh u5 ⟨b5,11,none⟩ (.bool (decide (xt > 0))) w.heap.size (by simp;omega)).trans G4.out;have hb:=Owned.ja HB.out (g:=b5) (i:=11) (by omega) (.bool (decide (xt > 0)));clear c11 f11 G4 G5 HB;generalize kl u5 ⟨b5,11,none⟩ (.bool (decide (xt > 0)))=u6 at g4 g5 hb |-;have G4:=hJJ g4;have G5:=hJJ g5;have HB:=hJJ hb;clear g4 g5 hb;have c12:u6.cell? ⟨b5,12,none⟩=some (.bool false):=by rw [qi _ _ _ _ _ _ G5.out];rfl
 have f12:u6.frozen? ⟨b5,12,none⟩=false:=qj _ _ _ _ _ G5.out;go_wp2_with fail
 refine (Fe.out _ HB.out).mono ?_;rintro e w' ⟨rfl,hq⟩;subst w';go_upto_region 12 with fail
 have g5:=qh u6 b5 12 _ _ (.bool (decide (xe=1))) G5.out;simp only [kc,kg,kf] at g5;have g4:=(kh u6 ⟨b5,12,none⟩ (.bool (decide (xe=1))) w.heap.size (by simp;omega)).trans G4.out;have hb:=Owned.ja HB.out (g:=b5) (i:=12) (by omega) (.bool (decide (xe=1)));clear c12 f12 G4 G5 HB;generalize kl u6 ⟨b5,12,none⟩ (.bool (decide (xe=1)))=u7 at g4 g5 hb |-;have G4:=hJJ g4;have G5:=hJJ g5;have HB:=hJJ hb;clear g4 g5 hb;have FIN:Hid (R.cells.toArray=#[.bool true,I (1+x0),I x1,I (1+x0+x5),I (1+x0+x5+x6),I (1+x2),I (10+x3),I x4,I 0,I 0,I x9,.bool (decide (xt > 0)),.bool (decide (xe=1))]):=hJJ (by rw [RES.out];simp only [Ph.cells,if_neg H7.out,RC.out]);have LV:Hid (jl u7 ⟨b5,0,none⟩ #[.bool true,I (1+x0),I x1,I (1+x0+x5),I (1+x0+x5+x6),I (1+x2),I (10+x3),I x4,I 0,I 0,I x9,.bool (decide (xt > 0)),.bool (decide (xe=1))].toList):=hJJ (Row.j1 G5.out);have HG:=hJJ (below_setRow HB.out (g:=w.heap.size) (ki _) #[.bool true,I (1+x0),I x1,I (1+x0+x5),I (1+x0+x5+x6),I (1+x2),I (10+x3),I x4,I 0,I 0,I x9,.bool (decide (xt > 0)),.bool (decide (xe=1))]);have HK:=hJJ (qm u7 w.heap.size _ #[.bool true,I (1+x0),I x1,I (1+x0+x5),I (1+x0+x5+x6),I (1+x2),I (10+x3),I x4,I 0,I 0,I x9,.bool (decide (xt > 0)),.bool (decide (xe=1))] _ _ G4.out);go_wp2_with (first | (refine Row.j7 25 _ rfl (by first | rfl | go_simp) ⟨b5,0,none⟩ rfl #[.bool true,I (1+x0),I x1,I (1+x0+x5),I (1+x0+x5+x6),I (1+x2),I (10+x3),I x4,I 0,I 0,I x9,.bool (decide (xt > 0)),.bool (decide (xe=1))].toList _ LV.out Tryz.underlying25 rfl jG ?_) | (refine ql rfl 25 _ _ rfl w.heap.size #[.bool true,I (1+x0),I x1,I (1+x0+x5),I (1+x0+x5+x6),I (1+x2),I (10+x3),I x4,I 0,I 0,I x9,.bool (decide (xt > 0)),.bool (decide (xe=1))] rfl rfl 25 _ G4.out jG rfl (by simp [kx]) ?_))
 generalize u7.setRow w.heap.size #[.bool true,I (1+x0),I x1,I (1+x0+x5),I (1+x0+x5+x6),I (1+x2),I (10+x3),I x4,I 0,I 0,I x9,.bool (decide (xt > 0)),.bool (decide (xe=1))]=uz at HG HK |-;go_wp2_with fail
 (try simp only [kH,Exit.then])
 refine qo (v:=.agg #[.bool true,I (1+x0),I x1,I (1+x0+x5),I (1+x0+x5+x6),I (1+x2),I (10+x3),I x4,I 0,I 0,I x9,.bool (decide (xt > 0)),.bool (decide (xe=1))]) ?_ rfl ⟨by rw [FIN.out],HG.out⟩;exact qn rfl _ _ w.heap.size 25 _ (0,0) _ rfl HK.out Tryz.underlying25 rfl jG
end GenP
namespace GenD
open Zip
open Go.ChangeShapes Go.WideShapes Go.ChangeAt Go.RowKit
open Tab Clone RefS
open May (jT)
open Same (below_setRow)
theorem jR {P:Program} {w:World} {a:Addr} {u:Value} {k:FloatKind} {v:Nat} (h:w.cell? a=some u) (hf:w.frozen? a=false):kN P (store a (.float k v)) w=.ok () (w.setCell a (.float k v)):=by
 rw [run_store P w a _ _ rfl];simp [stored,h,hf]
theorem jeo:(Tryz.prog.info? 71).map (fun i=>(i.zero,i.size))=some (some (.agg #[I 0,F 0,F 0,F 0,F 0,I 0,I 0]),7):=by kernel_rfl
def j1F (x:Int):Nat:=[4617315517961601024,4621819117588971520,4607182418800017408,4602678819172646912].getD x.toNat 0
def j1V (x:Int):Nat:=[4602678819172646912,4607182418800017408,4598175219545276416].getD x.toNat 0
theorem jep (w:World):kN Tryz.prog (kI 129 (.agg #[F 4617315517961601024,F 4621819117588971520,F 4607182418800017408,F 4602678819172646912]) (.int .i64 0)) w=.ok (F (j1F 0)) w:=by kernel_rfl
theorem jeq (w:World):kN Tryz.prog (kI 129 (.agg #[F 4617315517961601024,F 4621819117588971520,F 4607182418800017408,F 4602678819172646912]) (.int .i64 1)) w=.ok (F (j1F 1)) w:=by kernel_rfl
theorem jer (w:World):kN Tryz.prog (kI 129 (.agg #[F 4617315517961601024,F 4621819117588971520,F 4607182418800017408,F 4602678819172646912]) (.int .i64 2)) w=.ok (F (j1F 2)) w:=by kernel_rfl
theorem jes (w:World):kN Tryz.prog (kI 129 (.agg #[F 4617315517961601024,F 4621819117588971520,F 4607182418800017408,F 4602678819172646912]) (.int .i64 3)) w=.ok (F (j1F 3)) w:=by kernel_rfl
theorem jfF (x:Int) (h0:0<=x) (h1:x < 4) (w:World):kN Tryz.prog (kI 129 (.agg #[F 4617315517961601024,F 4621819117588971520,F 4607182418800017408,F 4602678819172646912]) (.int .i64 x)) w=.ok (F (j1F x)) w:=by
 have:x=0\/x=1\/x=2\/x=3:=by omega
 rcases this with rfl | rfl | rfl | rfl
 ·exact jep w
 ·exact jeq w
 ·exact jer w
 exact jes w
theorem jet (w:World):kN Tryz.prog (kI 130 (.agg #[F 4602678819172646912,F 4607182418800017408,F 4598175219545276416]) (.int .i64 0)) w=.ok (F (j1V 0)) w:=by kernel_rfl
theorem jeu (w:World):kN Tryz.prog (kI 130 (.agg #[F 4602678819172646912,F 4607182418800017408,F 4598175219545276416]) (.int .i64 1)) w=.ok (F (j1V 1)) w:=by kernel_rfl
theorem jev (w:World):kN Tryz.prog (kI 130 (.agg #[F 4602678819172646912,F 4607182418800017408,F 4598175219545276416]) (.int .i64 2)) w=.ok (F (j1V 2)) w:=by kernel_rfl
theorem jfG (x:Int) (h0:0<=x) (h1:x < 3) (w:World):kN Tryz.prog (kI 130 (.agg #[F 4602678819172646912,F 4607182418800017408,F 4598175219545276416]) (.int .i64 x)) w=.ok (F (j1V x)) w:=by
 have:x=0\/x=1\/x=2:=by omega
 rcases this with rfl | rfl | rfl
 ·exact jet w
 ·exact jeu w
 exact jev w
def j3u (x y:Int):Nat:=(floatBits .mul .f64 (j1F x) (j1V y)).getD 0
theorem mul_ok (x y:Int) (h0:0<=x) (h1:x < 4) (k0:0<=y) (k1:y < 3) (t:TypeId) (w:World):(binOp .mul t (F (j1F x)) (F (j1V y))).run Tryz.prog w=.ok (F (j3u x y)) w:=by
 refine run_float_arith w .mul t .f64 _ _ _ ?_;have h:∀ a:Nat,a < 4->∀ b:Nat,b < 3->floatBits .mul .f64 (j1F a) (j1V b)=some (j3u a b):=by decide +kernel
 have:=h x.toNat (by omega) y.toNat (by omega)
 rwa [Kc h0,Kc k0] at this
def Jq (L:List Int) (i n:Int):Det :=
 ⟨num L i n,j1F (num L (i+1) 4),j3u (num L (i+1) 4) (num L (i+2) 3),Fl.ofB (num L (i+3) 4).toNat,Fl.ofB (num L (i+4) 6).toNat,
  if num L (i+5) 3=1 then 20+num L (i+6) 60 else 0,if num L (i+5) 9=2 then 60+num L (i+7) 300 else 0⟩
theorem j0c (a:Option Addr) (cap:Nat) (L:List Int) (i n:Int) (w:World) (h:jc w ⟨a,cap⟩ L) (h0:0<=i) (h1:i<=100000) (n0:0 < n) (n8:n<=8) :
  Calls Tryz.prog 38 #[.slice a L.length cap,.int .i64 i,.int .i64 n] w fun e w'=>e=.returned (.agg (Jq L i n).cells.toArray)/\Below w.heap.size w w':=by
 obtain ⟨x0,hx0,⟨r0,s0⟩,F0⟩:∃ x:Int,x=num L i n/\(0<=x/\x < n)/\Hid (∀ W,Below w.heap.size w W->Calls Tryz.prog 36 #[.slice a L.length cap,.int .i64 i,.int .i64 n] W fun e w'=>e=.returned (.int .i64 x)/\w'=W):=⟨_,rfl,j2 _ _ _ (by omega),hJJ (fun W hb=>(jb a cap L _ _ W (h.below hb) (by omega) (by omega) (by omega)).mono fun _ _ ⟨e,q⟩=>⟨e,q.symm⟩)⟩;obtain ⟨x1,hx1,⟨r1,s1⟩,F1⟩:∃ x:Int,x=num L (i+1) 4/\(0<=x/\x < 4)/\Hid (∀ W,Below w.heap.size w W->Calls Tryz.prog 36 #[.slice a L.length cap,.int .i64 (i+1),.int .i64 4] W fun e w'=>e=.returned (.int .i64 x)/\w'=W):=⟨_,rfl,j2 _ _ _ (by omega),hJJ (fun W hb=>(jb a cap L _ _ W (h.below hb) (by omega) (by omega) (by omega)).mono fun _ _ ⟨e,q⟩=>⟨e,q.symm⟩)⟩;obtain ⟨x2,hx2,⟨r2,s2⟩,F2⟩:∃ x:Int,x=num L (i+2) 3/\(0<=x/\x < 3)/\Hid (∀ W,Below w.heap.size w W->Calls Tryz.prog 36 #[.slice a L.length cap,.int .i64 (i+2),.int .i64 3] W fun e w'=>e=.returned (.int .i64 x)/\w'=W):=⟨_,rfl,j2 _ _ _ (by omega),hJJ (fun W hb=>(jb a cap L _ _ W (h.below hb) (by omega) (by omega) (by omega)).mono fun _ _ ⟨e,q⟩=>⟨e,q.symm⟩)⟩;obtain ⟨x3,hx3,⟨r3,s3⟩,F3⟩:∃ x:Int,x=num L (i+3) 4/\(0<=x/\x < 4)/\Hid (∀ W,Below w.heap.size w W->Calls Tryz.prog 36 #[.slice a L.length cap,.int .i64 (i+3),.int .i64 4] W fun e w'=>e=.returned (.int .i64 x)/\w'=W):=⟨_,rfl,j2 _ _ _ (by omega),hJJ (fun W hb=>(jb a cap L _ _ W (h.below hb) (by omega) (by omega) (by omega)).mono fun _ _ ⟨e,q⟩=>⟨e,q.symm⟩)⟩;obtain ⟨x4,hx4,⟨r4,s4⟩,F4⟩:∃ x:Int,x=num L (i+4) 6/\(0<=x/\x < 6)/\Hid (∀ W,Below w.heap.size w W->Calls Tryz.prog 36 #[.slice a L.length cap,.int .i64 (i+4),.int .i64 6] W fun e w'=>e=.returned (.int .i64 x)/\w'=W):=⟨_,rfl,j2 _ _ _ (by omega),hJJ (fun W hb=>(jb a cap L _ _ W (h.below hb) (by omega) (by omega) (by omega)).mono fun _ _ ⟨e,q⟩=>⟨e,q.symm⟩)⟩;obtain ⟨x5,hx5,⟨r5,s5⟩,F5⟩:∃ x:Int,x=num L (i+5) 3/\(0<=x/\x < 3)/\Hid (∀ W,Below w.heap.size w W->Calls Tryz.prog 36 #[.slice a L.length cap,.int .i64 (i+5),.int .i64 3] W fun e w'=>e=.returned (.int .i64 x)/\w'=W):=⟨_,rfl,j2 _ _ _ (by omega),hJJ (fun W hb=>(jb a cap L _ _ W (h.below hb) (by omega) (by omega) (by omega)).mono fun _ _ ⟨e,q⟩=>⟨e,q.symm⟩)⟩;obtain ⟨x6,hx6,⟨r6,s6⟩,F6⟩:∃ x:Int,x=num L (i+6) 60/\(0<=x/\x < 60)/\Hid (∀ W,Below w.heap.size w W->Calls Tryz.prog 36 #[.slice a L.length cap,.int .i64 (i+6),.int .i64 60] W fun e w'=>e=.returned (.int .i64 x)/\w'=W):=⟨_,rfl,j2 _ _ _ (by omega),hJJ (fun W hb=>(jb a cap L _ _ W (h.below hb) (by omega) (by omega) (by omega)).mono fun _ _ ⟨e,q⟩=>⟨e,q.symm⟩)⟩;obtain ⟨xz,hxz,⟨rz,sz⟩,Fz⟩:∃ x:Int,x=num L (i+5) 9/\(0<=x/\x < 9)/\Hid (∀ W,Below w.heap.size w W->Calls Tryz.prog 36 #[.slice a L.length cap,.int .i64 (i+5),.int .i64 9] W fun e w'=>e=.returned (.int .i64 x)/\w'=W):=⟨_,rfl,j2 _ _ _ (by omega),hJJ (fun W hb=>(jb a cap L _ _ W (h.below hb) (by omega) (by omega) (by omega)).mono fun _ _ ⟨e,q⟩=>⟨e,q.symm⟩)⟩;obtain ⟨x7,hx7,⟨r7,s7⟩,F7⟩:∃ x:Int,x=num L (i+7) 300/\(0<=x/\x < 300)/\Hid (∀ W,Below w.heap.size w W->Calls Tryz.prog 36 #[.slice a L.length cap,.int .i64 (i+7),.int .i64 300] W fun e w'=>e=.returned (.int .i64 x)/\w'=W):=⟨_,rfl,j2 _ _ _ (by omega),hJJ (fun W hb=>(jb a cap L _ _ W (h.below hb) (by omega) (by omega) (by omega)).mono fun _ _ ⟨e,q⟩=>⟨e,q.symm⟩)⟩;obtain ⟨v1,hv1,I1⟩:∃ v:Nat,v=j1F x1/\Hid (∀ w,kN Tryz.prog (kI 129 (.agg #[F 4617315517961601024,F 4621819117588971520,F 4607182418800017408,F 4602678819172646912]) (.int .i64 x1)) w=.ok (F v) w):=⟨_,rfl,hJJ (fun w=>jfF x1 r1 s1 w)⟩;obtain ⟨v2,hv2,I2⟩:∃ v:Nat,v=j1V x2/\Hid (∀ w,kN Tryz.prog (kI 130 (.agg #[F 4602678819172646912,F 4607182418800017408,F 4598175219545276416]) (.int .i64 x2)) w=.ok (F v) w):=⟨_,rfl,hJJ (fun w=>jfG x2 r2 s2 w)⟩;obtain ⟨v3,hv3,I3⟩:∃ v:Nat,v=j3u x1 x2/\Hid (∀ t w,(binOp .mul t (F v1) (F v2)).run Tryz.prog w=.ok (.float .f64 v) w):=⟨_,rfl,hJJ (fun t w=>by rw [hv1,hv2];exact mul_ok x1 x2 r1 s1 r2 s2 t w)⟩;obtain ⟨v4,hv4,I4⟩:∃ v:Nat,v=Fl.ofB x3.toNat/\Hid (∀ t w,(binOp .quo t (.float .f64 (floatOfInt .f64 x3)) (.float .f64 4621819117588971520)).run Tryz.prog w=.ok (.float .f64 v) w):=⟨_,rfl,hJJ (Secs.j7R Secs.j2d x3 r3 (by omega))⟩;obtain ⟨v5,hv5,I5⟩:∃ v:Nat,v=Fl.ofB x4.toNat/\Hid (∀ t w,(binOp .quo t (.float .f64 (floatOfInt .f64 x4)) (.float .f64 4621819117588971520)).run Tryz.prog w=.ok (.float .f64 v) w):=⟨_,rfl,hJJ (Secs.j7R Secs.j2d x4 r4 (by omega))⟩;have RES:Hid (Jq L i n=⟨x0,v1,v3,v4,v5,if x5=1 then 20+x6 else 0,if xz=2 then 60+x7 else 0⟩):=hJJ (by subst hv1 hv3 hv4 hv5 hx0 hx1 hx2 hx3 hx4 hx5 hx6 hxz hx7;rfl);generalize Jq L i n=R at RES |-;have i1:=I1.out;have i2:=I2.out;have i3:=I3.out;have i4:=I4.out;have i5:=I5.out;clear h hx0 hx1 hx2 hx3 hx4 hx5 hx6 hxz hx7 hv1 hv2 hv3 hv4 hv5;have hz:=(qu jeo).1;have HB:Hid (Below w.heap.size w (w.alloc (.cells #[I 0,F 0,F 0,F 0,F 0,I 0,I 0] 71))):=hJJ ((ko _ _).alloc (ki _) _);have hg:=qk w (.cells #[I 0,F 0,F 0,F 0,F 0,I 0,I 0] 71);have hs:(w.alloc (.cells #[I 0,F 0,F 0,F 0,F 0,I 0,I 0] 71)).heap.size=w.heap.size+1:=by simp
 have HG:=hJJ hg;have HS:=hJJ hs;clear hg hs;go_enter Tryz.func38,Tryz.ntmps38
 go_upto_region 1 with fail
 generalize (kn w _)=u at HB HG HS |-;go_wp2_with fail
 refine (F0.out _ HB.out).mono ?_;rintro e w' ⟨rfl,hq⟩;subst w';go_wp2_with fail
 refine (F1.out _ HB.out).mono ?_;rintro e w' ⟨rfl,hq⟩;subst w';go_upto_region 2 with (refine Row.jh rfl 71 _ _ rfl u _ #[I x0,F v1,F 0,F 0,F 0,I 0,I 0] rfl rfl rfl jT rfl (by simp [kx]) ?_)
 (try dsimp only [kM])
 have hb:=HB.out.alloc HB.out.size (.cells #[I x0,F v1,F 0,F 0,F 0,I 0,I 0] 71);have g5:=qk u (.cells #[I x0,F v1,F 0,F 0,F 0,I 0,I 0] 71);have g4:=(kY u (.cells #[I x0,F v1,F 0,F 0,F 0,I 0,I 0] 71) w.heap.size (by have:=HS.out;omega)).trans HG.out;have b5lt:w.heap.size < u.heap.size:=by have:=HS.out;omega
 clear HB HG HS;generalize kn u _=u0 at g4 g5 hb |-;generalize u.heap.size=b5 at g5 b5lt |-;have G4:=hJJ g4;have G5:=hJJ g5;have HB:=hJJ hb;clear g4 g5 hb;have e0:kV.wrap (i+2)=i+2:=by rw [kE];omega
 have g4:u0.drew.heap[w.heap.size]?=some (.cells #[I 0,F 0,F 0,F 0,F 0,I 0,I 0] 71 (0,0)):=G4.out;have g5:u0.drew.heap[b5]?=some (.cells #[I x0,F v1,F 0,F 0,F 0,I 0,I 0] 71 (0,0)):=G5.out;have hb:Below w.heap.size w u0.drew:=HB.out.drew;clear G4 G5 HB;refine QB.jo 10 (by kernel_rfl) (by kernel_rfl) ?_;generalize q7 u0=u1 at g4 g5 hb |-;have G4:=hJJ g4;have G5:=hJJ g5;have HB:=hJJ hb;clear g4 g5 hb;have c1:u1.cell? ⟨b5,1,none⟩=some (F v1):=by rw [qi _ _ _ _ _ _ G5.out];rfl
 have c2:u1.cell? ⟨b5,2,none⟩=some (F 0):=by rw [qi _ _ _ _ _ _ G5.out];rfl
 have f2:u1.frozen? ⟨b5,2,none⟩=false:=qj _ _ _ _ _ G5.out;have st:kN Tryz.prog (store ⟨b5,2,none⟩ (.float .f64 v3)) u1=.ok () (u1.setCell ⟨b5,2,none⟩ (.float .f64 v3)):=jR c2 f2;simp only [kB,kK,ku,kA];repeat still_step
 still_call (F2.out _ HB.out)
 repeat still_step
 refine qt ?_;go_upto_region 3 with fail
 clear e0;have g5:=qh u1 b5 2 _ _ (.float .f64 v3) G5.out;simp only [kc,kg,kf] at g5;have g4:=(kh u1 ⟨b5,2,none⟩ (.float .f64 v3) w.heap.size (by simp;omega)).trans G4.out;have hb:=Owned.ja HB.out (g:=b5) (i:=2) (by omega) (.float .f64 v3);clear st c1 c2 f2 G4 G5 HB;generalize kl u1 ⟨b5,2,none⟩ (.float .f64 v3)=u2 at g4 g5 hb |-;have G4:=hJJ g4;have G5:=hJJ g5;have HB:=hJJ hb;clear g4 g5 hb;have c3:u2.cell? ⟨b5,3,none⟩=some (F 0):=by rw [qi _ _ _ _ _ _ G5.out];rfl
 have f3:u2.frozen? ⟨b5,3,none⟩=false:=qj _ _ _ _ _ G5.out;have st:kN Tryz.prog (store ⟨b5,3,none⟩ (.float .f64 v4)) u2=.ok () (u2.setCell ⟨b5,3,none⟩ (.float .f64 v4)):=jR c3 f3;go_wp2_with fail
 refine (F3.out _ HB.out).mono ?_;rintro e w' ⟨rfl,hq⟩;subst w';go_upto_region 4 with fail
 have g5:=qh u2 b5 3 _ _ (.float .f64 v4) G5.out;simp only [kc,kg,kf] at g5;have g4:=(kh u2 ⟨b5,3,none⟩ (.float .f64 v4) w.heap.size (by simp;omega)).trans G4.out;have hb:=Owned.ja HB.out (g:=b5) (i:=3) (by omega) (.float .f64 v4);clear st c3 f3 G4 G5 HB;generalize kl u2 ⟨b5,3,none⟩ (.float .f64 v4)=u3 at g4 g5 hb |-;have G4:=hJJ g4;have G5:=hJJ g5;have HB:=hJJ hb;clear g4 g5 hb;have c4:u3.cell? ⟨b5,4,none⟩=some (F 0):=by rw [qi _ _ _ _ _ _ G5.out];rfl
 have f4:u3.frozen? ⟨b5,4,none⟩=false:=qj _ _ _ _ _ G5.out;have st:kN Tryz.prog (store ⟨b5,4,none⟩ (.float .f64 v5)) u3=.ok () (u3.setCell ⟨b5,4,none⟩ (.float .f64 v5)):=jR c4 f4;go_wp2_with fail
 refine (F4.out _ HB.out).mono ?_;rintro e w' ⟨rfl,hq⟩;subst w';go_upto_region 5 with fail
 have g5:=qh u3 b5 4 _ _ (.float .f64 v5) G5.out;simp only [kc,kg,kf] at g5;have g4:=(kh u3 ⟨b5,4,none⟩ (.float .f64 v5) w.heap.size (by simp;omega)).trans G4.out;have hb:=Owned.ja HB.out (g:=b5) (i:=4) (by omega) (.float .f64 v5);clear st c4 f4 G4 G5 HB;generalize kl u3 ⟨b5,4,none⟩ (.float .f64 v5)=u4 at g4 g5 hb |-;have G4:=hJJ g4;have G5:=hJJ g5;have HB:=hJJ hb;clear g4 g5 hb;go_wp2_with fail
 refine (F5.out _ HB.out).mono ?_;rintro e w' ⟨rfl,hq⟩;subst w';by_cases h5:x5=1
 ·have H5:=hJJ h5;have e5:(x5 == 1)=true:=by simpa using h5
  clear h5;go_upto_region 6 with fail
  have c5:u4.cell? ⟨b5,5,none⟩=some (I 0):=by rw [qi _ _ _ _ _ _ G5.out];rfl
  have f5:u4.frozen? ⟨b5,5,none⟩=false:=qj _ _ _ _ _ G5.out;go_wp2_with fail
  refine (F6.out _ HB.out).mono ?_;rintro e w' ⟨rfl,hq⟩;subst w';go_upto_region 7 with fail
  have g5:=qh u4 b5 5 _ _ (I (20+x6)) G5.out;simp only [kc,kg,kf] at g5;have g4:=(kh u4 ⟨b5,5,none⟩ (I (20+x6)) w.heap.size (by simp;omega)).trans G4.out;have hb:=Owned.ja HB.out (g:=b5) (i:=5) (by omega) (I (20+x6));clear c5 f5 G4 G5 HB;generalize kl u4 ⟨b5,5,none⟩ (I (20+x6))=u5 at g4 g5 hb |-;have G4:=hJJ g4;have G5:=hJJ g5;have HB:=hJJ hb;clear g4 g5 hb;go_wp2_with fail
  refine (Fz.out _ HB.out).mono ?_;rintro e w' ⟨rfl,hq⟩;subst w';by_cases hz:xz=2
  ·have HZ:=hJJ hz;have ez:(xz == 2)=true:=by simpa using hz
   clear hz;go_upto_region 8 with fail
   have c6:u5.cell? ⟨b5,6,none⟩=some (I 0):=by rw [qi _ _ _ _ _ _ G5.out];rfl
   have f6:u5.frozen? ⟨b5,6,none⟩=false:=qj _ _ _ _ _ G5.out;go_wp2_with fail
   refine (F7.out _ HB.out).mono ?_;rintro e w' ⟨rfl,hq⟩;subst w';go_upto_region 9 with fail
   have g5:=qh u5 b5 6 _ _ (I (60+x7)) G5.out;simp only [kc,kg,kf] at g5;have g4:=(kh u5 ⟨b5,6,none⟩ (I (60+x7)) w.heap.size (by simp;omega)).trans G4.out;have hb:=Owned.ja HB.out (g:=b5) (i:=6) (by omega) (I (60+x7));clear c6 f6 G4 G5 HB;generalize kl u5 ⟨b5,6,none⟩ (I (60+x7))=u6 at g4 g5 hb |-;have G4:=hJJ g4;have G5:=hJJ g5;have HB:=hJJ hb;clear g4 g5 hb;have FIN:Hid (R.cells.toArray=#[I x0,F v1,.float .f64 v3,.float .f64 v4,.float .f64 v5,I (20+x6),I (60+x7)]):=hJJ (by rw [RES.out];simp only [Det.cells,if_pos H5.out,if_pos HZ.out]);have LV:Hid (jl u6 ⟨b5,0,none⟩ #[I x0,F v1,.float .f64 v3,.float .f64 v4,.float .f64 v5,I (20+x6),I (60+x7)].toList):=hJJ (Row.j1 G5.out);have HG:=hJJ (below_setRow HB.out (g:=w.heap.size) (ki _) #[I x0,F v1,.float .f64 v3,.float .f64 v4,.float .f64 v5,I (20+x6),I (60+x7)]);have HK:=hJJ (qm u6 w.heap.size _ #[I x0,F v1,.float .f64 v3,.float .f64 v4,.float .f64 v5,I (20+x6),I (60+x7)] _ _ G4.out);go_wp2_with (first | (refine Row.j7 71 _ rfl (by first | rfl | go_simp) ⟨b5,0,none⟩ rfl #[I x0,F v1,.float .f64 v3,.float .f64 v4,.float .f64 v5,I (20+x6),I (60+x7)].toList _ LV.out Tryz.underlying71 rfl jT ?_) | (refine ql rfl 71 _ _ rfl w.heap.size #[I x0,F v1,.float .f64 v3,.float .f64 v4,.float .f64 v5,I (20+x6),I (60+x7)] rfl rfl 71 _ G4.out jT rfl (by simp [kx]) ?_))
   generalize u6.setRow w.heap.size #[I x0,F v1,.float .f64 v3,.float .f64 v4,.float .f64 v5,I (20+x6),I (60+x7)]=uz at HG HK |-;go_wp2_with fail
   (try simp only [kH,Exit.then])
   refine qo (v:=.agg #[I x0,F v1,.float .f64 v3,.float .f64 v4,.float .f64 v5,I (20+x6),I (60+x7)]) ?_ rfl ⟨by rw [FIN.out],HG.out⟩;exact qn rfl _ _ w.heap.size 71 _ (0,0) _ rfl HK.out Tryz.underlying71 rfl jT
  have HZ:=hJJ hz;have ez:(xz == 2)=false:=by simpa using hz
  clear hz;go_upto_region 9 with fail
  have FIN:Hid (R.cells.toArray=#[I x0,F v1,.float .f64 v3,.float .f64 v4,.float .f64 v5,I (20+x6),I 0]):=hJJ (by rw [RES.out];simp only [Det.cells,if_pos H5.out,if_neg HZ.out]);have LV:Hid (jl u5 ⟨b5,0,none⟩ #[I x0,F v1,.float .f64 v3,.float .f64 v4,.float .f64 v5,I (20+x6),I 0].toList):=hJJ (Row.j1 G5.out);have HG:=hJJ (below_setRow HB.out (g:=w.heap.size) (ki _) #[I x0,F v1,.float .f64 v3,.float .f64 v4,.float .f64 v5,I (20+x6),I 0]);have HK:=hJJ (qm u5 w.heap.size _ #[I x0,F v1,.float .f64 v3,.float .f64 v4,.float .f64 v5,I (20+x6),I 0] _ _ G4.out);go_wp2_with (first | (refine Row.j7 71 _ rfl (by first | rfl | go_simp) ⟨b5,0,none⟩ rfl #[I x0,F v1,.float .f64 v3,.float .f64 v4,.float .f64 v5,I (20+x6),I 0].toList _ LV.out Tryz.underlying71 rfl jT ?_) | (refine ql rfl 71 _ _ rfl w.heap.size #[I x0,F v1,.float .f64 v3,.float .f64 v4,.float .f64 v5,I (20+x6),I 0] rfl rfl 71 _ G4.out jT rfl (by simp [kx]) ?_))
  generalize u5.setRow w.heap.size #[I x0,F v1,.float .f64 v3,.float .f64 v4,.float .f64 v5,I (20+x6),I 0]=uz at HG HK |-;go_wp2_with fail
  (try simp only [kH,Exit.then])
  refine qo (v:=.agg #[I x0,F v1,.float .f64 v3,.float .f64 v4,.float .f64 v5,I (20+x6),I 0]) ?_ rfl ⟨by rw [FIN.out],HG.out⟩;exact qn rfl _ _ w.heap.size 71 _ (0,0) _ rfl HK.out Tryz.underlying71 rfl jT
 have H5:=hJJ h5;have e5:(x5 == 1)=false:=by simpa using h5
 clear h5;go_upto_region 7 with fail
 go_wp2_with fail
 refine (Fz.out _ HB.out).mono ?_;rintro e w' ⟨rfl,hq⟩;subst w';by_cases hz:xz=2
 ·have HZ:=hJJ hz;have ez:(xz == 2)=true:=by simpa using hz
  clear hz;go_upto_region 8 with fail
  have c6:u4.cell? ⟨b5,6,none⟩=some (I 0):=by rw [qi _ _ _ _ _ _ G5.out];rfl
  have f6:u4.frozen? ⟨b5,6,none⟩=false:=qj _ _ _ _ _ G5.out;go_wp2_with fail
  refine (F7.out _ HB.out).mono ?_;rintro e w' ⟨rfl,hq⟩;subst w';go_upto_region 9 with fail
  have g5:=qh u4 b5 6 _ _ (I (60+x7)) G5.out;simp only [kc,kg,kf] at g5;have g4:=(kh u4 ⟨b5,6,none⟩ (I (60+x7)) w.heap.size (by simp;omega)).trans G4.out;have hb:=Owned.ja HB.out (g:=b5) (i:=6) (by omega) (I (60+x7));clear c6 f6 G4 G5 HB;generalize kl u4 ⟨b5,6,none⟩ (I (60+x7))=u5 at g4 g5 hb |-;have G4:=hJJ g4;have G5:=hJJ g5;have HB:=hJJ hb;clear g4 g5 hb;have FIN:Hid (R.cells.toArray=#[I x0,F v1,.float .f64 v3,.float .f64 v4,.float .f64 v5,I 0,I (60+x7)]):=hJJ (by rw [RES.out];simp only [Det.cells,if_neg H5.out,if_pos HZ.out]);have LV:Hid (jl u5 ⟨b5,0,none⟩ #[I x0,F v1,.float .f64 v3,.float .f64 v4,.float .f64 v5,I 0,I (60+x7)].toList):=hJJ (Row.j1 G5.out);have HG:=hJJ (below_setRow HB.out (g:=w.heap.size) (ki _) #[I x0,F v1,.float .f64 v3,.float .f64 v4,.float .f64 v5,I 0,I (60+x7)]);have HK:=hJJ (qm u5 w.heap.size _ #[I x0,F v1,.float .f64 v3,.float .f64 v4,.float .f64 v5,I 0,I (60+x7)] _ _ G4.out);go_wp2_with (first | (refine Row.j7 71 _ rfl (by first | rfl | go_simp) ⟨b5,0,none⟩ rfl #[I x0,F v1,.float .f64 v3,.float .f64 v4,.float .f64 v5,I 0,I (60+x7)].toList _ LV.out Tryz.underlying71 rfl jT ?_) | (refine ql rfl 71 _ _ rfl w.heap.size #[I x0,F v1,.float .f64 v3,.float .f64 v4,.float .f64 v5,I 0,I (60+x7)] rfl rfl 71 _ G4.out jT rfl (by simp [kx]) ?_))
  generalize u5.setRow w.heap.size #[I x0,F v1,.float .f64 v3,.float .f64 v4,.float .f64 v5,I 0,I (60+x7)]=uz at HG HK |-;go_wp2_with fail
  (try simp only [kH,Exit.then])
  refine qo (v:=.agg #[I x0,F v1,.float .f64 v3,.float .f64 v4,.float .f64 v5,I 0,I (60+x7)]) ?_ rfl ⟨by rw [FIN.out],HG.out⟩;exact qn rfl _ _ w.heap.size 71 _ (0,0) _ rfl HK.out Tryz.underlying71 rfl jT
 have HZ:=hJJ hz;have ez:(xz == 2)=false:=by simpa using hz
 clear hz;go_upto_region 9 with fail
 have FIN:Hid (R.cells.toArray=#[I x0,F v1,.float .f64 v3,.float .f64 v4,.float .f64 v5,I 0,I 0]):=hJJ (by rw [RES.out];simp only [Det.cells,if_neg H5.out,if_neg HZ.out]);have LV:Hid (jl u4 ⟨b5,0,none⟩ #[I x0,F v1,.float .f64 v3,.float .f64 v4,.float .f64 v5,I 0,I 0].toList):=hJJ (Row.j1 G5.out);have HG:=hJJ (below_setRow HB.out (g:=w.heap.size) (ki _) #[I x0,F v1,.float .f64 v3,.float .f64 v4,.float .f64 v5,I 0,I 0]);have HK:=hJJ (qm u4 w.heap.size _ #[I x0,F v1,.float .f64 v3,.float .f64 v4,.float .f64 v5,I 0,I 0] _ _ G4.out);go_wp2_with (first | (refine Row.j7 71 _ rfl (by first | rfl | go_simp) ⟨b5,0,none⟩ rfl #[I x0,F v1,.float .f64 v3,.float .f64 v4,.float .f64 v5,I 0,I 0].toList _ LV.out Tryz.underlying71 rfl jT ?_) | (refine ql rfl 71 _ _ rfl w.heap.size #[I x0,F v1,.float .f64 v3,.float .f64 v4,.float .f64 v5,I 0,I 0] rfl rfl 71 _ G4.out jT rfl (by simp [kx]) ?_))
 generalize u4.setRow w.heap.size #[I x0,F v1,.float .f64 v3,.float .f64 v4,.float .f64 v5,I 0,I 0]=uz at HG HK |-;go_wp2_with fail
 (try simp only [kH,Exit.then])
 refine qo (v:=.agg #[I x0,F v1,.float .f64 v3,.float .f64 v4,.float .f64 v5,I 0,I 0]) ?_ rfl ⟨by rw [FIN.out],HG.out⟩;exact qn rfl _ _ w.heap.size 71 _ (0,0) _ rfl HK.out Tryz.underlying71 rfl jT
end GenD
namespace PlaceM
open Go Tab
structure Spt where
 g:Nat
 k:Nat
 i:Nat
 p:Int
 deriving DecidableEq,Inhabited
structure Few (T:Tab):Prop where
 groups:T.groups.length<=1000
 rows:∀ g ∈ T.groups,g.1.length<=1000/\g.2.length<=1000
def Spt.cells (x:Spt):List Value:=[I x.g,I x.k,I x.i,I x.p]
theorem Spt.one (x:Spt):x.cells.toArray.all (·.oneCell')=true:=by simp [Spt.cells,kx]
def one (g k i:Nat) (p:Int):List Spt:=if 0<=p/\p < 8 then [⟨g,k,i,p⟩] else []
def Ja (g k:Nat):Nat->List Int->List Spt
 | _,[]=>[]
 | i,p :: l=>one g k i p++Ja g k (i+1) l
def jew (g:Nat) (x:List Int × List Int):List Spt:=Ja g 0 0 x.1++Ja g 1 0 x.2
def Jx:Nat->List (List Int × List Int)->List Spt
 | _,[]=>[]
 | g,x :: l=>jew g x++Jx (g+1) l
def JT (T:Tab):List Spt:=Jx 0 T.groups
theorem j3N (g k:Nat):∀ (i:Nat) (l m:List Int),Ja g k i (l++m)=Ja g k i l++Ja g k (i+l.length) m
 | i,[],m=>rfl
 | i,p :: l,m=>by
  rw [KO,Ja,Ja,j3N g k (i+1) l m,kq,kJ,show i+1+l.length=i+(l.length+1) by omega]
theorem j3O:∀ (g:Nat) (l m:List (List Int × List Int)),Jx g (l++m)=Jx g l++Jx (g+l.length) m
 | g,[],m=>rfl
 | g,x :: l,m=>by
  rw [KO,Jx,Jx,j3O (g+1) l m,kq,kJ,show g+1+l.length=g+(l.length+1) by omega]
theorem take_succ {α:Type} {l:List α} {k:Nat} {v:α} (h:l[k]?=some v):l.take (k+1)=l.take k++[v]:=by
 obtain ⟨hk,rfl⟩:=km.1 h;exact K6 hk
theorem j7r {g k i:Nat} {l:List Int} {p:Int} (h:l[i]?=some p):Ja g k 0 (l.take (i+1))=Ja g k 0 (l.take i)++one g k i p:=by
 have hi:i < l.length:=(km.1 h).1;rw [take_succ h,j3N,K7,Ku (by omega),KK];simp [Ja]
theorem j8T {g k i:Nat} {l:List Int} {p:Int} (h:l[i]?=some p) (h0:0<=p) (h8:p < 8):Ja g k 0 (l.take (i+1))=Ja g k 0 (l.take i)++[⟨g,k,i,p⟩]:=by
 rw [j7r h,one,if_pos ⟨h0,h8⟩]
theorem j7s {g k i:Nat} {l:List Int} {p:Int} (h:l[i]?=some p) (h0:¬ (0<=p/\p < 8)):Ja g k 0 (l.take (i+1))=Ja g k 0 (l.take i):=by
 rw [j7r h,one,if_neg h0,kT]
theorem j0w {g:Nat} {l:List (List Int × List Int)} {x:List Int × List Int} (h:l[g]?=some x):Jx 0 (l.take (g+1))=Jx 0 (l.take g)++(Ja g 0 0 x.1++Ja g 1 0 x.2):=by
 have hi:g < l.length:=(km.1 h).1;rw [take_succ h,j3O,K7,Ku (by omega),KK];simp [Jx,jew]
theorem jcT (g k i:Nat) (p:Int):(one g k i p).length<=1:=by unfold one;split <;> simp
theorem j0U (g k:Nat):∀ (i:Nat) (l:List Int),(Ja g k i l).length<=l.length
 | i,[]=>ki _
 | i,p :: l=>by
  rw [Ja,kk,kJ];have:=jcT g k i p;have:=j0U g k (i+1) l;omega
theorem j7t:∀ (g:Nat) (l:List (List Int × List Int)),(∀ x ∈ l,x.1.length<=1000/\x.2.length<=1000)->(Jx g l).length<=l.length*2000
 | g,[],_=>by simp [Jx]
 | g,x :: l,h=>by
  rw [Jx,kk,kJ,KR];have h1:=h x (by simp);have h2:=j7t (g+1) l (fun y hy=>h y (by simp [hy]));have h3:=j0U g 0 0 x.1;have h4:=j0U g 1 0 x.2;rw [jew,kk];omega
theorem j5H {g:Nat} {l:List (List Int × List Int)} (hl:l.length<=1000) (h:∀ x ∈ l,x.1.length<=1000/\x.2.length<=1000):(Jx g l).length<=2000000:=by
 have:=j7t g l h;omega
def find (p:Int) (l:List Spt):Option Spt:=l.find? (fun x=>x.p == p)
theorem j5I {p:Int} {l:List Spt} (h:∀ x ∈ l,x.p ≠ p):find p l=none:=by
 unfold find;rw [List.find?_eq_none];intro x hx;simpa using h x hx
def JM (T:Tab) (p:Int):Option Spt:=find p (JT T)
def beside (T:Tab) (p q:Int):Bool:=match JM T p,JM T q with
 | some a,some b=>a.g == b.g && a.k != b.k
 | _,_=>false
end PlaceM
end Go.Proofs.YtonpphjleapafaaGreat
