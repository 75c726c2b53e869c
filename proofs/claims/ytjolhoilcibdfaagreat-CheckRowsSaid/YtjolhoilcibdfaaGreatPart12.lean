/- 2 texts in one file, in build order. -/
import Derived.Test.YtjolhoilcibdfaaGreatPart01
import Derived.Test.YtjolhoilcibdfaaGreatRows
import Derived.Test.YtjolhoilcibdfaaGreatPart11
import Derived.Test.YtjolhoilcibdfaaGreatPart09
import Derived.Test.YtjolhoilcibdfaaGreatPart02
import Derived.Test.YtjolhoilcibdfaaGreatPart10
import Derived.Deep.Slices
import Derived.ChangeSame
import Derived.Laws.Cover2
set_option linter.unusedVariables false
set_option linter.unusedSimpArgs false
set_option linter.unusedSectionVars false
set_option maxHeartbeats 8000000
set_option maxRecDepth 100000
namespace Go.Proofs.YtjolhoilcibdfaaGreat
namespace RkK
open Zip
open Go.ChangeShapes Go.WideShapes Go.ChangeAt Go.RowKit
open Tab PlaceM PlanM OnS ChkM ChkH ChkE
open ChkB (laid2)
open ChkI (hmx)
open Same (below_setRow)
open RefS (rhas_any rlist_any row_of)
open RkB (getD_mem)
open May (ret_bool infoT infoP infoD infoR infoB tabMay)
theorem find_hit {f:Int→Bool} {L:List Int} {q:Nat} (h:q < L.length) (hf:f (L.getD q 0)=true) (hn:∀ i,i < q→f (L.getD i 0)=false):L.find? f=some (L.getD q 0):=by
 rw [List.getD_eq_getElem?_getD,List.getElem?_eq_getElem h] at hf ⊢
 rw [Option.getD_some] at hf ⊢
 rw [List.find?_eq_some_iff_getElem]
 refine ⟨hf,q,h,rfl,fun j hj=>?_⟩
 have:=hn j hj
 rw [List.getD_eq_getElem?_getD,List.getElem?_eq_getElem (by omega)] at this
 simpa using this
theorem find_miss {f:Int→Bool} {L:List Int} (hn:∀ i,i < L.length→f (L.getD i 0)=false):L.find? f=none:=by
 rw [List.find?_eq_none]
 intro z hz
 obtain ⟨i,hi,rfl⟩:=List.getElem_of_mem hz
 have:=hn i hi
 rw [List.getD_eq_getElem?_getD,List.getElem?_eq_getElem hi] at this
 simpa using this
theorem lies_at {w:World} {b:Nat} {c:List Value} (h:Lies w ⟨b,0,none⟩ c) (j:Nat) (hj:0 < j) {v:Value} (hv:c[j]?=some v):w.cell? ⟨b,j,none⟩=some v:=by
 have:=h j v hv
 rw [show (⟨b,0,none⟩:Addr).add j=⟨b,j,none⟩ by simp [Addr.add,Nat.pos_iff_ne_zero.1 hj]] at this
 exact this
theorem rcheck_any (T:Tab) (h:Hd) (w:World) (ht:IsTab w h T) (sm:Few T) :
  Calls Tryz.prog 15 #[.agg (T.cells h).toArray] w fun e w'=>e=.returned (.agg (fcells (chkR T)))∧Below w.heap.size w w':=by
 have hsz:=(cells_ok ht).size
 have IA:Hid ((Tryz.prog.info? 32).map (·.size)=some (T.cells h).length):=hJJ (by rw [List.size_toArray] at hsz;rw [hsz];exact infoT)
 have MY:Hid (∀ W,Below w.heap.size w W→Calls Tryz.prog 48 #[.agg (T.cells h).toArray] W fun e w'=>e=.returned (.bool (tabMay T))∧Below W.heap.size W w'):=hJJ (fun W hb=>May.rmay_any T h W (ht.below hb))
 have ON:Hid (∀ W,Below w.heap.size w W→Calls Tryz.prog 22 #[.agg (T.cells h).toArray] W fun e w'=>e=.returned (.int .i64 (onS T:Nat))∧Below W.heap.size W w'):=hJJ (fun W hb=>OnS.on_any T h W (ht.below hb))
 have RG:Hid (∀ W,Below w.heap.size w W→Calls Tryz.prog 50 #[.agg (T.cells h).toArray] W fun e w'=>e=.returned (.agg (fltC 8 (ringsR T)))∧Below W.heap.size W w'):=hJJ (fun W hb=>RkR.rrings_any T h W (ht.below hb) sm)
 have CF:Hid (∀ (k:Nat) W,k < 8→Below w.heap.size w W→Calls Tryz.prog 51 #[.agg (T.cells h).toArray,.int .i64 k,.int .i64 (onS T:Nat)] W fun e w'=>e=.returned (.bool (confOk T k))∧Below W.heap.size W w'):=hJJ (fun k W hk hb=>RkA.conflict_any T h k hk W (ht.below hb) sm)
 have FL:Hid (∀ (k:Nat) W,k < 8→Below w.heap.size w W→Calls Tryz.prog 54 #[.agg (T.cells h).toArray,.int .i64 k,.int .i64 (onS T:Nat)] W fun e w'=>e=.returned (.bool (flashOk T k))∧Below W.heap.size W w'):=hJJ (fun k W hk hb=>RkA.flash_any T h k hk W (ht.below hb))
 have RL:Hid (∀ (r:Rl) W,Below w.heap.size w W→Calls Tryz.prog 52 #[.agg (T.cells h).toArray,.agg r.cells.toArray,.int .i64 (onS T:Nat)] W fun e w'=>e=.returned (.bool (railOk T r))∧Below W.heap.size W w'):=hJJ (fun r W hb=>RkC.rail_any T h r W (ht.below hb) sm)
 have DO:Hid (tabMay T=true→∀ d,d ∈ T.dets→Fl.isn d.on=false∧Fl.isn d.off=false∧0≤d.phase∧d.phase < 8):=hJJ (fun hm d hd=>ChkK.det_ok hm hd)
 have LT0:=hJJ (Row.lies_new w (T.cells h).toArray 32)
 have PL0:=hJJ (fun k hk=>ChkB.phase_lies ht k hk)
 have hs1:(w.alloc (.cells (T.cells h).toArray 32)).heap.size=w.heap.size+1:=by simp
 have BD:=hJJ (fun q (hq:q ∈ ons T)=>SetM.list_bd _ q hq)
 have hl8:(ons T).length≤8:=SetM.list_len _
 have OL:Hid (SetM.list (onS T:Nat)=ons T):=hJJ rfl
 have C113:Hid ((T.cells h)[113]?=some (.slice h.d.a T.dets.length h.d.cap)):=hJJ ((List.getElem?_toArray ..).symm.trans (cells_ok ht).d)
 have C114:Hid ((T.cells h)[114]?=some (.slice h.r.a T.rails.length h.r.cap)):=hJJ ((List.getElem?_toArray ..).symm.trans (cells_ok ht).r)
 have C115:Hid ((T.cells h)[115]?=some (.slice h.b.a T.buses.length h.b.cap)):=hJJ ((List.getElem?_toArray ..).symm.trans (cells_ok ht).b)
 have RD:=hJJ ht.dets
 have RR:=hJJ ht.rails
 have RB:=hJJ ht.buses
 have KD:=ht.dets.len
 have KR:=ht.rails.len
 have KB:=ht.buses.len
 unfold maxLen at KD KR KB
 obtain ⟨l,hl⟩:∃ z,z=rulesR T:=⟨_,rfl⟩
 have CK:Hid (chkR T=firstF l):=hJJ (by rw [hl];rfl)
 unfold rulesR at hl
 have LL0:Hid (l[0]?=some (4,mayF T)):=hJJ (by rw [hl];rfl)
 have LL1:Hid (l[1]?=some (7,(ons T).find? fun p=>!phOk (phAt T p))):=hJJ (by rw [hl];rfl)
 have LL2:Hid (l[2]?=some (8,ringsR T)):=hJJ (by rw [hl];rfl)
 have LL3:Hid (l[3]?=some (9,(ons T).find? fun p=>!confOk T p)):=hJJ (by rw [hl];rfl)
 have LL4:Hid (l[4]?=some (10,idx (detR T) T.dets)):=hJJ (by rw [hl];rfl)
 have LL5:Hid (l[5]?=some (11,idx (fun r=>!railOk T r) T.rails)):=hJJ (by rw [hl];rfl)
 have LL6:Hid (l[6]?=some (12,idx (busR T) T.buses)):=hJJ (by rw [hl];rfl)
 have LL7:Hid (l[7]?=some (13,(ons T).find? fun p=>!flashOk T p)):=hJJ (by rw [hl];rfl)
 have LE:Hid (l.length=8):=hJJ (by rw [hl];rfl)
 have DR:Hid (∀ d,detR T d=(gtF d.off d.on || !SetM.has (onS T:Nat) d.phase)):=hJJ (fun _=>rfl)
 have BR:Hid (∀ b,busR T b=(b.set == 0 || (!inR b.set (onS T:Nat) || decide (b.lock < 1)))):=hJJ (fun _=>rfl)
 have MF:Hid (mayF T=if tabMay T then none else some 0):=hJJ rfl
 generalize chkR T=ck at CK ⊢
 clear hl ht sm
 generalize hda:h.d.a=da at *
 generalize hdc:h.d.cap=dcap at *
 generalize hra:h.r.a=ra at *
 generalize hrc:h.r.cap=rcap at *
 generalize hba:h.b.a=ba at *
 generalize hbc:h.b.cap=bcap at *
 have RDa:=hJJ hda
 have RRa:=hJJ hra
 have RBa:=hJJ hba
 clear hda hdc hra hrc hba hbc
 generalize T.cells h=c at *
 generalize ons T=L at *
 generalize hon:(((onS T:Nat)):Int)=on at *
 clear hon
 go_enter Tryz.func15,Tryz.ntmps15
 go_upto_region 1 with fail
 obtain ⟨W1,hW1,E1,E0,EB,bR⟩:=laid2 w (.cells c.toArray 32) (.cells #[.int .i64 0,.int .i64 0] 37)
 rw [hW1]
 have LT:=hJJ (LT0.out.below (by rw [hs1];exact EB))
 have PL:=hJJ (fun k hk=>(PL0.out k hk).below (by rw [hs1];exact EB))
 have C0:=hJJ E0
 have C2:=hJJ bR
 clear hW1 EB hs1 hsz LT0 PL0 E0 E1 bR
 go_wp2_with (refine lgZ 32 ⟨w.heap.size,0,none⟩ c rfl LT.out Tryz.underlying32 IA.out ?_)
 (try go_wp2_with fail)
 refine (MY.out _ C0.out).mono ?_
 rintro e u1 ⟨rfl,hb⟩
 replace C0:Hid (Below w.heap.size w u1):=hJJ (C0.out.trans (hb.mono C0.out.size))
 replace C2:Hid (u1.heap[w.heap.size+1]?=some (.cells #[.int .i64 0,.int .i64 0] 37 (0,0))):=hJJ ((hb.block _ (Array.getElem?_eq_some_iff.1 C2.out).1).trans C2.out)
 replace LT:=hJJ (LT.out.below hb)
 replace PL:=hJJ (fun k hk=>(PL.out k hk).below hb)
 clear hb
 cases hm:tabMay T with
 | false =>
  have RO:Hid (ck=(4,0)):=hJJ (by rw [CK.out];exact first_hit (q:=0) (by rw [LL0.out,MF.out,hm];rfl) (fun j x hj=>by omega))
  clear hm
  have HW:=hJJ (below_setRow C0.out (g:=w.heap.size+1) (by omega) #[.int .i64 4,.int .i64 0])
  have HK:=hJJ (setRow_heap u1 (w.heap.size+1) _ #[.int .i64 4,.int .i64 0] _ _ C2.out)
  go_wp2_with (first | (refine wpList_store_row rfl 37 _ _ rfl (w.heap.size+1) #[.int .i64 4,.int .i64 0] rfl rfl 37 _ C2.out infoF rfl (by simp [Value.oneCell']) ?_))
  generalize u1.setRow (w.heap.size+1) #[.int .i64 4,.int .i64 0]=uz at HW HK ⊢
  (try go_wp2_with fail)
  (try simp only [Exit.inBlock,Exit.then])
  refine bodyPost_ret (v:=.agg #[.int .i64 4,.int .i64 0]) ?_ rfl ⟨by rw [RO.out];rfl,HW.out⟩
  exact results_cell_row rfl _ _ (w.heap.size+1) 37 _ (0,0) _ rfl HK.out Tryz.underlying37 rfl infoF
 | true =>
  have N1:Hid (∀ (j:Nat) x,j < 1→l[j]?=some x→x.2=none):=hJJ (fun j x hj hx=>by
   obtain rfl:j=0:=by omega
   obtain rfl:=Option.some.inj (hx.symm.trans LL0.out)
   show mayF T=none
   rw [MF.out,hm];rfl)
  have DM:=hJJ (DO.out hm)
  clear hm
  go_wp2_with (refine lgZ 32 ⟨w.heap.size,0,none⟩ c rfl LT.out Tryz.underlying32 IA.out ?_)
  (try go_wp2_with fail)
  refine (ON.out _ C0.out).mono ?_
  rintro e u2 ⟨rfl,hb⟩
  replace C0:Hid (Below w.heap.size w u2):=hJJ (C0.out.trans (hb.mono C0.out.size))
  replace C2:Hid (u2.heap[w.heap.size+1]?=some (.cells #[.int .i64 0,.int .i64 0] 37 (0,0))):=hJJ ((hb.block _ (Array.getElem?_eq_some_iff.1 C2.out).1).trans C2.out)
  replace LT:=hJJ (LT.out.below hb)
  replace PL:=hJJ (fun k hk=>(PL.out k hk).below hb)
  clear hb
  go_wp2_with fail
  refine (rlist_any _ _).mono ?_
  rintro e u3 ⟨v,rfl,hown,hb⟩
  rw [OL.out] at hown
  obtain ⟨la,lcap,rfl,hrow⟩:=row_of hown
  have HROW:=hJJ hrow
  replace C0:Hid (Below w.heap.size w u3):=hJJ (C0.out.trans (hb.mono C0.out.size))
  replace C2:Hid (u3.heap[w.heap.size+1]?=some (.cells #[.int .i64 0,.int .i64 0] 37 (0,0))):=hJJ ((hb.block _ (Array.getElem?_eq_some_iff.1 C2.out).1).trans C2.out)
  replace LT:=hJJ (LT.out.below hb)
  replace PL:=hJJ (fun k hk=>(PL.out k hk).below hb)
  clear hown hrow hb
  go_wp2_with fail
  go_loopw [25] (fun i wr=>∃ q:Nat,q≤L.length∧i=.int .i64 q∧(∀ i,i < q→(fun p=>phOk (phAt T p)) (L.getD i 0)=true)∧Below u3.heap.size u3 wr) (fun i _=>L.length - (intOf i).toNat)
  case atStart=>exact ⟨0,by omega,rfl,(fun j h=>by omega),Below.refl _ _⟩
  case round =>
   obtain ⟨q,hq,rfl,hall,hB⟩:=hrel
   have HA:=hJJ hall
   have HB:=hJJ hB
   have hROW:=HROW.out.below hB
   replace C0:Hid (Below w.heap.size w wr):=hJJ (C0.out.trans (hB.mono C0.out.size))
   replace C2:Hid (wr.heap[w.heap.size+1]?=some (.cells #[.int .i64 0,.int .i64 0] 37 (0,0))):=hJJ ((hB.block _ (Array.getElem?_eq_some_iff.1 C2.out).1).trans C2.out)
   replace LT:=hJJ (LT.out.below hB)
   replace PL:=hJJ (fun k hk=>(PL.out k hk).below hB)
   clear hall hB
   by_cases hlt:q < L.length
   ·obtain ⟨y,rfl,hcells⟩:=hROW.cells hlt
    have cq:=hcells q hlt
    have hmem:=getD_mem hlt
    have hbd:=BD.out _ hmem
    generalize hz:L.getD q 0=z at *
    have HZ:=hJJ hz
    clear hcells hz hmem hROW
    obtain ⟨p,rfl⟩:=Int.eq_ofNat_of_zero_le hbd.1
    have hp8:((p:Nat):Int) < 8:=hbd.2
    have hpn:p < 8:=by omega
    obtain ⟨gd,hgd⟩:∃ z,(fun p=>phOk (phAt T p)) ((p:Nat):Int)=z:=⟨_,rfl⟩
    have HPL:=hJJ (PL.out p hpn)
    go_wp2_with (refine Row.wpList_load_g 24 _ rfl (by first | rfl | go_simp) ⟨w.heap.size,p*13,none⟩ rfl (phAt T p).cells _ HPL.out Tryz.underlying24 rfl infoP ?_)
    (try go_wp2_with fail)
    have PC:=RkA.phase_any (phAt T p) wr
    rw [show phOk (phAt T ((p:Nat):Int))=gd from hgd] at PC
    refine PC.mono ?_
    rintro e wq ⟨rfl,hb⟩
    have HBQ:=hJJ (HB.out.trans (hb.mono HB.out.size))
    replace C0:Hid (Below w.heap.size w wq):=hJJ (C0.out.trans (hb.mono C0.out.size))
    replace C2:Hid (wq.heap[w.heap.size+1]?=some (.cells #[.int .i64 0,.int .i64 0] 37 (0,0))):=hJJ ((hb.block _ (Array.getElem?_eq_some_iff.1 C2.out).1).trans C2.out)
    replace LT:=hJJ (LT.out.below hb)
    replace PL:=hJJ (fun k hk=>(PL.out k hk).below hb)
    clear hb
    cases gd with
    | false =>
     have RO:Hid (ck=(7,((p:Nat):Int))):=hJJ (by
      rw [CK.out]
      refine first_hit (q:=1) ?_ N1.out
      rw [LL1.out,find_hit hlt (by rw [HZ.out];simp [hgd]) (fun i hi=>by have h1:=HA.out i hi;(try dsimp only at h1 ⊢);rw [h1];rfl),HZ.out])
     clear hgd
     have HW:=hJJ (below_setRow C0.out (g:=w.heap.size+1) (by omega) #[.int .i64 7,.int .i64 p])
     have HK:=hJJ (setRow_heap wq (w.heap.size+1) _ #[.int .i64 7,.int .i64 p] _ _ C2.out)
     go_wp2_with (first | (refine wpList_store_row rfl 37 _ _ rfl (w.heap.size+1) #[.int .i64 7,.int .i64 p] rfl rfl 37 _ C2.out infoF rfl (by simp [Value.oneCell']) ?_))
     generalize wq.setRow (w.heap.size+1) #[.int .i64 7,.int .i64 p]=uz at HW HK ⊢
     (try go_wp2_with fail)
     (try simp only [Exit.inBlock,Exit.then])
     refine bodyPost_ret (v:=.agg #[.int .i64 7,.int .i64 p]) ?_ rfl ⟨by rw [RO.out];rfl,HW.out⟩
     exact results_cell_row rfl _ _ (w.heap.size+1) 37 _ (0,0) _ rfl HK.out Tryz.underlying37 rfl infoF
    | true =>
     have HG:=hJJ hgd
     clear hgd
     go_wp2
     go_roundw
     case rel=>exact ⟨q+1,by omega,by go_num,(fun i hi=>by
      by_cases h1:i=q
      ·subst h1;rw [HZ.out];exact HG.out
      ·exact HA.out i (by omega)),HBQ.out⟩
     case measure=>simp [intOf];omega
   ·have FM:=hJJ (find_miss (f:=fun p=>!(fun p=>phOk (phAt T p)) p) (L:=L) (fun i hi=>by have h1:=HA.out i (by omega);(try dsimp only at h1 ⊢);rw [h1];rfl))
    have N2:Hid (∀ (j:Nat) x,j < 2→l[j]?=some x→x.2=none):=hJJ (fun j x hj hx=>by
     by_cases hjj:j=1
     ·subst hjj;obtain rfl:=Option.some.inj (hx.symm.trans LL1.out);exact FM.out
     ·exact N1.out j x (by omega) hx)
    go_wp2_with (refine lgZ 32 ⟨w.heap.size,0,none⟩ c rfl LT.out Tryz.underlying32 IA.out ?_)
    (try go_wp2_with fail)
    refine (RG.out _ C0.out).mono ?_
    rintro e v1 ⟨rfl,hb⟩
    replace C0:Hid (Below w.heap.size w v1):=hJJ (C0.out.trans (hb.mono C0.out.size))
    replace C2:Hid (v1.heap[w.heap.size+1]?=some (.cells #[.int .i64 0,.int .i64 0] 37 (0,0))):=hJJ ((hb.block _ (Array.getElem?_eq_some_iff.1 C2.out).1).trans C2.out)
    replace LT:=hJJ (LT.out.below hb)
    replace PL:=hJJ (fun k hk=>(PL.out k hk).below hb)
    clear hb
    cases hrg:ringsR T with
    | some p =>
     have RO:Hid (ck=(8,p)):=hJJ (by rw [CK.out];exact first_hit (q:=2) (by rw [LL2.out,hrg]) N2.out)
     clear hrg
     go_upto_region 11 with (refine Row.wpList_store_new rfl 37 _ _ rfl v1 _ #[I 8,I p] rfl rfl rfl infoF rfl (by simp [Value.oneCell']) ?_)
     have hb:Below v1.heap.size v1 (v1.alloc (.cells #[I 8,I p] 37)):=(Below.refl _ _).alloc (Nat.le_refl _) _
     have hg:=heap_alloc_new v1 (.cells #[I 8,I p] 37)
     replace C0:Hid (Below w.heap.size w (v1.alloc (.cells #[I 8,I p] 37))):=hJJ (C0.out.trans (hb.mono C0.out.size))
     replace C2:Hid ((v1.alloc (.cells #[I 8,I p] 37)).heap[w.heap.size+1]?=some (.cells #[.int .i64 0,.int .i64 0] 37 (0,0))):=hJJ ((hb.block _ (Array.getElem?_eq_some_iff.1 C2.out).1).trans C2.out)
     replace LT:=hJJ (LT.out.below hb)
     replace PL:=hJJ (fun k hk=>(PL.out k hk).below hb)
     have d0:(v1.alloc (.cells #[I 8,I p] 37)).cell? ⟨v1.heap.size,0,none⟩=some (I 8):=by rw [cell_of_row _ _ _ _ _ _ hg];rfl
     have HL:Hid (Lies (v1.alloc (.cells #[I 8,I p] 37)) ⟨v1.heap.size,0,none⟩ #[I 8,I p].toList):=hJJ (Row.lies_of_block hg)
     clear hb hg
     generalize v1.alloc (.cells #[I 8,I p] 37)=v2 at *
     generalize v1.heap.size=b1 at *
     have HW:=hJJ (below_setRow C0.out (g:=w.heap.size+1) (by omega) #[I 8,I p])
     have HK:=hJJ (setRow_heap v2 (w.heap.size+1) _ #[I 8,I p] _ _ C2.out)
     go_wp2_with (first | (refine lgZ 37 ⟨b1,0,none⟩ [I 8,I p] rfl HL.out Tryz.underlying37 infoF ?_) | (refine wpList_store_row rfl 37 _ _ rfl (w.heap.size+1) #[I 8,I p] rfl rfl 37 _ C2.out infoF rfl (by simp [Value.oneCell']) ?_))
     generalize v2.setRow (w.heap.size+1) #[I 8,I p]=uz at HW HK ⊢
     (try go_wp2_with fail)
     (try simp only [Exit.inBlock,Exit.then])
     refine bodyPost_ret (v:=.agg #[I 8,I p]) ?_ rfl ⟨by rw [RO.out];rfl,HW.out⟩
     exact results_cell_row rfl _ _ (w.heap.size+1) 37 _ (0,0) _ rfl HK.out Tryz.underlying37 rfl infoF
    | none =>
     have N3:Hid (∀ (j:Nat) x,j < 3→l[j]?=some x→x.2=none):=hJJ (fun j x hj hx=>by
      by_cases hjj:j=2
      ·subst hjj;obtain rfl:=Option.some.inj (hx.symm.trans LL2.out);exact hrg
      ·exact N2.out j x (by omega) hx)
     clear hrg
     go_upto_region 11 with (refine Row.wpList_store_new rfl 37 _ _ rfl v1 _ #[I 0,I 0] rfl rfl rfl infoF rfl (by simp [Value.oneCell']) ?_)
     have hb:Below v1.heap.size v1 (v1.alloc (.cells #[I 0,I 0] 37)):=(Below.refl _ _).alloc (Nat.le_refl _) _
     have hg:=heap_alloc_new v1 (.cells #[I 0,I 0] 37)
     replace C0:Hid (Below w.heap.size w (v1.alloc (.cells #[I 0,I 0] 37))):=hJJ (C0.out.trans (hb.mono C0.out.size))
     replace C2:Hid ((v1.alloc (.cells #[I 0,I 0] 37)).heap[w.heap.size+1]?=some (.cells #[.int .i64 0,.int .i64 0] 37 (0,0))):=hJJ ((hb.block _ (Array.getElem?_eq_some_iff.1 C2.out).1).trans C2.out)
     replace LT:=hJJ (LT.out.below hb)
     replace PL:=hJJ (fun k hk=>(PL.out k hk).below hb)
     have d0:(v1.alloc (.cells #[I 0,I 0] 37)).cell? ⟨v1.heap.size,0,none⟩=some (I 0):=by rw [cell_of_row _ _ _ _ _ _ hg];rfl
     have HL:Hid (Lies (v1.alloc (.cells #[I 0,I 0] 37)) ⟨v1.heap.size,0,none⟩ #[I 0,I 0].toList):=hJJ (Row.lies_of_block hg)
     clear hb hg
     generalize v1.alloc (.cells #[I 0,I 0] 37)=v2 at *
     generalize v1.heap.size=b1 at *
     go_wp2_with fail
     refine (rlist_any _ _).mono ?_
     rintro e u4 ⟨v,rfl,hown,hb⟩
     rw [OL.out] at hown
     obtain ⟨la,lcap,rfl,hrow⟩:=row_of hown
     have HROW:=hJJ hrow
     replace C0:Hid (Below w.heap.size w u4):=hJJ (C0.out.trans (hb.mono C0.out.size))
     replace C2:Hid (u4.heap[w.heap.size+1]?=some (.cells #[.int .i64 0,.int .i64 0] 37 (0,0))):=hJJ ((hb.block _ (Array.getElem?_eq_some_iff.1 C2.out).1).trans C2.out)
     replace LT:=hJJ (LT.out.below hb)
     replace PL:=hJJ (fun k hk=>(PL.out k hk).below hb)
     clear hown hrow hb
     go_wp2_with fail
     go_loopw [47] (fun i wr=>∃ q:Nat,q≤L.length∧i=.int .i64 q∧(∀ i,i < q→(confOk T) (L.getD i 0)=true)∧Below u4.heap.size u4 wr) (fun i _=>L.length - (intOf i).toNat)
     case atStart=>exact ⟨0,by omega,rfl,(fun j h=>by omega),Below.refl _ _⟩
     case round =>
      obtain ⟨q,hq,rfl,hall,hB⟩:=hrel
      have HA:=hJJ hall
      have HB:=hJJ hB
      have hROW:=HROW.out.below hB
      replace C0:Hid (Below w.heap.size w wr):=hJJ (C0.out.trans (hB.mono C0.out.size))
      replace C2:Hid (wr.heap[w.heap.size+1]?=some (.cells #[.int .i64 0,.int .i64 0] 37 (0,0))):=hJJ ((hB.block _ (Array.getElem?_eq_some_iff.1 C2.out).1).trans C2.out)
      replace LT:=hJJ (LT.out.below hB)
      replace PL:=hJJ (fun k hk=>(PL.out k hk).below hB)
      clear hall hB
      by_cases hlt:q < L.length
      ·obtain ⟨y,rfl,hcells⟩:=hROW.cells hlt
       have cq:=hcells q hlt
       have hmem:=getD_mem hlt
       have hbd:=BD.out _ hmem
       generalize hz:L.getD q 0=z at *
       have HZ:=hJJ hz
       clear hcells hz hmem hROW
       obtain ⟨p,rfl⟩:=Int.eq_ofNat_of_zero_le hbd.1
       have hp8:((p:Nat):Int) < 8:=hbd.2
       have hpn:p < 8:=by omega
       obtain ⟨gd,hgd⟩:∃ z,(confOk T) ((p:Nat):Int)=z:=⟨_,rfl⟩
       have PC:=CF.out p wr hpn C0.out
       rw [hgd] at PC
       go_wp2_with (refine lgZ 32 ⟨w.heap.size,0,none⟩ c rfl LT.out Tryz.underlying32 IA.out ?_)
       (try go_wp2_with fail)
       refine PC.mono ?_
       rintro e wq ⟨rfl,hb⟩
       have HBQ:=hJJ (HB.out.trans (hb.mono HB.out.size))
       replace C0:Hid (Below w.heap.size w wq):=hJJ (C0.out.trans (hb.mono C0.out.size))
       replace C2:Hid (wq.heap[w.heap.size+1]?=some (.cells #[.int .i64 0,.int .i64 0] 37 (0,0))):=hJJ ((hb.block _ (Array.getElem?_eq_some_iff.1 C2.out).1).trans C2.out)
       replace LT:=hJJ (LT.out.below hb)
       replace PL:=hJJ (fun k hk=>(PL.out k hk).below hb)
       clear hb
       cases gd with
       | false =>
        have RO:Hid (ck=(9,((p:Nat):Int))):=hJJ (by
         rw [CK.out]
         refine first_hit (q:=3) ?_ N3.out
         rw [LL3.out,find_hit hlt (by rw [HZ.out];simp [hgd]) (fun i hi=>by have h1:=HA.out i hi;(try dsimp only at h1 ⊢);rw [h1];rfl),HZ.out])
        clear hgd
        have HW:=hJJ (below_setRow C0.out (g:=w.heap.size+1) (by omega) #[.int .i64 9,.int .i64 p])
        have HK:=hJJ (setRow_heap wq (w.heap.size+1) _ #[.int .i64 9,.int .i64 p] _ _ C2.out)
        go_wp2_with (first | (refine wpList_store_row rfl 37 _ _ rfl (w.heap.size+1) #[.int .i64 9,.int .i64 p] rfl rfl 37 _ C2.out infoF rfl (by simp [Value.oneCell']) ?_))
        generalize wq.setRow (w.heap.size+1) #[.int .i64 9,.int .i64 p]=uz at HW HK ⊢
        (try go_wp2_with fail)
        (try simp only [Exit.inBlock,Exit.then])
        refine bodyPost_ret (v:=.agg #[.int .i64 9,.int .i64 p]) ?_ rfl ⟨by rw [RO.out];rfl,HW.out⟩
        exact results_cell_row rfl _ _ (w.heap.size+1) 37 _ (0,0) _ rfl HK.out Tryz.underlying37 rfl infoF
       | true =>
        have HG:=hJJ hgd
        clear hgd
        go_wp2
        go_roundw
        case rel=>exact ⟨q+1,by omega,by go_num,(fun i hi=>by
         by_cases h1:i=q
         ·subst h1;rw [HZ.out];exact HG.out
         ·exact HA.out i (by omega)),HBQ.out⟩
        case measure=>simp [intOf];omega
      ·have FM:=hJJ (find_miss (f:=fun p=>!(confOk T) p) (L:=L) (fun i hi=>by have h1:=HA.out i (by omega);(try dsimp only at h1 ⊢);rw [h1];rfl))
       have N4:Hid (∀ (j:Nat) x,j < 4→l[j]?=some x→x.2=none):=hJJ (fun j x hj hx=>by
        by_cases hjj:j=3
        ·subst hjj;obtain rfl:=Option.some.inj (hx.symm.trans LL3.out);exact FM.out
        ·exact N3.out j x (by omega) hx)
       rename World=>wd
       go_wp2_with fail
       go_loopw [9] (fun i wr=>∃ q:Nat,q≤T.dets.length∧i=.int .i64 q∧(∀ (j:Nat) u,j < q→T.dets[j]?=some u→(detR T) u=false)∧Below wd.heap.size wd wr) (fun i _=>T.dets.length - (intOf i).toNat)
       case atStart=>exact ⟨0,by omega,rfl,(fun j u h=>by omega),Below.refl _ _⟩
       case round =>
        obtain ⟨q,hq,rfl,hall,hB⟩:=hrel
        have HA:=hJJ hall
        have HB:=hJJ hB
        replace C0:Hid (Below w.heap.size w wr):=hJJ (C0.out.trans (hB.mono C0.out.size))
        replace C2:Hid (wr.heap[w.heap.size+1]?=some (.cells #[.int .i64 0,.int .i64 0] 37 (0,0))):=hJJ ((hB.block _ (Array.getElem?_eq_some_iff.1 C2.out).1).trans C2.out)
        replace LT:=hJJ (LT.out.below hB)
        replace PL:=hJJ (fun k hk=>(PL.out k hk).below hB)
        clear hall hB
        have qs:=lies_at LT.out 113 (by decide) C113.out
        by_cases hlt:q < T.dets.length
        ·have hv:=List.getElem?_eq_getElem hlt
         generalize hz:T.dets[q]=v at hv
         have hmem:v ∈ T.dets:=List.mem_of_getElem? hv
         have HV:=hJJ hv
         clear hv hz
         obtain ⟨y,hy,hc⟩:=(RD.out.below C0.out).at HV.out
         rw [RDa.out] at hy
         obtain rfl:da=some y:=hy
         have HC:=hJJ hc
         clear hc
         have DV:=hJJ (DM.out v hmem)
         clear hmem
         obtain ⟨ph,don,doff,ddelay,dextend,dmOn,dmOff⟩:=v
         have DQ:=hJJ (DR.out ⟨ph,don,doff,ddelay,dextend,dmOn,dmOff⟩)
         have ho:=Secs.ord_cases doff don DV.out.2.1 DV.out.1
         have HOC:=hJJ ho
         clear ho
         obtain ⟨hp,hhp⟩:∃ z,SetM.has on ph=z:=⟨_,rfl⟩
         have HHP:=hJJ hhp
         clear hhp
         have hwr:=HB.out.size
         go_upto_region 23 with (first | (refine Row.wpList_load_g 45 _ rfl (by first | rfl | go_simp) (y.add (q*7)) rfl (Det.cells ⟨ph,don,doff,ddelay,dextend,dmOn,dmOff⟩) _ HC.out Tryz.underlying45 rfl infoD ?_) | (refine Row.wpList_store_new rfl 45 _ _ rfl wr _ (Det.cells ⟨ph,don,doff,ddelay,dextend,dmOn,dmOff⟩).toArray rfl rfl rfl infoD rfl (Det.one _) ?_))
         have hb:Below wr.heap.size wr (wr.alloc (.cells (Det.cells ⟨ph,don,doff,ddelay,dextend,dmOn,dmOff⟩).toArray 45)):=(Below.refl _ _).alloc (Nat.le_refl _) _
         have hg:=heap_alloc_new wr (.cells (Det.cells ⟨ph,don,doff,ddelay,dextend,dmOn,dmOff⟩).toArray 45)
         have HBQ:=hJJ (HB.out.trans (hb.mono HB.out.size))
         replace C0:Hid (Below w.heap.size w (wr.alloc (.cells (Det.cells ⟨ph,don,doff,ddelay,dextend,dmOn,dmOff⟩).toArray 45))):=hJJ (C0.out.trans (hb.mono C0.out.size))
         replace C2:Hid ((wr.alloc (.cells (Det.cells ⟨ph,don,doff,ddelay,dextend,dmOn,dmOff⟩).toArray 45)).heap[w.heap.size+1]?=some (.cells #[.int .i64 0,.int .i64 0] 37 (0,0))):=hJJ ((hb.block _ (Array.getElem?_eq_some_iff.1 C2.out).1).trans C2.out)
         replace LT:=hJJ (LT.out.below hb)
         replace PL:=hJJ (fun k hk=>(PL.out k hk).below hb)
         clear hb
         have d0:(wr.alloc (.cells (Det.cells ⟨ph,don,doff,ddelay,dextend,dmOn,dmOff⟩).toArray 45)).cell? ⟨wr.heap.size,0,none⟩=some (I ph):=by rw [cell_of_row _ _ _ _ _ _ hg];rfl
         have d1:(wr.alloc (.cells (Det.cells ⟨ph,don,doff,ddelay,dextend,dmOn,dmOff⟩).toArray 45)).cell? ⟨wr.heap.size,1,none⟩=some (.float .f64 don):=by rw [cell_of_row _ _ _ _ _ _ hg];rfl
         have d2:(wr.alloc (.cells (Det.cells ⟨ph,don,doff,ddelay,dextend,dmOn,dmOff⟩).toArray 45)).cell? ⟨wr.heap.size,2,none⟩=some (.float .f64 doff):=by rw [cell_of_row _ _ _ _ _ _ hg];rfl
         clear hg HC qs
         generalize hxc:(Det.cells ⟨ph,don,doff,ddelay,dextend,dmOn,dmOff⟩)=xc at *
         clear hxc
         generalize wr.alloc (.cells xc.toArray 45)=wq at *
         generalize wr.heap.size=b1 at *
         have D0:=hJJ d0
         rcases HOC.out with ⟨ga,ho⟩ | ⟨ga,ho⟩ | ⟨ga,ho⟩
         ·have GT:Hid (gtF doff don=false):=hJJ (by unfold gtF;exact decide_eq_false (by omega))
          clear ga
          go_wp2_with fail
          refine (rhas_any _ _ _).mono ?_
          rintro e w' ⟨rfl,rfl⟩
          rw [HHP.out]
          rename World=>wq
          cases hp with
          | false =>
           have BADV:Hid (detR T ⟨ph,don,doff,ddelay,dextend,dmOn,dmOff⟩=true):=hJJ (by rw [DQ.out];(try dsimp only);rw [GT.out,HHP.out];rfl)
           have RO:Hid (ck=(10,((q:Nat):Int))):=hJJ (by rw [CK.out];exact first_hit (q:=4) (by rw [LL4.out,idx_hit HV.out BADV.out HA.out]) N4.out)
           have HW:=hJJ (below_setRow C0.out (g:=w.heap.size+1) (by omega) #[.int .i64 10,.int .i64 q])
           have HK:=hJJ (setRow_heap wq (w.heap.size+1) _ #[.int .i64 10,.int .i64 q] _ _ C2.out)
           go_wp2_with (first | (refine wpList_store_row rfl 37 _ _ rfl (w.heap.size+1) #[.int .i64 10,.int .i64 q] rfl rfl 37 _ C2.out infoF rfl (by simp [Value.oneCell']) ?_))
           generalize wq.setRow (w.heap.size+1) #[.int .i64 10,.int .i64 q]=uz at HW HK ⊢
           (try go_wp2_with fail)
           (try simp only [Exit.inBlock,Exit.then])
           refine bodyPost_ret (v:=.agg #[.int .i64 10,.int .i64 q]) ?_ rfl ⟨by rw [RO.out];rfl,HW.out⟩
           exact results_cell_row rfl _ _ (w.heap.size+1) 37 _ (0,0) _ rfl HK.out Tryz.underlying37 rfl infoF
          | true =>
           have BADV:Hid (detR T ⟨ph,don,doff,ddelay,dextend,dmOn,dmOff⟩=false):=hJJ (by rw [DQ.out];(try dsimp only);rw [GT.out,HHP.out];rfl)
           have HF:=hJJ BADV.out
           go_wp2
           go_roundw
           case rel=>exact ⟨q+1,by omega,by go_num,(fun j u hj hu=>by
            by_cases e:j=q
            ·subst e;obtain rfl:=Option.some.inj (hu.symm.trans HV.out);exact HF.out
            ·exact HA.out j u (by omega) hu),HBQ.out⟩
           case measure=>simp [intOf];omega
         ·have GT:Hid (gtF doff don=false):=hJJ (by unfold gtF;exact decide_eq_false (by omega))
          clear ga
          go_wp2_with fail
          refine (rhas_any _ _ _).mono ?_
          rintro e w' ⟨rfl,rfl⟩
          rw [HHP.out]
          rename World=>wq
          cases hp with
          | false =>
           have BADV:Hid (detR T ⟨ph,don,doff,ddelay,dextend,dmOn,dmOff⟩=true):=hJJ (by rw [DQ.out];(try dsimp only);rw [GT.out,HHP.out];rfl)
           have RO:Hid (ck=(10,((q:Nat):Int))):=hJJ (by rw [CK.out];exact first_hit (q:=4) (by rw [LL4.out,idx_hit HV.out BADV.out HA.out]) N4.out)
           have HW:=hJJ (below_setRow C0.out (g:=w.heap.size+1) (by omega) #[.int .i64 10,.int .i64 q])
           have HK:=hJJ (setRow_heap wq (w.heap.size+1) _ #[.int .i64 10,.int .i64 q] _ _ C2.out)
           go_wp2_with (first | (refine wpList_store_row rfl 37 _ _ rfl (w.heap.size+1) #[.int .i64 10,.int .i64 q] rfl rfl 37 _ C2.out infoF rfl (by simp [Value.oneCell']) ?_))
           generalize wq.setRow (w.heap.size+1) #[.int .i64 10,.int .i64 q]=uz at HW HK ⊢
           (try go_wp2_with fail)
           (try simp only [Exit.inBlock,Exit.then])
           refine bodyPost_ret (v:=.agg #[.int .i64 10,.int .i64 q]) ?_ rfl ⟨by rw [RO.out];rfl,HW.out⟩
           exact results_cell_row rfl _ _ (w.heap.size+1) 37 _ (0,0) _ rfl HK.out Tryz.underlying37 rfl infoF
          | true =>
           have BADV:Hid (detR T ⟨ph,don,doff,ddelay,dextend,dmOn,dmOff⟩=false):=hJJ (by rw [DQ.out];(try dsimp only);rw [GT.out,HHP.out];rfl)
           have HF:=hJJ BADV.out
           go_wp2
           go_roundw
           case rel=>exact ⟨q+1,by omega,by go_num,(fun j u hj hu=>by
            by_cases e:j=q
            ·subst e;obtain rfl:=Option.some.inj (hu.symm.trans HV.out);exact HF.out
            ·exact HA.out j u (by omega) hu),HBQ.out⟩
           case measure=>simp [intOf];omega
         ·have BADV:Hid (detR T ⟨ph,don,doff,ddelay,dextend,dmOn,dmOff⟩=true):=hJJ (by rw [DQ.out];unfold gtF;(try dsimp only);rw [decide_eq_true (by omega)];rfl)
          clear ga
          have RO:Hid (ck=(10,((q:Nat):Int))):=hJJ (by rw [CK.out];exact first_hit (q:=4) (by rw [LL4.out,idx_hit HV.out BADV.out HA.out]) N4.out)
          have HW:=hJJ (below_setRow C0.out (g:=w.heap.size+1) (by omega) #[.int .i64 10,.int .i64 q])
          have HK:=hJJ (setRow_heap wq (w.heap.size+1) _ #[.int .i64 10,.int .i64 q] _ _ C2.out)
          go_wp2_with (first | (refine wpList_store_row rfl 37 _ _ rfl (w.heap.size+1) #[.int .i64 10,.int .i64 q] rfl rfl 37 _ C2.out infoF rfl (by simp [Value.oneCell']) ?_))
          generalize wq.setRow (w.heap.size+1) #[.int .i64 10,.int .i64 q]=uz at HW HK ⊢
          (try go_wp2_with fail)
          (try simp only [Exit.inBlock,Exit.then])
          refine bodyPost_ret (v:=.agg #[.int .i64 10,.int .i64 q]) ?_ rfl ⟨by rw [RO.out];rfl,HW.out⟩
          exact results_cell_row rfl _ _ (w.heap.size+1) 37 _ (0,0) _ rfl HK.out Tryz.underlying37 rfl infoF
        ·have FM:=hJJ (idx_miss (f:=detR T) (l:=T.dets) (fun j u hu=>HA.out j u (by have:=(List.getElem?_eq_some_iff.1 hu).1;omega) hu))
         have N5:Hid (∀ (j:Nat) x,j < 5→l[j]?=some x→x.2=none):=hJJ (fun j x hj hx=>by
          by_cases hjj:j=4
          ·subst hjj;obtain rfl:=Option.some.inj (hx.symm.trans LL4.out);exact FM.out
          ·exact N4.out j x (by omega) hx)
         rename World=>wd
         go_wp2_with fail
         go_loopw [11] (fun i wr=>∃ q:Nat,q≤T.rails.length∧i=.int .i64 q∧(∀ (j:Nat) u,j < q→T.rails[j]?=some u→(fun r=>!railOk T r) u=false)∧Below wd.heap.size wd wr) (fun i _=>T.rails.length - (intOf i).toNat)
         case atStart=>exact ⟨0,by omega,rfl,(fun j u h=>by omega),Below.refl _ _⟩
         case round =>
          obtain ⟨q,hq,rfl,hall,hB⟩:=hrel
          have HA:=hJJ hall
          have HB:=hJJ hB
          replace C0:Hid (Below w.heap.size w wr):=hJJ (C0.out.trans (hB.mono C0.out.size))
          replace C2:Hid (wr.heap[w.heap.size+1]?=some (.cells #[.int .i64 0,.int .i64 0] 37 (0,0))):=hJJ ((hB.block _ (Array.getElem?_eq_some_iff.1 C2.out).1).trans C2.out)
          replace LT:=hJJ (LT.out.below hB)
          replace PL:=hJJ (fun k hk=>(PL.out k hk).below hB)
          clear hall hB
          have qs:=lies_at LT.out 114 (by decide) C114.out
          by_cases hlt:q < T.rails.length
          ·have hv:=List.getElem?_eq_getElem hlt
           generalize hz:T.rails[q]=v at hv
           have hmem:v ∈ T.rails:=List.mem_of_getElem? hv
           have HV:=hJJ hv
           clear hv hz
           obtain ⟨y,hy,hc⟩:=(RR.out.below C0.out).at HV.out
           rw [RRa.out] at hy
           obtain rfl:ra=some y:=hy
           have HC:=hJJ hc
           clear hc
           obtain ⟨gd,hgd⟩:∃ z,railOk T v=z:=⟨_,rfl⟩
           have hne:Nonempty (Ph.S (Row.Old wr)):=⟨⟨0,wr,Below.refl _ _⟩⟩
           have QS:∀ p:Ph.S (Row.Old wr),p.world.cell? ⟨w.heap.size,114,none⟩=some (.slice (some y) T.rails.length rcap):=fun p=>(p.is.cell (World.block_lt_of_cell? wr _ qs)).trans qs
           have RLW:Hid (∀ p:Ph.S (Row.Old wr),Calls Tryz.prog 52 #[.agg c.toArray,.agg v.cells.toArray,.int .i64 on] p.world fun e w'=>e=.returned (.bool gd)∧Below p.world.heap.size p.world w'):=hJJ (fun p=>by have:=RL.out v p.world (C0.out.trans (p.is.mono C0.out.size));rwa [hgd] at this)
           have hqi:((q:Nat):Int) < (T.rails.length:Nat):=by omega
           have HGD:=hJJ hgd
           have IV:Hid ((Tryz.prog.info? 47).map (·.size)=some v.cells.length):=hJJ infoR
           clear hgd hmem
           generalize hxc:v.cells=xc at *
           clear hxc
           go_upto_region 28 with fail
           clear qs
           refine Pw.region (Row.Old wr) [] hmx (by kernel_rfl) (Row.Old.drew _) ?_
           refine Pw.load rfl (by rfl) 32 _ rfl ⟨w.heap.size,0,none⟩ rfl c _ (fun p=>LT.out.below p.is) Tryz.underlying32 rfl IA.out ?_
           (try dsimp only [Act.put]);(try simp only [zA,zB,zC])
           (refine Pw.calm rfl (fun K hK=>?_)
            go_simp
            refine hK _ ?_
            clear hK K)
           (refine Pw.calm rfl (fun K hK=>?_)
            go_simp
            refine hK _ ?_
            clear hK K)
           (refine Pw.calm rfl (fun K hK=>?_)
            go_simp
            refine hK _ ?_
            clear hK K)
           (refine Pw.calm rfl (fun K hK=>?_)
            go_simp
            refine hK _ ?_
            clear hK K)
           refine Pw.load rfl (by rfl) 47 _ rfl (y.add (q*11)) rfl xc _ (fun p=>HC.out.below p.is) Tryz.underlying47 rfl IV.out ?_
           (try dsimp only [Act.put]);(try simp only [zA,zB,zC])
           (refine Pw.calm rfl (fun K hK=>?_)
            go_simp
            refine hK _ ?_
            clear hK K)
           (refine Pw.calm rfl (fun K hK=>?_)
            go_simp
            refine ⟨_,fun p=>Row.Old.call (RLW.out p),hK _ ?_⟩
            clear hK K)
           (refine Pw.calm rfl (fun K hK=>?_)
            go_simp
            refine hK _ ?_
            clear hK K)
           refine Pw.nil ?_
           intro wq hb
           have HBQ:=hJJ (HB.out.trans (hb.mono HB.out.size))
           replace C0:Hid (Below w.heap.size w wq):=hJJ (C0.out.trans (hb.mono C0.out.size))
           replace C2:Hid (wq.heap[w.heap.size+1]?=some (.cells #[.int .i64 0,.int .i64 0] 37 (0,0))):=hJJ ((hb.block _ (Array.getElem?_eq_some_iff.1 C2.out).1).trans C2.out)
           replace LT:=hJJ (LT.out.below hb)
           replace PL:=hJJ (fun k hk=>(PL.out k hk).below hb)
           clear hb QS hne RLW
           cases gd with
           | false =>
            have BADV:Hid ((fun r=>!railOk T r) v=true):=hJJ (by (try dsimp only);rw [HGD.out];rfl)
            have RO:Hid (ck=(11,((q:Nat):Int))):=hJJ (by rw [CK.out];exact first_hit (q:=5) (by rw [LL5.out,idx_hit HV.out BADV.out HA.out]) N5.out)
            have HW:=hJJ (below_setRow C0.out (g:=w.heap.size+1) (by omega) #[.int .i64 11,.int .i64 q])
            have HK:=hJJ (setRow_heap wq (w.heap.size+1) _ #[.int .i64 11,.int .i64 q] _ _ C2.out)
            go_wp2_with (first | (refine wpList_store_row rfl 37 _ _ rfl (w.heap.size+1) #[.int .i64 11,.int .i64 q] rfl rfl 37 _ C2.out infoF rfl (by simp [Value.oneCell']) ?_))
            generalize wq.setRow (w.heap.size+1) #[.int .i64 11,.int .i64 q]=uz at HW HK ⊢
            (try go_wp2_with fail)
            (try simp only [Exit.inBlock,Exit.then])
            refine bodyPost_ret (v:=.agg #[.int .i64 11,.int .i64 q]) ?_ rfl ⟨by rw [RO.out];rfl,HW.out⟩
            exact results_cell_row rfl _ _ (w.heap.size+1) 37 _ (0,0) _ rfl HK.out Tryz.underlying37 rfl infoF
           | true =>
            have BADV:Hid ((fun r=>!railOk T r) v=false):=hJJ (by (try dsimp only);rw [HGD.out];rfl)
            have HF:=hJJ BADV.out
            go_wp2
            go_roundw
            case rel=>exact ⟨q+1,by omega,by go_num,(fun j u hj hu=>by
             by_cases e:j=q
             ·subst e;obtain rfl:=Option.some.inj (hu.symm.trans HV.out);exact HF.out
             ·exact HA.out j u (by omega) hu),HBQ.out⟩
            case measure=>simp [intOf];omega
          ·have FM:=hJJ (idx_miss (f:=(fun r=>!railOk T r)) (l:=T.rails) (fun j u hu=>HA.out j u (by have:=(List.getElem?_eq_some_iff.1 hu).1;omega) hu))
           have N6:Hid (∀ (j:Nat) x,j < 6→l[j]?=some x→x.2=none):=hJJ (fun j x hj hx=>by
            by_cases hjj:j=5
            ·subst hjj;obtain rfl:=Option.some.inj (hx.symm.trans LL5.out);exact FM.out
            ·exact N5.out j x (by omega) hx)
           rename World=>wd
           go_wp2_with fail
           go_loopw [12] (fun i wr=>∃ q:Nat,q≤T.buses.length∧i=.int .i64 q∧(∀ (j:Nat) u,j < q→T.buses[j]?=some u→(busR T) u=false)∧Below wd.heap.size wd wr) (fun i _=>T.buses.length - (intOf i).toNat)
           case atStart=>exact ⟨0,by omega,rfl,(fun j u h=>by omega),Below.refl _ _⟩
           case round =>
            obtain ⟨q,hq,rfl,hall,hB⟩:=hrel
            have HA:=hJJ hall
            have HB:=hJJ hB
            replace C0:Hid (Below w.heap.size w wr):=hJJ (C0.out.trans (hB.mono C0.out.size))
            replace C2:Hid (wr.heap[w.heap.size+1]?=some (.cells #[.int .i64 0,.int .i64 0] 37 (0,0))):=hJJ ((hB.block _ (Array.getElem?_eq_some_iff.1 C2.out).1).trans C2.out)
            replace LT:=hJJ (LT.out.below hB)
            replace PL:=hJJ (fun k hk=>(PL.out k hk).below hB)
            clear hall hB
            have qs:=lies_at LT.out 115 (by decide) C115.out
            by_cases hlt:q < T.buses.length
            ·have hv:=List.getElem?_eq_getElem hlt
             generalize hz:T.buses[q]=v at hv
             have hmem:v ∈ T.buses:=List.mem_of_getElem? hv
             have HV:=hJJ hv
             clear hv hz
             obtain ⟨y,hy,hc⟩:=(RB.out.below C0.out).at HV.out
             rw [RBa.out] at hy
             obtain rfl:ba=some y:=hy
             have HC:=hJJ hc
             clear hc
             clear hmem
             obtain ⟨bset,block⟩:=v
             have BQ:=hJJ (BR.out ⟨bset,block⟩)
             have hwr:=HB.out.size
             go_upto_region 34 with (first | (refine Row.wpList_load_g 49 _ rfl (by first | rfl | go_simp) (y.add (q*2)) rfl (Bs.cells ⟨bset,block⟩) _ HC.out Tryz.underlying49 rfl infoB ?_) | (refine Row.wpList_store_new rfl 49 _ _ rfl wr _ (Bs.cells ⟨bset,block⟩).toArray rfl rfl rfl infoB rfl (Bs.one _) ?_))
             have hb:Below wr.heap.size wr (wr.alloc (.cells (Bs.cells ⟨bset,block⟩).toArray 49)):=(Below.refl _ _).alloc (Nat.le_refl _) _
             have hg:=heap_alloc_new wr (.cells (Bs.cells ⟨bset,block⟩).toArray 49)
             have HBQ:=hJJ (HB.out.trans (hb.mono HB.out.size))
             replace C0:Hid (Below w.heap.size w (wr.alloc (.cells (Bs.cells ⟨bset,block⟩).toArray 49))):=hJJ (C0.out.trans (hb.mono C0.out.size))
             replace C2:Hid ((wr.alloc (.cells (Bs.cells ⟨bset,block⟩).toArray 49)).heap[w.heap.size+1]?=some (.cells #[.int .i64 0,.int .i64 0] 37 (0,0))):=hJJ ((hb.block _ (Array.getElem?_eq_some_iff.1 C2.out).1).trans C2.out)
             replace LT:=hJJ (LT.out.below hb)
             replace PL:=hJJ (fun k hk=>(PL.out k hk).below hb)
             clear hb
             have d0:(wr.alloc (.cells (Bs.cells ⟨bset,block⟩).toArray 49)).cell? ⟨wr.heap.size,0,none⟩=some (I bset):=by rw [cell_of_row _ _ _ _ _ _ hg];rfl
             have d1:(wr.alloc (.cells (Bs.cells ⟨bset,block⟩).toArray 49)).cell? ⟨wr.heap.size,1,none⟩=some (I block):=by rw [cell_of_row _ _ _ _ _ _ hg];rfl
             clear hg HC qs
             generalize hxc:(Bs.cells ⟨bset,block⟩)=xc at *
             clear hxc
             generalize wr.alloc (.cells xc.toArray 49)=wq at *
             generalize wr.heap.size=b1 at *
             obtain ⟨hi,hhi⟩:∃ z,inR bset on=z:=⟨_,rfl⟩
             have HHI:=hJJ hhi
             clear hhi
             by_cases hs0:bset=0
             ·have BADV:Hid (busR T ⟨bset,block⟩=true):=hJJ (by rw [BQ.out];(try dsimp only);rw [hs0];rfl)
              have hsb:(bset == 0)=true:=beq_iff_eq.2 hs0
              clear hs0
              have RO:Hid (ck=(12,((q:Nat):Int))):=hJJ (by rw [CK.out];exact first_hit (q:=6) (by rw [LL6.out,idx_hit HV.out BADV.out HA.out]) N6.out)
              have HW:=hJJ (below_setRow C0.out (g:=w.heap.size+1) (by omega) #[.int .i64 12,.int .i64 q])
              have HK:=hJJ (setRow_heap wq (w.heap.size+1) _ #[.int .i64 12,.int .i64 q] _ _ C2.out)
              go_wp2_with (first | (refine wpList_store_row rfl 37 _ _ rfl (w.heap.size+1) #[.int .i64 12,.int .i64 q] rfl rfl 37 _ C2.out infoF rfl (by simp [Value.oneCell']) ?_))
              generalize wq.setRow (w.heap.size+1) #[.int .i64 12,.int .i64 q]=uz at HW HK ⊢
              (try go_wp2_with fail)
              (try simp only [Exit.inBlock,Exit.then])
              refine bodyPost_ret (v:=.agg #[.int .i64 12,.int .i64 q]) ?_ rfl ⟨by rw [RO.out];rfl,HW.out⟩
              exact results_cell_row rfl _ _ (w.heap.size+1) 37 _ (0,0) _ rfl HK.out Tryz.underlying37 rfl infoF
             have hsb:(bset == 0)=false:=beq_eq_false_iff_ne.2 hs0
             have HSB:=hJJ hsb
             go_wp2_with fail
             refine (RkA.in_any _ _ _).mono ?_
             rintro e w' ⟨rfl,rfl⟩
             rename World=>wq
             rw [HHI.out]
             cases hi with
             | false =>
              have BADV:Hid (busR T ⟨bset,block⟩=true):=hJJ (by rw [BQ.out];(try dsimp only);rw [HSB.out,HHI.out];rfl)
              have RO:Hid (ck=(12,((q:Nat):Int))):=hJJ (by rw [CK.out];exact first_hit (q:=6) (by rw [LL6.out,idx_hit HV.out BADV.out HA.out]) N6.out)
              have HW:=hJJ (below_setRow C0.out (g:=w.heap.size+1) (by omega) #[.int .i64 12,.int .i64 q])
              have HK:=hJJ (setRow_heap wq (w.heap.size+1) _ #[.int .i64 12,.int .i64 q] _ _ C2.out)
              go_wp2_with (first | (refine wpList_store_row rfl 37 _ _ rfl (w.heap.size+1) #[.int .i64 12,.int .i64 q] rfl rfl 37 _ C2.out infoF rfl (by simp [Value.oneCell']) ?_))
              generalize wq.setRow (w.heap.size+1) #[.int .i64 12,.int .i64 q]=uz at HW HK ⊢
              (try go_wp2_with fail)
              (try simp only [Exit.inBlock,Exit.then])
              refine bodyPost_ret (v:=.agg #[.int .i64 12,.int .i64 q]) ?_ rfl ⟨by rw [RO.out];rfl,HW.out⟩
              exact results_cell_row rfl _ _ (w.heap.size+1) 37 _ (0,0) _ rfl HK.out Tryz.underlying37 rfl infoF
             | true =>
              by_cases hlk:block < 1
              ·have BADV:Hid (busR T ⟨bset,block⟩=true):=hJJ (by rw [BQ.out];(try dsimp only);rw [HSB.out,HHI.out,decide_eq_true hlk];rfl)
               have RO:Hid (ck=(12,((q:Nat):Int))):=hJJ (by rw [CK.out];exact first_hit (q:=6) (by rw [LL6.out,idx_hit HV.out BADV.out HA.out]) N6.out)
               have HW:=hJJ (below_setRow C0.out (g:=w.heap.size+1) (by omega) #[.int .i64 12,.int .i64 q])
               have HK:=hJJ (setRow_heap wq (w.heap.size+1) _ #[.int .i64 12,.int .i64 q] _ _ C2.out)
               go_wp2_with (first | (refine wpList_store_row rfl 37 _ _ rfl (w.heap.size+1) #[.int .i64 12,.int .i64 q] rfl rfl 37 _ C2.out infoF rfl (by simp [Value.oneCell']) ?_))
               generalize wq.setRow (w.heap.size+1) #[.int .i64 12,.int .i64 q]=uz at HW HK ⊢
               (try go_wp2_with fail)
               (try simp only [Exit.inBlock,Exit.then])
               refine bodyPost_ret (v:=.agg #[.int .i64 12,.int .i64 q]) ?_ rfl ⟨by rw [RO.out];rfl,HW.out⟩
               exact results_cell_row rfl _ _ (w.heap.size+1) 37 _ (0,0) _ rfl HK.out Tryz.underlying37 rfl infoF
              ·have BADV:Hid (busR T ⟨bset,block⟩=false):=hJJ (by rw [BQ.out];(try dsimp only);rw [HSB.out,HHI.out,decide_eq_false hlk];rfl)
               have HF:=hJJ BADV.out
               go_wp2
               go_roundw
               case rel=>exact ⟨q+1,by omega,by go_num,(fun j u hj hu=>by
                by_cases e:j=q
                ·subst e;obtain rfl:=Option.some.inj (hu.symm.trans HV.out);exact HF.out
                ·exact HA.out j u (by omega) hu),HBQ.out⟩
               case measure=>simp [intOf];omega
            ·have FM:=hJJ (idx_miss (f:=busR T) (l:=T.buses) (fun j u hu=>HA.out j u (by have:=(List.getElem?_eq_some_iff.1 hu).1;omega) hu))
             have N7:Hid (∀ (j:Nat) x,j < 7→l[j]?=some x→x.2=none):=hJJ (fun j x hj hx=>by
              by_cases hjj:j=6
              ·subst hjj;obtain rfl:=Option.some.inj (hx.symm.trans LL6.out);exact FM.out
              ·exact N6.out j x (by omega) hx)
             rename World=>wd
             go_wp2_with fail
             refine (rlist_any _ _).mono ?_
             rintro e u9 ⟨v,rfl,hown,hb⟩
             rw [OL.out] at hown
             obtain ⟨la,lcap,rfl,hrow⟩:=row_of hown
             have HROW:=hJJ hrow
             replace C0:Hid (Below w.heap.size w u9):=hJJ (C0.out.trans (hb.mono C0.out.size))
             replace C2:Hid (u9.heap[w.heap.size+1]?=some (.cells #[.int .i64 0,.int .i64 0] 37 (0,0))):=hJJ ((hb.block _ (Array.getElem?_eq_some_iff.1 C2.out).1).trans C2.out)
             replace LT:=hJJ (LT.out.below hb)
             replace PL:=hJJ (fun k hk=>(PL.out k hk).below hb)
             clear hown hrow hb
             go_wp2_with fail
             go_loopw [135] (fun i wr=>∃ q:Nat,q≤L.length∧i=.int .i64 q∧(∀ i,i < q→(flashOk T) (L.getD i 0)=true)∧Below u9.heap.size u9 wr) (fun i _=>L.length - (intOf i).toNat)
             case atStart=>exact ⟨0,by omega,rfl,(fun j h=>by omega),Below.refl _ _⟩
             case round =>
              obtain ⟨q,hq,rfl,hall,hB⟩:=hrel
              have HA:=hJJ hall
              have HB:=hJJ hB
              have hROW:=HROW.out.below hB
              replace C0:Hid (Below w.heap.size w wr):=hJJ (C0.out.trans (hB.mono C0.out.size))
              replace C2:Hid (wr.heap[w.heap.size+1]?=some (.cells #[.int .i64 0,.int .i64 0] 37 (0,0))):=hJJ ((hB.block _ (Array.getElem?_eq_some_iff.1 C2.out).1).trans C2.out)
              replace LT:=hJJ (LT.out.below hB)
              replace PL:=hJJ (fun k hk=>(PL.out k hk).below hB)
              clear hall hB
              by_cases hlt:q < L.length
              ·obtain ⟨y,rfl,hcells⟩:=hROW.cells hlt
               have cq:=hcells q hlt
               have hmem:=getD_mem hlt
               have hbd:=BD.out _ hmem
               generalize hz:L.getD q 0=z at *
               have HZ:=hJJ hz
               clear hcells hz hmem hROW
               obtain ⟨p,rfl⟩:=Int.eq_ofNat_of_zero_le hbd.1
               have hp8:((p:Nat):Int) < 8:=hbd.2
               have hpn:p < 8:=by omega
               obtain ⟨gd,hgd⟩:∃ z,(flashOk T) ((p:Nat):Int)=z:=⟨_,rfl⟩
               have PC:=FL.out p wr hpn C0.out
               rw [hgd] at PC
               go_wp2_with (refine lgZ 32 ⟨w.heap.size,0,none⟩ c rfl LT.out Tryz.underlying32 IA.out ?_)
               (try go_wp2_with fail)
               refine PC.mono ?_
               rintro e wq ⟨rfl,hb⟩
               have HBQ:=hJJ (HB.out.trans (hb.mono HB.out.size))
               replace C0:Hid (Below w.heap.size w wq):=hJJ (C0.out.trans (hb.mono C0.out.size))
               replace C2:Hid (wq.heap[w.heap.size+1]?=some (.cells #[.int .i64 0,.int .i64 0] 37 (0,0))):=hJJ ((hb.block _ (Array.getElem?_eq_some_iff.1 C2.out).1).trans C2.out)
               replace LT:=hJJ (LT.out.below hb)
               replace PL:=hJJ (fun k hk=>(PL.out k hk).below hb)
               clear hb
               cases gd with
               | false =>
                have RO:Hid (ck=(13,((p:Nat):Int))):=hJJ (by
                 rw [CK.out]
                 refine first_hit (q:=7) ?_ N7.out
                 rw [LL7.out,find_hit hlt (by rw [HZ.out];simp [hgd]) (fun i hi=>by have h1:=HA.out i hi;(try dsimp only at h1 ⊢);rw [h1];rfl),HZ.out])
                clear hgd
                have HW:=hJJ (below_setRow C0.out (g:=w.heap.size+1) (by omega) #[.int .i64 13,.int .i64 p])
                have HK:=hJJ (setRow_heap wq (w.heap.size+1) _ #[.int .i64 13,.int .i64 p] _ _ C2.out)
                go_wp2_with (first | (refine wpList_store_row rfl 37 _ _ rfl (w.heap.size+1) #[.int .i64 13,.int .i64 p] rfl rfl 37 _ C2.out infoF rfl (by simp [Value.oneCell']) ?_))
                generalize wq.setRow (w.heap.size+1) #[.int .i64 13,.int .i64 p]=uz at HW HK ⊢
                (try go_wp2_with fail)
                (try simp only [Exit.inBlock,Exit.then])
                refine bodyPost_ret (v:=.agg #[.int .i64 13,.int .i64 p]) ?_ rfl ⟨by rw [RO.out];rfl,HW.out⟩
                exact results_cell_row rfl _ _ (w.heap.size+1) 37 _ (0,0) _ rfl HK.out Tryz.underlying37 rfl infoF
               | true =>
                have HG:=hJJ hgd
                clear hgd
                go_wp2
                go_roundw
                case rel=>exact ⟨q+1,by omega,by go_num,(fun i hi=>by
                 by_cases h1:i=q
                 ·subst h1;rw [HZ.out];exact HG.out
                 ·exact HA.out i (by omega)),HBQ.out⟩
                case measure=>simp [intOf];omega
              ·have FM:=hJJ (find_miss (f:=fun p=>!(flashOk T) p) (L:=L) (fun i hi=>by have h1:=HA.out i (by omega);(try dsimp only at h1 ⊢);rw [h1];rfl))
               have N8:Hid (∀ (j:Nat) x,j < 8→l[j]?=some x→x.2=none):=hJJ (fun j x hj hx=>by
                by_cases hjj:j=7
                ·subst hjj;obtain rfl:=Option.some.inj (hx.symm.trans LL7.out);exact FM.out
                ·exact N7.out j x (by omega) hx)
               have RO:Hid (ck=(0,0)):=hJJ (by
                rw [CK.out]
                refine first_miss (fun x hx=>?_)
                obtain ⟨j,hj,rfl⟩:=List.getElem_of_mem hx
                exact N8.out j _ (by rw [LE.out] at hj;exact hj) (List.getElem?_eq_getElem hj))
               have HW:=hJJ (below_setRow C0.out (g:=w.heap.size+1) (by omega) #[.int .i64 0,.int .i64 0])
               have HK:=hJJ (setRow_heap wr (w.heap.size+1) _ #[.int .i64 0,.int .i64 0] _ _ C2.out)
               go_wp2_with (first | (refine wpList_store_row rfl 37 _ _ rfl (w.heap.size+1) #[.int .i64 0,.int .i64 0] rfl rfl 37 _ C2.out infoF rfl (by simp [Value.oneCell']) ?_))
               generalize wr.setRow (w.heap.size+1) #[.int .i64 0,.int .i64 0]=uz at HW HK ⊢
               (try go_wp2_with fail)
               (try simp only [Exit.inBlock,Exit.then])
               refine bodyPost_ret (v:=.agg #[.int .i64 0,.int .i64 0]) ?_ rfl ⟨by rw [RO.out];rfl,HW.out⟩
               exact results_cell_row rfl _ _ (w.heap.size+1) 37 _ (0,0) _ rfl HK.out Tryz.underlying37 rfl infoF
end RkK
namespace TabArg
open Go Go.ChangeShapes Go.WideShapes Go.Deep Flat Tab
theorem All2.rep {α β:Type} {R:α→β→Prop} {r:List α}:∀ (n:Nat) {cs:List β},All2 R (List.replicate n r).flatten cs→∃ l:List (List β),l.length=n∧cs=l.flatten∧∀ c ∈ l,All2 R r c
 | 0,cs,h=>⟨[],rfl,by cases cs with | nil=>rfl | cons _ _=>exact h.elim,by simp⟩
 | n+1,cs,h=>by
  rw [List.replicate_succ,List.flatten_cons] at h
  obtain ⟨h1,h2⟩:=h.split
  obtain ⟨l,hl,he,hr⟩:=All2.rep n h2
  refine ⟨cs.take r.length :: l,by simp [hl],?_,?_⟩
  ·rw [List.flatten_cons,← he,List.take_append_drop]
  ·intro c hc
   rcases List.mem_cons.1 hc with rfl | hc
   ·exact h1
   ·exact hr c hc
theorem map_choose {α β:Type} {f:α→List β} {p:α→Prop}:∀ {l:List (List β)},(∀ c ∈ l,∃ v,c=f v∧p v)→∃ m:List α,m.length=l.length∧l.flatten=m.flatMap f∧∀ v ∈ m,p v
 | [],_=>⟨[],rfl,rfl,by simp⟩
 | c :: l,h=>by
  obtain ⟨v,hv,hp⟩:=h c (by simp)
  obtain ⟨m,h1,h2,h3⟩:=map_choose (l:=l) (fun c hc=>h c (by simp [hc]))
  exact ⟨v :: m,by simp [h1],by rw [List.flatten_cons,h2,hv,List.flatMap_cons],by
   intro u hu
   rcases List.mem_cons.1 hu with rfl | hu
   ·exact hp
   ·exact h3 u hu⟩
section
variable {H:Type} {enc:TypeId × Value→H} {P:Program} {w:World} {base:Nat} {spare:Nat→Bool} {held:Bool}
abbrev Tr (enc:TypeId × Value→H) (P:Program) (w:World) (base:Nat) (spare:Nat→Bool) (held:Bool) (t:TypeId) (v:Value):Prop:=∃ n y,DataW.trod enc P w base spare held n t [v]=some y
theorem tr_int {t:TypeId} {v:Value} (hu:P.underlying t=some (.int .i64)) (h:Tr enc P w base spare held t v):∃ z,v=I z:=by
 obtain ⟨n,y,h⟩:=h
 obtain ⟨z,hz,_⟩:=DataW.trod_int hu h
 exact ⟨z,by simpa using hz⟩
theorem tr_bool {t:TypeId} {v:Value} (hu:P.underlying t=some .bool) (h:Tr enc P w base spare held t v):∃ b,v=.bool b:=by
 obtain ⟨n,y,h⟩:=h
 obtain ⟨z,hz,_⟩:=DataW.trod_bool hu h
 exact ⟨z,by simpa using hz⟩
theorem tr_flt {t:TypeId} {v:Value} (hu:P.underlying t=some (.float .f64)) (h:Tr enc P w base spare held t v):∃ b,v=F b:=by
 obtain ⟨n,y,h⟩:=h
 cases n with
 | zero=>simp [DataW.trod] at h
 | succ n =>
  unfold DataW.trod at h
  rw [hu] at h
  split at h <;> simp_all
theorem tr_ints {t:TypeId} (hu:P.underlying t=some (.int .i64)):∀ (n:Nat) {cs:List Value},All2 (Tr enc P w base spare held) (List.replicate n t) cs→∃ l:List Int,l.length=n∧cs=l.map I
 | 0,cs,h=>⟨[],rfl,by cases cs with | nil=>rfl | cons _ _=>exact h.elim⟩
 | n+1,[],h=>h.elim
 | n+1,c :: cs,h=>by
  obtain ⟨z,rfl⟩:=tr_int hu h.1
  obtain ⟨l,hl,rfl⟩:=tr_ints hu n h.2
  exact ⟨z :: l,by simp [hl],rfl⟩
theorem tr_row {α:Type} [Inhabited α] {t e:TypeId} {k:Nat} {f:α→List Value} {p:α→Prop} {v:Value} (ht:P.underlying t=some (.slice e)) (hC:P.cellsOf e=k)
  (hel:∀ n cs x,DataW.trod enc P w base spare held n e cs=some x→∃ v,cs=f v∧p v) (h:Tr enc P w base spare held t v) :
  ∃ (s:Sl) (l:List α),v=s.val l.length∧RowOf k f w s l∧∀ u ∈ l,p u:=by
 obtain ⟨n,y,h⟩:=h
 rcases Deep.open_slice ht h with ⟨h0,_⟩ | ⟨a,len,cap,m,n',D,Pl,hcs,_,hl,hm,hmm,_,hx⟩
 ·simp only [List.cons.injEq,and_true] at h0
  exact ⟨⟨none,0⟩,[],h0,RowOf.nil w,by simp⟩
 ·simp only [List.cons.injEq,and_true] at hcs
  have hlm:len≤m:=by rw [hmm];split <;> omega
  have each:∀ i,∃ u:α,i < len→Lies w (a.add (i*k)) (f u)∧p u:=by
   intro i
   by_cases hi:i < len
   ·obtain ⟨cs',h1,h2⟩:=hx i (by omega)
    rw [hC] at h1
    obtain ⟨_,hlen,hcell⟩:=World.cells?_some h1
    obtain ⟨u,rfl,hp⟩:=hel _ _ _ h2
    refine ⟨u,fun _=>⟨fun j v hv=>?_,hp⟩⟩
    have hj:j < k:=by rw [← hlen];exact (List.getElem?_eq_some_iff.1 hv).1
    rw [hcell j hj,hv]
   ·exact ⟨default,fun h=>absurd h hi⟩
  refine ⟨⟨some a,cap⟩,(List.range len).map fun i=>Classical.choose (each i),?_,.inr ⟨a,rfl,by simpa using hl,hm,?_⟩,?_⟩
  ·rw [hcs];simp
  ·intro i u hu
   rw [List.getElem?_map] at hu
   by_cases hi:i < len
   ·rw [List.getElem?_range hi] at hu
    obtain rfl:=Option.some.inj hu
    exact (Classical.choose_spec (each i) hi).1
   ·simp [List.getElem?_eq_none (l:=List.range len) (i:=i) (by simpa using hi)] at hu
  ·intro u hu
   obtain ⟨i,hi,rfl⟩:=List.mem_map.1 hu
   exact (Classical.choose_spec (each i) (List.mem_range.1 hi)).2
instance:Inhabited Gr:=⟨⟨[],[],⟨none,0⟩,⟨none,0⟩⟩⟩
abbrev B:TypeId:=4
abbrev N:TypeId:=3
abbrev X:TypeId:=43
abbrev phT:List TypeId:=[B,N,N,N,N,N,N,N,N,N,N,B,B]
theorem flD:flat Tryz.prog 4 45=some [N,X,X,X,X,N,N]:=by kernel_rfl
theorem flR:flat Tryz.prog 4 47=some (List.replicate 11 N):=by kernel_rfl
theorem flB:flat Tryz.prog 4 49=some (List.replicate 2 N):=by kernel_rfl
theorem flG:flat Tryz.prog 4 41=some (List.replicate 2 22):=by kernel_rfl
abbrev tabT:List TypeId:=(List.replicate 8 phT).flatten++(26 :: (List.replicate 8 N++(28 :: 29 :: 30 :: (List.replicate 5 N++(List.replicate 8 N++List.replicate 2 N)))))
theorem flT:flat Tryz.prog 5 32=some tabT:=by kernel_rfl
theorem ph_el:∀ {cs:List Value},All2 (Tr enc Tryz.prog w base spare held) phT cs→∃ p:Ph,cs=p.cells
 | [_,_,_,_,_,_,_,_,_,_,_,_,_],⟨h0,h1,h2,h3,h4,h5,h6,h7,h8,h9,h10,h11,h12,_⟩=>by
  obtain ⟨v0,rfl⟩:=tr_bool Tryz.underlying4 h0
  obtain ⟨v1,rfl⟩:=tr_int Tryz.underlying3 h1
  obtain ⟨v2,rfl⟩:=tr_int Tryz.underlying3 h2
  obtain ⟨v3,rfl⟩:=tr_int Tryz.underlying3 h3
  obtain ⟨v4,rfl⟩:=tr_int Tryz.underlying3 h4
  obtain ⟨v5,rfl⟩:=tr_int Tryz.underlying3 h5
  obtain ⟨v6,rfl⟩:=tr_int Tryz.underlying3 h6
  obtain ⟨v7,rfl⟩:=tr_int Tryz.underlying3 h7
  obtain ⟨v8,rfl⟩:=tr_int Tryz.underlying3 h8
  obtain ⟨v9,rfl⟩:=tr_int Tryz.underlying3 h9
  obtain ⟨v10,rfl⟩:=tr_int Tryz.underlying3 h10
  obtain ⟨v11,rfl⟩:=tr_bool Tryz.underlying4 h11
  obtain ⟨v12,rfl⟩:=tr_bool Tryz.underlying4 h12
  exact ⟨⟨v0,v1,v2,v3,v4,v5,v6,v7,v8,v9,v10,v11,v12⟩,rfl⟩
theorem det_el:∀ {cs:List Value},All2 (Tr enc Tryz.prog w base spare held) [N,X,X,X,X,N,N] cs→∃ d:Det,cs=d.cells
 | [_,_,_,_,_,_,_],⟨h0,h1,h2,h3,h4,h5,h6,_⟩=>by
  obtain ⟨v0,rfl⟩:=tr_int Tryz.underlying3 h0
  obtain ⟨v1,rfl⟩:=tr_flt Tryz.underlying43 h1
  obtain ⟨v2,rfl⟩:=tr_flt Tryz.underlying43 h2
  obtain ⟨v3,rfl⟩:=tr_flt Tryz.underlying43 h3
  obtain ⟨v4,rfl⟩:=tr_flt Tryz.underlying43 h4
  obtain ⟨v5,rfl⟩:=tr_int Tryz.underlying3 h5
  obtain ⟨v6,rfl⟩:=tr_int Tryz.underlying3 h6
  exact ⟨⟨v0,v1,v2,v3,v4,v5,v6⟩,rfl⟩
theorem rl_el {cs:List Value} (h:All2 (Tr enc Tryz.prog w base spare held) (List.replicate 11 N) cs):∃ r:Rl,cs=r.cells:=by
 obtain ⟨l,hl,rfl⟩:=tr_ints Tryz.underlying3 11 h
 match l,hl with
 | [a,b,c,d,e,f,g,h,i,j,k],_=>exact ⟨⟨a,b,c,d,e,f,g,h,i,j,k⟩,rfl⟩
theorem bs_el {cs:List Value} (h:All2 (Tr enc Tryz.prog w base spare held) (List.replicate 2 N) cs):∃ b:Bs,cs=b.cells:=by
 obtain ⟨l,hl,rfl⟩:=tr_ints Tryz.underlying3 2 h
 match l,hl with
 | [a,b],_=>exact ⟨⟨a,b⟩,rfl⟩
theorem int_row {v:Value} (h:Tr enc Tryz.prog w base spare held 22 v):∃ (s:Sl) (l:List Int),v=s.val l.length∧IntRow w s l:=by
 obtain ⟨s,l,h1,h2,_⟩:=tr_row (α:=Int) (k:=1) (f:=fun n=>[I n]) (p:=fun _=>True) Tryz.underlying22 (by kernel_rfl) (fun n cs x hx=>by
  obtain ⟨z,hz,_⟩:=DataW.trod_int Tryz.underlying3 hx
  exact ⟨z,hz,trivial⟩) h
 exact ⟨s,l,h1,h2⟩
theorem gr_el:∀ {cs:List Value},All2 (Tr enc Tryz.prog w base spare held) (List.replicate 2 22) cs→∃ g:Gr,cs=g.cells∧g.ok w
 | [_,_],⟨h0,h1,_⟩=>by
  obtain ⟨s0,r0,rfl,k0⟩:=int_row h0
  obtain ⟨s1,r1,rfl,k1⟩:=int_row h1
  exact ⟨⟨r0,r1,s0,s1⟩,rfl,k0,k1⟩
theorem open_tab {n:Nat} {cs:List Value} {x:DataW H × List MemPlace} (h:DataW.trod enc Tryz.prog w base spare held n 32 cs=some x):∃ (hd:Hd) (T:Tab),cs=T.cells hd∧IsTab w hd T:=by
 have hf:=trod_flat 5 _ _ flT n cs x h
 clear h
 obtain ⟨h1,h2⟩:=All2.split hf
 have e0:=List.take_append_drop (List.replicate 8 phT).flatten.length cs
 rw [← e0]
 generalize cs.take (List.replicate 8 phT).flatten.length=ca at h1
 generalize cs.drop (List.replicate 8 phT).flatten.length=cb at h2
 obtain ⟨L,hL,rfl,hall⟩:=All2.rep 8 h1
 obtain ⟨ps,hp1,hp2,_⟩:=map_choose (f:=Ph.cells) (p:=fun _=>True) (l:=L) (fun c hc=>(ph_el (hall c hc)).imp fun v hv=>⟨hv,trivial⟩)
 cases cb with
 | nil=>exact h2.elim
 | cons vg cb =>
 obtain ⟨hg,h3⟩:=h2
 obtain ⟨h4,h5⟩:=All2.split h3
 have e1:=List.take_append_drop (List.replicate 8 N).length cb
 rw [← e1]
 generalize cb.take (List.replicate 8 N).length=cc at h4
 generalize cb.drop (List.replicate 8 N).length=cd at h5
 obtain ⟨cf,hcf,rfl⟩:=tr_ints Tryz.underlying3 8 h4
 match cd,h5 with
 | vd :: vr :: vb :: ce,⟨hd,hr,hb,h6⟩ =>
 obtain ⟨h7,h8⟩:=All2.split h6
 have e2:=List.take_append_drop (List.replicate 5 N).length ce
 rw [← e2]
 generalize ce.take (List.replicate 5 N).length=cg at h7
 generalize ce.drop (List.replicate 5 N).length=ch at h8
 obtain ⟨five,h5l,rfl⟩:=tr_ints Tryz.underlying3 5 h7
 obtain ⟨h9,h10⟩:=All2.split h8
 have e3:=List.take_append_drop (List.replicate 8 N).length ch
 rw [← e3]
 generalize ch.take (List.replicate 8 N).length=ci at h9
 generalize ch.drop (List.replicate 8 N).length=cj at h10
 obtain ⟨fl,hfl,rfl⟩:=tr_ints Tryz.underlying3 8 h9
 obtain ⟨two,h2l,rfl⟩:=tr_ints Tryz.underlying3 2 h10
 obtain ⟨sg,gs,rfl,kg,kgo⟩:=tr_row (α:=Gr) (k:=2) (f:=Gr.cells) (p:=fun g=>g.ok w) Tryz.underlying26 (by kernel_rfl) (fun n cs x hx=>gr_el (trod_flat 4 _ _ flG n cs x hx)) hg
 obtain ⟨sd,ds,rfl,kd,_⟩:=tr_row (α:=Det) (k:=7) (f:=Det.cells) (p:=fun _=>True) Tryz.underlying28 (by kernel_rfl) (fun n cs x hx=>(det_el (trod_flat 4 _ _ flD n cs x hx)).imp fun v hv=>⟨hv,trivial⟩) hd
 obtain ⟨sr,rs,rfl,kr,_⟩:=tr_row (α:=Rl) (k:=11) (f:=Rl.cells) (p:=fun _=>True) Tryz.underlying29 (by kernel_rfl) (fun n cs x hx=>(rl_el (trod_flat 4 _ _ flR n cs x hx)).imp fun v hv=>⟨hv,trivial⟩) hr
 obtain ⟨sb,bs,rfl,kb,_⟩:=tr_row (α:=Bs) (k:=2) (f:=Bs.cells) (p:=fun _=>True) Tryz.underlying30 (by kernel_rfl) (fun n cs x hx=>(bs_el (trod_flat 4 _ _ flB n cs x hx)).imp fun v hv=>⟨hv,trivial⟩) hb
 match five,h5l,two,h2l with
 | [a,b,c,d,e],_,[f,g],_ =>
 refine ⟨⟨sg,sd,sr,sb⟩,⟨ps,gs.map Gr.data,cf,ds,rs,bs,a,b,c,d,e,fl,f,g⟩,?_,⟨by rw [hp1,hL],hcf,hfl,⟨gs,rfl,kg,kgo⟩,kd,kr,kb⟩⟩
 rw [hp2]
 simp only [Tab.cells,List.length_map,List.cons_append,List.nil_append,List.map_cons,List.map_nil]
end
end TabArg
end Go.Proofs.YtjolhoilcibdfaaGreat
