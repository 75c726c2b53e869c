/- The contract of the document's All: the bounds of a table without a Fault; the first Fault. -/
import Derived.Test.YtjolhoilcibdfaaGreatPart01
import Derived.Test.YtjolhoilcibdfaaGreatRows
import Derived.Test.YtjolhoilcibdfaaGreatPart12
import Derived.Test.YtjolhoilcibdfaaGreatPart13
import Derived.Test.YtjolhoilcibdfaaGreatPart10
import Derived.Test.YtjolhoilcibdfaaGreatPart05
import Derived.Test.YtjolhoilcibdfaaGreatPart04
set_option linter.unusedVariables false
set_option linter.unusedSimpArgs false
set_option linter.unusedSectionVars false
set_option maxHeartbeats 8000000
set_option maxRecDepth 100000
namespace Go.Proofs.YtjolhoilcibdfaaGreat
namespace BdR
open Zip
open Go.ChangeShapes Go.WideShapes Go.ChangeAt Go.RowKit
open Tab Gath OnS RefC Clear
open May (St phases_in infoP infoT row_new)
open BdB BdN BdT BdL ChkM PlaceM BdS
open FreeS OverS WaitS EntryS
section
variable {P:Program} {ops:Array Oper} {Q:Exit→Act→World→Prop}
theorem wpList_build0 {rest:List Oper} {o:Oper} {a:Act} {w:World} (hgd:o.guard=none) (t:TypeId) (ho:o.op=.build t #[]) (cells:Array Value) (hb:P.built t []=some cells)
  (h:wpList P ops Q rest (a.put o.dst (.agg cells)) w):wpList P ops Q (o :: rest) a w :=
 wpList_plain hgd fun _ hK=>by
  unfold Oper.wp execOp
  have hb':P.built t ((#[]:Array (Nat × Operand)).map fun (i,x)=>(i,a.eval x)).toList=some cells:=by simpa using hb
  simp only [ho,Sem.run_bind,run_build w t _ _ hb',Result.andThen_ok,Sem.run_pure]
  exact hK _ _ h
end
theorem phase_on {T:Tab} (h8:T.phases.length=8) {q:Nat} (hq:q < 8) (h:full (waitS T q)=true):∃ p,T.phases[q]?=some p∧p.on=true:=by
 have h1:SetM.has (onS T:Nat) q=true:=wait_on (fun e=>by rw [e] at h;exact absurd h (by decide))
 rw [ChkX.has_on h8 (by omega) (by omega)] at h1
 refine ⟨_,List.getElem?_eq_getElem (by omega),?_⟩
 unfold ChkM.phAt at h1
 rw [Int.toNat_natCast,List.getD_eq_getElem?_getD,List.getElem?_eq_getElem (by omega)] at h1
 exact h1
theorem rail_full {T:Tab} (h:T.rails.length≤4) (hn:∀ x ∈ (entsL T).take T.rails.length,full x=false):∀ x ∈ entsL T,full x=false:=by
 intro x hx
 obtain ⟨j,hj,rfl⟩:=List.mem_iff_getElem.1 hx
 have hl:=ents_len T
 have hv:=ents_at T (i:=j) (by omega)
 rw [List.getElem?_eq_getElem hj] at hv
 have hv2:=Option.some.inj hv
 by_cases hk:j < T.rails.length
 ·exact hn _ (by rw [List.mem_take_iff_getElem];exact ⟨j,by omega,rfl⟩)
 ·rw [hv2,entry_far (by omega)];decide
theorem rall_any (T:Tab) (h:Hd) (w:World) (ht:IsTab w h T) (sm:Few T) :
  Calls Tryz.prog 38 #[.agg (T.cells h).toArray] w fun e w'=>e=.returned (.tuple #[.agg ((allB T).map I).toArray,.agg (fcells (allF T))])∧Below w.heap.size w w':=by
 have C:=hJJ (cells_ok ht)
 have hsz:=C.out.size
 have IA:Hid ((Tryz.prog.info? 32).map (·.size)=some (T.cells h).length):=hJJ (by rw [List.size_toArray] at hsz;rw [hsz];exact infoT)
 have CK0:Hid (∀ W,Below w.heap.size w W→Calls Tryz.prog 15 #[.agg (T.cells h).toArray] W fun e w'=>e=.returned (.agg (fcells (chkC T)))∧Below W.heap.size W w'):=hJJ (fun W hb=>by rw [ChkZ.chk_eq ht.ph ht.cf];exact RkK.rcheck_any T h W (ht.below hb) sm)
 have WC0:Hid (T.rails.length≤4→∀ (q:Nat) W,Below w.heap.size w W→Calls Tryz.prog 36 #[.agg (T.cells h).toArray,.int .i64 q] W fun e w'=>e=.returned (.int .i64 (waitS T q))∧Below W.heap.size W w'):=hJJ (fun h4 q W hb=>wait_any T h q W (ht.below hb) sm (by omega))
 have EC:Hid (∀ (q:Nat) W,Below w.heap.size w W→Calls Tryz.prog 32 #[.agg (T.cells h).toArray,.int .i64 q] W fun e w'=>e=.returned (.int .i64 (entryS T q))∧Below W.heap.size W w'):=hJJ (fun q W hb=>entry_any T h q W (ht.below hb))
 have ONW:Hid (∀ q:Nat,q < 8→full (waitS T q)=true→(T.cells h)[q*13]?=some (.bool true)):=hJJ (fun q hq hf=>by
  obtain ⟨p,hp,ho⟩:=phase_on ht.ph hq hf
  have h1:=C.out.phase q p hp
  have h2:((T.cells h).drop (13*q)).take 13=p.cells:=h1
  have h3:(((T.cells h).drop (13*q)).take 13)[0]?=some (.bool p.on):=by rw [h2];rfl
  rw [List.getElem?_take_of_lt (by omega),List.getElem?_drop,ho,Nat.add_zero,Nat.mul_comm] at h3
  exact h3)
 have q114:=C.out.r
 have q129:=C.out.window
 have C114:=hJJ q114
 have C129:=hJJ q129
 clear q114 q129
 have WA:Hid (∀ i:Nat,i < 8→(waitsL T)[i]?=some (waitS T i)):=hJJ (fun i hi=>waits_at T hi)
 have EA:Hid (∀ i:Nat,i < 4→(entsL T)[i]?=some (entryS T i)):=hJJ (fun i hi=>ents_at T hi)
 have EF0:Hid (∀ k:Nat,T.rails.length≤k→entryS T k=0):=hJJ (fun k hk=>entry_far hk)
 have WL:Hid ((waitsL T).length=8):=hJJ (waits_len T)
 have EL:Hid ((entsL T).length=4):=hJJ (ents_len T)
 have W0:=hJJ (waits_lo T)
 have RF4:Hid (chkC T=(0,0)→T.rails.length≤4):=hJJ rails_four
 have RFU:Hid (T.rails.length≤4→(∀ x ∈ (entsL T).take T.rails.length,full x=false)→∀ x ∈ entsL T,full x=false):=hJJ rail_full
 have CZ:Hid ((chkC T).1=0→chkC T=(0,0)):=hJJ chk_zero
 have ST:=hJJ (laid3 w (T.cells h).toArray ((List.replicate 12 (0:Int)).map I).toArray #[I 0,I 0] 32 65 37)
 have RS:Hid (allF T=if chkC T=(0,0) then (if 0≤idxF (waitsL T) then (14,idxF (waitsL T)) else if 0≤idxF (entsL T) then (14,idxF (entsL T)) else if 0 < T.rails.length∧T.window < mosts (waitsL T) then (15,0) else (0,0)) else chkC T):=hJJ rfl
 have RB:Hid (allB T=if allF T=(0,0) then waitsL T++entsL T else List.replicate 12 0):=hJJ rfl
 generalize allB T=rb at RB ⊢
 generalize allF T=rf at RS RB ⊢
 generalize waitsL T=wl at *
 generalize entsL T=el at *
 have HA:Hid (∀ (k:Nat) v,(∀ x ∈ wl.take k,full x=false)→wl[k]?=some v→full v=true→idxF wl=k):=hJJ (fun k v h1 h2 h3=>idx_at h1 h2 h3)
 have HA0:Hid ((∀ x ∈ wl,full x=false)→idxF wl = -1):=hJJ idx_none
 have HE:Hid (∀ (k:Nat) v,(∀ x ∈ el.take k,full x=false)→el[k]?=some v→full v=true→idxF el=k):=hJJ (fun k v h1 h2 h3=>idx_at h1 h2 h3)
 have HE0:Hid ((∀ x ∈ el,full x=false)→idxF el = -1):=hJJ idx_none
 have HM:Hid (∀ a W,IntRow W ⟨a,8⟩ wl→Calls Tryz.prog 61 #[.slice a (8:Nat) 8] W fun e w'=>e=.returned (.int .i64 (mosts wl))∧W=w'):=hJJ (fun a W hr=>ServeS.most_len a 8 wl 8 WL.out W hr)
 generalize idxF wl=i1 at *
 generalize idxF el=i2 at *
 generalize mosts wl=mw at *
 obtain ⟨⟨f1,f2⟩,hf⟩:∃ x,chkC T=x:=⟨_,rfl⟩
 rw [hf] at RS CK0 RF4 CZ
 have CK:Hid (∀ W,Below w.heap.size w W→Calls Tryz.prog 15 #[.agg (T.cells h).toArray] W fun e w'=>e=.returned (.agg #[I f1,I f2])∧Below W.heap.size W w'):=hJJ CK0.out
 have CZ2:Hid (f1=0→f2=0):=hJJ (fun e=>by have:=CZ.out e;injection this)
 obtain ⟨sg,sd,⟨ra,rcap⟩,sb⟩:=h
 clear hf CK0 ht sm CZ C
 generalize T.cells _=c at *
 generalize T.rails.length=n at *
 generalize T.window=wd at *
 have hz:=(zero_of_info infoBz).1
 have ZI:Hid ((Tryz.prog.info? 65).map (·.size)=some ((List.replicate 12 (0:Int)).map I).toArray.size):=hJJ infoB
 have ZO:Hid (((List.replicate 12 (0:Int)).map I).toArray.all (·.oneCell')=true):=hJJ (bone (zeros 8) (zeros 4))
 have BZ:=hJJ builtB
 have ZE:bcells (zeros 8) (zeros 4)=((List.replicate 12 (0:Int)).map I).toArray:=rfl
 rw [ZE] at hz
 clear ZE
 have RZ:Hid (∀ L:List Int,L=List.replicate 12 0→(L.map I).toArray=((List.replicate 12 (0:Int)).map I).toArray):=hJJ (fun L e=>by rw [e])
 have Z12:Hid (((List.replicate 12 (0:Int)).map I).toArray.size=12):=hJJ rfl
 have ZU:Hid (((List.replicate 12 (0:Int)).map I).toArray=bcells (upTo wl 8 0) (upTo el 4 0)):=hJJ rfl
 generalize ((List.replicate 12 (0:Int)).map I).toArray=Z at *
 go_enter Tryz.func38,Tryz.ntmps38
 go_upto_region 1 with fail
 generalize ((w.alloc (.cells c.toArray 32)).alloc (.cells Z 65)).alloc (.cells #[I 0,I 0] 37)=w1 at ST ⊢
 clear hsz
 have LT:Hid (∀ u,Below w1.heap.size w1 u→Lies u ⟨w.heap.size,0,none⟩ c):=hJJ (fun u hu=>by have:=bks_lies (ST.out.step hu) (x:=(w.heap.size,c.toArray,32)) (by simp);simpa using this)
 have SZ:Hid (w.heap.size+3≤w1.heap.size):=hJJ (by
  have:=(Array.getElem?_eq_some_iff.1 (ST.out.blk (w.heap.size+2,#[I 0,I 0],37) (by simp))).1
  exact this)
 go_wp2_with (refine lgZ 32 ⟨w.heap.size,0,none⟩ c rfl (LT.out _ (Below.refl _ _)) Tryz.underlying32 IA.out ?_)
 refine (CK.out _ ST.out.bel).mono ?_
 rintro e u1 ⟨rfl,hb⟩
 have W1:Hid (Below w1.heap.size w1 (u1.alloc (.cells #[I f1,I f2] 37))):=hJJ (hb.alloc hb.size _)
 have NE:Hid (u1.heap.size ≠ w.heap.size+1∧u1.heap.size ≠ w.heap.size+2):=hJJ (by have:=hb.size;have:=SZ.out;omega)
 clear hb CK LT
 go_upto_region 2 with (refine Row.wpList_store_new rfl 37 _ _ rfl u1 _ #[I f1,I f2] rfl rfl rfl infoF rfl (by simp [Value.oneCell']) ?_)
 have KF:Hid ((u1.alloc (.cells #[I f1,I f2] 37)).heap[u1.heap.size]?=some (.cells #[I f1,I f2] 37 (0,0))):=hJJ (heap_alloc_new _ _)
 generalize u1.alloc (.cells #[I f1,I f2] 37)=u2 at W1 KF ⊢
 generalize u1.heap.size=m1 at NE KF ⊢
 have S2:=hJJ (ST.out.step W1.out)
 have BF:=hJJ S2.out.bel
 have K1:Hid (u2.heap[w.heap.size+1]?=some (.cells Z 65 (0,0))):=hJJ (S2.out.blk (w.heap.size+1,Z,65) (by simp))
 have K2:Hid (u2.heap[w.heap.size+2]?=some (.cells #[I 0,I 0] 37 (0,0))):=hJJ (S2.out.blk (w.heap.size+2,#[I 0,I 0],37) (by simp))
 have k0:u2.cell? ⟨m1,0,none⟩=some (I f1):=by rw [cell_of_row _ _ _ _ _ _ KF.out];rfl
 by_cases hf:f1=0
 rotate_left
 ·have hfb:(f1 != 0)=true:=by simpa using hf
  have RR:Hid (Value.tuple #[.agg Z,.agg #[I f1,I f2]]=.tuple #[.agg (rb.map I).toArray,.agg (fcells rf)]):=hJJ (by
   have h1:rf=(f1,f2):=by rw [RS.out,if_neg (fun e=>hf (by injection e))]
   have h2:rb=List.replicate 12 0:=by rw [RB.out,if_neg (by rw [h1];exact fun e=>hf (by injection e))]
   rw [RZ.out rb h2,h1];rfl)
  clear RS RB RF4 RFU WC0 EC ONW WA EA HA HA0 HE HE0 HM ST
  go_upto_region 3 with fail
  have D0:Hid (Below w.heap.size w { u2 with drawn:=u2.drawn+1 }):=hJJ BF.out.drew
  have D1:Hid (({ u2 with drawn:=u2.drawn+1 }:World).heap[w.heap.size+1]?=some (.cells Z 65 (0,0))):=hJJ K1.out
  have D2:Hid (({ u2 with drawn:=u2.drawn+1 }:World).heap[w.heap.size+2]?=some (.cells #[I 0,I 0] 37 (0,0))):=hJJ K2.out
  refine wp_region_held (S:=fun v=>v.heap[m1]?=some (.cells #[I f1,I f2] 37 (0,0))) (by kernel_rfl) ?_
  have hS:({ u2 with drawn:=u2.drawn+1 }:World).heap[m1]?=some (.cells #[I f1,I f2] 37 (0,0)):=KF.out
  generalize ({ u2 with drawn:=u2.drawn+1 }:World)=v at hS D0 D1 D2 ⊢
  refine Held.take_build (i:=0) (some 13) rfl 65 #[] Z rfl rfl (by kernel_rfl) (by kernel_rfl) (by kernel_rfl) (fun _ _ _ h=>h) (by rfl) hS (by simpa using BZ.out) ?_
  (try dsimp only [Act.put]);(try simp only [zA,zB,zC])
  refine tlZ 1 14 37 _ ⟨m1,0,none⟩ [I f1,I f2] rfl hS (fun w' hw'=>by have:=Row.lies_of_block hw';simpa using this) Tryz.underlying37 infoF ?_
  (try dsimp only [Act.put]);(try simp only [zA,zB,zC])
  refine rdZ 2 rfl (fun K hK=>?_)
  rw [if_pos (by rfl)]
  refine wp_store_row 65 _ _ rfl (w.heap.size+1) Z rfl rfl 65 _ D1.out ZI.out rfl ZO.out ?_
  have hS2:(v.setRow (w.heap.size+1) Z).heap[m1]?=some (.cells #[I f1,I f2] 37 (0,0)):=(setRow_other _ _ _ _ NE.out.1).trans hS
  have E0:=hJJ (Same.below_setRow D0.out (g:=(w.heap.size+1)) (by omega) Z)
  have E1:=hJJ (setRow_heap v (w.heap.size+1) _ Z _ _ D1.out)
  have E2:Hid ((v.setRow (w.heap.size+1) Z).heap[w.heap.size+2]?=some (.cells #[I 0,I 0] 37 (0,0))):=hJJ ((setRow_other _ _ _ _ (by omega)).trans D2.out)
  generalize v.setRow (w.heap.size+1) Z=v2 at hS2 E0 E1 E2 ⊢
  refine hK.out _ _ hS2 (fun hS=>?_)
  clear hK K hS2 D0 D1 D2
  (try dsimp only [Act.put]);(try simp only [zA,zB,zC])
  refine rdZ 3 rfl (fun K hK=>?_)
  rw [if_pos (by rfl)]
  refine wp_store_row 37 _ _ rfl (w.heap.size+2) #[I f1,I f2] rfl rfl 37 _ E2.out infoF rfl (by simp [Value.oneCell']) ?_
  have hS3:(v2.setRow (w.heap.size+2) #[I f1,I f2]).heap[m1]?=some (.cells #[I f1,I f2] 37 (0,0)):=(setRow_other _ _ _ _ NE.out.2).trans hS
  have F0:=hJJ (Same.below_setRow E0.out (g:=(w.heap.size+2)) (by omega) #[I f1,I f2])
  have F2:=hJJ (setRow_heap v2 (w.heap.size+2) _ #[I f1,I f2] _ _ E2.out)
  have F1:Hid ((v2.setRow (w.heap.size+2) #[I f1,I f2]).heap[w.heap.size+1]?=some (.cells Z 65 (0,0))):=hJJ ((setRow_other _ _ _ _ (by omega)).trans E1.out)
  generalize v2.setRow (w.heap.size+2) #[I f1,I f2]=v3 at hS3 F0 F1 F2 ⊢
  refine hK.out _ _ hS3 (fun hS=>?_)
  clear hK K hS3 E0 E1 E2
  refine wpAnyH_done (by kernel_rfl) ?_ _
  (try go_wp2_with fail)
  (try simp only [Exit.inBlock,Exit.then])
  refine bodyPost_ret (v:=.tuple #[.agg Z,.agg #[I f1,I f2]]) ?_ rfl ⟨by rw [RR.out],F0.out⟩
  exact results_two rfl _ _ (w.heap.size+1) (w.heap.size+2) 65 37 Z #[I f1,I f2] _ _ rfl rfl F1.out F2.out Tryz.underlying65 rfl ZI.out Tryz.underlying37 rfl infoF
 obtain rfl:=CZ2.out hf
 subst hf
 have HN4:=hJJ (RF4.out rfl)
 have RFU2:=hJJ (RFU.out HN4.out)
 have WC:=hJJ (WC0.out HN4.out)
 clear WC0
 have RS2:Hid (rf=if 0≤i1 then (14,i1) else if 0≤i2 then (14,i2) else if 0 < n∧wd < mw then (15,0) else (0,0)):=hJJ (by rw [RS.out,if_pos rfl])
 have RN:Hid (∀ f:Int × Int,rf=f→f.1 ≠ 0→Value.tuple #[.agg Z,.agg #[I f.1,I f.2]]=.tuple #[.agg (rb.map I).toArray,.agg (fcells rf)]):=hJJ (fun f e h0=>by
  have h2:rb=List.replicate 12 0:=by rw [RB.out,if_neg (by rw [e];exact fun q=>h0 (by rw [q]))]
  rw [RZ.out rb h2,e];rfl)
 have RY:Hid (rf=(0,0)→Value.tuple #[.agg ((wl++el).map I).toArray,.agg #[I 0,I 0]]=.tuple #[.agg (rb.map I).toArray,.agg (fcells rf)]):=hJJ (fun e=>by
  have h2:rb=wl++el:=by rw [RB.out,if_pos e]
  rw [h2,e];rfl)
 clear RS RB RF4 RFU RZ KF NE BF K1 K2 CZ2
 go_upto_region 5 with fail
 clear k0 hz
 have SB:Hid (Bks w [(u2.heap.size,bcells (upTo wl 8 0) (upTo el 4 0),65),(w.heap.size+2,#[I 0,I 0],37),(w.heap.size+1,Z,65),(w.heap.size,c.toArray,32)] (u2.alloc (.cells Z 65))):=hJJ (by
  have hb:Below u2.heap.size u2 (u2.alloc (.cells Z 65)):=(Below.refl _ _).alloc (Nat.le_refl _) _
  have h1:=S2.out.step hb
  refine ⟨h1.bel,?_,?_⟩
  ·intro x hx
   rcases List.mem_cons.1 hx with rfl | hx
   ·exact S2.out.bel.size
   ·exact h1.own x hx
  ·intro x hx
   rcases List.mem_cons.1 hx with rfl | hx
   ·rw [← ZU.out];exact heap_alloc_new _ _
   ·exact h1.blk x hx)
 have NM:Hid (u2.heap.size ≠ w.heap.size+2∧u2.heap.size ≠ w.heap.size+1∧u2.heap.size ≠ w.heap.size):=hJJ (by have:=W1.out.size;have:=SZ.out;omega)
 clear W1 SZ S2 ST ZU
 generalize u2.alloc (.cells Z 65)=u3 at SB ⊢
 generalize u2.heap.size=m2 at SB NM ⊢
 go_wp2_with fail
 go_loopw [6] (fun i wr=>∃ q:Nat,q≤8∧i=.int .i64 q∧(∀ x ∈ wl.take q,full x=false)∧Bks w [(m2,bcells (upTo wl 8 q) (upTo el 4 0),65),(w.heap.size+2,#[I 0,I 0],37),(w.heap.size+1,Z,65),(w.heap.size,c.toArray,32)] wr) (fun i _=>8 - (intOf i).toNat)
 case atStart=>exact ⟨0,by omega,rfl,by simp,SB.out⟩
 case round =>
  obtain ⟨q,hq,rfl,hn,hB⟩:=hrel
  have HB:=hJJ hB
  have HN:=hJJ hn
  clear hB hn
  by_cases hlt:q < 8
  ·skip
   have hv:=WA.out q (by omega)
   have UP:Hid ((upTo wl 8 q).set q (waitS T q)=upTo wl 8 (q+1)):=hJJ (upTo_succ WL.out hv)
   have CQ:=hJJ (WC.out q)
   have HT:Hid (full (waitS T q)=true→i1=q):=hJJ (fun e=>HA.out q _ HN.out hv e)
   have HN2:Hid (full (waitS T q)=false→∀ x ∈ wl.take (q+1),full x=false):=hJJ (fun e=>take_all HN.out hv e)
   have HO:=hJJ (ONW.out q hlt)
   generalize waitS T q=x at UP CQ HT HN2 HO
   clear hv
   have LTW:Hid (Lies wr ⟨w.heap.size,0,none⟩ c):=hJJ (by have:=bks_lies HB.out (x:=(w.heap.size,c.toArray,32)) (by simp);simpa using this)
   go_wp2_with (refine lgZ 32 ⟨w.heap.size,0,none⟩ c rfl LTW.out Tryz.underlying32 IA.out ?_)
   refine (CQ.out _ HB.out.bel).mono ?_
   rintro e u5 ⟨rfl,hb⟩
   have HB5:=hJJ (HB.out.step hb)
   clear hb LTW CQ HB
   obtain ⟨v0,hv0⟩:∃ v0,(bcells (upTo wl 8 q) (upTo el 4 0))[q]?=some v0:=⟨_,Array.getElem?_eq_getElem (by rw [bsize];first | (rw [upTo_len WL.out (by omega),upTo_len EL.out (by omega)];omega) | (rw [WL.out,upTo_len EL.out (by omega)];omega))⟩
   have c5:u5.cell? ⟨m2,q,none⟩=some v0:=bks_cell HB5.out (x:=(m2,bcells (upTo wl 8 q) (upTo el 4 0),65)) (by simp) hv0
   have f5:u5.frozen? ⟨m2,q,none⟩=false:=bks_frozen HB5.out (x:=(m2,bcells (upTo wl 8 q) (upTo el 4 0),65)) (by simp) (q)
   have HB6:Hid (Bks w [(m2,bcells (upTo wl 8 (q+1)) (upTo el 4 0),65),(w.heap.size+2,#[I 0,I 0],37),(w.heap.size+1,Z,65),(w.heap.size,c.toArray,32)] (u5.setCell ⟨m2,q,none⟩ (I x))):=hJJ (by
    have:=HB5.out.set (by intro y hy;simp only [List.mem_cons,List.not_mem_nil,or_false] at hy;obtain ⟨n1,n2,n3⟩:=NM.out;rcases hy with rfl | rfl | rfl <;> simp only <;> omega) (q) (I x)
    rwa [setA x (by rw [upTo_len WL.out hq];exact hlt),UP.out] at this)
   clear hv0
   have c8:(u5.setCell ⟨m2,q,none⟩ (I x)).cell? ⟨m2,q,none⟩=some (I x):=by
    have hx:(upTo wl 8 (q+1))[q]?=some x:=by
     rw [← UP.out,List.getElem?_set_self (by rw [upTo_len WL.out hq];exact hlt)]
    exact bks_cell HB6.out (x:=(m2,bcells (upTo wl 8 (q+1)) (upTo el 4 0),65)) (by simp) (batA hx)
   clear HB5
   cases hx:full x with
   | true =>
    have hge:2147483647≤x:=by simpa [full] using hx
    have c9:(u5.setCell ⟨m2,q,none⟩ (I x)).cell? ⟨w.heap.size,q*13,none⟩=some (.bool true):=bks_cell HB6.out (x:=(w.heap.size,c.toArray,32)) (by simp) (by have:=HO.out hx;simpa using this)
    have hi:i1=q:=HT.out hx
    have RR:=hJJ (RN.out (14,(q:Int)) (by rw [RS2.out,hi,if_pos (by omega)]) (by simp))
    clear HT HN2 HO UP hi RN RY RS2 HN WC EC ONW WA EA HA HA0 HE HE0 HM
    go_upto_region 10 with fail
    clear c5 f5 c8 c9
    generalize u5.setCell ⟨m2,q,none⟩ (I x)=u6 at HB6 ⊢
    have BF:=hJJ HB6.out.bel
    have K1:Hid (u6.heap[w.heap.size+1]?=some (.cells Z 65 (0,0))):=hJJ (HB6.out.blk (w.heap.size+1,Z,65) (by simp))
    have K2:Hid (u6.heap[w.heap.size+2]?=some (.cells #[I 0,I 0] 37 (0,0))):=hJJ (HB6.out.blk (w.heap.size+2,#[I 0,I 0],37) (by simp))
    have E0:=hJJ (Same.below_setRow BF.out (g:=w.heap.size+1) (by omega) Z)
    have E1:=hJJ (setRow_heap u6 (w.heap.size+1) _ Z _ _ K1.out)
    have E2:Hid ((u6.setRow (w.heap.size+1) Z).heap[w.heap.size+2]?=some (.cells #[I 0,I 0] 37 (0,0))):=hJJ ((setRow_other _ _ _ _ (by omega)).trans K2.out)
    have F0:=hJJ (Same.below_setRow E0.out (g:=w.heap.size+2) (by omega) #[I 14,I (q:Int)])
    have F2:=hJJ (setRow_heap (u6.setRow (w.heap.size+1) Z) (w.heap.size+2) _ #[I 14,I (q:Int)] _ _ E2.out)
    have F1:Hid (((u6.setRow (w.heap.size+1) Z).setRow (w.heap.size+2) #[I 14,I (q:Int)]).heap[w.heap.size+1]?=some (.cells Z 65 (0,0))):=hJJ ((setRow_other _ _ _ _ (by omega)).trans E1.out)
    go_wp2_with (first | (refine wpList_build0 rfl 65 rfl Z BZ.out ?_) | (refine wpList_store_row rfl 65 _ _ rfl (w.heap.size+1) Z rfl rfl 65 _ K1.out ZI.out rfl ZO.out ?_) | (refine wpList_store_row rfl 37 _ _ rfl (w.heap.size+2) #[I 14,I (q:Int)] rfl rfl 37 _ E2.out infoF rfl (by simp [Value.oneCell']) ?_))
    generalize (u6.setRow (w.heap.size+1) Z).setRow (w.heap.size+2) #[I 14,I (q:Int)]=v3 at F0 F1 F2 ⊢
    (try go_wp2_with fail)
    (try simp only [Exit.inBlock,Exit.then])
    refine bodyPost_ret (v:=.tuple #[.agg Z,.agg #[I 14,I (q:Int)]]) ?_ rfl ⟨by rw [RR.out],F0.out⟩
    exact results_two rfl _ _ (w.heap.size+1) (w.heap.size+2) 65 37 Z #[I 14,I (q:Int)] _ _ rfl rfl F1.out F2.out Tryz.underlying65 rfl ZI.out Tryz.underlying37 rfl infoF
   | false =>
    have hlt2:¬ 2147483647≤x:=by simpa [full] using hx
    have HNN:=hJJ (HN2.out hx)
    clear HT HN2 HO UP HN hx
    go_wp2
    go_roundw
    case rel=>exact ⟨q+1,by omega,by go_num,HNN.out,HB6.out⟩
    case measure=>simp [intOf];omega
  ·obtain rfl:q=8:=by omega
   have HI1:Hid (i1 = -1):=hJJ (HA0.out (by have:=HN.out;rwa [List.take_of_length_le (by rw [WL.out];omega)] at this))
   have HB2:Hid (Bks w [(m2,bcells wl (upTo el 4 0),65),(w.heap.size+2,#[I 0,I 0],37),(w.heap.size+1,Z,65),(w.heap.size,c.toArray,32)] wr):=hJJ (by have:=HB.out;rwa [upTo_full WL.out] at this)
   clear HB SB WC WA hq hlt HA HA0 HN ONW
   rw [show ((8:Nat):Int)=(8:Int) from rfl]
   go_upto_region 12 with fail
   go_loopw [7] (fun i wr=>∃ q:Nat,q≤n∧i=.int .i64 q∧(∀ x ∈ el.take q,full x=false)∧Bks w [(m2,bcells wl (upTo el 4 q),65),(w.heap.size+2,#[I 0,I 0],37),(w.heap.size+1,Z,65),(w.heap.size,c.toArray,32)] wr) (fun i _=>n - (intOf i).toNat)
   case atStart=>exact ⟨0,by omega,rfl,by simp,HB2.out⟩
   case round =>
    obtain ⟨q,hq,rfl,hn,hB⟩:=hrel
    have HB:=hJJ hB
    have HN:=hJJ hn
    have hn4:=HN4.out
    clear hB hn HB2
    have q114:wr.cell? ⟨w.heap.size,114,none⟩=some (.slice ra n rcap):=bks_cell HB.out (x:=(w.heap.size,c.toArray,32)) (by simp) C114.out
    by_cases hlt:q < n
    ·skip
     have hv:=EA.out q (by omega)
     have UP:Hid ((upTo el 4 q).set q (entryS T q)=upTo el 4 (q+1)):=hJJ (upTo_succ EL.out hv)
     have CQ:=hJJ (EC.out q)
     have HT:Hid (full (entryS T q)=true→i2=q):=hJJ (fun e=>HE.out q _ HN.out hv e)
     have HN2:Hid (full (entryS T q)=false→∀ x ∈ el.take (q+1),full x=false):=hJJ (fun e=>take_all HN.out hv e)
     generalize entryS T q=x at UP CQ HT HN2
     clear hv
     have LTW:Hid (Lies wr ⟨w.heap.size,0,none⟩ c):=hJJ (by have:=bks_lies HB.out (x:=(w.heap.size,c.toArray,32)) (by simp);simpa using this)
     go_wp2_with (refine lgZ 32 ⟨w.heap.size,0,none⟩ c rfl LTW.out Tryz.underlying32 IA.out ?_)
     refine (CQ.out _ HB.out.bel).mono ?_
     rintro e u5 ⟨rfl,hb⟩
     have HB5:=hJJ (HB.out.step hb)
     clear hb LTW CQ HB
     obtain ⟨v0,hv0⟩:∃ v0,(bcells wl (upTo el 4 q))[8+q]?=some v0:=⟨_,Array.getElem?_eq_getElem (by rw [bsize];first | (rw [upTo_len WL.out (by omega),upTo_len EL.out (by omega)];omega) | (rw [WL.out,upTo_len EL.out (by omega)];omega))⟩
     have c5:u5.cell? ⟨m2,8+q,none⟩=some v0:=bks_cell HB5.out (x:=(m2,bcells wl (upTo el 4 q),65)) (by simp) hv0
     have f5:u5.frozen? ⟨m2,8+q,none⟩=false:=bks_frozen HB5.out (x:=(m2,bcells wl (upTo el 4 q),65)) (by simp) (8+q)
     have HB6:Hid (Bks w [(m2,bcells wl (upTo el 4 (q+1)),65),(w.heap.size+2,#[I 0,I 0],37),(w.heap.size+1,Z,65),(w.heap.size,c.toArray,32)] (u5.setCell ⟨m2,8+q,none⟩ (I x))):=hJJ (by
      have:=HB5.out.set (by intro y hy;simp only [List.mem_cons,List.not_mem_nil,or_false] at hy;obtain ⟨n1,n2,n3⟩:=NM.out;rcases hy with rfl | rfl | rfl <;> simp only <;> omega) (8+q) (I x)
      rw [← WL.out,setE x (by rw [upTo_len EL.out (by omega)];omega),UP.out,WL.out] at this;exact this)
     clear hv0
     have c8:(u5.setCell ⟨m2,8+q,none⟩ (I x)).cell? ⟨m2,8+q,none⟩=some (I x):=by
      have hx:(upTo el 4 (q+1))[q]?=some x:=by
       rw [← UP.out,List.getElem?_set_self (by rw [upTo_len EL.out (by omega)];omega)]
      have:=batE (A:=wl) hx
      rw [WL.out] at this
      exact bks_cell HB6.out (x:=(m2,bcells wl (upTo el 4 (q+1)),65)) (by simp) this
     clear HB5 q114
     cases hx:full x with
     | true =>
      have hge:2147483647≤x:=by simpa [full] using hx
      have hi:i2=q:=HT.out hx
      have RR:=hJJ (RN.out (14,(q:Int)) (by rw [RS2.out,HI1.out,hi,if_neg (by omega),if_pos (by omega)]) (by simp))
      clear HT HN2 UP hi RN RY RS2 HN EC EA HE HE0 HM
      go_upto_region 16 with fail
      clear c5 f5 c8
      generalize u5.setCell ⟨m2,8+q,none⟩ (I x)=u6 at HB6 ⊢
      have BF:=hJJ HB6.out.bel
      have K1:Hid (u6.heap[w.heap.size+1]?=some (.cells Z 65 (0,0))):=hJJ (HB6.out.blk (w.heap.size+1,Z,65) (by simp))
      have K2:Hid (u6.heap[w.heap.size+2]?=some (.cells #[I 0,I 0] 37 (0,0))):=hJJ (HB6.out.blk (w.heap.size+2,#[I 0,I 0],37) (by simp))
      have E0:=hJJ (Same.below_setRow BF.out (g:=w.heap.size+1) (by omega) Z)
      have E1:=hJJ (setRow_heap u6 (w.heap.size+1) _ Z _ _ K1.out)
      have E2:Hid ((u6.setRow (w.heap.size+1) Z).heap[w.heap.size+2]?=some (.cells #[I 0,I 0] 37 (0,0))):=hJJ ((setRow_other _ _ _ _ (by omega)).trans K2.out)
      have F0:=hJJ (Same.below_setRow E0.out (g:=w.heap.size+2) (by omega) #[I 14,I (q:Int)])
      have F2:=hJJ (setRow_heap (u6.setRow (w.heap.size+1) Z) (w.heap.size+2) _ #[I 14,I (q:Int)] _ _ E2.out)
      have F1:Hid (((u6.setRow (w.heap.size+1) Z).setRow (w.heap.size+2) #[I 14,I (q:Int)]).heap[w.heap.size+1]?=some (.cells Z 65 (0,0))):=hJJ ((setRow_other _ _ _ _ (by omega)).trans E1.out)
      go_wp2_with (first | (refine wpList_build0 rfl 65 rfl Z BZ.out ?_) | (refine wpList_store_row rfl 65 _ _ rfl (w.heap.size+1) Z rfl rfl 65 _ K1.out ZI.out rfl ZO.out ?_) | (refine wpList_store_row rfl 37 _ _ rfl (w.heap.size+2) #[I 14,I (q:Int)] rfl rfl 37 _ E2.out infoF rfl (by simp [Value.oneCell']) ?_))
      generalize (u6.setRow (w.heap.size+1) Z).setRow (w.heap.size+2) #[I 14,I (q:Int)]=v3 at F0 F1 F2 ⊢
      (try go_wp2_with fail)
      (try simp only [Exit.inBlock,Exit.then])
      refine bodyPost_ret (v:=.tuple #[.agg Z,.agg #[I 14,I (q:Int)]]) ?_ rfl ⟨by rw [RR.out],F0.out⟩
      exact results_two rfl _ _ (w.heap.size+1) (w.heap.size+2) 65 37 Z #[I 14,I (q:Int)] _ _ rfl rfl F1.out F2.out Tryz.underlying65 rfl ZI.out Tryz.underlying37 rfl infoF
     | false =>
      have hlt2:¬ 2147483647≤x:=by simpa [full] using hx
      have HNN:=hJJ (HN2.out hx)
      clear HT HN2 UP HN hx
      go_wp2
      go_roundw
      case rel=>exact ⟨q+1,by omega,by go_num,HNN.out,HB6.out⟩
      case measure=>simp [intOf];omega
    ·obtain rfl:q=n:=by omega
     have HI2:Hid (i2 = -1):=hJJ (HE0.out (RFU2.out HN.out))
     have RS3:Hid (rf=if 0 < q∧wd < mw then (15,0) else (0,0)):=hJJ (by rw [RS2.out,HI1.out,HI2.out];rfl)
     have HF:Hid (Bks w [(m2,bcells wl el,65),(w.heap.size+2,#[I 0,I 0],37),(w.heap.size+1,Z,65),(w.heap.size,c.toArray,32)] wr):=hJJ (by
      have:=HB.out
      rwa [upTo_same EL.out hn4 (fun j h1 h2=>by rw [EA.out j h2,EF0.out j h1])] at this)
     have HM1:Hid (∀ u,Below wr.heap.size wr u→Calls Tryz.prog 61 #[.slice (some ⟨m2,0,none⟩) (8:Nat) 8] u fun e w'=>e=.returned (.int .i64 mw)∧u=w'):=hJJ (fun u hu=>HM.out (some ⟨m2,0,none⟩) u (by
      have:=row_A ((HF.out.step hu).blk (m2,bcells wl el,65) (by simp)) (by rw [WL.out];decide)
      rwa [WL.out] at this))
     have QR:Hid (∀ u,Below wr.heap.size wr u→u.cell? ⟨w.heap.size,114,none⟩=some (.slice ra q rcap)):=hJJ (fun u hu=>bks_cell (HF.out.step hu) (x:=(w.heap.size,c.toArray,32)) (by simp) C114.out)
     have QW:Hid (∀ u,Below wr.heap.size wr u→u.cell? ⟨w.heap.size,129,none⟩=some (I wd)):=hJJ (fun u hu=>bks_cell (HF.out.step hu) (x:=(w.heap.size,c.toArray,32)) (by simp) C129.out)
     have LB:Hid ((wl++el).length=12):=hJJ (by rw [List.length_append,WL.out,EL.out])
     have BL:Hid ((Tryz.prog.info? 65).map (·.size)=some ((wl++el).map I).length):=hJJ (by rw [List.length_map,LB.out];exact infoB)
     have BO:Hid (((wl++el).map I).toArray.all (·.oneCell')=true):=hJJ (by simp [Value.oneCell'])
     have BL12:Hid (((wl++el).map I).length=12):=hJJ (by rw [List.length_map,LB.out])
     have HFB:Hid (Bks w [(m2,((wl++el).map I).toArray,65),(w.heap.size+2,#[I 0,I 0],37),(w.heap.size+1,Z,65),(w.heap.size,c.toArray,32)] wr):=hJJ HF.out
     clear HB HN HF HM EC EA HE HE0 RFU2 RS2 HI1 HI2 LB
     generalize (wl++el).map I=bc at *
     go_upto_region 17 with fail
     clear q114
     by_cases hn:q=0
     ·have RR:=hJJ (RY.out (by rw [RS3.out,if_neg (by omega)]))
      subst hn
      clear RS3 RY RN
      refine wp_region_held (S:=fun w'=>Below wr.heap.size wr w') (by kernel_rfl) ?_
      have hS:Below wr.heap.size wr { wr with drawn:=wr.drawn+1 }:=(Below.refl _ _).drew
      generalize ({ wr with drawn:=wr.drawn+1 }:World)=v at hS ⊢
      refine tkZ 0 61 ?_ rfl ?_ hS ?_
      rotate_left
      ·intro w' hw'
       go_simp
       try with_reducible rfl
      (try dsimp only [Act.put]);(try simp only [zA,zB,zC])
      refine tkZ 1 62 ?_ rfl ?_ hS ?_
      rotate_left
      ·intro w' hw'
       have cf:=QR.out w' hw'
       go_simp
       try with_reducible rfl
      (try dsimp only [Act.put]);(try simp only [zA,zB,zC])
      refine tkZ 2 63 ?_ rfl ?_ hS ?_
      rotate_left
      ·intro w' hw'
       go_simp
       try with_reducible rfl
      (try dsimp only [Act.put]);(try simp only [zA,zB,zC])
      refine tkZ 3 64 (.bool false) rfl ?_ hS ?_
      ·intro w' hw'
       go_simp
       try with_reducible rfl
      (try dsimp only [Act.put]);(try simp only [zA,zB,zC])
      refine tkZ 4 65 (.bool false) rfl ?_ hS ?_
      ·intro w' hw'
       go_simp
       try with_reducible rfl
      (try dsimp only [Act.put]);(try simp only [zA,zB,zC])
      refine Held.take_skip (i:=5) (some 66) rfl rfl (by kernel_rfl) (by kernel_rfl) (by kernel_rfl) (fun _ _ _ h=>h) (by rfl) hS ?_
      (try dsimp only [Act.put]);(try simp only [zA,zB,zC])
      refine Held.take_skip (i:=6) (some 67) rfl rfl (by kernel_rfl) (by kernel_rfl) (by kernel_rfl) (fun _ _ _ h=>h) (by rfl) hS ?_
      (try dsimp only [Act.put]);(try simp only [zA,zB,zC])
      refine Held.take_skip (i:=7) (some 68) rfl rfl (by kernel_rfl) (by kernel_rfl) (by kernel_rfl) (fun _ _ _ h=>h) (by rfl) hS ?_
      (try dsimp only [Act.put]);(try simp only [zA,zB,zC])
      refine Held.take_skip (i:=8) (some 69) rfl rfl (by kernel_rfl) (by kernel_rfl) (by kernel_rfl) (fun _ _ _ h=>h) (by rfl) hS ?_
      (try dsimp only [Act.put]);(try simp only [zA,zB,zC])
      refine Held.take_skip (i:=9) (some 70) rfl rfl (by kernel_rfl) (by kernel_rfl) (by kernel_rfl) (fun _ _ _ h=>h) (by rfl) hS ?_
      (try dsimp only [Act.put]);(try simp only [zA,zB,zC])
      refine Held.take_skip (i:=10) (some 71) rfl rfl (by kernel_rfl) (by kernel_rfl) (by kernel_rfl) (fun _ _ _ h=>h) (by rfl) hS ?_
      (try dsimp only [Act.put]);(try simp only [zA,zB,zC])
      refine tkZ 11 72 ?_ rfl ?_ hS ?_
      rotate_left
      ·intro w' hw'
       go_simp
       try with_reducible rfl
      (try dsimp only [Act.put]);(try simp only [zA,zB,zC])
      refine wpAnyH_done (by kernel_rfl) ?_ _
      have HV:=hJJ (HFB.out.step hS)
      have HL:Hid (Lies v ⟨m2,0,none⟩ bc):=hJJ (by have:=bks_lies HV.out (x:=(m2,bc.toArray,65)) (by simp);simpa using this)
      clear hS
      go_upto_region 19 with fail
      have BF:=hJJ HV.out.bel
      have K1:Hid (v.heap[w.heap.size+1]?=some (.cells Z 65 (0,0))):=hJJ (HV.out.blk (w.heap.size+1,Z,65) (by simp))
      have K2:Hid (v.heap[w.heap.size+2]?=some (.cells #[I 0,I 0] 37 (0,0))):=hJJ (HV.out.blk (w.heap.size+2,#[I 0,I 0],37) (by simp))
      have E0:=hJJ (Same.below_setRow BF.out (g:=w.heap.size+1) (by omega) bc.toArray)
      have E1:=hJJ (setRow_heap v (w.heap.size+1) _ bc.toArray _ _ K1.out)
      have E2:Hid ((v.setRow (w.heap.size+1) bc.toArray).heap[w.heap.size+2]?=some (.cells #[I 0,I 0] 37 (0,0))):=hJJ ((setRow_other _ _ _ _ (by omega)).trans K2.out)
      have F0:=hJJ (Same.below_setRow E0.out (g:=w.heap.size+2) (by omega) #[I 0,I 0])
      have F2:=hJJ (setRow_heap (v.setRow (w.heap.size+1) bc.toArray) (w.heap.size+2) _ #[I 0,I 0] _ _ E2.out)
      have F1:Hid (((v.setRow (w.heap.size+1) bc.toArray).setRow (w.heap.size+2) #[I 0,I 0]).heap[w.heap.size+1]?=some (.cells bc.toArray 65 (0,0))):=hJJ ((setRow_other _ _ _ _ (by omega)).trans E1.out)
      go_wp2_with (first | (refine lgZ 65 ⟨m2,0,none⟩ bc rfl HL.out Tryz.underlying65 BL.out ?_) | (refine wpList_store_row rfl 65 _ _ rfl (w.heap.size+1) bc.toArray rfl rfl 65 _ K1.out (by rw [List.size_toArray];exact BL.out) (by rw [Z12.out,List.size_toArray,BL12.out]) BO.out ?_) | (refine wpList_store_row rfl 37 _ _ rfl (w.heap.size+2) #[I 0,I 0] rfl rfl 37 _ E2.out infoF rfl (by simp [Value.oneCell']) ?_))
      generalize (v.setRow (w.heap.size+1) bc.toArray).setRow (w.heap.size+2) #[I 0,I 0]=v3 at F0 F1 F2 ⊢
      (try go_wp2_with fail)
      (try simp only [Exit.inBlock,Exit.then])
      refine bodyPost_ret (v:=.tuple #[.agg bc.toArray,.agg #[I 0,I 0]]) ?_ rfl ⟨by rw [RR.out],F0.out⟩
      exact results_two rfl _ _ (w.heap.size+1) (w.heap.size+2) 65 37 bc.toArray #[I 0,I 0] _ _ rfl rfl F1.out F2.out Tryz.underlying65 rfl (by rw [List.size_toArray];exact BL.out) Tryz.underlying37 rfl infoF
     ·have NP:=hJJ (Nat.pos_of_ne_zero hn)
      clear hn
      refine wp_region_held (S:=fun w'=>Below wr.heap.size wr w') (by kernel_rfl) ?_
      have hS:Below wr.heap.size wr { wr with drawn:=wr.drawn+1 }:=(Below.refl _ _).drew
      generalize ({ wr with drawn:=wr.drawn+1 }:World)=v at hS ⊢
      refine tkZ 0 61 ?_ rfl ?_ hS ?_
      rotate_left
      ·intro w' hw'
       go_simp
       try with_reducible rfl
      (try dsimp only [Act.put]);(try simp only [zA,zB,zC])
      refine tkZ 1 62 ?_ rfl ?_ hS ?_
      rotate_left
      ·intro w' hw'
       have cf:=QR.out w' hw'
       go_simp
       try with_reducible rfl
      (try dsimp only [Act.put]);(try simp only [zA,zB,zC])
      refine tkZ 2 63 ?_ rfl ?_ hS ?_
      rotate_left
      ·intro w' hw'
       go_simp
       try with_reducible rfl
      (try dsimp only [Act.put]);(try simp only [zA,zB,zC])
      refine tkZ 3 64 (.bool true) rfl ?_ hS ?_
      ·intro w' hw'
       have cf:=NP.out
       go_simp
       try omega
       try with_reducible rfl
      (try dsimp only [Act.put]);(try simp only [zA,zB,zC])
      refine tkZ 4 65 (.bool true) rfl ?_ hS ?_
      ·intro w' hw'
       go_simp
       try with_reducible rfl
      (try dsimp only [Act.put]);(try simp only [zA,zB,zC])
      refine tkZ 5 66 ?_ rfl ?_ hS ?_
      rotate_left
      ·intro w' hw'
       go_simp
       try with_reducible rfl
      (try dsimp only [Act.put]);(try simp only [zA,zB,zC])
      refine tkZ 6 67 ?_ rfl ?_ hS ?_
      rotate_left
      ·intro w' hw'
       have cf:=QW.out w' hw'
       go_simp
       try with_reducible rfl
      (try dsimp only [Act.put]);(try simp only [zA,zB,zC])
      refine tkZ 7 68 ?_ rfl ?_ hS ?_
      rotate_left
      ·intro w' hw'
       go_simp
       try with_reducible rfl
      (try dsimp only [Act.put]);(try simp only [zA,zB,zC])
      refine tkZ 8 69 ?_ rfl ?_ hS ?_
      rotate_left
      ·intro w' hw'
       go_simp
       try with_reducible rfl
      (try dsimp only [Act.put]);(try simp only [zA,zB,zC])
      refine rdZ 9 rfl (fun K hK=>?_)
      go_simp
      refine (HM1.out _ hS).mono ?_
      rintro e w' ⟨rfl,rfl⟩
      go_simp
      refine hK.out _ _ hS (fun hS=>?_)
      clear hK K
      refine tkZ 10 71 (.bool (decide (wd < mw))) rfl ?_ hS ?_
      ·intro w' hw'
       go_simp
       try with_reducible rfl
      (try dsimp only [Act.put]);(try simp only [zA,zB,zC])
      refine tkZ 11 72 ?_ rfl ?_ hS ?_
      rotate_left
      ·intro w' hw'
       go_simp
       try with_reducible rfl
      (try dsimp only [Act.put]);(try simp only [zA,zB,zC])
      refine wpAnyH_done (by kernel_rfl) ?_ _
      by_cases hw:wd < mw
      ·have RR:=hJJ (RN.out (15,0) (by rw [RS3.out,if_pos ⟨NP.out,hw⟩]) (by simp))
       have HV:=hJJ (HFB.out.step hS)
       clear RS3 RY RN hS
       go_upto_region 18 with fail
       clear hw
       have BF:=hJJ HV.out.bel
       have K1:Hid (v.heap[w.heap.size+1]?=some (.cells Z 65 (0,0))):=hJJ (HV.out.blk (w.heap.size+1,Z,65) (by simp))
       have K2:Hid (v.heap[w.heap.size+2]?=some (.cells #[I 0,I 0] 37 (0,0))):=hJJ (HV.out.blk (w.heap.size+2,#[I 0,I 0],37) (by simp))
       have E0:=hJJ (Same.below_setRow BF.out (g:=w.heap.size+1) (by omega) Z)
       have E1:=hJJ (setRow_heap v (w.heap.size+1) _ Z _ _ K1.out)
       have E2:Hid ((v.setRow (w.heap.size+1) Z).heap[w.heap.size+2]?=some (.cells #[I 0,I 0] 37 (0,0))):=hJJ ((setRow_other _ _ _ _ (by omega)).trans K2.out)
       have F0:=hJJ (Same.below_setRow E0.out (g:=w.heap.size+2) (by omega) #[I 15,I 0])
       have F2:=hJJ (setRow_heap (v.setRow (w.heap.size+1) Z) (w.heap.size+2) _ #[I 15,I 0] _ _ E2.out)
       have F1:Hid (((v.setRow (w.heap.size+1) Z).setRow (w.heap.size+2) #[I 15,I 0]).heap[w.heap.size+1]?=some (.cells Z 65 (0,0))):=hJJ ((setRow_other _ _ _ _ (by omega)).trans E1.out)
       go_wp2_with (first | (refine wpList_build0 rfl 65 rfl Z BZ.out ?_) | (refine wpList_store_row rfl 65 _ _ rfl (w.heap.size+1) Z rfl rfl 65 _ K1.out ZI.out rfl ZO.out ?_) | (refine wpList_store_row rfl 37 _ _ rfl (w.heap.size+2) #[I 15,I 0] rfl rfl 37 _ E2.out infoF rfl (by simp [Value.oneCell']) ?_))
       generalize (v.setRow (w.heap.size+1) Z).setRow (w.heap.size+2) #[I 15,I 0]=v3 at F0 F1 F2 ⊢
       (try go_wp2_with fail)
       (try simp only [Exit.inBlock,Exit.then])
       refine bodyPost_ret (v:=.tuple #[.agg Z,.agg #[I 15,I 0]]) ?_ rfl ⟨by rw [RR.out],F0.out⟩
       exact results_two rfl _ _ (w.heap.size+1) (w.heap.size+2) 65 37 Z #[I 15,I 0] _ _ rfl rfl F1.out F2.out Tryz.underlying65 rfl ZI.out Tryz.underlying37 rfl infoF
      ·have RR:=hJJ (RY.out (by rw [RS3.out,if_neg (fun e=>hw e.2)]))
       clear RS3 RY RN
       have HV:=hJJ (HFB.out.step hS)
       have HL:Hid (Lies v ⟨m2,0,none⟩ bc):=hJJ (by have:=bks_lies HV.out (x:=(m2,bc.toArray,65)) (by simp);simpa using this)
       clear hS
       go_upto_region 19 with fail
       clear hw
       have BF:=hJJ HV.out.bel
       have K1:Hid (v.heap[w.heap.size+1]?=some (.cells Z 65 (0,0))):=hJJ (HV.out.blk (w.heap.size+1,Z,65) (by simp))
       have K2:Hid (v.heap[w.heap.size+2]?=some (.cells #[I 0,I 0] 37 (0,0))):=hJJ (HV.out.blk (w.heap.size+2,#[I 0,I 0],37) (by simp))
       have E0:=hJJ (Same.below_setRow BF.out (g:=w.heap.size+1) (by omega) bc.toArray)
       have E1:=hJJ (setRow_heap v (w.heap.size+1) _ bc.toArray _ _ K1.out)
       have E2:Hid ((v.setRow (w.heap.size+1) bc.toArray).heap[w.heap.size+2]?=some (.cells #[I 0,I 0] 37 (0,0))):=hJJ ((setRow_other _ _ _ _ (by omega)).trans K2.out)
       have F0:=hJJ (Same.below_setRow E0.out (g:=w.heap.size+2) (by omega) #[I 0,I 0])
       have F2:=hJJ (setRow_heap (v.setRow (w.heap.size+1) bc.toArray) (w.heap.size+2) _ #[I 0,I 0] _ _ E2.out)
       have F1:Hid (((v.setRow (w.heap.size+1) bc.toArray).setRow (w.heap.size+2) #[I 0,I 0]).heap[w.heap.size+1]?=some (.cells bc.toArray 65 (0,0))):=hJJ ((setRow_other _ _ _ _ (by omega)).trans E1.out)
       go_wp2_with (first | (refine lgZ 65 ⟨m2,0,none⟩ bc rfl HL.out Tryz.underlying65 BL.out ?_) | (refine wpList_store_row rfl 65 _ _ rfl (w.heap.size+1) bc.toArray rfl rfl 65 _ K1.out (by rw [List.size_toArray];exact BL.out) (by rw [Z12.out,List.size_toArray,BL12.out]) BO.out ?_) | (refine wpList_store_row rfl 37 _ _ rfl (w.heap.size+2) #[I 0,I 0] rfl rfl 37 _ E2.out infoF rfl (by simp [Value.oneCell']) ?_))
       generalize (v.setRow (w.heap.size+1) bc.toArray).setRow (w.heap.size+2) #[I 0,I 0]=v3 at F0 F1 F2 ⊢
       (try go_wp2_with fail)
       (try simp only [Exit.inBlock,Exit.then])
       refine bodyPost_ret (v:=.tuple #[.agg bc.toArray,.agg #[I 0,I 0]]) ?_ rfl ⟨by rw [RR.out],F0.out⟩
       exact results_two rfl _ _ (w.heap.size+1) (w.heap.size+2) 65 37 bc.toArray #[I 0,I 0] _ _ rfl rfl F1.out F2.out Tryz.underlying65 rfl (by rw [List.size_toArray];exact BL.out) Tryz.underlying37 rfl infoF
end BdR
end Go.Proofs.YtjolhoilcibdfaaGreat
