/- 10 texts in one file, in build order. -/
import Derived.Test.YtjolhoilcibdfaaGreatPart01
import Derived.Test.YtjolhoilcibdfaaGreatRows
import Derived.Test.YtjolhoilcibdfaaGreatPart07
import Derived.Test.YtjolhoilcibdfaaGreatPart05
import Derived.Test.YtjolhoilcibdfaaGreatPart02
import Derived.Deep.Cut
import Derived.Test.YtjolhoilcibdfaaGreatPart03
import Derived.Laws.ResultCell
import Derived.Laws.Rows
import Derived.Test.YtjolhoilcibdfaaGreatPart04
set_option linter.unusedVariables false
set_option linter.unusedSimpArgs false
set_option linter.unusedSectionVars false
set_option maxHeartbeats 8000000
set_option maxRecDepth 100000
namespace Go.Proofs.YtjolhoilcibdfaaGreat
namespace PlanC
open Zip
open Go.ChangeShapes Go.WideShapes Go.ChangeAt Go.RowKit
open Tab PlaceM PlanM
open May (ret_bool chain infoP infoG St phases_in)
open SetP (of_any has_any)
open Same (below_setRow)
theorem ret_int {k:IntKind} {a b:Int} (h:a=b):Ending.returned (.int k a)=.returned (.int k b):=by rw [h]
theorem infoZ:(Tryz.prog.info? 41).map (fun i=>(i.zero,i.size))=some (some (.agg #[.slice none 0 0,.slice none 0 0]),2):=by kernel_rfl
theorem infoT:(Tryz.prog.info? 32).map (·.size)=some 131:=by kernel_rfl
theorem info2:(Tryz.prog.info? 41).map (·.size)=some 2:=by kernel_rfl
theorem idx0 (v0 v1:Value) (w:World):Sem.run Tryz.prog (Instr.index 41 (.agg #[v0,v1]) (.int .i64 0)) w=.ok v0 w:=by kernel_rfl
theorem idx1 (v0 v1:Value) (w:World):Sem.run Tryz.prog (Instr.index 41 (.agg #[v0,v1]) (.int .i64 1)) w=.ok v1 w:=by kernel_rfl
theorem row_of_int {w:World} {a:Option Addr} {cap:Nat} {L:List Int} (h:IntRow w ⟨a,cap⟩ L):RefS.Row w a L:=by
 have hl:=h.len
 refine ⟨by omega,?_⟩
 by_cases h0:L=[]
 ·exact .inl h0
 ·have hp:0 < L.length:=List.length_pos_iff.2 h0
  obtain ⟨x,hx,_⟩:=IntRow.at h (List.getElem?_eq_getElem hp)
  refine .inr ⟨x,hx,fun i hi=>?_⟩
  obtain ⟨y,hy,hc⟩:=IntRow.at h (List.getElem?_eq_getElem hi)
  obtain rfl:x=y:=Option.some.inj (hx.symm.trans hy)
  rw [hc,List.getD_eq_getElem?_getD,List.getElem?_eq_getElem hi]
  rfl
theorem hasGroup_any (T:Tab) (h:Hd) (g:Int) (w:World) (ht:IsTab w h T) :
  Calls Tryz.prog 147 #[.agg (T.cells h).toArray,.int .i64 g] w fun e w'=>e=.returned (.bool (decide (0≤g∧g < T.groups.length)))∧Below w.heap.size w w':=by
 have C:=hJJ (cells_ok ht)
 generalize (T.cells h).toArray=cs at C ⊢
 have hsz:=C.out.size
 have S0:=hJJ (St.box (cs:=cs) ht)
 clear ht
 have q104:=S0.out.cell C.out.g
 generalize hr:decide (0≤g∧g < T.groups.length)=r
 have HR:=hJJ hr
 clear hr
 generalize T.groups.length=n at *
 have Q104:=hJJ q104
 clear q104
 go_enter Tryz.func147,Tryz.ntmps147
 go_upto_region 1 with fail
 generalize w.alloc (.cells cs 32)=w1 at S0 Q104 ⊢
 clear hsz
 have q104:=Q104.out
 by_cases h0:0≤g
 ·by_cases h1:g < n
  ·go_wp2
   go_ret
   exact ⟨ret_bool (by rw [← HR.out];simp [h0,h1]),S0.out.bel⟩
  ·go_wp2
   go_ret
   exact ⟨ret_bool (by rw [← HR.out];simp [h0,h1]),S0.out.bel⟩
 ·go_wp2
  go_ret
  exact ⟨ret_bool (by rw [← HR.out];symm;rw [decide_eq_false_iff_not];omega),S0.out.bel⟩
def Pair (w:World) (y:List Int × List Int) (s0 s1:Sl):Prop:=IntRow w s0 y.1∧IntRow w s1 y.2
theorem rowsOf_any (T:Tab) (h:Hd) (g:Int) (w:World) (ht:IsTab w h T) :
  Calls Tryz.prog 140 #[.agg (T.cells h).toArray,.int .i64 g] w fun e w'=>∃ s0 s1:Sl,e=.returned (.agg #[s0.val (rowsAt T g).1.length,s1.val (rowsAt T g).2.length])∧Pair w' (rowsAt T g) s0 s1∧Below w.heap.size w w':=by
 have hsz:=(cells_ok ht).size
 have C:=hJJ (cells_ok ht)
 have IA:Hid ((Tryz.prog.info? 32).map (·.size)=some (T.cells h).length):=hJJ (by rw [List.size_toArray] at hsz;rw [hsz];exact infoT)
 have HG:Hid (∀ W,Below w.heap.size w W→Calls Tryz.prog 147 #[.agg (T.cells h).toArray,.int .i64 g] W fun e w'=>e=.returned (.bool (decide (0≤g∧g < T.groups.length)))∧Below W.heap.size W w'):=hJJ (fun W hb=>hasGroup_any T h g W (ht.below hb))
 obtain ⟨gs,hgd,hgr⟩:=ht.groups
 have Hgr:=hJJ hgr
 have Hgd:=hJJ hgd
 have Hgl:=hJJ (show T.groups.length=gs.length by rw [← hgd,List.length_map])
 have Kg:=hgr.1.len
 unfold maxLen at Kg
 have A0:Hid (Below w.heap.size w ((w.alloc (.cells (T.cells h).toArray 32)).alloc (.cells #[.slice none 0 0,.slice none 0 0] 41))):=hJJ (((Below.refl _ _).alloc (Nat.le_refl _) _).alloc (by simp) _)
 have A1:Hid (((w.alloc (.cells (T.cells h).toArray 32)).alloc (.cells #[.slice none 0 0,.slice none 0 0] 41)).heap[w.heap.size]?=some (.cells (T.cells h).toArray 32 (0,0))):=hJJ (heap_alloc2_old w _ _)
 have A2:Hid (((w.alloc (.cells (T.cells h).toArray 32)).alloc (.cells #[.slice none 0 0,.slice none 0 0] 41)).heap[w.heap.size+1]?=some (.cells #[.slice none 0 0,.slice none 0 0] 41 (0,0))):=hJJ (heap_alloc2_new w _ _)
 have hz:=(zero_of_info infoZ).1
 clear ht hgr hgd
 generalize T.cells h=c at *
 go_enter Tryz.func140,Tryz.ntmps140
 go_upto_region 1 with fail
 generalize ((w.alloc (.cells c.toArray 32)).alloc (.cells #[.slice none 0 0,.slice none 0 0] 41))=u at A0 A1 A2 ⊢
 clear hsz hz
 have LT:Hid (Lies u ⟨w.heap.size,0,none⟩ c):=hJJ (by have:=Row.lies_of_block A1.out;simpa using this)
 go_wp2_with (refine lgZ 32 ⟨w.heap.size,0,none⟩ c rfl LT.out Tryz.underlying32 IA.out ?_)
 refine (HG.out _ A0.out).mono ?_
 rintro e u1 ⟨rfl,hb⟩
 have B0:Hid (Below w.heap.size w u1):=hJJ (A0.out.trans (hb.mono A0.out.size))
 have B1:Hid (u1.heap[w.heap.size]?=some (.cells c.toArray 32 (0,0))):=hJJ ((hb.block _ (Array.getElem?_eq_some_iff.1 A1.out).1).trans A1.out)
 have B2:Hid (u1.heap[w.heap.size+1]?=some (.cells #[.slice none 0 0,.slice none 0 0] 41 (0,0))):=hJJ ((hb.block _ (Array.getElem?_eq_some_iff.1 A2.out).1).trans A2.out)
 clear hb A0 A1 A2 LT HG
 by_cases hg:0≤g∧g < T.groups.length
 ·rw [decide_eq_true hg]
  obtain ⟨g0,g1⟩:=hg
  obtain ⟨q,rfl⟩:=Int.eq_ofNat_of_zero_le g0
  have hlt:q < gs.length:=by have:=Hgl.out;omega
  have hv:=List.getElem?_eq_getElem hlt
  generalize gs[q]=v at hv
  have HR:Hid (rowsAt T q=v.data):=hJJ (rows_in (by rw [← Hgd.out,List.getElem?_map,hv];rfl))
  obtain ⟨x,hx,hc⟩:=(Hgr.out.1.below B0.out).at hv
  have hok:=(Hgr.out.2 v (List.mem_of_getElem? hv)).below B0.out
  have q104:u1.cell? ⟨w.heap.size,104,none⟩=some (.slice (some x) gs.length h.g.cap):=by
   rw [cell_of_row _ _ _ _ _ _ B1.out,C.out.g,Hgl.out];simp only [Sl.val,hx]
  have HC:=hJJ hc
  have HM:=hJJ (List.mem_of_getElem? hv)
  have HW:=hJJ (below_setRow B0.out (g:=w.heap.size+1) (by omega) v.cells.toArray)
  have HK:=hJJ (setRow_heap u1 (w.heap.size+1) _ v.cells.toArray _ _ B2.out)
  have V1:Hid (v.cells.toArray.all (·.oneCell')=true):=hJJ (Gr.one v)
  clear hv hc hok hx g1
  go_wp2_with (first | (refine Row.wpList_load_g 41 _ rfl (by first | rfl | go_simp) (x.add (q*2)) rfl v.cells _ HC.out Tryz.underlying41 rfl info2 ?_) | (refine wpList_store_row rfl 41 _ _ rfl (w.heap.size+1) v.cells.toArray rfl rfl 41 _ B2.out info2 rfl V1.out ?_))
  have HO2:Hid (v.ok (u1.setRow (w.heap.size+1) v.cells.toArray)):=hJJ ((Hgr.out.2 v HM.out).below HW.out)
  generalize u1.setRow (w.heap.size+1) v.cells.toArray=u2 at HW HK HO2 ⊢
  go_wp2_with fail
  (try simp only [Exit.inBlock,Exit.then])
  refine bodyPost_ret (v:=.agg v.cells.toArray) ?_ rfl ⟨v.s0,v.s1,by rw [HR.out];rfl,by rw [HR.out];exact HO2.out,HW.out⟩
  exact results_cell_row rfl _ _ (w.heap.size+1) 41 _ (0,0) _ rfl HK.out Tryz.underlying41 rfl info2
 ·rw [decide_eq_false hg]
  have HR:Hid (rowsAt T g=([],[])):=hJJ (rows_out hg)
  have HW:=hJJ (below_setRow B0.out (g:=w.heap.size+1) (by omega) #[.slice none 0 0,.slice none 0 0])
  have HK:=hJJ (setRow_heap u1 (w.heap.size+1) _ #[.slice none 0 0,.slice none 0 0] _ _ B2.out)
  clear hg
  go_wp2_with (first | (refine wpList_store_row rfl 41 _ _ rfl (w.heap.size+1) #[.slice none 0 0,.slice none 0 0] rfl rfl 41 _ B2.out info2 rfl (by simp [Value.oneCell']) ?_))
  generalize u1.setRow (w.heap.size+1) #[.slice none 0 0,.slice none 0 0]=u2 at HW HK ⊢
  go_wp2_with fail
  (try simp only [Exit.inBlock,Exit.then])
  refine bodyPost_ret (v:=.agg #[.slice none 0 0,.slice none 0 0]) ?_ rfl ⟨⟨none,0⟩,⟨none,0⟩,by rw [HR.out];rfl,by rw [HR.out];exact ⟨RowOf.nil _,RowOf.nil _⟩,HW.out⟩
  exact results_cell_row rfl _ _ (w.heap.size+1) 41 _ (0,0) _ rfl HK.out Tryz.underlying41 rfl info2
theorem of_len (a:Option Addr) (cap:Nat) (l:List Int) (w:World) (h:IntRow w ⟨a,cap⟩ l):Calls Tryz.prog 100 #[.slice a l.length cap] w fun e w'=>e=.returned (.int .i64 (SetM.of l:Nat))∧w=w':=of_any a cap l w (row_of_int h)
theorem or0 (m:Nat) (h:m < 256):bits .or .i64 0 (m:Int)=(m:Int):=by
 have:=RefS.or_small 0 m (by decide) h
 simpa using this
theorem members_any (T:Tab) (h:Hd) (g:Int) (w:World) (ht:IsTab w h T) :
  Calls Tryz.prog 111 #[.agg (T.cells h).toArray,.int .i64 g] w fun e w'=>e=.returned (.int .i64 (membS T g:Nat))∧Below w.heap.size w w':=by
 have hsz:=(cells_ok ht).size
 have C:=hJJ (cells_ok ht)
 have IA:Hid ((Tryz.prog.info? 32).map (·.size)=some (T.cells h).length):=hJJ (by rw [List.size_toArray] at hsz;rw [hsz];exact infoT)
 have RO:Hid (∀ W,Below w.heap.size w W→Calls Tryz.prog 140 #[.agg (T.cells h).toArray,.int .i64 g] W fun e w'=>∃ s0 s1:Sl,e=.returned (.agg #[s0.val (rowsAt T g).1.length,s1.val (rowsAt T g).2.length])∧Pair w' (rowsAt T g) s0 s1∧Below W.heap.size W w'):=hJJ (fun W hb=>rowsOf_any T h g W (ht.below hb))
 have A0:Hid (Below w.heap.size w (w.alloc (.cells (T.cells h).toArray 32))):=hJJ ((Below.refl _ _).alloc (Nat.le_refl _) _)
 have A1:Hid (Lies (w.alloc (.cells (T.cells h).toArray 32)) ⟨w.heap.size,0,none⟩ (T.cells h)):=hJJ (Row.lies_new w _ _)
 have MS:Hid (membS T g=SetM.of (rowsAt T g).1 ||| SetM.of (rowsAt T g).2):=hJJ rfl
 generalize membS T g=m at MS ⊢
 generalize rowsAt T g=y at MS RO
 obtain ⟨l0,l1⟩:=y
 clear ht
 generalize T.cells h=c at *
 go_enter Tryz.func111,Tryz.ntmps111
 go_upto_region 1 with fail
 generalize w.alloc (.cells c.toArray 32)=u at A0 A1 ⊢
 clear hsz
 go_wp2_with (refine lgZ 32 ⟨w.heap.size,0,none⟩ c rfl A1.out Tryz.underlying32 IA.out ?_)
 refine (RO.out _ A0.out).mono ?_
 rintro e u1 ⟨⟨a0,cap0⟩,⟨a1,cap1⟩,rfl,hpair,hb⟩
 have B0:Hid (Below w.heap.size w u1):=hJJ (A0.out.trans (hb.mono A0.out.size))
 have HP:=hJJ hpair
 clear hb A0 A1 RO hpair IA
 rw [show (Value.agg #[Sl.val ⟨a0,cap0⟩ (l0,l1).fst.length,Sl.val ⟨a1,cap1⟩ (l0,l1).snd.length])=.agg #[.slice a0 l0.length cap0,.slice a1 l1.length cap1] from rfl]
 have i0:=idx0 (.slice a0 l0.length cap0) (.slice a1 l1.length cap1)
 have i1:=idx1 (.slice a0 l0.length cap0) (.slice a1 l1.length cap1)
 have I0:=hJJ i0
 have I1:=hJJ i1
 clear i0 i1
 go_wp2_with fail
 go_loopw [5,11] (fun t i wr=>∃ r:Nat,r≤2∧i=.int .i64 r∧t=.int .i64 ((if r=0 then 0 else if r=1 then SetM.of l0 else m:Nat):Int)∧wr=u1) (fun _ i _=>2 - (intOf i).toNat)
 case atStart=>exact ⟨0,by omega,rfl,rfl,rfl⟩
 case round =>
  obtain ⟨r,hr,rfl,rfl,rfl⟩:=hrel
  have hr2:r=0∨r=1∨r=2:=by omega
  rcases hr2 with rfl | rfl | rfl
  ·rw [show ((0:Nat):Int)=(0:Int) from rfl]
   have i0:=I0.out
   have HS:=hJJ (or0 (SetM.of l0) (SetM.of_lt l0))
   simp only [if_true]
   go_wp2_with fail
   refine (of_len a0 cap0 l0 _ HP.out.1).mono ?_
   rintro e w' ⟨rfl,rfl⟩
   generalize hs:SetM.of l0=s at HS MS ⊢
   have HQ:=hJJ hs
   clear hs
   go_wp2
   go_roundw
   case rel=>exact ⟨1,by omega,by go_num,by rw [HS.out,← HQ.out];rfl,trivial⟩
   case measure=>simp [intOf]
  ·rw [show ((1:Nat):Int)=(1:Int) from rfl]
   have i1:=I1.out
   have HS:Hid (bits .or .i64 (SetM.of l0:Nat) (SetM.of l1:Nat)=(m:Nat)):=hJJ (by rw [RefS.or_small _ _ (SetM.of_lt _) (SetM.of_lt _),MS.out])
   simp only [Nat.one_ne_zero,if_false,if_true]
   go_wp2_with fail
   refine (of_len a1 cap1 l1 _ HP.out.2).mono ?_
   rintro e w' ⟨rfl,rfl⟩
   generalize SetM.of l0=s at HS MS ⊢
   generalize SetM.of l1=s' at HS MS ⊢
   go_wp2
   go_roundw
   case rel=>exact ⟨2,by omega,by go_num,by rw [HS.out];rfl,trivial⟩
   case measure=>simp [intOf]
  ·rw [show ((2:Nat):Int)=(2:Int) from rfl]
   simp only [show ¬ (2=0) by decide,show ¬ (2=1) by decide,if_false]
   go_wp2
   go_ret
   exact ⟨rfl,B0.out⟩
theorem infoPs:(Tryz.prog.info? 25).map (·.size)=some 104:=by kernel_rfl
theorem cellsP:Tryz.prog.cellsOf 24=13:=by kernel_rfl
theorem rowP:Flat.rowT Tryz.prog 24=true:=by kernel_rfl
theorem infoPz:∃ i,Tryz.prog.info? 24=some i∧i.size=13:=by
 have:=infoP
 cases h:Tryz.prog.info? 24 with
 | none=>rw [h] at this;simp at this
 | some i=>rw [h] at this;exact ⟨i,rfl,by simpa using this⟩
theorem flat_take:∀ {l:List Ph} {q:Nat} {u:Ph},l[q]?=some u→((l.flatMap Ph.cells).drop (q*13)).take 13=u.cells
 | [],q,u,h=>by simp at h
 | p :: l,0,u,h=>by
  obtain rfl:p=u:=by simpa using h
  rw [Nat.zero_mul,List.drop_zero,List.flatMap_cons]
  exact List.take_left' rfl
 | p :: l,q+1,u,h=>by
  rw [List.flatMap_cons,Nat.add_mul,Nat.one_mul,Nat.add_comm,List.drop_append,List.drop_of_length_le (by simp [Ph.cells]),List.nil_append,show 13+q*13 - p.cells.length=q*13 by simp [Ph.cells]]
  exact flat_take (by simpa using h)
theorem idx_phase {l:List Ph} {q:Nat} {u:Ph} (hl:l.length=8) (hu:l[q]?=some u) (w:World) :
  Sem.run Tryz.prog (Instr.index 25 (.agg (l.flatMap Ph.cells).toArray) (.int .i64 q)) w=.ok (.agg u.cells.toArray) w:=by
 have hq:q < l.length:=(List.getElem?_eq_some_iff.1 hu).1
 obtain ⟨i,hi,hs⟩:=infoPz
 have hp:=Flat.run_part (P:=Tryz.prog) w (t:=24) (d:=_) Tryz.underlying24 (by rw [rowP];simp) (l.flatMap Ph.cells) (q*13) (by rw [cellsP,phases_len];omega)
 rw [cellsP,Flat.vOf,if_pos rowP,flat_take hu] at hp
 unfold Instr.index
 have hc:0≤(q:Int)∧(q:Int) < 8:=by omega
 simp [run_underlying Tryz.underlying25,asIntOf]
 rw [if_pos (by omega)]
 first | exact hp | (rw [cellsP];exact hp)
theorem lies_take {w:World} {b:Nat} {cs:Array Value} {t:TypeId} {fr:Nat × Nat} (hb:w.heap[b]?=some (.cells cs t fr)) (n:Nat) (l:List Value) (h:cs.toList.take n=l):Lies w ⟨b,0,none⟩ l:=by
 intro j v hv
 rw [Addr.add_mid,Nat.zero_add,cell_of_row _ _ _ _ _ _ hb]
 subst h
 rw [List.getElem?_take] at hv
 split at hv
 ·rwa [Array.getElem?_toList] at hv
 ·cases hv
end PlanC
namespace PlanO
open Zip
open Go.ChangeShapes Go.WideShapes Go.ChangeAt Go.RowKit
open Tab PlaceM PlanM OnS PlanC
open May (infoP St)
open SetP (with_any)
theorem on_with {l:List Ph} {q:Nat} {p:Ph} (h:l[q]?=some p) (hp:p.on=true):SetM.withN (SetM.of (onTo 0 (l.take q)):Nat) q=SetM.of (onTo 0 (l.take (q+1))):=by
 rw [on_step h,hp,if_pos rfl,SetM.with_of]
theorem on_skip {l:List Ph} {q:Nat} {p:Ph} (h:l[q]?=some p) (hp:p.on=false):SetM.of (onTo 0 (l.take (q+1)))=SetM.of (onTo 0 (l.take q)):=by
 rw [on_step h,hp];simp
theorem pon_any (T:Tab) (h:Hd) (w:World) (ht:IsTab w h T) :
  Calls Tryz.prog 96 #[.agg (T.cells h).toArray] w fun e w'=>e=.returned (.int .i64 (onS T:Nat))∧Below w.heap.size w w':=by
 have C:=hJJ (cells_ok ht)
 generalize (T.cells h).toArray=cs at C ⊢
 have hsz:=C.out.size
 have L8:=hJJ ht.ph
 have S0:=hJJ (St.box (cs:=cs) ht)
 have RS:Hid ((onS T:Nat)=SetM.of (onTo 0 T.phases)):=hJJ rfl
 have IX:Hid (∀ (q:Nat) u,T.phases[q]?=some u→∀ W,Sem.run Tryz.prog (Instr.index 25 (.agg (T.phases.flatMap Ph.cells).toArray) (.int .i64 q)) W=.ok (.agg u.cells.toArray) W):=hJJ (fun q u hu W=>idx_phase L8.out hu W)
 have LI:Hid ((Tryz.prog.info? 25).map (·.size)=some (T.phases.flatMap Ph.cells).length):=hJJ (by rw [phases_len,L8.out];exact infoPs)
 generalize onS T=r at RS ⊢
 clear ht
 go_enter Tryz.func96,Tryz.ntmps96
 go_upto_region 1 with fail
 generalize w.alloc (.cells cs 32)=w1 at S0 ⊢
 clear hsz
 have LT:Hid (Lies w1 ⟨w.heap.size,0,none⟩ (T.phases.flatMap Ph.cells)):=hJJ (lies_take S0.out.blk 104 _ C.out.phases)
 generalize T.phases.flatMap Ph.cells=fl at IX LI LT
 go_wp2_with (refine lgZ 25 ⟨w.heap.size,0,none⟩ fl rfl LT.out Tryz.underlying25 LI.out ?_)
 go_loopw [3,8] (fun v g wr=>∃ q:Nat,q≤8∧g=.int .i64 q∧v=.int .i64 (SetM.of (onTo 0 (T.phases.take q)):Nat)∧Below w1.heap.size w1 wr) (fun _ g _=>8 - (intOf g).toNat)
 case atStart=>exact ⟨0,by omega,rfl,rfl,Below.refl _ _⟩
 case round =>
  obtain ⟨q,hq,rfl,rfl,hbel⟩:=hrel
  have HB:=hJJ hbel
  clear hbel
  by_cases hlt:q < 8
  ·have hv:T.phases[q]?=some (T.phases[q]'(by rw [L8.out];exact hlt)):=List.getElem?_eq_getElem _
   generalize T.phases[q]'(by rw [L8.out];exact hlt)=u at hv
   have HV:=hJJ hv
   have hidx:=IX.out q u hv
   clear hv
   have hsz:=HB.out.size
   go_upto_region 5 with (refine Row.wpList_store_new rfl 24 _ _ rfl wr _ u.cells.toArray rfl rfl rfl infoP rfl (Ph.one _) ?_)
   clear hidx
   have hbn:Below w1.heap.size w1 (wr.alloc (.cells u.cells.toArray 24)):=HB.out.alloc hsz _
   have hg:=Row.lies_of_block (heap_alloc_new wr (.cells u.cells.toArray 24))
   have HL:=hJJ hg
   have HN:=hJJ hbn
   clear hg hbn HB
   generalize wr.alloc (.cells u.cells.toArray 24)=w4 at HL HN ⊢
   generalize wr.heap.size=b4 at HL ⊢
   have c0:w4.cell? ⟨b4,0,none⟩=some (.bool u.on):=by
    have:=HL.out 0 _ rfl
    rwa [Tab.add_zero] at this
   cases hon:u.on with
   | true =>
    rw [hon] at c0
    have HS:=hJJ (on_with HV.out hon)
    clear hon
    generalize SetM.of (onTo 0 (T.phases.take q))=s0 at HS ⊢
    go_wp2_with (go_at_call 124;refine (with_any _ _ _).mono ?_;rintro e w' ⟨rfl,rfl⟩)
    go_roundw
    case rel=>exact ⟨q+1,by omega,by go_num,by rw [← HS.out],HN.out⟩
    case measure=>simp [intOf];omega
   | false =>
    rw [hon] at c0
    have HS:=hJJ (on_skip HV.out hon)
    clear hon
    generalize SetM.of (onTo 0 (T.phases.take q))=s0 at HS ⊢
    go_wp2
    go_roundw
    case rel=>exact ⟨q+1,by omega,by go_num,by rw [← HS.out],HN.out⟩
    case measure=>simp [intOf];omega
  ·have HE:Hid (SetM.of (onTo 0 (T.phases.take q))=r):=hJJ (by rw [RS.out,List.take_of_length_le (by rw [L8.out];omega)])
   have HF:Hid (Below w.heap.size w wr):=hJJ (S0.out.bel.trans (HB.out.mono S0.out.bel.size))
   generalize SetM.of (onTo 0 (T.phases.take q))=s0 at HE ⊢
   go_wp2
   go_ret
   exact ⟨ret_int (by rw [HE.out]),HF.out⟩
end PlanO
namespace ChkI
open Zip
open Go.RowKit Go.Shelf
open Tab PlaceM PlanM OnS ChkM Each Search
attribute [local go_sem] Oper.semAt_some
structure Bxd (T:Tab) (b:Nat) (W:World):Prop where
 cf:∀ p:Int,0≤p→p < 8→W.cell? ⟨b,105+p.toNat,none⟩=some (I (cfAt T p))
 fl:∀ p:Int,0≤p→p < 8→W.cell? ⟨b,121+p.toNat,none⟩=some (I (flAt T p))
theorem bxd_new {T:Tab} {h:Hd} {w:World} (ht:IsTab w h T):Bxd T w.heap.size (w.alloc (.cells (T.cells h).toArray 32)):=by
 have C:=cells_ok ht
 have hb:(w.alloc (.cells (T.cells h).toArray 32)).heap[w.heap.size]?=some (.cells (T.cells h).toArray 32 (0,0)):=heap_alloc_new w _
 constructor
 ·intro p h0 h8
  obtain ⟨k,rfl⟩:=Int.eq_ofNat_of_zero_le h0
  rw [cell_of_row _ _ _ _ _ _ hb]
  have hk:k < 8:=by omega
  have h1:=congrArg (·[k]?) C.conflict
  simp only [List.getElem?_take,List.getElem?_drop,List.getElem?_map] at h1
  rw [if_pos hk,Array.getElem?_toList] at h1
  rw [Int.toNat_natCast,h1,List.getElem?_eq_getElem (by rw [ht.cf];exact hk)]
  simp [cfAt,List.getD_eq_getElem?_getD,List.getElem?_eq_getElem (show k < T.conflict.length by rw [ht.cf];exact hk)]
 ·intro p h0 h8
  obtain ⟨k,rfl⟩:=Int.eq_ofNat_of_zero_le h0
  rw [cell_of_row _ _ _ _ _ _ hb]
  have hk:k < 8:=by omega
  have h1:=congrArg (·[k]?) C.flash
  simp only [List.getElem?_take,List.getElem?_drop,List.getElem?_map] at h1
  rw [if_pos hk,Array.getElem?_toList] at h1
  rw [Int.toNat_natCast,h1,List.getElem?_eq_getElem (by rw [ht.fl];exact hk)]
  simp [flAt,List.getD_eq_getElem?_getD,List.getElem?_eq_getElem (show k < T.flash.length by rw [ht.fl];exact hk)]
theorem Bxd.below {T:Tab} {b:Nat} {W W':World} (h:Bxd T b W) (hb:Below W.heap.size W W'):Bxd T b W' :=
 ⟨fun p h0 h8=>(hb.cell (World.block_lt_of_cell? W _ (h.cf p h0 h8))).trans (h.cf p h0 h8),fun p h0 h8=>(hb.cell (World.block_lt_of_cell? W _ (h.fl p h0 h8))).trans (h.fl p h0 h8)⟩
theorem laid4 (w:World) (o0 o1 o2 o3:Obj):∃ W,((((w.alloc o0).alloc o1).alloc o2).alloc o3)=W∧W.heap.size=w.heap.size+4∧Below w.heap.size w W∧Below (w.heap.size+1) (w.alloc o0) W∧W.heap[w.heap.size+1]?=some o1∧W.heap[w.heap.size+2]?=some o2∧W.heap[w.heap.size+3]?=some o3:=by
 refine ⟨_,rfl,by simp,(((((Below.refl _ w).alloc (Nat.le_refl _) _).alloc (by simp) _).alloc (by simp;omega) _).alloc (by simp;omega) _),?_,?_,?_,?_⟩
 ·have:=(((Below.refl (w.alloc o0).heap.size (w.alloc o0)).alloc (Nat.le_refl _) o1).alloc (by simp) o2).alloc (by simp;try omega) o3
  simpa using this
 ·have h1:=heap_alloc_new (w.alloc o0) o1
  have h2:=Below.heap_alloc ((w.alloc o0).alloc o1) o2 (w.heap.size+1) (by simp)
  have h3:=Below.heap_alloc (((w.alloc o0).alloc o1).alloc o2) o3 (w.heap.size+1) (by simp)
  rw [World.size_alloc] at h1
  exact h3.trans (h2.trans h1)
 ·have h1:=heap_alloc_new ((w.alloc o0).alloc o1) o2
  have h3:=Below.heap_alloc (((w.alloc o0).alloc o1).alloc o2) o3 (w.heap.size+2) (by simp)
  simp only [World.size_alloc] at h1
  exact h3.trans h1
 ·have h1:=heap_alloc_new (((w.alloc o0).alloc o1).alloc o2) o3
  simp only [World.size_alloc] at h1
  exact h1
theorem setRow_grown (W:World) (b:Nat) (cs:Array Value) (h:b < W.heap.size):W.grownBy (W.setRow b cs) (some b) :=
 ⟨rfl,rfl,rfl,by simp [World.setRow],fun j _ hj=>setRow_other _ _ _ _ (fun e=>hj (by rw [e]))⟩
theorem hmx:Tryz.prog.follows .mixedOrders=true:=by kernel_rfl
theorem clash_any (T:Tab) (h:Hd) (s:Int) (w:World) (ht:IsTab w h T) :
  Calls Tryz.prog 116 #[.agg (T.cells h).toArray,.int .i64 s] w fun e w'=>e=.returned (.bool (clashC T s))∧Below w.heap.size w w':=by
 have hsz:=(cells_ok ht).size
 have A0:Hid (Below w.heap.size w (w.alloc (.cells (T.cells h).toArray 32))):=hJJ ((Below.refl _ _).alloc (Nat.le_refl _) _)
 have BX:=hJJ (bxd_new ht)
 have hs1:(w.alloc (.cells (T.cells h).toArray 32)).heap.size=w.heap.size+1:=by simp
 clear ht
 generalize T.cells h=c at *
 refine (callsIn_wide (n:=3)).1 ?_
 refine callsIn_of_wp_marks Tryz.func116 rfl trivial ?_ rfl
 simp only [Tryz.ntmps116,List.size_toArray,List.length_cons,List.length_nil,Nat.reduceAdd,Nat.reduceSub,Array.replicate_succ,Array.replicate_zero,List.push_toArray,List.append_toArray,List.nil_append,List.cons_append]
 gi_wp2_with fail
 refine ⟨trivial,(Each.each_in _ _ _).mono ?_⟩
 rintro e w' ⟨rfl,rfl⟩
 gi_wp2_with fail
 obtain ⟨W0,hW0,E1,E0,EB,bS,bR,bE⟩:=laid4 w (.cells c.toArray 32) (.cells #[.int .i64 s] 3) (.cells #[.bool false] 4) (.cells #[.int .i64 s] 3)
 rw [hW0]
 have BX:=hJJ (BX.out.below (by rw [hs1];exact EB))
 clear hW0 EB hs1 hsz A0
 have bS:Boxed W0 (w.heap.size+1) 3 (.int .i64 s):=bS
 have bR:Boxed W0 (w.heap.size+2) 4 (.bool false):=bR
 have bE:Boxed W0 (w.heap.size+3) 3 (.int .i64 s):=bE
 refine search (fun p=>bits .and .i64 (cfAt T p) s != 0) (fun _=>.cells #[.bool true] 4 (0,0)) (w.heap.size+3) (w.heap.size+2) s (by omega) rfl rfl (by omega) (by omega) bE.cell
  (fun x=>{ tmps:=#[.agg c.toArray,.int .i64 s,.pointer (some ⟨w.heap.size,0,none⟩),.pointer (some ⟨w.heap.size+1,0,none⟩),.pointer (some ⟨w.heap.size+1+1,0,none⟩),.int .i64 x,.int .i64 s,.func (.func 127) #[] #[.pointer (some ⟨w.heap.size+1+1+1,0,none⟩)],.int .i64 x,undef,undef,undef,undef,undef,undef,undef],defers:=[] }) ?assign ?body ?done ?stop
 case assign =>
  intro l x W K hK
  gi_wp2
  exact hK
 case body =>
  intro l x W hx hB
  have hx8:=SetM.list_bd s x hx
  have cc:=(BX.out.below hB).cf x hx8.1 hx8.2
  have cS:=(Boxed.cell (show Boxed W (w.heap.size+1) 3 (.int .i64 s) from (hB.block _ (by omega)).trans bS))
  have hne:Nonempty (Ph.S (Row.Old W)):=⟨⟨0,W,Below.refl _ _⟩⟩
  obtain ⟨k,rfl⟩:=Int.eq_ofNat_of_zero_le hx8.1
  rw [Int.toNat_natCast] at cc
  have CC:∀ p:Ph.S (Row.Old W),p.world.cell? ⟨w.heap.size,105+k,none⟩=some (I (cfAt T k)):=fun p=>(p.is.cell (World.block_lt_of_cell? W _ cc)).trans cc
  have CS:∀ p:Ph.S (Row.Old W),p.world.cell? ⟨w.heap.size+1,0,none⟩=some (.int .i64 s):=fun p=>(p.is.cell (World.block_lt_of_cell? W _ cS)).trans cS
  have hk8:k < 8:=by omega
  gi_wp2
  refine Up.region_ph (Row.Old W) [] (fun ⟨_,_,h⟩=>h) (by kernel_rfl) hmx (by kernel_rfl) (Row.Old.drew _) ?_
  iterate 7
   (refine Pw.calm rfl (fun K hK=>?_)
    go_simp
    refine hK _ ?_
    clear hK K)
  refine Pw.nil ?_
  intro W1 hb1
  have hv:Boxed W1 (w.heap.size+1+1) 4 (.bool false):=(hb1.block _ (by have:=hB.size;omega)).trans ((hB.block _ (by omega)).trans bR)
  have hc:=hv.cell
  have hf:=hv.frozen
  clear CC CS cc cS hne BX hB
  generalize hg:(bits BinOp.and IntKind.i64 (cfAt T k) s != 0)=r
  cases r with
  | true =>
   have HG:=hJJ hg
   clear hg
   gi_wp2
   exact ⟨HG.out,grown_trans (grown_of_below hb1) (grownBy_setCell' _ _ _),hv.set (.bool true)⟩
  | false =>
   have HG:=hJJ hg
   clear hg
   gi_wp2
   exact ⟨HG.out,hb1⟩
 case done =>
  intro D W hD hall hB hK
  have hv:Boxed W (w.heap.size+1+1) 4 (.bool false):=(hB.block _ (by omega)).trans bR
  have hc:=hv.cell
  have hf:=hv.frozen
  have HR:Hid (clashC T s=false):=hJJ (by unfold clashC;rw [List.any_eq_false];intro x hx;simpa using hall x hx)
  have HB:Hid (Below w.heap.size w W):=hJJ (E0.trans (hB.mono (by omega)))
  clear hB hall
  gi_wp2
  have hv2:=hv.set (.bool false)
  have hK':=(KeepsOthers.setCell W ⟨w.heap.size+1+1,0,none⟩ (.bool false)).same D _ hK rfl
  refine ⟨by simp,.inl ⟨_,_,rfl,run_takeDeferred hK',?_⟩⟩
  have hc5:=cell_kept hv2.cell (grownBy_putObj' _ D (.deferred none)) (fun r e=>by cases e;exact ⟨_,hK',rfl⟩)
  refine ⟨.bool false,?_,by rw [HR.out],(HB.out.setCell (p:=⟨w.heap.size+1+1,0,none⟩) (by simp;try omega) _).trans (belowK_b (w:=w) (Nat.le_refl _) _ D _ _ (by omega) hK' rfl rfl)⟩
  simp [results,Tryz.f116,go_sem,hc5]
 case stop =>
  intro D x W hD hf hx hg hR hK
  have HR:Hid (clashC T s=true):=hJJ (by unfold clashC;rw [List.any_eq_true];exact ⟨x,List.mem_of_find?_eq_some hf,hx⟩)
  have hv:Boxed W (w.heap.size+1+1) 4 (.bool true):=hR
  have HB:Hid (Below w.heap.size w W):=hJJ (E0.grown hg (by omega) (fun k e=>by cases e;omega))
  clear hf hx hg
  gi_wp2
  refine ⟨by simp,.inl ⟨_,_,rfl,run_takeDeferred hK,?_⟩⟩
  have hc5:=cell_kept hv.cell (grownBy_putObj' _ D (.deferred none)) (fun r e=>by cases e;exact ⟨_,hK,rfl⟩)
  refine ⟨.bool true,?_,by rw [HR.out],HB.out.trans (belowK_b (w:=w) (Nat.le_refl _) W D _ _ (by omega) hK rfl rfl)⟩
  simp [results,Tryz.f116,go_sem,hc5]
end ChkI
namespace ChkJ
open Zip
open Go.RowKit Go.Shelf
open Tab PlaceM PlanM OnS ChkM Each Search ChkI
open May (infoT)
attribute [local go_sem] Oper.semAt_some
theorem laid3 (w:World) (o0 o1 o2:Obj):∃ W,(((w.alloc o0).alloc o1).alloc o2)=W∧W.heap.size=w.heap.size+3∧Below w.heap.size w W∧Below (w.heap.size+1) (w.alloc o0) W∧W.heap[w.heap.size+1]?=some o1∧W.heap[w.heap.size+2]?=some o2:=by
 refine ⟨_,rfl,by simp,((((Below.refl _ w).alloc (Nat.le_refl _) _).alloc (by simp) _).alloc (by simp;omega) _),?_,?_,?_⟩
 ·have:=(((Below.refl (w.alloc o0).heap.size (w.alloc o0)).alloc (Nat.le_refl _) o1).alloc (by simp) o2)
  simpa using this
 ·have h1:=heap_alloc_new (w.alloc o0) o1
  have h2:=Below.heap_alloc ((w.alloc o0).alloc o1) o2 (w.heap.size+1) (by simp)
  rw [World.size_alloc] at h1
  exact h2.trans h1
 ·have h1:=heap_alloc_new ((w.alloc o0).alloc o1) o2
  simp only [World.size_alloc] at h1
  exact h1
def cbad (T:Tab) (p q:Int):Bool:=(SetM.has (cfAt T p) q != SetM.has (cfAt T q) p) || (SetM.has (cfAt T p) q && beside T p q)
theorem conf_self {T:Tab} {p:Int} (h:SetM.has (cfAt T p) p=true):confBad T p=true:=by unfold confBad;rw [h];rfl
theorem conf_any {T:Tab} {p:Int} (h:SetM.has (cfAt T p) p=false):confBad T p=(ons T).any (cbad T p):=by unfold confBad;rw [h];rfl
theorem badConflict_any (T:Tab) (h:Hd) (k:Nat) (hk:k < 8) (w:World) (ht:IsTab w h T) :
  Calls Tryz.prog 77 #[.agg (T.cells h).toArray,.int .i64 k] w fun e w'=>e=.returned (.bool (confBad T k))∧Below w.heap.size w w':=by
 have hsz:=(cells_ok ht).size
 have IA:Hid ((Tryz.prog.info? 32).map (·.size)=some (T.cells h).length):=hJJ (by rw [List.size_toArray] at hsz;rw [hsz];exact infoT)
 have ON:Hid (∀ W,Below w.heap.size w W→Calls Tryz.prog 96 #[.agg (T.cells h).toArray] W fun e w'=>e=.returned (.int .i64 (onS T:Nat))∧Below W.heap.size W w'):=hJJ (fun W hb=>PlanO.pon_any T h W (ht.below hb))
 have BS:Hid (∀ (p q:Int) W,Below w.heap.size w W→Calls Tryz.prog 112 #[.agg (T.cells h).toArray,.int .i64 p,.int .i64 q] W fun e w'=>e=.returned (.bool (beside T p q))∧Below W.heap.size W w'):=hJJ (fun p q W hb=>PlanW.pbeside_any T h p q W (ht.below hb))
 have BX0:=hJJ (bxd_new ht)
 have LT0:=hJJ (Row.lies_new w (T.cells h).toArray 32)
 have hs1:(w.alloc (.cells (T.cells h).toArray 32)).heap.size=w.heap.size+1:=by simp
 clear ht
 generalize T.cells h=c at *
 refine (callsIn_wide (n:=3)).1 ?_
 refine callsIn_of_wp_marks Tryz.func77 rfl trivial ?_ rfl
 simp only [Tryz.ntmps77,List.size_toArray,List.length_cons,List.length_nil,Nat.reduceAdd,Nat.reduceSub,Array.replicate_succ,Array.replicate_zero,List.push_toArray,List.append_toArray,List.nil_append,List.cons_append]
 refine wpIn_wide.2 ?_
 go_upto_region 1 with fail
 obtain ⟨W1,hW1,E1,E0,EB,bS,bR⟩:=laid3 w (.cells c.toArray 32) (.cells #[.int .i64 k] 3) (.cells #[.bool false] 4)
 rw [hW1]
 have BX1:=hJJ (BX0.out.below (by rw [hs1];exact EB))
 have LT1:=hJJ (LT0.out.below (by rw [hs1];exact EB))
 have A0:=hJJ E0
 clear hW1 EB hs1 hsz BX0 LT0 E0
 have bS:Boxed W1 (w.heap.size+1) 3 (.int .i64 k):=bS
 have bR:Boxed W1 (w.heap.size+1+1) 4 (.bool false):=bR
 have cS:=bS.cell
 have cc:=BX1.out.cf k (by omega) (by omega)
 rw [Int.toNat_natCast] at cc
 have hne:Nonempty (Ph.S (Row.Old W1)):=⟨⟨0,W1,Below.refl _ _⟩⟩
 have CC:∀ p:Ph.S (Row.Old W1),p.world.cell? ⟨w.heap.size,105+k,none⟩=some (I (cfAt T k)):=fun p=>(p.is.cell (World.block_lt_of_cell? W1 _ cc)).trans cc
 have CS:∀ p:Ph.S (Row.Old W1),p.world.cell? ⟨w.heap.size+1,0,none⟩=some (.int .i64 k):=fun p=>(p.is.cell (World.block_lt_of_cell? W1 _ cS)).trans cS
 refine Pw.region (Row.Old W1) [] hmx (by kernel_rfl) (Row.Old.drew _) ?_
 have hki:((k:Nat):Int) < 8:=by omega
 iterate 5
  (refine Pw.calm rfl (fun K hK=>?_)
   go_simp
   refine hK _ ?_
   clear hK K)
 (refine Pw.calm rfl (fun K hK=>?_)
  go_simp
  refine ⟨_,fun p=>Row.Old.pure (SetP.has_any _ _ _),hK _ ?_⟩
  clear hK K)
 refine Pw.nil ?_
 intro W2 hb
 have B0:Hid (Below w.heap.size w W2):=hJJ (A0.out.trans (hb.mono (by omega)))
 have bS2:Boxed W2 (w.heap.size+1) 3 (.int .i64 k):=(hb.block _ (by omega)).trans bS
 have bR2:Boxed W2 (w.heap.size+1+1) 4 (.bool false):=(hb.block _ (by omega)).trans bR
 have BX:=hJJ (BX1.out.below hb)
 have LT:=hJJ (LT1.out.below hb)
 have E2:w.heap.size+3≤W2.heap.size:=by have:=hb.size;omega
 clear CC CS cc cS hne hb bS bR BX1 LT1 A0 E1
 cases hself:SetM.has (cfAt T k) k with
 | true =>
  have HR:=hJJ (conf_self hself)
  clear hself
  have hc:=bR2.cell
  have hf:=bR2.frozen
  go_wp2
  have hv2:=bR2.set (.bool true)
  have hc5:=hv2.cell
  refine ⟨.bool true,?_,by rw [HR.out],B0.out.setCell (p:=⟨w.heap.size+1+1,0,none⟩) (by simp;omega) _⟩
  simp [results,Tryz.f77,go_sem,hc5]
 | false =>
  have HR:=hJJ (conf_any hself)
  clear hself
  go_wp2_with (refine lgZ 32 ⟨w.heap.size,0,none⟩ c rfl LT.out Tryz.underlying32 IA.out ?_)
  refine (ON.out _ B0.out).mono ?_
  rintro e W3 ⟨rfl,hb⟩
  go_wp2_with fail
  refine (callsIn_wide.1 (Each.each_in 3 _ _)).mono ?_
  rintro e w' ⟨rfl,rfl⟩
  go_wp2_with fail
  have hb4:Below W2.heap.size W2 (W3.alloc (.cells #[.int .i64 (onS T:Nat)] 3)):=hb.alloc hb.size _
  have bE:Boxed (W3.alloc (.cells #[.int .i64 (onS T:Nat)] 3)) W3.heap.size 3 (.int .i64 (onS T:Nat)):=Boxed.new _ _ _
  have hsz3:(W3.alloc (.cells #[.int .i64 (onS T:Nat)] 3)).heap.size=W3.heap.size+1:=by simp
  have hs3:=hb.size
  generalize W3.alloc (.cells #[.int .i64 (onS T:Nat)] 3)=W4 at hb4 bE hsz3 ⊢
  have bS4:Boxed W4 (w.heap.size+1) 3 (.int .i64 k):=(hb4.block _ (by omega)).trans bS2
  have bR4:Boxed W4 (w.heap.size+1+1) 4 (.bool false):=(hb4.block _ (by omega)).trans bR2
  have BX4:=hJJ (BX.out.below hb4)
  have LT4:=hJJ (LT.out.below hb4)
  have C0:Hid (Below w.heap.size w W4):=hJJ (B0.out.trans (hb4.mono B0.out.size))
  have E4:w.heap.size+3 < W4.heap.size:=by omega
  clear hb hb4 bS2 bR2 BX LT B0 E2 hs3
  generalize W3.heap.size=be at *
  refine (wpIn_wide (n:=3)).1 ?_
  refine search (cbad T k) (fun _=>.cells #[.bool true] 4 (0,0)) be (w.heap.size+1+1) (onS T:Nat) (by omega) rfl rfl (by omega) (by omega) bE.cell
   (fun x=>{ tmps:=#[.agg c.toArray,.int .i64 k,.pointer (some ⟨w.heap.size,0,none⟩),.pointer (some ⟨w.heap.size+1,0,none⟩),.pointer (some ⟨w.heap.size+1+1,0,none⟩),.int .i64 x,undef,.int .i64 k,.pointer (some ⟨w.heap.size,105,none⟩),.pointer (some ⟨w.heap.size,105+k,none⟩),I (cfAt T k),.int .i64 k,.bool false,.agg c.toArray,.int .i64 (onS T:Nat),.func (.func 127) #[] #[.pointer (some ⟨be,0,none⟩)],.int .i64 x,undef,undef,undef,undef,undef,undef,undef,undef,undef,undef,undef,undef,undef,undef,undef,undef,undef,undef,undef,undef,undef,undef,undef],defers:=[] }) ?assign ?body ?done ?stop
  case assign =>
   intro l x W K hK
   gi_wp2
   exact hK
  case body =>
   intro l x W hx hB
   have hx8:=SetM.list_bd _ x hx
   have BXW:=BX4.out.below hB
   have cc:=BXW.cf x hx8.1 hx8.2
   have ck:=BXW.cf k (by omega) (by omega)
   rw [Int.toNat_natCast] at ck
   have cS:=(Boxed.cell (show Boxed W (w.heap.size+1) 3 (.int .i64 k) from (hB.block _ (by omega)).trans bS4))
   have LTW:=hJJ (LT4.out.below hB)
   have BW:Hid (Below w.heap.size w W):=hJJ (C0.out.trans (hB.mono C0.out.size))
   have hvR:Boxed W (w.heap.size+1+1) 4 (.bool false):=(hB.block _ (by omega)).trans bR4
   have HV:=hJJ hvR
   obtain ⟨j,rfl⟩:=Int.eq_ofNat_of_zero_le hx8.1
   rw [Int.toNat_natCast] at cc
   have hj8:((j:Nat):Int) < 8:=hx8.2
   have hjn:j < 8:=by omega
   have CB:Hid (cbad T k j=_):=hJJ (by unfold cbad;rfl)
   have CC:∀ p:Ph.S (Row.Old W),p.world.cell? ⟨w.heap.size,105+j,none⟩=some (I (cfAt T j)):=fun p=>(p.is.cell (World.block_lt_of_cell? W _ cc)).trans cc
   have CS:∀ p:Ph.S (Row.Old W),p.world.cell? ⟨w.heap.size+1,0,none⟩=some (.int .i64 k):=fun p=>(p.is.cell (World.block_lt_of_cell? W _ cS)).trans cS
   have CH:=hJJ CC
   have CSH:=hJJ CS
   have BSW:Hid (∀ p:Ph.S (Row.Old W),Calls Tryz.prog 112 #[.agg c.toArray,.int .i64 k,.int .i64 j] p.world fun e w'=>e=.returned (.bool (beside T k j))∧Below p.world.heap.size p.world w'):=hJJ (fun p=>BS.out k j _ (BW.out.trans (p.is.mono BW.out.size)))
   clear cc CC CS hB BXW bE bS4 bR4 hvR
   obtain ⟨a,ha⟩:∃ a,SetM.has (cfAt T k) j=a:=⟨_,rfl⟩
   obtain ⟨b,hb'⟩:∃ b,SetM.has (cfAt T j) k=b:=⟨_,rfl⟩
   gi_wp2_with (refine ⟨trivial,?_⟩;gi_at_call 95;refine (CallsIn.inRound l (callsIn_wide.2 (SetP.has_any _ _ _))).mono ?_;rintro e w' ⟨rfl,rfl⟩;rw [ha])
   have hne:Nonempty (Ph.S (Row.Old W)):=⟨⟨0,W,Below.refl _ _⟩⟩
   have CC:=CH.out
   have CS:=CSH.out
   refine Up.region_ph (Row.Old W) [] (fun ⟨_,_,h⟩=>h) (by kernel_rfl) hmx (by kernel_rfl) (Row.Old.drew _) ?_
   iterate 6
    (refine Pw.calm rfl (fun K hK=>?_)
     go_simp
     refine hK _ ?_
     clear hK K)
   (refine Pw.calm rfl (fun K hK=>?_)
    go_simp
    refine ⟨_,fun p=>Row.Old.pure (SetP.has_any _ _ _),hK _ ?_⟩
    clear hK K)
   rw [hb']
   cases a with
   | false =>
    cases b with
    | false =>
     have HCB:Hid (cbad T k j=false):=hJJ (by rw [CB.out,ha,hb'];rfl)
     clear ha hb' CB
     iterate 4
      (refine Pw.calm rfl (fun K hK=>?_)
       go_simp
       refine hK _ ?_
       clear hK K)
     refine Pw.skips 4 (by kernel_rfl) ?_
     (try simp only [List.take_succ_cons,List.take_zero,List.drop_succ_cons,List.drop_zero,Pw.undefs])
     (try dsimp only [Act.put])
     (try simp only [List.setIfInBounds_toArray,List.set_cons_zero,List.set_cons_succ])
     iterate 2
      (refine Pw.calm rfl (fun K hK=>?_)
       go_simp
       refine hK _ ?_
       clear hK K)
     refine Pw.nil ?_
     intro Wz hbz
     have hv:Boxed Wz (w.heap.size+1+1) 4 (.bool false):=(hbz.block _ HV.out.lt).trans HV.out
     have hc:=hv.cell
     have hf:=hv.frozen
     clear CC CS hne
     gi_wp2
     exact ⟨HCB.out,hbz⟩
    | true =>
     have HCB:Hid (cbad T k j=true):=hJJ (by rw [CB.out,ha,hb'];rfl)
     clear ha hb' CB
     iterate 2
      (refine Pw.calm rfl (fun K hK=>?_)
       go_simp
       refine hK _ ?_
       clear hK K)
     refine Pw.skips 7 (by kernel_rfl) ?_
     (try simp only [List.take_succ_cons,List.take_zero,List.drop_succ_cons,List.drop_zero,Pw.undefs])
     (try dsimp only [Act.put])
     (try simp only [List.setIfInBounds_toArray,List.set_cons_zero,List.set_cons_succ])
     iterate 1
      (refine Pw.calm rfl (fun K hK=>?_)
       go_simp
       refine hK _ ?_
       clear hK K)
     refine Pw.nil ?_
     intro Wz hbz
     have hv:Boxed Wz (w.heap.size+1+1) 4 (.bool false):=(hbz.block _ HV.out.lt).trans HV.out
     have hc:=hv.cell
     have hf:=hv.frozen
     clear CC CS hne
     gi_wp2
     exact ⟨HCB.out,grown_trans (grown_of_below hbz) (grownBy_setCell' _ _ _),hv.set (.bool true)⟩
   | true =>
    cases b with
    | false =>
     have HCB:Hid (cbad T k j=true):=hJJ (by rw [CB.out,ha,hb'];rfl)
     clear ha hb' CB
     iterate 2
      (refine Pw.calm rfl (fun K hK=>?_)
       go_simp
       refine hK _ ?_
       clear hK K)
     refine Pw.skips 7 (by kernel_rfl) ?_
     (try simp only [List.take_succ_cons,List.take_zero,List.drop_succ_cons,List.drop_zero,Pw.undefs])
     (try dsimp only [Act.put])
     (try simp only [List.setIfInBounds_toArray,List.set_cons_zero,List.set_cons_succ])
     iterate 1
      (refine Pw.calm rfl (fun K hK=>?_)
       go_simp
       refine hK _ ?_
       clear hK K)
     refine Pw.nil ?_
     intro Wz hbz
     have hv:Boxed Wz (w.heap.size+1+1) 4 (.bool false):=(hbz.block _ HV.out.lt).trans HV.out
     have hc:=hv.cell
     have hf:=hv.frozen
     clear CC CS hne
     gi_wp2
     exact ⟨HCB.out,grown_trans (grown_of_below hbz) (grownBy_setCell' _ _ _),hv.set (.bool true)⟩
    | true =>
     have HCB0:Hid (cbad T k j=beside T k j):=hJJ (by rw [CB.out,ha,hb'];simp)
     clear ha hb' CB
     obtain ⟨bs,hbs⟩:∃ x,beside T k j=x:=⟨_,rfl⟩
     iterate 4
      (refine Pw.calm rfl (fun K hK=>?_)
       go_simp
       refine hK _ ?_
       clear hK K)
     refine Pw.load rfl (by rfl) 32 _ rfl ⟨w.heap.size,0,none⟩ rfl c _ (fun p=>LTW.out.below p.is) Tryz.underlying32 rfl IA.out ?_
     (try dsimp only [Act.put]);(try simp only [zA,zB,zC])
     iterate 2
      (refine Pw.calm rfl (fun K hK=>?_)
       go_simp
       refine hK _ ?_
       clear hK K)
     (refine Pw.calm rfl (fun K hK=>?_)
      go_simp
      refine ⟨_,fun p=>Row.Old.call (BSW.out p),hK _ ?_⟩
      clear hK K)
     rw [hbs]
     have HCB:Hid (cbad T k j=bs):=hJJ (HCB0.out.trans hbs)
     clear hbs HCB0
     cases bs with
     | true =>
      iterate 2
       (refine Pw.calm rfl (fun K hK=>?_)
        go_simp
        refine hK _ ?_
        clear hK K)
      refine Pw.nil ?_
      intro Wz hbz
      have hv:Boxed Wz (w.heap.size+1+1) 4 (.bool false):=(hbz.block _ HV.out.lt).trans HV.out
      have hc:=hv.cell
      have hf:=hv.frozen
      clear CC CS hne
      gi_wp2
      exact ⟨HCB.out,grown_trans (grown_of_below hbz) (grownBy_setCell' _ _ _),hv.set (.bool true)⟩
     | false =>
      iterate 2
       (refine Pw.calm rfl (fun K hK=>?_)
        go_simp
        refine hK _ ?_
        clear hK K)
      refine Pw.nil ?_
      intro Wz hbz
      have hv:Boxed Wz (w.heap.size+1+1) 4 (.bool false):=(hbz.block _ HV.out.lt).trans HV.out
      have hc:=hv.cell
      have hf:=hv.frozen
      clear CC CS hne
      gi_wp2
      exact ⟨HCB.out,hbz⟩
  case done =>
   intro D W hD hall hB hK
   have hv:Boxed W (w.heap.size+1+1) 4 (.bool false):=(hB.block _ (by omega)).trans bR4
   have hc:=hv.cell
   have hf:=hv.frozen
   have HR2:Hid (confBad T k=false):=hJJ (by rw [HR.out,List.any_eq_false];intro x hx;simpa using hall x hx)
   have HB:Hid (Below w.heap.size w W):=hJJ (C0.out.trans (hB.mono C0.out.size))
   clear hB hall
   go_wp2
   have hv2:=hv.set (.bool false)
   have hK':=(KeepsOthers.setCell W ⟨w.heap.size+1+1,0,none⟩ (.bool false)).same D _ hK rfl
   refine ⟨by simp,.inl ⟨_,_,rfl,run_takeDeferred hK',?_⟩⟩
   have hc5:=cell_kept hv2.cell (grownBy_putObj' _ D (.deferred none)) (fun r e=>by cases e;exact ⟨_,hK',rfl⟩)
   refine ⟨.bool false,?_,by rw [HR2.out],(HB.out.setCell (p:=⟨w.heap.size+1+1,0,none⟩) (by simp;omega) _).trans (belowK_b (w:=w) (Nat.le_refl _) _ D _ _ (by omega) hK' rfl rfl)⟩
   simp [results,Tryz.f77,go_sem,hc5]
  case stop =>
   intro D x W hD hf hx hg hR hK
   have HR2:Hid (confBad T k=true):=hJJ (by rw [HR.out,List.any_eq_true];exact ⟨x,List.mem_of_find?_eq_some hf,hx⟩)
   have hv:Boxed W (w.heap.size+1+1) 4 (.bool true):=hR
   have HB:Hid (Below w.heap.size w W):=hJJ (C0.out.grown hg (by omega) (fun k e=>by cases e;omega))
   clear hf hx hg
   gi_wp2
   refine ⟨by simp,.inl ⟨_,_,rfl,run_takeDeferred hK,?_⟩⟩
   have hc5:=cell_kept hv.cell (grownBy_putObj' _ D (.deferred none)) (fun r e=>by cases e;exact ⟨_,hK,rfl⟩)
   refine ⟨.bool true,?_,by rw [HR2.out],HB.out.trans (belowK_b (w:=w) (Nat.le_refl _) W D _ _ (by omega) hK rfl rfl)⟩
   simp [results,Tryz.f77,go_sem,hc5]
end ChkJ
namespace ChkA
open Zip
open Go.ChangeShapes Go.WideShapes Go.ChangeAt Go.RowKit
open Tab PlaceM PlanM OnS ChkM
open May (ret_bool infoT St ints_in phases_in)
theorem allOn_any (T:Tab) (h:Hd) (s:Int) (w:World) (ht:IsTab w h T) :
  Calls Tryz.prog 115 #[.agg (T.cells h).toArray,.int .i64 s] w fun e w'=>e=.returned (.bool (allOn T s))∧Below w.heap.size w w':=by
 have hsz:=(cells_ok ht).size
 have IA:Hid ((Tryz.prog.info? 32).map (·.size)=some (T.cells h).length):=hJJ (by rw [List.size_toArray] at hsz;rw [hsz];exact infoT)
 have ON:Hid (∀ W,Below w.heap.size w W→Calls Tryz.prog 96 #[.agg (T.cells h).toArray] W fun e w'=>e=.returned (.int .i64 (onS T:Nat))∧Below W.heap.size W w'):=hJJ (fun W hb=>PlanO.pon_any T h W (ht.below hb))
 have A0:Hid (Below w.heap.size w (w.alloc (.cells (T.cells h).toArray 32))):=hJJ ((Below.refl _ _).alloc (Nat.le_refl _) _)
 have A1:Hid (Lies (w.alloc (.cells (T.cells h).toArray 32)) ⟨w.heap.size,0,none⟩ (T.cells h)):=hJJ (Row.lies_new w _ _)
 have HR:Hid (allOn T s=(bits .andNot .i64 s (onS T:Nat) == 0)):=hJJ rfl
 generalize allOn T s=r at HR ⊢
 generalize onS T=m at HR ON
 clear ht
 generalize T.cells h=c at *
 go_enter Tryz.func115,Tryz.ntmps115
 go_upto_region 1 with fail
 generalize w.alloc (.cells c.toArray 32)=u at A0 A1 ⊢
 clear hsz
 go_wp2_with (refine lgZ 32 ⟨w.heap.size,0,none⟩ c rfl A1.out Tryz.underlying32 IA.out ?_)
 refine (ON.out _ A0.out).mono ?_
 rintro e u1 ⟨rfl,hb⟩
 have B0:Hid (Below w.heap.size w u1):=hJJ (A0.out.trans (hb.mono A0.out.size))
 clear hb A0 A1 ON
 go_wp2
 go_ret
 exact ⟨ret_bool (by rw [HR.out]),B0.out⟩
theorem listD_any (T:Tab) (h:Hd) (w:World) (ht:IsTab w h T) :
  Calls Tryz.prog 79 #[.agg (T.cells h).toArray] w fun e w'=>e=.returned (h.d.val T.dets.length)∧Below w.heap.size w w':=by
 have S0:=hJJ (St.box (cs:=(T.cells h).toArray) ht)
 have hsz:=(cells_ok ht).size
 have q:=(St.box (cs:=(T.cells h).toArray) ht).cell (cells_ok ht).d
 generalize (T.cells h).toArray=cs at *
 clear ht
 go_enter Tryz.func79,Tryz.ntmps79
 go_upto_region 1 with fail
 generalize w.alloc (.cells cs 32)=w1 at S0 q ⊢
 clear hsz
 go_wp2
 go_ret
 exact ⟨rfl,S0.out.bel⟩
theorem listR_any (T:Tab) (h:Hd) (w:World) (ht:IsTab w h T) :
  Calls Tryz.prog 82 #[.agg (T.cells h).toArray] w fun e w'=>e=.returned (h.r.val T.rails.length)∧Below w.heap.size w w':=by
 have S0:=hJJ (St.box (cs:=(T.cells h).toArray) ht)
 have hsz:=(cells_ok ht).size
 have q:=(St.box (cs:=(T.cells h).toArray) ht).cell (cells_ok ht).r
 generalize (T.cells h).toArray=cs at *
 clear ht
 go_enter Tryz.func82,Tryz.ntmps82
 go_upto_region 1 with fail
 generalize w.alloc (.cells cs 32)=w1 at S0 q ⊢
 clear hsz
 go_wp2
 go_ret
 exact ⟨rfl,S0.out.bel⟩
theorem listB_any (T:Tab) (h:Hd) (w:World) (ht:IsTab w h T) :
  Calls Tryz.prog 85 #[.agg (T.cells h).toArray] w fun e w'=>e=.returned (h.b.val T.buses.length)∧Below w.heap.size w w':=by
 have S0:=hJJ (St.box (cs:=(T.cells h).toArray) ht)
 have hsz:=(cells_ok ht).size
 have q:=(St.box (cs:=(T.cells h).toArray) ht).cell (cells_ok ht).b
 generalize (T.cells h).toArray=cs at *
 clear ht
 go_enter Tryz.func85,Tryz.ntmps85
 go_upto_region 1 with fail
 generalize w.alloc (.cells cs 32)=w1 at S0 q ⊢
 clear hsz
 go_wp2
 go_ret
 exact ⟨rfl,S0.out.bel⟩
theorem rail_cells (r:Rl) (w:World) (b:Nat) (hb:w.heap[b]?=some (.cells r.cells.toArray 47 (0,0))) :
  w.cell? ⟨b,0,none⟩=some (I r.bars)∧w.cell? ⟨b,1,none⟩=some (I r.clear)∧w.cell? ⟨b,2,none⟩=some (I r.dwell)∧w.cell? ⟨b,3,none⟩=some (I r.exit)∧w.cell? ⟨b,4,none⟩=some (I r.delay)∧w.cell? ⟨b,5,none⟩=some (I r.green)∧w.cell? ⟨b,7,none⟩=some (I r.hold)∧w.cell? ⟨b,8,none⟩=some (I r.stay)∧w.cell? ⟨b,9,none⟩=some (I r.most)∧w.cell? ⟨b,10,none⟩=some (I r.limit):=by
 refine ⟨?_,?_,?_,?_,?_,?_,?_,?_,?_,?_⟩ <;> (rw [cell_of_row _ _ _ _ _ _ hb];rfl)
theorem badTimes_any (r:Rl) (w:World) :
  Calls Tryz.prog 118 #[.agg r.cells.toArray] w fun e w'=>e=.returned (.bool (timesBad r))∧Below w.heap.size w w':=by
 have A0:Hid (Below w.heap.size w (w.alloc (.cells r.cells.toArray 47))):=hJJ ((Below.refl _ _).alloc (Nat.le_refl _) _)
 obtain ⟨q0,q1,q2,q3,q4,q5,q7,q8,q9,q10⟩:=rail_cells r _ _ (heap_alloc_new w (.cells r.cells.toArray 47))
 have HR:Hid (timesBad r=_):=hJJ (by unfold timesBad;rfl)
 generalize timesBad r=x at HR ⊢
 have hone:=Rl.one r
 have hsz:r.cells.toArray.size=11:=rfl
 generalize r.cells.toArray=cs at *
 obtain ⟨bars,clear,dwell,exit,delay,green,foot,hold,stay,most,limit⟩:=r
 simp only at *
 go_enter Tryz.func118,Tryz.ntmps118
 go_upto_region 1 with fail
 generalize w.alloc (.cells cs 47)=u at *
 clear q0 q2 q3 hone hsz
 go_wp2
 all_goals go_ret
 all_goals (refine ⟨ret_bool ?_,A0.out⟩)
 all_goals (rw [HR.out])
 all_goals (clear HR q1 q4 q5 q7 q8 q9 q10 A0)
 all_goals (first | grind | (simp_all <;> omega))
end ChkA
namespace ChkB
open Zip
open Go.ChangeShapes Go.WideShapes Go.ChangeAt Go.RowKit
open Tab PlaceM PlanM OnS ChkM ChkA
open May (ret_bool infoT infoP infoB infoD infoR St ints_in phases_in)
theorem phase_cells (u:Ph) (w:World) (b:Nat) (hb:w.heap[b]?=some (.cells u.cells.toArray 24 (0,0))) :
  w.cell? ⟨b,1,none⟩=some (I u.min)∧w.cell? ⟨b,3,none⟩=some (I u.max)∧w.cell? ⟨b,4,none⟩=some (I u.top)∧w.cell? ⟨b,5,none⟩=some (I u.step)∧w.cell? ⟨b,6,none⟩=some (I u.yellow)∧w.cell? ⟨b,8,none⟩=some (I u.walk)∧w.cell? ⟨b,9,none⟩=some (I u.blinks)∧w.cell? ⟨b,10,none⟩=some (I u.recall):=by
 refine ⟨?_,?_,?_,?_,?_,?_,?_,?_⟩ <;> (rw [cell_of_row _ _ _ _ _ _ hb];rfl)
theorem phase_lies {T:Tab} {h:Hd} {w:World} (ht:IsTab w h T) (k:Nat) (hk:k < 8):Lies (w.alloc (.cells (T.cells h).toArray 32)) ⟨w.heap.size,k*13,none⟩ (phAt T k).cells:=by
 have C:=cells_ok ht
 have hb:(w.alloc (.cells (T.cells h).toArray 32)).heap[w.heap.size]?=some (.cells (T.cells h).toArray 32 (0,0)):=heap_alloc_new w _
 have h8:k < T.phases.length:=by rw [ht.ph];exact hk
 have e:phAt T k=T.phases[k]:=by unfold phAt;rw [Int.toNat_natCast,List.getD_eq_getElem?_getD,List.getElem?_eq_getElem h8];rfl
 have h1:=C.phase k _ (List.getElem?_eq_getElem h8)
 rw [Nat.mul_comm] at h1
 rw [← e] at h1
 intro j v hv
 rw [Addr.add_mid,cell_of_row _ _ _ _ _ _ hb]
 rw [← h1,List.getElem?_take] at hv
 split at hv
 ·rw [List.getElem?_drop,Array.getElem?_toList] at hv
  exact hv
 ·cases hv
theorem badPhase_any (T:Tab) (h:Hd) (k:Nat) (hk:k < 8) (w:World) (ht:IsTab w h T) :
  Calls Tryz.prog 75 #[.agg (T.cells h).toArray,.int .i64 k] w fun e w'=>e=.returned (.bool (phBad (phAt T k)))∧Below w.heap.size w w':=by
 have hsz:=(cells_ok ht).size
 have A0:Hid (Below w.heap.size w (w.alloc (.cells (T.cells h).toArray 32))):=hJJ ((Below.refl _ _).alloc (Nat.le_refl _) _)
 have A1:=hJJ (phase_lies ht k hk)
 have HS:Hid ((w.alloc (.cells (T.cells h).toArray 32)).heap.size=w.heap.size+1):=hJJ (by simp)
 clear ht
 generalize T.cells h=c at *
 obtain ⟨x,hx⟩:∃ x,x=phBad (phAt T k):=⟨_,rfl⟩
 rw [← hx]
 have HR:=hJJ hx
 clear hx
 generalize phAt T k=ph at *
 go_enter Tryz.func75,Tryz.ntmps75
 go_upto_region 1 with fail
 generalize w.alloc (.cells c.toArray 32)=u at A0 A1 HS ⊢
 clear hsz
 go_upto_region 2 with (first | (refine lgZ 24 ⟨w.heap.size,k*13,none⟩ ph.cells rfl A1.out Tryz.underlying24 infoP ?_) | (refine Row.wpList_store_new rfl 24 _ _ rfl u _ ph.cells.toArray rfl rfl rfl infoP rfl (Ph.one _) ?_))
 have E:=hJJ (A0.out.trans (((Below.refl u.heap.size u).alloc (Nat.le_refl _) (.cells ph.cells.toArray 24)).mono A0.out.size))
 obtain ⟨q1,q3,q4,q5,q6,q8,q9,q10⟩:=phase_cells ph _ _ (heap_alloc_new u (.cells ph.cells.toArray 24))
 generalize u.alloc (.cells ph.cells.toArray 24)=u2 at *
 generalize u.heap.size=b2 at *
 clear A0 A1 HS
 obtain ⟨on,min,gap,max,top,step,yellow,red,walk,blinks,recall,lock,rest⟩:=ph
 simp only at *
 go_wp2
 all_goals go_ret
 all_goals (refine ⟨ret_bool ?_,E.out⟩)
 all_goals (rw [HR.out];unfold phBad;dsimp only)
 all_goals (clear HR q1 q3 q4 q5 q6 q8 q9 q10 E)
 all_goals (first | grind | (simp_all <;> omega))
theorem laid2 (w:World) (o0 o1:Obj):∃ W,((w.alloc o0).alloc o1)=W∧W.heap.size=w.heap.size+2∧Below w.heap.size w W∧Below (w.heap.size+1) (w.alloc o0) W∧W.heap[w.heap.size+1]?=some o1:=by
 refine ⟨_,rfl,by simp,((Below.refl _ w).alloc (Nat.le_refl _) _).alloc (by simp) _,?_,?_⟩
 ·have:=(Below.refl (w.alloc o0).heap.size (w.alloc o0)).alloc (Nat.le_refl _) o1
  simpa using this
 ·have h1:=heap_alloc_new (w.alloc o0) o1
  rwa [World.size_alloc] at h1
theorem lies_head {w:World} {x:Addr} {v:Value} {l:List Value} (h:Lies w x (v :: l)):w.cell? x=some v:=by
 have:=h 0 v rfl
 rwa [Tab.add_zero] at this
theorem badDetector_any (T:Tab) (h:Hd) (d:Det) (w:World) (ht:IsTab w h T) (h0:Fl.isn d.on=false) (h1:Fl.isn d.off=false) (hp:0≤d.phase∧d.phase < 8) :
  Calls Tryz.prog 80 #[.agg (T.cells h).toArray,.agg d.cells.toArray] w fun e w'=>e=.returned (.bool (detBad T d))∧Below w.heap.size w w':=by
 have hsz:=(cells_ok ht).size
 have hs1:(w.alloc (.cells (T.cells h).toArray 32)).heap.size=w.heap.size+1:=by simp
 obtain ⟨ph,on,off,delay,extend,mOn,mOff⟩:=d
 dsimp only at h0 h1 hp
 obtain ⟨k,rfl⟩:=Int.eq_ofNat_of_zero_le hp.1
 have hk:k < 8:=by omega
 have LP:=hJJ (lies_head (phase_lies ht k hk))
 obtain ⟨x,hx⟩:∃ x,x=detBad T ⟨k,on,off,delay,extend,mOn,mOff⟩:=⟨_,rfl⟩
 rw [← hx]
 have HR:Hid (x=(gtF off on || !(phAt T k).on)):=hJJ hx
 generalize (phAt T k).on=q at LP HR
 have ho:=Secs.ord_cases off on h1 h0
 have HO:=hJJ ho
 clear hx ht h0 h1 hp ho
 generalize T.cells h=c at *
 have hone:=Det.one ⟨k,on,off,delay,extend,mOn,mOff⟩
 have hsz2:(Det.cells ⟨k,on,off,delay,extend,mOn,mOff⟩).toArray.size=7:=rfl
 generalize hcd:(Det.cells ⟨k,on,off,delay,extend,mOn,mOff⟩).toArray=cd at *
 have HCD:=hJJ hcd
 clear hcd
 go_enter Tryz.func80,Tryz.ntmps80
 go_upto_region 1 with fail
 obtain ⟨u,hu,E1,E0,EB,b1⟩:=laid2 w (.cells c.toArray 32) (.cells cd 45)
 rw [hu]
 have EE:=hJJ E0
 have c0:u.cell? ⟨w.heap.size,k*13,none⟩=some (.bool q):=(EB.cell (p:=⟨w.heap.size,k*13,none⟩) (Nat.lt_succ_self _)).trans LP.out
 have q0:u.cell? ⟨w.heap.size+1,0,none⟩=some (I k):=by rw [cell_of_row _ _ _ _ _ _ b1,← HCD.out];rfl
 have q1:u.cell? ⟨w.heap.size+1,1,none⟩=some (.float .f64 on):=by rw [cell_of_row _ _ _ _ _ _ b1,← HCD.out];rfl
 have q2:u.cell? ⟨w.heap.size+1,2,none⟩=some (.float .f64 off):=by rw [cell_of_row _ _ _ _ _ _ b1,← HCD.out];rfl
 clear hu EB LP b1 hs1 hsz hsz2 hone E0 HCD
 rcases HO.out with ⟨a,ho⟩ | ⟨a,ho⟩ | ⟨a,ho⟩
 all_goals
  clear HO
  have HA:=hJJ a
  clear a
  go_wp2
  go_ret
  have a:=HA.out
  refine ⟨ret_bool ?_,EE.out⟩
  rw [HR.out]
  unfold gtF
  first | (rw [decide_eq_true (by omega)];simp) | (rw [decide_eq_false (by omega)];simp)
theorem badBus_any (T:Tab) (h:Hd) (d:Bs) (w:World) (ht:IsTab w h T) :
  Calls Tryz.prog 86 #[.agg (T.cells h).toArray,.agg d.cells.toArray] w fun e w'=>e=.returned (.bool (busBad T d))∧Below w.heap.size w w':=by
 have hsz:=(cells_ok ht).size
 have IA:Hid ((Tryz.prog.info? 32).map (·.size)=some (T.cells h).length):=hJJ (by rw [List.size_toArray] at hsz;rw [hsz];exact infoT)
 obtain ⟨s,lk⟩:=d
 have AO:Hid (∀ W,Below w.heap.size w W→Calls Tryz.prog 115 #[.agg (T.cells h).toArray,.int .i64 s] W fun e w'=>e=.returned (.bool (allOn T s))∧Below W.heap.size W w'):=hJJ (fun W hb=>allOn_any T h s W (ht.below hb))
 obtain ⟨x,hx⟩:∃ x,x=busBad T ⟨s,lk⟩:=⟨_,rfl⟩
 rw [← hx]
 have HR:Hid (x=(s == 0 || (!allOn T s || decide (lk < 1)))):=hJJ hx
 generalize allOn T s=q at AO HR
 have A1:=hJJ (Row.lies_new w (T.cells h).toArray 32)
 clear hx ht
 have hone:=Bs.one ⟨s,lk⟩
 have hsz2:(Bs.cells ⟨s,lk⟩).toArray.size=2:=rfl
 generalize hcd:(Bs.cells ⟨s,lk⟩).toArray=cd at *
 have HCD:=hJJ hcd
 clear hcd
 generalize T.cells h=c at *
 go_enter Tryz.func86,Tryz.ntmps86
 go_upto_region 1 with fail
 obtain ⟨u,hu,E1,E0,EB,b1⟩:=laid2 w (.cells c.toArray 32) (.cells cd 49)
 rw [hu]
 have EE:=hJJ E0
 have LT:Hid (Lies u ⟨w.heap.size,0,none⟩ c):=hJJ (A1.out.below (by simpa using EB))
 have q0:u.cell? ⟨w.heap.size+1,0,none⟩=some (I s):=by rw [cell_of_row _ _ _ _ _ _ b1,← HCD.out];rfl
 have q1:u.cell? ⟨w.heap.size+1,1,none⟩=some (I lk):=by rw [cell_of_row _ _ _ _ _ _ b1,← HCD.out];rfl
 have Q1:=hJJ q1
 clear hu EB A1 b1 hsz hsz2 hone E0 HCD
 by_cases hs:s=0
 ·go_wp2
  go_ret
  exact ⟨ret_bool (by rw [HR.out,hs];rfl),EE.out⟩
 ·go_wp2_with (refine lgZ 32 ⟨w.heap.size,0,none⟩ c rfl LT.out Tryz.underlying32 IA.out ?_)
  refine (AO.out _ EE.out).mono ?_
  rintro e u1 ⟨rfl,hb⟩
  have q1:=(hb.cell (World.block_lt_of_cell? u _ Q1.out)).trans Q1.out
  have EF:=hJJ (EE.out.trans (hb.mono EE.out.size))
  clear hb q0 LT AO Q1
  cases q with
  | true =>
   go_wp2
   go_ret
   refine ⟨ret_bool ?_,EF.out⟩
   rw [HR.out];simp [hs]
  | false =>
   go_wp2
   go_ret
   refine ⟨ret_bool ?_,EF.out⟩
   rw [HR.out];simp
end ChkB
namespace RkA
open Zip
open Go.ChangeShapes Go.WideShapes Go.ChangeAt Go.RowKit
open Tab PlaceM PlanM OnS ChkM ChkI
open RefS (rlist_any rhas_any row_of)
open May (ret_bool infoT infoP)
theorem in_any (a b:Int) (w:World):Calls Tryz.prog 53 #[.int .i64 a,.int .i64 b] w fun e w'=>e=.returned (.bool (inR a b))∧w=w':=by
 have HR:Hid (inR a b=(bits .and .i64 (bits .andNot .i64 a b) 255 == 0)):=hJJ rfl
 generalize inR a b=x at HR ⊢
 go_enter Tryz.func53,Tryz.ntmps53
 go_wp2
 go_ret
 exact ⟨ret_bool HR.out.symm,rfl⟩
theorem phase_any (ph:Ph) (w:World) :
  Calls Tryz.prog 49 #[.agg ph.cells.toArray] w fun e w'=>e=.returned (.bool (phOk ph))∧Below w.heap.size w w':=by
 obtain ⟨x,hx⟩:∃ x,x=phOk ph:=⟨_,rfl⟩
 rw [← hx]
 have HR:=hJJ hx
 clear hx
 have E:Hid (Below w.heap.size w (w.alloc (.cells ph.cells.toArray 24))):=hJJ ((Below.refl _ _).alloc (Nat.le_refl _) _)
 obtain ⟨q1,q3,q4,q5,q6,q8,q9,q10⟩:=ChkB.phase_cells ph _ _ (heap_alloc_new w (.cells ph.cells.toArray 24))
 have hone:=Ph.one ph
 have hsz:ph.cells.toArray.size=13:=rfl
 generalize ph.cells.toArray=cs at *
 go_enter Tryz.func49,Tryz.ntmps49
 go_upto_region 1 with fail
 generalize w.alloc (.cells cs 24)=u2 at *
 clear hone hsz
 obtain ⟨on,min,gap,max,top,step,yellow,red,walk,blinks,recall,lock,rest⟩:=ph
 simp only at *
 go_wp2
 all_goals go_ret
 all_goals (refine ⟨ret_bool ?_,E.out⟩)
 all_goals (rw [HR.out];unfold phOk;dsimp only)
 all_goals (clear HR q1 q3 q4 q5 q6 q8 q9 q10 E)
 all_goals (first | grind | (simp_all <;> omega))
theorem flash_any (T:Tab) (h:Hd) (k:Nat) (hk:k < 8) (w:World) (ht:IsTab w h T) :
  Calls Tryz.prog 54 #[.agg (T.cells h).toArray,.int .i64 k,.int .i64 (onS T:Nat)] w fun e w'=>e=.returned (.bool (flashOk T k))∧Below w.heap.size w w':=by
 have hsz:=(cells_ok ht).size
 have BX0:=hJJ (bxd_new ht)
 have A0:Hid (Below w.heap.size w (w.alloc (.cells (T.cells h).toArray 32))):=hJJ ((Below.refl _ _).alloc (Nat.le_refl _) _)
 obtain ⟨x,hx⟩:∃ x,x=flashOk T k:=⟨_,rfl⟩
 rw [← hx]
 have HR:Hid (x=(flAt T k != 0 && !(ons T).any (flashR T k))):=hJJ hx
 have FR:Hid (∀ q,flashR T k q=(flAt T k == 2 && (flAt T q == 2 && SetM.has (cfAt T k) q))):=hJJ (fun q=>rfl)
 have BD:=hJJ (fun q (hq:q ∈ ons T)=>SetM.list_bd _ q hq)
 have HL:=hJJ (show (ons T).length≤8 from SetM.list_len _)
 have OL:Hid (SetM.list (onS T:Nat)=ons T):=hJJ rfl
 generalize ons T=L at *
 clear ht hx
 generalize T.cells h=c at *
 have hki:((k:Nat):Int) < 8:=by omega
 go_enter Tryz.func54,Tryz.ntmps54
 go_upto_region 1 with fail
 generalize w.alloc (.cells c.toArray 32)=u at A0 BX0 ⊢
 clear hsz
 have cf:=BX0.out.fl k (by omega) (by omega)
 rw [Int.toNat_natCast] at cf
 generalize hfk:flAt T k=fk at *
 by_cases h0:fk=0
 ·subst h0
  have HX:Hid (false=x):=hJJ (by rw [HR.out];rfl)
  go_wp2
  go_ret
  exact ⟨ret_bool HX.out,A0.out⟩
 have HX:Hid (x=!L.any (flashR T k)):=hJJ (by rw [HR.out,bne_iff_ne.2 h0];rfl)
 clear HR
 go_wp2_with fail
 refine (rlist_any _ _).mono ?_
 rintro e u1 ⟨v,rfl,hown,hb⟩
 rw [OL.out] at hown
 obtain ⟨a,cap,rfl,hrow⟩:=row_of hown
 have HROW:=hJJ hrow
 have B0:Hid (Below w.heap.size w u1):=hJJ (A0.out.trans (hb.mono A0.out.size))
 have BX:=hJJ (BX0.out.below hb)
 clear hown hrow hb A0 BX0 cf
 have hl8:=HL.out
 go_wp2_with fail
 go_loopw [17] (fun i wr=>∃ q:Nat,q≤L.length∧i=.int .i64 q∧(∀ j,j < q→flashR T k (L.getD j 0)=false)∧wr=u1) (fun i _=>L.length - (intOf i).toNat)
 case atStart=>exact ⟨0,by omega,rfl,(fun j h=>by omega),rfl⟩
 case round =>
  obtain ⟨q,hq,rfl,hall,rfl⟩:=hrel
  rename World=>wg
  have HA:=hJJ hall
  clear hall
  by_cases hlt:q < L.length
  ·obtain ⟨y,rfl,hcells⟩:=HROW.out.cells hlt
   have cq:=hcells q hlt
   have hmem:L.getD q 0 ∈ L:=by rw [List.getD_eq_getElem?_getD,List.getElem?_eq_getElem hlt];exact List.getElem_mem hlt
   have hbd:=BD.out _ hmem
   generalize hz:L.getD q 0=z at *
   have HZ:=hJJ hz
   have HM:=hJJ hmem
   clear hcells hz hmem
   obtain ⟨j,rfl⟩:=Int.eq_ofNat_of_zero_le hbd.1
   have hj8:((j:Nat):Int) < 8:=hbd.2
   have fk':=BX.out.fl k (by omega) (by omega)
   have fj:=BX.out.fl j (by omega) (by omega)
   have ck:=BX.out.cf k (by omega) (by omega)
   rw [Int.toNat_natCast] at fk' fj ck
   rw [hfk] at fk'
   have FQ:Hid (flashR T k j=(fk == 2 && (flAt T j == 2 && SetM.has (cfAt T k) j))):=hJJ (FR.out j)
   have NEXT:Hid (flashR T k j=false→∀ i,i < q+1→flashR T k (L.getD i 0)=false):=hJJ (fun e i hi=>by
    by_cases h1:i=q
    ·subst h1;rw [HZ.out];exact e
    ·exact HA.out i (by omega))
   have STOP:Hid (flashR T k j=true→false=x):=hJJ (fun e=>by
    rw [HX.out,List.any_eq_true.2 ⟨_,HM.out,e⟩];rfl)
   generalize flAt T j=fq at *
   obtain ⟨hs,hhs⟩:∃ z,SetM.has (cfAt T k) j=z:=⟨_,rfl⟩
   rw [hhs] at FQ
   have HHS:=hJJ hhs
   clear hhs FR
   by_cases h2:fk=2
   ·by_cases h3:fq=2
    ·subst h2 h3
     have FV:Hid (flashR T k j=hs):=hJJ (by rw [FQ.out];rfl)
     go_wp2_with fail
     refine (rhas_any _ _ _).mono ?_
     rintro e w' ⟨rfl,rfl⟩
     rw [HHS.out]
     cases hs with
     | true =>
      have SX:=hJJ (STOP.out FV.out)
      go_wp2
      go_ret
      exact ⟨ret_bool SX.out,B0.out⟩
     | false =>
      have NX:=hJJ (NEXT.out FV.out)
      go_wp2
      go_roundw
      case rel=>exact ⟨q+1,by omega,by go_num,NX.out,trivial⟩
      case measure=>simp [intOf];omega
    ·have NX:=hJJ (NEXT.out (by rw [FQ.out,beq_eq_false_iff_ne.2 h3];simp))
     subst h2
     have H3:=hJJ h3
     go_wp2
     go_roundw
     case rel=>exact ⟨q+1,by omega,by go_num,NX.out,trivial⟩
     case measure=>simp [intOf];omega
   ·have NX:=hJJ (NEXT.out (by rw [FQ.out,beq_eq_false_iff_ne.2 h2];simp))
    go_wp2
    go_roundw
    case rel=>exact ⟨q+1,by omega,by go_num,NX.out,trivial⟩
    case measure=>simp [intOf];omega
  ·have SX:Hid (true=x):=hJJ (by
    rw [HX.out,List.any_eq_false.2]
    ·rfl
    ·intro z hz
     obtain ⟨i,hi,rfl⟩:=List.getElem_of_mem hz
     have:=HA.out i (by omega)
     rw [List.getD_eq_getElem?_getD,List.getElem?_eq_getElem hi] at this
     simpa using this)
   go_wp2
   go_ret
   exact ⟨ret_bool SX.out,B0.out⟩
theorem conflict_any (T:Tab) (h:Hd) (k:Nat) (hk:k < 8) (w:World) (ht:IsTab w h T) (sm:Few T) :
  Calls Tryz.prog 51 #[.agg (T.cells h).toArray,.int .i64 k,.int .i64 (onS T:Nat)] w fun e w'=>e=.returned (.bool (confOk T k))∧Below w.heap.size w w':=by
 have hsz:=(cells_ok ht).size
 have IA:Hid ((Tryz.prog.info? 32).map (·.size)=some (T.cells h).length):=hJJ (by rw [List.size_toArray] at hsz;rw [hsz];exact infoT)
 have BS:Hid (∀ (q:Int) W,Below w.heap.size w W→Calls Tryz.prog 42 #[.agg (T.cells h).toArray,.int .i64 k,.int .i64 q] W fun e w'=>e=.returned (.bool (beside T k q))∧Below W.heap.size W w'):=hJJ (fun q W hb=>Where.beside_any T h k q W (ht.below hb) sm)
 have BX0:=hJJ (bxd_new ht)
 have LT0:=hJJ (Row.lies_new w (T.cells h).toArray 32)
 have A0:Hid (Below w.heap.size w (w.alloc (.cells (T.cells h).toArray 32))):=hJJ ((Below.refl _ _).alloc (Nat.le_refl _) _)
 obtain ⟨x,hx⟩:∃ x,x=confOk T k:=⟨_,rfl⟩
 rw [← hx]
 have HX:Hid (x=!(ons T).any (confR T k)):=hJJ hx
 have FR:Hid (∀ q,confR T k q=((SetM.has (cfAt T k) q && q == k) || ((SetM.has (cfAt T k) q != SetM.has (cfAt T q) k) || (SetM.has (cfAt T k) q && beside T k q)))):=hJJ (fun q=>rfl)
 have BD:=hJJ (fun q (hq:q ∈ ons T)=>SetM.list_bd _ q hq)
 have HL:=hJJ (show (ons T).length≤8 from SetM.list_len _)
 have OL:Hid (SetM.list (onS T:Nat)=ons T):=hJJ rfl
 generalize ons T=L at *
 clear ht hx
 generalize T.cells h=c at *
 have hki:((k:Nat):Int) < 8:=by omega
 go_enter Tryz.func51,Tryz.ntmps51
 go_upto_region 1 with fail
 generalize w.alloc (.cells c.toArray 32)=u at A0 BX0 LT0 ⊢
 clear hsz
 go_wp2_with fail
 refine (rlist_any _ _).mono ?_
 rintro e u1 ⟨v,rfl,hown,hb⟩
 rw [OL.out] at hown
 obtain ⟨a,cap,rfl,hrow⟩:=row_of hown
 have HROW:=hJJ hrow
 have B0:Hid (Below w.heap.size w u1):=hJJ (A0.out.trans (hb.mono A0.out.size))
 have BX1:=hJJ (BX0.out.below hb)
 have LT1:=hJJ (LT0.out.below hb)
 clear hown hrow hb A0 BX0 LT0
 have hl8:=HL.out
 go_wp2_with fail
 go_loopw [13] (fun i wr=>∃ q:Nat,q≤L.length∧i=.int .i64 q∧(∀ j,j < q→confR T k (L.getD j 0)=false)∧Below u1.heap.size u1 wr) (fun i _=>L.length - (intOf i).toNat)
 case atStart=>exact ⟨0,by omega,rfl,(fun j h=>by omega),Below.refl _ _⟩
 case round =>
  obtain ⟨q,hq,rfl,hall,hB⟩:=hrel
  have HA:=hJJ hall
  have HB:=hJJ hB
  have BW:Hid (Below w.heap.size w wr):=hJJ (B0.out.trans (hB.mono B0.out.size))
  have BX:=hJJ (BX1.out.below hB)
  have LT:=hJJ (LT1.out.below hB)
  have HROW:=hJJ (HROW.out.below hB)
  clear hall hB
  by_cases hlt:q < L.length
  ·obtain ⟨y,rfl,hcells⟩:=HROW.out.cells hlt
   have cq:=hcells q hlt
   have hmem:L.getD q 0 ∈ L:=by rw [List.getD_eq_getElem?_getD,List.getElem?_eq_getElem hlt];exact List.getElem_mem hlt
   have hbd:=BD.out _ hmem
   generalize hz:L.getD q 0=z at *
   have HZ:=hJJ hz
   have HM:=hJJ hmem
   clear hcells hz hmem
   obtain ⟨j,rfl⟩:=Int.eq_ofNat_of_zero_le hbd.1
   have hj8:((j:Nat):Int) < 8:=hbd.2
   have cj:=BX.out.cf j (by omega) (by omega)
   have ck:=BX.out.cf k (by omega) (by omega)
   rw [Int.toNat_natCast] at cj ck
   have FQ:=hJJ (FR.out j)
   have NEXT:Hid (confR T k j=false→∀ i,i < q+1→confR T k (L.getD i 0)=false):=hJJ (fun e i hi=>by
    by_cases h1:i=q
    ·subst h1;rw [HZ.out];exact e
    ·exact HA.out i (by omega))
   have STOP:Hid (confR T k j=true→false=x):=hJJ (fun e=>by
    rw [HX.out,List.any_eq_true.2 ⟨_,HM.out,e⟩];rfl)
   obtain ⟨ha,hha⟩:∃ z,SetM.has (cfAt T k) j=z:=⟨_,rfl⟩
   obtain ⟨hb,hhb⟩:∃ z,SetM.has (cfAt T j) k=z:=⟨_,rfl⟩
   obtain ⟨bs,hbs⟩:∃ z,beside T k j=z:=⟨_,rfl⟩
   rw [hha,hhb,hbs] at FQ
   have BSJ:=hJJ (BS.out j)
   rw [hbs] at BSJ
   have HHA:=hJJ hha
   have HHB:=hJJ hhb
   clear hha hhb hbs FR BS BD
   go_wp2_with fail
   refine (rhas_any _ _ _).mono ?_
   rintro e w' ⟨rfl,rfl⟩
   rw [HHA.out]
   cases ha with
   | false =>
    go_wp2_with fail
    refine (rhas_any _ _ _).mono ?_
    rintro e w' ⟨rfl,rfl⟩
    rw [HHB.out]
    cases hb with
    | true =>
     have SX:=hJJ (STOP.out (by rw [FQ.out];simp))
     go_wp2
     go_ret
     exact ⟨ret_bool SX.out,BW.out⟩
    | false =>
     have NX:=hJJ (NEXT.out (by rw [FQ.out];simp))
     go_wp2
     go_roundw
     case rel=>exact ⟨q+1,by omega,by go_num,NX.out,HB.out⟩
     case measure=>simp [intOf];omega
   | true =>
    by_cases hjk:((j:Nat):Int)=(k:Int)
    ·have SX:=hJJ (STOP.out (by rw [FQ.out,hjk];simp))
     have hjb:(((j:Nat):Int) == (k:Int))=true:=by rw [beq_iff_eq];exact hjk
     clear hjk
     go_wp2
     go_ret
     exact ⟨ret_bool SX.out,BW.out⟩
    ·have HJ:=hJJ hjk
     have hjb:(((j:Nat):Int) == (k:Int))=false:=by rw [beq_eq_false_iff_ne];exact hjk
     have HJB:=hJJ hjb
     clear hjb
     go_wp2_with fail
     refine (rhas_any _ _ _).mono ?_
     rintro e w' ⟨rfl,rfl⟩
     rw [HHB.out]
     cases hb with
     | false =>
      have SX:=hJJ (STOP.out (by rw [FQ.out];simp))
      go_wp2
      go_ret
      exact ⟨ret_bool SX.out,BW.out⟩
     | true =>
      go_wp2_with (refine lgZ 32 ⟨w.heap.size,0,none⟩ c rfl LT.out Tryz.underlying32 IA.out ?_)
      (try go_wp2_with fail)
      refine (BSJ.out _ BW.out).mono ?_
      rintro e u3 ⟨rfl,hb3⟩
      have HB3:=hJJ (HB.out.trans (hb3.mono HB.out.size))
      have BW3:Hid (Below w.heap.size w u3):=hJJ (BW.out.trans (hb3.mono BW.out.size))
      clear hb3
      have FV:Hid (confR T k j=bs):=hJJ (by rw [FQ.out,HJB.out];simp)
      cases bs with
      | true =>
       have SX:=hJJ (STOP.out FV.out)
       go_wp2
       go_ret
       exact ⟨ret_bool SX.out,BW3.out⟩
      | false =>
       have NX:=hJJ (NEXT.out FV.out)
       go_wp2
       go_roundw
       case rel=>exact ⟨q+1,by omega,by go_num,NX.out,HB3.out⟩
       case measure=>simp [intOf];omega
  ·have SX:Hid (true=x):=hJJ (by
    rw [HX.out,List.any_eq_false.2]
    ·rfl
    ·intro z hz
     obtain ⟨i,hi,rfl⟩:=List.getElem_of_mem hz
     have:=HA.out i (by omega)
     rw [List.getD_eq_getElem?_getD,List.getElem?_eq_getElem hi] at this
     simpa using this)
   go_wp2
   go_ret
   exact ⟨ret_bool SX.out,BW.out⟩
end RkA
namespace ChkG
open Zip
open Go.ChangeShapes Go.WideShapes Go.ChangeAt Go.RowKit
open Tab PlaceM PlanM OnS ChkM ChkA
open PlanW (wG wK wI idx0 idx1 info2 pwhere_any)
open May (ret_bool infoT St)
def atOk (T:Tab) (g k i:Nat) (p:Int):Bool:=at0 (where_ T p) == (g,k,i)
theorem at_iff (T:Tab) (g k i:Nat) (p:Int):atOk T g k i p=(decide (wG (where_ T p)=g) && (decide (wK (where_ T p)=k) && decide (wI (where_ T p)=i))):=by
 unfold atOk at0 wG wK wI
 cases where_ T p with
 | none=>rw [Bool.eq_iff_iff];simp;omega
 | some x=>rw [Bool.eq_iff_iff];simp;omega
theorem rep_row {T:Tab} {g k:Nat} {l:List Int}:repRow T g k l=false ↔ ∀ i,i < l.length→atOk T g k i (l.getD i 0)=true:=by
 unfold repRow
 rw [List.any_eq_false]
 constructor
 ·intro h i hi
  have:=h i (List.mem_range.2 hi)
  unfold atOk
  simpa using this
 ·intro h i hi
  have:=h i (List.mem_range.1 hi)
  unfold atOk at this
  simpa using this
theorem repeats_any (T:Tab) (h:Hd) (g:Nat) (w:World) (ht:IsTab w h T) (hg:g < T.groups.length) :
  Calls Tryz.prog 139 #[.agg (T.cells h).toArray,.int .i64 g] w fun e w'=>e=.returned (.bool (repeats T g))∧Below w.heap.size w w':=by
 obtain ⟨⟨ga,gcap⟩,sd,sr,sb⟩:=h
 have hsz1:=(cells_ok ht).size
 have IA:Hid ((Tryz.prog.info? 32).map (·.size)=some (T.cells ⟨⟨ga,gcap⟩,sd,sr,sb⟩).length):=hJJ (by rw [List.size_toArray] at hsz1;rw [hsz1];exact infoT)
 have WH:Hid (∀ p W,Below w.heap.size w W→Calls Tryz.prog 63 #[.agg (T.cells ⟨⟨ga,gcap⟩,sd,sr,sb⟩).toArray,.int .i64 p] W fun e w'=>e=.returned (.tuple #[I (wG (where_ T p)),I (wK (where_ T p)),I (wI (where_ T p)),.bool (where_ T p).isSome])∧Below W.heap.size W w'):=hJJ (fun p W hb=>pwhere_any T _ p W (ht.below hb))
 have LT0:=hJJ (Row.lies_new w (T.cells ⟨⟨ga,gcap⟩,sd,sr,sb⟩).toArray 32)
 have C:=hJJ (cells_ok ht)
 obtain ⟨gs,hgd,hgr⟩:=ht.groups
 have Hgr:=hJJ hgr
 have Hgd:=hJJ hgd
 have S0:=hJJ (St.box (cs:=(T.cells ⟨⟨ga,gcap⟩,sd,sr,sb⟩).toArray) ht)
 have Hgl:=hJJ (show T.groups.length=gs.length by rw [← hgd,List.length_map])
 have Kg:=hgr.1.len
 unfold maxLen at Kg
 have hlt:g < gs.length:=by rw [← Hgl.out];exact hg
 have hv:=List.getElem?_eq_getElem hlt
 generalize gs[g]=u at hv
 obtain ⟨x,hx,hc⟩:=hgr.1.at hv
 have hok:=hgr.2 u (List.mem_of_getElem? hv)
 have HD:Hid (rowsAt T g=u.data):=hJJ (rows_in (by rw [← hgd,List.getElem?_map,hv];rfl))
 obtain rfl:ga=some x:=hx
 obtain ⟨l0,l1,⟨a0,cap0⟩,⟨a1,cap1⟩⟩:=u
 have HC:Hid (Lies w (x.add (g*2)) [.slice a0 l0.length cap0,.slice a1 l1.length cap1]):=hJJ hc
 have HO:=hJJ hok
 have RS:Hid (repeats T g=(repRow T g 0 l0 || repRow T g 1 l1)):=hJJ (by unfold repeats;rw [HD.out];rfl)
 have AT:=hJJ (at_iff T)
 have RR:Hid (∀ {k l},repRow T g k l=false ↔ ∀ i,i < l.length→atOk T g k i (l.getD i 0)=true):=hJJ rep_row
 have q104:=S0.out.cell C.out.g
 rw [Hgl.out] at q104
 have Q104:Hid ((w.alloc (.cells (T.cells ⟨⟨some x,gcap⟩,sd,sr,sb⟩).toArray 32)).cell? ⟨w.heap.size,104,none⟩=some (.slice (some x) gs.length gcap)):=hJJ q104
 clear ht hgr hgd hv hc hok hsz1 q104 C
 obtain ⟨res,hres⟩:∃ r,r=repeats T g:=⟨_,rfl⟩
 rw [← hres]
 have HRES:=hJJ hres
 clear hres
 generalize hcc:T.cells ⟨⟨some x,gcap⟩,sd,sr,sb⟩=c at *
 clear hcc
 have hsz:c.toArray.size=131:=by
  have:=S0.out.blk
  have h2:=IA.out
  have h3:(Tryz.prog.info? 32).map (·.size)=some 131:=infoT
  rw [h3] at h2
  rw [List.size_toArray];exact (Option.some.inj h2).symm
 go_enter Tryz.func139,Tryz.ntmps139
 go_upto_region 1 with fail
 clear hsz
 generalize w.alloc (.cells c.toArray 32)=w1 at *
 have q104:=Q104.out
 have HC1:=hJJ (HC.out.below S0.out.bel)
 have HO1:=hJJ (HO.out.below S0.out.bel)
 clear HC HO
 go_wp2_with (refine Row.wpList_load_g 41 _ rfl (by first | rfl | go_simp) (x.add (g*2)) rfl [.slice a0 l0.length cap0,.slice a1 l1.length cap1] _ HC1.out Tryz.underlying41 rfl info2 ?_)
 clear q104
 go_loopw [18] (fun a wr=>∃ r:Nat,r≤2∧a=.int .i64 r∧(0 < r→repRow T g 0 l0=false)∧(1 < r→repRow T g 1 l1=false)∧Below w1.heap.size w1 wr) (fun a _=>2 - (intOf a).toNat)
 case atStart=>exact ⟨0,by omega,rfl,by omega,by omega,Below.refl _ _⟩
 case round =>
  obtain ⟨r,hr,rfl,h0,h1,hB⟩:=hrel
  have H0:=hJJ h0
  have H1:=hJJ h1
  have HB:=hJJ hB
  clear h0 h1 hB
  by_cases hr2:r < 2
  ·obtain ⟨l,a,cap,hidx,hrow,hring,hbad⟩:∃ (l:List Int) (a:Option Addr) (cap:Nat),(∀ W,Sem.run Tryz.prog (Instr.index 41 (.agg #[.slice a0 l0.length cap0,.slice a1 l1.length cap1]) (.int .i64 r)) W=.ok (.slice a l.length cap) W)∧IntRow wr ⟨a,cap⟩ l∧(repRow T g r l=false→(0 < r+1→repRow T g 0 l0=false)∧(1 < r+1→repRow T g 1 l1=false))∧(repRow T g r l=true→repeats T g=true):=by
    have:r=0∨r=1:=by omega
    rcases this with rfl | rfl
    ·exact ⟨l0,a0,cap0,fun W=>idx0 _ _ W,HO1.out.1.below HB.out,fun e=>⟨fun _=>e,by omega⟩,fun e=>by rw [RS.out,e];rfl⟩
    ·exact ⟨l1,a1,cap1,fun W=>idx1 _ _ W,HO1.out.2.below HB.out,fun e=>⟨fun _=>H0.out (by omega),fun _=>e⟩,fun e=>by rw [RS.out,e];simp⟩
   have HROW:=hJJ hrow
   have HRING:=hJJ hring
   have HBAD:=hJJ hbad
   have K:=hrow.len
   unfold maxLen at K
   clear hrow hring hbad
   go_wp2_with fail
   clear hidx
   go_loopw [24] (fun a' wk=>∃ j:Nat,j≤l.length∧a'=.int .i64 j∧(∀ i,i < j→atOk T g r i (l.getD i 0)=true)∧Below wr.heap.size wr wk) (fun a' _=>l.length - (intOf a').toNat)
   case atStart=>exact ⟨0,by omega,rfl,(fun i h=>by omega),Below.refl _ _⟩
   case round =>
    obtain ⟨j,hj,rfl,hall,hB2⟩:=hrel
    rename World=>wk
    have HA:=hJJ hall
    have HB2:=hJJ hB2
    clear hall hB2
    by_cases hjl:j < l.length
    ·have hv:=List.getElem?_eq_getElem hjl
     generalize hz:l[j]=z at hv
     obtain ⟨y,hy,hp⟩:=IntRow.at (HROW.out.below HB2.out) hv
     obtain rfl:a=some y:=hy
     have hgd:l.getD j 0=z:=by rw [List.getD_eq_getElem?_getD,hv];rfl
     have HGD:=hJJ hgd
     have LT:Hid (Lies wk ⟨w.heap.size,0,none⟩ c):=hJJ ((LT0.out.below HB.out).below HB2.out)
     have BW:Hid (Below w.heap.size w wk):=hJJ (S0.out.bel.trans ((HB.out.trans (HB2.out.mono HB.out.size)).mono S0.out.bel.size))
     clear hv hz hgd
     have hAT:=AT.out g r j z
     go_wp2_with (refine lgZ 32 ⟨w.heap.size,0,none⟩ c rfl LT.out Tryz.underlying32 IA.out ?_)
     refine (WH.out z _ BW.out).mono ?_
     rintro e u1 ⟨rfl,hb⟩
     have HB3:Hid (Below wr.heap.size wr u1):=hJJ (HB2.out.trans (hb.mono HB2.out.size))
     have BW1:Hid (Below w.heap.size w u1):=hJJ (BW.out.trans (hb.mono BW.out.size))
     clear hb LT BW HB2
     have HAT:=hJJ hAT
     clear hAT
     generalize wG (where_ T z)=oG at HAT ⊢
     generalize wK (where_ T z)=oK at HAT ⊢
     generalize wI (where_ T z)=oI at HAT ⊢
     generalize (where_ T z).isSome=oS
     have BAD:Hid (atOk T g r j z=false→true=res):=hJJ (fun e=>by
      rw [HRES.out];symm
      refine HBAD.out ?_
      cases hr:repRow T g r l with
      | true=>rfl
      | false=>rw [RR.out] at hr;have:=hr j hjl;rw [HGD.out,e] at this;cases this)
     by_cases e1:oG=(g:Int)
     ·by_cases e2:oK=(r:Int)
      ·by_cases e3:oI=(j:Int)
       ·subst e1 e2 e3
        have OK:=hJJ (show atOk T g r j z=true by rw [HAT.out];simp)
        go_wp2
        go_roundw
        case rel=>exact ⟨j+1,by omega,by go_num,(fun i hi=>by
         by_cases e:i=j
         ·subst e;rw [HGD.out];exact OK.out
         ·exact HA.out i (by omega)),HB3.out⟩
        case measure=>simp [intOf];omega
       ·have NO:=hJJ (BAD.out (by rw [HAT.out];simp [e3]))
        go_wp2
        go_ret
        exact ⟨ret_bool NO.out,BW1.out⟩
      ·have NO:=hJJ (BAD.out (by rw [HAT.out];simp [e2]))
       go_wp2
       go_ret
       exact ⟨ret_bool NO.out,BW1.out⟩
     ·have NO:=hJJ (BAD.out (by rw [HAT.out];simp [e1]))
      go_wp2
      go_ret
      exact ⟨ret_bool NO.out,BW1.out⟩
    ·have HE:=hJJ (HRING.out (by rw [RR.out];intro i hi;exact HA.out i (by omega)))
     have HB4:=hJJ (HB.out.trans (HB2.out.mono HB.out.size))
     go_wp2
     go_roundw
     case rel=>exact ⟨r+1,by omega,by go_num,HE.out.1,HE.out.2,HB4.out⟩
     case measure=>simp [intOf];omega
  ·have NO:=hJJ (show false=res by rw [HRES.out,RS.out,H0.out (by omega),H1.out (by omega)];rfl)
   have BW1:=hJJ (S0.out.bel.trans (HB.out.mono S0.out.bel.size))
   go_wp2
   go_ret
   exact ⟨ret_bool NO.out,BW1.out⟩
end ChkG
namespace ChkH
open Zip
open Go.ChangeShapes Go.WideShapes Go.ChangeAt Go.RowKit
open Tab PlaceM PlanM OnS ChkM ChkA ChkG
open May (ret_bool infoT St)
open Same (below_setRow)
def flt (c:Int):Option Int→Value
 | none=>.agg #[I 0,I 0]
 | some p=>.agg #[I c,I p]
theorem infoF:(Tryz.prog.info? 37).map (·.size)=some 2:=by kernel_rfl
theorem badGroup_any (T:Tab) (h:Hd) (g:Nat) (w:World) (ht:IsTab w h T) (hg:g < T.groups.length) :
  Calls Tryz.prog 110 #[.agg (T.cells h).toArray,.int .i64 g] w fun e w'=>e=.returned (.bool (groupBad T g))∧Below w.heap.size w w':=by
 have hsz:=(cells_ok ht).size
 have IA:Hid ((Tryz.prog.info? 32).map (·.size)=some (T.cells h).length):=hJJ (by rw [List.size_toArray] at hsz;rw [hsz];exact infoT)
 have ME:Hid (∀ W,Below w.heap.size w W→Calls Tryz.prog 111 #[.agg (T.cells h).toArray,.int .i64 g] W fun e w'=>e=.returned (.int .i64 (membS T g:Nat))∧Below W.heap.size W w'):=hJJ (fun W hb=>PlanC.members_any T h g W (ht.below hb))
 have AO:Hid (∀ s W,Below w.heap.size w W→Calls Tryz.prog 115 #[.agg (T.cells h).toArray,.int .i64 s] W fun e w'=>e=.returned (.bool (allOn T s))∧Below W.heap.size W w'):=hJJ (fun s W hb=>allOn_any T h s W (ht.below hb))
 have RP:Hid (∀ W,Below w.heap.size w W→Calls Tryz.prog 139 #[.agg (T.cells h).toArray,.int .i64 g] W fun e w'=>e=.returned (.bool (repeats T g))∧Below W.heap.size W w'):=hJJ (fun W hb=>repeats_any T h g W (ht.below hb) hg)
 obtain ⟨x,hx⟩:∃ x,x=groupBad T g:=⟨_,rfl⟩
 rw [← hx]
 have HR:Hid (x=(membS T g == 0 || (!allOn T (membS T g:Nat) || repeats T g))):=hJJ hx
 have A0:Hid (Below w.heap.size w (w.alloc (.cells (T.cells h).toArray 32))):=hJJ ((Below.refl _ _).alloc (Nat.le_refl _) _)
 have A1:=hJJ (Row.lies_new w (T.cells h).toArray 32)
 generalize membS T g=m at HR ME
 generalize repeats T g=rp at HR RP
 clear hx ht hg
 generalize T.cells h=c at *
 go_enter Tryz.func110,Tryz.ntmps110
 go_upto_region 1 with fail
 generalize w.alloc (.cells c.toArray 32)=u at A0 A1 ⊢
 clear hsz
 go_wp2_with (refine lgZ 32 ⟨w.heap.size,0,none⟩ c rfl A1.out Tryz.underlying32 IA.out ?_)
 refine (ME.out _ A0.out).mono ?_
 rintro e u1 ⟨rfl,hb⟩
 have B0:Hid (Below w.heap.size w u1):=hJJ (A0.out.trans (hb.mono A0.out.size))
 have B1:=hJJ (A1.out.below hb)
 clear hb A0 A1 ME
 by_cases hm:m=0
 ·have HR2:Hid (true=x):=hJJ (by rw [HR.out,hm];rfl)
  rw [hm,show (((0:Nat):Int))=(0:Int) from rfl]
  clear hm
  go_wp2
  go_ret
  exact ⟨ret_bool HR2.out,B0.out⟩
 have HM:((m:Int) == 0)=false:=by rw [beq_eq_false_iff_ne];omega
 have HR2:Hid (x=(!allOn T (m:Nat) || rp)):=hJJ (by rw [HR.out,show (m == 0)=false by rw [beq_eq_false_iff_ne];exact hm];rfl)
 have HMi:Hid (¬ ((m:Nat):Int)=0):=hJJ (by omega)
 clear HR hm
 generalize ((m:Nat):Int)=mi at HM HMi HR2 ⊢
 have hmi:=HMi.out
 have HMb:=hJJ HM
 have AO2:=hJJ (AO.out mi)
 clear AO HM
 generalize allOn T mi=ao at AO2 HR2
 go_wp2_with (refine lgZ 32 ⟨w.heap.size,0,none⟩ c rfl B1.out Tryz.underlying32 IA.out ?_)
 refine (AO2.out _ B0.out).mono ?_
 rintro e u2 ⟨rfl,hb⟩
 have A0:Hid (Below w.heap.size w u2):=hJJ (B0.out.trans (hb.mono B0.out.size))
 have A1:=hJJ (B1.out.below hb)
 clear hb B0 B1 AO2 hmi
 cases ao with
 | false =>
  have HR3:Hid (true=x):=hJJ (by rw [HR2.out];rfl)
  go_wp2
  go_ret
  exact ⟨ret_bool HR3.out,A0.out⟩
 | true =>
  have HR3:Hid (rp=x):=hJJ (by rw [HR2.out];rfl)
  go_wp2_with (refine lgZ 32 ⟨w.heap.size,0,none⟩ c rfl A1.out Tryz.underlying32 IA.out ?_)
  refine (RP.out _ A0.out).mono ?_
  rintro e u3 ⟨rfl,hb⟩
  have B0:Hid (Below w.heap.size w u3):=hJJ (A0.out.trans (hb.mono A0.out.size))
  clear hb A0 A1
  go_wp2
  go_ret
  exact ⟨ret_bool (by rw [HMb.out];exact HR3.out),B0.out⟩
theorem find_none {f:Nat→Bool} {n:Nat} (h:∀ j,j < n→f j=false):(List.range n).find? f=none:=range_miss h
theorem placed_lt (T:Tab):∀ g,placed T g < 256
 | 0=>by unfold placed;decide
 | g+1=>Nat.or_lt_two_pow (n:=8) (placed_lt T g) (memb_lt T g)
def fltC (c:Int):Option Int→Array Value
 | none=>#[I 0,I 0]
 | some p=>#[I c,I p]
theorem flt_agg (c:Int) (o:Option Int):flt c o=.agg (fltC c o):=by cases o <;> rfl
theorem rings_any (T:Tab) (h:Hd) (w:World) (ht:IsTab w h T) :
  Calls Tryz.prog 76 #[.agg (T.cells h).toArray] w fun e w'=>e=.returned (flt 8 (ringsC T))∧Below w.heap.size w w':=by
 have hsz:=(cells_ok ht).size
 have C:=hJJ (cells_ok ht)
 have IA:Hid ((Tryz.prog.info? 32).map (·.size)=some (T.cells h).length):=hJJ (by rw [List.size_toArray] at hsz;rw [hsz];exact infoT)
 have ON:Hid (∀ W,Below w.heap.size w W→Calls Tryz.prog 96 #[.agg (T.cells h).toArray] W fun e w'=>e=.returned (.int .i64 (onS T:Nat))∧Below W.heap.size W w'):=hJJ (fun W hb=>PlanO.pon_any T h W (ht.below hb))
 have ME:Hid (∀ (g:Nat) W,Below w.heap.size w W→Calls Tryz.prog 111 #[.agg (T.cells h).toArray,.int .i64 g] W fun e w'=>e=.returned (.int .i64 (membS T g:Nat))∧Below W.heap.size W w'):=hJJ (fun g W hb=>PlanC.members_any T h g W (ht.below hb))
 have BG:Hid (∀ (g:Nat) W,g < T.groups.length→Below w.heap.size w W→Calls Tryz.prog 110 #[.agg (T.cells h).toArray,.int .i64 g] W fun e w'=>e=.returned (.bool (groupBad T g))∧Below W.heap.size W w'):=hJJ (fun g W hg hb=>badGroup_any T h g W (ht.below hb) hg)
 have A0:Hid (Below w.heap.size w ((w.alloc (.cells (T.cells h).toArray 32)).alloc (.cells #[.int .i64 0,.int .i64 0] 37))):=hJJ (((Below.refl _ _).alloc (Nat.le_refl _) _).alloc (by simp) _)
 have A1:Hid (Lies ((w.alloc (.cells (T.cells h).toArray 32)).alloc (.cells #[.int .i64 0,.int .i64 0] 37)) ⟨w.heap.size,0,none⟩ (T.cells h)):=hJJ ((Row.lies_new w _ _).below ((Below.refl _ _).alloc (Nat.le_refl _) _))
 have A2:Hid (((w.alloc (.cells (T.cells h).toArray 32)).alloc (.cells #[.int .i64 0,.int .i64 0] 37)).heap[w.heap.size+1]?=some (.cells #[.int .i64 0,.int .i64 0] 37 (0,0))):=hJJ (heap_alloc2_new w _ _)
 have q104:=(((Row.lies_new w (T.cells h).toArray 32).below ((Below.refl _ _).alloc (Nat.le_refl _) (.cells #[.int .i64 0,.int .i64 0] 37))) 104 _ ((Array.getElem?_toList ..).trans C.out.g):((w.alloc (.cells (T.cells h).toArray 32)).alloc (.cells #[.int .i64 0,.int .i64 0] 37)).cell? ((⟨w.heap.size,0,none⟩:Addr).add 104)=_)
 have q104:((w.alloc (.cells (T.cells h).toArray 32)).alloc (.cells #[.int .i64 0,.int .i64 0] 37)).cell? ⟨w.heap.size,104,none⟩=some (.slice h.g.a T.groups.length h.g.cap):=q104
 have Kg:T.groups.length≤maxLen:=by
  obtain ⟨gs,hgd,hgr⟩:=ht.groups
  have:=hgr.1.len
  rw [← hgd,List.length_map];omega
 unfold maxLen at Kg
 have RC:Hid (ringsC T=_):=hJJ (by unfold ringsC;rfl)
 have LT:=hJJ (placed_lt T)
 have ML:=hJJ (memb_lt T)
 obtain ⟨o,ho⟩:∃ o,o=ringsC T:=⟨_,rfl⟩
 rw [← ho,flt_agg] 
 rw [← ho] at RC
 clear ho ht C
 generalize hn:T.groups.length=n at *
 have HN:=hJJ hn
 clear hn
 generalize h.g.cap=gcap at *
 generalize h.g.a=ga at *
 generalize T.cells h=c at *
 go_enter Tryz.func76,Tryz.ntmps76
 go_upto_region 1 with fail
 generalize ((w.alloc (.cells c.toArray 32)).alloc (.cells #[.int .i64 0,.int .i64 0] 37))=u at A0 A1 A2 q104 ⊢
 clear hsz
 by_cases hz:n=0
 ·subst hz
  have RO:Hid (o=some 0):=hJJ (by rw [RC.out];rfl)
  clear RC
  have HW:=hJJ (below_setRow A0.out (g:=w.heap.size+1) (by omega) #[I 8,I 0])
  have HK:=hJJ (setRow_heap u (w.heap.size+1) _ #[I 8,I 0] _ _ A2.out)
  go_wp2_with (first | (refine wpList_store_row rfl 37 _ _ rfl (w.heap.size+1) #[I 8,I 0] rfl rfl 37 _ A2.out infoF rfl (by simp [Value.oneCell']) ?_))
  generalize u.setRow (w.heap.size+1) #[I 8,I 0]=uz at HW HK ⊢
  (try go_wp2_with fail)
  (try simp only [Exit.inBlock,Exit.then])
  refine bodyPost_ret (v:=.agg #[I 8,I 0]) ?_ rfl ⟨by rw [RO.out];rfl,HW.out⟩
  exact results_cell_row rfl _ _ (w.heap.size+1) 37 _ (0,0) _ rfl HK.out Tryz.underlying37 rfl infoF
 ·have HZ:Hid (¬ n=0):=hJJ hz
  have hzi:((n:Int) == 0)=false:=by rw [beq_eq_false_iff_ne];omega
  have hzj:¬ ((n:Int)=0):=by omega
  rw [if_neg hz] at RC
  clear hz
  go_wp2_with fail
  clear hzi hzj q104
  go_loopw [3,13] (fun s a wr=>∃ q:Nat,q≤n∧s=.int .i64 (placed T q:Nat)∧a=.int .i64 q∧(∀ j,j < q→groupBad T j=false)∧Below u.heap.size u wr) (fun _ a _=>n - (intOf a).toNat)
  case atStart=>exact ⟨0,by omega,rfl,rfl,(fun j h=>by omega),Below.refl _ _⟩
  case round =>
   obtain ⟨q,hq,rfl,rfl,hall,hB⟩:=hrel
   have HA:=hJJ hall
   have B0:Hid (Below w.heap.size w wr):=hJJ (A0.out.trans (hB.mono A0.out.size))
   have B1:=hJJ (A1.out.below hB)
   have B2:Hid (wr.heap[w.heap.size+1]?=some (.cells #[.int .i64 0,.int .i64 0] 37 (0,0))):=hJJ ((hB.block _ (Array.getElem?_eq_some_iff.1 A2.out).1).trans A2.out)
   have B3:=hJJ hB
   clear hall hB
   by_cases hlt:q < n
   ·go_wp2_with (refine lgZ 32 ⟨w.heap.size,0,none⟩ c rfl B1.out Tryz.underlying32 IA.out ?_)
    refine (BG.out q _ hlt B0.out).mono ?_
    rintro e u1 ⟨rfl,hb⟩
    have C0:Hid (Below w.heap.size w u1):=hJJ (B0.out.trans (hb.mono B0.out.size))
    have C1:=hJJ (B1.out.below hb)
    have C2:Hid (u1.heap[w.heap.size+1]?=some (.cells #[.int .i64 0,.int .i64 0] 37 (0,0))):=hJJ ((hb.block _ (Array.getElem?_eq_some_iff.1 B2.out).1).trans B2.out)
    have C3:=hJJ (B3.out.trans (hb.mono B3.out.size))
    clear hb B0 B1 B2 B3
    cases hgb:groupBad T q with
    | true =>
     have RO:Hid (o=some (q:Int)):=hJJ (by rw [RC.out,range_hit hlt hgb HA.out])
     clear hgb
     have HW:=hJJ (below_setRow C0.out (g:=w.heap.size+1) (by omega) #[I 8,I q])
     have HK:=hJJ (setRow_heap u1 (w.heap.size+1) _ #[I 8,I q] _ _ C2.out)
     go_wp2_with (first | (refine wpList_store_row rfl 37 _ _ rfl (w.heap.size+1) #[I 8,I q] rfl rfl 37 _ C2.out infoF rfl (by simp [Value.oneCell']) ?_))
     generalize u1.setRow (w.heap.size+1) #[I 8,I q]=uz at HW HK ⊢
     (try go_wp2_with fail)
     (try simp only [Exit.inBlock,Exit.then])
     refine bodyPost_ret (v:=.agg #[I 8,I q]) ?_ rfl ⟨by rw [RO.out];rfl,HW.out⟩
     exact results_cell_row rfl _ _ (w.heap.size+1) 37 _ (0,0) _ rfl HK.out Tryz.underlying37 rfl infoF
    | false =>
     have HG:=hJJ hgb
     clear hgb
     go_wp2_with (refine lgZ 32 ⟨w.heap.size,0,none⟩ c rfl C1.out Tryz.underlying32 IA.out ?_)
     refine (ME.out q _ C0.out).mono ?_
     rintro e u2 ⟨rfl,hb⟩
     have D3:=hJJ (C3.out.trans (hb.mono C3.out.size))
     have OR:Hid (bits .or .i64 (placed T q:Nat) (membS T q:Nat)=(placed T (q+1):Nat)):=hJJ (RefS.or_small _ _ (LT.out _) (ML.out _))
     clear hb C0 C1 C2 C3
     generalize membS T q=mq at OR ⊢
     generalize placed T q=pq at OR ⊢
     go_wp2
     go_roundw
     case rel=>exact ⟨q+1,by omega,by rw [OR.out],by go_num,(fun j hj=>by
      by_cases e:j=q
      ·subst e;exact HG.out
      ·exact HA.out j (by omega)),D3.out⟩
     case measure=>simp [intOf];omega
   ·have hqn:q=n:=by omega
    have RC2:Hid (o=if bits .andNot .i64 (onS T:Nat) (placed T n:Nat)=0 then none else some 0):=hJJ (by rw [RC.out,find_none (fun j hj=>HA.out j (by omega))])
    rw [hqn]
    clear RC hlt hqn hq HA
    go_wp2_with (refine lgZ 32 ⟨w.heap.size,0,none⟩ c rfl B1.out Tryz.underlying32 IA.out ?_)
    refine (ON.out _ B0.out).mono ?_
    rintro e u1 ⟨rfl,hb⟩
    have C0:Hid (Below w.heap.size w u1):=hJJ (B0.out.trans (hb.mono B0.out.size))
    have C2:Hid (u1.heap[w.heap.size+1]?=some (.cells #[.int .i64 0,.int .i64 0] 37 (0,0))):=hJJ ((hb.block _ (Array.getElem?_eq_some_iff.1 B2.out).1).trans B2.out)
    clear hb B0 B1 B2 B3
    generalize placed T n=pq at RC2 ⊢
    generalize onS T=m at RC2 ⊢
    by_cases hz:bits .andNot .i64 (m:Int) (pq:Int)=0
    ·have RO:Hid (o=none):=hJJ (by rw [RC2.out,if_pos hz])
     have HW:=hJJ (below_setRow C0.out (g:=w.heap.size+1) (by omega) #[I 0,I 0])
     have HK:=hJJ (setRow_heap u1 (w.heap.size+1) _ #[I 0,I 0] _ _ C2.out)
     go_wp2_with (first | (refine wpList_store_row rfl 37 _ _ rfl (w.heap.size+1) #[I 0,I 0] rfl rfl 37 _ C2.out infoF rfl (by simp [Value.oneCell']) ?_))
     generalize u1.setRow (w.heap.size+1) #[I 0,I 0]=uz at HW HK ⊢
     (try go_wp2_with fail)
     (try simp only [Exit.inBlock,Exit.then])
     refine bodyPost_ret (v:=.agg #[I 0,I 0]) ?_ rfl ⟨by rw [RO.out];rfl,HW.out⟩
     exact results_cell_row rfl _ _ (w.heap.size+1) 37 _ (0,0) _ rfl HK.out Tryz.underlying37 rfl infoF
    ·have RO:Hid (o=some 0):=hJJ (by rw [RC2.out,if_neg hz])
     have HW:=hJJ (below_setRow C0.out (g:=w.heap.size+1) (by omega) #[I 8,I 0])
     have HK:=hJJ (setRow_heap u1 (w.heap.size+1) _ #[I 8,I 0] _ _ C2.out)
     go_wp2_with (first | (refine wpList_store_row rfl 37 _ _ rfl (w.heap.size+1) #[I 8,I 0] rfl rfl 37 _ C2.out infoF rfl (by simp [Value.oneCell']) ?_))
     generalize u1.setRow (w.heap.size+1) #[I 8,I 0]=uz at HW HK ⊢
     (try go_wp2_with fail)
     (try simp only [Exit.inBlock,Exit.then])
     refine bodyPost_ret (v:=.agg #[I 8,I 0]) ?_ rfl ⟨by rw [RO.out];rfl,HW.out⟩
     exact results_cell_row rfl _ _ (w.heap.size+1) 37 _ (0,0) _ rfl HK.out Tryz.underlying37 rfl infoF
end ChkH
namespace RkR
open Zip
open Go.ChangeShapes Go.WideShapes Go.ChangeAt Go.RowKit
open Tab PlaceM PlanM OnS ChkM ChkH
open ChkB (laid2)
open Same (below_setRow)
open Where (infoS)
open RefS (rhas_any rwith_any)
open May (ret_bool infoT)
theorem fold_cons (on:Int) (g:Nat) (S:List Spt) (j:Nat) (x:Spt) (h:S[j]?=some x) (st:Nat × Nat):foldR on g (S.drop j) st=foldR on g (x :: S.drop (j+1)) st:=by
 obtain ⟨h1,h2⟩:=List.getElem?_eq_some_iff.1 h
 rw [List.drop_eq_getElem_cons h1,h2]
theorem fold_other {on:Int} {g n s:Nat} {x:Spt} {l:List Spt} (h:¬ x.g=g):foldR on g (x :: l) (n,s)=foldR on g l (n,s):=by unfold foldR;rw [if_neg h];cases l <;> rfl
theorem fold_bad {on:Int} {g n s:Nat} {x:Spt} {l:List Spt} (h:x.g=g) (hb:(!SetM.has on x.p || SetM.has (s:Nat) x.p)=true):foldR on g (x :: l) (n,s)=none:=by unfold foldR;rw [if_pos h,if_pos hb]
theorem fold_good {on:Int} {g n s:Nat} {x:Spt} {l:List Spt} (h:x.g=g) (hb:(!SetM.has on x.p || SetM.has (s:Nat) x.p)=false):foldR on g (x :: l) (n,s)=foldR on g l (n+1,SetM.withN (s:Nat) x.p):=by
 rw [foldR,if_pos h,if_neg (by rw [hb];simp)]
theorem loop_none {T:Tab} {m g seen:Nat} (h:foldR (onS T:Nat) g (spots T) (0,seen)=none):loopR T (m+1) g seen=some (g:Int):=by rw [loopR,h]
theorem loop_zero {T:Tab} {m g seen s:Nat} (h:foldR (onS T:Nat) g (spots T) (0,seen)=some (0,s)):loopR T (m+1) g seen=some (g:Int):=by rw [loopR,h];rfl
theorem loop_next {T:Tab} {m g seen n s:Nat} (h:foldR (onS T:Nat) g (spots T) (0,seen)=some (n,s)) (hn:¬ n=0):loopR T (m+1) g seen=loopR T m (g+1) s:=by rw [loopR,h];exact if_neg hn
theorem rrings_any (T:Tab) (h:Hd) (w:World) (ht:IsTab w h T) (sm:Few T) :
  Calls Tryz.prog 50 #[.agg (T.cells h).toArray] w fun e w'=>e=.returned (.agg (fltC 8 (ringsR T)))∧Below w.heap.size w w':=by
 have hsz:=(cells_ok ht).size
 have C:=hJJ (cells_ok ht)
 have IA:Hid ((Tryz.prog.info? 32).map (·.size)=some (T.cells h).length):=hJJ (by rw [List.size_toArray] at hsz;rw [hsz];exact infoT)
 have ON:Hid (∀ W,Below w.heap.size w W→Calls Tryz.prog 22 #[.agg (T.cells h).toArray] W fun e w'=>e=.returned (.int .i64 (onS T:Nat))∧Below W.heap.size W w'):=hJJ (fun W hb=>OnS.on_any T h W (ht.below hb))
 have SPC:Hid (∀ W,Below w.heap.size w W→Calls Tryz.prog 18 #[.agg (T.cells h).toArray] W fun e w'=>∃ s:Sl,e=.returned (s.val (spots T).length)∧RowOf 4 Spt.cells w' s (spots T)∧Below W.heap.size W w'):=hJJ (fun W hb=>Spots.spots_any T h W (ht.below hb) sm)
 have A0:Hid (Below w.heap.size w ((w.alloc (.cells (T.cells h).toArray 32)).alloc (.cells #[.int .i64 0,.int .i64 0] 37))):=hJJ (((Below.refl _ _).alloc (Nat.le_refl _) _).alloc (by simp) _)
 have A1:Hid (Lies ((w.alloc (.cells (T.cells h).toArray 32)).alloc (.cells #[.int .i64 0,.int .i64 0] 37)) ⟨w.heap.size,0,none⟩ (T.cells h)):=hJJ ((Row.lies_new w _ _).below ((Below.refl _ _).alloc (Nat.le_refl _) _))
 have A2:Hid (((w.alloc (.cells (T.cells h).toArray 32)).alloc (.cells #[.int .i64 0,.int .i64 0] 37)).heap[w.heap.size+1]?=some (.cells #[.int .i64 0,.int .i64 0] 37 (0,0))):=hJJ (heap_alloc2_new w _ _)
 have q104:((w.alloc (.cells (T.cells h).toArray 32)).alloc (.cells #[.int .i64 0,.int .i64 0] 37)).cell? ⟨w.heap.size,104,none⟩=some (.slice h.g.a T.groups.length h.g.cap):=A1.out 104 _ ((Array.getElem?_toList ..).trans C.out.g)
 have Kg:T.groups.length≤maxLen:=by
  obtain ⟨gs,hgd,hgr⟩:=ht.groups
  have:=hgr.1.len
  rw [← hgd,List.length_map];omega
 unfold maxLen at Kg
 obtain ⟨o,ho⟩:∃ o,o=ringsR T:=⟨_,rfl⟩
 rw [← ho]
 have RC:Hid (o=if T.groups.length=0 then some 0 else loopR T T.groups.length 0 0):=hJJ ho
 have OL:Hid (onS T < 256):=hJJ (SetM.of_lt _)
 have F1:Hid (∀ {m g seen:Nat},foldR (onS T:Nat) g (spots T) (0,seen)=none→loopR T (m+1) g seen=some (g:Int)):=hJJ loop_none
 have F2:Hid (∀ {m g seen s:Nat},foldR (onS T:Nat) g (spots T) (0,seen)=some (0,s)→loopR T (m+1) g seen=some (g:Int)):=hJJ loop_zero
 have F3:Hid (∀ {m g seen n s:Nat},foldR (onS T:Nat) g (spots T) (0,seen)=some (n,s)→¬ n=0→loopR T (m+1) g seen=loopR T m (g+1) s):=hJJ loop_next
 have F4:Hid (∀ g seen,loopR T 0 g seen=if seen=onS T then none else some 0):=hJJ (fun _ _=>rfl)
 clear ho ht C sm
 generalize T.groups.length=n at *
 generalize h.g.cap=gcap at *
 generalize h.g.a=ga at *
 generalize T.cells h=c at *
 generalize loopR T=lr at *
 generalize spots T=S at *
 generalize onS T=on at *
 go_enter Tryz.func50,Tryz.ntmps50
 go_upto_region 1 with fail
 generalize ((w.alloc (.cells c.toArray 32)).alloc (.cells #[.int .i64 0,.int .i64 0] 37))=u at A0 A1 A2 q104 ⊢
 have Q104:=hJJ q104
 clear hsz
 by_cases hz:n=0
 ·subst hz
  have RO:Hid (o=some 0):=hJJ (by rw [RC.out];rfl)
  clear RC
  have HW:=hJJ (below_setRow A0.out (g:=w.heap.size+1) (by omega) #[I 8,I 0])
  have HK:=hJJ (setRow_heap u (w.heap.size+1) _ #[I 8,I 0] _ _ A2.out)
  go_wp2_with (first | (refine wpList_store_row rfl 37 _ _ rfl (w.heap.size+1) #[I 8,I 0] rfl rfl 37 _ A2.out infoF rfl (by simp [Value.oneCell']) ?_))
  generalize u.setRow (w.heap.size+1) #[I 8,I 0]=uz at HW HK ⊢
  (try go_wp2_with fail)
  (try simp only [Exit.inBlock,Exit.then])
  refine bodyPost_ret (v:=.agg #[I 8,I 0]) ?_ rfl ⟨by rw [RO.out];rfl,HW.out⟩
  exact results_cell_row rfl _ _ (w.heap.size+1) 37 _ (0,0) _ rfl HK.out Tryz.underlying37 rfl infoF
 ·have hzi:((n:Int) == 0)=false:=by rw [beq_eq_false_iff_ne];omega
  have hzj:¬ ((n:Int)=0):=by omega
  have RC2:Hid (o=lr n 0 0):=hJJ (by rw [RC.out,if_neg hz])
  clear hz RC
  go_wp2_with (refine lgZ 32 ⟨w.heap.size,0,none⟩ c rfl A1.out Tryz.underlying32 IA.out ?_)
  (try go_wp2_with fail)
  refine (ON.out _ A0.out).mono ?_
  rintro e u1 ⟨rfl,hb⟩
  have B0:Hid (Below w.heap.size w u1):=hJJ (A0.out.trans (hb.mono A0.out.size))
  have B1:=hJJ (A1.out.below hb)
  have B2:Hid (u1.heap[w.heap.size+1]?=some (.cells #[.int .i64 0,.int .i64 0] 37 (0,0))):=hJJ ((hb.block _ (Array.getElem?_eq_some_iff.1 A2.out).1).trans A2.out)
  have BQ:=hJJ ((hb.cell (World.block_lt_of_cell? u _ Q104.out)).trans Q104.out)
  clear hb hzi hzj q104 A0 A1 A2 Q104
  go_wp2_with fail
  go_loopw [4,5] (fun s a wr=>∃ q seen:Nat,q≤n∧seen < 256∧s=.int .i64 (seen:Nat)∧a=.int .i64 q∧o=lr (n - q) q seen∧Below u1.heap.size u1 wr) (fun _ a _=>n - (intOf a).toNat)
  case atStart=>exact ⟨0,0,by omega,by decide,rfl,rfl,RC2.out,Below.refl _ _⟩
  case round =>
   obtain ⟨q,seen,hq,hseen,rfl,rfl,ho,hB⟩:=hrel
   have HO:=hJJ ho
   have HSE:=hJJ hseen
   have C0:Hid (Below w.heap.size w wr):=hJJ (B0.out.trans (hB.mono B0.out.size))
   have C1:=hJJ (B1.out.below hB)
   have C2:Hid (wr.heap[w.heap.size+1]?=some (.cells #[.int .i64 0,.int .i64 0] 37 (0,0))):=hJJ ((hB.block _ (Array.getElem?_eq_some_iff.1 B2.out).1).trans B2.out)
   have q104:=(hB.cell (World.block_lt_of_cell? u1 _ BQ.out)).trans BQ.out
   have C3:=hJJ hB
   clear ho hB hseen RC2
   by_cases hlt:q < n
   ·obtain ⟨m,hm⟩:∃ m,n - q=m+1:=⟨n - q - 1,by omega⟩
    have HM:Hid (n - (q+1)=m):=hJJ (by omega)
    have HO2:Hid (o=lr (m+1) q seen):=hJJ (by rw [← hm];exact HO.out)
    clear hm HO
    go_wp2_with (refine lgZ 32 ⟨w.heap.size,0,none⟩ c rfl C1.out Tryz.underlying32 IA.out ?_)
    (try go_wp2_with fail)
    refine (SPC.out _ C0.out).mono ?_
    rintro e u2 ⟨⟨sa,scap⟩,rfl,hrow,hb⟩
    rw [show (Sl.val ⟨sa,scap⟩ S.length)=.slice sa S.length scap from rfl]
    have D0:Hid (Below w.heap.size w u2):=hJJ (C0.out.trans (hb.mono C0.out.size))
    have D2:Hid (u2.heap[w.heap.size+1]?=some (.cells #[.int .i64 0,.int .i64 0] 37 (0,0))):=hJJ ((hb.block _ (Array.getElem?_eq_some_iff.1 C2.out).1).trans C2.out)
    have D3:=hJJ (C3.out.trans (hb.mono C3.out.size))
    have HR:=hJJ hrow
    have K:=hrow.len
    unfold maxLen at K
    clear hrow hb q104 C0 C1 C2 C3
    go_wp2_with fail
    go_loopw [4,6,26] (fun s a i wk=>∃ j k sn:Nat,j≤S.length∧k≤j∧sn < 256∧s=.int .i64 (sn:Nat)∧a=.int .i64 (k:Nat)∧i=.int .i64 j∧foldR on q S (0,seen)=foldR on q (S.drop j) (k,sn)∧Below u2.heap.size u2 wk) (fun _ _ i _=>S.length - (intOf i).toNat)
    case atStart=>exact ⟨0,0,seen,by omega,by omega,HSE.out,rfl,rfl,rfl,rfl,Below.refl _ _⟩
    case round =>
     obtain ⟨j,k,sn,hj,hkj,hsn,rfl,rfl,rfl,hf,hB2⟩:=hrel
     rename World=>wk
     have HF:=hJJ hf
     have HSN:=hJJ hsn
     have HB2:=hJJ hB2
     have G0:Hid (Below w.heap.size w wk):=hJJ (D0.out.trans (hB2.mono D0.out.size))
     have G2:Hid (wk.heap[w.heap.size+1]?=some (.cells #[.int .i64 0,.int .i64 0] 37 (0,0))):=hJJ ((hB2.block _ (Array.getElem?_eq_some_iff.1 D2.out).1).trans D2.out)
     clear hf hB2 hsn
     by_cases hjl:j < S.length
     ·have hv:=List.getElem?_eq_getElem hjl
      generalize S[j]=x at hv
      obtain ⟨y,hy,hc⟩:=(HR.out.below HB2.out).at hv
      obtain rfl:sa=some y:=hy
      have FC:=hJJ (HF.out.trans (fold_cons on q S j x hv (k,sn)))
      have HC:=hJJ hc
      clear hv hc HF
      obtain ⟨xg,xk,xi,xp⟩:=x
      have hwk:=HB2.out.size
      go_upto_region 12 with (first | (refine Row.wpList_load_g 55 _ rfl (by first | rfl | go_simp) (y.add (j*4)) rfl (Spt.cells ⟨xg,xk,xi,xp⟩) _ HC.out Tryz.underlying55 rfl infoS ?_) | (refine Row.wpList_store_new rfl 55 _ _ rfl wk _ (Spt.cells ⟨xg,xk,xi,xp⟩).toArray rfl rfl rfl infoS rfl (Spt.one _) ?_))
      have hbn:Below u2.heap.size u2 (wk.alloc (.cells (Spt.cells ⟨xg,xk,xi,xp⟩).toArray 55)):=HB2.out.alloc hwk _
      have hgn:=heap_alloc_new wk (.cells (Spt.cells ⟨xg,xk,xi,xp⟩).toArray 55)
      have d0:(wk.alloc (.cells (Spt.cells ⟨xg,xk,xi,xp⟩).toArray 55)).cell? ⟨wk.heap.size,0,none⟩=some (I xg):=by rw [cell_of_row _ _ _ _ _ _ hgn];rfl
      have d3:(wk.alloc (.cells (Spt.cells ⟨xg,xk,xi,xp⟩).toArray 55)).cell? ⟨wk.heap.size,3,none⟩=some (I xp):=by rw [cell_of_row _ _ _ _ _ _ hgn];rfl
      have HN:=hJJ hbn
      have G0':Hid (Below w.heap.size w (wk.alloc (.cells (Spt.cells ⟨xg,xk,xi,xp⟩).toArray 55))):=hJJ (G0.out.alloc G0.out.size _)
      clear hbn hgn HC G0
      generalize hxc:(Spt.cells ⟨xg,xk,xi,xp⟩)=xc at *
      clear hxc
      generalize wk.alloc (.cells xc.toArray 55)=w4 at HN d0 d3 G0' ⊢
      generalize wk.heap.size=b4 at d0 d3 ⊢
      have D3X:=hJJ d3
      by_cases hg:((xg:Nat):Int)=(q:Int)
      ·have hgn:xg=q:=by omega
       have FB:=hJJ (fun e=>FC.out.trans (fold_bad (on:=on) (n:=k) (s:=sn) (l:=S.drop (j+1)) (x:=⟨xg,xk,xi,xp⟩) hgn e))
       have FG:=hJJ (fun e=>FC.out.trans (fold_good (on:=on) (n:=k) (s:=sn) (l:=S.drop (j+1)) (x:=⟨xg,xk,xi,xp⟩) hgn e))
       have hgb:(((xg:Nat):Int) != (q:Int))=false:=by rw [bne_eq_false_iff_eq];exact hg
       have hgi:=hg
       clear hg
       obtain ⟨va,hva⟩:∃ z,SetM.has (on:Nat) xp=z:=⟨_,rfl⟩
       obtain ⟨vb,hvb⟩:∃ z,SetM.has (sn:Nat) xp=z:=⟨_,rfl⟩
       have HVA:=hJJ hva
       have HVB:=hJJ hvb
       have FB:=hJJ (fun (e:(!va || vb)=true)=>FB.out (by rw [← e,← hva,← hvb]))
       have FG:=hJJ (fun (e:(!va || vb)=false)=>FG.out (by rw [← e,← hva,← hvb]))
       have WL:=hJJ (SetM.with_lt (sn:Nat) xp)
       clear hva hvb hgi hgn
       have hk62:((k:Nat):Int) < 9223372036854775807:=by omega
       go_wp2_with fail
       refine (rhas_any _ _ _).mono ?_
       rintro e w' ⟨rfl,rfl⟩
       rw [HVA.out]
       cases va with
       | false =>
        have RO:Hid (o=some (q:Int)):=hJJ (by rw [HO2.out];exact F1.out (FB.out rfl))
        have G2':Hid (w4.heap[w.heap.size+1]?=some (.cells #[.int .i64 0,.int .i64 0] 37 (0,0))):=hJJ ((HN.out.block _ (Array.getElem?_eq_some_iff.1 D2.out).1).trans D2.out)
        clear d0 d3 hgb
        have HW:=hJJ (below_setRow G0'.out (g:=w.heap.size+1) (by omega) #[I 8,I q])
        have HK:=hJJ (setRow_heap w4 (w.heap.size+1) _ #[I 8,I q] _ _ G2'.out)
        go_wp2_with (first | (refine wpList_store_row rfl 37 _ _ rfl (w.heap.size+1) #[I 8,I q] rfl rfl 37 _ G2'.out infoF rfl (by simp [Value.oneCell']) ?_))
        generalize w4.setRow (w.heap.size+1) #[I 8,I q]=uz at HW HK ⊢
        (try go_wp2_with fail)
        (try simp only [Exit.inBlock,Exit.then])
        refine bodyPost_ret (v:=.agg #[I 8,I q]) ?_ rfl ⟨by rw [RO.out];rfl,HW.out⟩
        exact results_cell_row rfl _ _ (w.heap.size+1) 37 _ (0,0) _ rfl HK.out Tryz.underlying37 rfl infoF
       | true =>
        have d3:=D3X.out
        go_wp2_with fail
        refine (rhas_any _ _ _).mono ?_
        rintro e w' ⟨rfl,rfl⟩
        rw [HVB.out]
        cases vb with
        | true =>
         have RO:Hid (o=some (q:Int)):=hJJ (by rw [HO2.out];exact F1.out (FB.out rfl))
         have G2':Hid (w4.heap[w.heap.size+1]?=some (.cells #[.int .i64 0,.int .i64 0] 37 (0,0))):=hJJ ((HN.out.block _ (Array.getElem?_eq_some_iff.1 D2.out).1).trans D2.out)
         clear d0 d3 hgb
         have HW:=hJJ (below_setRow G0'.out (g:=w.heap.size+1) (by omega) #[I 8,I q])
         have HK:=hJJ (setRow_heap w4 (w.heap.size+1) _ #[I 8,I q] _ _ G2'.out)
         go_wp2_with (first | (refine wpList_store_row rfl 37 _ _ rfl (w.heap.size+1) #[I 8,I q] rfl rfl 37 _ G2'.out infoF rfl (by simp [Value.oneCell']) ?_))
         generalize w4.setRow (w.heap.size+1) #[I 8,I q]=uz at HW HK ⊢
         (try go_wp2_with fail)
         (try simp only [Exit.inBlock,Exit.then])
         refine bodyPost_ret (v:=.agg #[I 8,I q]) ?_ rfl ⟨by rw [RO.out];rfl,HW.out⟩
         exact results_cell_row rfl _ _ (w.heap.size+1) 37 _ (0,0) _ rfl HK.out Tryz.underlying37 rfl infoF
        | false =>
         have NX:=hJJ (FG.out rfl)
         clear FB FG FC
         go_wp2_with fail
         refine (rwith_any _ _ _).mono ?_
         rintro e w5 ⟨rfl,hb⟩
         have HN5:=hJJ (HN.out.trans (hb.mono HN.out.size))
         clear hb d0 d3
         go_wp2
         go_roundw
         case rel=>exact ⟨j+1,k+1,_,by omega,by omega,WL.out,rfl,by go_num,by go_num,NX.out,HN5.out⟩
         case measure=>simp [intOf];omega
      ·have hgn:¬ xg=q:=by omega
       have NX:=hJJ (FC.out.trans (fold_other (on:=on) (n:=k) (s:=sn) (l:=S.drop (j+1)) (x:=⟨xg,xk,xi,xp⟩) hgn))
       have hgb:(((xg:Nat):Int) != (q:Int))=true:=by rw [bne_iff_ne];exact hg
       have hgi:¬ ((xg:Nat):Int)=(q:Int):=hg
       clear hg hgn FC
       go_wp2
       go_roundw
       case rel=>exact ⟨j+1,k,sn,by omega,by omega,HSN.out,rfl,rfl,by go_num,NX.out,HN.out⟩
       case measure=>simp [intOf];omega
     ·have FE:Hid (foldR on q S (0,seen)=some (k,sn)):=hJJ (by rw [HF.out,List.drop_of_length_le (by omega)];rfl)
      by_cases hk:k=0
      ·subst hk
       have RO:Hid (o=some (q:Int)):=hJJ (by rw [HO2.out];exact F2.out FE.out)
       have HW:=hJJ (below_setRow G0.out (g:=w.heap.size+1) (by omega) #[I 8,I q])
       have HK:=hJJ (setRow_heap wk (w.heap.size+1) _ #[I 8,I q] _ _ G2.out)
       go_wp2_with (first | (refine wpList_store_row rfl 37 _ _ rfl (w.heap.size+1) #[I 8,I q] rfl rfl 37 _ G2.out infoF rfl (by simp [Value.oneCell']) ?_))
       generalize wk.setRow (w.heap.size+1) #[I 8,I q]=uz at HW HK ⊢
       (try go_wp2_with fail)
       (try simp only [Exit.inBlock,Exit.then])
       refine bodyPost_ret (v:=.agg #[I 8,I q]) ?_ rfl ⟨by rw [RO.out];rfl,HW.out⟩
       exact results_cell_row rfl _ _ (w.heap.size+1) 37 _ (0,0) _ rfl HK.out Tryz.underlying37 rfl infoF
      ·have hki:((k:Nat):Int) ≠ 0:=by omega
       have hkb:(((k:Nat):Int) == 0)=false:=by rw [beq_eq_false_iff_ne];exact hki
       have NX:Hid (o=lr (n - (q+1)) (q+1) sn):=hJJ (by rw [HO2.out,HM.out];exact F3.out FE.out hk)
       have E3:=hJJ (D3.out.trans (HB2.out.mono D3.out.size))
       clear hk
       go_wp2
       go_roundw
       case rel=>exact ⟨q+1,sn,by omega,HSN.out,rfl,by go_num,NX.out,E3.out⟩
       case measure=>simp [intOf];omega
   ·have hqn:q=n:=by omega
    have RL:Hid (o=if seen=on then none else some 0):=hJJ (by rw [HO.out,hqn,Nat.sub_self];exact F4.out _ _)
    by_cases he:((seen:Nat):Int)=(on:Int)
    ·have heb:(((seen:Nat):Int) != (on:Int))=false:=by rw [bne_eq_false_iff_eq];exact he
     have RO:Hid (o=none):=hJJ (by rw [RL.out,if_pos (by omega)])
     clear he
     have HW:=hJJ (below_setRow C0.out (g:=w.heap.size+1) (by omega) #[I 0,I 0])
     have HK:=hJJ (setRow_heap wr (w.heap.size+1) _ #[I 0,I 0] _ _ C2.out)
     go_wp2_with (first | (refine wpList_store_row rfl 37 _ _ rfl (w.heap.size+1) #[I 0,I 0] rfl rfl 37 _ C2.out infoF rfl (by simp [Value.oneCell']) ?_))
     generalize wr.setRow (w.heap.size+1) #[I 0,I 0]=uz at HW HK ⊢
     (try go_wp2_with fail)
     (try simp only [Exit.inBlock,Exit.then])
     refine bodyPost_ret (v:=.agg #[I 0,I 0]) ?_ rfl ⟨by rw [RO.out];rfl,HW.out⟩
     exact results_cell_row rfl _ _ (w.heap.size+1) 37 _ (0,0) _ rfl HK.out Tryz.underlying37 rfl infoF
    ·have heb:(((seen:Nat):Int) != (on:Int))=true:=by rw [bne_iff_ne];exact he
     have RO:Hid (o=some 0):=hJJ (by rw [RL.out,if_neg (by omega)])
     clear he
     have HW:=hJJ (below_setRow C0.out (g:=w.heap.size+1) (by omega) #[I 8,I 0])
     have HK:=hJJ (setRow_heap wr (w.heap.size+1) _ #[I 8,I 0] _ _ C2.out)
     go_wp2_with (first | (refine wpList_store_row rfl 37 _ _ rfl (w.heap.size+1) #[I 8,I 0] rfl rfl 37 _ C2.out infoF rfl (by simp [Value.oneCell']) ?_))
     generalize wr.setRow (w.heap.size+1) #[I 8,I 0]=uz at HW HK ⊢
     (try go_wp2_with fail)
     (try simp only [Exit.inBlock,Exit.then])
     refine bodyPost_ret (v:=.agg #[I 8,I 0]) ?_ rfl ⟨by rw [RO.out];rfl,HW.out⟩
     exact results_cell_row rfl _ _ (w.heap.size+1) 37 _ (0,0) _ rfl HK.out Tryz.underlying37 rfl infoF
end RkR
end Go.Proofs.YtjolhoilcibdfaaGreat
