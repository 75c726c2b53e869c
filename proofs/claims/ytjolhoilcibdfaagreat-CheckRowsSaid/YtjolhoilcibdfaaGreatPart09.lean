/- 8 texts in one file, in build order. -/
import Derived.Test.YtjolhoilcibdfaaGreatPart01
import Derived.Test.YtjolhoilcibdfaaGreatRows
import Derived.Test.YtjolhoilcibdfaaGreatPart08
set_option linter.unusedVariables false
set_option linter.unusedSimpArgs false
set_option linter.unusedSectionVars false
set_option maxHeartbeats 8000000
set_option maxRecDepth 100000
namespace Go.Proofs.YtjolhoilcibdfaaGreat
namespace ChkH
open Zip
open Go.ChangeShapes Go.WideShapes Go.ChangeAt Go.RowKit
open Tab PlaceM PlanM OnS ChkM ChkA ChkG
open May (ret_bool infoT St)
open Same (below_setRow)
def flt (c:Int):Option Int→Value
 | none=>.agg #[I 0,I 0]
 | some p=>.agg #[I c,I p]
theorem infoF:(Tryz.prog.info? 37).map (·.size)=some 2:=by kernel_rfl
theorem badGroup_any (T:Tab) (h:Hd) (g:Nat) (w:World) (ht:IsTab w h T) (hg:g < T.groups.length) :
  Calls Tryz.prog 110 #[.agg (T.cells h).toArray,.int .i64 g] w fun e w'=>e=.returned (.bool (groupBad T g))∧Below w.heap.size w w':=by
 have hsz:=(cells_ok ht).size
 have IA:Hid ((Tryz.prog.info? 32).map (·.size)=some (T.cells h).length):=hJJ (by rw [List.size_toArray] at hsz;rw [hsz];exact infoT)
 have ME:Hid (∀ W,Below w.heap.size w W→Calls Tryz.prog 111 #[.agg (T.cells h).toArray,.int .i64 g] W fun e w'=>e=.returned (.int .i64 (membS T g:Nat))∧Below W.heap.size W w'):=hJJ (fun W hb=>PlanC.members_any T h g W (ht.below hb))
 have AO:Hid (∀ s W,Below w.heap.size w W→Calls Tryz.prog 115 #[.agg (T.cells h).toArray,.int .i64 s] W fun e w'=>e=.returned (.bool (allOn T s))∧Below W.heap.size W w'):=hJJ (fun s W hb=>allOn_any T h s W (ht.below hb))
 have RP:Hid (∀ W,Below w.heap.size w W→Calls Tryz.prog 139 #[.agg (T.cells h).toArray,.int .i64 g] W fun e w'=>e=.returned (.bool (repeats T g))∧Below W.heap.size W w'):=hJJ (fun W hb=>repeats_any T h g W (ht.below hb) hg)
 obtain ⟨x,hx⟩:∃ x,x=groupBad T g:=⟨_,rfl⟩
 rw [← hx]
 have HR:Hid (x=(membS T g == 0 || (!allOn T (membS T g:Nat) || repeats T g))):=hJJ hx
 have A0:Hid (Below w.heap.size w (w.alloc (.cells (T.cells h).toArray 32))):=hJJ ((Below.refl _ _).alloc (Nat.le_refl _) _)
 have A1:=hJJ (Row.lies_new w (T.cells h).toArray 32)
 generalize membS T g=m at HR ME
 generalize repeats T g=rp at HR RP
 clear hx ht hg
 generalize T.cells h=c at *
 go_enter Tryz.func110,Tryz.ntmps110
 go_upto_region 1 with fail
 generalize w.alloc (.cells c.toArray 32)=u at A0 A1 ⊢
 clear hsz
 go_wp2_with (refine lgZ 32 ⟨w.heap.size,0,none⟩ c rfl A1.out Tryz.underlying32 IA.out ?_)
 refine (ME.out _ A0.out).mono ?_
 rintro e u1 ⟨rfl,hb⟩
 have B0:Hid (Below w.heap.size w u1):=hJJ (A0.out.trans (hb.mono A0.out.size))
 have B1:=hJJ (A1.out.below hb)
 clear hb A0 A1 ME
 by_cases hm:m=0
 ·have HR2:Hid (true=x):=hJJ (by rw [HR.out,hm];rfl)
  rw [hm,show (((0:Nat):Int))=(0:Int) from rfl]
  clear hm
  go_wp2
  go_ret
  exact ⟨ret_bool HR2.out,B0.out⟩
 have HM:((m:Int) == 0)=false:=by rw [beq_eq_false_iff_ne];omega
 have HR2:Hid (x=(!allOn T (m:Nat) || rp)):=hJJ (by rw [HR.out,show (m == 0)=false by rw [beq_eq_false_iff_ne];exact hm];rfl)
 have HMi:Hid (¬ ((m:Nat):Int)=0):=hJJ (by omega)
 clear HR hm
 generalize ((m:Nat):Int)=mi at HM HMi HR2 ⊢
 have hmi:=HMi.out
 have HMb:=hJJ HM
 have AO2:=hJJ (AO.out mi)
 clear AO HM
 generalize allOn T mi=ao at AO2 HR2
 go_wp2_with (refine lgZ 32 ⟨w.heap.size,0,none⟩ c rfl B1.out Tryz.underlying32 IA.out ?_)
 refine (AO2.out _ B0.out).mono ?_
 rintro e u2 ⟨rfl,hb⟩
 have A0:Hid (Below w.heap.size w u2):=hJJ (B0.out.trans (hb.mono B0.out.size))
 have A1:=hJJ (B1.out.below hb)
 clear hb B0 B1 AO2 hmi
 cases ao with
 | false =>
  have HR3:Hid (true=x):=hJJ (by rw [HR2.out];rfl)
  go_wp2
  go_ret
  exact ⟨ret_bool HR3.out,A0.out⟩
 | true =>
  have HR3:Hid (rp=x):=hJJ (by rw [HR2.out];rfl)
  go_wp2_with (refine lgZ 32 ⟨w.heap.size,0,none⟩ c rfl A1.out Tryz.underlying32 IA.out ?_)
  refine (RP.out _ A0.out).mono ?_
  rintro e u3 ⟨rfl,hb⟩
  have B0:Hid (Below w.heap.size w u3):=hJJ (A0.out.trans (hb.mono A0.out.size))
  clear hb A0 A1
  go_wp2
  go_ret
  exact ⟨ret_bool (by rw [HMb.out];exact HR3.out),B0.out⟩
theorem find_none {f:Nat→Bool} {n:Nat} (h:∀ j,j < n→f j=false):(List.range n).find? f=none:=range_miss h
theorem placed_lt (T:Tab):∀ g,placed T g < 256
 | 0=>by unfold placed;decide
 | g+1=>Nat.or_lt_two_pow (n:=8) (placed_lt T g) (memb_lt T g)
def fltC (c:Int):Option Int→Array Value
 | none=>#[I 0,I 0]
 | some p=>#[I c,I p]
theorem flt_agg (c:Int) (o:Option Int):flt c o=.agg (fltC c o):=by cases o <;> rfl
theorem rings_any (T:Tab) (h:Hd) (w:World) (ht:IsTab w h T) :
  Calls Tryz.prog 76 #[.agg (T.cells h).toArray] w fun e w'=>e=.returned (flt 8 (ringsC T))∧Below w.heap.size w w':=by
 have hsz:=(cells_ok ht).size
 have C:=hJJ (cells_ok ht)
 have IA:Hid ((Tryz.prog.info? 32).map (·.size)=some (T.cells h).length):=hJJ (by rw [List.size_toArray] at hsz;rw [hsz];exact infoT)
 have ON:Hid (∀ W,Below w.heap.size w W→Calls Tryz.prog 96 #[.agg (T.cells h).toArray] W fun e w'=>e=.returned (.int .i64 (onS T:Nat))∧Below W.heap.size W w'):=hJJ (fun W hb=>PlanO.pon_any T h W (ht.below hb))
 have ME:Hid (∀ (g:Nat) W,Below w.heap.size w W→Calls Tryz.prog 111 #[.agg (T.cells h).toArray,.int .i64 g] W fun e w'=>e=.returned (.int .i64 (membS T g:Nat))∧Below W.heap.size W w'):=hJJ (fun g W hb=>PlanC.members_any T h g W (ht.below hb))
 have BG:Hid (∀ (g:Nat) W,g < T.groups.length→Below w.heap.size w W→Calls Tryz.prog 110 #[.agg (T.cells h).toArray,.int .i64 g] W fun e w'=>e=.returned (.bool (groupBad T g))∧Below W.heap.size W w'):=hJJ (fun g W hg hb=>badGroup_any T h g W (ht.below hb) hg)
 have A0:Hid (Below w.heap.size w ((w.alloc (.cells (T.cells h).toArray 32)).alloc (.cells #[.int .i64 0,.int .i64 0] 37))):=hJJ (((Below.refl _ _).alloc (Nat.le_refl _) _).alloc (by simp) _)
 have A1:Hid (Lies ((w.alloc (.cells (T.cells h).toArray 32)).alloc (.cells #[.int .i64 0,.int .i64 0] 37)) ⟨w.heap.size,0,none⟩ (T.cells h)):=hJJ ((Row.lies_new w _ _).below ((Below.refl _ _).alloc (Nat.le_refl _) _))
 have A2:Hid (((w.alloc (.cells (T.cells h).toArray 32)).alloc (.cells #[.int .i64 0,.int .i64 0] 37)).heap[w.heap.size+1]?=some (.cells #[.int .i64 0,.int .i64 0] 37 (0,0))):=hJJ (heap_alloc2_new w _ _)
 have q104:=(((Row.lies_new w (T.cells h).toArray 32).below ((Below.refl _ _).alloc (Nat.le_refl _) (.cells #[.int .i64 0,.int .i64 0] 37))) 104 _ ((Array.getElem?_toList ..).trans C.out.g):((w.alloc (.cells (T.cells h).toArray 32)).alloc (.cells #[.int .i64 0,.int .i64 0] 37)).cell? ((⟨w.heap.size,0,none⟩:Addr).add 104)=_)
 have q104:((w.alloc (.cells (T.cells h).toArray 32)).alloc (.cells #[.int .i64 0,.int .i64 0] 37)).cell? ⟨w.heap.size,104,none⟩=some (.slice h.g.a T.groups.length h.g.cap):=q104
 have Kg:T.groups.length≤maxLen:=by
  obtain ⟨gs,hgd,hgr⟩:=ht.groups
  have:=hgr.1.len
  rw [← hgd,List.length_map];omega
 unfold maxLen at Kg
 have RC:Hid (ringsC T=_):=hJJ (by unfold ringsC;rfl)
 have LT:=hJJ (placed_lt T)
 have ML:=hJJ (memb_lt T)
 obtain ⟨o,ho⟩:∃ o,o=ringsC T:=⟨_,rfl⟩
 rw [← ho,flt_agg] 
 rw [← ho] at RC
 clear ho ht C
 generalize hn:T.groups.length=n at *
 have HN:=hJJ hn
 clear hn
 generalize h.g.cap=gcap at *
 generalize h.g.a=ga at *
 generalize T.cells h=c at *
 go_enter Tryz.func76,Tryz.ntmps76
 go_upto_region 1 with fail
 generalize ((w.alloc (.cells c.toArray 32)).alloc (.cells #[.int .i64 0,.int .i64 0] 37))=u at A0 A1 A2 q104 ⊢
 clear hsz
 by_cases hz:n=0
 ·subst hz
  have RO:Hid (o=some 0):=hJJ (by rw [RC.out];rfl)
  clear RC
  have HW:=hJJ (below_setRow A0.out (g:=w.heap.size+1) (by omega) #[I 8,I 0])
  have HK:=hJJ (setRow_heap u (w.heap.size+1) _ #[I 8,I 0] _ _ A2.out)
  go_wp2_with (first | (refine wpList_store_row rfl 37 _ _ rfl (w.heap.size+1) #[I 8,I 0] rfl rfl 37 _ A2.out infoF rfl (by simp [Value.oneCell']) ?_))
  generalize u.setRow (w.heap.size+1) #[I 8,I 0]=uz at HW HK ⊢
  (try go_wp2_with fail)
  (try simp only [Exit.inBlock,Exit.then])
  refine bodyPost_ret (v:=.agg #[I 8,I 0]) ?_ rfl ⟨by rw [RO.out];rfl,HW.out⟩
  exact results_cell_row rfl _ _ (w.heap.size+1) 37 _ (0,0) _ rfl HK.out Tryz.underlying37 rfl infoF
 ·have HZ:Hid (¬ n=0):=hJJ hz
  have hzi:((n:Int) == 0)=false:=by rw [beq_eq_false_iff_ne];omega
  have hzj:¬ ((n:Int)=0):=by omega
  rw [if_neg hz] at RC
  clear hz
  go_wp2_with fail
  clear hzi hzj q104
  go_loopw [3,13] (fun s a wr=>∃ q:Nat,q≤n∧s=.int .i64 (placed T q:Nat)∧a=.int .i64 q∧(∀ j,j < q→groupBad T j=false)∧Below u.heap.size u wr) (fun _ a _=>n - (intOf a).toNat)
  case atStart=>exact ⟨0,by omega,rfl,rfl,(fun j h=>by omega),Below.refl _ _⟩
  case round =>
   obtain ⟨q,hq,rfl,rfl,hall,hB⟩:=hrel
   have HA:=hJJ hall
   have B0:Hid (Below w.heap.size w wr):=hJJ (A0.out.trans (hB.mono A0.out.size))
   have B1:=hJJ (A1.out.below hB)
   have B2:Hid (wr.heap[w.heap.size+1]?=some (.cells #[.int .i64 0,.int .i64 0] 37 (0,0))):=hJJ ((hB.block _ (Array.getElem?_eq_some_iff.1 A2.out).1).trans A2.out)
   have B3:=hJJ hB
   clear hall hB
   by_cases hlt:q < n
   ·go_wp2_with (refine lgZ 32 ⟨w.heap.size,0,none⟩ c rfl B1.out Tryz.underlying32 IA.out ?_)
    refine (BG.out q _ hlt B0.out).mono ?_
    rintro e u1 ⟨rfl,hb⟩
    have C0:Hid (Below w.heap.size w u1):=hJJ (B0.out.trans (hb.mono B0.out.size))
    have C1:=hJJ (B1.out.below hb)
    have C2:Hid (u1.heap[w.heap.size+1]?=some (.cells #[.int .i64 0,.int .i64 0] 37 (0,0))):=hJJ ((hb.block _ (Array.getElem?_eq_some_iff.1 B2.out).1).trans B2.out)
    have C3:=hJJ (B3.out.trans (hb.mono B3.out.size))
    clear hb B0 B1 B2 B3
    cases hgb:groupBad T q with
    | true =>
     have RO:Hid (o=some (q:Int)):=hJJ (by rw [RC.out,range_hit hlt hgb HA.out])
     clear hgb
     have HW:=hJJ (below_setRow C0.out (g:=w.heap.size+1) (by omega) #[I 8,I q])
     have HK:=hJJ (setRow_heap u1 (w.heap.size+1) _ #[I 8,I q] _ _ C2.out)
     go_wp2_with (first | (refine wpList_store_row rfl 37 _ _ rfl (w.heap.size+1) #[I 8,I q] rfl rfl 37 _ C2.out infoF rfl (by simp [Value.oneCell']) ?_))
     generalize u1.setRow (w.heap.size+1) #[I 8,I q]=uz at HW HK ⊢
     (try go_wp2_with fail)
     (try simp only [Exit.inBlock,Exit.then])
     refine bodyPost_ret (v:=.agg #[I 8,I q]) ?_ rfl ⟨by rw [RO.out];rfl,HW.out⟩
     exact results_cell_row rfl _ _ (w.heap.size+1) 37 _ (0,0) _ rfl HK.out Tryz.underlying37 rfl infoF
    | false =>
     have HG:=hJJ hgb
     clear hgb
     go_wp2_with (refine lgZ 32 ⟨w.heap.size,0,none⟩ c rfl C1.out Tryz.underlying32 IA.out ?_)
     refine (ME.out q _ C0.out).mono ?_
     rintro e u2 ⟨rfl,hb⟩
     have D3:=hJJ (C3.out.trans (hb.mono C3.out.size))
     have OR:Hid (bits .or .i64 (placed T q:Nat) (membS T q:Nat)=(placed T (q+1):Nat)):=hJJ (RefS.or_small _ _ (LT.out _) (ML.out _))
     clear hb C0 C1 C2 C3
     generalize membS T q=mq at OR ⊢
     generalize placed T q=pq at OR ⊢
     go_wp2
     go_roundw
     case rel=>exact ⟨q+1,by omega,by rw [OR.out],by go_num,(fun j hj=>by
      by_cases e:j=q
      ·subst e;exact HG.out
      ·exact HA.out j (by omega)),D3.out⟩
     case measure=>simp [intOf];omega
   ·have hqn:q=n:=by omega
    have RC2:Hid (o=if bits .andNot .i64 (onS T:Nat) (placed T n:Nat)=0 then none else some 0):=hJJ (by rw [RC.out,find_none (fun j hj=>HA.out j (by omega))])
    rw [hqn]
    clear RC hlt hqn hq HA
    go_wp2_with (refine lgZ 32 ⟨w.heap.size,0,none⟩ c rfl B1.out Tryz.underlying32 IA.out ?_)
    refine (ON.out _ B0.out).mono ?_
    rintro e u1 ⟨rfl,hb⟩
    have C0:Hid (Below w.heap.size w u1):=hJJ (B0.out.trans (hb.mono B0.out.size))
    have C2:Hid (u1.heap[w.heap.size+1]?=some (.cells #[.int .i64 0,.int .i64 0] 37 (0,0))):=hJJ ((hb.block _ (Array.getElem?_eq_some_iff.1 B2.out).1).trans B2.out)
    clear hb B0 B1 B2 B3
    generalize placed T n=pq at RC2 ⊢
    generalize onS T=m at RC2 ⊢
    by_cases hz:bits .andNot .i64 (m:Int) (pq:Int)=0
    ·have RO:Hid (o=none):=hJJ (by rw [RC2.out,if_pos hz])
     have HW:=hJJ (below_setRow C0.out (g:=w.heap.size+1) (by omega) #[I 0,I 0])
     have HK:=hJJ (setRow_heap u1 (w.heap.size+1) _ #[I 0,I 0] _ _ C2.out)
     go_wp2_with (first | (refine wpList_store_row rfl 37 _ _ rfl (w.heap.size+1) #[I 0,I 0] rfl rfl 37 _ C2.out infoF rfl (by simp [Value.oneCell']) ?_))
     generalize u1.setRow (w.heap.size+1) #[I 0,I 0]=uz at HW HK ⊢
     (try go_wp2_with fail)
     (try simp only [Exit.inBlock,Exit.then])
     refine bodyPost_ret (v:=.agg #[I 0,I 0]) ?_ rfl ⟨by rw [RO.out];rfl,HW.out⟩
     exact results_cell_row rfl _ _ (w.heap.size+1) 37 _ (0,0) _ rfl HK.out Tryz.underlying37 rfl infoF
    ·have RO:Hid (o=some 0):=hJJ (by rw [RC2.out,if_neg hz])
     have HW:=hJJ (below_setRow C0.out (g:=w.heap.size+1) (by omega) #[I 8,I 0])
     have HK:=hJJ (setRow_heap u1 (w.heap.size+1) _ #[I 8,I 0] _ _ C2.out)
     go_wp2_with (first | (refine wpList_store_row rfl 37 _ _ rfl (w.heap.size+1) #[I 8,I 0] rfl rfl 37 _ C2.out infoF rfl (by simp [Value.oneCell']) ?_))
     generalize u1.setRow (w.heap.size+1) #[I 8,I 0]=uz at HW HK ⊢
     (try go_wp2_with fail)
     (try simp only [Exit.inBlock,Exit.then])
     refine bodyPost_ret (v:=.agg #[I 8,I 0]) ?_ rfl ⟨by rw [RO.out];rfl,HW.out⟩
     exact results_cell_row rfl _ _ (w.heap.size+1) 37 _ (0,0) _ rfl HK.out Tryz.underlying37 rfl infoF
end ChkH
namespace RkR
open Zip
open Go.ChangeShapes Go.WideShapes Go.ChangeAt Go.RowKit
open Tab PlaceM PlanM OnS ChkM ChkH
open ChkB (laid2)
open Same (below_setRow)
open Where (infoS)
open RefS (rhas_any rwith_any)
open May (ret_bool infoT)
theorem fold_cons (on:Int) (g:Nat) (S:List Spt) (j:Nat) (x:Spt) (h:S[j]?=some x) (st:Nat × Nat):foldR on g (S.drop j) st=foldR on g (x :: S.drop (j+1)) st:=by
 obtain ⟨h1,h2⟩:=List.getElem?_eq_some_iff.1 h
 rw [List.drop_eq_getElem_cons h1,h2]
theorem fold_other {on:Int} {g n s:Nat} {x:Spt} {l:List Spt} (h:¬ x.g=g):foldR on g (x :: l) (n,s)=foldR on g l (n,s):=by unfold foldR;rw [if_neg h];cases l <;> rfl
theorem fold_bad {on:Int} {g n s:Nat} {x:Spt} {l:List Spt} (h:x.g=g) (hb:(!SetM.has on x.p || SetM.has (s:Nat) x.p)=true):foldR on g (x :: l) (n,s)=none:=by unfold foldR;rw [if_pos h,if_pos hb]
theorem fold_good {on:Int} {g n s:Nat} {x:Spt} {l:List Spt} (h:x.g=g) (hb:(!SetM.has on x.p || SetM.has (s:Nat) x.p)=false):foldR on g (x :: l) (n,s)=foldR on g l (n+1,SetM.withN (s:Nat) x.p):=by
 rw [foldR,if_pos h,if_neg (by rw [hb];simp)]
theorem loop_none {T:Tab} {m g seen:Nat} (h:foldR (onS T:Nat) g (spots T) (0,seen)=none):loopR T (m+1) g seen=some (g:Int):=by rw [loopR,h]
theorem loop_zero {T:Tab} {m g seen s:Nat} (h:foldR (onS T:Nat) g (spots T) (0,seen)=some (0,s)):loopR T (m+1) g seen=some (g:Int):=by rw [loopR,h];rfl
theorem loop_next {T:Tab} {m g seen n s:Nat} (h:foldR (onS T:Nat) g (spots T) (0,seen)=some (n,s)) (hn:¬ n=0):loopR T (m+1) g seen=loopR T m (g+1) s:=by rw [loopR,h];exact if_neg hn
theorem rrings_any (T:Tab) (h:Hd) (w:World) (ht:IsTab w h T) (sm:Few T) :
  Calls Tryz.prog 50 #[.agg (T.cells h).toArray] w fun e w'=>e=.returned (.agg (fltC 8 (ringsR T)))∧Below w.heap.size w w':=by
 have hsz:=(cells_ok ht).size
 have C:=hJJ (cells_ok ht)
 have IA:Hid ((Tryz.prog.info? 32).map (·.size)=some (T.cells h).length):=hJJ (by rw [List.size_toArray] at hsz;rw [hsz];exact infoT)
 have ON:Hid (∀ W,Below w.heap.size w W→Calls Tryz.prog 22 #[.agg (T.cells h).toArray] W fun e w'=>e=.returned (.int .i64 (onS T:Nat))∧Below W.heap.size W w'):=hJJ (fun W hb=>OnS.on_any T h W (ht.below hb))
 have SPC:Hid (∀ W,Below w.heap.size w W→Calls Tryz.prog 18 #[.agg (T.cells h).toArray] W fun e w'=>∃ s:Sl,e=.returned (s.val (spots T).length)∧RowOf 4 Spt.cells w' s (spots T)∧Below W.heap.size W w'):=hJJ (fun W hb=>Spots.spots_any T h W (ht.below hb) sm)
 have A0:Hid (Below w.heap.size w ((w.alloc (.cells (T.cells h).toArray 32)).alloc (.cells #[.int .i64 0,.int .i64 0] 37))):=hJJ (((Below.refl _ _).alloc (Nat.le_refl _) _).alloc (by simp) _)
 have A1:Hid (Lies ((w.alloc (.cells (T.cells h).toArray 32)).alloc (.cells #[.int .i64 0,.int .i64 0] 37)) ⟨w.heap.size,0,none⟩ (T.cells h)):=hJJ ((Row.lies_new w _ _).below ((Below.refl _ _).alloc (Nat.le_refl _) _))
 have A2:Hid (((w.alloc (.cells (T.cells h).toArray 32)).alloc (.cells #[.int .i64 0,.int .i64 0] 37)).heap[w.heap.size+1]?=some (.cells #[.int .i64 0,.int .i64 0] 37 (0,0))):=hJJ (heap_alloc2_new w _ _)
 have q104:((w.alloc (.cells (T.cells h).toArray 32)).alloc (.cells #[.int .i64 0,.int .i64 0] 37)).cell? ⟨w.heap.size,104,none⟩=some (.slice h.g.a T.groups.length h.g.cap):=A1.out 104 _ ((Array.getElem?_toList ..).trans C.out.g)
 have Kg:T.groups.length≤maxLen:=by
  obtain ⟨gs,hgd,hgr⟩:=ht.groups
  have:=hgr.1.len
  rw [← hgd,List.length_map];omega
 unfold maxLen at Kg
 obtain ⟨o,ho⟩:∃ o,o=ringsR T:=⟨_,rfl⟩
 rw [← ho]
 have RC:Hid (o=if T.groups.length=0 then some 0 else loopR T T.groups.length 0 0):=hJJ ho
 have OL:Hid (onS T < 256):=hJJ (SetM.of_lt _)
 have F1:Hid (∀ {m g seen:Nat},foldR (onS T:Nat) g (spots T) (0,seen)=none→loopR T (m+1) g seen=some (g:Int)):=hJJ loop_none
 have F2:Hid (∀ {m g seen s:Nat},foldR (onS T:Nat) g (spots T) (0,seen)=some (0,s)→loopR T (m+1) g seen=some (g:Int)):=hJJ loop_zero
 have F3:Hid (∀ {m g seen n s:Nat},foldR (onS T:Nat) g (spots T) (0,seen)=some (n,s)→¬ n=0→loopR T (m+1) g seen=loopR T m (g+1) s):=hJJ loop_next
 have F4:Hid (∀ g seen,loopR T 0 g seen=if seen=onS T then none else some 0):=hJJ (fun _ _=>rfl)
 clear ho ht C sm
 generalize T.groups.length=n at *
 generalize h.g.cap=gcap at *
 generalize h.g.a=ga at *
 generalize T.cells h=c at *
 generalize loopR T=lr at *
 generalize spots T=S at *
 generalize onS T=on at *
 go_enter Tryz.func50,Tryz.ntmps50
 go_upto_region 1 with fail
 generalize ((w.alloc (.cells c.toArray 32)).alloc (.cells #[.int .i64 0,.int .i64 0] 37))=u at A0 A1 A2 q104 ⊢
 have Q104:=hJJ q104
 clear hsz
 by_cases hz:n=0
 ·subst hz
  have RO:Hid (o=some 0):=hJJ (by rw [RC.out];rfl)
  clear RC
  have HW:=hJJ (below_setRow A0.out (g:=w.heap.size+1) (by omega) #[I 8,I 0])
  have HK:=hJJ (setRow_heap u (w.heap.size+1) _ #[I 8,I 0] _ _ A2.out)
  go_wp2_with (first | (refine wpList_store_row rfl 37 _ _ rfl (w.heap.size+1) #[I 8,I 0] rfl rfl 37 _ A2.out infoF rfl (by simp [Value.oneCell']) ?_))
  generalize u.setRow (w.heap.size+1) #[I 8,I 0]=uz at HW HK ⊢
  (try go_wp2_with fail)
  (try simp only [Exit.inBlock,Exit.then])
  refine bodyPost_ret (v:=.agg #[I 8,I 0]) ?_ rfl ⟨by rw [RO.out];rfl,HW.out⟩
  exact results_cell_row rfl _ _ (w.heap.size+1) 37 _ (0,0) _ rfl HK.out Tryz.underlying37 rfl infoF
 ·have hzi:((n:Int) == 0)=false:=by rw [beq_eq_false_iff_ne];omega
  have hzj:¬ ((n:Int)=0):=by omega
  have RC2:Hid (o=lr n 0 0):=hJJ (by rw [RC.out,if_neg hz])
  clear hz RC
  go_wp2_with (refine lgZ 32 ⟨w.heap.size,0,none⟩ c rfl A1.out Tryz.underlying32 IA.out ?_)
  (try go_wp2_with fail)
  refine (ON.out _ A0.out).mono ?_
  rintro e u1 ⟨rfl,hb⟩
  have B0:Hid (Below w.heap.size w u1):=hJJ (A0.out.trans (hb.mono A0.out.size))
  have B1:=hJJ (A1.out.below hb)
  have B2:Hid (u1.heap[w.heap.size+1]?=some (.cells #[.int .i64 0,.int .i64 0] 37 (0,0))):=hJJ ((hb.block _ (Array.getElem?_eq_some_iff.1 A2.out).1).trans A2.out)
  have BQ:=hJJ ((hb.cell (World.block_lt_of_cell? u _ Q104.out)).trans Q104.out)
  clear hb hzi hzj q104 A0 A1 A2 Q104
  go_wp2_with fail
  go_loopw [4,5] (fun s a wr=>∃ q seen:Nat,q≤n∧seen < 256∧s=.int .i64 (seen:Nat)∧a=.int .i64 q∧o=lr (n - q) q seen∧Below u1.heap.size u1 wr) (fun _ a _=>n - (intOf a).toNat)
  case atStart=>exact ⟨0,0,by omega,by decide,rfl,rfl,RC2.out,Below.refl _ _⟩
  case round =>
   obtain ⟨q,seen,hq,hseen,rfl,rfl,ho,hB⟩:=hrel
   have HO:=hJJ ho
   have HSE:=hJJ hseen
   have C0:Hid (Below w.heap.size w wr):=hJJ (B0.out.trans (hB.mono B0.out.size))
   have C1:=hJJ (B1.out.below hB)
   have C2:Hid (wr.heap[w.heap.size+1]?=some (.cells #[.int .i64 0,.int .i64 0] 37 (0,0))):=hJJ ((hB.block _ (Array.getElem?_eq_some_iff.1 B2.out).1).trans B2.out)
   have q104:=(hB.cell (World.block_lt_of_cell? u1 _ BQ.out)).trans BQ.out
   have C3:=hJJ hB
   clear ho hB hseen RC2
   by_cases hlt:q < n
   ·obtain ⟨m,hm⟩:∃ m,n - q=m+1:=⟨n - q - 1,by omega⟩
    have HM:Hid (n - (q+1)=m):=hJJ (by omega)
    have HO2:Hid (o=lr (m+1) q seen):=hJJ (by rw [← hm];exact HO.out)
    clear hm HO
    go_wp2_with (refine lgZ 32 ⟨w.heap.size,0,none⟩ c rfl C1.out Tryz.underlying32 IA.out ?_)
    (try go_wp2_with fail)
    refine (SPC.out _ C0.out).mono ?_
    rintro e u2 ⟨⟨sa,scap⟩,rfl,hrow,hb⟩
    rw [show (Sl.val ⟨sa,scap⟩ S.length)=.slice sa S.length scap from rfl]
    have D0:Hid (Below w.heap.size w u2):=hJJ (C0.out.trans (hb.mono C0.out.size))
    have D2:Hid (u2.heap[w.heap.size+1]?=some (.cells #[.int .i64 0,.int .i64 0] 37 (0,0))):=hJJ ((hb.block _ (Array.getElem?_eq_some_iff.1 C2.out).1).trans C2.out)
    have D3:=hJJ (C3.out.trans (hb.mono C3.out.size))
    have HR:=hJJ hrow
    have K:=hrow.len
    unfold maxLen at K
    clear hrow hb q104 C0 C1 C2 C3
    go_wp2_with fail
    go_loopw [4,6,26] (fun s a i wk=>∃ j k sn:Nat,j≤S.length∧k≤j∧sn < 256∧s=.int .i64 (sn:Nat)∧a=.int .i64 (k:Nat)∧i=.int .i64 j∧foldR on q S (0,seen)=foldR on q (S.drop j) (k,sn)∧Below u2.heap.size u2 wk) (fun _ _ i _=>S.length - (intOf i).toNat)
    case atStart=>exact ⟨0,0,seen,by omega,by omega,HSE.out,rfl,rfl,rfl,rfl,Below.refl _ _⟩
    case round =>
     obtain ⟨j,k,sn,hj,hkj,hsn,rfl,rfl,rfl,hf,hB2⟩:=hrel
     rename World=>wk
     have HF:=hJJ hf
     have HSN:=hJJ hsn
     have HB2:=hJJ hB2
     have G0:Hid (Below w.heap.size w wk):=hJJ (D0.out.trans (hB2.mono D0.out.size))
     have G2:Hid (wk.heap[w.heap.size+1]?=some (.cells #[.int .i64 0,.int .i64 0] 37 (0,0))):=hJJ ((hB2.block _ (Array.getElem?_eq_some_iff.1 D2.out).1).trans D2.out)
     clear hf hB2 hsn
     by_cases hjl:j < S.length
     ·have hv:=List.getElem?_eq_getElem hjl
      generalize S[j]=x at hv
      obtain ⟨y,hy,hc⟩:=(HR.out.below HB2.out).at hv
      obtain rfl:sa=some y:=hy
      have FC:=hJJ (HF.out.trans (fold_cons on q S j x hv (k,sn)))
      have HC:=hJJ hc
      clear hv hc HF
      obtain ⟨xg,xk,xi,xp⟩:=x
      have hwk:=HB2.out.size
      go_upto_region 12 with (first | (refine Row.wpList_load_g 55 _ rfl (by first | rfl | go_simp) (y.add (j*4)) rfl (Spt.cells ⟨xg,xk,xi,xp⟩) _ HC.out Tryz.underlying55 rfl infoS ?_) | (refine Row.wpList_store_new rfl 55 _ _ rfl wk _ (Spt.cells ⟨xg,xk,xi,xp⟩).toArray rfl rfl rfl infoS rfl (Spt.one _) ?_))
      have hbn:Below u2.heap.size u2 (wk.alloc (.cells (Spt.cells ⟨xg,xk,xi,xp⟩).toArray 55)):=HB2.out.alloc hwk _
      have hgn:=heap_alloc_new wk (.cells (Spt.cells ⟨xg,xk,xi,xp⟩).toArray 55)
      have d0:(wk.alloc (.cells (Spt.cells ⟨xg,xk,xi,xp⟩).toArray 55)).cell? ⟨wk.heap.size,0,none⟩=some (I xg):=by rw [cell_of_row _ _ _ _ _ _ hgn];rfl
      have d3:(wk.alloc (.cells (Spt.cells ⟨xg,xk,xi,xp⟩).toArray 55)).cell? ⟨wk.heap.size,3,none⟩=some (I xp):=by rw [cell_of_row _ _ _ _ _ _ hgn];rfl
      have HN:=hJJ hbn
      have G0':Hid (Below w.heap.size w (wk.alloc (.cells (Spt.cells ⟨xg,xk,xi,xp⟩).toArray 55))):=hJJ (G0.out.alloc G0.out.size _)
      clear hbn hgn HC G0
      generalize hxc:(Spt.cells ⟨xg,xk,xi,xp⟩)=xc at *
      clear hxc
      generalize wk.alloc (.cells xc.toArray 55)=w4 at HN d0 d3 G0' ⊢
      generalize wk.heap.size=b4 at d0 d3 ⊢
      have D3X:=hJJ d3
      by_cases hg:((xg:Nat):Int)=(q:Int)
      ·have hgn:xg=q:=by omega
       have FB:=hJJ (fun e=>FC.out.trans (fold_bad (on:=on) (n:=k) (s:=sn) (l:=S.drop (j+1)) (x:=⟨xg,xk,xi,xp⟩) hgn e))
       have FG:=hJJ (fun e=>FC.out.trans (fold_good (on:=on) (n:=k) (s:=sn) (l:=S.drop (j+1)) (x:=⟨xg,xk,xi,xp⟩) hgn e))
       have hgb:(((xg:Nat):Int) != (q:Int))=false:=by rw [bne_eq_false_iff_eq];exact hg
       have hgi:=hg
       clear hg
       obtain ⟨va,hva⟩:∃ z,SetM.has (on:Nat) xp=z:=⟨_,rfl⟩
       obtain ⟨vb,hvb⟩:∃ z,SetM.has (sn:Nat) xp=z:=⟨_,rfl⟩
       have HVA:=hJJ hva
       have HVB:=hJJ hvb
       have FB:=hJJ (fun (e:(!va || vb)=true)=>FB.out (by rw [← e,← hva,← hvb]))
       have FG:=hJJ (fun (e:(!va || vb)=false)=>FG.out (by rw [← e,← hva,← hvb]))
       have WL:=hJJ (SetM.with_lt (sn:Nat) xp)
       clear hva hvb hgi hgn
       have hk62:((k:Nat):Int) < 9223372036854775807:=by omega
       go_wp2_with fail
       refine (rhas_any _ _ _).mono ?_
       rintro e w' ⟨rfl,rfl⟩
       rw [HVA.out]
       cases va with
       | false =>
        have RO:Hid (o=some (q:Int)):=hJJ (by rw [HO2.out];exact F1.out (FB.out rfl))
        have G2':Hid (w4.heap[w.heap.size+1]?=some (.cells #[.int .i64 0,.int .i64 0] 37 (0,0))):=hJJ ((HN.out.block _ (Array.getElem?_eq_some_iff.1 D2.out).1).trans D2.out)
        clear d0 d3 hgb
        have HW:=hJJ (below_setRow G0'.out (g:=w.heap.size+1) (by omega) #[I 8,I q])
        have HK:=hJJ (setRow_heap w4 (w.heap.size+1) _ #[I 8,I q] _ _ G2'.out)
        go_wp2_with (first | (refine wpList_store_row rfl 37 _ _ rfl (w.heap.size+1) #[I 8,I q] rfl rfl 37 _ G2'.out infoF rfl (by simp [Value.oneCell']) ?_))
        generalize w4.setRow (w.heap.size+1) #[I 8,I q]=uz at HW HK ⊢
        (try go_wp2_with fail)
        (try simp only [Exit.inBlock,Exit.then])
        refine bodyPost_ret (v:=.agg #[I 8,I q]) ?_ rfl ⟨by rw [RO.out];rfl,HW.out⟩
        exact results_cell_row rfl _ _ (w.heap.size+1) 37 _ (0,0) _ rfl HK.out Tryz.underlying37 rfl infoF
       | true =>
        have d3:=D3X.out
        go_wp2_with fail
        refine (rhas_any _ _ _).mono ?_
        rintro e w' ⟨rfl,rfl⟩
        rw [HVB.out]
        cases vb with
        | true =>
         have RO:Hid (o=some (q:Int)):=hJJ (by rw [HO2.out];exact F1.out (FB.out rfl))
         have G2':Hid (w4.heap[w.heap.size+1]?=some (.cells #[.int .i64 0,.int .i64 0] 37 (0,0))):=hJJ ((HN.out.block _ (Array.getElem?_eq_some_iff.1 D2.out).1).trans D2.out)
         clear d0 d3 hgb
         have HW:=hJJ (below_setRow G0'.out (g:=w.heap.size+1) (by omega) #[I 8,I q])
         have HK:=hJJ (setRow_heap w4 (w.heap.size+1) _ #[I 8,I q] _ _ G2'.out)
         go_wp2_with (first | (refine wpList_store_row rfl 37 _ _ rfl (w.heap.size+1) #[I 8,I q] rfl rfl 37 _ G2'.out infoF rfl (by simp [Value.oneCell']) ?_))
         generalize w4.setRow (w.heap.size+1) #[I 8,I q]=uz at HW HK ⊢
         (try go_wp2_with fail)
         (try simp only [Exit.inBlock,Exit.then])
         refine bodyPost_ret (v:=.agg #[I 8,I q]) ?_ rfl ⟨by rw [RO.out];rfl,HW.out⟩
         exact results_cell_row rfl _ _ (w.heap.size+1) 37 _ (0,0) _ rfl HK.out Tryz.underlying37 rfl infoF
        | false =>
         have NX:=hJJ (FG.out rfl)
         clear FB FG FC
         go_wp2_with fail
         refine (rwith_any _ _ _).mono ?_
         rintro e w5 ⟨rfl,hb⟩
         have HN5:=hJJ (HN.out.trans (hb.mono HN.out.size))
         clear hb d0 d3
         go_wp2
         go_roundw
         case rel=>exact ⟨j+1,k+1,_,by omega,by omega,WL.out,rfl,by go_num,by go_num,NX.out,HN5.out⟩
         case measure=>simp [intOf];omega
      ·have hgn:¬ xg=q:=by omega
       have NX:=hJJ (FC.out.trans (fold_other (on:=on) (n:=k) (s:=sn) (l:=S.drop (j+1)) (x:=⟨xg,xk,xi,xp⟩) hgn))
       have hgb:(((xg:Nat):Int) != (q:Int))=true:=by rw [bne_iff_ne];exact hg
       have hgi:¬ ((xg:Nat):Int)=(q:Int):=hg
       clear hg hgn FC
       go_wp2
       go_roundw
       case rel=>exact ⟨j+1,k,sn,by omega,by omega,HSN.out,rfl,rfl,by go_num,NX.out,HN.out⟩
       case measure=>simp [intOf];omega
     ·have FE:Hid (foldR on q S (0,seen)=some (k,sn)):=hJJ (by rw [HF.out,List.drop_of_length_le (by omega)];rfl)
      by_cases hk:k=0
      ·subst hk
       have RO:Hid (o=some (q:Int)):=hJJ (by rw [HO2.out];exact F2.out FE.out)
       have HW:=hJJ (below_setRow G0.out (g:=w.heap.size+1) (by omega) #[I 8,I q])
       have HK:=hJJ (setRow_heap wk (w.heap.size+1) _ #[I 8,I q] _ _ G2.out)
       go_wp2_with (first | (refine wpList_store_row rfl 37 _ _ rfl (w.heap.size+1) #[I 8,I q] rfl rfl 37 _ G2.out infoF rfl (by simp [Value.oneCell']) ?_))
       generalize wk.setRow (w.heap.size+1) #[I 8,I q]=uz at HW HK ⊢
       (try go_wp2_with fail)
       (try simp only [Exit.inBlock,Exit.then])
       refine bodyPost_ret (v:=.agg #[I 8,I q]) ?_ rfl ⟨by rw [RO.out];rfl,HW.out⟩
       exact results_cell_row rfl _ _ (w.heap.size+1) 37 _ (0,0) _ rfl HK.out Tryz.underlying37 rfl infoF
      ·have hki:((k:Nat):Int) ≠ 0:=by omega
       have hkb:(((k:Nat):Int) == 0)=false:=by rw [beq_eq_false_iff_ne];exact hki
       have NX:Hid (o=lr (n - (q+1)) (q+1) sn):=hJJ (by rw [HO2.out,HM.out];exact F3.out FE.out hk)
       have E3:=hJJ (D3.out.trans (HB2.out.mono D3.out.size))
       clear hk
       go_wp2
       go_roundw
       case rel=>exact ⟨q+1,sn,by omega,HSN.out,rfl,by go_num,NX.out,E3.out⟩
       case measure=>simp [intOf];omega
   ·have hqn:q=n:=by omega
    have RL:Hid (o=if seen=on then none else some 0):=hJJ (by rw [HO.out,hqn,Nat.sub_self];exact F4.out _ _)
    by_cases he:((seen:Nat):Int)=(on:Int)
    ·have heb:(((seen:Nat):Int) != (on:Int))=false:=by rw [bne_eq_false_iff_eq];exact he
     have RO:Hid (o=none):=hJJ (by rw [RL.out,if_pos (by omega)])
     clear he
     have HW:=hJJ (below_setRow C0.out (g:=w.heap.size+1) (by omega) #[I 0,I 0])
     have HK:=hJJ (setRow_heap wr (w.heap.size+1) _ #[I 0,I 0] _ _ C2.out)
     go_wp2_with (first | (refine wpList_store_row rfl 37 _ _ rfl (w.heap.size+1) #[I 0,I 0] rfl rfl 37 _ C2.out infoF rfl (by simp [Value.oneCell']) ?_))
     generalize wr.setRow (w.heap.size+1) #[I 0,I 0]=uz at HW HK ⊢
     (try go_wp2_with fail)
     (try simp only [Exit.inBlock,Exit.then])
     refine bodyPost_ret (v:=.agg #[I 0,I 0]) ?_ rfl ⟨by rw [RO.out];rfl,HW.out⟩
     exact results_cell_row rfl _ _ (w.heap.size+1) 37 _ (0,0) _ rfl HK.out Tryz.underlying37 rfl infoF
    ·have heb:(((seen:Nat):Int) != (on:Int))=true:=by rw [bne_iff_ne];exact he
     have RO:Hid (o=some 0):=hJJ (by rw [RL.out,if_neg (by omega)])
     clear he
     have HW:=hJJ (below_setRow C0.out (g:=w.heap.size+1) (by omega) #[I 8,I 0])
     have HK:=hJJ (setRow_heap wr (w.heap.size+1) _ #[I 8,I 0] _ _ C2.out)
     go_wp2_with (first | (refine wpList_store_row rfl 37 _ _ rfl (w.heap.size+1) #[I 8,I 0] rfl rfl 37 _ C2.out infoF rfl (by simp [Value.oneCell']) ?_))
     generalize wr.setRow (w.heap.size+1) #[I 8,I 0]=uz at HW HK ⊢
     (try go_wp2_with fail)
     (try simp only [Exit.inBlock,Exit.then])
     refine bodyPost_ret (v:=.agg #[I 8,I 0]) ?_ rfl ⟨by rw [RO.out];rfl,HW.out⟩
     exact results_cell_row rfl _ _ (w.heap.size+1) 37 _ (0,0) _ rfl HK.out Tryz.underlying37 rfl infoF
end RkR
namespace ChkZ
open Go Tab PlaceM PlanM OnS May ChkM ChkX
open PlanW (where_some)
def inG (T:Tab) (g:Nat):List Spt:=(spots T).filter fun x=>decide ((x.g:Int)=g)
def phG (T:Tab) (g:Nat):List Int:=(inG T g).map Spt.p
theorem memb_eq (T:Tab) (g:Nat):SetM.of (phG T g)=membS T g:=memb_spots T g
theorem mem_inG {T:Tab} {g:Nat} {x:Spt}:x ∈ inG T g ↔ x ∈ spots T∧x.g=g:=by
 unfold inG
 rw [List.mem_filter,decide_eq_true_eq]
 constructor
 ·rintro ⟨h1,h2⟩;exact ⟨h1,by omega⟩
 ·rintro ⟨h1,h2⟩;exact ⟨h1,by omega⟩
theorem spot_range {T:Tab} {x:Spt} (h:x ∈ spots T):0≤x.p∧x.p < 8:=by obtain ⟨_,_,_,h1,h2⟩:=mem_spots.1 h;exact ⟨h1,h2⟩
theorem ph_range {T:Tab} {g:Nat} {p:Int} (h:p ∈ phG T g):0≤p∧p < 8:=by
 obtain ⟨x,hx,rfl⟩:=List.mem_map.1 h
 exact spot_range (mem_inG.1 hx).1
theorem has_memb {T:Tab} {g:Nat} {q:Int}:SetM.has (membS T g:Nat) q=true ↔ q ∈ phG T g:=by
 rw [← memb_eq,has_of]
 constructor
 ·rintro ⟨_,_,h⟩;exact h
 ·intro h;have:=ph_range h;exact ⟨this.1,this.2,h⟩
theorem has_or {m n:Nat} (hm:m < 256) (hn:n < 256) {q:Int}:SetM.has ((m ||| n:Nat):Int) q=true ↔ SetM.has (m:Int) q=true∨SetM.has (n:Int) q=true:=by
 have hmn:m ||| n < 256:=Nat.or_lt_two_pow (n:=8) hm hn
 rw [has_bits,has_bits,has_bits,SetM.low_nat _ hmn,SetM.low_nat _ hm,SetM.low_nat _ hn,Nat.testBit_or,Bool.or_eq_true]
 constructor
 ·rintro ⟨h1,h2,h3 | h3⟩
  ·exact .inl ⟨h1,h2,h3⟩
  ·exact .inr ⟨h1,h2,h3⟩
 ·rintro (⟨h1,h2,h3⟩ | ⟨h1,h2,h3⟩)
  ·exact ⟨h1,h2,.inl h3⟩
  ·exact ⟨h1,h2,.inr h3⟩
theorem has_placed {T:Tab} {q:Int}:∀ g,SetM.has (placed T g:Nat) q=true ↔ ∃ y ∈ spots T,y.g < g∧y.p=q
 | 0=>by
  constructor
  ·intro h;have:=(has_bits.1 h).2.2;rw [show ((placed T 0:Nat):Int)=((0:Nat):Int) from rfl,SetM.low_nat 0 (by decide),Nat.zero_testBit] at this;cases this
  ·rintro ⟨y,_,h,_⟩;omega
 | g+1=>by
  rw [show placed T (g+1)=placed T g ||| membS T g from rfl,has_or (ChkH.placed_lt T g) (memb_lt T g),has_placed g,has_memb]
  constructor
  ·rintro (⟨y,h1,h2,h3⟩ | h)
   ·exact ⟨y,h1,by omega,h3⟩
   ·obtain ⟨y,hy,rfl⟩:=List.mem_map.1 h
    obtain ⟨h1,h2⟩:=mem_inG.1 hy
    exact ⟨y,h1,by omega,rfl⟩
  ·rintro ⟨y,h1,h2,h3⟩
   by_cases h4:y.g < g
   ·exact .inl ⟨y,h1,h4,h3⟩
   ·exact .inr (List.mem_map.2 ⟨y,mem_inG.2 ⟨h1,by omega⟩,h3⟩)
def go (on:Int):List Int→Nat × Nat→Option (Nat × Nat)
 | [],s=>some s
 | p :: l,(n,s)=>if !SetM.has on p || SetM.has (s:Nat) p then none else go on l (n+1,SetM.withN (s:Nat) p)
theorem fold_go (on:Int) (g:Nat):∀ (l:List Spt) (n s:Nat),foldR on g l (n,s)=go on ((l.filter fun x=>decide ((x.g:Int)=g)).map Spt.p) (n,s)
 | [],n,s=>rfl
 | x :: l,n,s=>by
  by_cases h:x.g=g
  ·have hd:decide ((x.g:Int)=g)=true:=by rw [decide_eq_true_eq];omega
   rw [List.filter_cons,hd,if_pos rfl,List.map_cons,go]
   by_cases hb:(!SetM.has on x.p || SetM.has (s:Nat) x.p)=true
   ·rw [RkR.fold_bad h hb,if_pos hb]
   ·have hb':(!SetM.has on x.p || SetM.has (s:Nat) x.p)=false:=by simpa using hb
    rw [RkR.fold_good h hb',if_neg hb]
    exact fold_go on g l _ _
  ·have hd:decide ((x.g:Int)=g)=false:=by rw [decide_eq_false_iff_not];omega
   rw [RkR.fold_other h,List.filter_cons,hd]
   exact fold_go on g l n s
theorem go_bad {on:Int}:∀ {l:List Int} {n s:Nat},go on l (n,s)=none→(∃ p ∈ l,SetM.has on p=false)∨(∃ p ∈ l,SetM.has (s:Nat) p=true)∨¬ l.Nodup
 | [],n,s,h=>by simp [go] at h
 | p :: l,n,s,h=>by
  rw [go] at h
  split at h
  ·rename_i hb
   rw [Bool.or_eq_true] at hb
   rcases hb with hb | hb
   ·exact .inl ⟨p,List.mem_cons_self ..,by simpa using hb⟩
   ·exact .inr (.inl ⟨p,List.mem_cons_self ..,hb⟩)
  ·rcases go_bad h with ⟨q,h1,h2⟩ | ⟨q,h1,h2⟩ | h1
   ·exact .inl ⟨q,List.mem_cons_of_mem _ h1,h2⟩
   ·rw [SetM.has_with,Bool.or_eq_true] at h2
    rcases h2 with h2 | h2
    ·exact .inr (.inl ⟨q,List.mem_cons_of_mem _ h1,h2⟩)
    ·refine .inr (.inr fun hn=>?_)
     have:q=p:=by rw [Bool.and_eq_true,beq_iff_eq] at h2;exact h2.2
     subst this
     exact (List.nodup_cons.1 hn).1 h1
   ·exact .inr (.inr fun hn=>h1 (List.nodup_cons.1 hn).2)
theorem go_good {on:Int}:∀ {l:List Int} {n s n' s':Nat},s < 256→(∀ p ∈ l,0≤p∧p < 8)→go on l (n,s)=some (n',s') →
  (∀ p ∈ l,SetM.has on p=true)∧(∀ p ∈ l,SetM.has (s:Nat) p=false)∧l.Nodup∧n'=n+l.length∧s' < 256∧∀ q,SetM.has (s':Nat) q=true ↔ SetM.has (s:Nat) q=true∨q ∈ l
 | [],n,s,n',s',hs,_,h=>by
  obtain ⟨rfl,rfl⟩:n=n'∧s=s':=by simpa [go] using h
  exact ⟨by simp,by simp,List.nodup_nil,rfl,hs,by simp⟩
 | p :: l,n,s,n',s',hs,hr,h=>by
  rw [go] at h
  split at h
  ·cases h
  ·rename_i hb
   have hb':(!SetM.has on p || SetM.has (s:Nat) p)=false:=by simpa using hb
   rw [Bool.or_eq_false_iff] at hb'
   have h1:SetM.has on p=true:=by simpa using hb'.1
   obtain ⟨a1,a2,a3,a4,a5,a6⟩:=go_good (SetM.with_lt _ _) (fun q hq=>hr q (List.mem_cons_of_mem _ hq)) h
   have hp:=hr p (List.mem_cons_self ..)
   have hw:∀ q,SetM.has (SetM.withN (s:Nat) p:Nat) q=true ↔ SetM.has (s:Nat) q=true∨q=p:=by
    intro q
    rw [SetM.has_with,Bool.or_eq_true,Bool.and_eq_true,beq_iff_eq]
    constructor
    ·rintro (h | ⟨_,h⟩)
     ·exact .inl h
     ·exact .inr h
    ·rintro (h | h)
     ·exact .inl h
     ·refine .inr ⟨?_,h⟩
      obtain ⟨k,rfl⟩:=Int.eq_ofNat_of_zero_le hp.1
      rw [SetM.bit_in k (by omega),bne_iff_ne]
      exact Nat.ne_of_gt (Nat.pow_pos (by decide))
   refine ⟨?_,?_,?_,?_,a5,?_⟩
   ·intro q hq
    rcases List.mem_cons.1 hq with rfl | hq
    ·exact h1
    ·exact a1 q hq
   ·intro q hq
    rcases List.mem_cons.1 hq with rfl | hq
    ·exact hb'.2
    ·cases e:SetM.has (s:Nat) q with
     | false=>rfl
     | true=>have:=a2 q hq;rw [(hw q).2 (.inl e)] at this;cases this
   ·refine List.nodup_cons.2 ⟨fun hm=>?_,a3⟩
    have:=a2 p hm
    rw [(hw p).2 (.inr rfl)] at this
    cases this
   ·rw [a4,List.length_cons];omega
   ·intro q
    rw [a6,hw,List.mem_cons]
    constructor
    ·rintro ((h | h) | h)
     ·exact .inl h
     ·exact .inr (.inl h)
     ·exact .inr (.inr h)
    ·rintro (h | h | h)
     ·exact .inl (.inl h)
     ·exact .inl (.inr h)
     ·exact .inr h
theorem Lt.asymm {x y:Spt} (h:Lt x y) (k:Lt y x):False:=by unfold Lt at h k;omega
theorem where_first {T:Tab} {x y:Spt} (hw:where_ T x.p=some x) (hy:y ∈ spots T) (hp:y.p=x.p):¬ Lt y x:=by
 intro hl
 unfold where_ find at hw
 have hs:=spots_sorted T
 rw [List.find?_eq_some_iff_append] at hw
 obtain ⟨_,l1,l2,e,h1⟩:=hw
 rw [e] at hy hs
 rcases List.mem_append.1 hy with hy | hy
 ·have:=h1 y hy
  rw [hp] at this
  simp at this
 ·rcases List.mem_cons.1 hy with rfl | hy
  ·exact Lt.irrefl hl
  ·have:=(List.pairwise_append.1 hs).2.1
   exact Lt.asymm hl ((List.pairwise_cons.1 this).1 y hy)
theorem at_some {T:Tab} {x:Spt} (hx:x ∈ spots T):(at0 (where_ T x.p)=(x.g,x.k,x.i)) ↔ where_ T x.p=some x:=by
 constructor
 ·intro h
  cases hw:where_ T x.p with
  | none =>
   exfalso
   unfold where_ find at hw
   rw [List.find?_eq_none] at hw
   exact hw x hx (by simp)
  | some y =>
   rw [hw] at h
   unfold where_ find at hw
   have hp:y.p=x.p:=by simpa using List.find?_some hw
   obtain ⟨yg,yk,yi,yp⟩:=y
   obtain ⟨xg,xk,xi,xp⟩:=x
   simp only [at0,Prod.mk.injEq] at h
   obtain ⟨h1,h2,h3⟩:=h
   subst h1 h2 h3
   simp only at hp
   rw [hp]
 ·intro h;rw [h];rfl
theorem rows_at {T:Tab} {g:Nat} (hg:g < T.groups.length):rowsAt T g=T.groups[g]:=rows_in (List.getElem?_eq_getElem hg)
theorem spot_of {T:Tab} (h:InR T) {g k i:Nat} (hg:g < T.groups.length) (hk:k < 2) (hi:i < (ringOf (rowsAt T g) k).length):(⟨g,k,i,(ringOf (rowsAt T g) k).getD i 0⟩:Spt) ∈ spots T:=by
 have hm:=h.gr _ (List.getElem_mem hg)
 unfold groupMay rowMay at hm
 simp only [Bool.and_eq_true,allIn_iff] at hm
 rw [mem_spots]
 refine ⟨T.groups[g],List.getElem?_eq_getElem hg,?_⟩
 rw [rows_at hg] at hi ⊢
 simp only
 have he:(ringOf T.groups[g] k)[i]?=some ((ringOf T.groups[g] k).getD i 0):=by rw [List.getD_eq_getElem?_getD,List.getElem?_eq_getElem hi];rfl
 refine ⟨he,?_⟩
 have hmem:(ringOf T.groups[g] k).getD i 0 ∈ ringOf T.groups[g] k:=List.mem_of_getElem? he
 have h01:k=0∨k=1:=by omega
 rcases h01 with rfl | rfl
 ·have:=hm.1.2 _ hmem;omega
 ·have:=hm.2.2 _ hmem;omega
theorem rep_iff {T:Tab} (h:InR T) {g:Nat} (hg:g < T.groups.length):repeats T g=false ↔ ∀ x ∈ inG T g,where_ T x.p=some x:=by
 unfold repeats
 rw [Bool.or_eq_false_iff,ChkG.rep_row,ChkG.rep_row]
 constructor
 ·rintro ⟨h0,h1⟩ x hx
  obtain ⟨hs,hxg⟩:=mem_inG.1 hx
  rw [← at_some hs]
  obtain ⟨y,hy,hr,_⟩:=mem_spots.1 hs
  have hry:rowsAt T (x.g:Nat)=y:=rows_in hy
  rw [hxg] at hry
  have hlt:=(List.getElem?_eq_some_iff.1 hr).1
  have hk:x.k=0∨x.k=1:=by
   unfold ringOf at hr
   by_cases e0:x.k=0
   ·exact .inl e0
   ·by_cases e1:x.k=1
    ·exact .inr e1
    ·rw [if_neg e0,if_neg e1] at hr;simp at hr
  have hv:(ringOf y x.k).getD x.i 0=x.p:=by rw [List.getD_eq_getElem?_getD,hr];rfl
  rcases hk with e | e
  ·rw [e] at hlt hv
   have:=h0 x.i (by rw [hry];exact hlt)
   unfold ChkG.atOk at this
   rw [beq_iff_eq,hry,show y.1.getD x.i 0=x.p from hv] at this
   rw [this,hxg,e]
  ·rw [e] at hlt hv
   have:=h1 x.i (by rw [hry];exact hlt)
   unfold ChkG.atOk at this
   rw [beq_iff_eq,hry,show y.2.getD x.i 0=x.p from hv] at this
   rw [this,hxg,e]
 ·intro hall
  constructor
  ·intro i hi
   have hs:=spot_of h hg (k:=0) (by omega) hi
   have:=(at_some hs).2 (hall _ (mem_inG.2 ⟨hs,rfl⟩))
   unfold ChkG.atOk
   rw [beq_iff_eq]
   exact this
  ·intro i hi
   have hs:=spot_of h hg (k:=1) (by omega) hi
   have:=(at_some hs).2 (hall _ (mem_inG.2 ⟨hs,rfl⟩))
   unfold ChkG.atOk
   rw [beq_iff_eq]
   exact this
theorem inj_of {A:List Spt}:(A.map Spt.p).Nodup→∀ {x y:Spt},x ∈ A→y ∈ A→x.p=y.p→x=y:=by
 induction A with
 | nil=>intro _ x y hx;cases hx
 | cons a A ih =>
  intro hn x y hx hy hp
  rw [List.map_cons,List.nodup_cons] at hn
  rcases List.mem_cons.1 hx with hx | hx
  ·rcases List.mem_cons.1 hy with hy | hy
   ·rw [hx,hy]
   ·exact absurd (List.mem_map.2 ⟨y,hy,by rw [← hp,hx]⟩) hn.1
  ·rcases List.mem_cons.1 hy with hy | hy
   ·exact absurd (List.mem_map.2 ⟨x,hx,by rw [hp,hy]⟩) hn.1
   ·exact ih hn.2 hx hy hp
theorem first_iff {T:Tab} (g:Nat):(∀ x ∈ inG T g,where_ T x.p=some x) ↔ (phG T g).Nodup∧∀ p ∈ phG T g,SetM.has (placed T g:Nat) p=false:=by
 constructor
 ·intro h
  constructor
  ·unfold phG List.Nodup
   rw [List.pairwise_map]
   have hs:(inG T g).Pairwise Lt:=(spots_sorted T).sublist List.filter_sublist
   refine List.Pairwise.imp_of_mem (fun {y x} hy hx hl e=>?_) hs
   exact where_first (h x hx) (mem_inG.1 hy).1 e hl
  ·intro p hp
   obtain ⟨x,hx,rfl⟩:=List.mem_map.1 hp
   cases e:SetM.has (placed T g:Nat) x.p with
   | false=>rfl
   | true =>
    exfalso
    obtain ⟨y,h1,h2,h3⟩:=(has_placed g).1 e
    exact where_first (h x hx) h1 h3 (.inl (by rw [(mem_inG.1 hx).2];exact h2))
 ·rintro ⟨hn,hp⟩ x hx
  obtain ⟨hs,hxg⟩:=mem_inG.1 hx
  refine where_some hs rfl (fun y hy hl e=>?_)
  rcases hl with hl | ⟨hl,hl2⟩
  ·have:=hp x.p (List.mem_map.2 ⟨x,hx,rfl⟩)
   rw [(has_placed g).2 ⟨y,hy,by omega,e⟩] at this
   cases this
  ·have hyx:=inj_of hn (mem_inG.2 ⟨hy,by omega⟩) hx e
   subst hyx
   omega
theorem of_zero {l:List Int} (hr:∀ p ∈ l,0≤p∧p < 8):SetM.of l=0 ↔ l=[]:=by
 constructor
 ·intro h
  cases l with
  | nil=>rfl
  | cons p l =>
   exfalso
   have hp:=hr p (List.mem_cons_self ..)
   exact (low_ne (SetM.of_lt (p :: l))).2 ⟨p,has_of.2 ⟨hp.1,hp.2,List.mem_cons_self ..⟩⟩ h
 ·rintro rfl;rfl
theorem group_iff {T:Tab} (h:InR T) {g:Nat} (hg:g < T.groups.length):groupBad T g=false ↔
  phG T g ≠ []∧(∀ p ∈ phG T g,SetM.has (onS T:Nat) p=true)∧(phG T g).Nodup∧∀ p ∈ phG T g,SetM.has (placed T g:Nat) p=false:=by
 unfold groupBad
 rw [Bool.or_eq_false_iff,Bool.or_eq_false_iff,rep_iff h hg,first_iff,beq_eq_false_iff_ne,Bool.not_eq_false',allOn_iff (by have:=memb_lt T g;omega),← memb_eq,ne_eq,of_zero (fun p hp=>ph_range hp)]
 rw [memb_eq]
 simp only [has_memb]
theorem group_step {T:Tab} (h:InR T) {g:Nat} (hg:g < T.groups.length) :
  (groupBad T g=true→foldR (onS T:Nat) g (spots T) (0,placed T g)=none∨∃ s,foldR (onS T:Nat) g (spots T) (0,placed T g)=some (0,s)) ∧
  (groupBad T g=false→∃ n,foldR (onS T:Nat) g (spots T) (0,placed T g)=some (n,placed T (g+1))∧n ≠ 0):=by
 have hf:foldR (onS T:Nat) g (spots T) (0,placed T g)=ChkZ.go (onS T:Nat) (phG T g) (0,placed T g):=fold_go _ _ _ _ _
 rw [hf]
 have hi:=group_iff h hg
 constructor
 ·intro hb
  cases hgo:ChkZ.go (onS T:Nat) (phG T g) (0,placed T g) with
  | none=>exact .inl rfl
  | some st =>
   obtain ⟨n',s'⟩:=st
   obtain ⟨a1,a2,a3,a4,a5,a6⟩:=go_good (ChkH.placed_lt T g) (fun p hp=>ph_range hp) hgo
   have:phG T g=[]:=by
    refine Classical.byContradiction fun hne=>?_
    have:=hi.2 ⟨hne,a1,a3,a2⟩
    rw [this] at hb;cases hb
   rw [this] at a4
   exact .inr ⟨s',by rw [a4];rfl⟩
 ·intro hb
  obtain ⟨b1,b2,b3,b4⟩:=hi.1 hb
  cases hgo:ChkZ.go (onS T:Nat) (phG T g) (0,placed T g) with
  | none =>
   exfalso
   rcases go_bad hgo with ⟨p,h1,h2⟩ | ⟨p,h1,h2⟩ | h1
   ·rw [b2 p h1] at h2;cases h2
   ·rw [b4 p h1] at h2;cases h2
   ·exact h1 b3
  | some st =>
   obtain ⟨n',s'⟩:=st
   obtain ⟨a1,a2,a3,a4,a5,a6⟩:=go_good (ChkH.placed_lt T g) (fun p hp=>ph_range hp) hgo
   have e:s'=placed T (g+1):=by
    refine SetM.has_ext a5 (ChkH.placed_lt T (g+1)) fun q=>?_
    rw [Bool.eq_iff_iff,a6,show placed T (g+1)=placed T g ||| membS T g from rfl,has_or (ChkH.placed_lt T g) (memb_lt T g),has_memb]
   refine ⟨n',by rw [e],?_⟩
   rw [a4]
   have:=List.length_pos_iff.2 b1
   omega
def tailC (T:Tab):Option Int :=
 match (List.range T.groups.length).find? (groupBad T) with
 | some g=>some (g:Int)
 | none=>if bits .andNot .i64 (onS T:Nat) (placed T T.groups.length:Nat)=0 then none else some 0
theorem loop_eq {T:Tab} (h:InR T):∀ (m g:Nat),g+m=T.groups.length→(∀ j,j < g→groupBad T j=false)→loopR T m g (placed T g)=tailC T
 | 0,g,hg,hn=>by
  obtain rfl:g=T.groups.length:=by omega
  unfold tailC
  rw [range_miss hn]
  simp only [loopR]
  have hon:0≤((onS T:Nat):Int)∧((onS T:Nat):Int)≤255:=by have:onS T < 256:=SetM.of_lt _;omega
  have e:placed T T.groups.length=onS T ↔ bits .andNot .i64 (onS T:Nat) (placed T T.groups.length:Nat)=0:=by
   rw [andNot_zero hon (ChkH.placed_lt T _)]
   constructor
   ·intro e q hq;rw [e];exact hq
   ·intro hsub
    refine SetM.has_ext (ChkH.placed_lt T _) (SetM.of_lt _) fun q=>?_
    rw [Bool.eq_iff_iff]
    refine ⟨fun hq=>?_,hsub q⟩
    obtain ⟨y,h1,h2,rfl⟩:=(has_placed _).1 hq
    exact ((group_iff h h2).1 (hn y.g h2)).2.1 _ (List.mem_map.2 ⟨y,mem_inG.2 ⟨h1,rfl⟩,rfl⟩)
  by_cases he:placed T T.groups.length=onS T
  ·rw [if_pos he,if_pos (e.1 he)]
  ·rw [if_neg he,if_neg (fun h=>he (e.2 h))]
 | m+1,g,hg,hn=>by
  have hlt:g < T.groups.length:=by omega
  obtain ⟨s1,s2⟩:=group_step h hlt
  cases hb:groupBad T g with
  | true =>
   have ht:tailC T=some (g:Int):=by unfold tailC;rw [range_hit hlt hb hn]
   rw [ht]
   rcases s1 hb with h1 | ⟨s,h1⟩
   ·exact RkR.loop_none h1
   ·exact RkR.loop_zero h1
  | false =>
   obtain ⟨n,h1,h2⟩:=s2 hb
   rw [RkR.loop_next h1 h2]
   refine loop_eq h m (g+1) (by omega) (fun j hj=>?_)
   by_cases e:j=g
   ·subst e;exact hb
   ·exact hn j (by omega)
theorem rings_eq {T:Tab} (h:InR T):ringsC T=ringsR T:=by
 unfold ringsC ringsR
 by_cases h0:T.groups.length=0
 ·rw [if_pos h0,if_pos h0]
 ·rw [if_neg h0,if_neg h0,show (0:Nat)=placed T 0 from rfl]
  exact (loop_eq h T.groups.length 0 (by omega) (fun j hj=>by omega)).symm
theorem find_congr {f g:Int→Bool}:∀ {l:List Int},(∀ x ∈ l,f x=g x)→l.find? f=l.find? g
 | [],_=>rfl
 | x :: l,h=>by
  rw [List.find?_cons,List.find?_cons,h x (List.mem_cons_self ..),find_congr (fun y hy=>h y (List.mem_cons_of_mem _ hy))]
theorem idx_congr {α:Type} {f g:α→Bool} {l:List α} (h:∀ x ∈ l,f x=g x):idx f l=idx g l:=by
 have:l.findIdx? f=l.findIdx? g:=by
  induction l with
  | nil=>rfl
  | cons x l ih=>rw [List.findIdx?_cons,List.findIdx?_cons,h x (List.mem_cons_self ..),ih (fun y hy=>h y (List.mem_cons_of_mem _ hy))]
 unfold idx
 rw [this]
theorem chk_eq {T:Tab} (h8:T.phases.length=8) (hc:T.conflict.length=8):chkC T=chkR T:=by
 cases hm:tabMay T with
 | false=>unfold chkC chkR rulesC rulesR mayF;rw [hm];rfl
 | true =>
  have h:=in_ranges hm
  have hb:∀ p ∈ ons T,0≤p∧p < 8:=fun p hp=>SetM.list_bd _ _ hp
  unfold chkC chkR rulesC rulesR
  rw [rings_eq h,
   find_congr (f:=fun p=>phBad (phAt T p)) (g:=fun p=>!phOk (phAt T p)) (fun p hp=>by rw [ph_eq (ph_at h h8 (hb p hp).1 (hb p hp).2),Bool.not_not]),
   find_congr (f:=confBad T) (g:=fun p=>!confOk T p) (fun p hp=>by rw [conf_eq hp,Bool.not_not]),
   idx_congr (f:=detBad T) (g:=detR T) (fun d hd=>by
    have hd':=h.dt d hd
    unfold Det.may at hd'
    rw [Bool.and_eq_true,allIn_iff] at hd'
    have:=hd'.1 d.phase (by simp)
    exact det_eq h8 this.1 (by omega)),
   idx_congr (f:=railBad T) (g:=fun r=>!railOk T r) (fun r hr=>by rw [rail_eq h hc (h.rl r hr),Bool.not_not]),
   idx_congr (f:=busBad T) (g:=busR T) (fun b hb'=>bus_eq (h.bs b hb')),
   find_congr (f:=flashBad T) (g:=fun p=>!flashOk T p) (fun p hp=>by rw [flash_eq,Bool.not_not])]
end ChkZ
namespace Val
open Go Tab GenG GenT PlaceM PlanM OnS ChkM Clone May
open RefS (num num_range)
open ChkX (in_ranges InR)
open ChkZ
end Val
namespace Val
open Go Tab GenG GenT PlaceM PlanM OnS ChkM Clone May
open RefS (num num_range)
open ChkX (has_bits and_ne low_in allOn_iff andNot_eq not_bit low_ne)
structure Two (L:List Int) (s:Int):Prop where
 rg:0≤s∧s≤255
 on:∀ x,SetM.has s x=true→0≤x∧x < (genN L:Int)
 bes:∀ x y,SetM.has s x=true→SetM.has s y=true→x=y∨beside (genTab L) x y=true
theorem Two.clash {L:List Int} {s:Int} (h:Two L s):clashC (genTab L) s=false:=by
 have h8:=genN_range L
 unfold clashC
 rw [List.any_eq_false]
 intro p hp hne
 rw [bne_iff_ne,and_ne h.rg] at hne
 obtain ⟨q,h1,h2⟩:=hne
 have hps:=(SetM.mem_list _ _).1 hp
 have hr:=h.on p hps
 obtain ⟨_,hpq,hb⟩:=cf_at L ⟨hr.1,by omega⟩ h1
 rcases h.bes p q hps h2 with e | e
 ·exact hpq e
 ·rw [hb] at e;cases e
end Val
namespace ChkE
open Zip
open Go.ChangeShapes Go.WideShapes Go.ChangeAt Go.RowKit
open Tab PlaceM PlanM OnS ChkM ChkA ChkH
open ChkB (laid2)
open Same (below_setRow)
open May (ret_bool infoT infoD infoR infoB)
theorem idx_hit {α:Type} {f:α→Bool} {l:List α} {q:Nat} {v:α} (hv:l[q]?=some v) (hb:f v=true) (hn:∀ (j:Nat) u,j < q→l[j]?=some u→f u=false):idx f l=some (q:Int):=by
 have h:l.findIdx? f=some q:=by
  rw [List.findIdx?_eq_some_iff_getElem]
  obtain ⟨h1,h2⟩:=List.getElem?_eq_some_iff.1 hv
  refine ⟨h1,by rw [h2];exact hb,fun j hj=>?_⟩
  have:=hn j _ hj (List.getElem?_eq_getElem (by omega))
  simp [this]
 unfold idx;rw [h];rfl
theorem idx_miss {α:Type} {f:α→Bool} {l:List α} (hn:∀ (j:Nat) u,l[j]?=some u→f u=false):idx f l=none:=by
 have h:l.findIdx? f=none:=by
  rw [List.findIdx?_eq_none_iff]
  intro x hx
  obtain ⟨j,hj,rfl⟩:=List.getElem_of_mem hx
  exact hn j _ (List.getElem?_eq_getElem hj)
 unfold idx;rw [h];rfl
theorem elem_D (T:Tab) (h:Hd) (code:Int) (bl bb bc:Nat) (bad:Det→Bool) (w:World) (ht:IsTab w h T) (hbl:w.cell? ⟨bl,0,none⟩=some (.func (.func 79) #[] #[])) (hbb:w.cell? ⟨bb,0,none⟩=some (.func (.func 80) #[] #[])) (hbc:w.cell? ⟨bc,0,none⟩=some (.int .i64 code))
  (hbad:∀ (v:Det) W,v ∈ T.dets→Below w.heap.size w W→Calls Tryz.prog 80 #[.agg (T.cells h).toArray,.agg v.cells.toArray] W fun e w'=>e=.returned (.bool (bad v))∧Below W.heap.size W w') :
  Calls Tryz.prog 113 #[.agg (T.cells h).toArray,.pointer (some ⟨bl,0,none⟩),.pointer (some ⟨bb,0,none⟩),.pointer (some ⟨bc,0,none⟩)] w fun e w'=>e=.returned (.agg (fltC code (idx bad T.dets)))∧Below w.heap.size w w':=by
 have hsz:=(cells_ok ht).size
 have IA:Hid ((Tryz.prog.info? 32).map (·.size)=some (T.cells h).length):=hJJ (by rw [List.size_toArray] at hsz;rw [hsz];exact infoT)
 have LS:Hid (∀ W,Below w.heap.size w W→Calls Tryz.prog 79 #[.agg (T.cells h).toArray] W fun e w'=>e=.returned (h.d.val T.dets.length)∧Below W.heap.size W w'):=hJJ (fun W hb=>listD_any T h W (ht.below hb))
 have LT0:=hJJ (Row.lies_new w (T.cells h).toArray 32)
 have HBAD:=hJJ hbad
 have HBL:=hJJ (show ∀ W,Below w.heap.size w W→W.cell? ⟨bl,0,none⟩=some (.func (.func 79) #[] #[]) from fun W hb=>(hb.cell (World.block_lt_of_cell? w _ hbl)).trans hbl)
 have HBB:=hJJ (show ∀ W,Below w.heap.size w W→W.cell? ⟨bb,0,none⟩=some (.func (.func 80) #[] #[]) from fun W hb=>(hb.cell (World.block_lt_of_cell? w _ hbb)).trans hbb)
 have HBC:=hJJ (show ∀ W,Below w.heap.size w W→W.cell? ⟨bc,0,none⟩=some (.int .i64 code) from fun W hb=>(hb.cell (World.block_lt_of_cell? w _ hbc)).trans hbc)
 have hs1:(w.alloc (.cells (T.cells h).toArray 32)).heap.size=w.heap.size+1:=by simp
 have en:=enters_of Tryz.func80 (by kernel_rfl) rfl
 have en2:=enters_of Tryz.func79 (by kernel_rfl) rfl
 have RW:=hJJ ht.dets
 have Kl:=ht.dets.len
 unfold maxLen at Kl
 obtain ⟨o,ho⟩:∃ o,o=idx bad T.dets:=⟨_,rfl⟩
 rw [← ho]
 have HO:=hJJ ho
 clear ht hbad hbl hbb hbc ho
 generalize hSl:h.d=sl at *
 obtain ⟨sa,scap⟩:=sl
 clear hSl
 generalize T.cells h=c at *
 generalize T.dets=l at *
 go_enter Tryz.func113,Tryz.ntmps113
 go_upto_region 1 with fail
 obtain ⟨W1,hW1,E1,E0,EB,bR⟩:=laid2 w (.cells c.toArray 32) (.cells #[.int .i64 0,.int .i64 0] 37)
 rw [hW1]
 have LT:=hJJ (LT0.out.below (by rw [hs1];exact EB))
 have B0:=hJJ E0
 have B2:Hid (W1.heap[w.heap.size+1]?=some (.cells #[.int .i64 0,.int .i64 0] 37 (0,0))):=hJJ bR
 clear hW1 EB hs1 hsz LT0 E0 bR E1
 have hbl:=HBL.out _ B0.out
 go_wp2_with (refine lgZ 32 ⟨w.heap.size,0,none⟩ c rfl LT.out Tryz.underlying32 IA.out ?_)
 (try go_wp2_with fail)
 refine (LS.out _ B0.out).mono ?_
 rintro e W3 ⟨rfl,hb⟩
 have HB3:=hJJ hb
 clear hb hbl
 rw [show (Sl.val ⟨sa,scap⟩ l.length)=.slice sa l.length scap from rfl]
 go_wp2_with fail
 go_loopw [12] (fun a wr=>∃ q:Nat,q≤l.length∧a=.int .i64 q∧(∀ j u,j < q→l[j]?=some u→bad u=false)∧Below W1.heap.size W1 wr) (fun a _=>l.length - (intOf a).toNat)
 case atStart=>exact ⟨0,by omega,rfl,(fun j u h=>by omega),HB3.out⟩
 case round =>
  obtain ⟨q,hq,rfl,hall,hB⟩:=hrel
  have HA:=hJJ hall
  have HB:=hJJ hB
  have BW:Hid (Below w.heap.size w wr):=hJJ (B0.out.trans (hB.mono B0.out.size))
  clear hall hB
  by_cases hlt:q < l.length
  ·have hv:=List.getElem?_eq_getElem hlt
   generalize hz:l[q]=v at hv
   have hmem:v ∈ l:=List.mem_of_getElem? hv
   obtain ⟨x,hx,hc⟩:=(RW.out.below BW.out).at hv
   obtain rfl:sa=some x:=hx
   have HC:=hJJ hc
   have HV:=hJJ hv
   have BD:=hJJ (fun W hb=>HBAD.out v W hmem hb)
   have hwr:=HB.out.size
   clear hv hz hmem hc
   have VO:=hJJ (Det.one v)
   obtain ⟨bv,hbv⟩:∃ z,bad v=z:=⟨_,rfl⟩
   have BDV:=BD
   have IV:Hid ((Tryz.prog.info? 45).map (·.size)=some v.cells.length):=hJJ infoD
   go_upto_region 4 with (first | (refine Row.wpList_load_g 45 _ rfl (by first | rfl | go_simp) (x.add (q*7)) rfl v.cells _ HC.out Tryz.underlying45 rfl IV.out ?_) | (refine Row.wpList_store_new rfl 45 _ _ rfl wr _ v.cells.toArray rfl rfl rfl infoD rfl VO.out ?_))
   have hbn:Below W1.heap.size W1 (wr.alloc (.cells v.cells.toArray 45)):=HB.out.alloc hwr _
   have hbo:Below wr.heap.size wr (wr.alloc (.cells v.cells.toArray 45)):=(Below.refl _ _).alloc (Nat.le_refl _) _
   have hg:=Row.lies_new wr v.cells.toArray 45
   have HL:Hid (Lies (wr.alloc (.cells v.cells.toArray 45)) ⟨wr.heap.size,0,none⟩ v.cells):=hJJ (by simpa using hg)
   have HN:=hJJ hbn
   have LTW:=hJJ ((LT.out.below HB.out).below hbo)
   clear hg hbn hbo HC VO
   generalize v.cells=vc at *
   generalize wr.alloc (.cells vc.toArray 45)=w4 at HL HN LTW ⊢
   generalize wr.heap.size=b4 at HL ⊢
   have BW4:Hid (Below w.heap.size w w4):=hJJ (B0.out.trans (HN.out.mono B0.out.size))
   have hbb:=HBB.out _ BW4.out
   go_wp2_with (first | (refine lgZ 32 ⟨w.heap.size,0,none⟩ c rfl LTW.out Tryz.underlying32 IA.out ?_) | (refine lgZ 45 ⟨b4,0,none⟩ vc rfl HL.out Tryz.underlying45 IV.out ?_))
   (try go_wp2_with fail)
   refine (BD.out _ BW4.out).mono ?_
   rintro e w5 ⟨rfl,hb⟩
   have HN5:=hJJ (HN.out.trans (hb.mono HN.out.size))
   have BW5:Hid (Below w.heap.size w w5):=hJJ (BW4.out.trans (hb.mono BW4.out.size))
   clear hb hbb HN LTW BW4
   rw [hbv]
   cases bv with
   | true =>
    have RO:Hid (o=some (q:Int)):=hJJ (by rw [HO.out];exact idx_hit HV.out hbv HA.out)
    have hbc:=HBC.out _ BW5.out
    have C2:Hid (w5.heap[w.heap.size+1]?=some (.cells #[.int .i64 0,.int .i64 0] 37 (0,0))):=hJJ ((HN5.out.block _ (Array.getElem?_eq_some_iff.1 B2.out).1).trans B2.out)
    clear hbv
    have HW:=hJJ (below_setRow BW5.out (g:=w.heap.size+1) (by omega) #[.int .i64 code,.int .i64 q])
    have HK:=hJJ (setRow_heap w5 (w.heap.size+1) _ #[.int .i64 code,.int .i64 q] _ _ C2.out)
    go_wp2_with (first | (refine wpList_store_row rfl 37 _ _ rfl (w.heap.size+1) #[.int .i64 code,.int .i64 q] rfl rfl 37 _ C2.out infoF rfl (by simp [Value.oneCell']) ?_))
    generalize w5.setRow (w.heap.size+1) #[.int .i64 code,.int .i64 q]=uz at HW HK ⊢
    (try go_wp2_with fail)
    (try simp only [Exit.inBlock,Exit.then])
    refine bodyPost_ret (v:=.agg #[.int .i64 code,.int .i64 q]) ?_ rfl ⟨by rw [RO.out];rfl,HW.out⟩
    exact results_cell_row rfl _ _ (w.heap.size+1) 37 _ (0,0) _ rfl HK.out Tryz.underlying37 rfl infoF
   | false =>
    have HF:=hJJ hbv
    clear hbv
    go_wp2
    go_roundw
    case rel=>exact ⟨q+1,by omega,by go_num,(fun j u hj hu=>by
     by_cases e:j=q
     ·subst e;obtain rfl:=Option.some.inj (hu.symm.trans HV.out);exact HF.out
     ·exact HA.out j u (by omega) hu),HN5.out⟩
    case measure=>simp [intOf];omega
  ·have RO:Hid (o=none):=hJJ (by rw [HO.out];exact idx_miss (fun j u hu=>HA.out j u (by have:=(List.getElem?_eq_some_iff.1 hu).1;omega) hu))
   have C2:Hid (wr.heap[w.heap.size+1]?=some (.cells #[.int .i64 0,.int .i64 0] 37 (0,0))):=hJJ ((HB.out.block _ (Array.getElem?_eq_some_iff.1 B2.out).1).trans B2.out)
   have HW:=hJJ (below_setRow BW.out (g:=w.heap.size+1) (by omega) #[.int .i64 0,.int .i64 0])
   have HK:=hJJ (setRow_heap wr (w.heap.size+1) _ #[.int .i64 0,.int .i64 0] _ _ C2.out)
   go_wp2_with (first | (refine wpList_store_row rfl 37 _ _ rfl (w.heap.size+1) #[.int .i64 0,.int .i64 0] rfl rfl 37 _ C2.out infoF rfl (by simp [Value.oneCell']) ?_))
   generalize wr.setRow (w.heap.size+1) #[.int .i64 0,.int .i64 0]=uz at HW HK ⊢
   (try go_wp2_with fail)
   (try simp only [Exit.inBlock,Exit.then])
   refine bodyPost_ret (v:=.agg #[.int .i64 0,.int .i64 0]) ?_ rfl ⟨by rw [RO.out];rfl,HW.out⟩
   exact results_cell_row rfl _ _ (w.heap.size+1) 37 _ (0,0) _ rfl HK.out Tryz.underlying37 rfl infoF
theorem elem_R (T:Tab) (h:Hd) (code:Int) (bl bb bc:Nat) (bad:Rl→Bool) (w:World) (ht:IsTab w h T) (hbl:w.cell? ⟨bl,0,none⟩=some (.func (.func 82) #[] #[])) (hbb:w.cell? ⟨bb,0,none⟩=some (.func (.func 83) #[] #[])) (hbc:w.cell? ⟨bc,0,none⟩=some (.int .i64 code))
  (hbad:∀ (v:Rl) W,v ∈ T.rails→Below w.heap.size w W→Calls Tryz.prog 83 #[.agg (T.cells h).toArray,.agg v.cells.toArray] W fun e w'=>e=.returned (.bool (bad v))∧Below W.heap.size W w') :
  Calls Tryz.prog 114 #[.agg (T.cells h).toArray,.pointer (some ⟨bl,0,none⟩),.pointer (some ⟨bb,0,none⟩),.pointer (some ⟨bc,0,none⟩)] w fun e w'=>e=.returned (.agg (fltC code (idx bad T.rails)))∧Below w.heap.size w w':=by
 have hsz:=(cells_ok ht).size
 have IA:Hid ((Tryz.prog.info? 32).map (·.size)=some (T.cells h).length):=hJJ (by rw [List.size_toArray] at hsz;rw [hsz];exact infoT)
 have LS:Hid (∀ W,Below w.heap.size w W→Calls Tryz.prog 82 #[.agg (T.cells h).toArray] W fun e w'=>e=.returned (h.r.val T.rails.length)∧Below W.heap.size W w'):=hJJ (fun W hb=>listR_any T h W (ht.below hb))
 have LT0:=hJJ (Row.lies_new w (T.cells h).toArray 32)
 have HBAD:=hJJ hbad
 have HBL:=hJJ (show ∀ W,Below w.heap.size w W→W.cell? ⟨bl,0,none⟩=some (.func (.func 82) #[] #[]) from fun W hb=>(hb.cell (World.block_lt_of_cell? w _ hbl)).trans hbl)
 have HBB:=hJJ (show ∀ W,Below w.heap.size w W→W.cell? ⟨bb,0,none⟩=some (.func (.func 83) #[] #[]) from fun W hb=>(hb.cell (World.block_lt_of_cell? w _ hbb)).trans hbb)
 have HBC:=hJJ (show ∀ W,Below w.heap.size w W→W.cell? ⟨bc,0,none⟩=some (.int .i64 code) from fun W hb=>(hb.cell (World.block_lt_of_cell? w _ hbc)).trans hbc)
 have hs1:(w.alloc (.cells (T.cells h).toArray 32)).heap.size=w.heap.size+1:=by simp
 have en:=enters_of Tryz.func83 (by kernel_rfl) rfl
 have en2:=enters_of Tryz.func82 (by kernel_rfl) rfl
 have RW:=hJJ ht.rails
 have Kl:=ht.rails.len
 unfold maxLen at Kl
 obtain ⟨o,ho⟩:∃ o,o=idx bad T.rails:=⟨_,rfl⟩
 rw [← ho]
 have HO:=hJJ ho
 clear ht hbad hbl hbb hbc ho
 generalize hSl:h.r=sl at *
 obtain ⟨sa,scap⟩:=sl
 clear hSl
 generalize T.cells h=c at *
 generalize T.rails=l at *
 go_enter Tryz.func114,Tryz.ntmps114
 go_upto_region 1 with fail
 obtain ⟨W1,hW1,E1,E0,EB,bR⟩:=laid2 w (.cells c.toArray 32) (.cells #[.int .i64 0,.int .i64 0] 37)
 rw [hW1]
 have LT:=hJJ (LT0.out.below (by rw [hs1];exact EB))
 have B0:=hJJ E0
 have B2:Hid (W1.heap[w.heap.size+1]?=some (.cells #[.int .i64 0,.int .i64 0] 37 (0,0))):=hJJ bR
 clear hW1 EB hs1 hsz LT0 E0 bR E1
 have hbl:=HBL.out _ B0.out
 go_wp2_with (refine lgZ 32 ⟨w.heap.size,0,none⟩ c rfl LT.out Tryz.underlying32 IA.out ?_)
 (try go_wp2_with fail)
 refine (LS.out _ B0.out).mono ?_
 rintro e W3 ⟨rfl,hb⟩
 have HB3:=hJJ hb
 clear hb hbl
 rw [show (Sl.val ⟨sa,scap⟩ l.length)=.slice sa l.length scap from rfl]
 go_wp2_with fail
 go_loopw [12] (fun a wr=>∃ q:Nat,q≤l.length∧a=.int .i64 q∧(∀ j u,j < q→l[j]?=some u→bad u=false)∧Below W1.heap.size W1 wr) (fun a _=>l.length - (intOf a).toNat)
 case atStart=>exact ⟨0,by omega,rfl,(fun j u h=>by omega),HB3.out⟩
 case round =>
  obtain ⟨q,hq,rfl,hall,hB⟩:=hrel
  have HA:=hJJ hall
  have HB:=hJJ hB
  have BW:Hid (Below w.heap.size w wr):=hJJ (B0.out.trans (hB.mono B0.out.size))
  clear hall hB
  by_cases hlt:q < l.length
  ·have hv:=List.getElem?_eq_getElem hlt
   generalize hz:l[q]=v at hv
   have hmem:v ∈ l:=List.mem_of_getElem? hv
   obtain ⟨x,hx,hc⟩:=(RW.out.below BW.out).at hv
   obtain rfl:sa=some x:=hx
   have HC:=hJJ hc
   have HV:=hJJ hv
   have BD:=hJJ (fun W hb=>HBAD.out v W hmem hb)
   have hwr:=HB.out.size
   clear hv hz hmem hc
   have VO:=hJJ (Rl.one v)
   obtain ⟨bv,hbv⟩:∃ z,bad v=z:=⟨_,rfl⟩
   have BDV:=BD
   have IV:Hid ((Tryz.prog.info? 47).map (·.size)=some v.cells.length):=hJJ infoR
   go_upto_region 4 with (first | (refine Row.wpList_load_g 47 _ rfl (by first | rfl | go_simp) (x.add (q*11)) rfl v.cells _ HC.out Tryz.underlying47 rfl IV.out ?_) | (refine Row.wpList_store_new rfl 47 _ _ rfl wr _ v.cells.toArray rfl rfl rfl infoR rfl VO.out ?_))
   have hbn:Below W1.heap.size W1 (wr.alloc (.cells v.cells.toArray 47)):=HB.out.alloc hwr _
   have hbo:Below wr.heap.size wr (wr.alloc (.cells v.cells.toArray 47)):=(Below.refl _ _).alloc (Nat.le_refl _) _
   have hg:=Row.lies_new wr v.cells.toArray 47
   have HL:Hid (Lies (wr.alloc (.cells v.cells.toArray 47)) ⟨wr.heap.size,0,none⟩ v.cells):=hJJ (by simpa using hg)
   have HN:=hJJ hbn
   have LTW:=hJJ ((LT.out.below HB.out).below hbo)
   clear hg hbn hbo HC VO
   generalize v.cells=vc at *
   generalize wr.alloc (.cells vc.toArray 47)=w4 at HL HN LTW ⊢
   generalize wr.heap.size=b4 at HL ⊢
   have BW4:Hid (Below w.heap.size w w4):=hJJ (B0.out.trans (HN.out.mono B0.out.size))
   have hbb:=HBB.out _ BW4.out
   go_wp2_with (first | (refine lgZ 32 ⟨w.heap.size,0,none⟩ c rfl LTW.out Tryz.underlying32 IA.out ?_) | (refine lgZ 47 ⟨b4,0,none⟩ vc rfl HL.out Tryz.underlying47 IV.out ?_))
   (try go_wp2_with fail)
   refine (BD.out _ BW4.out).mono ?_
   rintro e w5 ⟨rfl,hb⟩
   have HN5:=hJJ (HN.out.trans (hb.mono HN.out.size))
   have BW5:Hid (Below w.heap.size w w5):=hJJ (BW4.out.trans (hb.mono BW4.out.size))
   clear hb hbb HN LTW BW4
   rw [hbv]
   cases bv with
   | true =>
    have RO:Hid (o=some (q:Int)):=hJJ (by rw [HO.out];exact idx_hit HV.out hbv HA.out)
    have hbc:=HBC.out _ BW5.out
    have C2:Hid (w5.heap[w.heap.size+1]?=some (.cells #[.int .i64 0,.int .i64 0] 37 (0,0))):=hJJ ((HN5.out.block _ (Array.getElem?_eq_some_iff.1 B2.out).1).trans B2.out)
    clear hbv
    have HW:=hJJ (below_setRow BW5.out (g:=w.heap.size+1) (by omega) #[.int .i64 code,.int .i64 q])
    have HK:=hJJ (setRow_heap w5 (w.heap.size+1) _ #[.int .i64 code,.int .i64 q] _ _ C2.out)
    go_wp2_with (first | (refine wpList_store_row rfl 37 _ _ rfl (w.heap.size+1) #[.int .i64 code,.int .i64 q] rfl rfl 37 _ C2.out infoF rfl (by simp [Value.oneCell']) ?_))
    generalize w5.setRow (w.heap.size+1) #[.int .i64 code,.int .i64 q]=uz at HW HK ⊢
    (try go_wp2_with fail)
    (try simp only [Exit.inBlock,Exit.then])
    refine bodyPost_ret (v:=.agg #[.int .i64 code,.int .i64 q]) ?_ rfl ⟨by rw [RO.out];rfl,HW.out⟩
    exact results_cell_row rfl _ _ (w.heap.size+1) 37 _ (0,0) _ rfl HK.out Tryz.underlying37 rfl infoF
   | false =>
    have HF:=hJJ hbv
    clear hbv
    go_wp2
    go_roundw
    case rel=>exact ⟨q+1,by omega,by go_num,(fun j u hj hu=>by
     by_cases e:j=q
     ·subst e;obtain rfl:=Option.some.inj (hu.symm.trans HV.out);exact HF.out
     ·exact HA.out j u (by omega) hu),HN5.out⟩
    case measure=>simp [intOf];omega
  ·have RO:Hid (o=none):=hJJ (by rw [HO.out];exact idx_miss (fun j u hu=>HA.out j u (by have:=(List.getElem?_eq_some_iff.1 hu).1;omega) hu))
   have C2:Hid (wr.heap[w.heap.size+1]?=some (.cells #[.int .i64 0,.int .i64 0] 37 (0,0))):=hJJ ((HB.out.block _ (Array.getElem?_eq_some_iff.1 B2.out).1).trans B2.out)
   have HW:=hJJ (below_setRow BW.out (g:=w.heap.size+1) (by omega) #[.int .i64 0,.int .i64 0])
   have HK:=hJJ (setRow_heap wr (w.heap.size+1) _ #[.int .i64 0,.int .i64 0] _ _ C2.out)
   go_wp2_with (first | (refine wpList_store_row rfl 37 _ _ rfl (w.heap.size+1) #[.int .i64 0,.int .i64 0] rfl rfl 37 _ C2.out infoF rfl (by simp [Value.oneCell']) ?_))
   generalize wr.setRow (w.heap.size+1) #[.int .i64 0,.int .i64 0]=uz at HW HK ⊢
   (try go_wp2_with fail)
   (try simp only [Exit.inBlock,Exit.then])
   refine bodyPost_ret (v:=.agg #[.int .i64 0,.int .i64 0]) ?_ rfl ⟨by rw [RO.out];rfl,HW.out⟩
   exact results_cell_row rfl _ _ (w.heap.size+1) 37 _ (0,0) _ rfl HK.out Tryz.underlying37 rfl infoF
theorem elem_B (T:Tab) (h:Hd) (code:Int) (bl bb bc:Nat) (bad:Bs→Bool) (w:World) (ht:IsTab w h T) (hbl:w.cell? ⟨bl,0,none⟩=some (.func (.func 85) #[] #[])) (hbb:w.cell? ⟨bb,0,none⟩=some (.func (.func 86) #[] #[])) (hbc:w.cell? ⟨bc,0,none⟩=some (.int .i64 code))
  (hbad:∀ (v:Bs) W,v ∈ T.buses→Below w.heap.size w W→Calls Tryz.prog 86 #[.agg (T.cells h).toArray,.agg v.cells.toArray] W fun e w'=>e=.returned (.bool (bad v))∧Below W.heap.size W w') :
  Calls Tryz.prog 119 #[.agg (T.cells h).toArray,.pointer (some ⟨bl,0,none⟩),.pointer (some ⟨bb,0,none⟩),.pointer (some ⟨bc,0,none⟩)] w fun e w'=>e=.returned (.agg (fltC code (idx bad T.buses)))∧Below w.heap.size w w':=by
 have hsz:=(cells_ok ht).size
 have IA:Hid ((Tryz.prog.info? 32).map (·.size)=some (T.cells h).length):=hJJ (by rw [List.size_toArray] at hsz;rw [hsz];exact infoT)
 have LS:Hid (∀ W,Below w.heap.size w W→Calls Tryz.prog 85 #[.agg (T.cells h).toArray] W fun e w'=>e=.returned (h.b.val T.buses.length)∧Below W.heap.size W w'):=hJJ (fun W hb=>listB_any T h W (ht.below hb))
 have LT0:=hJJ (Row.lies_new w (T.cells h).toArray 32)
 have HBAD:=hJJ hbad
 have HBL:=hJJ (show ∀ W,Below w.heap.size w W→W.cell? ⟨bl,0,none⟩=some (.func (.func 85) #[] #[]) from fun W hb=>(hb.cell (World.block_lt_of_cell? w _ hbl)).trans hbl)
 have HBB:=hJJ (show ∀ W,Below w.heap.size w W→W.cell? ⟨bb,0,none⟩=some (.func (.func 86) #[] #[]) from fun W hb=>(hb.cell (World.block_lt_of_cell? w _ hbb)).trans hbb)
 have HBC:=hJJ (show ∀ W,Below w.heap.size w W→W.cell? ⟨bc,0,none⟩=some (.int .i64 code) from fun W hb=>(hb.cell (World.block_lt_of_cell? w _ hbc)).trans hbc)
 have hs1:(w.alloc (.cells (T.cells h).toArray 32)).heap.size=w.heap.size+1:=by simp
 have en:=enters_of Tryz.func86 (by kernel_rfl) rfl
 have en2:=enters_of Tryz.func85 (by kernel_rfl) rfl
 have RW:=hJJ ht.buses
 have Kl:=ht.buses.len
 unfold maxLen at Kl
 obtain ⟨o,ho⟩:∃ o,o=idx bad T.buses:=⟨_,rfl⟩
 rw [← ho]
 have HO:=hJJ ho
 clear ht hbad hbl hbb hbc ho
 generalize hSl:h.b=sl at *
 obtain ⟨sa,scap⟩:=sl
 clear hSl
 generalize T.cells h=c at *
 generalize T.buses=l at *
 go_enter Tryz.func119,Tryz.ntmps119
 go_upto_region 1 with fail
 obtain ⟨W1,hW1,E1,E0,EB,bR⟩:=laid2 w (.cells c.toArray 32) (.cells #[.int .i64 0,.int .i64 0] 37)
 rw [hW1]
 have LT:=hJJ (LT0.out.below (by rw [hs1];exact EB))
 have B0:=hJJ E0
 have B2:Hid (W1.heap[w.heap.size+1]?=some (.cells #[.int .i64 0,.int .i64 0] 37 (0,0))):=hJJ bR
 clear hW1 EB hs1 hsz LT0 E0 bR E1
 have hbl:=HBL.out _ B0.out
 go_wp2_with (refine lgZ 32 ⟨w.heap.size,0,none⟩ c rfl LT.out Tryz.underlying32 IA.out ?_)
 (try go_wp2_with fail)
 refine (LS.out _ B0.out).mono ?_
 rintro e W3 ⟨rfl,hb⟩
 have HB3:=hJJ hb
 clear hb hbl
 rw [show (Sl.val ⟨sa,scap⟩ l.length)=.slice sa l.length scap from rfl]
 go_wp2_with fail
 go_loopw [12] (fun a wr=>∃ q:Nat,q≤l.length∧a=.int .i64 q∧(∀ j u,j < q→l[j]?=some u→bad u=false)∧Below W1.heap.size W1 wr) (fun a _=>l.length - (intOf a).toNat)
 case atStart=>exact ⟨0,by omega,rfl,(fun j u h=>by omega),HB3.out⟩
 case round =>
  obtain ⟨q,hq,rfl,hall,hB⟩:=hrel
  have HA:=hJJ hall
  have HB:=hJJ hB
  have BW:Hid (Below w.heap.size w wr):=hJJ (B0.out.trans (hB.mono B0.out.size))
  clear hall hB
  by_cases hlt:q < l.length
  ·have hv:=List.getElem?_eq_getElem hlt
   generalize hz:l[q]=v at hv
   have hmem:v ∈ l:=List.mem_of_getElem? hv
   obtain ⟨x,hx,hc⟩:=(RW.out.below BW.out).at hv
   obtain rfl:sa=some x:=hx
   have HC:=hJJ hc
   have HV:=hJJ hv
   have BD:=hJJ (fun W hb=>HBAD.out v W hmem hb)
   have hwr:=HB.out.size
   clear hv hz hmem hc
   have VO:=hJJ (Bs.one v)
   obtain ⟨bv,hbv⟩:∃ z,bad v=z:=⟨_,rfl⟩
   have BDV:=BD
   have IV:Hid ((Tryz.prog.info? 49).map (·.size)=some v.cells.length):=hJJ infoB
   go_upto_region 4 with (first | (refine Row.wpList_load_g 49 _ rfl (by first | rfl | go_simp) (x.add (q*2)) rfl v.cells _ HC.out Tryz.underlying49 rfl IV.out ?_) | (refine Row.wpList_store_new rfl 49 _ _ rfl wr _ v.cells.toArray rfl rfl rfl infoB rfl VO.out ?_))
   have hbn:Below W1.heap.size W1 (wr.alloc (.cells v.cells.toArray 49)):=HB.out.alloc hwr _
   have hbo:Below wr.heap.size wr (wr.alloc (.cells v.cells.toArray 49)):=(Below.refl _ _).alloc (Nat.le_refl _) _
   have hg:=Row.lies_new wr v.cells.toArray 49
   have HL:Hid (Lies (wr.alloc (.cells v.cells.toArray 49)) ⟨wr.heap.size,0,none⟩ v.cells):=hJJ (by simpa using hg)
   have HN:=hJJ hbn
   have LTW:=hJJ ((LT.out.below HB.out).below hbo)
   clear hg hbn hbo HC VO
   generalize v.cells=vc at *
   generalize wr.alloc (.cells vc.toArray 49)=w4 at HL HN LTW ⊢
   generalize wr.heap.size=b4 at HL ⊢
   have BW4:Hid (Below w.heap.size w w4):=hJJ (B0.out.trans (HN.out.mono B0.out.size))
   have hbb:=HBB.out _ BW4.out
   go_wp2_with (first | (refine lgZ 32 ⟨w.heap.size,0,none⟩ c rfl LTW.out Tryz.underlying32 IA.out ?_) | (refine lgZ 49 ⟨b4,0,none⟩ vc rfl HL.out Tryz.underlying49 IV.out ?_))
   (try go_wp2_with fail)
   refine (BD.out _ BW4.out).mono ?_
   rintro e w5 ⟨rfl,hb⟩
   have HN5:=hJJ (HN.out.trans (hb.mono HN.out.size))
   have BW5:Hid (Below w.heap.size w w5):=hJJ (BW4.out.trans (hb.mono BW4.out.size))
   clear hb hbb HN LTW BW4
   rw [hbv]
   cases bv with
   | true =>
    have RO:Hid (o=some (q:Int)):=hJJ (by rw [HO.out];exact idx_hit HV.out hbv HA.out)
    have hbc:=HBC.out _ BW5.out
    have C2:Hid (w5.heap[w.heap.size+1]?=some (.cells #[.int .i64 0,.int .i64 0] 37 (0,0))):=hJJ ((HN5.out.block _ (Array.getElem?_eq_some_iff.1 B2.out).1).trans B2.out)
    clear hbv
    have HW:=hJJ (below_setRow BW5.out (g:=w.heap.size+1) (by omega) #[.int .i64 code,.int .i64 q])
    have HK:=hJJ (setRow_heap w5 (w.heap.size+1) _ #[.int .i64 code,.int .i64 q] _ _ C2.out)
    go_wp2_with (first | (refine wpList_store_row rfl 37 _ _ rfl (w.heap.size+1) #[.int .i64 code,.int .i64 q] rfl rfl 37 _ C2.out infoF rfl (by simp [Value.oneCell']) ?_))
    generalize w5.setRow (w.heap.size+1) #[.int .i64 code,.int .i64 q]=uz at HW HK ⊢
    (try go_wp2_with fail)
    (try simp only [Exit.inBlock,Exit.then])
    refine bodyPost_ret (v:=.agg #[.int .i64 code,.int .i64 q]) ?_ rfl ⟨by rw [RO.out];rfl,HW.out⟩
    exact results_cell_row rfl _ _ (w.heap.size+1) 37 _ (0,0) _ rfl HK.out Tryz.underlying37 rfl infoF
   | false =>
    have HF:=hJJ hbv
    clear hbv
    go_wp2
    go_roundw
    case rel=>exact ⟨q+1,by omega,by go_num,(fun j u hj hu=>by
     by_cases e:j=q
     ·subst e;obtain rfl:=Option.some.inj (hu.symm.trans HV.out);exact HF.out
     ·exact HA.out j u (by omega) hu),HN5.out⟩
    case measure=>simp [intOf];omega
  ·have RO:Hid (o=none):=hJJ (by rw [HO.out];exact idx_miss (fun j u hu=>HA.out j u (by have:=(List.getElem?_eq_some_iff.1 hu).1;omega) hu))
   have C2:Hid (wr.heap[w.heap.size+1]?=some (.cells #[.int .i64 0,.int .i64 0] 37 (0,0))):=hJJ ((HB.out.block _ (Array.getElem?_eq_some_iff.1 B2.out).1).trans B2.out)
   have HW:=hJJ (below_setRow BW.out (g:=w.heap.size+1) (by omega) #[.int .i64 0,.int .i64 0])
   have HK:=hJJ (setRow_heap wr (w.heap.size+1) _ #[.int .i64 0,.int .i64 0] _ _ C2.out)
   go_wp2_with (first | (refine wpList_store_row rfl 37 _ _ rfl (w.heap.size+1) #[.int .i64 0,.int .i64 0] rfl rfl 37 _ C2.out infoF rfl (by simp [Value.oneCell']) ?_))
   generalize wr.setRow (w.heap.size+1) #[.int .i64 0,.int .i64 0]=uz at HW HK ⊢
   (try go_wp2_with fail)
   (try simp only [Exit.inBlock,Exit.then])
   refine bodyPost_ret (v:=.agg #[.int .i64 0,.int .i64 0]) ?_ rfl ⟨by rw [RO.out];rfl,HW.out⟩
   exact results_cell_row rfl _ _ (w.heap.size+1) 37 _ (0,0) _ rfl HK.out Tryz.underlying37 rfl infoF
end ChkE
namespace ChkP
open Zip
open Go.RowKit Go.Shelf
open Tab PlaceM PlanM OnS ChkM Each Search ChkI ChkH
open ChkB (laid2)
open May (infoT)
attribute [local go_sem] Oper.semAt_some
theorem phases_P (T:Tab) (h:Hd) (code:Int) (bb bc:Nat) (bad:Int→Bool) (w:World) (ht:IsTab w h T) (hbb:w.cell? ⟨bb,0,none⟩=some (.func (.func 75) #[] #[])) (hbc:w.cell? ⟨bc,0,none⟩=some (.int .i64 code))
  (hbad:∀ (k:Nat) W,k < 8→Below w.heap.size w W→Calls Tryz.prog 75 #[.agg (T.cells h).toArray,.int .i64 k] W fun e w'=>e=.returned (.bool (bad k))∧Below W.heap.size W w') :
  Calls Tryz.prog 109 #[.agg (T.cells h).toArray,.pointer (some ⟨bb,0,none⟩),.pointer (some ⟨bc,0,none⟩)] w fun e w'=>e=.returned (.agg (fltC code ((ons T).find? bad)))∧Below w.heap.size w w':=by
 have hsz:=(cells_ok ht).size
 have IA:Hid ((Tryz.prog.info? 32).map (·.size)=some (T.cells h).length):=hJJ (by rw [List.size_toArray] at hsz;rw [hsz];exact infoT)
 have ON:Hid (∀ W,Below w.heap.size w W→Calls Tryz.prog 96 #[.agg (T.cells h).toArray] W fun e w'=>e=.returned (.int .i64 (onS T:Nat))∧Below W.heap.size W w'):=hJJ (fun W hb=>PlanO.pon_any T h W (ht.below hb))
 have LT0:=hJJ (Row.lies_new w (T.cells h).toArray 32)
 have HBAD:=hJJ hbad
 have HBB:=hJJ (show ∀ W,Below w.heap.size w W→W.cell? ⟨bb,0,none⟩=some (.func (.func 75) #[] #[]) from fun W hb=>(hb.cell (World.block_lt_of_cell? w _ hbb)).trans hbb)
 have HBC:=hJJ (show ∀ W,Below w.heap.size w W→W.cell? ⟨bc,0,none⟩=some (.int .i64 code) from fun W hb=>(hb.cell (World.block_lt_of_cell? w _ hbc)).trans hbc)
 have hs1:(w.alloc (.cells (T.cells h).toArray 32)).heap.size=w.heap.size+1:=by simp
 have en:=enters_of Tryz.func75 (by kernel_rfl) rfl
 clear ht hbad hbb hbc
 generalize T.cells h=c at *
 refine (callsIn_wide (n:=3)).1 ?_
 refine callsIn_of_wp_marks Tryz.func109 rfl trivial ?_ rfl
 simp only [Tryz.ntmps109,List.size_toArray,List.length_cons,List.length_nil,Nat.reduceAdd,Nat.reduceSub,Array.replicate_succ,Array.replicate_zero,List.push_toArray,List.append_toArray,List.nil_append,List.cons_append]
 refine wpIn_wide.2 ?_
 go_upto_region 1 with fail
 obtain ⟨W1,hW1,E1,E0,EB,bR⟩:=laid2 w (.cells c.toArray 32) (.cells #[.int .i64 0,.int .i64 0] 37)
 rw [hW1]
 have LT:=hJJ (LT0.out.below (by rw [hs1];exact EB))
 have B0:=hJJ E0
 clear hW1 EB hs1 hsz LT0 E0
 go_wp2_with (refine lgZ 32 ⟨w.heap.size,0,none⟩ c rfl LT.out Tryz.underlying32 IA.out ?_)
 refine (ON.out _ B0.out).mono ?_
 rintro e W3 ⟨rfl,hb⟩
 go_wp2_with fail
 refine (callsIn_wide.1 (Each.each_in 3 _ _)).mono ?_
 rintro e w' ⟨rfl,rfl⟩
 go_wp2_with fail
 have hb4:Below W1.heap.size W1 (W3.alloc (.cells #[.int .i64 (onS T:Nat)] 3)):=hb.alloc hb.size _
 have bE:Boxed (W3.alloc (.cells #[.int .i64 (onS T:Nat)] 3)) W3.heap.size 3 (.int .i64 (onS T:Nat)):=Boxed.new _ _ _
 have hsz3:(W3.alloc (.cells #[.int .i64 (onS T:Nat)] 3)).heap.size=W3.heap.size+1:=by simp
 have hs3:=hb.size
 generalize W3.alloc (.cells #[.int .i64 (onS T:Nat)] 3)=W4 at hb4 bE hsz3 ⊢
 have bR4:W4.heap[w.heap.size+1]?=some (.cells #[.int .i64 0,.int .i64 0] 37 (0,0)):=(hb4.block _ (by omega)).trans bR
 have LT4:=hJJ (LT.out.below hb4)
 have C0:Hid (Below w.heap.size w W4):=hJJ (B0.out.trans (hb4.mono B0.out.size))
 have E4:w.heap.size+2 < W4.heap.size:=by omega
 clear hb hb4 bR LT B0 hs3
 generalize W3.heap.size=be at *
 refine (wpIn_wide (n:=3)).1 ?_
 refine search bad (fun x=>.cells #[.int .i64 code,.int .i64 x] 37 (0,0)) be (w.heap.size+1) (onS T:Nat) (by omega) rfl rfl (by omega) (by omega) bE.cell
  (fun x=>{ tmps:=#[.agg c.toArray,.pointer (some ⟨bb,0,none⟩),.pointer (some ⟨bc,0,none⟩),.pointer (some ⟨w.heap.size,0,none⟩),.pointer (some ⟨w.heap.size+1,0,none⟩),.int .i64 x,.agg c.toArray,.int .i64 (onS T:Nat),.func (.func 127) #[] #[.pointer (some ⟨be,0,none⟩)],.int .i64 x,undef,undef,undef,undef,undef,undef,undef,undef],defers:=[] }) ?assign ?body ?done ?stop
 case assign =>
  intro l x W K hK
  gi_wp2
  exact hK
 case body =>
  intro l x W hx hB
  have hx8:=SetM.list_bd _ x hx
  have LTW:=hJJ (LT4.out.below hB)
  have BW:Hid (Below w.heap.size w W):=hJJ (C0.out.trans (hB.mono C0.out.size))
  have hbb:=HBB.out _ BW.out
  have HVR:Hid (W.heap[w.heap.size+1]?=some (.cells #[.int .i64 0,.int .i64 0] 37 (0,0))):=hJJ ((hB.block _ (by omega)).trans bR4)
  obtain ⟨k,rfl⟩:=Int.eq_ofNat_of_zero_le hx8.1
  have hk8:k < 8:=by have:=hx8.2;omega
  have BD:=hJJ (HBAD.out k _ hk8 BW.out)
  clear hB hx hx8
  refine wpIn_block (wpIn_seq ?_)
  refine Up.region_list (fun ⟨_,_,h⟩=>h) (by kernel_rfl) ?_
  go_wp2_with (refine lgZ 32 ⟨w.heap.size,0,none⟩ c rfl LTW.out Tryz.underlying32 IA.out ?_)
  refine (BD.out).mono ?_
  rintro e W2 ⟨rfl,hb⟩
  have HW2:=hJJ hb
  have hbc:=HBC.out _ (BW.out.trans (hb.mono BW.out.size))
  have HV2:Hid (W2.heap[w.heap.size+1]?=some (.cells #[.int .i64 0,.int .i64 0] 37 (0,0))):=hJJ ((hb.block _ (Array.getElem?_eq_some_iff.1 HVR.out).1).trans HVR.out)
  clear hb hbb
  cases hbk:bad k with
  | false =>
   have HB:=hJJ hbk
   clear hbk
   go_wp2_with fail
   gi_wp2
   exact ⟨HB.out,HW2.out⟩
  | true =>
   have HB:=hJJ hbk
   clear hbk
   have HK:=hJJ (setRow_heap W2 (w.heap.size+1) _ #[.int .i64 code,.int .i64 k] _ _ HV2.out)
   have HG:Hid (W2.grownBy (W2.setRow (w.heap.size+1) #[.int .i64 code,.int .i64 k]) (some (w.heap.size+1))):=hJJ (setRow_grown W2 (w.heap.size+1) #[.int .i64 code,.int .i64 k] (Array.getElem?_eq_some_iff.1 HV2.out).1)
   go_wp2_with fail
   refine wpIn_cond_true rfl (wpIn_seq ?_)
   refine Up.region_list (fun ⟨_,_,h⟩=>h) (by kernel_rfl) ?_
   go_wp2_with (refine wpList_store_row rfl 37 _ _ rfl (w.heap.size+1) #[.int .i64 code,.int .i64 k] rfl rfl 37 _ HV2.out infoF rfl (by simp [Value.oneCell']) ?_)
   generalize W2.setRow (w.heap.size+1) #[.int .i64 code,.int .i64 k]=W5 at HK HG ⊢
   (try go_wp2_with fail)
   (try gi_wp2)
   exact ⟨HB.out,grown_trans (grown_of_below HW2.out) HG.out,HK.out⟩
 case done =>
  intro D W hD hall hB hK
  have B1:Hid (W.heap[w.heap.size+1]?=some (.cells #[.int .i64 0,.int .i64 0] 37 (0,0))):=hJJ ((hB.block _ (by omega)).trans bR4)
  have HR:Hid ((ons T).find? bad=none):=hJJ (List.find?_eq_none.2 (fun x hx=>by simp [hall x hx]))
  have HB:Hid (Below w.heap.size w W):=hJJ (C0.out.trans (hB.mono C0.out.size))
  have HW:=hJJ (Same.below_setRow HB.out (g:=w.heap.size+1) (by omega) #[.int .i64 0,.int .i64 0])
  have HC:=hJJ (setRow_heap W (w.heap.size+1) _ #[.int .i64 0,.int .i64 0] _ _ B1.out)
  have hg:=setRow_grown W (w.heap.size+1) #[.int .i64 0,.int .i64 0] (Array.getElem?_eq_some_iff.1 B1.out).1
  have HK':Hid ((W.setRow (w.heap.size+1) #[.int .i64 0,.int .i64 0]).heap[D]?=some (.deferred (some []))):=hJJ ((hg.block D (Array.getElem?_eq_some_iff.1 hK).1 (fun e=>by cases e;omega)).trans hK)
  clear hB hall hg hK
  go_wp2_with (refine wpList_store_row rfl 37 _ _ rfl (w.heap.size+1) #[.int .i64 0,.int .i64 0] rfl rfl 37 _ B1.out infoF rfl (by simp [Value.oneCell']) ?_)
  generalize W.setRow (w.heap.size+1) #[.int .i64 0,.int .i64 0]=W5 at HC HW HK' ⊢
  (try go_wp2_with fail)
  refine ⟨by simp,.inl ⟨_,_,rfl,run_takeDeferred HK'.out,?_⟩⟩
  have hp:(W5.putObj D (.deferred none)).heap[w.heap.size+1]?=some (.cells #[.int .i64 0,.int .i64 0] 37 (0,0)):=(World.putObj_heap_other (by omega)).trans HC.out
  refine ⟨.agg #[.int .i64 0,.int .i64 0],?_,by rw [HR.out];rfl,HW.out.trans (belowK_b (w:=w) (Nat.le_refl _) _ D _ _ (by omega) HK'.out rfl rfl)⟩
  exact results_cell_row rfl _ _ (w.heap.size+1) 37 _ (0,0) _ rfl hp Tryz.underlying37 rfl infoF
 case stop =>
  intro D x W hD hf hx hg hR hK
  have HR:Hid ((ons T).find? bad=some x):=hJJ hf
  have HC:=hJJ hR
  have HB:Hid (Below w.heap.size w W):=hJJ (C0.out.grown hg (by omega) (fun k e=>by cases e;omega))
  clear hf hx hg hR
  gi_wp2
  refine ⟨by simp,.inl ⟨_,_,rfl,run_takeDeferred hK,?_⟩⟩
  have hp:(W.putObj D (.deferred none)).heap[w.heap.size+1]?=some (.cells #[.int .i64 code,.int .i64 x] 37 (0,0)):=(World.putObj_heap_other (by omega)).trans HC.out
  refine ⟨.agg #[.int .i64 code,.int .i64 x],?_,by rw [HR.out];rfl,HB.out.trans (belowK_b (w:=w) (Nat.le_refl _) W D _ _ (by omega) hK rfl rfl)⟩
  exact results_cell_row rfl _ _ (w.heap.size+1) 37 _ (0,0) _ rfl hp Tryz.underlying37 rfl infoF
theorem phases_C (T:Tab) (h:Hd) (code:Int) (bb bc:Nat) (bad:Int→Bool) (w:World) (ht:IsTab w h T) (hbb:w.cell? ⟨bb,0,none⟩=some (.func (.func 77) #[] #[])) (hbc:w.cell? ⟨bc,0,none⟩=some (.int .i64 code))
  (hbad:∀ (k:Nat) W,k < 8→Below w.heap.size w W→Calls Tryz.prog 77 #[.agg (T.cells h).toArray,.int .i64 k] W fun e w'=>e=.returned (.bool (bad k))∧Below W.heap.size W w') :
  Calls Tryz.prog 109 #[.agg (T.cells h).toArray,.pointer (some ⟨bb,0,none⟩),.pointer (some ⟨bc,0,none⟩)] w fun e w'=>e=.returned (.agg (fltC code ((ons T).find? bad)))∧Below w.heap.size w w':=by
 have hsz:=(cells_ok ht).size
 have IA:Hid ((Tryz.prog.info? 32).map (·.size)=some (T.cells h).length):=hJJ (by rw [List.size_toArray] at hsz;rw [hsz];exact infoT)
 have ON:Hid (∀ W,Below w.heap.size w W→Calls Tryz.prog 96 #[.agg (T.cells h).toArray] W fun e w'=>e=.returned (.int .i64 (onS T:Nat))∧Below W.heap.size W w'):=hJJ (fun W hb=>PlanO.pon_any T h W (ht.below hb))
 have LT0:=hJJ (Row.lies_new w (T.cells h).toArray 32)
 have HBAD:=hJJ hbad
 have HBB:=hJJ (show ∀ W,Below w.heap.size w W→W.cell? ⟨bb,0,none⟩=some (.func (.func 77) #[] #[]) from fun W hb=>(hb.cell (World.block_lt_of_cell? w _ hbb)).trans hbb)
 have HBC:=hJJ (show ∀ W,Below w.heap.size w W→W.cell? ⟨bc,0,none⟩=some (.int .i64 code) from fun W hb=>(hb.cell (World.block_lt_of_cell? w _ hbc)).trans hbc)
 have hs1:(w.alloc (.cells (T.cells h).toArray 32)).heap.size=w.heap.size+1:=by simp
 have en:=enters_of Tryz.func77 (by kernel_rfl) rfl
 clear ht hbad hbb hbc
 generalize T.cells h=c at *
 refine (callsIn_wide (n:=3)).1 ?_
 refine callsIn_of_wp_marks Tryz.func109 rfl trivial ?_ rfl
 simp only [Tryz.ntmps109,List.size_toArray,List.length_cons,List.length_nil,Nat.reduceAdd,Nat.reduceSub,Array.replicate_succ,Array.replicate_zero,List.push_toArray,List.append_toArray,List.nil_append,List.cons_append]
 refine wpIn_wide.2 ?_
 go_upto_region 1 with fail
 obtain ⟨W1,hW1,E1,E0,EB,bR⟩:=laid2 w (.cells c.toArray 32) (.cells #[.int .i64 0,.int .i64 0] 37)
 rw [hW1]
 have LT:=hJJ (LT0.out.below (by rw [hs1];exact EB))
 have B0:=hJJ E0
 clear hW1 EB hs1 hsz LT0 E0
 go_wp2_with (refine lgZ 32 ⟨w.heap.size,0,none⟩ c rfl LT.out Tryz.underlying32 IA.out ?_)
 refine (ON.out _ B0.out).mono ?_
 rintro e W3 ⟨rfl,hb⟩
 go_wp2_with fail
 refine (callsIn_wide.1 (Each.each_in 3 _ _)).mono ?_
 rintro e w' ⟨rfl,rfl⟩
 go_wp2_with fail
 have hb4:Below W1.heap.size W1 (W3.alloc (.cells #[.int .i64 (onS T:Nat)] 3)):=hb.alloc hb.size _
 have bE:Boxed (W3.alloc (.cells #[.int .i64 (onS T:Nat)] 3)) W3.heap.size 3 (.int .i64 (onS T:Nat)):=Boxed.new _ _ _
 have hsz3:(W3.alloc (.cells #[.int .i64 (onS T:Nat)] 3)).heap.size=W3.heap.size+1:=by simp
 have hs3:=hb.size
 generalize W3.alloc (.cells #[.int .i64 (onS T:Nat)] 3)=W4 at hb4 bE hsz3 ⊢
 have bR4:W4.heap[w.heap.size+1]?=some (.cells #[.int .i64 0,.int .i64 0] 37 (0,0)):=(hb4.block _ (by omega)).trans bR
 have LT4:=hJJ (LT.out.below hb4)
 have C0:Hid (Below w.heap.size w W4):=hJJ (B0.out.trans (hb4.mono B0.out.size))
 have E4:w.heap.size+2 < W4.heap.size:=by omega
 clear hb hb4 bR LT B0 hs3
 generalize W3.heap.size=be at *
 refine (wpIn_wide (n:=3)).1 ?_
 refine search bad (fun x=>.cells #[.int .i64 code,.int .i64 x] 37 (0,0)) be (w.heap.size+1) (onS T:Nat) (by omega) rfl rfl (by omega) (by omega) bE.cell
  (fun x=>{ tmps:=#[.agg c.toArray,.pointer (some ⟨bb,0,none⟩),.pointer (some ⟨bc,0,none⟩),.pointer (some ⟨w.heap.size,0,none⟩),.pointer (some ⟨w.heap.size+1,0,none⟩),.int .i64 x,.agg c.toArray,.int .i64 (onS T:Nat),.func (.func 127) #[] #[.pointer (some ⟨be,0,none⟩)],.int .i64 x,undef,undef,undef,undef,undef,undef,undef,undef],defers:=[] }) ?assign ?body ?done ?stop
 case assign =>
  intro l x W K hK
  gi_wp2
  exact hK
 case body =>
  intro l x W hx hB
  have hx8:=SetM.list_bd _ x hx
  have LTW:=hJJ (LT4.out.below hB)
  have BW:Hid (Below w.heap.size w W):=hJJ (C0.out.trans (hB.mono C0.out.size))
  have hbb:=HBB.out _ BW.out
  have HVR:Hid (W.heap[w.heap.size+1]?=some (.cells #[.int .i64 0,.int .i64 0] 37 (0,0))):=hJJ ((hB.block _ (by omega)).trans bR4)
  obtain ⟨k,rfl⟩:=Int.eq_ofNat_of_zero_le hx8.1
  have hk8:k < 8:=by have:=hx8.2;omega
  have BD:=hJJ (HBAD.out k _ hk8 BW.out)
  clear hB hx hx8
  refine wpIn_block (wpIn_seq ?_)
  refine Up.region_list (fun ⟨_,_,h⟩=>h) (by kernel_rfl) ?_
  go_wp2_with (refine lgZ 32 ⟨w.heap.size,0,none⟩ c rfl LTW.out Tryz.underlying32 IA.out ?_)
  refine (BD.out).mono ?_
  rintro e W2 ⟨rfl,hb⟩
  have HW2:=hJJ hb
  have hbc:=HBC.out _ (BW.out.trans (hb.mono BW.out.size))
  have HV2:Hid (W2.heap[w.heap.size+1]?=some (.cells #[.int .i64 0,.int .i64 0] 37 (0,0))):=hJJ ((hb.block _ (Array.getElem?_eq_some_iff.1 HVR.out).1).trans HVR.out)
  clear hb hbb
  cases hbk:bad k with
  | false =>
   have HB:=hJJ hbk
   clear hbk
   go_wp2_with fail
   gi_wp2
   exact ⟨HB.out,HW2.out⟩
  | true =>
   have HB:=hJJ hbk
   clear hbk
   have HK:=hJJ (setRow_heap W2 (w.heap.size+1) _ #[.int .i64 code,.int .i64 k] _ _ HV2.out)
   have HG:Hid (W2.grownBy (W2.setRow (w.heap.size+1) #[.int .i64 code,.int .i64 k]) (some (w.heap.size+1))):=hJJ (setRow_grown W2 (w.heap.size+1) #[.int .i64 code,.int .i64 k] (Array.getElem?_eq_some_iff.1 HV2.out).1)
   go_wp2_with fail
   refine wpIn_cond_true rfl (wpIn_seq ?_)
   refine Up.region_list (fun ⟨_,_,h⟩=>h) (by kernel_rfl) ?_
   go_wp2_with (refine wpList_store_row rfl 37 _ _ rfl (w.heap.size+1) #[.int .i64 code,.int .i64 k] rfl rfl 37 _ HV2.out infoF rfl (by simp [Value.oneCell']) ?_)
   generalize W2.setRow (w.heap.size+1) #[.int .i64 code,.int .i64 k]=W5 at HK HG ⊢
   (try go_wp2_with fail)
   (try gi_wp2)
   exact ⟨HB.out,grown_trans (grown_of_below HW2.out) HG.out,HK.out⟩
 case done =>
  intro D W hD hall hB hK
  have B1:Hid (W.heap[w.heap.size+1]?=some (.cells #[.int .i64 0,.int .i64 0] 37 (0,0))):=hJJ ((hB.block _ (by omega)).trans bR4)
  have HR:Hid ((ons T).find? bad=none):=hJJ (List.find?_eq_none.2 (fun x hx=>by simp [hall x hx]))
  have HB:Hid (Below w.heap.size w W):=hJJ (C0.out.trans (hB.mono C0.out.size))
  have HW:=hJJ (Same.below_setRow HB.out (g:=w.heap.size+1) (by omega) #[.int .i64 0,.int .i64 0])
  have HC:=hJJ (setRow_heap W (w.heap.size+1) _ #[.int .i64 0,.int .i64 0] _ _ B1.out)
  have hg:=setRow_grown W (w.heap.size+1) #[.int .i64 0,.int .i64 0] (Array.getElem?_eq_some_iff.1 B1.out).1
  have HK':Hid ((W.setRow (w.heap.size+1) #[.int .i64 0,.int .i64 0]).heap[D]?=some (.deferred (some []))):=hJJ ((hg.block D (Array.getElem?_eq_some_iff.1 hK).1 (fun e=>by cases e;omega)).trans hK)
  clear hB hall hg hK
  go_wp2_with (refine wpList_store_row rfl 37 _ _ rfl (w.heap.size+1) #[.int .i64 0,.int .i64 0] rfl rfl 37 _ B1.out infoF rfl (by simp [Value.oneCell']) ?_)
  generalize W.setRow (w.heap.size+1) #[.int .i64 0,.int .i64 0]=W5 at HC HW HK' ⊢
  (try go_wp2_with fail)
  refine ⟨by simp,.inl ⟨_,_,rfl,run_takeDeferred HK'.out,?_⟩⟩
  have hp:(W5.putObj D (.deferred none)).heap[w.heap.size+1]?=some (.cells #[.int .i64 0,.int .i64 0] 37 (0,0)):=(World.putObj_heap_other (by omega)).trans HC.out
  refine ⟨.agg #[.int .i64 0,.int .i64 0],?_,by rw [HR.out];rfl,HW.out.trans (belowK_b (w:=w) (Nat.le_refl _) _ D _ _ (by omega) HK'.out rfl rfl)⟩
  exact results_cell_row rfl _ _ (w.heap.size+1) 37 _ (0,0) _ rfl hp Tryz.underlying37 rfl infoF
 case stop =>
  intro D x W hD hf hx hg hR hK
  have HR:Hid ((ons T).find? bad=some x):=hJJ hf
  have HC:=hJJ hR
  have HB:Hid (Below w.heap.size w W):=hJJ (C0.out.grown hg (by omega) (fun k e=>by cases e;omega))
  clear hf hx hg hR
  gi_wp2
  refine ⟨by simp,.inl ⟨_,_,rfl,run_takeDeferred hK,?_⟩⟩
  have hp:(W.putObj D (.deferred none)).heap[w.heap.size+1]?=some (.cells #[.int .i64 code,.int .i64 x] 37 (0,0)):=(World.putObj_heap_other (by omega)).trans HC.out
  refine ⟨.agg #[.int .i64 code,.int .i64 x],?_,by rw [HR.out];rfl,HB.out.trans (belowK_b (w:=w) (Nat.le_refl _) W D _ _ (by omega) hK rfl rfl)⟩
  exact results_cell_row rfl _ _ (w.heap.size+1) 37 _ (0,0) _ rfl hp Tryz.underlying37 rfl infoF
theorem phases_F (T:Tab) (h:Hd) (code:Int) (bb bc:Nat) (bad:Int→Bool) (w:World) (ht:IsTab w h T) (hbb:w.cell? ⟨bb,0,none⟩=some (.func (.func 87) #[] #[])) (hbc:w.cell? ⟨bc,0,none⟩=some (.int .i64 code))
  (hbad:∀ (k:Nat) W,k < 8→Below w.heap.size w W→Calls Tryz.prog 87 #[.agg (T.cells h).toArray,.int .i64 k] W fun e w'=>e=.returned (.bool (bad k))∧Below W.heap.size W w') :
  Calls Tryz.prog 109 #[.agg (T.cells h).toArray,.pointer (some ⟨bb,0,none⟩),.pointer (some ⟨bc,0,none⟩)] w fun e w'=>e=.returned (.agg (fltC code ((ons T).find? bad)))∧Below w.heap.size w w':=by
 have hsz:=(cells_ok ht).size
 have IA:Hid ((Tryz.prog.info? 32).map (·.size)=some (T.cells h).length):=hJJ (by rw [List.size_toArray] at hsz;rw [hsz];exact infoT)
 have ON:Hid (∀ W,Below w.heap.size w W→Calls Tryz.prog 96 #[.agg (T.cells h).toArray] W fun e w'=>e=.returned (.int .i64 (onS T:Nat))∧Below W.heap.size W w'):=hJJ (fun W hb=>PlanO.pon_any T h W (ht.below hb))
 have LT0:=hJJ (Row.lies_new w (T.cells h).toArray 32)
 have HBAD:=hJJ hbad
 have HBB:=hJJ (show ∀ W,Below w.heap.size w W→W.cell? ⟨bb,0,none⟩=some (.func (.func 87) #[] #[]) from fun W hb=>(hb.cell (World.block_lt_of_cell? w _ hbb)).trans hbb)
 have HBC:=hJJ (show ∀ W,Below w.heap.size w W→W.cell? ⟨bc,0,none⟩=some (.int .i64 code) from fun W hb=>(hb.cell (World.block_lt_of_cell? w _ hbc)).trans hbc)
 have hs1:(w.alloc (.cells (T.cells h).toArray 32)).heap.size=w.heap.size+1:=by simp
 have en:=enters_of Tryz.func87 (by kernel_rfl) rfl
 clear ht hbad hbb hbc
 generalize T.cells h=c at *
 refine (callsIn_wide (n:=3)).1 ?_
 refine callsIn_of_wp_marks Tryz.func109 rfl trivial ?_ rfl
 simp only [Tryz.ntmps109,List.size_toArray,List.length_cons,List.length_nil,Nat.reduceAdd,Nat.reduceSub,Array.replicate_succ,Array.replicate_zero,List.push_toArray,List.append_toArray,List.nil_append,List.cons_append]
 refine wpIn_wide.2 ?_
 go_upto_region 1 with fail
 obtain ⟨W1,hW1,E1,E0,EB,bR⟩:=laid2 w (.cells c.toArray 32) (.cells #[.int .i64 0,.int .i64 0] 37)
 rw [hW1]
 have LT:=hJJ (LT0.out.below (by rw [hs1];exact EB))
 have B0:=hJJ E0
 clear hW1 EB hs1 hsz LT0 E0
 go_wp2_with (refine lgZ 32 ⟨w.heap.size,0,none⟩ c rfl LT.out Tryz.underlying32 IA.out ?_)
 refine (ON.out _ B0.out).mono ?_
 rintro e W3 ⟨rfl,hb⟩
 go_wp2_with fail
 refine (callsIn_wide.1 (Each.each_in 3 _ _)).mono ?_
 rintro e w' ⟨rfl,rfl⟩
 go_wp2_with fail
 have hb4:Below W1.heap.size W1 (W3.alloc (.cells #[.int .i64 (onS T:Nat)] 3)):=hb.alloc hb.size _
 have bE:Boxed (W3.alloc (.cells #[.int .i64 (onS T:Nat)] 3)) W3.heap.size 3 (.int .i64 (onS T:Nat)):=Boxed.new _ _ _
 have hsz3:(W3.alloc (.cells #[.int .i64 (onS T:Nat)] 3)).heap.size=W3.heap.size+1:=by simp
 have hs3:=hb.size
 generalize W3.alloc (.cells #[.int .i64 (onS T:Nat)] 3)=W4 at hb4 bE hsz3 ⊢
 have bR4:W4.heap[w.heap.size+1]?=some (.cells #[.int .i64 0,.int .i64 0] 37 (0,0)):=(hb4.block _ (by omega)).trans bR
 have LT4:=hJJ (LT.out.below hb4)
 have C0:Hid (Below w.heap.size w W4):=hJJ (B0.out.trans (hb4.mono B0.out.size))
 have E4:w.heap.size+2 < W4.heap.size:=by omega
 clear hb hb4 bR LT B0 hs3
 generalize W3.heap.size=be at *
 refine (wpIn_wide (n:=3)).1 ?_
 refine search bad (fun x=>.cells #[.int .i64 code,.int .i64 x] 37 (0,0)) be (w.heap.size+1) (onS T:Nat) (by omega) rfl rfl (by omega) (by omega) bE.cell
  (fun x=>{ tmps:=#[.agg c.toArray,.pointer (some ⟨bb,0,none⟩),.pointer (some ⟨bc,0,none⟩),.pointer (some ⟨w.heap.size,0,none⟩),.pointer (some ⟨w.heap.size+1,0,none⟩),.int .i64 x,.agg c.toArray,.int .i64 (onS T:Nat),.func (.func 127) #[] #[.pointer (some ⟨be,0,none⟩)],.int .i64 x,undef,undef,undef,undef,undef,undef,undef,undef],defers:=[] }) ?assign ?body ?done ?stop
 case assign =>
  intro l x W K hK
  gi_wp2
  exact hK
 case body =>
  intro l x W hx hB
  have hx8:=SetM.list_bd _ x hx
  have LTW:=hJJ (LT4.out.below hB)
  have BW:Hid (Below w.heap.size w W):=hJJ (C0.out.trans (hB.mono C0.out.size))
  have hbb:=HBB.out _ BW.out
  have HVR:Hid (W.heap[w.heap.size+1]?=some (.cells #[.int .i64 0,.int .i64 0] 37 (0,0))):=hJJ ((hB.block _ (by omega)).trans bR4)
  obtain ⟨k,rfl⟩:=Int.eq_ofNat_of_zero_le hx8.1
  have hk8:k < 8:=by have:=hx8.2;omega
  have BD:=hJJ (HBAD.out k _ hk8 BW.out)
  clear hB hx hx8
  refine wpIn_block (wpIn_seq ?_)
  refine Up.region_list (fun ⟨_,_,h⟩=>h) (by kernel_rfl) ?_
  go_wp2_with (refine lgZ 32 ⟨w.heap.size,0,none⟩ c rfl LTW.out Tryz.underlying32 IA.out ?_)
  refine (BD.out).mono ?_
  rintro e W2 ⟨rfl,hb⟩
  have HW2:=hJJ hb
  have hbc:=HBC.out _ (BW.out.trans (hb.mono BW.out.size))
  have HV2:Hid (W2.heap[w.heap.size+1]?=some (.cells #[.int .i64 0,.int .i64 0] 37 (0,0))):=hJJ ((hb.block _ (Array.getElem?_eq_some_iff.1 HVR.out).1).trans HVR.out)
  clear hb hbb
  cases hbk:bad k with
  | false =>
   have HB:=hJJ hbk
   clear hbk
   go_wp2_with fail
   gi_wp2
   exact ⟨HB.out,HW2.out⟩
  | true =>
   have HB:=hJJ hbk
   clear hbk
   have HK:=hJJ (setRow_heap W2 (w.heap.size+1) _ #[.int .i64 code,.int .i64 k] _ _ HV2.out)
   have HG:Hid (W2.grownBy (W2.setRow (w.heap.size+1) #[.int .i64 code,.int .i64 k]) (some (w.heap.size+1))):=hJJ (setRow_grown W2 (w.heap.size+1) #[.int .i64 code,.int .i64 k] (Array.getElem?_eq_some_iff.1 HV2.out).1)
   go_wp2_with fail
   refine wpIn_cond_true rfl (wpIn_seq ?_)
   refine Up.region_list (fun ⟨_,_,h⟩=>h) (by kernel_rfl) ?_
   go_wp2_with (refine wpList_store_row rfl 37 _ _ rfl (w.heap.size+1) #[.int .i64 code,.int .i64 k] rfl rfl 37 _ HV2.out infoF rfl (by simp [Value.oneCell']) ?_)
   generalize W2.setRow (w.heap.size+1) #[.int .i64 code,.int .i64 k]=W5 at HK HG ⊢
   (try go_wp2_with fail)
   (try gi_wp2)
   exact ⟨HB.out,grown_trans (grown_of_below HW2.out) HG.out,HK.out⟩
 case done =>
  intro D W hD hall hB hK
  have B1:Hid (W.heap[w.heap.size+1]?=some (.cells #[.int .i64 0,.int .i64 0] 37 (0,0))):=hJJ ((hB.block _ (by omega)).trans bR4)
  have HR:Hid ((ons T).find? bad=none):=hJJ (List.find?_eq_none.2 (fun x hx=>by simp [hall x hx]))
  have HB:Hid (Below w.heap.size w W):=hJJ (C0.out.trans (hB.mono C0.out.size))
  have HW:=hJJ (Same.below_setRow HB.out (g:=w.heap.size+1) (by omega) #[.int .i64 0,.int .i64 0])
  have HC:=hJJ (setRow_heap W (w.heap.size+1) _ #[.int .i64 0,.int .i64 0] _ _ B1.out)
  have hg:=setRow_grown W (w.heap.size+1) #[.int .i64 0,.int .i64 0] (Array.getElem?_eq_some_iff.1 B1.out).1
  have HK':Hid ((W.setRow (w.heap.size+1) #[.int .i64 0,.int .i64 0]).heap[D]?=some (.deferred (some []))):=hJJ ((hg.block D (Array.getElem?_eq_some_iff.1 hK).1 (fun e=>by cases e;omega)).trans hK)
  clear hB hall hg hK
  go_wp2_with (refine wpList_store_row rfl 37 _ _ rfl (w.heap.size+1) #[.int .i64 0,.int .i64 0] rfl rfl 37 _ B1.out infoF rfl (by simp [Value.oneCell']) ?_)
  generalize W.setRow (w.heap.size+1) #[.int .i64 0,.int .i64 0]=W5 at HC HW HK' ⊢
  (try go_wp2_with fail)
  refine ⟨by simp,.inl ⟨_,_,rfl,run_takeDeferred HK'.out,?_⟩⟩
  have hp:(W5.putObj D (.deferred none)).heap[w.heap.size+1]?=some (.cells #[.int .i64 0,.int .i64 0] 37 (0,0)):=(World.putObj_heap_other (by omega)).trans HC.out
  refine ⟨.agg #[.int .i64 0,.int .i64 0],?_,by rw [HR.out];rfl,HW.out.trans (belowK_b (w:=w) (Nat.le_refl _) _ D _ _ (by omega) HK'.out rfl rfl)⟩
  exact results_cell_row rfl _ _ (w.heap.size+1) 37 _ (0,0) _ rfl hp Tryz.underlying37 rfl infoF
 case stop =>
  intro D x W hD hf hx hg hR hK
  have HR:Hid ((ons T).find? bad=some x):=hJJ hf
  have HC:=hJJ hR
  have HB:Hid (Below w.heap.size w W):=hJJ (C0.out.grown hg (by omega) (fun k e=>by cases e;omega))
  clear hf hx hg hR
  gi_wp2
  refine ⟨by simp,.inl ⟨_,_,rfl,run_takeDeferred hK,?_⟩⟩
  have hp:(W.putObj D (.deferred none)).heap[w.heap.size+1]?=some (.cells #[.int .i64 code,.int .i64 x] 37 (0,0)):=(World.putObj_heap_other (by omega)).trans HC.out
  refine ⟨.agg #[.int .i64 code,.int .i64 x],?_,by rw [HR.out];rfl,HB.out.trans (belowK_b (w:=w) (Nat.le_refl _) W D _ _ (by omega) hK rfl rfl)⟩
  exact results_cell_row rfl _ _ (w.heap.size+1) 37 _ (0,0) _ rfl hp Tryz.underlying37 rfl infoF
end ChkP
namespace ChkQ
open Zip
open Go.ChangeShapes Go.WideShapes Go.ChangeAt Go.RowKit
open Tab ChkM ChkH
open ChkB (laid2)
open Each (Kept)
theorem mkphases_P (code:Int) (w:World):Calls Tryz.prog 74 #[.int .i64 code,.func (.func 75) #[] #[]] w fun e w' =>
  e=.returned (.func (.func 109) #[] #[.pointer (some ⟨w.heap.size+1,0,none⟩),.pointer (some ⟨w.heap.size,0,none⟩)])∧w'=(w.alloc (.cells #[.int .i64 code] 35)).alloc (.cells #[.func (.func 75) #[] #[]] 86):=by
 go_enter Tryz.func74,Tryz.ntmps74
 go_wp2
 go_ret
 exact ⟨rfl,rfl⟩
theorem mkphases_C (code:Int) (w:World):Calls Tryz.prog 74 #[.int .i64 code,.func (.func 77) #[] #[]] w fun e w' =>
  e=.returned (.func (.func 109) #[] #[.pointer (some ⟨w.heap.size+1,0,none⟩),.pointer (some ⟨w.heap.size,0,none⟩)])∧w'=(w.alloc (.cells #[.int .i64 code] 35)).alloc (.cells #[.func (.func 77) #[] #[]] 86):=by
 go_enter Tryz.func74,Tryz.ntmps74
 go_wp2
 go_ret
 exact ⟨rfl,rfl⟩
theorem mkphases_F (code:Int) (w:World):Calls Tryz.prog 74 #[.int .i64 code,.func (.func 87) #[] #[]] w fun e w' =>
  e=.returned (.func (.func 109) #[] #[.pointer (some ⟨w.heap.size+1,0,none⟩),.pointer (some ⟨w.heap.size,0,none⟩)])∧w'=(w.alloc (.cells #[.int .i64 code] 35)).alloc (.cells #[.func (.func 87) #[] #[]] 86):=by
 go_enter Tryz.func74,Tryz.ntmps74
 go_wp2
 go_ret
 exact ⟨rfl,rfl⟩
theorem mkelem_D (code:Int) (w:World):Calls Tryz.prog 78 #[.int .i64 code,.func (.func 79) #[] #[],.func (.func 80) #[] #[]] w fun e w' =>
  e=.returned (.func (.func 113) #[] #[.pointer (some ⟨w.heap.size+1,0,none⟩),.pointer (some ⟨w.heap.size+1+1,0,none⟩),.pointer (some ⟨w.heap.size,0,none⟩)])∧w'=((w.alloc (.cells #[.int .i64 code] 35)).alloc (.cells #[.func (.func 79) #[] #[]] 102)).alloc (.cells #[.func (.func 80) #[] #[]] 103):=by
 go_enter Tryz.func78,Tryz.ntmps78
 go_wp2
 go_ret
 exact ⟨rfl,rfl⟩
theorem mkelem_R (code:Int) (w:World):Calls Tryz.prog 81 #[.int .i64 code,.func (.func 82) #[] #[],.func (.func 83) #[] #[]] w fun e w' =>
  e=.returned (.func (.func 114) #[] #[.pointer (some ⟨w.heap.size+1,0,none⟩),.pointer (some ⟨w.heap.size+1+1,0,none⟩),.pointer (some ⟨w.heap.size,0,none⟩)])∧w'=((w.alloc (.cells #[.int .i64 code] 35)).alloc (.cells #[.func (.func 82) #[] #[]] 105)).alloc (.cells #[.func (.func 83) #[] #[]] 106):=by
 go_enter Tryz.func81,Tryz.ntmps81
 go_wp2
 go_ret
 exact ⟨rfl,rfl⟩
theorem mkelem_B (code:Int) (w:World):Calls Tryz.prog 84 #[.int .i64 code,.func (.func 85) #[] #[],.func (.func 86) #[] #[]] w fun e w' =>
  e=.returned (.func (.func 119) #[] #[.pointer (some ⟨w.heap.size+1,0,none⟩),.pointer (some ⟨w.heap.size+1+1,0,none⟩),.pointer (some ⟨w.heap.size,0,none⟩)])∧w'=((w.alloc (.cells #[.int .i64 code] 35)).alloc (.cells #[.func (.func 85) #[] #[]] 108)).alloc (.cells #[.func (.func 86) #[] #[]] 109):=by
 go_enter Tryz.func84,Tryz.ntmps84
 go_wp2
 go_ret
 exact ⟨rfl,rfl⟩
def fns (n:Nat):Array Value:=#[.func (.func 73) #[] #[],.func (.func 109) #[] #[.pointer (some ⟨n+1+1,0,none⟩),.pointer (some ⟨n+1,0,none⟩)],.func (.func 76) #[] #[],.func (.func 109) #[] #[.pointer (some ⟨n+3+1,0,none⟩),.pointer (some ⟨n+3,0,none⟩)],.func (.func 113) #[] #[.pointer (some ⟨n+5+1,0,none⟩),.pointer (some ⟨n+5+1+1,0,none⟩),.pointer (some ⟨n+5,0,none⟩)],.func (.func 114) #[] #[.pointer (some ⟨n+8+1,0,none⟩),.pointer (some ⟨n+8+1+1,0,none⟩),.pointer (some ⟨n+8,0,none⟩)],.func (.func 119) #[] #[.pointer (some ⟨n+11+1,0,none⟩),.pointer (some ⟨n+11+1+1,0,none⟩),.pointer (some ⟨n+11,0,none⟩)],.func (.func 109) #[] #[.pointer (some ⟨n+14+1,0,none⟩),.pointer (some ⟨n+14,0,none⟩)]]
structure Lie (n:Nat) (W:World):Prop where
 c1:W.cell? ⟨n+1,0,none⟩=some (.int .i64 7)
 c2:W.cell? ⟨n+2,0,none⟩=some (.func (.func 75) #[] #[])
 c3:W.cell? ⟨n+3,0,none⟩=some (.int .i64 9)
 c4:W.cell? ⟨n+4,0,none⟩=some (.func (.func 77) #[] #[])
 c5:W.cell? ⟨n+5,0,none⟩=some (.int .i64 10)
 c6:W.cell? ⟨n+6,0,none⟩=some (.func (.func 79) #[] #[])
 c7:W.cell? ⟨n+7,0,none⟩=some (.func (.func 80) #[] #[])
 c8:W.cell? ⟨n+8,0,none⟩=some (.int .i64 11)
 c9:W.cell? ⟨n+9,0,none⟩=some (.func (.func 82) #[] #[])
 c10:W.cell? ⟨n+10,0,none⟩=some (.func (.func 83) #[] #[])
 c11:W.cell? ⟨n+11,0,none⟩=some (.int .i64 12)
 c12:W.cell? ⟨n+12,0,none⟩=some (.func (.func 85) #[] #[])
 c13:W.cell? ⟨n+13,0,none⟩=some (.func (.func 86) #[] #[])
 c14:W.cell? ⟨n+14,0,none⟩=some (.int .i64 13)
 c15:W.cell? ⟨n+15,0,none⟩=some (.func (.func 87) #[] #[])
theorem Lie.below {n:Nat} {W W':World} (h:Lie n W) (hb:Below W.heap.size W W'):Lie n W' :=
 ⟨(hb.cell (World.block_lt_of_cell? W _ h.c1)).trans h.c1,(hb.cell (World.block_lt_of_cell? W _ h.c2)).trans h.c2,(hb.cell (World.block_lt_of_cell? W _ h.c3)).trans h.c3,(hb.cell (World.block_lt_of_cell? W _ h.c4)).trans h.c4,(hb.cell (World.block_lt_of_cell? W _ h.c5)).trans h.c5,(hb.cell (World.block_lt_of_cell? W _ h.c6)).trans h.c6,(hb.cell (World.block_lt_of_cell? W _ h.c7)).trans h.c7,(hb.cell (World.block_lt_of_cell? W _ h.c8)).trans h.c8,(hb.cell (World.block_lt_of_cell? W _ h.c9)).trans h.c9,(hb.cell (World.block_lt_of_cell? W _ h.c10)).trans h.c10,(hb.cell (World.block_lt_of_cell? W _ h.c11)).trans h.c11,(hb.cell (World.block_lt_of_cell? W _ h.c12)).trans h.c12,(hb.cell (World.block_lt_of_cell? W _ h.c13)).trans h.c13,(hb.cell (World.block_lt_of_cell? W _ h.c14)).trans h.c14,(hb.cell (World.block_lt_of_cell? W _ h.c15)).trans h.c15⟩
theorem new_size {w W:World} {o:Obj} (h:w.alloc o=W):W.heap.size=w.heap.size+1:=by rw [← h];simp
theorem new_cell {w W:World} {v:Value} {t:TypeId} (h:w.alloc (.cells #[v] t)=W) {k:Nat} (hk:w.heap.size=k):W.cell? ⟨k,0,none⟩=some v:=by
 subst hk;rw [← h];exact Boxed.cell (Boxed.new w t v)
theorem new_old {w W:World} {o:Obj} (h:w.alloc o=W) {a:Addr} {v:Value} (hc:w.cell? a=some v):W.cell? a=some v:=by
 rw [← h];exact (((Below.refl w.heap.size w).alloc (Nat.le_refl _) o).cell (World.block_lt_of_cell? w _ hc)).trans hc
theorem new_below {w W:World} {o:Obj} (h:w.alloc o=W) {v:World} {b:Nat} (hb:Below b v w) (hs:b≤w.heap.size):Below b v W:=by rw [← h];exact hb.alloc hs o
theorem new_heap {w W:World} {o:Obj} (h:w.alloc o=W) {k:Nat} {x:Obj} (hx:w.heap[k]?=some x):W.heap[k]?=some x:=by
 rw [← h];exact (Below.heap_alloc w o k (Array.getElem?_eq_some_iff.1 hx).1).trans hx
theorem infoA:(Tryz.prog.info? 80).map (·.size)=some 8:=by kernel_rfl
theorem rules_any (w:World):Calls Tryz.prog 47 #[] w fun e w'=>e=.returned (.agg (fns w.heap.size))∧Lie w.heap.size w'∧Below w.heap.size w w':=by
 go_enter Tryz.func47,Tryz.ntmps47
 go_upto_region 1 with fail
 have h0:=heap_alloc_new w (.cells #[.nilFunc,.nilFunc,.nilFunc,.nilFunc,.nilFunc,.nilFunc,.nilFunc,.nilFunc] 80)
 have s0:(w.alloc (.cells #[.nilFunc,.nilFunc,.nilFunc,.nilFunc,.nilFunc,.nilFunc,.nilFunc,.nilFunc] 80)).heap.size=w.heap.size+1:=by simp
 have b0:Below w.heap.size w (w.alloc (.cells #[.nilFunc,.nilFunc,.nilFunc,.nilFunc,.nilFunc,.nilFunc,.nilFunc,.nilFunc] 80)):=(Below.refl _ _).alloc (Nat.le_refl _) _
 generalize w.alloc (.cells #[.nilFunc,.nilFunc,.nilFunc,.nilFunc,.nilFunc,.nilFunc,.nilFunc,.nilFunc] 80)=u0 at h0 s0 b0 ⊢
 generalize hn:w.heap.size=n at *
 have HN:=hJJ hn
 clear hn
 go_wp2_with fail
 refine (mkphases_P _ _).mono ?_
 rintro e w' ⟨rfl,rfl⟩
 obtain ⟨u1,hu⟩:∃ W,u0.alloc (.cells #[.int .i64 7] 35)=W:=⟨_,rfl⟩
 rw [hu]
 have s1:u1.heap.size=n+2:=by rw [new_size hu,s0]
 have c1:u1.cell? ⟨n+1,0,none⟩=some (.int .i64 7):=new_cell hu s0
 have h0:=new_heap hu h0
 have b0:=new_below hu b0 (by omega)
 clear hu
 obtain ⟨u2,hu⟩:∃ W,u1.alloc (.cells #[.func (.func 75) #[] #[]] 86)=W:=⟨_,rfl⟩
 rw [hu]
 have s2:u2.heap.size=n+3:=by rw [new_size hu,s1]
 have c1:=new_old hu c1
 have c2:u2.cell? ⟨n+2,0,none⟩=some (.func (.func 75) #[] #[]):=new_cell hu s1
 have h0:=new_heap hu h0
 have b0:=new_below hu b0 (by omega)
 clear hu
 rw [s0]
 go_wp2_with fail
 refine (mkphases_C _ _).mono ?_
 rintro e w' ⟨rfl,rfl⟩
 obtain ⟨u3,hu⟩:∃ W,u2.alloc (.cells #[.int .i64 9] 35)=W:=⟨_,rfl⟩
 rw [hu]
 have s3:u3.heap.size=n+4:=by rw [new_size hu,s2]
 have c1:=new_old hu c1
 have c2:=new_old hu c2
 have c3:u3.cell? ⟨n+3,0,none⟩=some (.int .i64 9):=new_cell hu s2
 have h0:=new_heap hu h0
 have b0:=new_below hu b0 (by omega)
 clear hu
 obtain ⟨u4,hu⟩:∃ W,u3.alloc (.cells #[.func (.func 77) #[] #[]] 86)=W:=⟨_,rfl⟩
 rw [hu]
 have s4:u4.heap.size=n+5:=by rw [new_size hu,s3]
 have c1:=new_old hu c1
 have c2:=new_old hu c2
 have c3:=new_old hu c3
 have c4:u4.cell? ⟨n+4,0,none⟩=some (.func (.func 77) #[] #[]):=new_cell hu s3
 have h0:=new_heap hu h0
 have b0:=new_below hu b0 (by omega)
 clear hu
 rw [s2]
 go_wp2_with fail
 refine (mkelem_D _ _).mono ?_
 rintro e w' ⟨rfl,rfl⟩
 obtain ⟨u5,hu⟩:∃ W,u4.alloc (.cells #[.int .i64 10] 35)=W:=⟨_,rfl⟩
 rw [hu]
 have s5:u5.heap.size=n+6:=by rw [new_size hu,s4]
 have c1:=new_old hu c1
 have c2:=new_old hu c2
 have c3:=new_old hu c3
 have c4:=new_old hu c4
 have c5:u5.cell? ⟨n+5,0,none⟩=some (.int .i64 10):=new_cell hu s4
 have h0:=new_heap hu h0
 have b0:=new_below hu b0 (by omega)
 clear hu
 obtain ⟨u6,hu⟩:∃ W,u5.alloc (.cells #[.func (.func 79) #[] #[]] 102)=W:=⟨_,rfl⟩
 rw [hu]
 have s6:u6.heap.size=n+7:=by rw [new_size hu,s5]
 have c1:=new_old hu c1
 have c2:=new_old hu c2
 have c3:=new_old hu c3
 have c4:=new_old hu c4
 have c5:=new_old hu c5
 have c6:u6.cell? ⟨n+6,0,none⟩=some (.func (.func 79) #[] #[]):=new_cell hu s5
 have h0:=new_heap hu h0
 have b0:=new_below hu b0 (by omega)
 clear hu
 obtain ⟨u7,hu⟩:∃ W,u6.alloc (.cells #[.func (.func 80) #[] #[]] 103)=W:=⟨_,rfl⟩
 rw [hu]
 have s7:u7.heap.size=n+8:=by rw [new_size hu,s6]
 have c1:=new_old hu c1
 have c2:=new_old hu c2
 have c3:=new_old hu c3
 have c4:=new_old hu c4
 have c5:=new_old hu c5
 have c6:=new_old hu c6
 have c7:u7.cell? ⟨n+7,0,none⟩=some (.func (.func 80) #[] #[]):=new_cell hu s6
 have h0:=new_heap hu h0
 have b0:=new_below hu b0 (by omega)
 clear hu
 rw [s4]
 go_wp2_with fail
 refine (mkelem_R _ _).mono ?_
 rintro e w' ⟨rfl,rfl⟩
 obtain ⟨u8,hu⟩:∃ W,u7.alloc (.cells #[.int .i64 11] 35)=W:=⟨_,rfl⟩
 rw [hu]
 have s8:u8.heap.size=n+9:=by rw [new_size hu,s7]
 have c1:=new_old hu c1
 have c2:=new_old hu c2
 have c3:=new_old hu c3
 have c4:=new_old hu c4
 have c5:=new_old hu c5
 have c6:=new_old hu c6
 have c7:=new_old hu c7
 have c8:u8.cell? ⟨n+8,0,none⟩=some (.int .i64 11):=new_cell hu s7
 have h0:=new_heap hu h0
 have b0:=new_below hu b0 (by omega)
 clear hu
 obtain ⟨u9,hu⟩:∃ W,u8.alloc (.cells #[.func (.func 82) #[] #[]] 105)=W:=⟨_,rfl⟩
 rw [hu]
 have s9:u9.heap.size=n+10:=by rw [new_size hu,s8]
 have c1:=new_old hu c1
 have c2:=new_old hu c2
 have c3:=new_old hu c3
 have c4:=new_old hu c4
 have c5:=new_old hu c5
 have c6:=new_old hu c6
 have c7:=new_old hu c7
 have c8:=new_old hu c8
 have c9:u9.cell? ⟨n+9,0,none⟩=some (.func (.func 82) #[] #[]):=new_cell hu s8
 have h0:=new_heap hu h0
 have b0:=new_below hu b0 (by omega)
 clear hu
 obtain ⟨u10,hu⟩:∃ W,u9.alloc (.cells #[.func (.func 83) #[] #[]] 106)=W:=⟨_,rfl⟩
 rw [hu]
 have s10:u10.heap.size=n+11:=by rw [new_size hu,s9]
 have c1:=new_old hu c1
 have c2:=new_old hu c2
 have c3:=new_old hu c3
 have c4:=new_old hu c4
 have c5:=new_old hu c5
 have c6:=new_old hu c6
 have c7:=new_old hu c7
 have c8:=new_old hu c8
 have c9:=new_old hu c9
 have c10:u10.cell? ⟨n+10,0,none⟩=some (.func (.func 83) #[] #[]):=new_cell hu s9
 have h0:=new_heap hu h0
 have b0:=new_below hu b0 (by omega)
 clear hu
 rw [s7]
 go_wp2_with fail
 refine (mkelem_B _ _).mono ?_
 rintro e w' ⟨rfl,rfl⟩
 obtain ⟨u11,hu⟩:∃ W,u10.alloc (.cells #[.int .i64 12] 35)=W:=⟨_,rfl⟩
 rw [hu]
 have s11:u11.heap.size=n+12:=by rw [new_size hu,s10]
 have c1:=new_old hu c1
 have c2:=new_old hu c2
 have c3:=new_old hu c3
 have c4:=new_old hu c4
 have c5:=new_old hu c5
 have c6:=new_old hu c6
 have c7:=new_old hu c7
 have c8:=new_old hu c8
 have c9:=new_old hu c9
 have c10:=new_old hu c10
 have c11:u11.cell? ⟨n+11,0,none⟩=some (.int .i64 12):=new_cell hu s10
 have h0:=new_heap hu h0
 have b0:=new_below hu b0 (by omega)
 clear hu
 obtain ⟨u12,hu⟩:∃ W,u11.alloc (.cells #[.func (.func 85) #[] #[]] 108)=W:=⟨_,rfl⟩
 rw [hu]
 have s12:u12.heap.size=n+13:=by rw [new_size hu,s11]
 have c1:=new_old hu c1
 have c2:=new_old hu c2
 have c3:=new_old hu c3
 have c4:=new_old hu c4
 have c5:=new_old hu c5
 have c6:=new_old hu c6
 have c7:=new_old hu c7
 have c8:=new_old hu c8
 have c9:=new_old hu c9
 have c10:=new_old hu c10
 have c11:=new_old hu c11
 have c12:u12.cell? ⟨n+12,0,none⟩=some (.func (.func 85) #[] #[]):=new_cell hu s11
 have h0:=new_heap hu h0
 have b0:=new_below hu b0 (by omega)
 clear hu
 obtain ⟨u13,hu⟩:∃ W,u12.alloc (.cells #[.func (.func 86) #[] #[]] 109)=W:=⟨_,rfl⟩
 rw [hu]
 have s13:u13.heap.size=n+14:=by rw [new_size hu,s12]
 have c1:=new_old hu c1
 have c2:=new_old hu c2
 have c3:=new_old hu c3
 have c4:=new_old hu c4
 have c5:=new_old hu c5
 have c6:=new_old hu c6
 have c7:=new_old hu c7
 have c8:=new_old hu c8
 have c9:=new_old hu c9
 have c10:=new_old hu c10
 have c11:=new_old hu c11
 have c12:=new_old hu c12
 have c13:u13.cell? ⟨n+13,0,none⟩=some (.func (.func 86) #[] #[]):=new_cell hu s12
 have h0:=new_heap hu h0
 have b0:=new_below hu b0 (by omega)
 clear hu
 rw [s10]
 go_wp2_with fail
 refine (mkphases_F _ _).mono ?_
 rintro e w' ⟨rfl,rfl⟩
 obtain ⟨u14,hu⟩:∃ W,u13.alloc (.cells #[.int .i64 13] 35)=W:=⟨_,rfl⟩
 rw [hu]
 have s14:u14.heap.size=n+15:=by rw [new_size hu,s13]
 have c1:=new_old hu c1
 have c2:=new_old hu c2
 have c3:=new_old hu c3
 have c4:=new_old hu c4
 have c5:=new_old hu c5
 have c6:=new_old hu c6
 have c7:=new_old hu c7
 have c8:=new_old hu c8
 have c9:=new_old hu c9
 have c10:=new_old hu c10
 have c11:=new_old hu c11
 have c12:=new_old hu c12
 have c13:=new_old hu c13
 have c14:u14.cell? ⟨n+14,0,none⟩=some (.int .i64 13):=new_cell hu s13
 have h0:=new_heap hu h0
 have b0:=new_below hu b0 (by omega)
 clear hu
 obtain ⟨u15,hu⟩:∃ W,u14.alloc (.cells #[.func (.func 87) #[] #[]] 86)=W:=⟨_,rfl⟩
 rw [hu]
 have s15:u15.heap.size=n+16:=by rw [new_size hu,s14]
 have c1:=new_old hu c1
 have c2:=new_old hu c2
 have c3:=new_old hu c3
 have c4:=new_old hu c4
 have c5:=new_old hu c5
 have c6:=new_old hu c6
 have c7:=new_old hu c7
 have c8:=new_old hu c8
 have c9:=new_old hu c9
 have c10:=new_old hu c10
 have c11:=new_old hu c11
 have c12:=new_old hu c12
 have c13:=new_old hu c13
 have c14:=new_old hu c14
 have c15:u15.cell? ⟨n+15,0,none⟩=some (.func (.func 87) #[] #[]):=new_cell hu s14
 have h0:=new_heap hu h0
 have b0:=new_below hu b0 (by omega)
 clear hu
 rw [s13]
 have LI:Lie n u15:=⟨c1,c2,c3,c4,c5,c6,c7,c8,c9,c10,c11,c12,c13,c14,c15⟩
 have hsz:n≤u15.heap.size:=by omega
 have HW:Below n w (u15.setRow n (fns n)):=b0.trans (Same.below_setRow (Below.refl n u15) (Nat.le_refl _) (fns n))
 have HK:=hJJ (setRow_heap u15 n _ (fns n) _ _ h0)
 have HL:Lie n (u15.setRow n (fns n)):=⟨(Kept.cell (o:=0) (setRow_other u15 n (n+1) (fns n) (by omega))).trans c1,(Kept.cell (o:=0) (setRow_other u15 n (n+2) (fns n) (by omega))).trans c2,(Kept.cell (o:=0) (setRow_other u15 n (n+3) (fns n) (by omega))).trans c3,(Kept.cell (o:=0) (setRow_other u15 n (n+4) (fns n) (by omega))).trans c4,(Kept.cell (o:=0) (setRow_other u15 n (n+5) (fns n) (by omega))).trans c5,(Kept.cell (o:=0) (setRow_other u15 n (n+6) (fns n) (by omega))).trans c6,(Kept.cell (o:=0) (setRow_other u15 n (n+7) (fns n) (by omega))).trans c7,(Kept.cell (o:=0) (setRow_other u15 n (n+8) (fns n) (by omega))).trans c8,(Kept.cell (o:=0) (setRow_other u15 n (n+9) (fns n) (by omega))).trans c9,(Kept.cell (o:=0) (setRow_other u15 n (n+10) (fns n) (by omega))).trans c10,(Kept.cell (o:=0) (setRow_other u15 n (n+11) (fns n) (by omega))).trans c11,(Kept.cell (o:=0) (setRow_other u15 n (n+12) (fns n) (by omega))).trans c12,(Kept.cell (o:=0) (setRow_other u15 n (n+13) (fns n) (by omega))).trans c13,(Kept.cell (o:=0) (setRow_other u15 n (n+14) (fns n) (by omega))).trans c14,(Kept.cell (o:=0) (setRow_other u15 n (n+15) (fns n) (by omega))).trans c15⟩
 have H1:=hJJ HW
 have H2:=hJJ HL
 clear HW HL c1 c2 c3 c4 c5 c6 c7 c8 c9 c10 c11 c12 c13 c14 c15 LI s0 s1 s2 s3 s4 s5 s6 s7 s8 s9 s10 s11 s12 s13 s14 s15 b0
 go_wp2_with (refine wpList_store_row rfl 80 _ _ rfl n (fns n) rfl rfl 80 _ h0 infoA rfl (by simp [fns,Value.oneCell']) ?_)
 (try go_wp2_with fail)
 generalize u15.setRow n (fns n)=uz at HK H1 H2 ⊢
 (try simp only [Exit.inBlock,Exit.then])
 refine bodyPost_ret (v:=.agg (fns n)) ?_ rfl (by rw [HN.out];exact ⟨rfl,H2.out,H1.out⟩)
 exact results_cell_row rfl _ _ n 80 _ (0,0) _ rfl HK.out Tryz.underlying80 rfl infoA
end ChkQ
end Go.Proofs.YtjolhoilcibdfaaGreat
