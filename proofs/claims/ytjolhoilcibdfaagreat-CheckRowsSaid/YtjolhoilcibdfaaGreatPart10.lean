/- 10 texts in one file, in build order. -/
import Derived.Test.YtjolhoilcibdfaaGreatPart01
import Derived.Test.YtjolhoilcibdfaaGreatRows
import Derived.Test.YtjolhoilcibdfaaGreatPart08
import Derived.Test.YtjolhoilcibdfaaGreatPart09
import Derived.Test.YtjolhoilcibdfaaGreatPart03
import Derived.Test.YtjolhoilcibdfaaGreatPart06
import Derived.Deep.Cut
import Derived.LoopTactic
import Derived.Great.BuildSlice
import Derived.Test.YtjolhoilcibdfaaGreatPart02
set_option linter.unusedVariables false
set_option linter.unusedSimpArgs false
set_option linter.unusedSectionVars false
set_option maxHeartbeats 8000000
set_option maxRecDepth 100000
namespace Go.Proofs.YtjolhoilcibdfaaGreat
namespace ChkY
open Zip
open Go.RowKit Go.Shelf
open Tab PlaceM PlanM OnS ChkM Each Search ChkI
open ChkB (laid2)
open May (infoT ret_bool)
attribute [local go_sem] Oper.semAt_some
def yS (T:Tab) (l:List Int):Nat:=SetM.of (l.filter (yel T))
theorem yS_hit {T:Tab} {l:List Int} {x:Int} (h:yel T x=true):SetM.withN (yS T l:Nat) x=yS T (l++[x]):=by
 unfold yS;rw [SetM.with_of,List.filter_append];simp [h]
theorem yS_miss {T:Tab} {l:List Int} {x:Int} (h:yel T x=false):yS T (l++[x])=yS T l:=by
 unfold yS;rw [List.filter_append];simp [h]
theorem yellows_any (T:Tab) (h:Hd) (w:World) (ht:IsTab w h T) :
  Calls Tryz.prog 120 #[.agg (T.cells h).toArray] w fun e w'=>e=.returned (.int .i64 (yellows T:Nat))∧Below w.heap.size w w':=by
 have hsz:=(cells_ok ht).size
 have IA:Hid ((Tryz.prog.info? 32).map (·.size)=some (T.cells h).length):=hJJ (by rw [List.size_toArray] at hsz;rw [hsz];exact infoT)
 have ON:Hid (∀ W,Below w.heap.size w W→Calls Tryz.prog 96 #[.agg (T.cells h).toArray] W fun e w'=>e=.returned (.int .i64 (onS T:Nat))∧Below W.heap.size W w'):=hJJ (fun W hb=>PlanO.pon_any T h W (ht.below hb))
 have LT0:=hJJ (Row.lies_new w (T.cells h).toArray 32)
 have BX0:=hJJ (bxd_new ht)
 have hs1:(w.alloc (.cells (T.cells h).toArray 32)).heap.size=w.heap.size+1:=by simp
 have YR:Hid (yellows T=yS T (SetM.list (onS T:Nat))):=hJJ rfl
 clear ht
 generalize T.cells h=c at *
 refine (callsIn_wide (n:=3)).1 ?_
 refine callsIn_of_wp_marks Tryz.func120 rfl trivial ?_ rfl
 simp only [Tryz.ntmps120,List.size_toArray,List.length_cons,List.length_nil,Nat.reduceAdd,Nat.reduceSub,Array.replicate_succ,Array.replicate_zero,List.push_toArray,List.append_toArray,List.nil_append,List.cons_append]
 refine wpIn_wide.2 ?_
 go_upto_region 2 with fail
 obtain ⟨W1,hW1,E1,E0,EB,bR⟩:=laid2 w (.cells c.toArray 32) (.cells #[.int .i64 0] 3)
 rw [hW1]
 have LT:=hJJ (LT0.out.below (by rw [hs1];exact EB))
 have BX:=hJJ (BX0.out.below (by rw [hs1];exact EB))
 have B0:=hJJ E0
 clear hW1 EB hs1 hsz LT0 E0 BX0
 go_wp2_with (refine lgZ 32 ⟨w.heap.size,0,none⟩ c rfl LT.out Tryz.underlying32 IA.out ?_)
 refine (ON.out _ B0.out).mono ?_
 rintro e W3 ⟨rfl,hb⟩
 go_wp2_with fail
 refine (callsIn_wide.1 (Each.each_in 3 _ _)).mono ?_
 rintro e w' ⟨rfl,rfl⟩
 go_wp2_with fail
 have hb4:Below W1.heap.size W1 (W3.alloc (.cells #[.int .i64 (onS T:Nat)] 3)):=hb.alloc hb.size _
 have bE:Boxed (W3.alloc (.cells #[.int .i64 (onS T:Nat)] 3)) W3.heap.size 3 (.int .i64 (onS T:Nat)):=Boxed.new _ _ _
 have hsz3:(W3.alloc (.cells #[.int .i64 (onS T:Nat)] 3)).heap.size=W3.heap.size+1:=by simp
 have hs3:=hb.size
 generalize W3.alloc (.cells #[.int .i64 (onS T:Nat)] 3)=W4 at hb4 bE hsz3 ⊢
 have bR4:Boxed W4 (w.heap.size+1) 3 (.int .i64 0):=(hb4.block _ (by omega)).trans bR
 have BX4:=hJJ (BX.out.below hb4)
 have C0:Hid (Below w.heap.size w W4):=hJJ (B0.out.trans (hb4.mono B0.out.size))
 have E4:w.heap.size+2 < W4.heap.size:=by omega
 have E5:W3.heap.size < W4.heap.size:=by omega
 have E6:w.heap.size+1 < W3.heap.size:=by omega
 clear hb hb4 bR LT B0 hs3 BX
 generalize W3.heap.size=be at *
 refine (wpIn_wide (n:=3)).1 ?_
 refine wpIn_rangeFunc_ownG rfl (by omega) (gf:=127) (lb:=#[.pointer (some ⟨be,0,none⟩)]) rfl trivial (enters_of Tryz.func127 (by kernel_rfl) rfl)
  (each_mem _ (by omega) be (onS T:Nat) W4 (by omega) bE.cell) Kept.trans (kept_b E5) (Below.refl _ _) (fun _=>rfl)
  (fun pre W=>Boxed W (w.heap.size+1) 3 (.int .i64 (yS T (pre.map Subtype.val):Nat))∧W4.grownBy W (some (w.heap.size+1)))
  (fun _ _ _=>False)
  ?own (fun _ _ _ _ _ hs _ _=>hs) ⟨bR4,grown_of_below (Below.refl _ _)⟩
  (fun x=>{ tmps:=#[.agg c.toArray,.pointer (some ⟨w.heap.size,0,none⟩),.int .i64 0,.pointer (some ⟨w.heap.size+1,0,none⟩),.int .i64 x.1,.agg c.toArray,.int .i64 (onS T:Nat),.func (.func 127) #[] #[.pointer (some ⟨be,0,none⟩)],.int .i64 x.1,undef,undef,undef,undef,undef,undef,undef,undef,undef],defers:=[] }) ?assign ?body ?done ?stop
 case own =>
  rintro pre W W' row ⟨h1,h2⟩ hgr hr
  exact ⟨h1.kept hgr (fun e=>by have:=(hr _ e.symm).1;omega),grown_from h2 hgr (fun r e=>(hr r e).1)⟩
 case assign =>
  intro l x W K hK
  gi_wp2
  exact hK
 case body =>
  rintro l pre ⟨x,hx⟩ W ⟨hv,hg⟩ hlt
  have hx8:=SetM.list_bd _ x hx
  obtain ⟨j,rfl⟩:=Int.eq_ofNat_of_zero_le hx8.1
  have hj8:((j:Nat):Int) < 8:=hx8.2
  have cc0:=BX4.out.fl j (by omega) (by omega)
  rw [Int.toNat_natCast] at cc0
  have cc:W.cell? ⟨w.heap.size,121+j,none⟩=some (I (flAt T j)):=(Kept.cell (o:=121+j) (hg.block w.heap.size (by omega) (fun e=>by have:=Option.some.inj e;omega))).trans cc0
  have hc:=hv.cell
  have hf:=hv.frozen
  dsimp only
  by_cases hy:flAt T j=2
  ·have HY:=hJJ (yS_hit (l:=pre.map Subtype.val) (show yel T j=true by unfold yel;rw [hy];rfl))
   gi_wp2_with (refine ⟨trivial,?_⟩;gi_at_call 124;refine (CallsIn.inRound l (callsIn_wide.2 (SetP.with_any _ _ _))).mono ?_;rintro e w' ⟨rfl,rfl⟩)
   exact ⟨(KeepsOthers.setCell _ _ _).from _,Kept.setCell _ _ (by omega),by rw [List.map_append,List.map_cons,List.map_nil,← HY.out];exact hv.set _,grown_trans hg (grownBy_setCell' _ _ _)⟩
  ·have HY:=hJJ (yS_miss (l:=pre.map Subtype.val) (show yel T j=false by unfold yel;rw [beq_eq_false_iff_ne];exact hy))
   gi_wp2
   exact ⟨KeepsFrom.refl _ _,rfl,by rw [List.map_append,List.map_cons,List.map_nil,HY.out];exact hv,hg⟩
 case done =>
  rintro D ys W hD hS ⟨hv,hg⟩ hK
  have hc:=hv.cell
  have HR:Hid (yS T (ys.map Subtype.val)=yellows T):=hJJ (by rw [hS];exact YR.out.symm)
  have HB:Hid (Below w.heap.size w W):=hJJ (C0.out.grown hg (by omega) (fun k e=>by cases e;omega))
  clear hg
  go_wp2
  refine ⟨by simp,.inl ⟨_,_,rfl,run_takeDeferred hK,?_⟩⟩
  exact ⟨_,results_tmp rfl _ _ _,by rw [show yellows T=yS T (SetM.list (onS T:Nat)) from YR.out];rfl,HB.out.trans (belowK_b (w:=w) (Nat.le_refl _) _ D _ _ (by omega) hK rfl rfl)⟩
 case stop =>
  rintro D c pre W hD _ h _
  exact h.elim
theorem badFlash_any (T:Tab) (h:Hd) (k:Nat) (hk:k < 8) (w:World) (ht:IsTab w h T) :
  Calls Tryz.prog 87 #[.agg (T.cells h).toArray,.int .i64 k] w fun e w'=>e=.returned (.bool (flashBad T k))∧Below w.heap.size w w':=by
 have hsz:=(cells_ok ht).size
 have IA:Hid ((Tryz.prog.info? 32).map (·.size)=some (T.cells h).length):=hJJ (by rw [List.size_toArray] at hsz;rw [hsz];exact infoT)
 have YE:Hid (∀ W,Below w.heap.size w W→Calls Tryz.prog 120 #[.agg (T.cells h).toArray] W fun e w'=>e=.returned (.int .i64 (yellows T:Nat))∧Below W.heap.size W w'):=hJJ (fun W hb=>yellows_any T h W (ht.below hb))
 have LT0:=hJJ (Row.lies_new w (T.cells h).toArray 32)
 have BX0:=hJJ (bxd_new ht)
 have A0:Hid (Below w.heap.size w (w.alloc (.cells (T.cells h).toArray 32))):=hJJ ((Below.refl _ _).alloc (Nat.le_refl _) _)
 obtain ⟨x,hx⟩:∃ x,x=flashBad T k:=⟨_,rfl⟩
 rw [← hx]
 have HR:Hid (x=(flAt T k == 0 || (flAt T k == 2 && bits .and .i64 (cfAt T k) (yellows T:Nat) != 0))):=hJJ hx
 clear ht hx
 generalize T.cells h=c at *
 have hki:((k:Nat):Int) < 8:=by omega
 go_enter Tryz.func87,Tryz.ntmps87
 go_upto_region 1 with fail
 generalize w.alloc (.cells c.toArray 32)=u at A0 LT0 BX0 ⊢
 clear hsz
 have cf:=BX0.out.fl k (by omega) (by omega)
 have cc:=BX0.out.cf k (by omega) (by omega)
 rw [Int.toNat_natCast] at cf cc
 have CCH:=hJJ cc
 clear cc
 generalize flAt T k=fl at *
 by_cases h0:fl=0
 ·subst h0
  have HX:Hid (true=x):=hJJ (by rw [HR.out];rfl)
  go_wp2
  go_ret
  exact ⟨ret_bool HX.out,A0.out⟩
 by_cases h2:fl=2
 ·subst h2
  have HX:Hid (x=(bits .and .i64 (cfAt T k) (yellows T:Nat) != 0)):=hJJ (by rw [HR.out];rfl)
  clear h0 HR
  generalize yellows T=m at HX YE
  have hne:Nonempty (Ph.S (Row.Old u)):=⟨⟨0,u,Below.refl _ _⟩⟩
  have CC:∀ p:Ph.S (Row.Old u),p.world.cell? ⟨w.heap.size,105+k,none⟩=some (I (cfAt T k)):=fun p=>(p.is.cell (World.block_lt_of_cell? u _ CCH.out)).trans CCH.out
  have YW:Hid (∀ p:Ph.S (Row.Old u),Calls Tryz.prog 120 #[.agg c.toArray] p.world fun e w'=>e=.returned (.int .i64 (m:Nat))∧Below p.world.heap.size p.world w'):=hJJ (fun p=>YE.out _ (A0.out.trans (p.is.mono A0.out.size)))
  clear YE
  generalize cfAt T k=cv at *
  go_upto_region 5 with fail
  refine Pw.region (Row.Old u) [] hmx (by kernel_rfl) (Row.Old.drew _) ?_
  iterate 4
   (refine Pw.calm rfl (fun K hK=>?_)
    go_simp
    refine hK _ ?_
    clear hK K)
  refine Pw.load rfl (by rfl) 32 _ rfl ⟨w.heap.size,0,none⟩ rfl c _ (fun p=>LT0.out.below p.is) Tryz.underlying32 rfl IA.out ?_
  (try dsimp only [Act.put]);(try simp only [zA,zB,zC])
  (refine Pw.calm rfl (fun K hK=>?_)
   go_simp
   refine ⟨_,fun p=>Row.Old.call (YW.out p),hK _ ?_⟩
   clear hK K)
  iterate 3
   (refine Pw.calm rfl (fun K hK=>?_)
    go_simp
    refine hK _ ?_
    clear hK K)
  refine Pw.nil ?_
  intro uz hb
  have EZ:=hJJ (A0.out.trans (hb.mono A0.out.size))
  clear hb CC hne
  go_wp2
  go_ret
  exact ⟨ret_bool HX.out.symm,EZ.out⟩
 ·have HX:Hid (false=x):=hJJ (by rw [HR.out];simp [h0,h2])
  go_wp2
  go_ret
  exact ⟨ret_bool HX.out,A0.out⟩
end ChkY
namespace ChkN
open Zip
open Go.RowKit Go.Shelf
open Tab PlaceM PlanM OnS ChkM Each Search ChkI
open May (infoT ret_bool)
theorem without_any (s p:Int) (w:World):Calls Tryz.prog 141 #[.int .i64 s,.int .i64 p] w fun e w'=>e=.returned (.int .i64 (SetM.withoutN s p))∧w=w':=by
 rw [← SetM.without_bits]
 go_enter Tryz.func141,Tryz.ntmps141
 go_wp2_with (go_at_call 123;refine (SetP.bit_any _ _).mono ?_;rintro e w' ⟨rfl,rfl⟩)
 go_ret
 exact ⟨rfl,rfl⟩
attribute [local go_sem] Oper.semAt_some
def besAll (T:Tab) (s p:Int):Bool:=(SetM.list (SetM.withoutN s p:Nat)).all fun q=>beside T p q
theorem abreast_any (T:Tab) (h:Hd) (s:Int) (w:World) (ht:IsTab w h T) :
  Calls Tryz.prog 117 #[.agg (T.cells h).toArray,.int .i64 s] w fun e w'=>e=.returned (.bool (abreast T s))∧Below w.heap.size w w':=by
 have hsz:=(cells_ok ht).size
 have IA:Hid ((Tryz.prog.info? 32).map (·.size)=some (T.cells h).length):=hJJ (by rw [List.size_toArray] at hsz;rw [hsz];exact infoT)
 have BS:Hid (∀ (p q:Int) W,Below w.heap.size w W→Calls Tryz.prog 112 #[.agg (T.cells h).toArray,.int .i64 p,.int .i64 q] W fun e w'=>e=.returned (.bool (beside T p q))∧Below W.heap.size W w'):=hJJ (fun p q W hb=>PlanW.pbeside_any T h p q W (ht.below hb))
 have LT0:=hJJ (Row.lies_new w (T.cells h).toArray 32)
 have hs1:(w.alloc (.cells (T.cells h).toArray 32)).heap.size=w.heap.size+1:=by simp
 have AR:Hid (abreast T s=(SetM.list s).all (besAll T s)):=hJJ rfl
 clear ht
 generalize T.cells h=c at *
 refine (callsIn_wide (n:=6)).1 ?_
 refine callsIn_of_wp_marks Tryz.func117 rfl trivial ?_ rfl
 simp only [Tryz.ntmps117,List.size_toArray,List.length_cons,List.length_nil,Nat.reduceAdd,Nat.reduceSub,Array.replicate_succ,Array.replicate_zero,List.push_toArray,List.append_toArray,List.nil_append,List.cons_append]
 gi_wp2_with fail
 refine ⟨trivial,(Each.each_in _ _ _).mono ?_⟩
 rintro e w' ⟨rfl,rfl⟩
 gi_wp2_with fail
 obtain ⟨W0,hW0,E1,E0,EB,bS,bR,bE⟩:=laid4 w (.cells c.toArray 32) (.cells #[.int .i64 s] 3) (.cells #[.bool false] 4) (.cells #[.int .i64 s] 3)
 rw [hW0]
 have LT:=hJJ (LT0.out.below (by rw [hs1];exact EB))
 clear hW0 EB hs1 hsz LT0
 have bS:Boxed W0 (w.heap.size+1) 3 (.int .i64 s):=bS
 have bR:Boxed W0 (w.heap.size+1+1) 4 (.bool false):=bR
 have bE:Boxed W0 (w.heap.size+1+1+1) 3 (.int .i64 s):=bE
 refine wpIn_rangeFunc_ownH rfl (by omega) (gf:=127) (lb:=#[.pointer (some ⟨w.heap.size+1+1+1,0,none⟩)]) rfl trivial (enters_of Tryz.func127 (by kernel_rfl) rfl)
  (each_mem _ (by omega) (w.heap.size+1+1+1) s W0 (by omega) bE.cell) Kept.trans (kept_b (by omega)) (Below.refl _ _) (fun _=>rfl)
  (fun pre W=>(∀ y ∈ pre,besAll T s y.1=true)∧Below W0.heap.size W0 W)
  (fun c pre W=>(c=.ret∧(∃ y ∈ pre,besAll T s y.1=false)∧W.heap[w.heap.size+1+1]?=some (.cells #[.bool false] 4 (0,0)))∧W0.grownBy W (some (w.heap.size+1+1)))
  (OwnFrom.and (ownFrom_pure _ _) (ownFrom_below (Nat.le_refl _) (Nat.le_refl _)))
  ?own ⟨by simp,Below.refl _ _⟩
  (fun x a' W=>∃ Bx,W0.heap.size≤Bx∧Boxed W Bx 3 (.int .i64 x.1)∧a'={ tmps:=#[.agg c.toArray,.int .i64 s,.pointer (some ⟨w.heap.size,0,none⟩),.pointer (some ⟨w.heap.size+1,0,none⟩),.pointer (some ⟨w.heap.size+1+1,0,none⟩),.pointer (some ⟨Bx,0,none⟩),undef,.int .i64 s,.func (.func 127) #[] #[.pointer (some ⟨w.heap.size+1+1+1,0,none⟩)],.int .i64 x.1,undef,undef,undef,undef,undef,undef,undef,undef,undef,undef],defers:=[] })
  (fun x a' _ X Y row hs hg hr=>by obtain ⟨Bx,e1,e2,e3⟩:=hs;exact ⟨Bx,e1,boxed_own Bx 3 (fun (_:Unit)=>Value.int .i64 x.1) () X Y row e2 hg (fun r e=>(hr r e).2),e3⟩)
  ?assign ?body ?done ?stop
 case own =>
  rintro c pre W W' row ⟨⟨h1,h2,h5⟩,hg⟩ hgr hr
  have hlt:w.heap.size+1+1 < W.heap.size:=(Array.getElem?_eq_some_iff.1 h5).1
  exact ⟨⟨h1,h2,(hgr.block _ hlt (fun e=>by have:=(hr _ e.symm).1;omega)).trans h5⟩,grown_from hg hgr (fun r e=>(hr r e).1)⟩
 case assign =>
  rintro l pre x W K ⟨hp,hB⟩ hK
  gi_wp2
  exact hK _ _ ((KeepsOthers.alloc _ _).from _) (Kept.below ((Below.refl W.heap.size W).alloc (Nat.le_refl _) _) (by have:=hB.size;omega)) ⟨hp,hB.alloc hB.size _⟩ ⟨W.heap.size,hB.size,Boxed.new W 3 _,rfl⟩
 case body =>
  rintro l pre ⟨x,hx⟩ a' W hl ⟨r,hr⟩ ⟨hp,hB⟩ ⟨Bx,hBx,bX,rfl⟩ hlt
  have cX:=bX.cell
  have cS:=(Boxed.cell (show Boxed W (w.heap.size+1) 3 (.int .i64 s) from (hB.block _ (by omega)).trans bS))
  gi_wp2_with (first | (refine ⟨trivial,?_⟩;gi_at_call 141;refine (CallsIn.inRound l (callsIn_wide.2 (without_any _ _ _))).mono ?_;rintro e w' ⟨rfl,rfl⟩) | (refine ⟨trivial,?_⟩;gi_at_call 104;refine (CallsIn.inRound l (Each.each_in _ _ _)).mono ?_;rintro e w' ⟨rfl,rfl⟩))
  have bN:=Boxed.new W 3 (.int .i64 (SetM.withoutN s x:Nat))
  have hr':(W.alloc (.cells #[.int .i64 (SetM.withoutN s x:Nat)] 3)).heap[l]?=some (.loop r):=(Below.heap_alloc W _ l (Array.getElem?_eq_some_iff.1 hr).1).trans hr
  have hb5:Below W.heap.size W (W.alloc (.cells #[.int .i64 (SetM.withoutN s x:Nat)] 3)):=(Below.refl _ W).alloc (Nat.le_refl _) _
  have hs5:(W.alloc (.cells #[.int .i64 (SetM.withoutN s x:Nat)] 3)).heap.size=W.heap.size+1:=by simp
  have bX5:Boxed (W.alloc (.cells #[.int .i64 (SetM.withoutN s x:Nat)] 3)) Bx 3 (.int .i64 x):=bX.alloc _
  have hBs:=hB.size
  generalize W.alloc (.cells #[.int .i64 (SetM.withoutN s x:Nat)] 3)=W5 at *
  have LT5:=hJJ (LT.out.below (hB.trans (hb5.mono hB.size)))
  have C5:Hid (Below w.heap.size w W5):=hJJ (E0.trans ((hB.trans (hb5.mono hB.size)).mono (by omega)))
  have bR5:Boxed W5 (w.heap.size+1+1) 4 (.bool false):=(hb5.block _ (by omega)).trans ((hB.block _ (by omega)).trans bR)
  refine wpIn_rangeFunc_ownN (l₀:=l) (r₀:=r) rfl hr' (by omega) (gf:=127) (lb:=#[.pointer (some ⟨W.heap.size,0,none⟩)]) rfl trivial (enters_of Tryz.func127 (by kernel_rfl) rfl)
   ((each_mem _ (by omega) W.heap.size (SetM.withoutN s x:Nat) W5 (by omega) bN.cell).inRound l) Kept.trans (kept_b (by omega)) (Below.refl _ _) (fun _=>rfl)
   (fun pre' W'=>(∀ z ∈ pre',beside T x z.1=true)∧Below W5.heap.size W5 W')
   (fun c pre' W'=>(c=.ret∧(∃ z ∈ pre',beside T x z.1=false)∧W'.heap[w.heap.size+1+1]?=some (.cells #[.bool false] 4 (0,0)))∧W5.grownBy W' (some (w.heap.size+1+1)))
   (OwnFrom.and (ownFrom_pure _ _) (ownFrom_below (Nat.le_refl _) (Nat.le_refl _)))
   ?own2 ⟨by simp,Below.refl _ _⟩
   (fun z a'' _=>a''={ tmps:=#[.agg c.toArray,.int .i64 s,.pointer (some ⟨w.heap.size,0,none⟩),.pointer (some ⟨w.heap.size+1,0,none⟩),.pointer (some ⟨w.heap.size+1+1,0,none⟩),.pointer (some ⟨Bx,0,none⟩),.int .i64 z.1,.int .i64 s,.func (.func 127) #[] #[.pointer (some ⟨w.heap.size+1+1+1,0,none⟩)],.int .i64 x,.int .i64 s,.int .i64 x,.int .i64 (SetM.withoutN s x:Nat),.func (.func 127) #[] #[.pointer (some ⟨W.heap.size,0,none⟩)],.int .i64 z.1,undef,undef,undef,undef,undef],defers:=[] })
   (fun _ _ _ _ _ _ hs _ _=>hs)
   ?assign2 ?body2 ?done2 ?stop2
  case own2 =>
   rintro c pre' W' W'' row ⟨⟨h1,h2,h5⟩,hg⟩ hgr hr
   have hlt':w.heap.size+1+1 < W'.heap.size:=(Array.getElem?_eq_some_iff.1 h5).1
   exact ⟨⟨h1,h2,(hgr.block _ hlt' (fun e=>by have:=(hr _ e.symm).1;omega)).trans h5⟩,grown_from hg hgr (fun r e=>(hr r e).1)⟩
  case assign2 =>
   rintro l2 pre' z W' K hi hK
   gi_wp2
   exact hK _ _ (KeepsFrom.refl _ _) rfl hi rfl
  case body2 =>
   rintro l2 pre' ⟨z,hz⟩ a'' W' _ _ ⟨hp2,hB2⟩ rfl hlt2
   have LTW:=hJJ (LT5.out.below hB2)
   have BW:Hid (Below w.heap.size w W'):=hJJ (C5.out.trans (hB2.mono C5.out.size))
   have cX':=(Boxed.cell (show Boxed W' Bx 3 (.int .i64 x) from (hB2.block _ (by have:=bX5.lt;omega)).trans bX5))
   have bRW:Boxed W' (w.heap.size+1+1) 4 (.bool false):=(hB2.block _ (by omega)).trans bR5
   have BRW:=hJJ bRW
   refine wpIn_block (wpIn_seq ?_)
   refine Up.region_list (fun ⟨_,_,h⟩=>h) (by kernel_rfl) ?_
   go_wp2_with (refine lgZ 32 ⟨w.heap.size,0,none⟩ c rfl LTW.out Tryz.underlying32 IA.out ?_)
   refine (BS.out x z _ BW.out).mono ?_
   rintro e W6 ⟨rfl,hb6⟩
   have bR6:Boxed W6 (w.heap.size+1+1) 4 (.bool false):=(hb6.block _ bRW.lt).trans bRW
   have hc:=bR6.cell
   have hf:=bR6.frozen
   have H6:=hJJ hb6
   have HB2:=hJJ hB2
   clear hb6 bRW cX' hB2
   cases hbs:beside T x z with
   | true =>
    have HS:=hJJ hbs
    clear hbs
    go_wp2_with fail
    gi_wp2
    refine ⟨keeps_below H6.out,Kept.below H6.out (by have:=HB2.out.size;omega),?_,HB2.out.trans (H6.out.mono HB2.out.size)⟩
    intro y hy
    rcases List.mem_append.1 hy with hy | hy
    ·exact hp2 y hy
    ·obtain rfl:y=⟨z,hz⟩:=by simpa using hy
     exact HS.out
   | false =>
    have HS:=hJJ hbs
    clear hbs
    go_wp2_with fail
    gi_wp2
    exact ⟨KeepsFrom.of_grownBy (grown_trans (grown_of_below H6.out) (grownBy_setCell' _ _ _)) (fun j e=>by cases e;omega),⟨rfl,⟨⟨z,hz⟩,by simp,HS.out⟩,bR6.set (.bool false)⟩,grown_trans (grown_trans (grown_of_below (HB2.out.mono (Nat.le_refl _))) (grown_of_below H6.out)) (grownBy_setCell' _ _ _)⟩
  case done2 =>
   rintro ys W' hS ⟨hp2,hB2⟩
   have HW:Hid (Below W.heap.size W W'):=hJJ (hb5.trans (hB2.mono hb5.size))
   have HA:Hid (besAll T s x=true):=hJJ (by
    unfold besAll;rw [← hS,List.all_eq_true];intro y hy
    obtain ⟨z,hz,rfl⟩:=List.mem_map.1 hy
    exact hp2 z hz)
   clear hB2
   gi_wp2
   refine ⟨keeps_below HW.out,Kept.below HW.out (by omega),?_,hB.trans (HW.out.mono hB.size)⟩
   intro y hy
   rcases List.mem_append.1 hy with hy | hy
   ·exact hp y hy
   ·obtain rfl:y=⟨x,hx⟩:=by simpa using hy
    exact HA.out
  case stop2 =>
   rintro c pre' W' hpre ⟨⟨rfl,⟨z,hz,hzb⟩,hR⟩,hg⟩
   have HG:Hid (W.grownBy W' (some (w.heap.size+1+1))):=hJJ (grown_trans (grown_of_below hb5) hg)
   have HA:Hid (besAll T s x=false):=hJJ (by
    unfold besAll;rw [List.all_eq_false];exact ⟨z.1,z.2,by simp [hzb]⟩)
   have HRR:=hJJ hR
   clear hg hR
   gi_wp2
   exact ⟨KeepsFrom.of_grownBy HG.out (fun j e=>by cases e;omega),⟨rfl,⟨⟨x,hx⟩,by simp,HA.out⟩,HRR.out⟩,grown_trans (grown_of_below (hB.mono (Nat.le_refl _))) HG.out⟩
 case done =>
  rintro D ys W hD hS ⟨hp,hB⟩ hK
  have hv:Boxed W (w.heap.size+1+1) 4 (.bool false):=(hB.block _ (by omega)).trans bR
  have hc:=hv.cell
  have hf:=hv.frozen
  have HR:Hid (abreast T s=true):=hJJ (by
   rw [AR.out,← hS,List.all_eq_true];intro y hy
   obtain ⟨z,hz,rfl⟩:=List.mem_map.1 hy
   exact hp z hz)
  have HB:Hid (Below w.heap.size w W):=hJJ (E0.trans (hB.mono (by omega)))
  clear hB
  gi_wp2
  have hv2:=hv.set (.bool true)
  have hK':=(KeepsOthers.setCell W ⟨w.heap.size+1+1,0,none⟩ (.bool true)).same D _ hK rfl
  refine ⟨by simp,.inl ⟨_,_,rfl,run_takeDeferred hK',?_⟩⟩
  have hc5:=cell_kept hv2.cell (grownBy_putObj' _ D (.deferred none)) (fun r e=>by cases e;exact ⟨_,hK',rfl⟩)
  refine ⟨.bool true,?_,by rw [HR.out],(HB.out.setCell (p:=⟨w.heap.size+1+1,0,none⟩) (by simp;omega) _).trans (belowK_b (w:=w) (Nat.le_refl _) _ D _ _ (by omega) hK' rfl rfl)⟩
  simp [results,Tryz.f117,go_sem,hc5]
 case stop =>
  rintro D c pre W hD hpre ⟨⟨rfl,⟨z,hz,hzb⟩,hR⟩,hg⟩ hK
  have HR:Hid (abreast T s=false):=hJJ (by rw [AR.out,List.all_eq_false];exact ⟨z.1,z.2,by simp [hzb]⟩)
  have hv:Boxed W (w.heap.size+1+1) 4 (.bool false):=hR
  have HB:Hid (Below w.heap.size w W):=hJJ (E0.grown hg (by omega) (fun k e=>by cases e;omega))
  clear hg
  gi_wp2
  refine ⟨by simp,.inl ⟨_,_,rfl,run_takeDeferred hK,?_⟩⟩
  have hc5:=cell_kept hv.cell (grownBy_putObj' _ D (.deferred none)) (fun r e=>by cases e;exact ⟨_,hK,rfl⟩)
  refine ⟨.bool false,?_,by rw [HR.out],HB.out.trans (belowK_b (w:=w) (Nat.le_refl _) W D _ _ (by omega) hK rfl rfl)⟩
  simp [results,Tryz.f117,go_sem,hc5]
end ChkN
namespace ChkR
open Zip
open Go.ChangeShapes Go.WideShapes Go.ChangeAt Go.RowKit
open Tab PlaceM PlanM OnS ChkM ChkA
open ChkB (laid2)
open May (ret_bool infoT infoR)
theorem badRail_any (T:Tab) (h:Hd) (r:Rl) (w:World) (ht:IsTab w h T) :
  Calls Tryz.prog 83 #[.agg (T.cells h).toArray,.agg r.cells.toArray] w fun e w'=>e=.returned (.bool (railBad T r))∧Below w.heap.size w w':=by
 have hsz:=(cells_ok ht).size
 have IA:Hid ((Tryz.prog.info? 32).map (·.size)=some (T.cells h).length):=hJJ (by rw [List.size_toArray] at hsz;rw [hsz];exact infoT)
 have AO:Hid (∀ W,Below w.heap.size w W→Calls Tryz.prog 115 #[.agg (T.cells h).toArray,.int .i64 (or4 r)] W fun e w'=>e=.returned (.bool (allOn T (or4 r)))∧Below W.heap.size W w'):=hJJ (fun W hb=>allOn_any T h _ W (ht.below hb))
 have CL:Hid (∀ s W,Below w.heap.size w W→Calls Tryz.prog 116 #[.agg (T.cells h).toArray,.int .i64 s] W fun e w'=>e=.returned (.bool (clashC T s))∧Below W.heap.size W w'):=hJJ (fun s W hb=>ChkI.clash_any T h s W (ht.below hb))
 have AB:Hid (∀ s W,Below w.heap.size w W→Calls Tryz.prog 117 #[.agg (T.cells h).toArray,.int .i64 s] W fun e w'=>e=.returned (.bool (abreast T s))∧Below W.heap.size W w'):=hJJ (fun s W hb=>ChkN.abreast_any T h s W (ht.below hb))
 have BT:Hid (∀ W,Calls Tryz.prog 118 #[.agg r.cells.toArray] W fun e w'=>e=.returned (.bool (timesBad r))∧Below W.heap.size W w'):=hJJ (fun W=>badTimes_any r W)
 obtain ⟨x,hx⟩:∃ x,x=railBad T r:=⟨_,rfl⟩
 rw [← hx]
 have HR:Hid (x=(!allOn T (or4 r) || (r.dwell == 0 || (r.exit == 0 || (bits .and .i64 r.dwell r.bars != 0 || (clashC T r.clear || (clashC T r.dwell || (clashC T r.exit || (!abreast T r.exit || timesBad r))))))))):=hJJ hx
 have LT0:=hJJ (Row.lies_new w (T.cells h).toArray 32)
 have hs1:(w.alloc (.cells (T.cells h).toArray 32)).heap.size=w.heap.size+1:=by simp
 have IR:Hid ((Tryz.prog.info? 47).map (·.size)=some r.cells.length):=hJJ infoR
 have hone:=Rl.one r
 have hsz2:r.cells.toArray.size=11:=rfl
 have RC:=hJJ (rail_cells r)
 have O4:Hid (bits .or .i64 (bits .or .i64 (bits .or .i64 r.bars r.clear) r.dwell) r.exit=or4 r):=hJJ rfl
 generalize timesBad r=tb at BT HR
 obtain ⟨a1,ha1⟩:∃ z,allOn T (or4 r)=z:=⟨_,rfl⟩
 obtain ⟨c1,hc1⟩:∃ z,clashC T r.clear=z:=⟨_,rfl⟩
 obtain ⟨c2,hc2⟩:∃ z,clashC T r.dwell=z:=⟨_,rfl⟩
 obtain ⟨c3,hc3⟩:∃ z,clashC T r.exit=z:=⟨_,rfl⟩
 obtain ⟨b1,hb1⟩:∃ z,abreast T r.exit=z:=⟨_,rfl⟩
 have CL1:=hJJ (CL.out r.clear)
 have CL2:=hJJ (CL.out r.dwell)
 have CL3:=hJJ (CL.out r.exit)
 have AB1:=hJJ (AB.out r.exit)
 rw [ha1] at AO HR
 rw [hc1] at CL1 HR
 rw [hc2] at CL2 HR
 rw [hc3] at CL3 HR
 rw [hb1] at AB1 HR
 clear hx ht CL AB ha1 hc1 hc2 hc3 hb1
 generalize or4 r=o4 at *
 generalize r.cells=rc at *
 obtain ⟨bars,clear_,dwell,exit,delay,green,foot,hold,stay,most,limit⟩:=r
 dsimp only at *
 generalize T.cells h=c at *
 go_enter Tryz.func83,Tryz.ntmps83
 go_upto_region 1 with fail
 obtain ⟨u,hu,E1,E0,EB,b1'⟩:=laid2 w (.cells c.toArray 32) (.cells rc.toArray 47)
 rw [hu]
 have A0:=hJJ E0
 have A1:=hJJ (LT0.out.below (by rw [hs1];exact EB))
 have A2:Hid (u.heap[w.heap.size+1]?=some (.cells rc.toArray 47 (0,0))):=hJJ b1'
 clear hu EB LT0 b1' hs1 hsz hsz2 hone E0 E1
 obtain ⟨q0,q1,q2,q3,q4,q5,q7,q8,q9,q10⟩:=RC.out _ _ A2.out
 go_wp2_with (refine lgZ 32 ⟨w.heap.size,0,none⟩ c rfl A1.out Tryz.underlying32 IA.out ?_)
 (try go_wp2_with fail)
 rw [O4.out]
 refine (AO.out _ A0.out).mono ?_
 rintro e u1 ⟨rfl,hb⟩
 have A0:Hid (Below w.heap.size w u1):=hJJ (A0.out.trans (hb.mono A0.out.size))
 have A2:Hid (u1.heap[w.heap.size+1]?=some (.cells rc.toArray 47 (0,0))):=hJJ ((hb.block _ (Array.getElem?_eq_some_iff.1 A2.out).1).trans A2.out)
 have A1:=hJJ (A1.out.below hb)
 clear q0 q1 q2 q3 q4 q5 q7 q8 q9 q10
 clear hb
 obtain ⟨q0,q1,q2,q3,q4,q5,q7,q8,q9,q10⟩:=RC.out _ _ A2.out
 cases a1 with
 | false =>
  have HX:Hid (true=x):=hJJ (by rw [HR.out];rfl)
  go_wp2
  go_ret
  exact ⟨ret_bool HX.out,A0.out⟩
 | true =>
  by_cases h1:dwell=0
  ·have HX:Hid (true=x):=hJJ (by rw [HR.out];simp [h1])
   go_wp2
   go_ret
   exact ⟨ret_bool HX.out,A0.out⟩
  by_cases h2:exit=0
  ·have HX:Hid (true=x):=hJJ (by rw [HR.out];simp [h2])
   go_wp2
   go_ret
   exact ⟨ret_bool HX.out,A0.out⟩
  by_cases h3:bits .and .i64 dwell bars=0
  rotate_left
  ·have HX:Hid (true=x):=hJJ (by rw [HR.out];simp [h3])
   go_wp2
   go_ret
   exact ⟨ret_bool HX.out,A0.out⟩
  go_wp2_with (refine lgZ 32 ⟨w.heap.size,0,none⟩ c rfl A1.out Tryz.underlying32 IA.out ?_)
  (try go_wp2_with fail)
  refine (CL1.out _ A0.out).mono ?_
  rintro e u2 ⟨rfl,hb⟩
  have A0:Hid (Below w.heap.size w u2):=hJJ (A0.out.trans (hb.mono A0.out.size))
  have A2:Hid (u2.heap[w.heap.size+1]?=some (.cells rc.toArray 47 (0,0))):=hJJ ((hb.block _ (Array.getElem?_eq_some_iff.1 A2.out).1).trans A2.out)
  have A1:=hJJ (A1.out.below hb)
  clear q0 q1 q2 q3 q4 q5 q7 q8 q9 q10
  clear hb
  obtain ⟨q0,q1,q2,q3,q4,q5,q7,q8,q9,q10⟩:=RC.out _ _ A2.out
  cases c1 with
  | true =>
   have HX:Hid (true=x):=hJJ (by rw [HR.out];simp)
   go_wp2
   go_ret
   exact ⟨ret_bool HX.out,A0.out⟩
  | false =>
   go_wp2_with (refine lgZ 32 ⟨w.heap.size,0,none⟩ c rfl A1.out Tryz.underlying32 IA.out ?_)
   (try go_wp2_with fail)
   refine (CL2.out _ A0.out).mono ?_
   rintro e u3 ⟨rfl,hb⟩
   have A0:Hid (Below w.heap.size w u3):=hJJ (A0.out.trans (hb.mono A0.out.size))
   have A2:Hid (u3.heap[w.heap.size+1]?=some (.cells rc.toArray 47 (0,0))):=hJJ ((hb.block _ (Array.getElem?_eq_some_iff.1 A2.out).1).trans A2.out)
   have A1:=hJJ (A1.out.below hb)
   clear q0 q1 q2 q3 q4 q5 q7 q8 q9 q10
   clear hb
   obtain ⟨q0,q1,q2,q3,q4,q5,q7,q8,q9,q10⟩:=RC.out _ _ A2.out
   cases c2 with
   | true =>
    have HX:Hid (true=x):=hJJ (by rw [HR.out];simp)
    go_wp2
    go_ret
    exact ⟨ret_bool HX.out,A0.out⟩
   | false =>
    go_wp2_with (refine lgZ 32 ⟨w.heap.size,0,none⟩ c rfl A1.out Tryz.underlying32 IA.out ?_)
    (try go_wp2_with fail)
    refine (CL3.out _ A0.out).mono ?_
    rintro e u4 ⟨rfl,hb⟩
    have A0:Hid (Below w.heap.size w u4):=hJJ (A0.out.trans (hb.mono A0.out.size))
    have A2:Hid (u4.heap[w.heap.size+1]?=some (.cells rc.toArray 47 (0,0))):=hJJ ((hb.block _ (Array.getElem?_eq_some_iff.1 A2.out).1).trans A2.out)
    have A1:=hJJ (A1.out.below hb)
    clear q0 q1 q2 q3 q4 q5 q7 q8 q9 q10
    clear hb
    obtain ⟨q0,q1,q2,q3,q4,q5,q7,q8,q9,q10⟩:=RC.out _ _ A2.out
    cases c3 with
    | true =>
     have HX:Hid (true=x):=hJJ (by rw [HR.out];simp)
     go_wp2
     go_ret
     exact ⟨ret_bool HX.out,A0.out⟩
    | false =>
     go_wp2_with (refine lgZ 32 ⟨w.heap.size,0,none⟩ c rfl A1.out Tryz.underlying32 IA.out ?_)
     (try go_wp2_with fail)
     refine (AB1.out _ A0.out).mono ?_
     rintro e u5 ⟨rfl,hb⟩
     have A0:Hid (Below w.heap.size w u5):=hJJ (A0.out.trans (hb.mono A0.out.size))
     have A2:Hid (u5.heap[w.heap.size+1]?=some (.cells rc.toArray 47 (0,0))):=hJJ ((hb.block _ (Array.getElem?_eq_some_iff.1 A2.out).1).trans A2.out)
     have A1:=hJJ (A1.out.below hb)
     clear q0 q1 q2 q3 q4 q5 q7 q8 q9 q10
     clear hb
     obtain ⟨q0,q1,q2,q3,q4,q5,q7,q8,q9,q10⟩:=RC.out _ _ A2.out
     cases b1 with
     | false =>
      have HX:Hid (true=x):=hJJ (by rw [HR.out];simp)
      go_wp2
      go_ret
      exact ⟨ret_bool HX.out,A0.out⟩
     | true =>
      have LR:Hid (Lies u5 ⟨w.heap.size+1,0,none⟩ rc):=hJJ (by have:=Row.lies_of_block A2.out;simpa using this)
      go_wp2_with (refine lgZ 47 ⟨w.heap.size+1,0,none⟩ rc rfl LR.out Tryz.underlying47 IR.out ?_)
      (try go_wp2_with fail)
      refine (BT.out _).mono ?_
      rintro e uz ⟨rfl,hb⟩
      have EZ:=hJJ (A0.out.trans (hb.mono A0.out.size))
      clear hb
      have HX:Hid (x=tb):=hJJ (by rw [HR.out,beq_eq_false_iff_ne.2 h1,beq_eq_false_iff_ne.2 h2,h3];rfl)
      go_wp2
      go_ret
      refine ⟨ret_bool ?_,EZ.out⟩
      first | exact HX.out.symm | (rw [HX.out,beq_eq_false_iff_ne.2 h1,beq_eq_false_iff_ne.2 h2];rfl)
end ChkR
namespace ChkK
open Zip
open Go.ChangeShapes Go.WideShapes Go.ChangeAt Go.RowKit
open Tab PlaceM PlanM OnS ChkM ChkA ChkH ChkQ
open ChkB (laid2)
open Same (below_setRow Eqs eqs_of)
open Flat
open May (ret_bool infoT tabMay)
theorem lerr (a b:Int):LeafEq Tryz.prog 35 (I a,I b):=leaf_int Tryz.underlying35 a b
theorem flatFt:flat Tryz.prog 3 37=some [35,3]:=by kernel_rfl
theorem guardF:Tryz.prog.eqGuardType Tryz.prog.depth 37=false:=by kernel_rfl
theorem fault_eqs (a b c d:Int):Eqs 37 [I a,I b] [I c,I d] (decide (a=c∧b=d)):=by
 refine eqs_of flatFt (by decide) (by kernel_rfl) [(I a,I c),(I b,I d)] ⟨lerr _ _,Same.lint _ _,trivial⟩ rfl rfl ?_
 simp
theorem ranges_any (T:Tab) (h:Hd) (w:World) (ht:IsTab w h T) :
  Calls Tryz.prog 73 #[.agg (T.cells h).toArray] w fun e w'=>e=.returned (.agg (fltC 4 (mayF T)))∧Below w.heap.size w w':=by
 have hsz:=(cells_ok ht).size
 have IA:Hid ((Tryz.prog.info? 32).map (·.size)=some (T.cells h).length):=hJJ (by rw [List.size_toArray] at hsz;rw [hsz];exact infoT)
 have MY:Hid (∀ W,Below w.heap.size w W→Calls Tryz.prog 108 #[.agg (T.cells h).toArray] W fun e w'=>e=.returned (.bool (tabMay T))∧Below W.heap.size W w'):=hJJ (fun W hb=>May.may_any T h W (ht.below hb))
 have LT0:=hJJ (Row.lies_new w (T.cells h).toArray 32)
 have hs1:(w.alloc (.cells (T.cells h).toArray 32)).heap.size=w.heap.size+1:=by simp
 have MF:Hid (mayF T=if tabMay T then none else some 0):=hJJ rfl
 generalize mayF T=o at MF ⊢
 generalize tabMay T=b at MF MY
 clear ht
 generalize T.cells h=c at *
 go_enter Tryz.func73,Tryz.ntmps73
 go_upto_region 1 with fail
 obtain ⟨W1,hW1,E1,E0,EB,bR⟩:=laid2 w (.cells c.toArray 32) (.cells #[.int .i64 0,.int .i64 0] 37)
 rw [hW1]
 have LT:=hJJ (LT0.out.below (by rw [hs1];exact EB))
 have B0:=hJJ E0
 clear hW1 EB hs1 hsz LT0 E0 E1
 go_wp2_with (refine lgZ 32 ⟨w.heap.size,0,none⟩ c rfl LT.out Tryz.underlying32 IA.out ?_)
 (try go_wp2_with fail)
 refine (MY.out _ B0.out).mono ?_
 rintro e u1 ⟨rfl,hb⟩
 have C0:Hid (Below w.heap.size w u1):=hJJ (B0.out.trans (hb.mono B0.out.size))
 have C2:Hid (u1.heap[w.heap.size+1]?=some (.cells #[.int .i64 0,.int .i64 0] 37 (0,0))):=hJJ ((hb.block _ (Array.getElem?_eq_some_iff.1 bR).1).trans bR)
 clear hb bR B0
 cases b with
 | true =>
  have RO:Hid (o=none):=hJJ (by rw [MF.out];rfl)
  have HW:=hJJ (below_setRow C0.out (g:=w.heap.size+1) (by omega) #[.int .i64 0,.int .i64 0])
  have HK:=hJJ (setRow_heap u1 (w.heap.size+1) _ #[.int .i64 0,.int .i64 0] _ _ C2.out)
  go_wp2_with (first | (refine wpList_store_row rfl 37 _ _ rfl (w.heap.size+1) #[.int .i64 0,.int .i64 0] rfl rfl 37 _ C2.out infoF rfl (by simp [Value.oneCell']) ?_))
  generalize u1.setRow (w.heap.size+1) #[.int .i64 0,.int .i64 0]=uz at HW HK ⊢
  (try go_wp2_with fail)
  (try simp only [Exit.inBlock,Exit.then])
  refine bodyPost_ret (v:=.agg #[.int .i64 0,.int .i64 0]) ?_ rfl ⟨by rw [RO.out];rfl,HW.out⟩
  exact results_cell_row rfl _ _ (w.heap.size+1) 37 _ (0,0) _ rfl HK.out Tryz.underlying37 rfl infoF
 | false =>
  have RO:Hid (o=some 0):=hJJ (by rw [MF.out];rfl)
  have HW:=hJJ (below_setRow C0.out (g:=w.heap.size+1) (by omega) #[.int .i64 4,.int .i64 0])
  have HK:=hJJ (setRow_heap u1 (w.heap.size+1) _ #[.int .i64 4,.int .i64 0] _ _ C2.out)
  go_wp2_with (first | (refine wpList_store_row rfl 37 _ _ rfl (w.heap.size+1) #[.int .i64 4,.int .i64 0] rfl rfl 37 _ C2.out infoF rfl (by simp [Value.oneCell']) ?_))
  generalize u1.setRow (w.heap.size+1) #[.int .i64 4,.int .i64 0]=uz at HW HK ⊢
  (try go_wp2_with fail)
  (try simp only [Exit.inBlock,Exit.then])
  refine bodyPost_ret (v:=.agg #[.int .i64 4,.int .i64 0]) ?_ rfl ⟨by rw [RO.out];rfl,HW.out⟩
  exact results_cell_row rfl _ _ (w.heap.size+1) 37 _ (0,0) _ rfl HK.out Tryz.underlying37 rfl infoF
theorem det_ok {T:Tab} {d:Det} (h:tabMay T=true) (hd:d ∈ T.dets):Fl.isn d.on=false∧Fl.isn d.off=false∧0≤d.phase∧d.phase < 8:=by
 have h1:May.Det.may d=true:=by
  unfold tabMay at h
  simp only [Bool.and_eq_true] at h
  have h2:May.listMay 16 May.Det.may T.dets=true:=by simp [h]
  unfold May.listMay at h2
  rw [Bool.and_eq_true,List.all_eq_true] at h2
  exact h2.2 d hd
 unfold May.Det.may MayF.level May.allIn May.inB at h1
 simp only [Bool.and_eq_true,List.all_cons,List.all_nil,Bool.and_true,decide_eq_true_eq,Bool.not_eq_true'] at h1
 obtain ⟨⟨h2,h3⟩,⟨⟨h4,_⟩,_⟩,⟨⟨h5,_⟩,_⟩,_⟩:=h1
 exact ⟨h4,h5,h2,by omega⟩
theorem none_may {T:Tab} (h:mayF T=none):tabMay T=true:=by
 unfold mayF at h
 cases hm:tabMay T with
 | true=>rfl
 | false=>rw [hm] at h;simp at h
theorem idx8_0 (v0 v1 v2 v3 v4 v5 v6 v7:Value) (w:World):Sem.run Tryz.prog (Instr.index 80 (.agg #[v0,v1,v2,v3,v4,v5,v6,v7]) (.int .i64 0)) w=.ok v0 w:=by kernel_rfl
theorem idx8_1 (v0 v1 v2 v3 v4 v5 v6 v7:Value) (w:World):Sem.run Tryz.prog (Instr.index 80 (.agg #[v0,v1,v2,v3,v4,v5,v6,v7]) (.int .i64 1)) w=.ok v1 w:=by kernel_rfl
theorem idx8_2 (v0 v1 v2 v3 v4 v5 v6 v7:Value) (w:World):Sem.run Tryz.prog (Instr.index 80 (.agg #[v0,v1,v2,v3,v4,v5,v6,v7]) (.int .i64 2)) w=.ok v2 w:=by kernel_rfl
theorem idx8_3 (v0 v1 v2 v3 v4 v5 v6 v7:Value) (w:World):Sem.run Tryz.prog (Instr.index 80 (.agg #[v0,v1,v2,v3,v4,v5,v6,v7]) (.int .i64 3)) w=.ok v3 w:=by kernel_rfl
theorem idx8_4 (v0 v1 v2 v3 v4 v5 v6 v7:Value) (w:World):Sem.run Tryz.prog (Instr.index 80 (.agg #[v0,v1,v2,v3,v4,v5,v6,v7]) (.int .i64 4)) w=.ok v4 w:=by kernel_rfl
theorem idx8_5 (v0 v1 v2 v3 v4 v5 v6 v7:Value) (w:World):Sem.run Tryz.prog (Instr.index 80 (.agg #[v0,v1,v2,v3,v4,v5,v6,v7]) (.int .i64 5)) w=.ok v5 w:=by kernel_rfl
theorem idx8_6 (v0 v1 v2 v3 v4 v5 v6 v7:Value) (w:World):Sem.run Tryz.prog (Instr.index 80 (.agg #[v0,v1,v2,v3,v4,v5,v6,v7]) (.int .i64 6)) w=.ok v6 w:=by kernel_rfl
theorem idx8_7 (v0 v1 v2 v3 v4 v5 v6 v7:Value) (w:World):Sem.run Tryz.prog (Instr.index 80 (.agg #[v0,v1,v2,v3,v4,v5,v6,v7]) (.int .i64 7)) w=.ok v7 w:=by kernel_rfl
theorem check_any (T:Tab) (h:Hd) (w:World) (ht:IsTab w h T) :
  Calls Tryz.prog 14 #[.agg (T.cells h).toArray] w fun e w'=>e=.returned (.agg (fcells (chkC T)))∧Below w.heap.size w w':=by
 have hsz:=(cells_ok ht).size
 have IA:Hid ((Tryz.prog.info? 32).map (·.size)=some (T.cells h).length):=hJJ (by rw [List.size_toArray] at hsz;rw [hsz];exact infoT)
 have LT0:=hJJ (Row.lies_new w (T.cells h).toArray 32)
 have hs1:(w.alloc (.cells (T.cells h).toArray 32)).heap.size=w.heap.size+1:=by simp
 have RU0:Hid (∀ n W,Below w.heap.size w W→Lie n W→Calls Tryz.prog 73 #[.agg (T.cells h).toArray] W fun e w'=>e=.returned (.agg (fltC 4 (mayF T)))∧Below W.heap.size W w'):=hJJ (fun n W hb hl=>ranges_any T h W (ht.below hb))
 have RU1:Hid (∀ n W,Below w.heap.size w W→Lie n W→Calls Tryz.prog 109 #[.agg (T.cells h).toArray,.pointer (some ⟨n+1+1,0,none⟩),.pointer (some ⟨n+1,0,none⟩)] W fun e w'=>e=.returned (.agg (fltC 7 ((ons T).find? fun p=>phBad (phAt T p))))∧Below W.heap.size W w'):=hJJ (fun n W hb hl=>ChkP.phases_P T h 7 (n+1+1) (n+1) (fun p=>phBad (phAt T p)) W (ht.below hb) hl.c2 hl.c1 (fun k W' hk hb'=>ChkB.badPhase_any T h k hk W' ((ht.below hb).below hb')))
 have RU2:Hid (∀ n W,Below w.heap.size w W→Lie n W→Calls Tryz.prog 76 #[.agg (T.cells h).toArray] W fun e w'=>e=.returned (.agg (fltC 8 (ringsC T)))∧Below W.heap.size W w'):=hJJ (fun n W hb hl=>by have:=rings_any T h W (ht.below hb);rwa [flt_agg] at this)
 have RU3:Hid (∀ n W,Below w.heap.size w W→Lie n W→Calls Tryz.prog 109 #[.agg (T.cells h).toArray,.pointer (some ⟨n+3+1,0,none⟩),.pointer (some ⟨n+3,0,none⟩)] W fun e w'=>e=.returned (.agg (fltC 9 ((ons T).find? (confBad T))))∧Below W.heap.size W w'):=hJJ (fun n W hb hl=>ChkP.phases_C T h 9 (n+3+1) (n+3) (confBad T) W (ht.below hb) hl.c4 hl.c3 (fun k W' hk hb'=>ChkJ.badConflict_any T h k hk W' ((ht.below hb).below hb')))
 have RU4:Hid (mayF T=none→∀ n W,Below w.heap.size w W→Lie n W→Calls Tryz.prog 113 #[.agg (T.cells h).toArray,.pointer (some ⟨n+5+1,0,none⟩),.pointer (some ⟨n+5+1+1,0,none⟩),.pointer (some ⟨n+5,0,none⟩)] W fun e w'=>e=.returned (.agg (fltC 10 (idx (detBad T) T.dets)))∧Below W.heap.size W w'):=hJJ (fun hm0=>have hm:=none_may hm0;fun n W hb hl=>ChkE.elem_D T h 10 (n+5+1) (n+5+1+1) (n+5) (detBad T) W (ht.below hb) hl.c6 hl.c7 hl.c5 (fun v W' hv hb'=>ChkB.badDetector_any T h v W' ((ht.below hb).below hb') (det_ok hm hv).1 (det_ok hm hv).2.1 (det_ok hm hv).2.2))
 have RU5:Hid (∀ n W,Below w.heap.size w W→Lie n W→Calls Tryz.prog 114 #[.agg (T.cells h).toArray,.pointer (some ⟨n+8+1,0,none⟩),.pointer (some ⟨n+8+1+1,0,none⟩),.pointer (some ⟨n+8,0,none⟩)] W fun e w'=>e=.returned (.agg (fltC 11 (idx (railBad T) T.rails)))∧Below W.heap.size W w'):=hJJ (fun n W hb hl=>ChkE.elem_R T h 11 (n+8+1) (n+8+1+1) (n+8) (railBad T) W (ht.below hb) hl.c9 hl.c10 hl.c8 (fun v W' hv hb'=>ChkR.badRail_any T h v W' ((ht.below hb).below hb')))
 have RU6:Hid (∀ n W,Below w.heap.size w W→Lie n W→Calls Tryz.prog 119 #[.agg (T.cells h).toArray,.pointer (some ⟨n+11+1,0,none⟩),.pointer (some ⟨n+11+1+1,0,none⟩),.pointer (some ⟨n+11,0,none⟩)] W fun e w'=>e=.returned (.agg (fltC 12 (idx (busBad T) T.buses)))∧Below W.heap.size W w'):=hJJ (fun n W hb hl=>ChkE.elem_B T h 12 (n+11+1) (n+11+1+1) (n+11) (busBad T) W (ht.below hb) hl.c12 hl.c13 hl.c11 (fun v W' hv hb'=>ChkB.badBus_any T h v W' ((ht.below hb).below hb')))
 have RU7:Hid (∀ n W,Below w.heap.size w W→Lie n W→Calls Tryz.prog 109 #[.agg (T.cells h).toArray,.pointer (some ⟨n+14+1,0,none⟩),.pointer (some ⟨n+14,0,none⟩)] W fun e w'=>e=.returned (.agg (fltC 13 ((ons T).find? (flashBad T))))∧Below W.heap.size W w'):=hJJ (fun n W hb hl=>ChkP.phases_F T h 13 (n+14+1) (n+14) (flashBad T) W (ht.below hb) hl.c15 hl.c14 (fun k W' hk hb'=>ChkY.badFlash_any T h k hk W' ((ht.below hb).below hb')))
 obtain ⟨o0,ho0⟩:∃ z,(mayF T)=z:=⟨_,rfl⟩
 obtain ⟨o1,ho1⟩:∃ z,((ons T).find? fun p=>phBad (phAt T p))=z:=⟨_,rfl⟩
 obtain ⟨o2,ho2⟩:∃ z,(ringsC T)=z:=⟨_,rfl⟩
 obtain ⟨o3,ho3⟩:∃ z,((ons T).find? (confBad T))=z:=⟨_,rfl⟩
 obtain ⟨o4,ho4⟩:∃ z,(idx (detBad T) T.dets)=z:=⟨_,rfl⟩
 obtain ⟨o5,ho5⟩:∃ z,(idx (railBad T) T.rails)=z:=⟨_,rfl⟩
 obtain ⟨o6,ho6⟩:∃ z,(idx (busBad T) T.buses)=z:=⟨_,rfl⟩
 obtain ⟨o7,ho7⟩:∃ z,((ons T).find? (flashBad T))=z:=⟨_,rfl⟩
 obtain ⟨l,hl⟩:∃ z,z=rulesC T:=⟨_,rfl⟩
 have CK:Hid (chkC T=firstF l):=hJJ (by rw [hl];rfl)
 unfold rulesC at hl
 rw [ho0,ho1,ho2,ho3,ho4,ho5,ho6,ho7] at hl
 rw [ho0] at RU0
 rw [ho1] at RU1
 rw [ho2] at RU2
 rw [ho3] at RU3
 rw [ho4] at RU4
 rw [ho5] at RU5
 rw [ho6] at RU6
 rw [ho7] at RU7
 rw [ho0] at RU4
 have LL0:Hid (l[0]?=some (4,o0)):=hJJ (by rw [hl];rfl)
 have LL1:Hid (l[1]?=some (7,o1)):=hJJ (by rw [hl];rfl)
 have LL2:Hid (l[2]?=some (8,o2)):=hJJ (by rw [hl];rfl)
 have LL3:Hid (l[3]?=some (9,o3)):=hJJ (by rw [hl];rfl)
 have LL4:Hid (l[4]?=some (10,o4)):=hJJ (by rw [hl];rfl)
 have LL5:Hid (l[5]?=some (11,o5)):=hJJ (by rw [hl];rfl)
 have LL6:Hid (l[6]?=some (12,o6)):=hJJ (by rw [hl];rfl)
 have LL7:Hid (l[7]?=some (13,o7)):=hJJ (by rw [hl];rfl)
 have LE:Hid (∀ (j:Nat) x,l[j]?=some x→j < 8):=hJJ (fun j x hx=>by have:=(List.getElem?_eq_some_iff.1 hx).1;rw [hl] at this;simpa using this)
 generalize chkC T=ck at CK ⊢
 clear hl ht ho0 ho1 ho2 ho3 ho4 ho5 ho6 ho7
 generalize T.cells h=c at *
 go_enter Tryz.func14,Tryz.ntmps14
 go_upto_region 1 with fail
 obtain ⟨W1,hW1,E1,E0,EB,bR⟩:=laid2 w (.cells c.toArray 32) (.cells #[.int .i64 0,.int .i64 0] 37)
 rw [hW1]
 have LT1:=hJJ (LT0.out.below (by rw [hs1];exact EB))
 have B0:=hJJ E0
 clear hW1 EB hs1 hsz LT0 E0 E1
 go_wp2_with fail
 refine (rules_any _).mono ?_
 rintro e W2 ⟨rfl,hlie,hb⟩
 have C0:Hid (Below w.heap.size w W2):=hJJ (B0.out.trans (hb.mono B0.out.size))
 have C2:Hid (W2.heap[w.heap.size+1]?=some (.cells #[.int .i64 0,.int .i64 0] 37 (0,0))):=hJJ ((hb.block _ (Array.getElem?_eq_some_iff.1 bR).1).trans bR)
 have LT:=hJJ (LT1.out.below hb)
 have LI:=hJJ hlie
 clear hb bR B0 hlie LT1
 generalize W1.heap.size=n at *
 unfold fns
 go_wp2_with fail
 go_loopw [7] (fun a wr=>∃ q:Nat,q≤8∧a=.int .i64 q∧(∀ (j:Nat) x,j < q→l[j]?=some x→x.2=none)∧Below W2.heap.size W2 wr) (fun a _=>8 - (intOf a).toNat)
 case atStart=>exact ⟨0,by omega,rfl,(fun j x h=>by omega),Below.refl _ _⟩
 case round =>
  obtain ⟨q,hq,rfl,hall,hB⟩:=hrel
  have HA:=hJJ hall
  have HB:=hJJ hB
  have BW:Hid (Below w.heap.size w wr):=hJJ (C0.out.trans (hB.mono C0.out.size))
  have LTW:=hJJ (LT.out.below hB)
  have LIW:=hJJ (LI.out.below hB)
  clear hall hB
  have hq9:q=0∨q=1∨q=2∨q=3∨q=4∨q=5∨q=6∨q=7∨q=8:=by omega
  clear hq
  rcases hq9 with rfl | rfl | rfl | rfl | rfl | rfl | rfl | rfl | rfl
  ·rw [show ((0:Nat):Int)=(0:Int) from rfl]
   have ix:=idx8_0 (.func (.func 73) #[] #[]) (.func (.func 109) #[] #[.pointer (some ⟨n+1+1,0,none⟩),.pointer (some ⟨n+1,0,none⟩)]) (.func (.func 76) #[] #[]) (.func (.func 109) #[] #[.pointer (some ⟨n+3+1,0,none⟩),.pointer (some ⟨n+3,0,none⟩)]) (.func (.func 113) #[] #[.pointer (some ⟨n+5+1,0,none⟩),.pointer (some ⟨n+5+1+1,0,none⟩),.pointer (some ⟨n+5,0,none⟩)]) (.func (.func 114) #[] #[.pointer (some ⟨n+8+1,0,none⟩),.pointer (some ⟨n+8+1+1,0,none⟩),.pointer (some ⟨n+8,0,none⟩)]) (.func (.func 119) #[] #[.pointer (some ⟨n+11+1,0,none⟩),.pointer (some ⟨n+11+1+1,0,none⟩),.pointer (some ⟨n+11,0,none⟩)]) (.func (.func 109) #[] #[.pointer (some ⟨n+14+1,0,none⟩),.pointer (some ⟨n+14,0,none⟩)])
   have NX:Hid (o0=none→∀ (i:Nat) x,i < 0+1→l[i]?=some x→x.2=none):=hJJ (fun e i x hi hx=>by
    by_cases hij:i=0
    ·subst hij;obtain rfl:=Option.some.inj (hx.symm.trans LL0.out);exact e
    ·exact HA.out i x (by omega) hx)
   have HIT:Hid (∀ p,o0=some p→ck=(4,p)):=hJJ (fun p e=>by rw [CK.out];exact first_hit (q:=0) (by rw [LL0.out,e]) HA.out)
   have RC:=hJJ (RU0.out n _ BW.out LIW.out)
   clear RU0 RU1 RU2 RU3 RU4 RU5 RU6 RU7 LL0 LL1 LL2 LL3 LL4 LL5 LL6 LL7 LE HA LIW
   go_wp2_with (refine lgZ 32 ⟨w.heap.size,0,none⟩ c rfl LTW.out Tryz.underlying32 IA.out ?_)
   (try go_wp2_with fail)
   clear ix
   refine RC.out.mono ?_
   rintro e u1 ⟨rfl,hb⟩
   have D0:Hid (Below w.heap.size w u1):=hJJ (BW.out.trans (hb.mono BW.out.size))
   have D3:=hJJ (HB.out.trans (hb.mono HB.out.size))
   clear hb BW HB LTW RC
   cases o0 with
   | none =>
    have NN:=hJJ (NX.out rfl)
    clear NX HIT
    go_upto_region 5 with (refine Row.wpList_store_new rfl 37 _ _ rfl u1 _ #[I 0,I 0] rfl rfl rfl infoF rfl (by simp [Value.oneCell']) ?_)
    have hg:=Row.lies_new u1 #[I 0,I 0] 37
    have HL:Hid (Lies (u1.alloc (.cells #[I 0,I 0] 37)) ⟨u1.heap.size,0,none⟩ #[I 0,I 0].toList):=hJJ hg
    have F0:Hid (Below w.heap.size w (u1.alloc (.cells #[I 0,I 0] 37))):=hJJ (D0.out.alloc D0.out.size _)
    have F3:Hid (Below W2.heap.size W2 (u1.alloc (.cells #[I 0,I 0] 37))):=hJJ (D3.out.alloc D3.out.size _)
    clear hg D0 D3
    generalize u1.alloc (.cells #[I 0,I 0] 37)=u2 at HL F0 F3 ⊢
    generalize u1.heap.size=b2 at HL ⊢
    have EQ:=hJJ (show Eqs 37 [I 0,I 0] [I 0,I 0] true from fault_eqs 0 0 0 0)
    go_wp2_with (first | (refine lgZ 37 ⟨b2,0,none⟩ [I 0,I 0] rfl HL.out Tryz.underlying37 infoF ?_) | (refine Row.wpList_neq 37 _ _ _ rfl (by rfl) #[I 0,I 0] #[I 0,I 0] rfl rfl guardF true EQ.out ?_))
    (try go_wp2)
    go_roundw
    case rel=>exact ⟨0+1,by omega,by go_num,NN.out,F3.out⟩
    case measure=>simp [intOf]
   | some p =>
    have CP:=hJJ (HIT.out p rfl)
    clear NX HIT
    go_upto_region 5 with (refine Row.wpList_store_new rfl 37 _ _ rfl u1 _ #[I 4,I p] rfl rfl rfl infoF rfl (by simp [Value.oneCell']) ?_)
    have hg:=Row.lies_new u1 #[I 4,I p] 37
    have HL:Hid (Lies (u1.alloc (.cells #[I 4,I p] 37)) ⟨u1.heap.size,0,none⟩ #[I 4,I p].toList):=hJJ hg
    have F0:Hid (Below w.heap.size w (u1.alloc (.cells #[I 4,I p] 37))):=hJJ (D0.out.alloc D0.out.size _)
    have F3:Hid (Below W2.heap.size W2 (u1.alloc (.cells #[I 4,I p] 37))):=hJJ (D3.out.alloc D3.out.size _)
    clear hg D0 D3
    generalize u1.alloc (.cells #[I 4,I p] 37)=u2 at HL F0 F3 ⊢
    generalize u1.heap.size=b2 at HL ⊢
    have EQ:=hJJ (show Eqs 37 [I 4,I p] [I 0,I 0] false from by have:=fault_eqs 4 p 0 0;rwa [decide_eq_false (by omega)] at this)
    have G2:Hid (u2.heap[w.heap.size+1]?=some (.cells #[.int .i64 0,.int .i64 0] 37 (0,0))):=hJJ ((F3.out.block _ (Array.getElem?_eq_some_iff.1 C2.out).1).trans C2.out)
    have HW:=hJJ (below_setRow F0.out (g:=w.heap.size+1) (by omega) #[I 4,I p])
    have HK:=hJJ (setRow_heap u2 (w.heap.size+1) _ #[I 4,I p] _ _ G2.out)
    go_wp2_with (first | (refine lgZ 37 ⟨b2,0,none⟩ [I 4,I p] rfl HL.out Tryz.underlying37 infoF ?_) | (refine Row.wpList_neq 37 _ _ _ rfl (by rfl) #[I 4,I p] #[I 0,I 0] rfl rfl guardF false EQ.out ?_) | (refine wpList_store_row rfl 37 _ _ rfl (w.heap.size+1) #[I 4,I p] rfl rfl 37 _ G2.out infoF rfl (by simp [Value.oneCell']) ?_))
    generalize u2.setRow (w.heap.size+1) #[I 4,I p]=uz at HW HK ⊢
    (try go_wp2_with fail)
    (try simp only [Exit.inBlock,Exit.then])
    refine bodyPost_ret (v:=.agg #[I 4,I p]) ?_ rfl ⟨by rw [CP.out];rfl,HW.out⟩
    exact results_cell_row rfl _ _ (w.heap.size+1) 37 _ (0,0) _ rfl HK.out Tryz.underlying37 rfl infoF
  ·rw [show ((1:Nat):Int)=(1:Int) from rfl]
   have ix:=idx8_1 (.func (.func 73) #[] #[]) (.func (.func 109) #[] #[.pointer (some ⟨n+1+1,0,none⟩),.pointer (some ⟨n+1,0,none⟩)]) (.func (.func 76) #[] #[]) (.func (.func 109) #[] #[.pointer (some ⟨n+3+1,0,none⟩),.pointer (some ⟨n+3,0,none⟩)]) (.func (.func 113) #[] #[.pointer (some ⟨n+5+1,0,none⟩),.pointer (some ⟨n+5+1+1,0,none⟩),.pointer (some ⟨n+5,0,none⟩)]) (.func (.func 114) #[] #[.pointer (some ⟨n+8+1,0,none⟩),.pointer (some ⟨n+8+1+1,0,none⟩),.pointer (some ⟨n+8,0,none⟩)]) (.func (.func 119) #[] #[.pointer (some ⟨n+11+1,0,none⟩),.pointer (some ⟨n+11+1+1,0,none⟩),.pointer (some ⟨n+11,0,none⟩)]) (.func (.func 109) #[] #[.pointer (some ⟨n+14+1,0,none⟩),.pointer (some ⟨n+14,0,none⟩)])
   have NX:Hid (o1=none→∀ (i:Nat) x,i < 1+1→l[i]?=some x→x.2=none):=hJJ (fun e i x hi hx=>by
    by_cases hij:i=1
    ·subst hij;obtain rfl:=Option.some.inj (hx.symm.trans LL1.out);exact e
    ·exact HA.out i x (by omega) hx)
   have HIT:Hid (∀ p,o1=some p→ck=(7,p)):=hJJ (fun p e=>by rw [CK.out];exact first_hit (q:=1) (by rw [LL1.out,e]) HA.out)
   have RC:=hJJ (RU1.out n _ BW.out LIW.out)
   clear RU0 RU1 RU2 RU3 RU4 RU5 RU6 RU7 LL0 LL1 LL2 LL3 LL4 LL5 LL6 LL7 LE HA LIW
   go_wp2_with (refine lgZ 32 ⟨w.heap.size,0,none⟩ c rfl LTW.out Tryz.underlying32 IA.out ?_)
   (try go_wp2_with fail)
   clear ix
   refine RC.out.mono ?_
   rintro e u1 ⟨rfl,hb⟩
   have D0:Hid (Below w.heap.size w u1):=hJJ (BW.out.trans (hb.mono BW.out.size))
   have D3:=hJJ (HB.out.trans (hb.mono HB.out.size))
   clear hb BW HB LTW RC
   cases o1 with
   | none =>
    have NN:=hJJ (NX.out rfl)
    clear NX HIT
    go_upto_region 5 with (refine Row.wpList_store_new rfl 37 _ _ rfl u1 _ #[I 0,I 0] rfl rfl rfl infoF rfl (by simp [Value.oneCell']) ?_)
    have hg:=Row.lies_new u1 #[I 0,I 0] 37
    have HL:Hid (Lies (u1.alloc (.cells #[I 0,I 0] 37)) ⟨u1.heap.size,0,none⟩ #[I 0,I 0].toList):=hJJ hg
    have F0:Hid (Below w.heap.size w (u1.alloc (.cells #[I 0,I 0] 37))):=hJJ (D0.out.alloc D0.out.size _)
    have F3:Hid (Below W2.heap.size W2 (u1.alloc (.cells #[I 0,I 0] 37))):=hJJ (D3.out.alloc D3.out.size _)
    clear hg D0 D3
    generalize u1.alloc (.cells #[I 0,I 0] 37)=u2 at HL F0 F3 ⊢
    generalize u1.heap.size=b2 at HL ⊢
    have EQ:=hJJ (show Eqs 37 [I 0,I 0] [I 0,I 0] true from fault_eqs 0 0 0 0)
    go_wp2_with (first | (refine lgZ 37 ⟨b2,0,none⟩ [I 0,I 0] rfl HL.out Tryz.underlying37 infoF ?_) | (refine Row.wpList_neq 37 _ _ _ rfl (by rfl) #[I 0,I 0] #[I 0,I 0] rfl rfl guardF true EQ.out ?_))
    (try go_wp2)
    go_roundw
    case rel=>exact ⟨1+1,by omega,by go_num,NN.out,F3.out⟩
    case measure=>simp [intOf]
   | some p =>
    have CP:=hJJ (HIT.out p rfl)
    clear NX HIT
    go_upto_region 5 with (refine Row.wpList_store_new rfl 37 _ _ rfl u1 _ #[I 7,I p] rfl rfl rfl infoF rfl (by simp [Value.oneCell']) ?_)
    have hg:=Row.lies_new u1 #[I 7,I p] 37
    have HL:Hid (Lies (u1.alloc (.cells #[I 7,I p] 37)) ⟨u1.heap.size,0,none⟩ #[I 7,I p].toList):=hJJ hg
    have F0:Hid (Below w.heap.size w (u1.alloc (.cells #[I 7,I p] 37))):=hJJ (D0.out.alloc D0.out.size _)
    have F3:Hid (Below W2.heap.size W2 (u1.alloc (.cells #[I 7,I p] 37))):=hJJ (D3.out.alloc D3.out.size _)
    clear hg D0 D3
    generalize u1.alloc (.cells #[I 7,I p] 37)=u2 at HL F0 F3 ⊢
    generalize u1.heap.size=b2 at HL ⊢
    have EQ:=hJJ (show Eqs 37 [I 7,I p] [I 0,I 0] false from by have:=fault_eqs 7 p 0 0;rwa [decide_eq_false (by omega)] at this)
    have G2:Hid (u2.heap[w.heap.size+1]?=some (.cells #[.int .i64 0,.int .i64 0] 37 (0,0))):=hJJ ((F3.out.block _ (Array.getElem?_eq_some_iff.1 C2.out).1).trans C2.out)
    have HW:=hJJ (below_setRow F0.out (g:=w.heap.size+1) (by omega) #[I 7,I p])
    have HK:=hJJ (setRow_heap u2 (w.heap.size+1) _ #[I 7,I p] _ _ G2.out)
    go_wp2_with (first | (refine lgZ 37 ⟨b2,0,none⟩ [I 7,I p] rfl HL.out Tryz.underlying37 infoF ?_) | (refine Row.wpList_neq 37 _ _ _ rfl (by rfl) #[I 7,I p] #[I 0,I 0] rfl rfl guardF false EQ.out ?_) | (refine wpList_store_row rfl 37 _ _ rfl (w.heap.size+1) #[I 7,I p] rfl rfl 37 _ G2.out infoF rfl (by simp [Value.oneCell']) ?_))
    generalize u2.setRow (w.heap.size+1) #[I 7,I p]=uz at HW HK ⊢
    (try go_wp2_with fail)
    (try simp only [Exit.inBlock,Exit.then])
    refine bodyPost_ret (v:=.agg #[I 7,I p]) ?_ rfl ⟨by rw [CP.out];rfl,HW.out⟩
    exact results_cell_row rfl _ _ (w.heap.size+1) 37 _ (0,0) _ rfl HK.out Tryz.underlying37 rfl infoF
  ·rw [show ((2:Nat):Int)=(2:Int) from rfl]
   have ix:=idx8_2 (.func (.func 73) #[] #[]) (.func (.func 109) #[] #[.pointer (some ⟨n+1+1,0,none⟩),.pointer (some ⟨n+1,0,none⟩)]) (.func (.func 76) #[] #[]) (.func (.func 109) #[] #[.pointer (some ⟨n+3+1,0,none⟩),.pointer (some ⟨n+3,0,none⟩)]) (.func (.func 113) #[] #[.pointer (some ⟨n+5+1,0,none⟩),.pointer (some ⟨n+5+1+1,0,none⟩),.pointer (some ⟨n+5,0,none⟩)]) (.func (.func 114) #[] #[.pointer (some ⟨n+8+1,0,none⟩),.pointer (some ⟨n+8+1+1,0,none⟩),.pointer (some ⟨n+8,0,none⟩)]) (.func (.func 119) #[] #[.pointer (some ⟨n+11+1,0,none⟩),.pointer (some ⟨n+11+1+1,0,none⟩),.pointer (some ⟨n+11,0,none⟩)]) (.func (.func 109) #[] #[.pointer (some ⟨n+14+1,0,none⟩),.pointer (some ⟨n+14,0,none⟩)])
   have NX:Hid (o2=none→∀ (i:Nat) x,i < 2+1→l[i]?=some x→x.2=none):=hJJ (fun e i x hi hx=>by
    by_cases hij:i=2
    ·subst hij;obtain rfl:=Option.some.inj (hx.symm.trans LL2.out);exact e
    ·exact HA.out i x (by omega) hx)
   have HIT:Hid (∀ p,o2=some p→ck=(8,p)):=hJJ (fun p e=>by rw [CK.out];exact first_hit (q:=2) (by rw [LL2.out,e]) HA.out)
   have RC:=hJJ (RU2.out n _ BW.out LIW.out)
   clear RU0 RU1 RU2 RU3 RU4 RU5 RU6 RU7 LL0 LL1 LL2 LL3 LL4 LL5 LL6 LL7 LE HA LIW
   go_wp2_with (refine lgZ 32 ⟨w.heap.size,0,none⟩ c rfl LTW.out Tryz.underlying32 IA.out ?_)
   (try go_wp2_with fail)
   clear ix
   refine RC.out.mono ?_
   rintro e u1 ⟨rfl,hb⟩
   have D0:Hid (Below w.heap.size w u1):=hJJ (BW.out.trans (hb.mono BW.out.size))
   have D3:=hJJ (HB.out.trans (hb.mono HB.out.size))
   clear hb BW HB LTW RC
   cases o2 with
   | none =>
    have NN:=hJJ (NX.out rfl)
    clear NX HIT
    go_upto_region 5 with (refine Row.wpList_store_new rfl 37 _ _ rfl u1 _ #[I 0,I 0] rfl rfl rfl infoF rfl (by simp [Value.oneCell']) ?_)
    have hg:=Row.lies_new u1 #[I 0,I 0] 37
    have HL:Hid (Lies (u1.alloc (.cells #[I 0,I 0] 37)) ⟨u1.heap.size,0,none⟩ #[I 0,I 0].toList):=hJJ hg
    have F0:Hid (Below w.heap.size w (u1.alloc (.cells #[I 0,I 0] 37))):=hJJ (D0.out.alloc D0.out.size _)
    have F3:Hid (Below W2.heap.size W2 (u1.alloc (.cells #[I 0,I 0] 37))):=hJJ (D3.out.alloc D3.out.size _)
    clear hg D0 D3
    generalize u1.alloc (.cells #[I 0,I 0] 37)=u2 at HL F0 F3 ⊢
    generalize u1.heap.size=b2 at HL ⊢
    have EQ:=hJJ (show Eqs 37 [I 0,I 0] [I 0,I 0] true from fault_eqs 0 0 0 0)
    go_wp2_with (first | (refine lgZ 37 ⟨b2,0,none⟩ [I 0,I 0] rfl HL.out Tryz.underlying37 infoF ?_) | (refine Row.wpList_neq 37 _ _ _ rfl (by rfl) #[I 0,I 0] #[I 0,I 0] rfl rfl guardF true EQ.out ?_))
    (try go_wp2)
    go_roundw
    case rel=>exact ⟨2+1,by omega,by go_num,NN.out,F3.out⟩
    case measure=>simp [intOf]
   | some p =>
    have CP:=hJJ (HIT.out p rfl)
    clear NX HIT
    go_upto_region 5 with (refine Row.wpList_store_new rfl 37 _ _ rfl u1 _ #[I 8,I p] rfl rfl rfl infoF rfl (by simp [Value.oneCell']) ?_)
    have hg:=Row.lies_new u1 #[I 8,I p] 37
    have HL:Hid (Lies (u1.alloc (.cells #[I 8,I p] 37)) ⟨u1.heap.size,0,none⟩ #[I 8,I p].toList):=hJJ hg
    have F0:Hid (Below w.heap.size w (u1.alloc (.cells #[I 8,I p] 37))):=hJJ (D0.out.alloc D0.out.size _)
    have F3:Hid (Below W2.heap.size W2 (u1.alloc (.cells #[I 8,I p] 37))):=hJJ (D3.out.alloc D3.out.size _)
    clear hg D0 D3
    generalize u1.alloc (.cells #[I 8,I p] 37)=u2 at HL F0 F3 ⊢
    generalize u1.heap.size=b2 at HL ⊢
    have EQ:=hJJ (show Eqs 37 [I 8,I p] [I 0,I 0] false from by have:=fault_eqs 8 p 0 0;rwa [decide_eq_false (by omega)] at this)
    have G2:Hid (u2.heap[w.heap.size+1]?=some (.cells #[.int .i64 0,.int .i64 0] 37 (0,0))):=hJJ ((F3.out.block _ (Array.getElem?_eq_some_iff.1 C2.out).1).trans C2.out)
    have HW:=hJJ (below_setRow F0.out (g:=w.heap.size+1) (by omega) #[I 8,I p])
    have HK:=hJJ (setRow_heap u2 (w.heap.size+1) _ #[I 8,I p] _ _ G2.out)
    go_wp2_with (first | (refine lgZ 37 ⟨b2,0,none⟩ [I 8,I p] rfl HL.out Tryz.underlying37 infoF ?_) | (refine Row.wpList_neq 37 _ _ _ rfl (by rfl) #[I 8,I p] #[I 0,I 0] rfl rfl guardF false EQ.out ?_) | (refine wpList_store_row rfl 37 _ _ rfl (w.heap.size+1) #[I 8,I p] rfl rfl 37 _ G2.out infoF rfl (by simp [Value.oneCell']) ?_))
    generalize u2.setRow (w.heap.size+1) #[I 8,I p]=uz at HW HK ⊢
    (try go_wp2_with fail)
    (try simp only [Exit.inBlock,Exit.then])
    refine bodyPost_ret (v:=.agg #[I 8,I p]) ?_ rfl ⟨by rw [CP.out];rfl,HW.out⟩
    exact results_cell_row rfl _ _ (w.heap.size+1) 37 _ (0,0) _ rfl HK.out Tryz.underlying37 rfl infoF
  ·rw [show ((3:Nat):Int)=(3:Int) from rfl]
   have ix:=idx8_3 (.func (.func 73) #[] #[]) (.func (.func 109) #[] #[.pointer (some ⟨n+1+1,0,none⟩),.pointer (some ⟨n+1,0,none⟩)]) (.func (.func 76) #[] #[]) (.func (.func 109) #[] #[.pointer (some ⟨n+3+1,0,none⟩),.pointer (some ⟨n+3,0,none⟩)]) (.func (.func 113) #[] #[.pointer (some ⟨n+5+1,0,none⟩),.pointer (some ⟨n+5+1+1,0,none⟩),.pointer (some ⟨n+5,0,none⟩)]) (.func (.func 114) #[] #[.pointer (some ⟨n+8+1,0,none⟩),.pointer (some ⟨n+8+1+1,0,none⟩),.pointer (some ⟨n+8,0,none⟩)]) (.func (.func 119) #[] #[.pointer (some ⟨n+11+1,0,none⟩),.pointer (some ⟨n+11+1+1,0,none⟩),.pointer (some ⟨n+11,0,none⟩)]) (.func (.func 109) #[] #[.pointer (some ⟨n+14+1,0,none⟩),.pointer (some ⟨n+14,0,none⟩)])
   have NX:Hid (o3=none→∀ (i:Nat) x,i < 3+1→l[i]?=some x→x.2=none):=hJJ (fun e i x hi hx=>by
    by_cases hij:i=3
    ·subst hij;obtain rfl:=Option.some.inj (hx.symm.trans LL3.out);exact e
    ·exact HA.out i x (by omega) hx)
   have HIT:Hid (∀ p,o3=some p→ck=(9,p)):=hJJ (fun p e=>by rw [CK.out];exact first_hit (q:=3) (by rw [LL3.out,e]) HA.out)
   have RC:=hJJ (RU3.out n _ BW.out LIW.out)
   clear RU0 RU1 RU2 RU3 RU4 RU5 RU6 RU7 LL0 LL1 LL2 LL3 LL4 LL5 LL6 LL7 LE HA LIW
   go_wp2_with (refine lgZ 32 ⟨w.heap.size,0,none⟩ c rfl LTW.out Tryz.underlying32 IA.out ?_)
   (try go_wp2_with fail)
   clear ix
   refine RC.out.mono ?_
   rintro e u1 ⟨rfl,hb⟩
   have D0:Hid (Below w.heap.size w u1):=hJJ (BW.out.trans (hb.mono BW.out.size))
   have D3:=hJJ (HB.out.trans (hb.mono HB.out.size))
   clear hb BW HB LTW RC
   cases o3 with
   | none =>
    have NN:=hJJ (NX.out rfl)
    clear NX HIT
    go_upto_region 5 with (refine Row.wpList_store_new rfl 37 _ _ rfl u1 _ #[I 0,I 0] rfl rfl rfl infoF rfl (by simp [Value.oneCell']) ?_)
    have hg:=Row.lies_new u1 #[I 0,I 0] 37
    have HL:Hid (Lies (u1.alloc (.cells #[I 0,I 0] 37)) ⟨u1.heap.size,0,none⟩ #[I 0,I 0].toList):=hJJ hg
    have F0:Hid (Below w.heap.size w (u1.alloc (.cells #[I 0,I 0] 37))):=hJJ (D0.out.alloc D0.out.size _)
    have F3:Hid (Below W2.heap.size W2 (u1.alloc (.cells #[I 0,I 0] 37))):=hJJ (D3.out.alloc D3.out.size _)
    clear hg D0 D3
    generalize u1.alloc (.cells #[I 0,I 0] 37)=u2 at HL F0 F3 ⊢
    generalize u1.heap.size=b2 at HL ⊢
    have EQ:=hJJ (show Eqs 37 [I 0,I 0] [I 0,I 0] true from fault_eqs 0 0 0 0)
    go_wp2_with (first | (refine lgZ 37 ⟨b2,0,none⟩ [I 0,I 0] rfl HL.out Tryz.underlying37 infoF ?_) | (refine Row.wpList_neq 37 _ _ _ rfl (by rfl) #[I 0,I 0] #[I 0,I 0] rfl rfl guardF true EQ.out ?_))
    (try go_wp2)
    go_roundw
    case rel=>exact ⟨3+1,by omega,by go_num,NN.out,F3.out⟩
    case measure=>simp [intOf]
   | some p =>
    have CP:=hJJ (HIT.out p rfl)
    clear NX HIT
    go_upto_region 5 with (refine Row.wpList_store_new rfl 37 _ _ rfl u1 _ #[I 9,I p] rfl rfl rfl infoF rfl (by simp [Value.oneCell']) ?_)
    have hg:=Row.lies_new u1 #[I 9,I p] 37
    have HL:Hid (Lies (u1.alloc (.cells #[I 9,I p] 37)) ⟨u1.heap.size,0,none⟩ #[I 9,I p].toList):=hJJ hg
    have F0:Hid (Below w.heap.size w (u1.alloc (.cells #[I 9,I p] 37))):=hJJ (D0.out.alloc D0.out.size _)
    have F3:Hid (Below W2.heap.size W2 (u1.alloc (.cells #[I 9,I p] 37))):=hJJ (D3.out.alloc D3.out.size _)
    clear hg D0 D3
    generalize u1.alloc (.cells #[I 9,I p] 37)=u2 at HL F0 F3 ⊢
    generalize u1.heap.size=b2 at HL ⊢
    have EQ:=hJJ (show Eqs 37 [I 9,I p] [I 0,I 0] false from by have:=fault_eqs 9 p 0 0;rwa [decide_eq_false (by omega)] at this)
    have G2:Hid (u2.heap[w.heap.size+1]?=some (.cells #[.int .i64 0,.int .i64 0] 37 (0,0))):=hJJ ((F3.out.block _ (Array.getElem?_eq_some_iff.1 C2.out).1).trans C2.out)
    have HW:=hJJ (below_setRow F0.out (g:=w.heap.size+1) (by omega) #[I 9,I p])
    have HK:=hJJ (setRow_heap u2 (w.heap.size+1) _ #[I 9,I p] _ _ G2.out)
    go_wp2_with (first | (refine lgZ 37 ⟨b2,0,none⟩ [I 9,I p] rfl HL.out Tryz.underlying37 infoF ?_) | (refine Row.wpList_neq 37 _ _ _ rfl (by rfl) #[I 9,I p] #[I 0,I 0] rfl rfl guardF false EQ.out ?_) | (refine wpList_store_row rfl 37 _ _ rfl (w.heap.size+1) #[I 9,I p] rfl rfl 37 _ G2.out infoF rfl (by simp [Value.oneCell']) ?_))
    generalize u2.setRow (w.heap.size+1) #[I 9,I p]=uz at HW HK ⊢
    (try go_wp2_with fail)
    (try simp only [Exit.inBlock,Exit.then])
    refine bodyPost_ret (v:=.agg #[I 9,I p]) ?_ rfl ⟨by rw [CP.out];rfl,HW.out⟩
    exact results_cell_row rfl _ _ (w.heap.size+1) 37 _ (0,0) _ rfl HK.out Tryz.underlying37 rfl infoF
  ·rw [show ((4:Nat):Int)=(4:Int) from rfl]
   have ix:=idx8_4 (.func (.func 73) #[] #[]) (.func (.func 109) #[] #[.pointer (some ⟨n+1+1,0,none⟩),.pointer (some ⟨n+1,0,none⟩)]) (.func (.func 76) #[] #[]) (.func (.func 109) #[] #[.pointer (some ⟨n+3+1,0,none⟩),.pointer (some ⟨n+3,0,none⟩)]) (.func (.func 113) #[] #[.pointer (some ⟨n+5+1,0,none⟩),.pointer (some ⟨n+5+1+1,0,none⟩),.pointer (some ⟨n+5,0,none⟩)]) (.func (.func 114) #[] #[.pointer (some ⟨n+8+1,0,none⟩),.pointer (some ⟨n+8+1+1,0,none⟩),.pointer (some ⟨n+8,0,none⟩)]) (.func (.func 119) #[] #[.pointer (some ⟨n+11+1,0,none⟩),.pointer (some ⟨n+11+1+1,0,none⟩),.pointer (some ⟨n+11,0,none⟩)]) (.func (.func 109) #[] #[.pointer (some ⟨n+14+1,0,none⟩),.pointer (some ⟨n+14,0,none⟩)])
   have NX:Hid (o4=none→∀ (i:Nat) x,i < 4+1→l[i]?=some x→x.2=none):=hJJ (fun e i x hi hx=>by
    by_cases hij:i=4
    ·subst hij;obtain rfl:=Option.some.inj (hx.symm.trans LL4.out);exact e
    ·exact HA.out i x (by omega) hx)
   have HIT:Hid (∀ p,o4=some p→ck=(10,p)):=hJJ (fun p e=>by rw [CK.out];exact first_hit (q:=4) (by rw [LL4.out,e]) HA.out)
   have RC:=hJJ (RU4.out (HA.out 0 _ (by omega) LL0.out) n _ BW.out LIW.out)
   clear RU0 RU1 RU2 RU3 RU4 RU5 RU6 RU7 LL0 LL1 LL2 LL3 LL4 LL5 LL6 LL7 LE HA LIW
   go_wp2_with (refine lgZ 32 ⟨w.heap.size,0,none⟩ c rfl LTW.out Tryz.underlying32 IA.out ?_)
   (try go_wp2_with fail)
   clear ix
   refine RC.out.mono ?_
   rintro e u1 ⟨rfl,hb⟩
   have D0:Hid (Below w.heap.size w u1):=hJJ (BW.out.trans (hb.mono BW.out.size))
   have D3:=hJJ (HB.out.trans (hb.mono HB.out.size))
   clear hb BW HB LTW RC
   cases o4 with
   | none =>
    have NN:=hJJ (NX.out rfl)
    clear NX HIT
    go_upto_region 5 with (refine Row.wpList_store_new rfl 37 _ _ rfl u1 _ #[I 0,I 0] rfl rfl rfl infoF rfl (by simp [Value.oneCell']) ?_)
    have hg:=Row.lies_new u1 #[I 0,I 0] 37
    have HL:Hid (Lies (u1.alloc (.cells #[I 0,I 0] 37)) ⟨u1.heap.size,0,none⟩ #[I 0,I 0].toList):=hJJ hg
    have F0:Hid (Below w.heap.size w (u1.alloc (.cells #[I 0,I 0] 37))):=hJJ (D0.out.alloc D0.out.size _)
    have F3:Hid (Below W2.heap.size W2 (u1.alloc (.cells #[I 0,I 0] 37))):=hJJ (D3.out.alloc D3.out.size _)
    clear hg D0 D3
    generalize u1.alloc (.cells #[I 0,I 0] 37)=u2 at HL F0 F3 ⊢
    generalize u1.heap.size=b2 at HL ⊢
    have EQ:=hJJ (show Eqs 37 [I 0,I 0] [I 0,I 0] true from fault_eqs 0 0 0 0)
    go_wp2_with (first | (refine lgZ 37 ⟨b2,0,none⟩ [I 0,I 0] rfl HL.out Tryz.underlying37 infoF ?_) | (refine Row.wpList_neq 37 _ _ _ rfl (by rfl) #[I 0,I 0] #[I 0,I 0] rfl rfl guardF true EQ.out ?_))
    (try go_wp2)
    go_roundw
    case rel=>exact ⟨4+1,by omega,by go_num,NN.out,F3.out⟩
    case measure=>simp [intOf]
   | some p =>
    have CP:=hJJ (HIT.out p rfl)
    clear NX HIT
    go_upto_region 5 with (refine Row.wpList_store_new rfl 37 _ _ rfl u1 _ #[I 10,I p] rfl rfl rfl infoF rfl (by simp [Value.oneCell']) ?_)
    have hg:=Row.lies_new u1 #[I 10,I p] 37
    have HL:Hid (Lies (u1.alloc (.cells #[I 10,I p] 37)) ⟨u1.heap.size,0,none⟩ #[I 10,I p].toList):=hJJ hg
    have F0:Hid (Below w.heap.size w (u1.alloc (.cells #[I 10,I p] 37))):=hJJ (D0.out.alloc D0.out.size _)
    have F3:Hid (Below W2.heap.size W2 (u1.alloc (.cells #[I 10,I p] 37))):=hJJ (D3.out.alloc D3.out.size _)
    clear hg D0 D3
    generalize u1.alloc (.cells #[I 10,I p] 37)=u2 at HL F0 F3 ⊢
    generalize u1.heap.size=b2 at HL ⊢
    have EQ:=hJJ (show Eqs 37 [I 10,I p] [I 0,I 0] false from by have:=fault_eqs 10 p 0 0;rwa [decide_eq_false (by omega)] at this)
    have G2:Hid (u2.heap[w.heap.size+1]?=some (.cells #[.int .i64 0,.int .i64 0] 37 (0,0))):=hJJ ((F3.out.block _ (Array.getElem?_eq_some_iff.1 C2.out).1).trans C2.out)
    have HW:=hJJ (below_setRow F0.out (g:=w.heap.size+1) (by omega) #[I 10,I p])
    have HK:=hJJ (setRow_heap u2 (w.heap.size+1) _ #[I 10,I p] _ _ G2.out)
    go_wp2_with (first | (refine lgZ 37 ⟨b2,0,none⟩ [I 10,I p] rfl HL.out Tryz.underlying37 infoF ?_) | (refine Row.wpList_neq 37 _ _ _ rfl (by rfl) #[I 10,I p] #[I 0,I 0] rfl rfl guardF false EQ.out ?_) | (refine wpList_store_row rfl 37 _ _ rfl (w.heap.size+1) #[I 10,I p] rfl rfl 37 _ G2.out infoF rfl (by simp [Value.oneCell']) ?_))
    generalize u2.setRow (w.heap.size+1) #[I 10,I p]=uz at HW HK ⊢
    (try go_wp2_with fail)
    (try simp only [Exit.inBlock,Exit.then])
    refine bodyPost_ret (v:=.agg #[I 10,I p]) ?_ rfl ⟨by rw [CP.out];rfl,HW.out⟩
    exact results_cell_row rfl _ _ (w.heap.size+1) 37 _ (0,0) _ rfl HK.out Tryz.underlying37 rfl infoF
  ·rw [show ((5:Nat):Int)=(5:Int) from rfl]
   have ix:=idx8_5 (.func (.func 73) #[] #[]) (.func (.func 109) #[] #[.pointer (some ⟨n+1+1,0,none⟩),.pointer (some ⟨n+1,0,none⟩)]) (.func (.func 76) #[] #[]) (.func (.func 109) #[] #[.pointer (some ⟨n+3+1,0,none⟩),.pointer (some ⟨n+3,0,none⟩)]) (.func (.func 113) #[] #[.pointer (some ⟨n+5+1,0,none⟩),.pointer (some ⟨n+5+1+1,0,none⟩),.pointer (some ⟨n+5,0,none⟩)]) (.func (.func 114) #[] #[.pointer (some ⟨n+8+1,0,none⟩),.pointer (some ⟨n+8+1+1,0,none⟩),.pointer (some ⟨n+8,0,none⟩)]) (.func (.func 119) #[] #[.pointer (some ⟨n+11+1,0,none⟩),.pointer (some ⟨n+11+1+1,0,none⟩),.pointer (some ⟨n+11,0,none⟩)]) (.func (.func 109) #[] #[.pointer (some ⟨n+14+1,0,none⟩),.pointer (some ⟨n+14,0,none⟩)])
   have NX:Hid (o5=none→∀ (i:Nat) x,i < 5+1→l[i]?=some x→x.2=none):=hJJ (fun e i x hi hx=>by
    by_cases hij:i=5
    ·subst hij;obtain rfl:=Option.some.inj (hx.symm.trans LL5.out);exact e
    ·exact HA.out i x (by omega) hx)
   have HIT:Hid (∀ p,o5=some p→ck=(11,p)):=hJJ (fun p e=>by rw [CK.out];exact first_hit (q:=5) (by rw [LL5.out,e]) HA.out)
   have RC:=hJJ (RU5.out n _ BW.out LIW.out)
   clear RU0 RU1 RU2 RU3 RU4 RU5 RU6 RU7 LL0 LL1 LL2 LL3 LL4 LL5 LL6 LL7 LE HA LIW
   go_wp2_with (refine lgZ 32 ⟨w.heap.size,0,none⟩ c rfl LTW.out Tryz.underlying32 IA.out ?_)
   (try go_wp2_with fail)
   clear ix
   refine RC.out.mono ?_
   rintro e u1 ⟨rfl,hb⟩
   have D0:Hid (Below w.heap.size w u1):=hJJ (BW.out.trans (hb.mono BW.out.size))
   have D3:=hJJ (HB.out.trans (hb.mono HB.out.size))
   clear hb BW HB LTW RC
   cases o5 with
   | none =>
    have NN:=hJJ (NX.out rfl)
    clear NX HIT
    go_upto_region 5 with (refine Row.wpList_store_new rfl 37 _ _ rfl u1 _ #[I 0,I 0] rfl rfl rfl infoF rfl (by simp [Value.oneCell']) ?_)
    have hg:=Row.lies_new u1 #[I 0,I 0] 37
    have HL:Hid (Lies (u1.alloc (.cells #[I 0,I 0] 37)) ⟨u1.heap.size,0,none⟩ #[I 0,I 0].toList):=hJJ hg
    have F0:Hid (Below w.heap.size w (u1.alloc (.cells #[I 0,I 0] 37))):=hJJ (D0.out.alloc D0.out.size _)
    have F3:Hid (Below W2.heap.size W2 (u1.alloc (.cells #[I 0,I 0] 37))):=hJJ (D3.out.alloc D3.out.size _)
    clear hg D0 D3
    generalize u1.alloc (.cells #[I 0,I 0] 37)=u2 at HL F0 F3 ⊢
    generalize u1.heap.size=b2 at HL ⊢
    have EQ:=hJJ (show Eqs 37 [I 0,I 0] [I 0,I 0] true from fault_eqs 0 0 0 0)
    go_wp2_with (first | (refine lgZ 37 ⟨b2,0,none⟩ [I 0,I 0] rfl HL.out Tryz.underlying37 infoF ?_) | (refine Row.wpList_neq 37 _ _ _ rfl (by rfl) #[I 0,I 0] #[I 0,I 0] rfl rfl guardF true EQ.out ?_))
    (try go_wp2)
    go_roundw
    case rel=>exact ⟨5+1,by omega,by go_num,NN.out,F3.out⟩
    case measure=>simp [intOf]
   | some p =>
    have CP:=hJJ (HIT.out p rfl)
    clear NX HIT
    go_upto_region 5 with (refine Row.wpList_store_new rfl 37 _ _ rfl u1 _ #[I 11,I p] rfl rfl rfl infoF rfl (by simp [Value.oneCell']) ?_)
    have hg:=Row.lies_new u1 #[I 11,I p] 37
    have HL:Hid (Lies (u1.alloc (.cells #[I 11,I p] 37)) ⟨u1.heap.size,0,none⟩ #[I 11,I p].toList):=hJJ hg
    have F0:Hid (Below w.heap.size w (u1.alloc (.cells #[I 11,I p] 37))):=hJJ (D0.out.alloc D0.out.size _)
    have F3:Hid (Below W2.heap.size W2 (u1.alloc (.cells #[I 11,I p] 37))):=hJJ (D3.out.alloc D3.out.size _)
    clear hg D0 D3
    generalize u1.alloc (.cells #[I 11,I p] 37)=u2 at HL F0 F3 ⊢
    generalize u1.heap.size=b2 at HL ⊢
    have EQ:=hJJ (show Eqs 37 [I 11,I p] [I 0,I 0] false from by have:=fault_eqs 11 p 0 0;rwa [decide_eq_false (by omega)] at this)
    have G2:Hid (u2.heap[w.heap.size+1]?=some (.cells #[.int .i64 0,.int .i64 0] 37 (0,0))):=hJJ ((F3.out.block _ (Array.getElem?_eq_some_iff.1 C2.out).1).trans C2.out)
    have HW:=hJJ (below_setRow F0.out (g:=w.heap.size+1) (by omega) #[I 11,I p])
    have HK:=hJJ (setRow_heap u2 (w.heap.size+1) _ #[I 11,I p] _ _ G2.out)
    go_wp2_with (first | (refine lgZ 37 ⟨b2,0,none⟩ [I 11,I p] rfl HL.out Tryz.underlying37 infoF ?_) | (refine Row.wpList_neq 37 _ _ _ rfl (by rfl) #[I 11,I p] #[I 0,I 0] rfl rfl guardF false EQ.out ?_) | (refine wpList_store_row rfl 37 _ _ rfl (w.heap.size+1) #[I 11,I p] rfl rfl 37 _ G2.out infoF rfl (by simp [Value.oneCell']) ?_))
    generalize u2.setRow (w.heap.size+1) #[I 11,I p]=uz at HW HK ⊢
    (try go_wp2_with fail)
    (try simp only [Exit.inBlock,Exit.then])
    refine bodyPost_ret (v:=.agg #[I 11,I p]) ?_ rfl ⟨by rw [CP.out];rfl,HW.out⟩
    exact results_cell_row rfl _ _ (w.heap.size+1) 37 _ (0,0) _ rfl HK.out Tryz.underlying37 rfl infoF
  ·rw [show ((6:Nat):Int)=(6:Int) from rfl]
   have ix:=idx8_6 (.func (.func 73) #[] #[]) (.func (.func 109) #[] #[.pointer (some ⟨n+1+1,0,none⟩),.pointer (some ⟨n+1,0,none⟩)]) (.func (.func 76) #[] #[]) (.func (.func 109) #[] #[.pointer (some ⟨n+3+1,0,none⟩),.pointer (some ⟨n+3,0,none⟩)]) (.func (.func 113) #[] #[.pointer (some ⟨n+5+1,0,none⟩),.pointer (some ⟨n+5+1+1,0,none⟩),.pointer (some ⟨n+5,0,none⟩)]) (.func (.func 114) #[] #[.pointer (some ⟨n+8+1,0,none⟩),.pointer (some ⟨n+8+1+1,0,none⟩),.pointer (some ⟨n+8,0,none⟩)]) (.func (.func 119) #[] #[.pointer (some ⟨n+11+1,0,none⟩),.pointer (some ⟨n+11+1+1,0,none⟩),.pointer (some ⟨n+11,0,none⟩)]) (.func (.func 109) #[] #[.pointer (some ⟨n+14+1,0,none⟩),.pointer (some ⟨n+14,0,none⟩)])
   have NX:Hid (o6=none→∀ (i:Nat) x,i < 6+1→l[i]?=some x→x.2=none):=hJJ (fun e i x hi hx=>by
    by_cases hij:i=6
    ·subst hij;obtain rfl:=Option.some.inj (hx.symm.trans LL6.out);exact e
    ·exact HA.out i x (by omega) hx)
   have HIT:Hid (∀ p,o6=some p→ck=(12,p)):=hJJ (fun p e=>by rw [CK.out];exact first_hit (q:=6) (by rw [LL6.out,e]) HA.out)
   have RC:=hJJ (RU6.out n _ BW.out LIW.out)
   clear RU0 RU1 RU2 RU3 RU4 RU5 RU6 RU7 LL0 LL1 LL2 LL3 LL4 LL5 LL6 LL7 LE HA LIW
   go_wp2_with (refine lgZ 32 ⟨w.heap.size,0,none⟩ c rfl LTW.out Tryz.underlying32 IA.out ?_)
   (try go_wp2_with fail)
   clear ix
   refine RC.out.mono ?_
   rintro e u1 ⟨rfl,hb⟩
   have D0:Hid (Below w.heap.size w u1):=hJJ (BW.out.trans (hb.mono BW.out.size))
   have D3:=hJJ (HB.out.trans (hb.mono HB.out.size))
   clear hb BW HB LTW RC
   cases o6 with
   | none =>
    have NN:=hJJ (NX.out rfl)
    clear NX HIT
    go_upto_region 5 with (refine Row.wpList_store_new rfl 37 _ _ rfl u1 _ #[I 0,I 0] rfl rfl rfl infoF rfl (by simp [Value.oneCell']) ?_)
    have hg:=Row.lies_new u1 #[I 0,I 0] 37
    have HL:Hid (Lies (u1.alloc (.cells #[I 0,I 0] 37)) ⟨u1.heap.size,0,none⟩ #[I 0,I 0].toList):=hJJ hg
    have F0:Hid (Below w.heap.size w (u1.alloc (.cells #[I 0,I 0] 37))):=hJJ (D0.out.alloc D0.out.size _)
    have F3:Hid (Below W2.heap.size W2 (u1.alloc (.cells #[I 0,I 0] 37))):=hJJ (D3.out.alloc D3.out.size _)
    clear hg D0 D3
    generalize u1.alloc (.cells #[I 0,I 0] 37)=u2 at HL F0 F3 ⊢
    generalize u1.heap.size=b2 at HL ⊢
    have EQ:=hJJ (show Eqs 37 [I 0,I 0] [I 0,I 0] true from fault_eqs 0 0 0 0)
    go_wp2_with (first | (refine lgZ 37 ⟨b2,0,none⟩ [I 0,I 0] rfl HL.out Tryz.underlying37 infoF ?_) | (refine Row.wpList_neq 37 _ _ _ rfl (by rfl) #[I 0,I 0] #[I 0,I 0] rfl rfl guardF true EQ.out ?_))
    (try go_wp2)
    go_roundw
    case rel=>exact ⟨6+1,by omega,by go_num,NN.out,F3.out⟩
    case measure=>simp [intOf]
   | some p =>
    have CP:=hJJ (HIT.out p rfl)
    clear NX HIT
    go_upto_region 5 with (refine Row.wpList_store_new rfl 37 _ _ rfl u1 _ #[I 12,I p] rfl rfl rfl infoF rfl (by simp [Value.oneCell']) ?_)
    have hg:=Row.lies_new u1 #[I 12,I p] 37
    have HL:Hid (Lies (u1.alloc (.cells #[I 12,I p] 37)) ⟨u1.heap.size,0,none⟩ #[I 12,I p].toList):=hJJ hg
    have F0:Hid (Below w.heap.size w (u1.alloc (.cells #[I 12,I p] 37))):=hJJ (D0.out.alloc D0.out.size _)
    have F3:Hid (Below W2.heap.size W2 (u1.alloc (.cells #[I 12,I p] 37))):=hJJ (D3.out.alloc D3.out.size _)
    clear hg D0 D3
    generalize u1.alloc (.cells #[I 12,I p] 37)=u2 at HL F0 F3 ⊢
    generalize u1.heap.size=b2 at HL ⊢
    have EQ:=hJJ (show Eqs 37 [I 12,I p] [I 0,I 0] false from by have:=fault_eqs 12 p 0 0;rwa [decide_eq_false (by omega)] at this)
    have G2:Hid (u2.heap[w.heap.size+1]?=some (.cells #[.int .i64 0,.int .i64 0] 37 (0,0))):=hJJ ((F3.out.block _ (Array.getElem?_eq_some_iff.1 C2.out).1).trans C2.out)
    have HW:=hJJ (below_setRow F0.out (g:=w.heap.size+1) (by omega) #[I 12,I p])
    have HK:=hJJ (setRow_heap u2 (w.heap.size+1) _ #[I 12,I p] _ _ G2.out)
    go_wp2_with (first | (refine lgZ 37 ⟨b2,0,none⟩ [I 12,I p] rfl HL.out Tryz.underlying37 infoF ?_) | (refine Row.wpList_neq 37 _ _ _ rfl (by rfl) #[I 12,I p] #[I 0,I 0] rfl rfl guardF false EQ.out ?_) | (refine wpList_store_row rfl 37 _ _ rfl (w.heap.size+1) #[I 12,I p] rfl rfl 37 _ G2.out infoF rfl (by simp [Value.oneCell']) ?_))
    generalize u2.setRow (w.heap.size+1) #[I 12,I p]=uz at HW HK ⊢
    (try go_wp2_with fail)
    (try simp only [Exit.inBlock,Exit.then])
    refine bodyPost_ret (v:=.agg #[I 12,I p]) ?_ rfl ⟨by rw [CP.out];rfl,HW.out⟩
    exact results_cell_row rfl _ _ (w.heap.size+1) 37 _ (0,0) _ rfl HK.out Tryz.underlying37 rfl infoF
  ·rw [show ((7:Nat):Int)=(7:Int) from rfl]
   have ix:=idx8_7 (.func (.func 73) #[] #[]) (.func (.func 109) #[] #[.pointer (some ⟨n+1+1,0,none⟩),.pointer (some ⟨n+1,0,none⟩)]) (.func (.func 76) #[] #[]) (.func (.func 109) #[] #[.pointer (some ⟨n+3+1,0,none⟩),.pointer (some ⟨n+3,0,none⟩)]) (.func (.func 113) #[] #[.pointer (some ⟨n+5+1,0,none⟩),.pointer (some ⟨n+5+1+1,0,none⟩),.pointer (some ⟨n+5,0,none⟩)]) (.func (.func 114) #[] #[.pointer (some ⟨n+8+1,0,none⟩),.pointer (some ⟨n+8+1+1,0,none⟩),.pointer (some ⟨n+8,0,none⟩)]) (.func (.func 119) #[] #[.pointer (some ⟨n+11+1,0,none⟩),.pointer (some ⟨n+11+1+1,0,none⟩),.pointer (some ⟨n+11,0,none⟩)]) (.func (.func 109) #[] #[.pointer (some ⟨n+14+1,0,none⟩),.pointer (some ⟨n+14,0,none⟩)])
   have NX:Hid (o7=none→∀ (i:Nat) x,i < 7+1→l[i]?=some x→x.2=none):=hJJ (fun e i x hi hx=>by
    by_cases hij:i=7
    ·subst hij;obtain rfl:=Option.some.inj (hx.symm.trans LL7.out);exact e
    ·exact HA.out i x (by omega) hx)
   have HIT:Hid (∀ p,o7=some p→ck=(13,p)):=hJJ (fun p e=>by rw [CK.out];exact first_hit (q:=7) (by rw [LL7.out,e]) HA.out)
   have RC:=hJJ (RU7.out n _ BW.out LIW.out)
   clear RU0 RU1 RU2 RU3 RU4 RU5 RU6 RU7 LL0 LL1 LL2 LL3 LL4 LL5 LL6 LL7 LE HA LIW
   go_wp2_with (refine lgZ 32 ⟨w.heap.size,0,none⟩ c rfl LTW.out Tryz.underlying32 IA.out ?_)
   (try go_wp2_with fail)
   clear ix
   refine RC.out.mono ?_
   rintro e u1 ⟨rfl,hb⟩
   have D0:Hid (Below w.heap.size w u1):=hJJ (BW.out.trans (hb.mono BW.out.size))
   have D3:=hJJ (HB.out.trans (hb.mono HB.out.size))
   clear hb BW HB LTW RC
   cases o7 with
   | none =>
    have NN:=hJJ (NX.out rfl)
    clear NX HIT
    go_upto_region 5 with (refine Row.wpList_store_new rfl 37 _ _ rfl u1 _ #[I 0,I 0] rfl rfl rfl infoF rfl (by simp [Value.oneCell']) ?_)
    have hg:=Row.lies_new u1 #[I 0,I 0] 37
    have HL:Hid (Lies (u1.alloc (.cells #[I 0,I 0] 37)) ⟨u1.heap.size,0,none⟩ #[I 0,I 0].toList):=hJJ hg
    have F0:Hid (Below w.heap.size w (u1.alloc (.cells #[I 0,I 0] 37))):=hJJ (D0.out.alloc D0.out.size _)
    have F3:Hid (Below W2.heap.size W2 (u1.alloc (.cells #[I 0,I 0] 37))):=hJJ (D3.out.alloc D3.out.size _)
    clear hg D0 D3
    generalize u1.alloc (.cells #[I 0,I 0] 37)=u2 at HL F0 F3 ⊢
    generalize u1.heap.size=b2 at HL ⊢
    have EQ:=hJJ (show Eqs 37 [I 0,I 0] [I 0,I 0] true from fault_eqs 0 0 0 0)
    go_wp2_with (first | (refine lgZ 37 ⟨b2,0,none⟩ [I 0,I 0] rfl HL.out Tryz.underlying37 infoF ?_) | (refine Row.wpList_neq 37 _ _ _ rfl (by rfl) #[I 0,I 0] #[I 0,I 0] rfl rfl guardF true EQ.out ?_))
    (try go_wp2)
    go_roundw
    case rel=>exact ⟨7+1,by omega,by go_num,NN.out,F3.out⟩
    case measure=>simp [intOf]
   | some p =>
    have CP:=hJJ (HIT.out p rfl)
    clear NX HIT
    go_upto_region 5 with (refine Row.wpList_store_new rfl 37 _ _ rfl u1 _ #[I 13,I p] rfl rfl rfl infoF rfl (by simp [Value.oneCell']) ?_)
    have hg:=Row.lies_new u1 #[I 13,I p] 37
    have HL:Hid (Lies (u1.alloc (.cells #[I 13,I p] 37)) ⟨u1.heap.size,0,none⟩ #[I 13,I p].toList):=hJJ hg
    have F0:Hid (Below w.heap.size w (u1.alloc (.cells #[I 13,I p] 37))):=hJJ (D0.out.alloc D0.out.size _)
    have F3:Hid (Below W2.heap.size W2 (u1.alloc (.cells #[I 13,I p] 37))):=hJJ (D3.out.alloc D3.out.size _)
    clear hg D0 D3
    generalize u1.alloc (.cells #[I 13,I p] 37)=u2 at HL F0 F3 ⊢
    generalize u1.heap.size=b2 at HL ⊢
    have EQ:=hJJ (show Eqs 37 [I 13,I p] [I 0,I 0] false from by have:=fault_eqs 13 p 0 0;rwa [decide_eq_false (by omega)] at this)
    have G2:Hid (u2.heap[w.heap.size+1]?=some (.cells #[.int .i64 0,.int .i64 0] 37 (0,0))):=hJJ ((F3.out.block _ (Array.getElem?_eq_some_iff.1 C2.out).1).trans C2.out)
    have HW:=hJJ (below_setRow F0.out (g:=w.heap.size+1) (by omega) #[I 13,I p])
    have HK:=hJJ (setRow_heap u2 (w.heap.size+1) _ #[I 13,I p] _ _ G2.out)
    go_wp2_with (first | (refine lgZ 37 ⟨b2,0,none⟩ [I 13,I p] rfl HL.out Tryz.underlying37 infoF ?_) | (refine Row.wpList_neq 37 _ _ _ rfl (by rfl) #[I 13,I p] #[I 0,I 0] rfl rfl guardF false EQ.out ?_) | (refine wpList_store_row rfl 37 _ _ rfl (w.heap.size+1) #[I 13,I p] rfl rfl 37 _ G2.out infoF rfl (by simp [Value.oneCell']) ?_))
    generalize u2.setRow (w.heap.size+1) #[I 13,I p]=uz at HW HK ⊢
    (try go_wp2_with fail)
    (try simp only [Exit.inBlock,Exit.then])
    refine bodyPost_ret (v:=.agg #[I 13,I p]) ?_ rfl ⟨by rw [CP.out];rfl,HW.out⟩
    exact results_cell_row rfl _ _ (w.heap.size+1) 37 _ (0,0) _ rfl HK.out Tryz.underlying37 rfl infoF
  ·rw [show ((8:Nat):Int)=(8:Int) from rfl]
   have RO:=hJJ (show ck=(0,0) by rw [CK.out];exact first_miss (fun x hx=>by obtain ⟨j,hj,rfl⟩:=List.getElem_of_mem hx;have h1:=List.getElem?_eq_getElem hj;exact HA.out j _ (LE.out j _ h1) h1))
   have G2:Hid (wr.heap[w.heap.size+1]?=some (.cells #[.int .i64 0,.int .i64 0] 37 (0,0))):=hJJ ((HB.out.block _ (Array.getElem?_eq_some_iff.1 C2.out).1).trans C2.out)
   clear RU0 RU1 RU2 RU3 RU4 RU5 RU6 RU7 LL0 LL1 LL2 LL3 LL4 LL5 LL6 LL7 LE HA LIW
   have HW:=hJJ (below_setRow BW.out (g:=w.heap.size+1) (by omega) #[.int .i64 0,.int .i64 0])
   have HK:=hJJ (setRow_heap wr (w.heap.size+1) _ #[.int .i64 0,.int .i64 0] _ _ G2.out)
   go_wp2_with (first | (refine wpList_store_row rfl 37 _ _ rfl (w.heap.size+1) #[.int .i64 0,.int .i64 0] rfl rfl 37 _ G2.out infoF rfl (by simp [Value.oneCell']) ?_))
   generalize wr.setRow (w.heap.size+1) #[.int .i64 0,.int .i64 0]=uz at HW HK ⊢
   (try go_wp2_with fail)
   (try simp only [Exit.inBlock,Exit.then])
   refine bodyPost_ret (v:=.agg #[.int .i64 0,.int .i64 0]) ?_ rfl ⟨by rw [RO.out];rfl,HW.out⟩
   exact results_cell_row rfl _ _ (w.heap.size+1) 37 _ (0,0) _ rfl HK.out Tryz.underlying37 rfl infoF
end ChkK
namespace Good9
open Zip
open Go.ChangeShapes Go.WideShapes Go.ChangeAt Go.RowKit
open Tab Gath GenG GenT PlaceM
open Clone (zPh)
open GenT (zTab)
def gp:Ph:=⟨true,1,0,1,1,0,10,0,0,0,0,false,false⟩
def gc (p:Nat):Int:=if p=0 then 2 else 1
def goodAt (q:Nat):Tab:={ zTab with phases:=upd (fun _=>gp) zPh q,conflict:=upd gc 0 q,flash:=upd (fun _=>1) 0 q }
def goodT:Tab:={ goodAt 2 with groups:=[([0,1],[])] }
theorem infoTz:(Tryz.prog.info? 32).map (fun i=>(i.zero,i.size))=some (some (.agg (zTab.cells GenT.zHd).toArray),131):=by kernel_rfl
theorem infoPz:(Tryz.prog.info? 24).map (·.size)=some 13:=by kernel_rfl
theorem wpList_store_mid {P:Program} {ops:Array Oper} {rest:List Oper} {op:Oper} {a:Act} {w w':World} {Q:Exit→Act→World→Prop} (hw:Region.wanted op (yielded ops a.tmps)=true) (ty:TypeId) (x y:Operand) (ho:op.op=.store ty x y) (p:Addr) (cells:Array Value)
  (hx:a.eval x=.pointer (some p)) (hy:a.eval y=.agg cells) (hr:(Instr.storeAt ty (.pointer (some p)) (.agg cells)).run P w=.ok () w') (h:wpList P ops Q rest (a.put op.dst undef) w'):wpList P ops Q (op :: rest) a w :=
 BigFrame.wpList_want hw fun _ hK=>by
  unfold Oper.wp execOp
  simp only [ho,hx,hy,Sem.run_bind,hr,Result.andThen_ok,Sem.run_pure]
  exact hK _ _ h
theorem store_ph2 {w W:World} {hd:Hd} {T:Tab} (h:Bx w hd T W) (p:Nat) (hp:p < 8) (x:Ph) :
  ∃ W',(Instr.storeAt 24 (.pointer (some ⟨w.heap.size+1,p*13,none⟩)) (.agg x.cells.toArray)).run Tryz.prog W=.ok () W'∧Bx w hd { T with phases:=T.phases.set p x } W':=by
 have hl:=cells_cut hd h.ph h.cf h.fl
 have hr:=Row.run_storeAt_at (P:=Tryz.prog) W (w.heap.size+1) (p*13) 32 24 (T.cells hd).toArray x.cells.toArray h.blk infoPz (by simp [hl,Ph.cells];omega) (Ph.one x)
 refine ⟨_,hr,h.write (GenT.setRow_grown _ _ _ h.size) ?_ (by simp [h.ph]) h.cf h.fl rfl rfl rfl rfl⟩
 rw [setRow_heap _ _ _ _ _ _ h.blk,← cells_phase hd h.ph p hp x,Nat.mul_comm 13 p]
 rfl
theorem start (w:World):Bx w GenT.zHd (goodAt 0) ((w.alloc (.cells (zTab.cells GenT.zHd).toArray 32)).alloc (.cells (zTab.cells GenT.zHd).toArray 32)) :=
 ⟨((Below.refl _ _).alloc (Nat.le_refl _) _).alloc (by simp) _,heap_alloc2_old w _ _,heap_alloc2_new w _ _,rfl,rfl,rfl,⟨[],rfl,RowOf.nil _,(by intro x hx;simp [GenT.zHd] at hx),(by intro g hg;simp at hg)⟩,Owns.nil,Owns.nil,Owns.nil,(by intro x hx;simp [GenT.zHd] at hx)⟩
def gHd (S:Nat):Hd:=⟨⟨some ⟨S+1,0,none⟩,1⟩,⟨none,0⟩,⟨none,0⟩,⟨none,0⟩⟩
theorem laidG (wr:World):GrT ((wr.alloc (.cells #[I 0,I 1] 3)).alloc (.cells #[.slice (some ⟨wr.heap.size,0,none⟩) 2 2,.slice none 0 0] 41)) ⟨some ⟨wr.heap.size+1,0,none⟩,1⟩ [([0,1],[])]:=by
 have b0:=heap_alloc2_old wr (.cells #[I 0,I 1] 3) (.cells #[.slice (some ⟨wr.heap.size,0,none⟩) 2 2,.slice none 0 0] 41)
 have b1:=heap_alloc2_new wr (.cells #[I 0,I 1] 3) (.cells #[.slice (some ⟨wr.heap.size,0,none⟩) 2 2,.slice none 0 0] 41)
 generalize (wr.alloc (.cells #[I 0,I 1] 3)).alloc (.cells #[.slice (some ⟨wr.heap.size,0,none⟩) 2 2,.slice none 0 0] 41)=W at *
 have l0:=Row.lies_of_block b0
 have l1:=Row.lies_of_block b1
 refine ⟨[⟨[0,1],[],⟨some ⟨wr.heap.size,0,none⟩,2⟩,⟨none,0⟩⟩],rfl,.inr ⟨_,rfl,Nat.le_refl _,(show 1≤maxLen by decide),?_⟩,?_,?_⟩
 ·intro i v hv
  match i,hv with
  | 0,hv =>
   obtain rfl:_=v:=by simpa using hv
   simpa [Addr.add,Gr.cells,Sl.val] using l1
  | (i+1),hv=>simp at hv
 ·intro x hx
  cases hx
  exact ⟨_,b1⟩
 ·intro g hg
  simp only [List.mem_singleton] at hg
  subst hg
  refine ⟨⟨.inr ⟨_,rfl,Nat.le_refl _,(show 2≤maxLen by decide),?_⟩,?_⟩,⟨RowOf.nil _,fun x hx=>by cases hx⟩⟩
  ·intro i v hv j u hu
   match i,hv with
   | 0,hv =>
    obtain rfl:_=v:=by simpa using hv
    match j,hu with
    | 0,hu =>
     obtain rfl:_=u:=by simpa using hu
     rw [show (((⟨wr.heap.size,0,none⟩:Addr).add (0*1)).add 0)=⟨wr.heap.size,0,none⟩ from rfl,cell_of_row _ _ _ _ _ _ b0]
     rfl
    | (j+1),hu=>simp at hu
   | 1,hv =>
    obtain rfl:_=v:=by simpa using hv
    match j,hu with
    | 0,hu =>
     obtain rfl:_=u:=by simpa using hu
     rw [show (((⟨wr.heap.size,0,none⟩:Addr).add (1*1)).add 0)=⟨wr.heap.size,1,none⟩ from rfl,cell_of_row _ _ _ _ _ _ b0]
     rfl
    | (j+1),hu=>simp at hu
   | (i+2),hv=>simp at hv
  ·intro x hx
   cases hx
   exact ⟨_,b0⟩
theorem laid {w wr W:World} (h:Bx w GenT.zHd (goodAt 2) W) (S:Nat) (hS:w.heap.size≤S) (hG:GrT W ⟨some ⟨S+1,0,none⟩,1⟩ [([0,1],[])]):Bx w (gHd S) goodT (W.setCell ⟨w.heap.size+1,104,none⟩ (.slice (some ⟨S+1,0,none⟩) 1 1)):=by
 have hg:=grown_set W (w.heap.size+1) 104 (.slice (some ⟨S+1,0,none⟩) 1 1)
 refine ⟨h.bel.grown hg h.bel.size (fun k hk=>by cases hk;omega),(hg.block _ (by have:=h.size;omega) (fun e=>by simp at e)).trans h.res,?_,rfl,rfl,rfl,?_,Owns.nil,Owns.nil,Owns.nil,(by intro x hx;cases hx;exact ⟨S+1,rfl,by omega⟩)⟩
 ·rw [heap_setCell_same _ _ _ _ _ _ h.blk]
  have:=cells_groups (T:=goodAt 2) GenT.zHd rfl ⟨some ⟨S+1,0,none⟩,1⟩ [([0,1],[])]
  simp only [Sl.val,List.length_singleton] at this
  rw [show goodT={ goodAt 2 with groups:=[([0,1],[])] } from rfl,show gHd S=⟨⟨some ⟨S+1,0,none⟩,1⟩,GenT.zHd.d,GenT.zHd.r,GenT.zHd.b⟩ from rfl,← this]
  simp
 ·exact hG.grown hg (fun m e=>by
   cases e
   exact ⟨_,_,h.blk,by decide,by decide⟩)
theorem good_any (w:World):Calls Tryz.prog 55 #[] w fun e w'=>∃ hd,e=.returned (.agg (goodT.cells hd).toArray)∧IsTab w' hd goodT∧Below w.heap.size w w':=by
 have hz:=(zero_of_info infoTz).1
 have ST:=hJJ (start w)
 have ZL:(zTab.cells GenT.zHd).length=131:=rfl
 generalize hZ:zTab.cells GenT.zHd=Z at *
 clear hZ
 go_enter Tryz.func55,Tryz.ntmps55
 go_upto_region 2 with fail
 generalize (w.alloc (.cells Z.toArray 32)).alloc (.cells Z.toArray 32)=W0 at ST ⊢
 clear hz ZL
 go_wp2_with fail
 go_loopw [2] (fun i wr=>∃ q:Nat,q≤2∧i=.int .i64 q∧Bx w GenT.zHd (goodAt q) wr) (fun i _=>2 - (intOf i).toNat)
 case atStart=>exact ⟨0,by omega,rfl,ST.out⟩
 case round =>
  obtain ⟨q,hq,rfl,hB⟩:=hrel
  have HB:=hJJ hB
  clear hB
  by_cases hlt:q < 2
  ·obtain ⟨w3,hst,hB3⟩:=store_ph2 HB.out q (by omega) gp
   have HST:=hJJ hst
   clear hst
   have HB3:=hJJ hB3
   have hs1:=hB3.set (105+q) (I (gc q)) (cells_conflict GenT.zHd hB3.ph hB3.cf q (by omega) (gc q)) hB3.ph (by simp [goodAt,upd_len]) hB3.fl rfl rfl rfl rfl
   have e1:(upd (fun _=>gp) zPh q).set q gp=upd (fun _=>gp) zPh (q+1):=upd_succ _ _ _
   have e2:(upd gc 0 q).set q (gc q)=upd gc 0 (q+1):=upd_succ _ _ _
   have e3:(upd (fun _=>(1:Int)) 0 q).set q 1=upd (fun _=>1) 0 (q+1):=upd_succ _ _ _
   have hs2:=hs1.set (121+q) (I 1) (cells_flash GenT.zHd hs1.ph hs1.cf hs1.fl q (by omega) 1) hs1.ph hs1.cf (by simp [goodAt,upd_len]) rfl rfl rfl rfl
   have c5:w3.cell? ⟨w.heap.size+1,105+q,none⟩=some (I 0):=(range_of HB3.out.blk 105 8 _ (cells_ok HB3.out.tab).conflict) q _ (by
    rw [List.getElem?_map]
    show ((upd gc 0 q)[q]?).map I=_
    rw [upd_at _ _ _ _ (by omega),if_neg (by omega)];rfl)
   have f5:=HB3.out.frozen (105+q)
   have c7:(w3.setCell ⟨w.heap.size+1,105+q,none⟩ (I (gc q))).cell? ⟨w.heap.size+1,121+q,none⟩=some (I 0):=(range_of hs1.blk 121 8 _ (cells_ok hs1.tab).flash) q _ (by
    rw [List.getElem?_map]
    show ((upd (fun _=>(1:Int)) 0 q)[q]?).map I=_
    rw [upd_at _ _ _ _ (by omega),if_neg (by omega)];rfl)
   have f7:=hs1.frozen (121+q)
   have HS:Hid (Bx w GenT.zHd (goodAt (q+1)) ((w3.setCell ⟨w.heap.size+1,105+q,none⟩ (I (gc q))).setCell ⟨w.heap.size+1,121+q,none⟩ (I 1))):=hJJ (by
    have h:=hs2
    simp only [goodAt] at h
    rw [e1,e2,e3] at h
    exact h)
   clear hs1 hs2 e1 e2 e3 hB3 HB3 HB ST
   have h01:q=0∨q=1:=by omega
   clear hq hlt
   rcases h01 with rfl | rfl
   ·have hg:gc 0=2:=rfl
    rw [hg] at c7 f7 HS
    rw [show ((0:Nat):Int)=(0:Int) from rfl]
    go_wp2_with (refine wpList_store_mid (by rfl) 24 _ _ rfl ⟨w.heap.size+1,0*13,none⟩ gp.cells.toArray rfl rfl HST.out ?_)
    (try go_wp2)
    go_roundw
    case rel=>exact ⟨0+1,by omega,by go_num,HS.out⟩
    case measure=>simp [intOf]
   ·have hg:gc 1=1:=rfl
    rw [hg] at c7 f7 HS
    rw [show ((1:Nat):Int)=(1:Int) from rfl]
    go_wp2_with (refine wpList_store_mid (by rfl) 24 _ _ rfl ⟨w.heap.size+1,1*13,none⟩ gp.cells.toArray rfl rfl HST.out ?_)
    (try go_wp2)
    go_roundw
    case rel=>exact ⟨1+1,by omega,by go_num,HS.out⟩
    case measure=>simp [intOf]
  ·obtain rfl:q=2:=by omega
   have hbel:Below wr.heap.size wr ((wr.alloc (.cells #[I 0,I 1] 3)).alloc (.cells #[.slice (some ⟨wr.heap.size,0,none⟩) 2 2,.slice none 0 0] 41)):=((Below.refl _ _).alloc (Nat.le_refl _) _).alloc (by simp) _
   have HW:=hJJ (HB.out.step hbel)
   have c104:((wr.alloc (.cells #[I 0,I 1] 3)).alloc (.cells #[.slice (some ⟨wr.heap.size,0,none⟩) 2 2,.slice none 0 0] 41)).cell? ⟨w.heap.size+1,104,none⟩=some (.slice none 0 0):=by rw [HW.out.cell];rfl
   have f104:=HW.out.frozen 104
   have HL:=hJJ (laid (wr:=wr) HW.out wr.heap.size HB.out.bel.size (laidG wr))
   obtain ⟨w8,hst,hbk,htab,hbel8⟩:=HL.out.store_res
   have IA:Hid ((Tryz.prog.info? 32).map (·.size)=some (goodT.cells (gHd wr.heap.size)).length):=hJJ May.infoT
   have LT:Hid (Lies _ ⟨w.heap.size+1,0,none⟩ (goodT.cells (gHd wr.heap.size))):=hJJ (by have:=Row.lies_of_block HL.out.blk;simpa using this)
   have FIN:Hid (∃ hd,Ending.returned (.agg (goodT.cells (gHd wr.heap.size)).toArray)=.returned (.agg (goodT.cells hd).toArray)∧IsTab w8 hd goodT∧Below w.heap.size w w8):=hJJ ⟨_,rfl,htab,hbel8⟩
   have HK:=hJJ hbk
   have csl:(goodT.cells (gHd wr.heap.size)).length=131:=rfl
   clear hbk htab hbel8 HL HW hbel HB ST hq hlt
   generalize goodT.cells (gHd wr.heap.size)=cs at *
   go_wp2_with (refine lgZ 32 ⟨w.heap.size+1,0,none⟩ cs rfl LT.out Tryz.underlying32 IA.out ?_)
   (try simp only [Exit.inBlock,Exit.then])
   refine bodyPost_ret (v:=.agg cs.toArray) ?_ rfl FIN.out
   exact results_cell_row rfl _ _ w.heap.size 32 _ (0,0) _ rfl HK.out Tryz.underlying32 rfl (by have:=IA.out;simpa using this)
end Good9
namespace Wa9
open Zip
open Go.ChangeShapes Go.WideShapes Go.ChangeAt Go.RowKit
open Tab Clone PlaceM PlanM OnS ChkM ChkK
open May (chain infoT)
open Same (Eqs)
theorem chk_z:chkC zTab=(8,0):=by decide +kernel
theorem chk_g:chkC Good9.goodT=(0,0):=by decide +kernel
theorem builtZ:Tryz.prog.built 32 []=some (zTab.cells zHd).toArray:=by kernel_rfl
section
variable {P:Program} {ops:Array Oper} {Q:Exit→Act→World→Prop}
theorem wpList_build0 {rest:List Oper} {o:Oper} {a:Act} {w:World} (hgd:o.guard=none) (t:TypeId) (ho:o.op=.build t #[]) (cells:Array Value) (hb:P.built t []=some cells)
  (h:wpList P ops Q rest (a.put o.dst (.agg cells)) w):wpList P ops Q (o :: rest) a w :=
 wpList_plain hgd fun _ hK=>by
  unfold Oper.wp execOp
  have hb':P.built t ((#[]:Array (Nat × Operand)).map fun (i,x)=>(i,a.eval x)).toList=some cells:=by simpa using hb
  simp only [ho,Sem.run_bind,run_build w t _ _ hb',Result.andThen_ok,Sem.run_pure]
  exact hK _ _ h
end
theorem awake_any (w:World):Calls Tryz.prog 16 #[] w fun e w'=>e=.returned (.bool true)∧Below w.heap.size w w':=by
 have BZ:=hJJ builtZ
 have CZ:Hid (∀ W,Calls Tryz.prog 14 #[.agg (zTab.cells zHd).toArray] W fun e w'=>e=.returned (.agg #[I 8,I 0])∧Below W.heap.size W w'):=hJJ (fun W=>by have:=check_any zTab zHd W (z_is W);rwa [chk_z] at this)
 have GD:Hid (∀ W,Calls Tryz.prog 55 #[] W fun e w'=>∃ c:Array Value,e=.returned (.agg c)∧Hid (Calls Tryz.prog 14 #[.agg c] w' fun e2 w2=>e2=.returned (.agg #[I 0,I 0])∧Below w'.heap.size w' w2)∧Below W.heap.size W w'):=hJJ (fun W=>(Good9.good_any W).mono (by
  rintro e w' ⟨hd,rfl,ht,hb⟩
  refine ⟨_,rfl,hJJ ?_,hb⟩
  have:=check_any Good9.goodT hd w' ht
  rwa [chk_g] at this))
 have E1:=hJJ (show Eqs 37 [I 8,I 0] [I 8,I 0] true from fault_eqs 8 0 8 0)
 have E2:=hJJ (show Eqs 37 [I 0,I 0] [I 0,I 0] true from fault_eqs 0 0 0 0)
 generalize (zTab.cells zHd).toArray=Z at BZ CZ
 go_enter Tryz.func16,Tryz.ntmps16
 go_upto_region 1 with fail
 go_wp2_with (refine wpList_build0 rfl 32 rfl Z BZ.out ?_)
 refine (CZ.out _).mono ?_
 rintro e u1 ⟨rfl,hb⟩
 have B1:=hJJ hb
 clear hb CZ BZ
 go_wp2_with (refine Row.wpList_eql 37 _ _ _ rfl (by rfl) #[I 8,I 0] #[I 8,I 0] rfl rfl guardF true E1.out ?_)
 refine (GD.out _).mono ?_
 rintro e u2 ⟨c,rfl,CG,hb⟩
 have B2:=hJJ (B1.out.trans (hb.mono B1.out.size))
 clear hb B1 GD
 go_wp2_with fail
 refine CG.out.mono ?_
 rintro e u3 ⟨rfl,hb⟩
 have B3:=hJJ (B2.out.trans (hb.mono B2.out.size))
 clear hb B2 CG
 go_wp2_with (refine Row.wpList_eql 37 _ _ _ rfl (by rfl) #[I 0,I 0] #[I 0,I 0] rfl rfl guardF true E2.out ?_)
 (try go_wp2)
 go_ret
 exact ⟨rfl,B3.out⟩
end Wa9
namespace RkB
open Zip
open Go.ChangeShapes Go.WideShapes Go.ChangeAt Go.RowKit
open Tab PlaceM PlanM OnS ChkM ChkI
open RefS (rlist_any rhas_any row_of)
open May (ret_bool infoT infoP)
theorem getD_mem {L:List Int} {q:Nat} (h:q < L.length):L.getD q 0 ∈ L:=by rw [List.getD_eq_getElem?_getD,List.getElem?_eq_getElem h];exact List.getElem_mem h
theorem any_no {f:Int→Bool} {L:List Int} (h:∀ j,j < L.length→f (L.getD j 0)=false):L.any f=false:=by
 rw [List.any_eq_false]
 intro z hz
 obtain ⟨i,hi,rfl⟩:=List.getElem_of_mem hz
 have:=h i hi
 rw [List.getD_eq_getElem?_getD,List.getElem?_eq_getElem hi] at this
 simpa using this
def pairR (T:Tab) (p q:Int):Bool:=SetM.has (cfAt T p) q || SetM.has (cfAt T q) p
theorem rclash_any (T:Tab) (h:Hd) (sa sb:Int) (w:World) (ht:IsTab w h T) :
  Calls Tryz.prog 94 #[.agg (T.cells h).toArray,.int .i64 sa,.int .i64 sb] w fun e w'=>e=.returned (.bool (clashR T sa sb))∧Below w.heap.size w w':=by
 have hsz:=(cells_ok ht).size
 have BX0:=hJJ (bxd_new ht)
 have A0:Hid (Below w.heap.size w (w.alloc (.cells (T.cells h).toArray 32))):=hJJ ((Below.refl _ _).alloc (Nat.le_refl _) _)
 obtain ⟨x,hx⟩:∃ x,x=clashR T sa sb:=⟨_,rfl⟩
 rw [← hx]
 have HX:Hid (x=(SetM.list sa).any fun p=>(SetM.list sb).any (pairR T p)):=hJJ hx
 have FR:Hid (∀ p q,pairR T p q=(SetM.has (cfAt T p) q || SetM.has (cfAt T q) p)):=hJJ (fun p q=>rfl)
 have RA:=hJJ (rlist_any sa)
 have RB:=hJJ (rlist_any sb)
 have BDA:=hJJ (fun q (hq:q ∈ SetM.list sa)=>SetM.list_bd _ q hq)
 have BDB:=hJJ (fun q (hq:q ∈ SetM.list sb)=>SetM.list_bd _ q hq)
 have hla:=SetM.list_len sa
 have hlb:=SetM.list_len sb
 generalize SetM.list sa=La at *
 generalize SetM.list sb=Lb at *
 clear ht hx
 generalize T.cells h=c at *
 go_enter Tryz.func94,Tryz.ntmps94
 go_upto_region 1 with fail
 generalize w.alloc (.cells c.toArray 32)=u at A0 BX0 ⊢
 clear hsz
 go_wp2_with fail
 refine (RA.out _).mono ?_
 rintro e u1 ⟨v,rfl,hown,hb⟩
 obtain ⟨aa,acap,rfl,hrow⟩:=row_of hown
 have HROW:=hJJ hrow
 have B0:Hid (Below w.heap.size w u1):=hJJ (A0.out.trans (hb.mono A0.out.size))
 have BX1:=hJJ (BX0.out.below hb)
 clear hown hrow hb A0 BX0
 go_wp2_with fail
 go_loopw [14] (fun i wr=>∃ q:Nat,q≤La.length∧i=.int .i64 q∧(∀ j,j < q→Lb.any (pairR T (La.getD j 0))=false)∧Below u1.heap.size u1 wr) (fun i _=>La.length - (intOf i).toNat)
 case atStart=>exact ⟨0,by omega,rfl,(fun j h=>by omega),Below.refl _ _⟩
 case round =>
  obtain ⟨q,hq,rfl,hall,hB⟩:=hrel
  have HA:=hJJ hall
  have HB:=hJJ hB
  have BW:Hid (Below w.heap.size w wr):=hJJ (B0.out.trans (hB.mono B0.out.size))
  have BX2:=hJJ (BX1.out.below hB)
  have HROWA:=hJJ (HROW.out.below hB)
  clear hall hB
  by_cases hlt:q < La.length
  ·obtain ⟨y,rfl,hcells⟩:=HROWA.out.cells hlt
   have cq:=hcells q hlt
   have hmem:=getD_mem hlt
   have hbd:=BDA.out _ hmem
   generalize hz:La.getD q 0=z at *
   have HZ:=hJJ hz
   have HM:=hJJ hmem
   clear hcells hz hmem
   obtain ⟨p,rfl⟩:=Int.eq_ofNat_of_zero_le hbd.1
   have hp8:((p:Nat):Int) < 8:=hbd.2
   go_wp2_with fail
   refine (RB.out _).mono ?_
   rintro e u2 ⟨v,rfl,hown,hb⟩
   obtain ⟨ab,bcap,rfl,hrow⟩:=row_of hown
   have HROWB:=hJJ hrow
   have HB2:=hJJ (HB.out.trans (hb.mono HB.out.size))
   have BW2:Hid (Below w.heap.size w u2):=hJJ (BW.out.trans (hb.mono BW.out.size))
   have BX:=hJJ (BX2.out.below hb)
   clear hown hrow hb cq BX2 BW HB
   go_wp2_with fail
   go_loopw [21] (fun i wk=>∃ r:Nat,r≤Lb.length∧i=.int .i64 r∧(∀ j,j < r→pairR T p (Lb.getD j 0)=false)∧wk=u2) (fun i _=>Lb.length - (intOf i).toNat)
   case atStart=>exact ⟨0,by omega,rfl,(fun j h=>by omega),rfl⟩
   case round =>
    obtain ⟨r,hr,rfl,hall2,rfl⟩:=hrel
    rename World=>wk
    have HA2:=hJJ hall2
    clear hall2
    by_cases hlt2:r < Lb.length
    ·obtain ⟨y2,rfl,hcells⟩:=HROWB.out.cells hlt2
     have cr:=hcells r hlt2
     have hmem:=getD_mem hlt2
     have hbd2:=BDB.out _ hmem
     generalize hz:Lb.getD r 0=z2 at *
     have HZ2:=hJJ hz
     have HM2:=hJJ hmem
     clear hcells hz hmem
     obtain ⟨j,rfl⟩:=Int.eq_ofNat_of_zero_le hbd2.1
     have hj8:((j:Nat):Int) < 8:=hbd2.2
     have cp:=BX.out.cf p (by omega) (by omega)
     have cj:=BX.out.cf j (by omega) (by omega)
     rw [Int.toNat_natCast] at cp cj
     have FQ:=hJJ (FR.out p j)
     have NEXT:Hid (pairR T p j=false→∀ i,i < r+1→pairR T p (Lb.getD i 0)=false):=hJJ (fun e i hi=>by
      by_cases h1:i=r
      ·subst h1;rw [HZ2.out];exact e
      ·exact HA2.out i (by omega))
     have STOP:Hid (pairR T p j=true→true=x):=hJJ (fun e=>by
      rw [HX.out];symm;rw [List.any_eq_true];exact ⟨_,HM.out,List.any_eq_true.2 ⟨_,HM2.out,e⟩⟩)
     obtain ⟨ha,hha⟩:∃ z,SetM.has (cfAt T p) j=z:=⟨_,rfl⟩
     obtain ⟨hb,hhb⟩:∃ z,SetM.has (cfAt T j) p=z:=⟨_,rfl⟩
     rw [hha,hhb] at FQ
     have HHA:=hJJ hha
     have HHB:=hJJ hhb
     clear hha hhb
     go_wp2_with fail
     refine (rhas_any _ _ _).mono ?_
     rintro e w' ⟨rfl,rfl⟩
     rw [HHA.out]
     cases ha with
     | true =>
      have SX:=hJJ (STOP.out (by rw [FQ.out];rfl))
      go_wp2
      go_ret
      exact ⟨ret_bool SX.out,BW2.out⟩
     | false =>
      go_wp2_with fail
      refine (rhas_any _ _ _).mono ?_
      rintro e w' ⟨rfl,rfl⟩
      rw [HHB.out]
      cases hb with
      | true =>
       have SX:=hJJ (STOP.out (by rw [FQ.out];rfl))
       go_wp2
       go_ret
       exact ⟨ret_bool SX.out,BW2.out⟩
      | false =>
       have NX:=hJJ (NEXT.out (by rw [FQ.out];rfl))
       go_wp2
       go_roundw
       case rel=>exact ⟨r+1,by omega,by go_num,NX.out,trivial⟩
       case measure=>simp [intOf];omega
    ·have NX:Hid (∀ i,i < q+1→Lb.any (pairR T (La.getD i 0))=false):=hJJ (fun i hi=>by
      by_cases h1:i=q
      ·subst h1;rw [HZ.out];exact any_no (fun j hj=>HA2.out j (by omega))
      ·exact HA.out i (by omega))
     go_wp2
     go_roundw
     case rel=>exact ⟨q+1,by omega,by go_num,NX.out,HB2.out⟩
     case measure=>simp [intOf];omega
  ·have SX:Hid (false=x):=hJJ (by
    rw [HX.out,any_no (f:=fun p=>Lb.any (pairR T p)) (fun j hj=>HA.out j (by omega))])
   go_wp2
   go_ret
   exact ⟨ret_bool SX.out,BW.out⟩
theorem pairs_yes {T:Tab} {L:List Int} (h:∀ i,i < L.length→∀ k,k < i→beside T (L.getD i 0) (L.getD k 0)=true):pairs T L=true:=by
 unfold pairs
 rw [List.all_eq_true]
 intro i hi
 rw [List.all_eq_true]
 intro k hk
 exact h i (List.mem_range.1 hi) k (List.mem_range.1 hk)
theorem pairs_no {T:Tab} {L:List Int} {i k:Nat} (hi:i < L.length) (hk:k < i) (h:beside T (L.getD i 0) (L.getD k 0)=false):pairs T L=false:=by
 unfold pairs
 rw [List.all_eq_false]
 refine ⟨i,List.mem_range.2 hi,?_⟩
 rw [Bool.not_eq_true,List.all_eq_false]
 exact ⟨k,List.mem_range.2 hk,by simp only [h];simp⟩
theorem exit_any (T:Tab) (h:Hd) (s:Int) (w:World) (ht:IsTab w h T) (sm:Few T) :
  Calls Tryz.prog 93 #[.agg (T.cells h).toArray,.int .i64 s] w fun e w'=>e=.returned (.bool (exitR T s))∧Below w.heap.size w w':=by
 have hsz:=(cells_ok ht).size
 have IA:Hid ((Tryz.prog.info? 32).map (·.size)=some (T.cells h).length):=hJJ (by rw [List.size_toArray] at hsz;rw [hsz];exact infoT)
 have BS:Hid (∀ (p q:Int) W,Below w.heap.size w W→Calls Tryz.prog 42 #[.agg (T.cells h).toArray,.int .i64 p,.int .i64 q] W fun e w'=>e=.returned (.bool (beside T p q))∧Below W.heap.size W w'):=hJJ (fun p q W hb=>Where.beside_any T h p q W (ht.below hb) sm)
 have LT0:=hJJ (Row.lies_new w (T.cells h).toArray 32)
 have A0:Hid (Below w.heap.size w (w.alloc (.cells (T.cells h).toArray 32))):=hJJ ((Below.refl _ _).alloc (Nat.le_refl _) _)
 obtain ⟨x,hx⟩:∃ x,x=exitR T s:=⟨_,rfl⟩
 rw [← hx]
 have HX:Hid (x=(pairs T (SetM.list s) && decide (0 < (SetM.list s).length))):=hJJ hx
 have PY:=hJJ (fun (h:∀ i,i < (SetM.list s).length→∀ k,k < i→beside T ((SetM.list s).getD i 0) ((SetM.list s).getD k 0)=true)=>pairs_yes h)
 have PN:=hJJ (fun (i k:Nat) (hi:i < (SetM.list s).length) (hk:k < i) (h:beside T ((SetM.list s).getD i 0) ((SetM.list s).getD k 0)=false)=>pairs_no hi hk h)
 have RA:=hJJ (rlist_any s)
 have hla:=SetM.list_len s
 generalize SetM.list s=L at *
 clear ht hx
 generalize T.cells h=c at *
 go_enter Tryz.func93,Tryz.ntmps93
 go_upto_region 1 with fail
 generalize w.alloc (.cells c.toArray 32)=u at A0 LT0 ⊢
 clear hsz
 go_wp2_with fail
 refine (RA.out _).mono ?_
 rintro e u1 ⟨v,rfl,hown,hb⟩
 obtain ⟨aa,acap,rfl,hrow⟩:=row_of hown
 have HROW:=hJJ hrow
 have B0:Hid (Below w.heap.size w u1):=hJJ (A0.out.trans (hb.mono A0.out.size))
 have LT1:=hJJ (LT0.out.below hb)
 clear hown hrow hb A0 LT0
 go_wp2_with fail
 go_loopw [6] (fun i wr=>∃ q:Nat,q≤L.length∧i=.int .i64 q∧(∀ i,i < q→∀ k,k < i→beside T (L.getD i 0) (L.getD k 0)=true)∧Below u1.heap.size u1 wr) (fun i _=>L.length - (intOf i).toNat)
 case atStart=>exact ⟨0,by omega,rfl,(fun j h=>by omega),Below.refl _ _⟩
 case round =>
  obtain ⟨q,hq,rfl,hall,hB⟩:=hrel
  have HA:=hJJ hall
  have HB:=hJJ hB
  clear hall hB
  by_cases hlt:q < L.length
  ·go_wp2_with fail
   go_loopw [7] (fun i wk=>∃ r:Nat,r≤q∧i=.int .i64 r∧(∀ k,k < r→beside T (L.getD q 0) (L.getD k 0)=true)∧Below wr.heap.size wr wk) (fun i _=>q - (intOf i).toNat)
   case atStart=>exact ⟨0,by omega,rfl,(fun j h=>by omega),Below.refl _ _⟩
   case round =>
    obtain ⟨r,hr,rfl,hall2,hB2⟩:=hrel
    rename World=>wk
    have HA2:=hJJ hall2
    have HB2:=hJJ hB2
    have HBK:=hJJ (HB.out.trans (hB2.mono HB.out.size))
    clear hall2 hB2
    by_cases hlt2:r < q
    ·have BW:Hid (Below w.heap.size w wk):=hJJ (B0.out.trans (HBK.out.mono B0.out.size))
     have LT:=hJJ (LT1.out.below HBK.out)
     obtain ⟨y,rfl,hcells⟩:=(HROW.out.below HBK.out).cells hlt
     have cq:=hcells q hlt
     have cr:=hcells r (by omega)
     have PNQ:=hJJ (PN.out q r hlt hlt2)
     obtain ⟨bs,hbs⟩:∃ z,beside T (L.getD q 0) (L.getD r 0)=z:=⟨_,rfl⟩
     have HBS:=hJJ hbs
     have BSQ:Hid (∀ p:Ph.S (Row.Old wk),Calls Tryz.prog 42 #[.agg c.toArray,.int .i64 (L.getD q 0),.int .i64 (L.getD r 0)] p.world fun e w'=>e=.returned (.bool bs)∧Below p.world.heap.size p.world w'):=hJJ (fun p=>by have:=BS.out (L.getD q 0) (L.getD r 0) p.world (BW.out.trans (p.is.mono BW.out.size));rwa [hbs] at this)
     clear hbs hcells
     generalize L.getD q 0=zq at *
     generalize hzr:L.getD r 0=zr at *
     have HZR:=hJJ hzr
     clear hzr
     have hne:Nonempty (Ph.S (Row.Old wk)):=⟨⟨0,wk,Below.refl _ _⟩⟩
     have CQ:∀ p:Ph.S (Row.Old wk),p.world.cell? (y.add q)=some (.int .i64 zq):=fun p=>(p.is.cell (World.block_lt_of_cell? wk _ cq)).trans cq
     have CR:∀ p:Ph.S (Row.Old wk),p.world.cell? (y.add r)=some (.int .i64 zr):=fun p=>(p.is.cell (World.block_lt_of_cell? wk _ cr)).trans cr
     clear cq cr
     have hqi:((q:Nat):Int) < (L.length:Nat):=by omega
     have hri:((r:Nat):Int) < (L.length:Nat):=by omega
     have hrq:((r:Nat):Int) < (q:Nat):=by omega
     go_upto_region 8 with fail
     refine Pw.region (Row.Old wk) [] hmx (by kernel_rfl) (Row.Old.drew _) ?_
     refine Pw.load rfl (by rfl) 32 _ rfl ⟨w.heap.size,0,none⟩ rfl c _ (fun p=>LT.out.below p.is) Tryz.underlying32 rfl IA.out ?_
     (try dsimp only [Act.put]);(try simp only [zA,zB,zC])
     iterate 8
      (refine Pw.calm rfl (fun K hK=>?_)
       go_simp
       refine hK _ ?_
       clear hK K)
     (refine Pw.calm rfl (fun K hK=>?_)
      go_simp
      refine ⟨_,fun p=>Row.Old.call (BSQ.out p),hK _ ?_⟩
      clear hK K)
     iterate 1
      (refine Pw.calm rfl (fun K hK=>?_)
       go_simp
       refine hK _ ?_
       clear hK K)
     refine Pw.nil ?_
     intro uz hbz
     have EZ:Hid (Below w.heap.size w uz):=hJJ (BW.out.trans (hbz.mono BW.out.size))
     have EK:=hJJ (HB2.out.trans (hbz.mono HB2.out.size))
     clear hbz CQ CR hne
     cases bs with
     | true =>
      have NX:Hid (∀ k,k < r+1→beside T zq (L.getD k 0)=true):=hJJ (fun k hk=>by
       by_cases h1:k=r
       ·subst h1;rw [HZR.out];exact HBS.out
       ·exact HA2.out k (by omega))
      go_wp2
      go_roundw
      case rel=>exact ⟨r+1,by omega,by go_num,NX.out,EK.out⟩
      case measure=>simp [intOf];omega
     | false =>
      have SX:Hid (false=x):=hJJ (by rw [HX.out,PNQ.out HBS.out];rfl)
      go_wp2
      go_ret
      exact ⟨ret_bool SX.out,EZ.out⟩
    ·have NX:Hid (∀ i,i < q+1→∀ k,k < i→beside T (L.getD i 0) (L.getD k 0)=true):=hJJ (fun i hi k hk=>by
      by_cases h1:i=q
      ·subst h1;exact HA2.out k (by omega)
      ·exact HA.out i (by omega) k hk)
     go_wp2
     go_roundw
     case rel=>exact ⟨q+1,by omega,by go_num,NX.out,HBK.out⟩
     case measure=>simp [intOf];omega
  ·have SX:Hid (x=decide (0 < L.length)):=hJJ (by
    rw [HX.out,PY.out (fun i hi k hk=>HA.out i (by omega) k hk)];simp)
   have BW:Hid (Below w.heap.size w wr):=hJJ (B0.out.trans (HB.out.mono B0.out.size))
   go_wp2
   go_ret
   exact ⟨ret_bool (by rw [SX.out]),BW.out⟩
end RkB
namespace RkC
open Go.ChangeShapes Go.WideShapes Go.ChangeAt Go.RowKit
open Tab PlaceM PlanM OnS ChkM ChkA
open ChkB (laid2)
open May (ret_bool infoT infoR)
def timesOk (r:Rl):Bool:=(decide (0 < r.hold) == (r.clear != 0)) && (decide (1≤r.green) && (decide (1≤r.stay) && ((r.most == 0 || decide (r.stay≤r.most)) && decide (r.delay < r.limit))))
end RkC
namespace Early
open Go Go.RowKit
def outB (ops:Array Oper):List Oper→Act→Option Act
 | [],a=>some a
 | o :: l,a =>
  if Region.wanted o (yielded ops a.tmps) then
   (match o.op with
    | .move x=>outB ops l (a.put o.dst (a.eval x))
    | .assign x=>outB ops l (a.put o.dst (a.eval x))
    | .pick c x y=>(match a.eval c with
     | .bool b=>outB ops l (a.put o.dst (if b then a.eval x else a.eval y))
     | _=>none)
    | _=>none)
  else outB ops l (a.put o.dst undef)
theorem out {P:Program} {ops:Array Oper} {Q:Exit→Act→World→Prop} {w:World}:∀ {l:List Oper} {a a':Act},outB ops l a=some a'→Q .normal a' w→wpList P ops Q l a w
 | [],a,a',h,hQ=>by
  obtain rfl:a=a':=Option.some.inj h
  exact hQ
 | o :: l,a,a',h,hQ=>by
  unfold outB at h
  unfold wpList
  split at h
  ·rename_i hw
   rw [if_pos hw]
   refine .inl ?_
   obtain ⟨dst,op,type,pos,after,guard⟩:=o
   unfold Oper.wp
   cases op with
   | move x=>exact out (l:=l) h hQ
   | assign x=>exact out (l:=l) h hQ
   | pick c x y =>
    dsimp only at h
    have hx:∀ b,a.eval c=.bool b→(execOp a.eval { dst,op:=.pick c x y,type,pos,after,guard }).run P w=.ok (.value (if b then a.eval x else a.eval y)) w:=by
     intro b hb
     simp only [execOp,hb]
     cases b <;> rfl
    cases hc:a.eval c with
    | bool b =>
     rw [hc] at h
     rw [hx b hc]
     exact out (l:=l) h hQ
    | _=>rw [hc] at h;cases h
   | _=>cases h
  ·rename_i hw
   rw [if_neg hw]
   exact out (l:=l) h hQ
theorem out_get {P:Program} {ops:Array Oper} {Q:Exit→Act→World→Prop} {w:World} {l:List Oper} {a:Act} (h:(outB ops l a).isSome=true) (hQ:Q .normal ((outB ops l a).getD a) w):wpList P ops Q l a w:=by
 cases e:outB ops l a with
 | none=>rw [e] at h;cases h
 | some a'=>rw [e] at hQ;exact out e hQ
theorem skip {P:Program} {ops:Array Oper} {Q:Exit→Act→World→Prop} {w:World} {o:Oper} {l:List Oper} {a:Act} (h:Region.wanted o (yielded ops a.tmps)=false) (hr:wpList P ops Q l (a.put o.dst undef) w):wpList P ops Q (o :: l) a w:=by
 unfold wpList
 rw [if_neg (by rw [h];simp)]
 exact hr
end Early
namespace RkC
open Zip
open Go.ChangeShapes Go.WideShapes Go.ChangeAt Go.RowKit
open Tab PlaceM PlanM OnS ChkM ChkA
open ChkB (laid2)
open May (ret_bool infoT infoR)
theorem rail_0 (T:Tab) (h:Hd) (r:Rl) (w:World) (ht:IsTab w h T) (sm:Few T) (z0:inR (or4 r) (onS T:Nat)=false) :
  Calls Tryz.prog 52 #[.agg (T.cells h).toArray,.agg r.cells.toArray,.int .i64 (onS T:Nat)] w fun e w'=>e=.returned (.bool (railOk T r))∧Below w.heap.size w w':=by
 have hsz:=(cells_ok ht).size
 have IA:Hid ((Tryz.prog.info? 32).map (·.size)=some (T.cells h).length):=hJJ (by rw [List.size_toArray] at hsz;rw [hsz];exact infoT)
 have AO:Hid (∀ W,Calls Tryz.prog 53 #[.int .i64 (or4 r),.int .i64 (onS T:Nat)] W fun e w'=>e=.returned (.bool (inR (or4 r) (onS T:Nat)))∧W=w'):=hJJ (fun W=>RkA.in_any _ _ W)
 have CL:Hid (∀ s W,Below w.heap.size w W→Calls Tryz.prog 94 #[.agg (T.cells h).toArray,.int .i64 s,.int .i64 s] W fun e w'=>e=.returned (.bool (clashR T s s))∧Below W.heap.size W w'):=hJJ (fun s W hb=>RkB.rclash_any T h s s W (ht.below hb))
 have AB:Hid (∀ s W,Below w.heap.size w W→Calls Tryz.prog 93 #[.agg (T.cells h).toArray,.int .i64 s] W fun e w'=>e=.returned (.bool (exitR T s))∧Below W.heap.size W w'):=hJJ (fun s W hb=>RkB.exit_any T h s W (ht.below hb) sm)
 obtain ⟨x,hx⟩:∃ x,x=railOk T r:=⟨_,rfl⟩
 rw [← hx]
 have HR:Hid (x=((inR (or4 r) (onS T:Nat) && (r.dwell != 0 && (bits .and .i64 r.dwell r.bars == 0 && exitR T r.exit))) && (!clashR T r.clear r.clear && (!clashR T r.dwell r.dwell && (!clashR T r.exit r.exit && timesOk r))))):=hJJ hx
 have LT0:=hJJ (Row.lies_new w (T.cells h).toArray 32)
 have hs1:(w.alloc (.cells (T.cells h).toArray 32)).heap.size=w.heap.size+1:=by simp
 have hone:=Rl.one r
 have hsz2:r.cells.toArray.size=11:=rfl
 have RC:=hJJ (rail_cells r)
 have O4:Hid (bits .or .i64 (bits .or .i64 (bits .or .i64 r.bars r.clear) r.dwell) r.exit=or4 r):=hJJ rfl
 obtain ⟨a1,ha1⟩:∃ z,inR (or4 r) (onS T:Nat)=z:=⟨_,rfl⟩
 obtain ⟨c1,hc1⟩:∃ z,clashR T r.clear r.clear=z:=⟨_,rfl⟩
 obtain ⟨c2,hc2⟩:∃ z,clashR T r.dwell r.dwell=z:=⟨_,rfl⟩
 obtain ⟨c3,hc3⟩:∃ z,clashR T r.exit r.exit=z:=⟨_,rfl⟩
 obtain ⟨b1,hb1⟩:∃ z,exitR T r.exit=z:=⟨_,rfl⟩
 have CL1:=hJJ (CL.out r.clear)
 have CL2:=hJJ (CL.out r.dwell)
 have CL3:=hJJ (CL.out r.exit)
 have AB1:=hJJ (AB.out r.exit)
 rw [ha1] at AO HR
 rw [hc1] at CL1 HR
 rw [hc2] at CL2 HR
 rw [hc3] at CL3 HR
 rw [hb1] at AB1 HR
 have TO:Hid (timesOk r=((decide (0 < r.hold) == (r.clear != 0)) && (decide (1≤r.green) && (decide (1≤r.stay) && ((r.most == 0 || decide (r.stay≤r.most)) && decide (r.delay < r.limit)))))):=hJJ rfl
 rw [show a1=false from ha1.symm.trans z0] at AO HR
 clear hx ht CL AB ha1 hc1 hc2 hc3 hb1
 generalize timesOk r=tk at *
 clear z0
 generalize or4 r=o4 at *
 generalize r.cells=rc at *
 obtain ⟨bars,clear_,dwell,exit,delay,green,foot,hold,stay,most,limit⟩:=r
 dsimp only at *
 generalize T.cells h=c at *
 generalize (((onS T:Nat)):Int)=on at *
 go_enter Tryz.func52,Tryz.ntmps52
 go_upto_region 1 with fail
 obtain ⟨u,hu,E1,E0,EB,b1'⟩:=laid2 w (.cells c.toArray 32) (.cells rc.toArray 47)
 rw [hu]
 have A0:=hJJ E0
 have A1:=hJJ (LT0.out.below (by rw [hs1];exact EB))
 have A2:Hid (u.heap[w.heap.size+1]?=some (.cells rc.toArray 47 (0,0))):=hJJ b1'
 clear hu EB LT0 b1' hs1 hsz hsz2 hone E0 E1
 obtain ⟨q0,q1,q2,q3,q4,q5,q7,q8,q9,q10⟩:=RC.out _ _ A2.out
 go_wp2_with fail
 rw [O4.out]
 refine (AO.out _).mono ?_
 rintro e w' ⟨rfl,rfl⟩
 rename_i Q1 K1 hK1 K2 hK2
 refine hK2 _ _ ?_
 have HX:Hid (false=x):=hJJ (by rw [HR.out];rfl)
 clear HR RC
 refine Early.out_get (by kernel_rfl) ?_
 refine hK1 _ _ ?_
 refine wp_seq (wp_region_lit ?_)
 refine Early.out_get (by kernel_rfl) ?_
 refine wp_ret ?_
 exact bodyPost_ret (v:=.bool false) (by kernel_rfl) (by kernel_rfl) ⟨ret_bool HX.out,A0.out⟩
end RkC
end Go.Proofs.YtjolhoilcibdfaaGreat
