/- 7 texts in one file, in build order. -/
import Derived.Test.YtkkfdojjecagmaaGreatPart01
import Derived.Test.YtkkfdojjecagmaaGreatRows
import Derived.Test.YtkkfdojjecagmaaGreatPart08
import Derived.Test.YtkkfdojjecagmaaGreatPart02
import Derived.Test.YtkkfdojjecagmaaGreatPart05
import Derived.Deep.Cut
import Derived.LoopTactic
import Derived.Great.BuildSlice
import Derived.Deep.Slices
import Derived.ChangeSame
import Derived.Laws.Cover2
set_option linter.unusedVariables false
set_option linter.unusedSimpArgs false
set_option linter.unusedSectionVars false
set_option maxHeartbeats 8000000
set_option maxRecDepth 100000
namespace Go.Proofs.YtkkfdojjecagmaaGreat
namespace ChkK
open Zip
open Go.ChangeShapes Go.WideShapes Go.ChangeAt Go.RowKit
open Tab PlaceM PlanM OnS ChkM ChkA ChkH ChkQ
open ChkB (laid2)
open Same (below_setRow Eqs eqs_of)
open Flat
open May (ret_bool infoT tabMay)
theorem lerr (a b:Int):LeafEq Tryz.prog 35 (I a,I b):=leaf_int Tryz.underlying35 a b
theorem flatFt:flat Tryz.prog 3 40=some [35,3]:=by kernel_rfl
theorem guardF:Tryz.prog.eqGuardType Tryz.prog.depth 40=false:=by kernel_rfl
theorem fault_eqs (a b c d:Int):Eqs 40 [I a,I b] [I c,I d] (decide (a=c∧b=d)):=by
 refine eqs_of flatFt (by decide) (by kernel_rfl) [(I a,I c),(I b,I d)] ⟨lerr _ _,Same.lint _ _,trivial⟩ rfl rfl ?_
 simp
theorem ranges_any (T:Tab) (h:Hd) (w:World) (ht:IsTab w h T) :
  Calls Tryz.prog 113 #[.agg (T.cells h).toArray] w fun e w'=>e=.returned (.agg (fltC 4 (mayF T)))∧Below w.heap.size w w':=by
 have hsz:=(cells_ok ht).size
 have IA:Hid ((Tryz.prog.info? 31).map (·.size)=some (T.cells h).length):=hJJ (by rw [List.size_toArray] at hsz;rw [hsz];exact infoT)
 have MY:Hid (∀ W,Below w.heap.size w W→Calls Tryz.prog 32 #[.agg (T.cells h).toArray] W fun e w'=>e=.returned (.bool (tabMay T))∧Below W.heap.size W w'):=hJJ (fun W hb=>May.may_any T h W (ht.below hb))
 have LT0:=hJJ (Row.lies_new w (T.cells h).toArray 31)
 have hs1:(w.alloc (.cells (T.cells h).toArray 31)).heap.size=w.heap.size+1:=by simp
 have MF:Hid (mayF T=if tabMay T then none else some 0):=hJJ rfl
 generalize mayF T=o at MF ⊢
 generalize tabMay T=b at MF MY
 clear ht
 generalize T.cells h=c at *
 go_enter Tryz.func113,Tryz.ntmps113
 go_upto_region 1 with fail
 obtain ⟨W1,hW1,E1,E0,EB,bR⟩:=laid2 w (.cells c.toArray 31) (.cells #[.int .i64 0,.int .i64 0] 40)
 rw [hW1]
 have LT:=hJJ (LT0.out.below (by rw [hs1];exact EB))
 have B0:=hJJ E0
 clear hW1 EB hs1 hsz LT0 E0 E1
 go_wp2_with (refine lgZ 31 ⟨w.heap.size,0,none⟩ c rfl LT.out Tryz.underlying31 IA.out ?_)
 (try go_wp2_with fail)
 refine (MY.out _ B0.out).mono ?_
 rintro e u1 ⟨rfl,hb⟩
 have C0:Hid (Below w.heap.size w u1):=hJJ (B0.out.trans (hb.mono B0.out.size))
 have C2:Hid (u1.heap[w.heap.size+1]?=some (.cells #[.int .i64 0,.int .i64 0] 40 (0,0))):=hJJ ((hb.block _ (Array.getElem?_eq_some_iff.1 bR).1).trans bR)
 clear hb bR B0
 cases b with
 | true =>
  have RO:Hid (o=none):=hJJ (by rw [MF.out];rfl)
  have HW:=hJJ (below_setRow C0.out (g:=w.heap.size+1) (by omega) #[.int .i64 0,.int .i64 0])
  have HK:=hJJ (setRow_heap u1 (w.heap.size+1) _ #[.int .i64 0,.int .i64 0] _ _ C2.out)
  go_wp2_with (first | (refine wpList_store_row rfl 40 _ _ rfl (w.heap.size+1) #[.int .i64 0,.int .i64 0] rfl rfl 40 _ C2.out infoF rfl (by simp [Value.oneCell']) ?_))
  generalize u1.setRow (w.heap.size+1) #[.int .i64 0,.int .i64 0]=uz at HW HK ⊢
  (try go_wp2_with fail)
  (try simp only [Exit.inBlock,Exit.then])
  refine bodyPost_ret (v:=.agg #[.int .i64 0,.int .i64 0]) ?_ rfl ⟨by rw [RO.out];rfl,HW.out⟩
  exact results_cell_row rfl _ _ (w.heap.size+1) 40 _ (0,0) _ rfl HK.out Tryz.underlying40 rfl infoF
 | false =>
  have RO:Hid (o=some 0):=hJJ (by rw [MF.out];rfl)
  have HW:=hJJ (below_setRow C0.out (g:=w.heap.size+1) (by omega) #[.int .i64 4,.int .i64 0])
  have HK:=hJJ (setRow_heap u1 (w.heap.size+1) _ #[.int .i64 4,.int .i64 0] _ _ C2.out)
  go_wp2_with (first | (refine wpList_store_row rfl 40 _ _ rfl (w.heap.size+1) #[.int .i64 4,.int .i64 0] rfl rfl 40 _ C2.out infoF rfl (by simp [Value.oneCell']) ?_))
  generalize u1.setRow (w.heap.size+1) #[.int .i64 4,.int .i64 0]=uz at HW HK ⊢
  (try go_wp2_with fail)
  (try simp only [Exit.inBlock,Exit.then])
  refine bodyPost_ret (v:=.agg #[.int .i64 4,.int .i64 0]) ?_ rfl ⟨by rw [RO.out];rfl,HW.out⟩
  exact results_cell_row rfl _ _ (w.heap.size+1) 40 _ (0,0) _ rfl HK.out Tryz.underlying40 rfl infoF
theorem det_ok {T:Tab} {d:Det} (h:tabMay T=true) (hd:d ∈ T.dets):Fl.isn d.on=false∧Fl.isn d.off=false∧0≤d.phase∧d.phase < 8:=by
 have h1:May.Det.may d=true:=by
  unfold tabMay at h
  simp only [Bool.and_eq_true] at h
  have h2:May.listMay 16 May.Det.may T.dets=true:=by simp [h]
  unfold May.listMay at h2
  rw [Bool.and_eq_true,List.all_eq_true] at h2
  exact h2.2 d hd
 unfold May.Det.may MayF.level May.allIn May.inB at h1
 simp only [Bool.and_eq_true,List.all_cons,List.all_nil,Bool.and_true,decide_eq_true_eq,Bool.not_eq_true'] at h1
 obtain ⟨⟨h2,h3⟩,⟨⟨h4,_⟩,_⟩,⟨⟨h5,_⟩,_⟩,_⟩:=h1
 exact ⟨h4,h5,h2,by omega⟩
theorem none_may {T:Tab} (h:mayF T=none):tabMay T=true:=by
 unfold mayF at h
 cases hm:tabMay T with
 | true=>rfl
 | false=>rw [hm] at h;simp at h
theorem idx8_0 (v0 v1 v2 v3 v4 v5 v6 v7:Value) (w:World):Sem.run Tryz.prog (Instr.index 107 (.agg #[v0,v1,v2,v3,v4,v5,v6,v7]) (.int .i64 0)) w=.ok v0 w:=by kernel_rfl
theorem idx8_1 (v0 v1 v2 v3 v4 v5 v6 v7:Value) (w:World):Sem.run Tryz.prog (Instr.index 107 (.agg #[v0,v1,v2,v3,v4,v5,v6,v7]) (.int .i64 1)) w=.ok v1 w:=by kernel_rfl
theorem idx8_2 (v0 v1 v2 v3 v4 v5 v6 v7:Value) (w:World):Sem.run Tryz.prog (Instr.index 107 (.agg #[v0,v1,v2,v3,v4,v5,v6,v7]) (.int .i64 2)) w=.ok v2 w:=by kernel_rfl
theorem idx8_3 (v0 v1 v2 v3 v4 v5 v6 v7:Value) (w:World):Sem.run Tryz.prog (Instr.index 107 (.agg #[v0,v1,v2,v3,v4,v5,v6,v7]) (.int .i64 3)) w=.ok v3 w:=by kernel_rfl
theorem idx8_4 (v0 v1 v2 v3 v4 v5 v6 v7:Value) (w:World):Sem.run Tryz.prog (Instr.index 107 (.agg #[v0,v1,v2,v3,v4,v5,v6,v7]) (.int .i64 4)) w=.ok v4 w:=by kernel_rfl
theorem idx8_5 (v0 v1 v2 v3 v4 v5 v6 v7:Value) (w:World):Sem.run Tryz.prog (Instr.index 107 (.agg #[v0,v1,v2,v3,v4,v5,v6,v7]) (.int .i64 5)) w=.ok v5 w:=by kernel_rfl
theorem idx8_6 (v0 v1 v2 v3 v4 v5 v6 v7:Value) (w:World):Sem.run Tryz.prog (Instr.index 107 (.agg #[v0,v1,v2,v3,v4,v5,v6,v7]) (.int .i64 6)) w=.ok v6 w:=by kernel_rfl
theorem idx8_7 (v0 v1 v2 v3 v4 v5 v6 v7:Value) (w:World):Sem.run Tryz.prog (Instr.index 107 (.agg #[v0,v1,v2,v3,v4,v5,v6,v7]) (.int .i64 7)) w=.ok v7 w:=by kernel_rfl
theorem check_any (T:Tab) (h:Hd) (w:World) (ht:IsTab w h T) :
  Calls Tryz.prog 24 #[.agg (T.cells h).toArray] w fun e w'=>e=.returned (.agg (fcells (chkC T)))∧Below w.heap.size w w':=by
 have hsz:=(cells_ok ht).size
 have IA:Hid ((Tryz.prog.info? 31).map (·.size)=some (T.cells h).length):=hJJ (by rw [List.size_toArray] at hsz;rw [hsz];exact infoT)
 have LT0:=hJJ (Row.lies_new w (T.cells h).toArray 31)
 have hs1:(w.alloc (.cells (T.cells h).toArray 31)).heap.size=w.heap.size+1:=by simp
 have RU0:Hid (∀ n W,Below w.heap.size w W→Lie n W→Calls Tryz.prog 113 #[.agg (T.cells h).toArray] W fun e w'=>e=.returned (.agg (fltC 4 (mayF T)))∧Below W.heap.size W w'):=hJJ (fun n W hb hl=>ranges_any T h W (ht.below hb))
 have RU1:Hid (∀ n W,Below w.heap.size w W→Lie n W→Calls Tryz.prog 148 #[.agg (T.cells h).toArray,.pointer (some ⟨n+1+1,0,none⟩),.pointer (some ⟨n+1,0,none⟩)] W fun e w'=>e=.returned (.agg (fltC 7 ((ons T).find? fun p=>phBad (phAt T p))))∧Below W.heap.size W w'):=hJJ (fun n W hb hl=>ChkP.phases_P T h 7 (n+1+1) (n+1) (fun p=>phBad (phAt T p)) W (ht.below hb) hl.c2 hl.c1 (fun k W' hk hb'=>ChkB.badPhase_any T h k hk W' ((ht.below hb).below hb')))
 have RU2:Hid (∀ n W,Below w.heap.size w W→Lie n W→Calls Tryz.prog 116 #[.agg (T.cells h).toArray] W fun e w'=>e=.returned (.agg (fltC 8 (ringsC T)))∧Below W.heap.size W w'):=hJJ (fun n W hb hl=>by have:=rings_any T h W (ht.below hb);rwa [flt_agg] at this)
 have RU3:Hid (∀ n W,Below w.heap.size w W→Lie n W→Calls Tryz.prog 148 #[.agg (T.cells h).toArray,.pointer (some ⟨n+3+1,0,none⟩),.pointer (some ⟨n+3,0,none⟩)] W fun e w'=>e=.returned (.agg (fltC 9 ((ons T).find? (confBad T))))∧Below W.heap.size W w'):=hJJ (fun n W hb hl=>ChkP.phases_C T h 9 (n+3+1) (n+3) (confBad T) W (ht.below hb) hl.c4 hl.c3 (fun k W' hk hb'=>ChkJ.badConflict_any T h k hk W' ((ht.below hb).below hb')))
 have RU4:Hid (mayF T=none→∀ n W,Below w.heap.size w W→Lie n W→Calls Tryz.prog 155 #[.agg (T.cells h).toArray,.pointer (some ⟨n+5+1,0,none⟩),.pointer (some ⟨n+5+1+1,0,none⟩),.pointer (some ⟨n+5,0,none⟩)] W fun e w'=>e=.returned (.agg (fltC 10 (idx (detBad T) T.dets)))∧Below W.heap.size W w'):=hJJ (fun hm0=>have hm:=none_may hm0;fun n W hb hl=>ChkE.elem_D T h 10 (n+5+1) (n+5+1+1) (n+5) (detBad T) W (ht.below hb) hl.c6 hl.c7 hl.c5 (fun v W' hv hb'=>ChkB.badDetector_any T h v W' ((ht.below hb).below hb') (det_ok hm hv).1 (det_ok hm hv).2.1 (det_ok hm hv).2.2))
 have RU5:Hid (∀ n W,Below w.heap.size w W→Lie n W→Calls Tryz.prog 156 #[.agg (T.cells h).toArray,.pointer (some ⟨n+8+1,0,none⟩),.pointer (some ⟨n+8+1+1,0,none⟩),.pointer (some ⟨n+8,0,none⟩)] W fun e w'=>e=.returned (.agg (fltC 11 (idx (railBad T) T.rails)))∧Below W.heap.size W w'):=hJJ (fun n W hb hl=>ChkE.elem_R T h 11 (n+8+1) (n+8+1+1) (n+8) (railBad T) W (ht.below hb) hl.c9 hl.c10 hl.c8 (fun v W' hv hb'=>ChkR.badRail_any T h v W' ((ht.below hb).below hb')))
 have RU6:Hid (∀ n W,Below w.heap.size w W→Lie n W→Calls Tryz.prog 161 #[.agg (T.cells h).toArray,.pointer (some ⟨n+11+1,0,none⟩),.pointer (some ⟨n+11+1+1,0,none⟩),.pointer (some ⟨n+11,0,none⟩)] W fun e w'=>e=.returned (.agg (fltC 12 (idx (busBad T) T.buses)))∧Below W.heap.size W w'):=hJJ (fun n W hb hl=>ChkE.elem_B T h 12 (n+11+1) (n+11+1+1) (n+11) (busBad T) W (ht.below hb) hl.c12 hl.c13 hl.c11 (fun v W' hv hb'=>ChkB.badBus_any T h v W' ((ht.below hb).below hb')))
 have RU7:Hid (∀ n W,Below w.heap.size w W→Lie n W→Calls Tryz.prog 148 #[.agg (T.cells h).toArray,.pointer (some ⟨n+14+1,0,none⟩),.pointer (some ⟨n+14,0,none⟩)] W fun e w'=>e=.returned (.agg (fltC 13 ((ons T).find? (flashBad T))))∧Below W.heap.size W w'):=hJJ (fun n W hb hl=>ChkP.phases_F T h 13 (n+14+1) (n+14) (flashBad T) W (ht.below hb) hl.c15 hl.c14 (fun k W' hk hb'=>ChkY.badFlash_any T h k hk W' ((ht.below hb).below hb')))
 obtain ⟨o0,ho0⟩:∃ z,(mayF T)=z:=⟨_,rfl⟩
 obtain ⟨o1,ho1⟩:∃ z,((ons T).find? fun p=>phBad (phAt T p))=z:=⟨_,rfl⟩
 obtain ⟨o2,ho2⟩:∃ z,(ringsC T)=z:=⟨_,rfl⟩
 obtain ⟨o3,ho3⟩:∃ z,((ons T).find? (confBad T))=z:=⟨_,rfl⟩
 obtain ⟨o4,ho4⟩:∃ z,(idx (detBad T) T.dets)=z:=⟨_,rfl⟩
 obtain ⟨o5,ho5⟩:∃ z,(idx (railBad T) T.rails)=z:=⟨_,rfl⟩
 obtain ⟨o6,ho6⟩:∃ z,(idx (busBad T) T.buses)=z:=⟨_,rfl⟩
 obtain ⟨o7,ho7⟩:∃ z,((ons T).find? (flashBad T))=z:=⟨_,rfl⟩
 obtain ⟨l,hl⟩:∃ z,z=rulesC T:=⟨_,rfl⟩
 have CK:Hid (chkC T=firstF l):=hJJ (by rw [hl];rfl)
 unfold rulesC at hl
 rw [ho0,ho1,ho2,ho3,ho4,ho5,ho6,ho7] at hl
 rw [ho0] at RU0
 rw [ho1] at RU1
 rw [ho2] at RU2
 rw [ho3] at RU3
 rw [ho4] at RU4
 rw [ho5] at RU5
 rw [ho6] at RU6
 rw [ho7] at RU7
 rw [ho0] at RU4
 have LL0:Hid (l[0]?=some (4,o0)):=hJJ (by rw [hl];rfl)
 have LL1:Hid (l[1]?=some (7,o1)):=hJJ (by rw [hl];rfl)
 have LL2:Hid (l[2]?=some (8,o2)):=hJJ (by rw [hl];rfl)
 have LL3:Hid (l[3]?=some (9,o3)):=hJJ (by rw [hl];rfl)
 have LL4:Hid (l[4]?=some (10,o4)):=hJJ (by rw [hl];rfl)
 have LL5:Hid (l[5]?=some (11,o5)):=hJJ (by rw [hl];rfl)
 have LL6:Hid (l[6]?=some (12,o6)):=hJJ (by rw [hl];rfl)
 have LL7:Hid (l[7]?=some (13,o7)):=hJJ (by rw [hl];rfl)
 have LE:Hid (∀ (j:Nat) x,l[j]?=some x→j < 8):=hJJ (fun j x hx=>by have:=(List.getElem?_eq_some_iff.1 hx).1;rw [hl] at this;simpa using this)
 generalize chkC T=ck at CK ⊢
 clear hl ht ho0 ho1 ho2 ho3 ho4 ho5 ho6 ho7
 generalize T.cells h=c at *
 go_enter Tryz.func24,Tryz.ntmps24
 go_upto_region 1 with fail
 obtain ⟨W1,hW1,E1,E0,EB,bR⟩:=laid2 w (.cells c.toArray 31) (.cells #[.int .i64 0,.int .i64 0] 40)
 rw [hW1]
 have LT1:=hJJ (LT0.out.below (by rw [hs1];exact EB))
 have B0:=hJJ E0
 clear hW1 EB hs1 hsz LT0 E0 E1
 go_wp2_with fail
 refine (rules_any _).mono ?_
 rintro e W2 ⟨rfl,hlie,hb⟩
 have C0:Hid (Below w.heap.size w W2):=hJJ (B0.out.trans (hb.mono B0.out.size))
 have C2:Hid (W2.heap[w.heap.size+1]?=some (.cells #[.int .i64 0,.int .i64 0] 40 (0,0))):=hJJ ((hb.block _ (Array.getElem?_eq_some_iff.1 bR).1).trans bR)
 have LT:=hJJ (LT1.out.below hb)
 have LI:=hJJ hlie
 clear hb bR B0 hlie LT1
 generalize W1.heap.size=n at *
 unfold fns
 go_wp2_with fail
 go_loopw [7] (fun a wr=>∃ q:Nat,q≤8∧a=.int .i64 q∧(∀ (j:Nat) x,j < q→l[j]?=some x→x.2=none)∧Below W2.heap.size W2 wr) (fun a _=>8 - (intOf a).toNat)
 case atStart=>exact ⟨0,by omega,rfl,(fun j x h=>by omega),Below.refl _ _⟩
 case round =>
  obtain ⟨q,hq,rfl,hall,hB⟩:=hrel
  have HA:=hJJ hall
  have HB:=hJJ hB
  have BW:Hid (Below w.heap.size w wr):=hJJ (C0.out.trans (hB.mono C0.out.size))
  have LTW:=hJJ (LT.out.below hB)
  have LIW:=hJJ (LI.out.below hB)
  clear hall hB
  have hq9:q=0∨q=1∨q=2∨q=3∨q=4∨q=5∨q=6∨q=7∨q=8:=by omega
  clear hq
  rcases hq9 with rfl | rfl | rfl | rfl | rfl | rfl | rfl | rfl | rfl
  ·rw [show ((0:Nat):Int)=(0:Int) from rfl]
   have ix:=idx8_0 (.func (.func 113) #[] #[]) (.func (.func 148) #[] #[.pointer (some ⟨n+1+1,0,none⟩),.pointer (some ⟨n+1,0,none⟩)]) (.func (.func 116) #[] #[]) (.func (.func 148) #[] #[.pointer (some ⟨n+3+1,0,none⟩),.pointer (some ⟨n+3,0,none⟩)]) (.func (.func 155) #[] #[.pointer (some ⟨n+5+1,0,none⟩),.pointer (some ⟨n+5+1+1,0,none⟩),.pointer (some ⟨n+5,0,none⟩)]) (.func (.func 156) #[] #[.pointer (some ⟨n+8+1,0,none⟩),.pointer (some ⟨n+8+1+1,0,none⟩),.pointer (some ⟨n+8,0,none⟩)]) (.func (.func 161) #[] #[.pointer (some ⟨n+11+1,0,none⟩),.pointer (some ⟨n+11+1+1,0,none⟩),.pointer (some ⟨n+11,0,none⟩)]) (.func (.func 148) #[] #[.pointer (some ⟨n+14+1,0,none⟩),.pointer (some ⟨n+14,0,none⟩)])
   have NX:Hid (o0=none→∀ (i:Nat) x,i < 0+1→l[i]?=some x→x.2=none):=hJJ (fun e i x hi hx=>by
    by_cases hij:i=0
    ·subst hij;obtain rfl:=Option.some.inj (hx.symm.trans LL0.out);exact e
    ·exact HA.out i x (by omega) hx)
   have HIT:Hid (∀ p,o0=some p→ck=(4,p)):=hJJ (fun p e=>by rw [CK.out];exact first_hit (q:=0) (by rw [LL0.out,e]) HA.out)
   have RC:=hJJ (RU0.out n _ BW.out LIW.out)
   clear RU0 RU1 RU2 RU3 RU4 RU5 RU6 RU7 LL0 LL1 LL2 LL3 LL4 LL5 LL6 LL7 LE HA LIW
   go_wp2_with (refine lgZ 31 ⟨w.heap.size,0,none⟩ c rfl LTW.out Tryz.underlying31 IA.out ?_)
   (try go_wp2_with fail)
   clear ix
   refine RC.out.mono ?_
   rintro e u1 ⟨rfl,hb⟩
   have D0:Hid (Below w.heap.size w u1):=hJJ (BW.out.trans (hb.mono BW.out.size))
   have D3:=hJJ (HB.out.trans (hb.mono HB.out.size))
   clear hb BW HB LTW RC
   cases o0 with
   | none =>
    have NN:=hJJ (NX.out rfl)
    clear NX HIT
    go_upto_region 5 with (refine Row.wpList_store_new rfl 40 _ _ rfl u1 _ #[I 0,I 0] rfl rfl rfl infoF rfl (by simp [Value.oneCell']) ?_)
    have hg:=Row.lies_new u1 #[I 0,I 0] 40
    have HL:Hid (Lies (u1.alloc (.cells #[I 0,I 0] 40)) ⟨u1.heap.size,0,none⟩ #[I 0,I 0].toList):=hJJ hg
    have F0:Hid (Below w.heap.size w (u1.alloc (.cells #[I 0,I 0] 40))):=hJJ (D0.out.alloc D0.out.size _)
    have F3:Hid (Below W2.heap.size W2 (u1.alloc (.cells #[I 0,I 0] 40))):=hJJ (D3.out.alloc D3.out.size _)
    clear hg D0 D3
    generalize u1.alloc (.cells #[I 0,I 0] 40)=u2 at HL F0 F3 ⊢
    generalize u1.heap.size=b2 at HL ⊢
    have EQ:=hJJ (show Eqs 40 [I 0,I 0] [I 0,I 0] true from fault_eqs 0 0 0 0)
    go_wp2_with (first | (refine lgZ 40 ⟨b2,0,none⟩ [I 0,I 0] rfl HL.out Tryz.underlying40 infoF ?_) | (refine Row.wpList_neq 40 _ _ _ rfl (by rfl) #[I 0,I 0] #[I 0,I 0] rfl rfl guardF true EQ.out ?_))
    (try go_wp2)
    go_roundw
    case rel=>exact ⟨0+1,by omega,by go_num,NN.out,F3.out⟩
    case measure=>simp [intOf]
   | some p =>
    have CP:=hJJ (HIT.out p rfl)
    clear NX HIT
    go_upto_region 5 with (refine Row.wpList_store_new rfl 40 _ _ rfl u1 _ #[I 4,I p] rfl rfl rfl infoF rfl (by simp [Value.oneCell']) ?_)
    have hg:=Row.lies_new u1 #[I 4,I p] 40
    have HL:Hid (Lies (u1.alloc (.cells #[I 4,I p] 40)) ⟨u1.heap.size,0,none⟩ #[I 4,I p].toList):=hJJ hg
    have F0:Hid (Below w.heap.size w (u1.alloc (.cells #[I 4,I p] 40))):=hJJ (D0.out.alloc D0.out.size _)
    have F3:Hid (Below W2.heap.size W2 (u1.alloc (.cells #[I 4,I p] 40))):=hJJ (D3.out.alloc D3.out.size _)
    clear hg D0 D3
    generalize u1.alloc (.cells #[I 4,I p] 40)=u2 at HL F0 F3 ⊢
    generalize u1.heap.size=b2 at HL ⊢
    have EQ:=hJJ (show Eqs 40 [I 4,I p] [I 0,I 0] false from by have:=fault_eqs 4 p 0 0;rwa [decide_eq_false (by omega)] at this)
    have G2:Hid (u2.heap[w.heap.size+1]?=some (.cells #[.int .i64 0,.int .i64 0] 40 (0,0))):=hJJ ((F3.out.block _ (Array.getElem?_eq_some_iff.1 C2.out).1).trans C2.out)
    have HW:=hJJ (below_setRow F0.out (g:=w.heap.size+1) (by omega) #[I 4,I p])
    have HK:=hJJ (setRow_heap u2 (w.heap.size+1) _ #[I 4,I p] _ _ G2.out)
    go_wp2_with (first | (refine lgZ 40 ⟨b2,0,none⟩ [I 4,I p] rfl HL.out Tryz.underlying40 infoF ?_) | (refine Row.wpList_neq 40 _ _ _ rfl (by rfl) #[I 4,I p] #[I 0,I 0] rfl rfl guardF false EQ.out ?_) | (refine wpList_store_row rfl 40 _ _ rfl (w.heap.size+1) #[I 4,I p] rfl rfl 40 _ G2.out infoF rfl (by simp [Value.oneCell']) ?_))
    generalize u2.setRow (w.heap.size+1) #[I 4,I p]=uz at HW HK ⊢
    (try go_wp2_with fail)
    (try simp only [Exit.inBlock,Exit.then])
    refine bodyPost_ret (v:=.agg #[I 4,I p]) ?_ rfl ⟨by rw [CP.out];rfl,HW.out⟩
    exact results_cell_row rfl _ _ (w.heap.size+1) 40 _ (0,0) _ rfl HK.out Tryz.underlying40 rfl infoF
  ·rw [show ((1:Nat):Int)=(1:Int) from rfl]
   have ix:=idx8_1 (.func (.func 113) #[] #[]) (.func (.func 148) #[] #[.pointer (some ⟨n+1+1,0,none⟩),.pointer (some ⟨n+1,0,none⟩)]) (.func (.func 116) #[] #[]) (.func (.func 148) #[] #[.pointer (some ⟨n+3+1,0,none⟩),.pointer (some ⟨n+3,0,none⟩)]) (.func (.func 155) #[] #[.pointer (some ⟨n+5+1,0,none⟩),.pointer (some ⟨n+5+1+1,0,none⟩),.pointer (some ⟨n+5,0,none⟩)]) (.func (.func 156) #[] #[.pointer (some ⟨n+8+1,0,none⟩),.pointer (some ⟨n+8+1+1,0,none⟩),.pointer (some ⟨n+8,0,none⟩)]) (.func (.func 161) #[] #[.pointer (some ⟨n+11+1,0,none⟩),.pointer (some ⟨n+11+1+1,0,none⟩),.pointer (some ⟨n+11,0,none⟩)]) (.func (.func 148) #[] #[.pointer (some ⟨n+14+1,0,none⟩),.pointer (some ⟨n+14,0,none⟩)])
   have NX:Hid (o1=none→∀ (i:Nat) x,i < 1+1→l[i]?=some x→x.2=none):=hJJ (fun e i x hi hx=>by
    by_cases hij:i=1
    ·subst hij;obtain rfl:=Option.some.inj (hx.symm.trans LL1.out);exact e
    ·exact HA.out i x (by omega) hx)
   have HIT:Hid (∀ p,o1=some p→ck=(7,p)):=hJJ (fun p e=>by rw [CK.out];exact first_hit (q:=1) (by rw [LL1.out,e]) HA.out)
   have RC:=hJJ (RU1.out n _ BW.out LIW.out)
   clear RU0 RU1 RU2 RU3 RU4 RU5 RU6 RU7 LL0 LL1 LL2 LL3 LL4 LL5 LL6 LL7 LE HA LIW
   go_wp2_with (refine lgZ 31 ⟨w.heap.size,0,none⟩ c rfl LTW.out Tryz.underlying31 IA.out ?_)
   (try go_wp2_with fail)
   clear ix
   refine RC.out.mono ?_
   rintro e u1 ⟨rfl,hb⟩
   have D0:Hid (Below w.heap.size w u1):=hJJ (BW.out.trans (hb.mono BW.out.size))
   have D3:=hJJ (HB.out.trans (hb.mono HB.out.size))
   clear hb BW HB LTW RC
   cases o1 with
   | none =>
    have NN:=hJJ (NX.out rfl)
    clear NX HIT
    go_upto_region 5 with (refine Row.wpList_store_new rfl 40 _ _ rfl u1 _ #[I 0,I 0] rfl rfl rfl infoF rfl (by simp [Value.oneCell']) ?_)
    have hg:=Row.lies_new u1 #[I 0,I 0] 40
    have HL:Hid (Lies (u1.alloc (.cells #[I 0,I 0] 40)) ⟨u1.heap.size,0,none⟩ #[I 0,I 0].toList):=hJJ hg
    have F0:Hid (Below w.heap.size w (u1.alloc (.cells #[I 0,I 0] 40))):=hJJ (D0.out.alloc D0.out.size _)
    have F3:Hid (Below W2.heap.size W2 (u1.alloc (.cells #[I 0,I 0] 40))):=hJJ (D3.out.alloc D3.out.size _)
    clear hg D0 D3
    generalize u1.alloc (.cells #[I 0,I 0] 40)=u2 at HL F0 F3 ⊢
    generalize u1.heap.size=b2 at HL ⊢
    have EQ:=hJJ (show Eqs 40 [I 0,I 0] [I 0,I 0] true from fault_eqs 0 0 0 0)
    go_wp2_with (first | (refine lgZ 40 ⟨b2,0,none⟩ [I 0,I 0] rfl HL.out Tryz.underlying40 infoF ?_) | (refine Row.wpList_neq 40 _ _ _ rfl (by rfl) #[I 0,I 0] #[I 0,I 0] rfl rfl guardF true EQ.out ?_))
    (try go_wp2)
    go_roundw
    case rel=>exact ⟨1+1,by omega,by go_num,NN.out,F3.out⟩
    case measure=>simp [intOf]
   | some p =>
    have CP:=hJJ (HIT.out p rfl)
    clear NX HIT
    go_upto_region 5 with (refine Row.wpList_store_new rfl 40 _ _ rfl u1 _ #[I 7,I p] rfl rfl rfl infoF rfl (by simp [Value.oneCell']) ?_)
    have hg:=Row.lies_new u1 #[I 7,I p] 40
    have HL:Hid (Lies (u1.alloc (.cells #[I 7,I p] 40)) ⟨u1.heap.size,0,none⟩ #[I 7,I p].toList):=hJJ hg
    have F0:Hid (Below w.heap.size w (u1.alloc (.cells #[I 7,I p] 40))):=hJJ (D0.out.alloc D0.out.size _)
    have F3:Hid (Below W2.heap.size W2 (u1.alloc (.cells #[I 7,I p] 40))):=hJJ (D3.out.alloc D3.out.size _)
    clear hg D0 D3
    generalize u1.alloc (.cells #[I 7,I p] 40)=u2 at HL F0 F3 ⊢
    generalize u1.heap.size=b2 at HL ⊢
    have EQ:=hJJ (show Eqs 40 [I 7,I p] [I 0,I 0] false from by have:=fault_eqs 7 p 0 0;rwa [decide_eq_false (by omega)] at this)
    have G2:Hid (u2.heap[w.heap.size+1]?=some (.cells #[.int .i64 0,.int .i64 0] 40 (0,0))):=hJJ ((F3.out.block _ (Array.getElem?_eq_some_iff.1 C2.out).1).trans C2.out)
    have HW:=hJJ (below_setRow F0.out (g:=w.heap.size+1) (by omega) #[I 7,I p])
    have HK:=hJJ (setRow_heap u2 (w.heap.size+1) _ #[I 7,I p] _ _ G2.out)
    go_wp2_with (first | (refine lgZ 40 ⟨b2,0,none⟩ [I 7,I p] rfl HL.out Tryz.underlying40 infoF ?_) | (refine Row.wpList_neq 40 _ _ _ rfl (by rfl) #[I 7,I p] #[I 0,I 0] rfl rfl guardF false EQ.out ?_) | (refine wpList_store_row rfl 40 _ _ rfl (w.heap.size+1) #[I 7,I p] rfl rfl 40 _ G2.out infoF rfl (by simp [Value.oneCell']) ?_))
    generalize u2.setRow (w.heap.size+1) #[I 7,I p]=uz at HW HK ⊢
    (try go_wp2_with fail)
    (try simp only [Exit.inBlock,Exit.then])
    refine bodyPost_ret (v:=.agg #[I 7,I p]) ?_ rfl ⟨by rw [CP.out];rfl,HW.out⟩
    exact results_cell_row rfl _ _ (w.heap.size+1) 40 _ (0,0) _ rfl HK.out Tryz.underlying40 rfl infoF
  ·rw [show ((2:Nat):Int)=(2:Int) from rfl]
   have ix:=idx8_2 (.func (.func 113) #[] #[]) (.func (.func 148) #[] #[.pointer (some ⟨n+1+1,0,none⟩),.pointer (some ⟨n+1,0,none⟩)]) (.func (.func 116) #[] #[]) (.func (.func 148) #[] #[.pointer (some ⟨n+3+1,0,none⟩),.pointer (some ⟨n+3,0,none⟩)]) (.func (.func 155) #[] #[.pointer (some ⟨n+5+1,0,none⟩),.pointer (some ⟨n+5+1+1,0,none⟩),.pointer (some ⟨n+5,0,none⟩)]) (.func (.func 156) #[] #[.pointer (some ⟨n+8+1,0,none⟩),.pointer (some ⟨n+8+1+1,0,none⟩),.pointer (some ⟨n+8,0,none⟩)]) (.func (.func 161) #[] #[.pointer (some ⟨n+11+1,0,none⟩),.pointer (some ⟨n+11+1+1,0,none⟩),.pointer (some ⟨n+11,0,none⟩)]) (.func (.func 148) #[] #[.pointer (some ⟨n+14+1,0,none⟩),.pointer (some ⟨n+14,0,none⟩)])
   have NX:Hid (o2=none→∀ (i:Nat) x,i < 2+1→l[i]?=some x→x.2=none):=hJJ (fun e i x hi hx=>by
    by_cases hij:i=2
    ·subst hij;obtain rfl:=Option.some.inj (hx.symm.trans LL2.out);exact e
    ·exact HA.out i x (by omega) hx)
   have HIT:Hid (∀ p,o2=some p→ck=(8,p)):=hJJ (fun p e=>by rw [CK.out];exact first_hit (q:=2) (by rw [LL2.out,e]) HA.out)
   have RC:=hJJ (RU2.out n _ BW.out LIW.out)
   clear RU0 RU1 RU2 RU3 RU4 RU5 RU6 RU7 LL0 LL1 LL2 LL3 LL4 LL5 LL6 LL7 LE HA LIW
   go_wp2_with (refine lgZ 31 ⟨w.heap.size,0,none⟩ c rfl LTW.out Tryz.underlying31 IA.out ?_)
   (try go_wp2_with fail)
   clear ix
   refine RC.out.mono ?_
   rintro e u1 ⟨rfl,hb⟩
   have D0:Hid (Below w.heap.size w u1):=hJJ (BW.out.trans (hb.mono BW.out.size))
   have D3:=hJJ (HB.out.trans (hb.mono HB.out.size))
   clear hb BW HB LTW RC
   cases o2 with
   | none =>
    have NN:=hJJ (NX.out rfl)
    clear NX HIT
    go_upto_region 5 with (refine Row.wpList_store_new rfl 40 _ _ rfl u1 _ #[I 0,I 0] rfl rfl rfl infoF rfl (by simp [Value.oneCell']) ?_)
    have hg:=Row.lies_new u1 #[I 0,I 0] 40
    have HL:Hid (Lies (u1.alloc (.cells #[I 0,I 0] 40)) ⟨u1.heap.size,0,none⟩ #[I 0,I 0].toList):=hJJ hg
    have F0:Hid (Below w.heap.size w (u1.alloc (.cells #[I 0,I 0] 40))):=hJJ (D0.out.alloc D0.out.size _)
    have F3:Hid (Below W2.heap.size W2 (u1.alloc (.cells #[I 0,I 0] 40))):=hJJ (D3.out.alloc D3.out.size _)
    clear hg D0 D3
    generalize u1.alloc (.cells #[I 0,I 0] 40)=u2 at HL F0 F3 ⊢
    generalize u1.heap.size=b2 at HL ⊢
    have EQ:=hJJ (show Eqs 40 [I 0,I 0] [I 0,I 0] true from fault_eqs 0 0 0 0)
    go_wp2_with (first | (refine lgZ 40 ⟨b2,0,none⟩ [I 0,I 0] rfl HL.out Tryz.underlying40 infoF ?_) | (refine Row.wpList_neq 40 _ _ _ rfl (by rfl) #[I 0,I 0] #[I 0,I 0] rfl rfl guardF true EQ.out ?_))
    (try go_wp2)
    go_roundw
    case rel=>exact ⟨2+1,by omega,by go_num,NN.out,F3.out⟩
    case measure=>simp [intOf]
   | some p =>
    have CP:=hJJ (HIT.out p rfl)
    clear NX HIT
    go_upto_region 5 with (refine Row.wpList_store_new rfl 40 _ _ rfl u1 _ #[I 8,I p] rfl rfl rfl infoF rfl (by simp [Value.oneCell']) ?_)
    have hg:=Row.lies_new u1 #[I 8,I p] 40
    have HL:Hid (Lies (u1.alloc (.cells #[I 8,I p] 40)) ⟨u1.heap.size,0,none⟩ #[I 8,I p].toList):=hJJ hg
    have F0:Hid (Below w.heap.size w (u1.alloc (.cells #[I 8,I p] 40))):=hJJ (D0.out.alloc D0.out.size _)
    have F3:Hid (Below W2.heap.size W2 (u1.alloc (.cells #[I 8,I p] 40))):=hJJ (D3.out.alloc D3.out.size _)
    clear hg D0 D3
    generalize u1.alloc (.cells #[I 8,I p] 40)=u2 at HL F0 F3 ⊢
    generalize u1.heap.size=b2 at HL ⊢
    have EQ:=hJJ (show Eqs 40 [I 8,I p] [I 0,I 0] false from by have:=fault_eqs 8 p 0 0;rwa [decide_eq_false (by omega)] at this)
    have G2:Hid (u2.heap[w.heap.size+1]?=some (.cells #[.int .i64 0,.int .i64 0] 40 (0,0))):=hJJ ((F3.out.block _ (Array.getElem?_eq_some_iff.1 C2.out).1).trans C2.out)
    have HW:=hJJ (below_setRow F0.out (g:=w.heap.size+1) (by omega) #[I 8,I p])
    have HK:=hJJ (setRow_heap u2 (w.heap.size+1) _ #[I 8,I p] _ _ G2.out)
    go_wp2_with (first | (refine lgZ 40 ⟨b2,0,none⟩ [I 8,I p] rfl HL.out Tryz.underlying40 infoF ?_) | (refine Row.wpList_neq 40 _ _ _ rfl (by rfl) #[I 8,I p] #[I 0,I 0] rfl rfl guardF false EQ.out ?_) | (refine wpList_store_row rfl 40 _ _ rfl (w.heap.size+1) #[I 8,I p] rfl rfl 40 _ G2.out infoF rfl (by simp [Value.oneCell']) ?_))
    generalize u2.setRow (w.heap.size+1) #[I 8,I p]=uz at HW HK ⊢
    (try go_wp2_with fail)
    (try simp only [Exit.inBlock,Exit.then])
    refine bodyPost_ret (v:=.agg #[I 8,I p]) ?_ rfl ⟨by rw [CP.out];rfl,HW.out⟩
    exact results_cell_row rfl _ _ (w.heap.size+1) 40 _ (0,0) _ rfl HK.out Tryz.underlying40 rfl infoF
  ·rw [show ((3:Nat):Int)=(3:Int) from rfl]
   have ix:=idx8_3 (.func (.func 113) #[] #[]) (.func (.func 148) #[] #[.pointer (some ⟨n+1+1,0,none⟩),.pointer (some ⟨n+1,0,none⟩)]) (.func (.func 116) #[] #[]) (.func (.func 148) #[] #[.pointer (some ⟨n+3+1,0,none⟩),.pointer (some ⟨n+3,0,none⟩)]) (.func (.func 155) #[] #[.pointer (some ⟨n+5+1,0,none⟩),.pointer (some ⟨n+5+1+1,0,none⟩),.pointer (some ⟨n+5,0,none⟩)]) (.func (.func 156) #[] #[.pointer (some ⟨n+8+1,0,none⟩),.pointer (some ⟨n+8+1+1,0,none⟩),.pointer (some ⟨n+8,0,none⟩)]) (.func (.func 161) #[] #[.pointer (some ⟨n+11+1,0,none⟩),.pointer (some ⟨n+11+1+1,0,none⟩),.pointer (some ⟨n+11,0,none⟩)]) (.func (.func 148) #[] #[.pointer (some ⟨n+14+1,0,none⟩),.pointer (some ⟨n+14,0,none⟩)])
   have NX:Hid (o3=none→∀ (i:Nat) x,i < 3+1→l[i]?=some x→x.2=none):=hJJ (fun e i x hi hx=>by
    by_cases hij:i=3
    ·subst hij;obtain rfl:=Option.some.inj (hx.symm.trans LL3.out);exact e
    ·exact HA.out i x (by omega) hx)
   have HIT:Hid (∀ p,o3=some p→ck=(9,p)):=hJJ (fun p e=>by rw [CK.out];exact first_hit (q:=3) (by rw [LL3.out,e]) HA.out)
   have RC:=hJJ (RU3.out n _ BW.out LIW.out)
   clear RU0 RU1 RU2 RU3 RU4 RU5 RU6 RU7 LL0 LL1 LL2 LL3 LL4 LL5 LL6 LL7 LE HA LIW
   go_wp2_with (refine lgZ 31 ⟨w.heap.size,0,none⟩ c rfl LTW.out Tryz.underlying31 IA.out ?_)
   (try go_wp2_with fail)
   clear ix
   refine RC.out.mono ?_
   rintro e u1 ⟨rfl,hb⟩
   have D0:Hid (Below w.heap.size w u1):=hJJ (BW.out.trans (hb.mono BW.out.size))
   have D3:=hJJ (HB.out.trans (hb.mono HB.out.size))
   clear hb BW HB LTW RC
   cases o3 with
   | none =>
    have NN:=hJJ (NX.out rfl)
    clear NX HIT
    go_upto_region 5 with (refine Row.wpList_store_new rfl 40 _ _ rfl u1 _ #[I 0,I 0] rfl rfl rfl infoF rfl (by simp [Value.oneCell']) ?_)
    have hg:=Row.lies_new u1 #[I 0,I 0] 40
    have HL:Hid (Lies (u1.alloc (.cells #[I 0,I 0] 40)) ⟨u1.heap.size,0,none⟩ #[I 0,I 0].toList):=hJJ hg
    have F0:Hid (Below w.heap.size w (u1.alloc (.cells #[I 0,I 0] 40))):=hJJ (D0.out.alloc D0.out.size _)
    have F3:Hid (Below W2.heap.size W2 (u1.alloc (.cells #[I 0,I 0] 40))):=hJJ (D3.out.alloc D3.out.size _)
    clear hg D0 D3
    generalize u1.alloc (.cells #[I 0,I 0] 40)=u2 at HL F0 F3 ⊢
    generalize u1.heap.size=b2 at HL ⊢
    have EQ:=hJJ (show Eqs 40 [I 0,I 0] [I 0,I 0] true from fault_eqs 0 0 0 0)
    go_wp2_with (first | (refine lgZ 40 ⟨b2,0,none⟩ [I 0,I 0] rfl HL.out Tryz.underlying40 infoF ?_) | (refine Row.wpList_neq 40 _ _ _ rfl (by rfl) #[I 0,I 0] #[I 0,I 0] rfl rfl guardF true EQ.out ?_))
    (try go_wp2)
    go_roundw
    case rel=>exact ⟨3+1,by omega,by go_num,NN.out,F3.out⟩
    case measure=>simp [intOf]
   | some p =>
    have CP:=hJJ (HIT.out p rfl)
    clear NX HIT
    go_upto_region 5 with (refine Row.wpList_store_new rfl 40 _ _ rfl u1 _ #[I 9,I p] rfl rfl rfl infoF rfl (by simp [Value.oneCell']) ?_)
    have hg:=Row.lies_new u1 #[I 9,I p] 40
    have HL:Hid (Lies (u1.alloc (.cells #[I 9,I p] 40)) ⟨u1.heap.size,0,none⟩ #[I 9,I p].toList):=hJJ hg
    have F0:Hid (Below w.heap.size w (u1.alloc (.cells #[I 9,I p] 40))):=hJJ (D0.out.alloc D0.out.size _)
    have F3:Hid (Below W2.heap.size W2 (u1.alloc (.cells #[I 9,I p] 40))):=hJJ (D3.out.alloc D3.out.size _)
    clear hg D0 D3
    generalize u1.alloc (.cells #[I 9,I p] 40)=u2 at HL F0 F3 ⊢
    generalize u1.heap.size=b2 at HL ⊢
    have EQ:=hJJ (show Eqs 40 [I 9,I p] [I 0,I 0] false from by have:=fault_eqs 9 p 0 0;rwa [decide_eq_false (by omega)] at this)
    have G2:Hid (u2.heap[w.heap.size+1]?=some (.cells #[.int .i64 0,.int .i64 0] 40 (0,0))):=hJJ ((F3.out.block _ (Array.getElem?_eq_some_iff.1 C2.out).1).trans C2.out)
    have HW:=hJJ (below_setRow F0.out (g:=w.heap.size+1) (by omega) #[I 9,I p])
    have HK:=hJJ (setRow_heap u2 (w.heap.size+1) _ #[I 9,I p] _ _ G2.out)
    go_wp2_with (first | (refine lgZ 40 ⟨b2,0,none⟩ [I 9,I p] rfl HL.out Tryz.underlying40 infoF ?_) | (refine Row.wpList_neq 40 _ _ _ rfl (by rfl) #[I 9,I p] #[I 0,I 0] rfl rfl guardF false EQ.out ?_) | (refine wpList_store_row rfl 40 _ _ rfl (w.heap.size+1) #[I 9,I p] rfl rfl 40 _ G2.out infoF rfl (by simp [Value.oneCell']) ?_))
    generalize u2.setRow (w.heap.size+1) #[I 9,I p]=uz at HW HK ⊢
    (try go_wp2_with fail)
    (try simp only [Exit.inBlock,Exit.then])
    refine bodyPost_ret (v:=.agg #[I 9,I p]) ?_ rfl ⟨by rw [CP.out];rfl,HW.out⟩
    exact results_cell_row rfl _ _ (w.heap.size+1) 40 _ (0,0) _ rfl HK.out Tryz.underlying40 rfl infoF
  ·rw [show ((4:Nat):Int)=(4:Int) from rfl]
   have ix:=idx8_4 (.func (.func 113) #[] #[]) (.func (.func 148) #[] #[.pointer (some ⟨n+1+1,0,none⟩),.pointer (some ⟨n+1,0,none⟩)]) (.func (.func 116) #[] #[]) (.func (.func 148) #[] #[.pointer (some ⟨n+3+1,0,none⟩),.pointer (some ⟨n+3,0,none⟩)]) (.func (.func 155) #[] #[.pointer (some ⟨n+5+1,0,none⟩),.pointer (some ⟨n+5+1+1,0,none⟩),.pointer (some ⟨n+5,0,none⟩)]) (.func (.func 156) #[] #[.pointer (some ⟨n+8+1,0,none⟩),.pointer (some ⟨n+8+1+1,0,none⟩),.pointer (some ⟨n+8,0,none⟩)]) (.func (.func 161) #[] #[.pointer (some ⟨n+11+1,0,none⟩),.pointer (some ⟨n+11+1+1,0,none⟩),.pointer (some ⟨n+11,0,none⟩)]) (.func (.func 148) #[] #[.pointer (some ⟨n+14+1,0,none⟩),.pointer (some ⟨n+14,0,none⟩)])
   have NX:Hid (o4=none→∀ (i:Nat) x,i < 4+1→l[i]?=some x→x.2=none):=hJJ (fun e i x hi hx=>by
    by_cases hij:i=4
    ·subst hij;obtain rfl:=Option.some.inj (hx.symm.trans LL4.out);exact e
    ·exact HA.out i x (by omega) hx)
   have HIT:Hid (∀ p,o4=some p→ck=(10,p)):=hJJ (fun p e=>by rw [CK.out];exact first_hit (q:=4) (by rw [LL4.out,e]) HA.out)
   have RC:=hJJ (RU4.out (HA.out 0 _ (by omega) LL0.out) n _ BW.out LIW.out)
   clear RU0 RU1 RU2 RU3 RU4 RU5 RU6 RU7 LL0 LL1 LL2 LL3 LL4 LL5 LL6 LL7 LE HA LIW
   go_wp2_with (refine lgZ 31 ⟨w.heap.size,0,none⟩ c rfl LTW.out Tryz.underlying31 IA.out ?_)
   (try go_wp2_with fail)
   clear ix
   refine RC.out.mono ?_
   rintro e u1 ⟨rfl,hb⟩
   have D0:Hid (Below w.heap.size w u1):=hJJ (BW.out.trans (hb.mono BW.out.size))
   have D3:=hJJ (HB.out.trans (hb.mono HB.out.size))
   clear hb BW HB LTW RC
   cases o4 with
   | none =>
    have NN:=hJJ (NX.out rfl)
    clear NX HIT
    go_upto_region 5 with (refine Row.wpList_store_new rfl 40 _ _ rfl u1 _ #[I 0,I 0] rfl rfl rfl infoF rfl (by simp [Value.oneCell']) ?_)
    have hg:=Row.lies_new u1 #[I 0,I 0] 40
    have HL:Hid (Lies (u1.alloc (.cells #[I 0,I 0] 40)) ⟨u1.heap.size,0,none⟩ #[I 0,I 0].toList):=hJJ hg
    have F0:Hid (Below w.heap.size w (u1.alloc (.cells #[I 0,I 0] 40))):=hJJ (D0.out.alloc D0.out.size _)
    have F3:Hid (Below W2.heap.size W2 (u1.alloc (.cells #[I 0,I 0] 40))):=hJJ (D3.out.alloc D3.out.size _)
    clear hg D0 D3
    generalize u1.alloc (.cells #[I 0,I 0] 40)=u2 at HL F0 F3 ⊢
    generalize u1.heap.size=b2 at HL ⊢
    have EQ:=hJJ (show Eqs 40 [I 0,I 0] [I 0,I 0] true from fault_eqs 0 0 0 0)
    go_wp2_with (first | (refine lgZ 40 ⟨b2,0,none⟩ [I 0,I 0] rfl HL.out Tryz.underlying40 infoF ?_) | (refine Row.wpList_neq 40 _ _ _ rfl (by rfl) #[I 0,I 0] #[I 0,I 0] rfl rfl guardF true EQ.out ?_))
    (try go_wp2)
    go_roundw
    case rel=>exact ⟨4+1,by omega,by go_num,NN.out,F3.out⟩
    case measure=>simp [intOf]
   | some p =>
    have CP:=hJJ (HIT.out p rfl)
    clear NX HIT
    go_upto_region 5 with (refine Row.wpList_store_new rfl 40 _ _ rfl u1 _ #[I 10,I p] rfl rfl rfl infoF rfl (by simp [Value.oneCell']) ?_)
    have hg:=Row.lies_new u1 #[I 10,I p] 40
    have HL:Hid (Lies (u1.alloc (.cells #[I 10,I p] 40)) ⟨u1.heap.size,0,none⟩ #[I 10,I p].toList):=hJJ hg
    have F0:Hid (Below w.heap.size w (u1.alloc (.cells #[I 10,I p] 40))):=hJJ (D0.out.alloc D0.out.size _)
    have F3:Hid (Below W2.heap.size W2 (u1.alloc (.cells #[I 10,I p] 40))):=hJJ (D3.out.alloc D3.out.size _)
    clear hg D0 D3
    generalize u1.alloc (.cells #[I 10,I p] 40)=u2 at HL F0 F3 ⊢
    generalize u1.heap.size=b2 at HL ⊢
    have EQ:=hJJ (show Eqs 40 [I 10,I p] [I 0,I 0] false from by have:=fault_eqs 10 p 0 0;rwa [decide_eq_false (by omega)] at this)
    have G2:Hid (u2.heap[w.heap.size+1]?=some (.cells #[.int .i64 0,.int .i64 0] 40 (0,0))):=hJJ ((F3.out.block _ (Array.getElem?_eq_some_iff.1 C2.out).1).trans C2.out)
    have HW:=hJJ (below_setRow F0.out (g:=w.heap.size+1) (by omega) #[I 10,I p])
    have HK:=hJJ (setRow_heap u2 (w.heap.size+1) _ #[I 10,I p] _ _ G2.out)
    go_wp2_with (first | (refine lgZ 40 ⟨b2,0,none⟩ [I 10,I p] rfl HL.out Tryz.underlying40 infoF ?_) | (refine Row.wpList_neq 40 _ _ _ rfl (by rfl) #[I 10,I p] #[I 0,I 0] rfl rfl guardF false EQ.out ?_) | (refine wpList_store_row rfl 40 _ _ rfl (w.heap.size+1) #[I 10,I p] rfl rfl 40 _ G2.out infoF rfl (by simp [Value.oneCell']) ?_))
    generalize u2.setRow (w.heap.size+1) #[I 10,I p]=uz at HW HK ⊢
    (try go_wp2_with fail)
    (try simp only [Exit.inBlock,Exit.then])
    refine bodyPost_ret (v:=.agg #[I 10,I p]) ?_ rfl ⟨by rw [CP.out];rfl,HW.out⟩
    exact results_cell_row rfl _ _ (w.heap.size+1) 40 _ (0,0) _ rfl HK.out Tryz.underlying40 rfl infoF
  ·rw [show ((5:Nat):Int)=(5:Int) from rfl]
   have ix:=idx8_5 (.func (.func 113) #[] #[]) (.func (.func 148) #[] #[.pointer (some ⟨n+1+1,0,none⟩),.pointer (some ⟨n+1,0,none⟩)]) (.func (.func 116) #[] #[]) (.func (.func 148) #[] #[.pointer (some ⟨n+3+1,0,none⟩),.pointer (some ⟨n+3,0,none⟩)]) (.func (.func 155) #[] #[.pointer (some ⟨n+5+1,0,none⟩),.pointer (some ⟨n+5+1+1,0,none⟩),.pointer (some ⟨n+5,0,none⟩)]) (.func (.func 156) #[] #[.pointer (some ⟨n+8+1,0,none⟩),.pointer (some ⟨n+8+1+1,0,none⟩),.pointer (some ⟨n+8,0,none⟩)]) (.func (.func 161) #[] #[.pointer (some ⟨n+11+1,0,none⟩),.pointer (some ⟨n+11+1+1,0,none⟩),.pointer (some ⟨n+11,0,none⟩)]) (.func (.func 148) #[] #[.pointer (some ⟨n+14+1,0,none⟩),.pointer (some ⟨n+14,0,none⟩)])
   have NX:Hid (o5=none→∀ (i:Nat) x,i < 5+1→l[i]?=some x→x.2=none):=hJJ (fun e i x hi hx=>by
    by_cases hij:i=5
    ·subst hij;obtain rfl:=Option.some.inj (hx.symm.trans LL5.out);exact e
    ·exact HA.out i x (by omega) hx)
   have HIT:Hid (∀ p,o5=some p→ck=(11,p)):=hJJ (fun p e=>by rw [CK.out];exact first_hit (q:=5) (by rw [LL5.out,e]) HA.out)
   have RC:=hJJ (RU5.out n _ BW.out LIW.out)
   clear RU0 RU1 RU2 RU3 RU4 RU5 RU6 RU7 LL0 LL1 LL2 LL3 LL4 LL5 LL6 LL7 LE HA LIW
   go_wp2_with (refine lgZ 31 ⟨w.heap.size,0,none⟩ c rfl LTW.out Tryz.underlying31 IA.out ?_)
   (try go_wp2_with fail)
   clear ix
   refine RC.out.mono ?_
   rintro e u1 ⟨rfl,hb⟩
   have D0:Hid (Below w.heap.size w u1):=hJJ (BW.out.trans (hb.mono BW.out.size))
   have D3:=hJJ (HB.out.trans (hb.mono HB.out.size))
   clear hb BW HB LTW RC
   cases o5 with
   | none =>
    have NN:=hJJ (NX.out rfl)
    clear NX HIT
    go_upto_region 5 with (refine Row.wpList_store_new rfl 40 _ _ rfl u1 _ #[I 0,I 0] rfl rfl rfl infoF rfl (by simp [Value.oneCell']) ?_)
    have hg:=Row.lies_new u1 #[I 0,I 0] 40
    have HL:Hid (Lies (u1.alloc (.cells #[I 0,I 0] 40)) ⟨u1.heap.size,0,none⟩ #[I 0,I 0].toList):=hJJ hg
    have F0:Hid (Below w.heap.size w (u1.alloc (.cells #[I 0,I 0] 40))):=hJJ (D0.out.alloc D0.out.size _)
    have F3:Hid (Below W2.heap.size W2 (u1.alloc (.cells #[I 0,I 0] 40))):=hJJ (D3.out.alloc D3.out.size _)
    clear hg D0 D3
    generalize u1.alloc (.cells #[I 0,I 0] 40)=u2 at HL F0 F3 ⊢
    generalize u1.heap.size=b2 at HL ⊢
    have EQ:=hJJ (show Eqs 40 [I 0,I 0] [I 0,I 0] true from fault_eqs 0 0 0 0)
    go_wp2_with (first | (refine lgZ 40 ⟨b2,0,none⟩ [I 0,I 0] rfl HL.out Tryz.underlying40 infoF ?_) | (refine Row.wpList_neq 40 _ _ _ rfl (by rfl) #[I 0,I 0] #[I 0,I 0] rfl rfl guardF true EQ.out ?_))
    (try go_wp2)
    go_roundw
    case rel=>exact ⟨5+1,by omega,by go_num,NN.out,F3.out⟩
    case measure=>simp [intOf]
   | some p =>
    have CP:=hJJ (HIT.out p rfl)
    clear NX HIT
    go_upto_region 5 with (refine Row.wpList_store_new rfl 40 _ _ rfl u1 _ #[I 11,I p] rfl rfl rfl infoF rfl (by simp [Value.oneCell']) ?_)
    have hg:=Row.lies_new u1 #[I 11,I p] 40
    have HL:Hid (Lies (u1.alloc (.cells #[I 11,I p] 40)) ⟨u1.heap.size,0,none⟩ #[I 11,I p].toList):=hJJ hg
    have F0:Hid (Below w.heap.size w (u1.alloc (.cells #[I 11,I p] 40))):=hJJ (D0.out.alloc D0.out.size _)
    have F3:Hid (Below W2.heap.size W2 (u1.alloc (.cells #[I 11,I p] 40))):=hJJ (D3.out.alloc D3.out.size _)
    clear hg D0 D3
    generalize u1.alloc (.cells #[I 11,I p] 40)=u2 at HL F0 F3 ⊢
    generalize u1.heap.size=b2 at HL ⊢
    have EQ:=hJJ (show Eqs 40 [I 11,I p] [I 0,I 0] false from by have:=fault_eqs 11 p 0 0;rwa [decide_eq_false (by omega)] at this)
    have G2:Hid (u2.heap[w.heap.size+1]?=some (.cells #[.int .i64 0,.int .i64 0] 40 (0,0))):=hJJ ((F3.out.block _ (Array.getElem?_eq_some_iff.1 C2.out).1).trans C2.out)
    have HW:=hJJ (below_setRow F0.out (g:=w.heap.size+1) (by omega) #[I 11,I p])
    have HK:=hJJ (setRow_heap u2 (w.heap.size+1) _ #[I 11,I p] _ _ G2.out)
    go_wp2_with (first | (refine lgZ 40 ⟨b2,0,none⟩ [I 11,I p] rfl HL.out Tryz.underlying40 infoF ?_) | (refine Row.wpList_neq 40 _ _ _ rfl (by rfl) #[I 11,I p] #[I 0,I 0] rfl rfl guardF false EQ.out ?_) | (refine wpList_store_row rfl 40 _ _ rfl (w.heap.size+1) #[I 11,I p] rfl rfl 40 _ G2.out infoF rfl (by simp [Value.oneCell']) ?_))
    generalize u2.setRow (w.heap.size+1) #[I 11,I p]=uz at HW HK ⊢
    (try go_wp2_with fail)
    (try simp only [Exit.inBlock,Exit.then])
    refine bodyPost_ret (v:=.agg #[I 11,I p]) ?_ rfl ⟨by rw [CP.out];rfl,HW.out⟩
    exact results_cell_row rfl _ _ (w.heap.size+1) 40 _ (0,0) _ rfl HK.out Tryz.underlying40 rfl infoF
  ·rw [show ((6:Nat):Int)=(6:Int) from rfl]
   have ix:=idx8_6 (.func (.func 113) #[] #[]) (.func (.func 148) #[] #[.pointer (some ⟨n+1+1,0,none⟩),.pointer (some ⟨n+1,0,none⟩)]) (.func (.func 116) #[] #[]) (.func (.func 148) #[] #[.pointer (some ⟨n+3+1,0,none⟩),.pointer (some ⟨n+3,0,none⟩)]) (.func (.func 155) #[] #[.pointer (some ⟨n+5+1,0,none⟩),.pointer (some ⟨n+5+1+1,0,none⟩),.pointer (some ⟨n+5,0,none⟩)]) (.func (.func 156) #[] #[.pointer (some ⟨n+8+1,0,none⟩),.pointer (some ⟨n+8+1+1,0,none⟩),.pointer (some ⟨n+8,0,none⟩)]) (.func (.func 161) #[] #[.pointer (some ⟨n+11+1,0,none⟩),.pointer (some ⟨n+11+1+1,0,none⟩),.pointer (some ⟨n+11,0,none⟩)]) (.func (.func 148) #[] #[.pointer (some ⟨n+14+1,0,none⟩),.pointer (some ⟨n+14,0,none⟩)])
   have NX:Hid (o6=none→∀ (i:Nat) x,i < 6+1→l[i]?=some x→x.2=none):=hJJ (fun e i x hi hx=>by
    by_cases hij:i=6
    ·subst hij;obtain rfl:=Option.some.inj (hx.symm.trans LL6.out);exact e
    ·exact HA.out i x (by omega) hx)
   have HIT:Hid (∀ p,o6=some p→ck=(12,p)):=hJJ (fun p e=>by rw [CK.out];exact first_hit (q:=6) (by rw [LL6.out,e]) HA.out)
   have RC:=hJJ (RU6.out n _ BW.out LIW.out)
   clear RU0 RU1 RU2 RU3 RU4 RU5 RU6 RU7 LL0 LL1 LL2 LL3 LL4 LL5 LL6 LL7 LE HA LIW
   go_wp2_with (refine lgZ 31 ⟨w.heap.size,0,none⟩ c rfl LTW.out Tryz.underlying31 IA.out ?_)
   (try go_wp2_with fail)
   clear ix
   refine RC.out.mono ?_
   rintro e u1 ⟨rfl,hb⟩
   have D0:Hid (Below w.heap.size w u1):=hJJ (BW.out.trans (hb.mono BW.out.size))
   have D3:=hJJ (HB.out.trans (hb.mono HB.out.size))
   clear hb BW HB LTW RC
   cases o6 with
   | none =>
    have NN:=hJJ (NX.out rfl)
    clear NX HIT
    go_upto_region 5 with (refine Row.wpList_store_new rfl 40 _ _ rfl u1 _ #[I 0,I 0] rfl rfl rfl infoF rfl (by simp [Value.oneCell']) ?_)
    have hg:=Row.lies_new u1 #[I 0,I 0] 40
    have HL:Hid (Lies (u1.alloc (.cells #[I 0,I 0] 40)) ⟨u1.heap.size,0,none⟩ #[I 0,I 0].toList):=hJJ hg
    have F0:Hid (Below w.heap.size w (u1.alloc (.cells #[I 0,I 0] 40))):=hJJ (D0.out.alloc D0.out.size _)
    have F3:Hid (Below W2.heap.size W2 (u1.alloc (.cells #[I 0,I 0] 40))):=hJJ (D3.out.alloc D3.out.size _)
    clear hg D0 D3
    generalize u1.alloc (.cells #[I 0,I 0] 40)=u2 at HL F0 F3 ⊢
    generalize u1.heap.size=b2 at HL ⊢
    have EQ:=hJJ (show Eqs 40 [I 0,I 0] [I 0,I 0] true from fault_eqs 0 0 0 0)
    go_wp2_with (first | (refine lgZ 40 ⟨b2,0,none⟩ [I 0,I 0] rfl HL.out Tryz.underlying40 infoF ?_) | (refine Row.wpList_neq 40 _ _ _ rfl (by rfl) #[I 0,I 0] #[I 0,I 0] rfl rfl guardF true EQ.out ?_))
    (try go_wp2)
    go_roundw
    case rel=>exact ⟨6+1,by omega,by go_num,NN.out,F3.out⟩
    case measure=>simp [intOf]
   | some p =>
    have CP:=hJJ (HIT.out p rfl)
    clear NX HIT
    go_upto_region 5 with (refine Row.wpList_store_new rfl 40 _ _ rfl u1 _ #[I 12,I p] rfl rfl rfl infoF rfl (by simp [Value.oneCell']) ?_)
    have hg:=Row.lies_new u1 #[I 12,I p] 40
    have HL:Hid (Lies (u1.alloc (.cells #[I 12,I p] 40)) ⟨u1.heap.size,0,none⟩ #[I 12,I p].toList):=hJJ hg
    have F0:Hid (Below w.heap.size w (u1.alloc (.cells #[I 12,I p] 40))):=hJJ (D0.out.alloc D0.out.size _)
    have F3:Hid (Below W2.heap.size W2 (u1.alloc (.cells #[I 12,I p] 40))):=hJJ (D3.out.alloc D3.out.size _)
    clear hg D0 D3
    generalize u1.alloc (.cells #[I 12,I p] 40)=u2 at HL F0 F3 ⊢
    generalize u1.heap.size=b2 at HL ⊢
    have EQ:=hJJ (show Eqs 40 [I 12,I p] [I 0,I 0] false from by have:=fault_eqs 12 p 0 0;rwa [decide_eq_false (by omega)] at this)
    have G2:Hid (u2.heap[w.heap.size+1]?=some (.cells #[.int .i64 0,.int .i64 0] 40 (0,0))):=hJJ ((F3.out.block _ (Array.getElem?_eq_some_iff.1 C2.out).1).trans C2.out)
    have HW:=hJJ (below_setRow F0.out (g:=w.heap.size+1) (by omega) #[I 12,I p])
    have HK:=hJJ (setRow_heap u2 (w.heap.size+1) _ #[I 12,I p] _ _ G2.out)
    go_wp2_with (first | (refine lgZ 40 ⟨b2,0,none⟩ [I 12,I p] rfl HL.out Tryz.underlying40 infoF ?_) | (refine Row.wpList_neq 40 _ _ _ rfl (by rfl) #[I 12,I p] #[I 0,I 0] rfl rfl guardF false EQ.out ?_) | (refine wpList_store_row rfl 40 _ _ rfl (w.heap.size+1) #[I 12,I p] rfl rfl 40 _ G2.out infoF rfl (by simp [Value.oneCell']) ?_))
    generalize u2.setRow (w.heap.size+1) #[I 12,I p]=uz at HW HK ⊢
    (try go_wp2_with fail)
    (try simp only [Exit.inBlock,Exit.then])
    refine bodyPost_ret (v:=.agg #[I 12,I p]) ?_ rfl ⟨by rw [CP.out];rfl,HW.out⟩
    exact results_cell_row rfl _ _ (w.heap.size+1) 40 _ (0,0) _ rfl HK.out Tryz.underlying40 rfl infoF
  ·rw [show ((7:Nat):Int)=(7:Int) from rfl]
   have ix:=idx8_7 (.func (.func 113) #[] #[]) (.func (.func 148) #[] #[.pointer (some ⟨n+1+1,0,none⟩),.pointer (some ⟨n+1,0,none⟩)]) (.func (.func 116) #[] #[]) (.func (.func 148) #[] #[.pointer (some ⟨n+3+1,0,none⟩),.pointer (some ⟨n+3,0,none⟩)]) (.func (.func 155) #[] #[.pointer (some ⟨n+5+1,0,none⟩),.pointer (some ⟨n+5+1+1,0,none⟩),.pointer (some ⟨n+5,0,none⟩)]) (.func (.func 156) #[] #[.pointer (some ⟨n+8+1,0,none⟩),.pointer (some ⟨n+8+1+1,0,none⟩),.pointer (some ⟨n+8,0,none⟩)]) (.func (.func 161) #[] #[.pointer (some ⟨n+11+1,0,none⟩),.pointer (some ⟨n+11+1+1,0,none⟩),.pointer (some ⟨n+11,0,none⟩)]) (.func (.func 148) #[] #[.pointer (some ⟨n+14+1,0,none⟩),.pointer (some ⟨n+14,0,none⟩)])
   have NX:Hid (o7=none→∀ (i:Nat) x,i < 7+1→l[i]?=some x→x.2=none):=hJJ (fun e i x hi hx=>by
    by_cases hij:i=7
    ·subst hij;obtain rfl:=Option.some.inj (hx.symm.trans LL7.out);exact e
    ·exact HA.out i x (by omega) hx)
   have HIT:Hid (∀ p,o7=some p→ck=(13,p)):=hJJ (fun p e=>by rw [CK.out];exact first_hit (q:=7) (by rw [LL7.out,e]) HA.out)
   have RC:=hJJ (RU7.out n _ BW.out LIW.out)
   clear RU0 RU1 RU2 RU3 RU4 RU5 RU6 RU7 LL0 LL1 LL2 LL3 LL4 LL5 LL6 LL7 LE HA LIW
   go_wp2_with (refine lgZ 31 ⟨w.heap.size,0,none⟩ c rfl LTW.out Tryz.underlying31 IA.out ?_)
   (try go_wp2_with fail)
   clear ix
   refine RC.out.mono ?_
   rintro e u1 ⟨rfl,hb⟩
   have D0:Hid (Below w.heap.size w u1):=hJJ (BW.out.trans (hb.mono BW.out.size))
   have D3:=hJJ (HB.out.trans (hb.mono HB.out.size))
   clear hb BW HB LTW RC
   cases o7 with
   | none =>
    have NN:=hJJ (NX.out rfl)
    clear NX HIT
    go_upto_region 5 with (refine Row.wpList_store_new rfl 40 _ _ rfl u1 _ #[I 0,I 0] rfl rfl rfl infoF rfl (by simp [Value.oneCell']) ?_)
    have hg:=Row.lies_new u1 #[I 0,I 0] 40
    have HL:Hid (Lies (u1.alloc (.cells #[I 0,I 0] 40)) ⟨u1.heap.size,0,none⟩ #[I 0,I 0].toList):=hJJ hg
    have F0:Hid (Below w.heap.size w (u1.alloc (.cells #[I 0,I 0] 40))):=hJJ (D0.out.alloc D0.out.size _)
    have F3:Hid (Below W2.heap.size W2 (u1.alloc (.cells #[I 0,I 0] 40))):=hJJ (D3.out.alloc D3.out.size _)
    clear hg D0 D3
    generalize u1.alloc (.cells #[I 0,I 0] 40)=u2 at HL F0 F3 ⊢
    generalize u1.heap.size=b2 at HL ⊢
    have EQ:=hJJ (show Eqs 40 [I 0,I 0] [I 0,I 0] true from fault_eqs 0 0 0 0)
    go_wp2_with (first | (refine lgZ 40 ⟨b2,0,none⟩ [I 0,I 0] rfl HL.out Tryz.underlying40 infoF ?_) | (refine Row.wpList_neq 40 _ _ _ rfl (by rfl) #[I 0,I 0] #[I 0,I 0] rfl rfl guardF true EQ.out ?_))
    (try go_wp2)
    go_roundw
    case rel=>exact ⟨7+1,by omega,by go_num,NN.out,F3.out⟩
    case measure=>simp [intOf]
   | some p =>
    have CP:=hJJ (HIT.out p rfl)
    clear NX HIT
    go_upto_region 5 with (refine Row.wpList_store_new rfl 40 _ _ rfl u1 _ #[I 13,I p] rfl rfl rfl infoF rfl (by simp [Value.oneCell']) ?_)
    have hg:=Row.lies_new u1 #[I 13,I p] 40
    have HL:Hid (Lies (u1.alloc (.cells #[I 13,I p] 40)) ⟨u1.heap.size,0,none⟩ #[I 13,I p].toList):=hJJ hg
    have F0:Hid (Below w.heap.size w (u1.alloc (.cells #[I 13,I p] 40))):=hJJ (D0.out.alloc D0.out.size _)
    have F3:Hid (Below W2.heap.size W2 (u1.alloc (.cells #[I 13,I p] 40))):=hJJ (D3.out.alloc D3.out.size _)
    clear hg D0 D3
    generalize u1.alloc (.cells #[I 13,I p] 40)=u2 at HL F0 F3 ⊢
    generalize u1.heap.size=b2 at HL ⊢
    have EQ:=hJJ (show Eqs 40 [I 13,I p] [I 0,I 0] false from by have:=fault_eqs 13 p 0 0;rwa [decide_eq_false (by omega)] at this)
    have G2:Hid (u2.heap[w.heap.size+1]?=some (.cells #[.int .i64 0,.int .i64 0] 40 (0,0))):=hJJ ((F3.out.block _ (Array.getElem?_eq_some_iff.1 C2.out).1).trans C2.out)
    have HW:=hJJ (below_setRow F0.out (g:=w.heap.size+1) (by omega) #[I 13,I p])
    have HK:=hJJ (setRow_heap u2 (w.heap.size+1) _ #[I 13,I p] _ _ G2.out)
    go_wp2_with (first | (refine lgZ 40 ⟨b2,0,none⟩ [I 13,I p] rfl HL.out Tryz.underlying40 infoF ?_) | (refine Row.wpList_neq 40 _ _ _ rfl (by rfl) #[I 13,I p] #[I 0,I 0] rfl rfl guardF false EQ.out ?_) | (refine wpList_store_row rfl 40 _ _ rfl (w.heap.size+1) #[I 13,I p] rfl rfl 40 _ G2.out infoF rfl (by simp [Value.oneCell']) ?_))
    generalize u2.setRow (w.heap.size+1) #[I 13,I p]=uz at HW HK ⊢
    (try go_wp2_with fail)
    (try simp only [Exit.inBlock,Exit.then])
    refine bodyPost_ret (v:=.agg #[I 13,I p]) ?_ rfl ⟨by rw [CP.out];rfl,HW.out⟩
    exact results_cell_row rfl _ _ (w.heap.size+1) 40 _ (0,0) _ rfl HK.out Tryz.underlying40 rfl infoF
  ·rw [show ((8:Nat):Int)=(8:Int) from rfl]
   have RO:=hJJ (show ck=(0,0) by rw [CK.out];exact first_miss (fun x hx=>by obtain ⟨j,hj,rfl⟩:=List.getElem_of_mem hx;have h1:=List.getElem?_eq_getElem hj;exact HA.out j _ (LE.out j _ h1) h1))
   have G2:Hid (wr.heap[w.heap.size+1]?=some (.cells #[.int .i64 0,.int .i64 0] 40 (0,0))):=hJJ ((HB.out.block _ (Array.getElem?_eq_some_iff.1 C2.out).1).trans C2.out)
   clear RU0 RU1 RU2 RU3 RU4 RU5 RU6 RU7 LL0 LL1 LL2 LL3 LL4 LL5 LL6 LL7 LE HA LIW
   have HW:=hJJ (below_setRow BW.out (g:=w.heap.size+1) (by omega) #[.int .i64 0,.int .i64 0])
   have HK:=hJJ (setRow_heap wr (w.heap.size+1) _ #[.int .i64 0,.int .i64 0] _ _ G2.out)
   go_wp2_with (first | (refine wpList_store_row rfl 40 _ _ rfl (w.heap.size+1) #[.int .i64 0,.int .i64 0] rfl rfl 40 _ G2.out infoF rfl (by simp [Value.oneCell']) ?_))
   generalize wr.setRow (w.heap.size+1) #[.int .i64 0,.int .i64 0]=uz at HW HK ⊢
   (try go_wp2_with fail)
   (try simp only [Exit.inBlock,Exit.then])
   refine bodyPost_ret (v:=.agg #[.int .i64 0,.int .i64 0]) ?_ rfl ⟨by rw [RO.out];rfl,HW.out⟩
   exact results_cell_row rfl _ _ (w.heap.size+1) 40 _ (0,0) _ rfl HK.out Tryz.underlying40 rfl infoF
end ChkK
namespace Good9
open Zip
open Go.ChangeShapes Go.WideShapes Go.ChangeAt Go.RowKit
open Tab Gath GenG GenT PlaceM
open Clone (zPh)
open GenT (zTab)
def gp:Ph:=⟨true,1,0,1,1,0,10,0,0,0,0,false,false⟩
def gc (p:Nat):Int:=if p=0 then 2 else 1
def goodAt (q:Nat):Tab:={ zTab with phases:=upd (fun _=>gp) zPh q,conflict:=upd gc 0 q,flash:=upd (fun _=>1) 0 q }
def goodT:Tab:={ goodAt 2 with groups:=[([0,1],[])] }
theorem infoTz:(Tryz.prog.info? 31).map (fun i=>(i.zero,i.size))=some (some (.agg (zTab.cells GenT.zHd).toArray),131):=by kernel_rfl
theorem infoPz:(Tryz.prog.info? 23).map (·.size)=some 13:=by kernel_rfl
theorem wpList_store_mid {P:Program} {ops:Array Oper} {rest:List Oper} {op:Oper} {a:Act} {w w':World} {Q:Exit→Act→World→Prop} (hw:Region.wanted op (yielded ops a.tmps)=true) (ty:TypeId) (x y:Operand) (ho:op.op=.store ty x y) (p:Addr) (cells:Array Value)
  (hx:a.eval x=.pointer (some p)) (hy:a.eval y=.agg cells) (hr:(Instr.storeAt ty (.pointer (some p)) (.agg cells)).run P w=.ok () w') (h:wpList P ops Q rest (a.put op.dst undef) w'):wpList P ops Q (op :: rest) a w :=
 BigFrame.wpList_want hw fun _ hK=>by
  unfold Oper.wp execOp
  simp only [ho,hx,hy,Sem.run_bind,hr,Result.andThen_ok,Sem.run_pure]
  exact hK _ _ h
theorem store_ph2 {w W:World} {hd:Hd} {T:Tab} (h:Bx w hd T W) (p:Nat) (hp:p < 8) (x:Ph) :
  ∃ W',(Instr.storeAt 23 (.pointer (some ⟨w.heap.size+1,p*13,none⟩)) (.agg x.cells.toArray)).run Tryz.prog W=.ok () W'∧Bx w hd { T with phases:=T.phases.set p x } W':=by
 have hl:=cells_cut hd h.ph h.cf h.fl
 have hr:=Row.run_storeAt_at (P:=Tryz.prog) W (w.heap.size+1) (p*13) 31 23 (T.cells hd).toArray x.cells.toArray h.blk infoPz (by simp [hl,Ph.cells];omega) (Ph.one x)
 refine ⟨_,hr,h.write (GenT.setRow_grown _ _ _ h.size) ?_ (by simp [h.ph]) h.cf h.fl rfl rfl rfl rfl⟩
 rw [setRow_heap _ _ _ _ _ _ h.blk,← cells_phase hd h.ph p hp x,Nat.mul_comm 13 p]
 rfl
theorem start (w:World):Bx w GenT.zHd (goodAt 0) ((w.alloc (.cells (zTab.cells GenT.zHd).toArray 31)).alloc (.cells (zTab.cells GenT.zHd).toArray 31)) :=
 ⟨((Below.refl _ _).alloc (Nat.le_refl _) _).alloc (by simp) _,heap_alloc2_old w _ _,heap_alloc2_new w _ _,rfl,rfl,rfl,⟨[],rfl,RowOf.nil _,(by intro x hx;simp [GenT.zHd] at hx),(by intro g hg;simp at hg)⟩,Owns.nil,Owns.nil,Owns.nil,(by intro x hx;simp [GenT.zHd] at hx)⟩
def gHd (S:Nat):Hd:=⟨⟨some ⟨S+1,0,none⟩,1⟩,⟨none,0⟩,⟨none,0⟩,⟨none,0⟩⟩
theorem laidG (wr:World):GrT ((wr.alloc (.cells #[I 0,I 1] 3)).alloc (.cells #[.slice (some ⟨wr.heap.size,0,none⟩) 2 2,.slice none 0 0] 65)) ⟨some ⟨wr.heap.size+1,0,none⟩,1⟩ [([0,1],[])]:=by
 have b0:=heap_alloc2_old wr (.cells #[I 0,I 1] 3) (.cells #[.slice (some ⟨wr.heap.size,0,none⟩) 2 2,.slice none 0 0] 65)
 have b1:=heap_alloc2_new wr (.cells #[I 0,I 1] 3) (.cells #[.slice (some ⟨wr.heap.size,0,none⟩) 2 2,.slice none 0 0] 65)
 generalize (wr.alloc (.cells #[I 0,I 1] 3)).alloc (.cells #[.slice (some ⟨wr.heap.size,0,none⟩) 2 2,.slice none 0 0] 65)=W at *
 have l0:=Row.lies_of_block b0
 have l1:=Row.lies_of_block b1
 refine ⟨[⟨[0,1],[],⟨some ⟨wr.heap.size,0,none⟩,2⟩,⟨none,0⟩⟩],rfl,.inr ⟨_,rfl,Nat.le_refl _,(show 1≤maxLen by decide),?_⟩,?_,?_⟩
 ·intro i v hv
  match i,hv with
  | 0,hv =>
   obtain rfl:_=v:=by simpa using hv
   simpa [Addr.add,Gr.cells,Sl.val] using l1
  | (i+1),hv=>simp at hv
 ·intro x hx
  cases hx
  exact ⟨_,b1⟩
 ·intro g hg
  simp only [List.mem_singleton] at hg
  subst hg
  refine ⟨⟨.inr ⟨_,rfl,Nat.le_refl _,(show 2≤maxLen by decide),?_⟩,?_⟩,⟨RowOf.nil _,fun x hx=>by cases hx⟩⟩
  ·intro i v hv j u hu
   match i,hv with
   | 0,hv =>
    obtain rfl:_=v:=by simpa using hv
    match j,hu with
    | 0,hu =>
     obtain rfl:_=u:=by simpa using hu
     rw [show (((⟨wr.heap.size,0,none⟩:Addr).add (0*1)).add 0)=⟨wr.heap.size,0,none⟩ from rfl,cell_of_row _ _ _ _ _ _ b0]
     rfl
    | (j+1),hu=>simp at hu
   | 1,hv =>
    obtain rfl:_=v:=by simpa using hv
    match j,hu with
    | 0,hu =>
     obtain rfl:_=u:=by simpa using hu
     rw [show (((⟨wr.heap.size,0,none⟩:Addr).add (1*1)).add 0)=⟨wr.heap.size,1,none⟩ from rfl,cell_of_row _ _ _ _ _ _ b0]
     rfl
    | (j+1),hu=>simp at hu
   | (i+2),hv=>simp at hv
  ·intro x hx
   cases hx
   exact ⟨_,b0⟩
theorem laid {w wr W:World} (h:Bx w GenT.zHd (goodAt 2) W) (S:Nat) (hS:w.heap.size≤S) (hG:GrT W ⟨some ⟨S+1,0,none⟩,1⟩ [([0,1],[])]):Bx w (gHd S) goodT (W.setCell ⟨w.heap.size+1,104,none⟩ (.slice (some ⟨S+1,0,none⟩) 1 1)):=by
 have hg:=grown_set W (w.heap.size+1) 104 (.slice (some ⟨S+1,0,none⟩) 1 1)
 refine ⟨h.bel.grown hg h.bel.size (fun k hk=>by cases hk;omega),(hg.block _ (by have:=h.size;omega) (fun e=>by simp at e)).trans h.res,?_,rfl,rfl,rfl,?_,Owns.nil,Owns.nil,Owns.nil,(by intro x hx;cases hx;exact ⟨S+1,rfl,by omega⟩)⟩
 ·rw [heap_setCell_same _ _ _ _ _ _ h.blk]
  have:=cells_groups (T:=goodAt 2) GenT.zHd rfl ⟨some ⟨S+1,0,none⟩,1⟩ [([0,1],[])]
  simp only [Sl.val,List.length_singleton] at this
  rw [show goodT={ goodAt 2 with groups:=[([0,1],[])] } from rfl,show gHd S=⟨⟨some ⟨S+1,0,none⟩,1⟩,GenT.zHd.d,GenT.zHd.r,GenT.zHd.b⟩ from rfl,← this]
  simp
 ·exact hG.grown hg (fun m e=>by
   cases e
   exact ⟨_,_,h.blk,by decide,by decide⟩)
theorem good_any (w:World):Calls Tryz.prog 61 #[] w fun e w'=>∃ hd,e=.returned (.agg (goodT.cells hd).toArray)∧IsTab w' hd goodT∧Below w.heap.size w w':=by
 have hz:=(zero_of_info infoTz).1
 have ST:=hJJ (start w)
 have ZL:(zTab.cells GenT.zHd).length=131:=rfl
 generalize hZ:zTab.cells GenT.zHd=Z at *
 clear hZ
 go_enter Tryz.func61,Tryz.ntmps61
 go_upto_region 2 with fail
 generalize (w.alloc (.cells Z.toArray 31)).alloc (.cells Z.toArray 31)=W0 at ST ⊢
 clear hz ZL
 go_wp2_with fail
 go_loopw [2] (fun i wr=>∃ q:Nat,q≤2∧i=.int .i64 q∧Bx w GenT.zHd (goodAt q) wr) (fun i _=>2 - (intOf i).toNat)
 case atStart=>exact ⟨0,by omega,rfl,ST.out⟩
 case round =>
  obtain ⟨q,hq,rfl,hB⟩:=hrel
  have HB:=hJJ hB
  clear hB
  by_cases hlt:q < 2
  ·obtain ⟨w3,hst,hB3⟩:=store_ph2 HB.out q (by omega) gp
   have HST:=hJJ hst
   clear hst
   have HB3:=hJJ hB3
   have hs1:=hB3.set (105+q) (I (gc q)) (cells_conflict GenT.zHd hB3.ph hB3.cf q (by omega) (gc q)) hB3.ph (by simp [goodAt,upd_len]) hB3.fl rfl rfl rfl rfl
   have e1:(upd (fun _=>gp) zPh q).set q gp=upd (fun _=>gp) zPh (q+1):=upd_succ _ _ _
   have e2:(upd gc 0 q).set q (gc q)=upd gc 0 (q+1):=upd_succ _ _ _
   have e3:(upd (fun _=>(1:Int)) 0 q).set q 1=upd (fun _=>1) 0 (q+1):=upd_succ _ _ _
   have hs2:=hs1.set (121+q) (I 1) (cells_flash GenT.zHd hs1.ph hs1.cf hs1.fl q (by omega) 1) hs1.ph hs1.cf (by simp [goodAt,upd_len]) rfl rfl rfl rfl
   have c5:w3.cell? ⟨w.heap.size+1,105+q,none⟩=some (I 0):=(range_of HB3.out.blk 105 8 _ (cells_ok HB3.out.tab).conflict) q _ (by
    rw [List.getElem?_map]
    show ((upd gc 0 q)[q]?).map I=_
    rw [upd_at _ _ _ _ (by omega),if_neg (by omega)];rfl)
   have f5:=HB3.out.frozen (105+q)
   have c7:(w3.setCell ⟨w.heap.size+1,105+q,none⟩ (I (gc q))).cell? ⟨w.heap.size+1,121+q,none⟩=some (I 0):=(range_of hs1.blk 121 8 _ (cells_ok hs1.tab).flash) q _ (by
    rw [List.getElem?_map]
    show ((upd (fun _=>(1:Int)) 0 q)[q]?).map I=_
    rw [upd_at _ _ _ _ (by omega),if_neg (by omega)];rfl)
   have f7:=hs1.frozen (121+q)
   have HS:Hid (Bx w GenT.zHd (goodAt (q+1)) ((w3.setCell ⟨w.heap.size+1,105+q,none⟩ (I (gc q))).setCell ⟨w.heap.size+1,121+q,none⟩ (I 1))):=hJJ (by
    have h:=hs2
    simp only [goodAt] at h
    rw [e1,e2,e3] at h
    exact h)
   clear hs1 hs2 e1 e2 e3 hB3 HB3 HB ST
   have h01:q=0∨q=1:=by omega
   clear hq hlt
   rcases h01 with rfl | rfl
   ·have hg:gc 0=2:=rfl
    rw [hg] at c7 f7 HS
    rw [show ((0:Nat):Int)=(0:Int) from rfl]
    go_wp2_with (refine wpList_store_mid (by rfl) 23 _ _ rfl ⟨w.heap.size+1,0*13,none⟩ gp.cells.toArray rfl rfl HST.out ?_)
    (try go_wp2)
    go_roundw
    case rel=>exact ⟨0+1,by omega,by go_num,HS.out⟩
    case measure=>simp [intOf]
   ·have hg:gc 1=1:=rfl
    rw [hg] at c7 f7 HS
    rw [show ((1:Nat):Int)=(1:Int) from rfl]
    go_wp2_with (refine wpList_store_mid (by rfl) 23 _ _ rfl ⟨w.heap.size+1,1*13,none⟩ gp.cells.toArray rfl rfl HST.out ?_)
    (try go_wp2)
    go_roundw
    case rel=>exact ⟨1+1,by omega,by go_num,HS.out⟩
    case measure=>simp [intOf]
  ·obtain rfl:q=2:=by omega
   have hbel:Below wr.heap.size wr ((wr.alloc (.cells #[I 0,I 1] 3)).alloc (.cells #[.slice (some ⟨wr.heap.size,0,none⟩) 2 2,.slice none 0 0] 65)):=((Below.refl _ _).alloc (Nat.le_refl _) _).alloc (by simp) _
   have HW:=hJJ (HB.out.step hbel)
   have c104:((wr.alloc (.cells #[I 0,I 1] 3)).alloc (.cells #[.slice (some ⟨wr.heap.size,0,none⟩) 2 2,.slice none 0 0] 65)).cell? ⟨w.heap.size+1,104,none⟩=some (.slice none 0 0):=by rw [HW.out.cell];rfl
   have f104:=HW.out.frozen 104
   have HL:=hJJ (laid (wr:=wr) HW.out wr.heap.size HB.out.bel.size (laidG wr))
   obtain ⟨w8,hst,hbk,htab,hbel8⟩:=HL.out.store_res
   have IA:Hid ((Tryz.prog.info? 31).map (·.size)=some (goodT.cells (gHd wr.heap.size)).length):=hJJ May.infoT
   have LT:Hid (Lies _ ⟨w.heap.size+1,0,none⟩ (goodT.cells (gHd wr.heap.size))):=hJJ (by have:=Row.lies_of_block HL.out.blk;simpa using this)
   have FIN:Hid (∃ hd,Ending.returned (.agg (goodT.cells (gHd wr.heap.size)).toArray)=.returned (.agg (goodT.cells hd).toArray)∧IsTab w8 hd goodT∧Below w.heap.size w w8):=hJJ ⟨_,rfl,htab,hbel8⟩
   have HK:=hJJ hbk
   have csl:(goodT.cells (gHd wr.heap.size)).length=131:=rfl
   clear hbk htab hbel8 HL HW hbel HB ST hq hlt
   generalize goodT.cells (gHd wr.heap.size)=cs at *
   go_wp2_with (refine lgZ 31 ⟨w.heap.size+1,0,none⟩ cs rfl LT.out Tryz.underlying31 IA.out ?_)
   (try simp only [Exit.inBlock,Exit.then])
   refine bodyPost_ret (v:=.agg cs.toArray) ?_ rfl FIN.out
   exact results_cell_row rfl _ _ w.heap.size 31 _ (0,0) _ rfl HK.out Tryz.underlying31 rfl (by have:=IA.out;simpa using this)
end Good9
namespace Wa9
open Zip
open Go.ChangeShapes Go.WideShapes Go.ChangeAt Go.RowKit
open Tab Clone PlaceM PlanM OnS ChkM ChkK
open May (chain infoT)
open Same (Eqs)
theorem chk_z:chkC zTab=(8,0):=by decide +kernel
theorem chk_g:chkC Good9.goodT=(0,0):=by decide +kernel
theorem builtZ:Tryz.prog.built 31 []=some (zTab.cells zHd).toArray:=by kernel_rfl
section
variable {P:Program} {ops:Array Oper} {Q:Exit→Act→World→Prop}
theorem wpList_build0 {rest:List Oper} {o:Oper} {a:Act} {w:World} (hgd:o.guard=none) (t:TypeId) (ho:o.op=.build t #[]) (cells:Array Value) (hb:P.built t []=some cells)
  (h:wpList P ops Q rest (a.put o.dst (.agg cells)) w):wpList P ops Q (o :: rest) a w :=
 wpList_plain hgd fun _ hK=>by
  unfold Oper.wp execOp
  have hb':P.built t ((#[]:Array (Nat × Operand)).map fun (i,x)=>(i,a.eval x)).toList=some cells:=by simpa using hb
  simp only [ho,Sem.run_bind,run_build w t _ _ hb',Result.andThen_ok,Sem.run_pure]
  exact hK _ _ h
end
theorem awake_any (w:World):Calls Tryz.prog 23 #[] w fun e w'=>e=.returned (.bool true)∧Below w.heap.size w w':=by
 have BZ:=hJJ builtZ
 have CZ:Hid (∀ W,Calls Tryz.prog 24 #[.agg (zTab.cells zHd).toArray] W fun e w'=>e=.returned (.agg #[I 8,I 0])∧Below W.heap.size W w'):=hJJ (fun W=>by have:=check_any zTab zHd W (z_is W);rwa [chk_z] at this)
 have GD:Hid (∀ W,Calls Tryz.prog 61 #[] W fun e w'=>∃ c:Array Value,e=.returned (.agg c)∧Hid (Calls Tryz.prog 24 #[.agg c] w' fun e2 w2=>e2=.returned (.agg #[I 0,I 0])∧Below w'.heap.size w' w2)∧Below W.heap.size W w'):=hJJ (fun W=>(Good9.good_any W).mono (by
  rintro e w' ⟨hd,rfl,ht,hb⟩
  refine ⟨_,rfl,hJJ ?_,hb⟩
  have:=check_any Good9.goodT hd w' ht
  rwa [chk_g] at this))
 have E1:=hJJ (show Eqs 40 [I 8,I 0] [I 8,I 0] true from fault_eqs 8 0 8 0)
 have E2:=hJJ (show Eqs 40 [I 0,I 0] [I 0,I 0] true from fault_eqs 0 0 0 0)
 generalize (zTab.cells zHd).toArray=Z at BZ CZ
 go_enter Tryz.func23,Tryz.ntmps23
 go_upto_region 1 with fail
 go_wp2_with (refine wpList_build0 rfl 31 rfl Z BZ.out ?_)
 refine (CZ.out _).mono ?_
 rintro e u1 ⟨rfl,hb⟩
 have B1:=hJJ hb
 clear hb CZ BZ
 go_wp2_with (refine Row.wpList_eql 40 _ _ _ rfl (by rfl) #[I 8,I 0] #[I 8,I 0] rfl rfl guardF true E1.out ?_)
 refine (GD.out _).mono ?_
 rintro e u2 ⟨c,rfl,CG,hb⟩
 have B2:=hJJ (B1.out.trans (hb.mono B1.out.size))
 clear hb B1 GD
 go_wp2_with fail
 refine CG.out.mono ?_
 rintro e u3 ⟨rfl,hb⟩
 have B3:=hJJ (B2.out.trans (hb.mono B2.out.size))
 clear hb B2 CG
 go_wp2_with (refine Row.wpList_eql 40 _ _ _ rfl (by rfl) #[I 0,I 0] #[I 0,I 0] rfl rfl guardF true E2.out ?_)
 (try go_wp2)
 go_ret
 exact ⟨rfl,B3.out⟩
end Wa9
namespace Light9
open Zip
open Go.ChangeShapes Go.WideShapes Go.ChangeAt Go.RowKit
open Tab Clone
open May (ret_bool chain take_succ' infoP infoG infoD infoR infoB infoT St)
def Ok (gs:List Gr) (q:Nat):Prop:=∀ g ∈ gs.take q,g.r0.length≤12∧g.r1.length≤12
theorem Ok.step {gs:List Gr} {q:Nat} {v:Gr} (h:Ok gs q) (hv:gs[q]?=some v) (h0:¬ 12 < v.r0.length) (h1:¬ 12 < v.r1.length):Ok gs (q+1):=by
 intro g hg
 rw [take_succ' gs q v hv] at hg
 rcases List.mem_append.1 hg with hg | hg
 ·exact h g hg
 ·obtain rfl:g=v:=by simpa using hg
  omega
def IsLight (T:Tab):Prop:=T.groups.length≤8∧T.dets.length≤20∧T.rails.length≤8∧T.buses.length≤8∧∀ g ∈ T.groups,g.1.length≤12∧g.2.length≤12
instance (T:Tab):Decidable (IsLight T):=by unfold IsLight;infer_instance
theorem light_any (T:Tab) (h:Hd) (w:World) (ht:IsTab w h T) :
  Calls Tryz.prog 22 #[.agg (T.cells h).toArray] w fun e w'=>e=.returned (.bool (decide (IsLight T)))∧Below w.heap.size w w':=by
 have C:=hJJ (cells_ok ht)
 generalize (T.cells h).toArray=cs at C ⊢
 obtain ⟨gs,hgd,hgr⟩:=ht.groups
 have Hgr:=hJJ hgr
 have Hgd:=hJJ hgd
 have hsz:=C.out.size
 have S0:=hJJ (St.box (cs:=cs) ht)
 have Hgl:=hJJ (show T.groups.length=gs.length by rw [← hgd,List.length_map])
 have Kg:=hgr.1.len
 have Kd:=ht.dets.len
 have Kr:=ht.rails.len
 have Kb:=ht.buses.len
 unfold maxLen at Kg Kd Kr Kb
 clear ht hgr hgd
 go_enter Tryz.func22,Tryz.ntmps22
 go_upto_region 1 with fail
 generalize w.alloc (.cells cs 31)=w1 at S0 ⊢
 clear hsz
 have q104:=S0.out.cell C.out.g
 have q113:=S0.out.cell C.out.d
 have q114:=S0.out.cell C.out.r
 have q115:=S0.out.cell C.out.b
 rw [Hgl.out] at q104
 by_cases h1:8 < gs.length
 ·have NE:Hid (¬ IsLight T):=hJJ (fun e=>by have:=e.1;rw [Hgl.out] at this;omega)
  go_wp2
  go_ret
  exact ⟨ret_bool (decide_eq_false NE.out).symm,S0.out.bel⟩
 by_cases h2:20 < T.dets.length
 ·have NE:Hid (¬ IsLight T):=hJJ (fun e=>by have:=e.2.1;omega)
  go_wp2
  go_ret
  exact ⟨ret_bool (decide_eq_false NE.out).symm,S0.out.bel⟩
 by_cases h3:8 < T.rails.length
 ·have NE:Hid (¬ IsLight T):=hJJ (fun e=>by have:=e.2.2.1;omega)
  go_wp2
  go_ret
  exact ⟨ret_bool (decide_eq_false NE.out).symm,S0.out.bel⟩
 by_cases h4:8 < T.buses.length
 ·have NE:Hid (¬ IsLight T):=hJJ (fun e=>by have:=e.2.2.2.1;omega)
  go_wp2
  go_ret
  exact ⟨ret_bool (decide_eq_false NE.out).symm,S0.out.bel⟩
 have SM:Hid ((∀ g ∈ gs,g.r0.length≤12∧g.r1.length≤12)→IsLight T):=hJJ (fun hall=>⟨by rw [Hgl.out];omega,by omega,by omega,by omega,fun g hg=>by
  rw [← Hgd.out] at hg
  obtain ⟨v,hv,rfl⟩:=List.mem_map.1 hg
  exact hall v hv⟩)
 have SN:Hid (IsLight T→∀ g ∈ gs,g.r0.length≤12∧g.r1.length≤12):=hJJ (fun e g hg=>e.2.2.2.2 g.data (by rw [← Hgd.out];exact List.mem_map.2 ⟨g,hg,rfl⟩))
 go_wp2_with fail
 go_loopw [3] (fun i wr=>∃ q:Nat,q≤gs.length∧i=.int .i64 q∧Ok gs q∧wr=w1) (fun i _=>gs.length - (intOf i).toNat)
 case atStart=>exact ⟨0,by omega,rfl,(fun g hg=>by simp at hg),rfl⟩
 case round =>
  obtain ⟨q,hq,rfl,hall,rfl⟩:=hrel
  have Hall:=hJJ hall
  clear hall
  by_cases hlt:q < gs.length
  ·have hv:=List.getElem?_eq_getElem hlt
   generalize gs[q]=v at hv
   obtain ⟨x,hx,hc⟩:=(Hgr.out.1.below S0.out.bel).at hv
   have hok:=Hgr.out.2 v (List.mem_of_getElem? hv)
   have HV:=hJJ hv
   have K0:=hok.1.len
   have K1:=hok.2.len
   obtain ⟨l0,l1,⟨a0,cap0⟩,⟨a1,cap1⟩⟩:=v
   unfold maxLen at K0 K1
   have c104:wr.cell? ⟨w.heap.size,104,none⟩=some (.slice (some x) gs.length h.g.cap):=by have:=q104;simp only [Sl.val,hx] at this;exact this
   have c0:=hc 0 _ rfl
   have c1:=hc 1 _ rfl
   rw [add_zero] at c0
   rw [add_one] at c1
   clear hv hc hok hx q104
   by_cases h5:12 < l0.length
   ·have NE:Hid (¬ IsLight T):=hJJ (fun e=>by have:=(SN.out e _ (List.mem_of_getElem? HV.out)).1;simp only at this;omega)
    go_wp2
    go_ret
    exact ⟨ret_bool (decide_eq_false NE.out).symm,S0.out.bel⟩
   by_cases h6:12 < l1.length
   ·have NE:Hid (¬ IsLight T):=hJJ (fun e=>by have:=(SN.out e _ (List.mem_of_getElem? HV.out)).2;simp only at this;omega)
    go_wp2
    go_ret
    exact ⟨ret_bool (decide_eq_false NE.out).symm,S0.out.bel⟩
   go_wp2
   go_roundw
   case rel=>exact ⟨q+1,by omega,by go_num,Hall.out.step HV.out h5 h6,trivial⟩
   case measure=>simp [intOf];omega
  ·have SS:=hJJ (SM.out (fun g hg=>Hall.out g (by rw [List.take_of_length_le (by omega)];exact hg)))
   clear Hall
   go_wp2
   go_ret
   exact ⟨ret_bool (decide_eq_true SS.out).symm,S0.out.bel⟩
end Light9
namespace TabArg
open Go Go.ChangeShapes Go.WideShapes Go.Deep Flat Tab
theorem All2.rep {α β:Type} {R:α→β→Prop} {r:List α}:∀ (n:Nat) {cs:List β},All2 R (List.replicate n r).flatten cs→∃ l:List (List β),l.length=n∧cs=l.flatten∧∀ c ∈ l,All2 R r c
 | 0,cs,h=>⟨[],rfl,by cases cs with | nil=>rfl | cons _ _=>exact h.elim,by simp⟩
 | n+1,cs,h=>by
  rw [List.replicate_succ,List.flatten_cons] at h
  obtain ⟨h1,h2⟩:=h.split
  obtain ⟨l,hl,he,hr⟩:=All2.rep n h2
  refine ⟨cs.take r.length :: l,by simp [hl],?_,?_⟩
  ·rw [List.flatten_cons,← he,List.take_append_drop]
  ·intro c hc
   rcases List.mem_cons.1 hc with rfl | hc
   ·exact h1
   ·exact hr c hc
theorem map_choose {α β:Type} {f:α→List β} {p:α→Prop}:∀ {l:List (List β)},(∀ c ∈ l,∃ v,c=f v∧p v)→∃ m:List α,m.length=l.length∧l.flatten=m.flatMap f∧∀ v ∈ m,p v
 | [],_=>⟨[],rfl,rfl,by simp⟩
 | c :: l,h=>by
  obtain ⟨v,hv,hp⟩:=h c (by simp)
  obtain ⟨m,h1,h2,h3⟩:=map_choose (l:=l) (fun c hc=>h c (by simp [hc]))
  exact ⟨v :: m,by simp [h1],by rw [List.flatten_cons,h2,hv,List.flatMap_cons],by
   intro u hu
   rcases List.mem_cons.1 hu with rfl | hu
   ·exact hp
   ·exact h3 u hu⟩
section
variable {H:Type} {enc:TypeId × Value→H} {P:Program} {w:World} {base:Nat} {spare:Nat→Bool} {held:Bool}
abbrev Tr (enc:TypeId × Value→H) (P:Program) (w:World) (base:Nat) (spare:Nat→Bool) (held:Bool) (t:TypeId) (v:Value):Prop:=∃ n y,DataW.trod enc P w base spare held n t [v]=some y
theorem tr_int {t:TypeId} {v:Value} (hu:P.underlying t=some (.int .i64)) (h:Tr enc P w base spare held t v):∃ z,v=I z:=by
 obtain ⟨n,y,h⟩:=h
 obtain ⟨z,hz,_⟩:=DataW.trod_int hu h
 exact ⟨z,by simpa using hz⟩
theorem tr_bool {t:TypeId} {v:Value} (hu:P.underlying t=some .bool) (h:Tr enc P w base spare held t v):∃ b,v=.bool b:=by
 obtain ⟨n,y,h⟩:=h
 obtain ⟨z,hz,_⟩:=DataW.trod_bool hu h
 exact ⟨z,by simpa using hz⟩
theorem tr_flt {t:TypeId} {v:Value} (hu:P.underlying t=some (.float .f64)) (h:Tr enc P w base spare held t v):∃ b,v=F b:=by
 obtain ⟨n,y,h⟩:=h
 cases n with
 | zero=>simp [DataW.trod] at h
 | succ n =>
  unfold DataW.trod at h
  rw [hu] at h
  split at h <;> simp_all
theorem tr_ints {t:TypeId} (hu:P.underlying t=some (.int .i64)):∀ (n:Nat) {cs:List Value},All2 (Tr enc P w base spare held) (List.replicate n t) cs→∃ l:List Int,l.length=n∧cs=l.map I
 | 0,cs,h=>⟨[],rfl,by cases cs with | nil=>rfl | cons _ _=>exact h.elim⟩
 | n+1,[],h=>h.elim
 | n+1,c :: cs,h=>by
  obtain ⟨z,rfl⟩:=tr_int hu h.1
  obtain ⟨l,hl,rfl⟩:=tr_ints hu n h.2
  exact ⟨z :: l,by simp [hl],rfl⟩
theorem tr_row {α:Type} [Inhabited α] {t e:TypeId} {k:Nat} {f:α→List Value} {p:α→Prop} {v:Value} (ht:P.underlying t=some (.slice e)) (hC:P.cellsOf e=k)
  (hel:∀ n cs x,DataW.trod enc P w base spare held n e cs=some x→∃ v,cs=f v∧p v) (h:Tr enc P w base spare held t v) :
  ∃ (s:Sl) (l:List α),v=s.val l.length∧RowOf k f w s l∧∀ u ∈ l,p u:=by
 obtain ⟨n,y,h⟩:=h
 rcases Deep.open_slice ht h with ⟨h0,_⟩ | ⟨a,len,cap,m,n',D,Pl,hcs,_,hl,hm,hmm,_,hx⟩
 ·simp only [List.cons.injEq,and_true] at h0
  exact ⟨⟨none,0⟩,[],h0,RowOf.nil w,by simp⟩
 ·simp only [List.cons.injEq,and_true] at hcs
  have hlm:len≤m:=by rw [hmm];split <;> omega
  have each:∀ i,∃ u:α,i < len→Lies w (a.add (i*k)) (f u)∧p u:=by
   intro i
   by_cases hi:i < len
   ·obtain ⟨cs',h1,h2⟩:=hx i (by omega)
    rw [hC] at h1
    obtain ⟨_,hlen,hcell⟩:=World.cells?_some h1
    obtain ⟨u,rfl,hp⟩:=hel _ _ _ h2
    refine ⟨u,fun _=>⟨fun j v hv=>?_,hp⟩⟩
    have hj:j < k:=by rw [← hlen];exact (List.getElem?_eq_some_iff.1 hv).1
    rw [hcell j hj,hv]
   ·exact ⟨default,fun h=>absurd h hi⟩
  refine ⟨⟨some a,cap⟩,(List.range len).map fun i=>Classical.choose (each i),?_,.inr ⟨a,rfl,by simpa using hl,hm,?_⟩,?_⟩
  ·rw [hcs];simp
  ·intro i u hu
   rw [List.getElem?_map] at hu
   by_cases hi:i < len
   ·rw [List.getElem?_range hi] at hu
    obtain rfl:=Option.some.inj hu
    exact (Classical.choose_spec (each i) hi).1
   ·simp [List.getElem?_eq_none (l:=List.range len) (i:=i) (by simpa using hi)] at hu
  ·intro u hu
   obtain ⟨i,hi,rfl⟩:=List.mem_map.1 hu
   exact (Classical.choose_spec (each i) (List.mem_range.1 hi)).2
instance:Inhabited Gr:=⟨⟨[],[],⟨none,0⟩,⟨none,0⟩⟩⟩
abbrev B:TypeId:=4
abbrev N:TypeId:=3
abbrev X:TypeId:=88
abbrev phT:List TypeId:=[B,N,N,N,N,N,N,N,N,N,N,B,B]
theorem flD:flat Tryz.prog 4 90=some [N,X,X,X,X,N,N]:=by kernel_rfl
theorem flR:flat Tryz.prog 4 94=some (List.replicate 11 N):=by kernel_rfl
theorem flB:flat Tryz.prog 4 96=some (List.replicate 2 N):=by kernel_rfl
theorem flG:flat Tryz.prog 4 65=some (List.replicate 2 46):=by kernel_rfl
abbrev tabT:List TypeId:=(List.replicate 8 phT).flatten++(25 :: (List.replicate 8 N++(27 :: 28 :: 29 :: (List.replicate 5 N++(List.replicate 8 N++List.replicate 2 N)))))
theorem flT:flat Tryz.prog 5 31=some tabT:=by kernel_rfl
theorem ph_el:∀ {cs:List Value},All2 (Tr enc Tryz.prog w base spare held) phT cs→∃ p:Ph,cs=p.cells
 | [_,_,_,_,_,_,_,_,_,_,_,_,_],⟨h0,h1,h2,h3,h4,h5,h6,h7,h8,h9,h10,h11,h12,_⟩=>by
  obtain ⟨v0,rfl⟩:=tr_bool Tryz.underlying4 h0
  obtain ⟨v1,rfl⟩:=tr_int Tryz.underlying3 h1
  obtain ⟨v2,rfl⟩:=tr_int Tryz.underlying3 h2
  obtain ⟨v3,rfl⟩:=tr_int Tryz.underlying3 h3
  obtain ⟨v4,rfl⟩:=tr_int Tryz.underlying3 h4
  obtain ⟨v5,rfl⟩:=tr_int Tryz.underlying3 h5
  obtain ⟨v6,rfl⟩:=tr_int Tryz.underlying3 h6
  obtain ⟨v7,rfl⟩:=tr_int Tryz.underlying3 h7
  obtain ⟨v8,rfl⟩:=tr_int Tryz.underlying3 h8
  obtain ⟨v9,rfl⟩:=tr_int Tryz.underlying3 h9
  obtain ⟨v10,rfl⟩:=tr_int Tryz.underlying3 h10
  obtain ⟨v11,rfl⟩:=tr_bool Tryz.underlying4 h11
  obtain ⟨v12,rfl⟩:=tr_bool Tryz.underlying4 h12
  exact ⟨⟨v0,v1,v2,v3,v4,v5,v6,v7,v8,v9,v10,v11,v12⟩,rfl⟩
theorem det_el:∀ {cs:List Value},All2 (Tr enc Tryz.prog w base spare held) [N,X,X,X,X,N,N] cs→∃ d:Det,cs=d.cells
 | [_,_,_,_,_,_,_],⟨h0,h1,h2,h3,h4,h5,h6,_⟩=>by
  obtain ⟨v0,rfl⟩:=tr_int Tryz.underlying3 h0
  obtain ⟨v1,rfl⟩:=tr_flt Tryz.underlying88 h1
  obtain ⟨v2,rfl⟩:=tr_flt Tryz.underlying88 h2
  obtain ⟨v3,rfl⟩:=tr_flt Tryz.underlying88 h3
  obtain ⟨v4,rfl⟩:=tr_flt Tryz.underlying88 h4
  obtain ⟨v5,rfl⟩:=tr_int Tryz.underlying3 h5
  obtain ⟨v6,rfl⟩:=tr_int Tryz.underlying3 h6
  exact ⟨⟨v0,v1,v2,v3,v4,v5,v6⟩,rfl⟩
theorem rl_el {cs:List Value} (h:All2 (Tr enc Tryz.prog w base spare held) (List.replicate 11 N) cs):∃ r:Rl,cs=r.cells:=by
 obtain ⟨l,hl,rfl⟩:=tr_ints Tryz.underlying3 11 h
 match l,hl with
 | [a,b,c,d,e,f,g,h,i,j,k],_=>exact ⟨⟨a,b,c,d,e,f,g,h,i,j,k⟩,rfl⟩
theorem bs_el {cs:List Value} (h:All2 (Tr enc Tryz.prog w base spare held) (List.replicate 2 N) cs):∃ b:Bs,cs=b.cells:=by
 obtain ⟨l,hl,rfl⟩:=tr_ints Tryz.underlying3 2 h
 match l,hl with
 | [a,b],_=>exact ⟨⟨a,b⟩,rfl⟩
theorem int_row {v:Value} (h:Tr enc Tryz.prog w base spare held 46 v):∃ (s:Sl) (l:List Int),v=s.val l.length∧IntRow w s l:=by
 obtain ⟨s,l,h1,h2,_⟩:=tr_row (α:=Int) (k:=1) (f:=fun n=>[I n]) (p:=fun _=>True) Tryz.underlying46 (by kernel_rfl) (fun n cs x hx=>by
  obtain ⟨z,hz,_⟩:=DataW.trod_int Tryz.underlying3 hx
  exact ⟨z,hz,trivial⟩) h
 exact ⟨s,l,h1,h2⟩
theorem gr_el:∀ {cs:List Value},All2 (Tr enc Tryz.prog w base spare held) (List.replicate 2 46) cs→∃ g:Gr,cs=g.cells∧g.ok w
 | [_,_],⟨h0,h1,_⟩=>by
  obtain ⟨s0,r0,rfl,k0⟩:=int_row h0
  obtain ⟨s1,r1,rfl,k1⟩:=int_row h1
  exact ⟨⟨r0,r1,s0,s1⟩,rfl,k0,k1⟩
theorem open_tab {n:Nat} {cs:List Value} {x:DataW H × List MemPlace} (h:DataW.trod enc Tryz.prog w base spare held n 31 cs=some x):∃ (hd:Hd) (T:Tab),cs=T.cells hd∧IsTab w hd T:=by
 have hf:=trod_flat 5 _ _ flT n cs x h
 clear h
 obtain ⟨h1,h2⟩:=All2.split hf
 have e0:=List.take_append_drop (List.replicate 8 phT).flatten.length cs
 rw [← e0]
 generalize cs.take (List.replicate 8 phT).flatten.length=ca at h1
 generalize cs.drop (List.replicate 8 phT).flatten.length=cb at h2
 obtain ⟨L,hL,rfl,hall⟩:=All2.rep 8 h1
 obtain ⟨ps,hp1,hp2,_⟩:=map_choose (f:=Ph.cells) (p:=fun _=>True) (l:=L) (fun c hc=>(ph_el (hall c hc)).imp fun v hv=>⟨hv,trivial⟩)
 cases cb with
 | nil=>exact h2.elim
 | cons vg cb =>
 obtain ⟨hg,h3⟩:=h2
 obtain ⟨h4,h5⟩:=All2.split h3
 have e1:=List.take_append_drop (List.replicate 8 N).length cb
 rw [← e1]
 generalize cb.take (List.replicate 8 N).length=cc at h4
 generalize cb.drop (List.replicate 8 N).length=cd at h5
 obtain ⟨cf,hcf,rfl⟩:=tr_ints Tryz.underlying3 8 h4
 match cd,h5 with
 | vd :: vr :: vb :: ce,⟨hd,hr,hb,h6⟩ =>
 obtain ⟨h7,h8⟩:=All2.split h6
 have e2:=List.take_append_drop (List.replicate 5 N).length ce
 rw [← e2]
 generalize ce.take (List.replicate 5 N).length=cg at h7
 generalize ce.drop (List.replicate 5 N).length=ch at h8
 obtain ⟨five,h5l,rfl⟩:=tr_ints Tryz.underlying3 5 h7
 obtain ⟨h9,h10⟩:=All2.split h8
 have e3:=List.take_append_drop (List.replicate 8 N).length ch
 rw [← e3]
 generalize ch.take (List.replicate 8 N).length=ci at h9
 generalize ch.drop (List.replicate 8 N).length=cj at h10
 obtain ⟨fl,hfl,rfl⟩:=tr_ints Tryz.underlying3 8 h9
 obtain ⟨two,h2l,rfl⟩:=tr_ints Tryz.underlying3 2 h10
 obtain ⟨sg,gs,rfl,kg,kgo⟩:=tr_row (α:=Gr) (k:=2) (f:=Gr.cells) (p:=fun g=>g.ok w) Tryz.underlying25 (by kernel_rfl) (fun n cs x hx=>gr_el (trod_flat 4 _ _ flG n cs x hx)) hg
 obtain ⟨sd,ds,rfl,kd,_⟩:=tr_row (α:=Det) (k:=7) (f:=Det.cells) (p:=fun _=>True) Tryz.underlying27 (by kernel_rfl) (fun n cs x hx=>(det_el (trod_flat 4 _ _ flD n cs x hx)).imp fun v hv=>⟨hv,trivial⟩) hd
 obtain ⟨sr,rs,rfl,kr,_⟩:=tr_row (α:=Rl) (k:=11) (f:=Rl.cells) (p:=fun _=>True) Tryz.underlying28 (by kernel_rfl) (fun n cs x hx=>(rl_el (trod_flat 4 _ _ flR n cs x hx)).imp fun v hv=>⟨hv,trivial⟩) hr
 obtain ⟨sb,bs,rfl,kb,_⟩:=tr_row (α:=Bs) (k:=2) (f:=Bs.cells) (p:=fun _=>True) Tryz.underlying29 (by kernel_rfl) (fun n cs x hx=>(bs_el (trod_flat 4 _ _ flB n cs x hx)).imp fun v hv=>⟨hv,trivial⟩) hb
 match five,h5l,two,h2l with
 | [a,b,c,d,e],_,[f,g],_ =>
 refine ⟨⟨sg,sd,sr,sb⟩,⟨ps,gs.map Gr.data,cf,ds,rs,bs,a,b,c,d,e,fl,f,g⟩,?_,⟨by rw [hp1,hL],hcf,hfl,⟨gs,rfl,kg,kgo⟩,kd,kr,kb⟩⟩
 rw [hp2]
 simp only [Tab.cells,List.length_map,List.cons_append,List.nil_append,List.map_cons,List.map_nil]
end
end TabArg
namespace Kx
open Go Go.RowKit
open Tab Gath GenG GenT Clone
structure Kx (w0:World) (tb:Nat) (hd:Hd) (T:Tab) (W:World):Prop where
 bel:Below w0.heap.size w0 W
 tbB:w0.heap.size≤tb
 blk:W.heap[tb]?=some (.cells (T.cells hd).toArray 31 (0,0))
 tab:IsTab w0 hd T
theorem Kx.size {w0:World} {tb:Nat} {hd:Hd} {T:Tab} {W:World} (h:Kx w0 tb hd T W):tb < W.heap.size:=(Array.getElem?_eq_some_iff.1 h.blk).1
theorem Kx.step {w0:World} {tb:Nat} {hd:Hd} {T:Tab} {W W':World} (h:Kx w0 tb hd T W) (hb:Below W.heap.size W W'):Kx w0 tb hd T W' :=
 ⟨h.bel.trans (hb.mono h.bel.size),h.tbB,(hb.block _ h.size).trans h.blk,h.tab⟩
theorem Kx.cell {w0:World} {tb:Nat} {hd:Hd} {T:Tab} {W:World} (h:Kx w0 tb hd T W) (i:Nat):W.cell? ⟨tb,i,none⟩=(T.cells hd)[i]?:=by
 rw [cell_of_row _ _ _ _ _ _ h.blk];simp
theorem Kx.frozen {w0:World} {tb:Nat} {hd:Hd} {T:Tab} {W:World} (h:Kx w0 tb hd T W) (i:Nat):W.frozen? ⟨tb,i,none⟩=false:=frozen_of_row _ _ _ _ _ h.blk
theorem Kx.write {w0:World} {tb:Nat} {hd:Hd} {T U:Tab} {W W':World} (h:Kx w0 tb hd T W) (hg:W.grownBy W' (some tb)) (hb:W'.heap[tb]?=some (.cells (U.cells hd).toArray 31 (0,0)))
  (h1:U.phases.length=8) (h2:U.conflict.length=8) (h3:U.flash.length=8) (e1:U.groups=T.groups) (e2:U.dets=T.dets) (e3:U.rails=T.rails) (e4:U.buses=T.buses):Kx w0 tb hd U W' :=
 ⟨h.bel.grown hg h.bel.size (fun k hk=>by cases hk;exact h.tbB),h.tbB,hb,⟨h1,h2,h3,by rw [e1];exact h.tab.groups,by rw [e2];exact h.tab.dets,by rw [e3];exact h.tab.rails,by rw [e4];exact h.tab.buses⟩⟩
theorem Kx.set {w0:World} {tb:Nat} {hd:Hd} {T U:Tab} {W:World} (h:Kx w0 tb hd T W) (i:Nat) (v:Value) (hc:(T.cells hd).set i v=U.cells hd)
  (h1:U.phases.length=8) (h2:U.conflict.length=8) (h3:U.flash.length=8) (e1:U.groups=T.groups) (e2:U.dets=T.dets) (e3:U.rails=T.rails) (e4:U.buses=T.buses):Kx w0 tb hd U (W.setCell ⟨tb,i,none⟩ v) :=
 h.write (grown_set _ _ _ _) (by rw [heap_setCell_same _ _ _ _ _ _ h.blk,← hc];simp) h1 h2 h3 e1 e2 e3 e4
theorem Kx.store_ph {w0:World} {tb:Nat} {hd:Hd} {T:Tab} {W:World} (h:Kx w0 tb hd T W) (p:Nat) (hp:p < 8) (x:Ph) :
  ∃ W',Sem.run Tryz.prog (storeCells ⟨tb,p*13,none⟩ x.cells) W=.ok () W'∧Kx w0 tb hd { T with phases:=T.phases.set p x } W':=by
 have hl:=cells_cut hd h.tab.ph h.tab.cf h.tab.fl
 have hr:=run_storeCells_at Tryz.prog tb (p*13) 31 x.cells 0 (T.cells hd).toArray W h.blk (by simp [hl,Ph.cells];omega) (fun v hv=>(Array.all_eq_true_iff_forall_mem.1 (Ph.one x)) v (by simpa using hv))
 simp only [Nat.add_zero] at hr
 refine ⟨_,hr,h.write (setRow_grown _ _ _ h.size) ?_ (by simp [h.tab.ph]) h.tab.cf h.tab.fl rfl rfl rfl rfl⟩
 rw [setRow_heap _ _ _ _ _ _ h.blk,← cells_phase hd h.tab.ph p hp x,Nat.mul_comm 13 p]
 rfl
end Kx
namespace Ky
open Go Go.RowKit
open Tab Gath GenG GenT Clone Kx
end Ky
end Go.Proofs.YtkkfdojjecagmaaGreat
