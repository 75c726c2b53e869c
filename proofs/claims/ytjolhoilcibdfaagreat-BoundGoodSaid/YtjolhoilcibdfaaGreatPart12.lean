/- 13 texts in one file, in build order. -/
import Derived.Test.YtjolhoilcibdfaaGreatPart01
import Derived.Test.YtjolhoilcibdfaaGreatRows
import Derived.Test.YtjolhoilcibdfaaGreatPart11
import Derived.Test.YtjolhoilcibdfaaGreatPart02
import Derived.Test.YtjolhoilcibdfaaGreatPart10
import Derived.Test.YtjolhoilcibdfaaGreatPart09
import Derived.Test.YtjolhoilcibdfaaGreatPart06
import Derived.Deep.Cut
import Derived.LoopTactic
import Derived.Great.BuildSlice
import Derived.Test.YtjolhoilcibdfaaGreatPart07
import Derived.Test.YtjolhoilcibdfaaGreatPart05
set_option linter.unusedVariables false
set_option linter.unusedSimpArgs false
set_option linter.unusedSectionVars false
set_option maxHeartbeats 8000000
set_option maxRecDepth 100000
namespace Go.Proofs.YtjolhoilcibdfaaGreat
namespace ChkK
open Zip
open Go.ChangeShapes Go.WideShapes Go.ChangeAt Go.RowKit
open Tab PlaceM PlanM OnS ChkM ChkA ChkH ChkQ
open ChkB (laid2)
open Same (below_setRow Eqs eqs_of)
open Flat
open May (ret_bool infoT tabMay)
theorem lerr (a b:Int):LeafEq Tryz.prog 35 (I a,I b):=leaf_int Tryz.underlying35 a b
theorem flatFt:flat Tryz.prog 3 37=some [35,3]:=by kernel_rfl
theorem guardF:Tryz.prog.eqGuardType Tryz.prog.depth 37=false:=by kernel_rfl
theorem fault_eqs (a b c d:Int):Eqs 37 [I a,I b] [I c,I d] (decide (a=c∧b=d)):=by
 refine eqs_of flatFt (by decide) (by kernel_rfl) [(I a,I c),(I b,I d)] ⟨lerr _ _,Same.lint _ _,trivial⟩ rfl rfl ?_
 simp
theorem ranges_any (T:Tab) (h:Hd) (w:World) (ht:IsTab w h T) :
  Calls Tryz.prog 73 #[.agg (T.cells h).toArray] w fun e w'=>e=.returned (.agg (fltC 4 (mayF T)))∧Below w.heap.size w w':=by
 have hsz:=(cells_ok ht).size
 have IA:Hid ((Tryz.prog.info? 32).map (·.size)=some (T.cells h).length):=hJJ (by rw [List.size_toArray] at hsz;rw [hsz];exact infoT)
 have MY:Hid (∀ W,Below w.heap.size w W→Calls Tryz.prog 108 #[.agg (T.cells h).toArray] W fun e w'=>e=.returned (.bool (tabMay T))∧Below W.heap.size W w'):=hJJ (fun W hb=>May.may_any T h W (ht.below hb))
 have LT0:=hJJ (Row.lies_new w (T.cells h).toArray 32)
 have hs1:(w.alloc (.cells (T.cells h).toArray 32)).heap.size=w.heap.size+1:=by simp
 have MF:Hid (mayF T=if tabMay T then none else some 0):=hJJ rfl
 generalize mayF T=o at MF ⊢
 generalize tabMay T=b at MF MY
 clear ht
 generalize T.cells h=c at *
 go_enter Tryz.func73,Tryz.ntmps73
 go_upto_region 1 with fail
 obtain ⟨W1,hW1,E1,E0,EB,bR⟩:=laid2 w (.cells c.toArray 32) (.cells #[.int .i64 0,.int .i64 0] 37)
 rw [hW1]
 have LT:=hJJ (LT0.out.below (by rw [hs1];exact EB))
 have B0:=hJJ E0
 clear hW1 EB hs1 hsz LT0 E0 E1
 go_wp2_with (refine lgZ 32 ⟨w.heap.size,0,none⟩ c rfl LT.out Tryz.underlying32 IA.out ?_)
 (try go_wp2_with fail)
 refine (MY.out _ B0.out).mono ?_
 rintro e u1 ⟨rfl,hb⟩
 have C0:Hid (Below w.heap.size w u1):=hJJ (B0.out.trans (hb.mono B0.out.size))
 have C2:Hid (u1.heap[w.heap.size+1]?=some (.cells #[.int .i64 0,.int .i64 0] 37 (0,0))):=hJJ ((hb.block _ (Array.getElem?_eq_some_iff.1 bR).1).trans bR)
 clear hb bR B0
 cases b with
 | true =>
  have RO:Hid (o=none):=hJJ (by rw [MF.out];rfl)
  have HW:=hJJ (below_setRow C0.out (g:=w.heap.size+1) (by omega) #[.int .i64 0,.int .i64 0])
  have HK:=hJJ (setRow_heap u1 (w.heap.size+1) _ #[.int .i64 0,.int .i64 0] _ _ C2.out)
  go_wp2_with (first | (refine wpList_store_row rfl 37 _ _ rfl (w.heap.size+1) #[.int .i64 0,.int .i64 0] rfl rfl 37 _ C2.out infoF rfl (by simp [Value.oneCell']) ?_))
  generalize u1.setRow (w.heap.size+1) #[.int .i64 0,.int .i64 0]=uz at HW HK ⊢
  (try go_wp2_with fail)
  (try simp only [Exit.inBlock,Exit.then])
  refine bodyPost_ret (v:=.agg #[.int .i64 0,.int .i64 0]) ?_ rfl ⟨by rw [RO.out];rfl,HW.out⟩
  exact results_cell_row rfl _ _ (w.heap.size+1) 37 _ (0,0) _ rfl HK.out Tryz.underlying37 rfl infoF
 | false =>
  have RO:Hid (o=some 0):=hJJ (by rw [MF.out];rfl)
  have HW:=hJJ (below_setRow C0.out (g:=w.heap.size+1) (by omega) #[.int .i64 4,.int .i64 0])
  have HK:=hJJ (setRow_heap u1 (w.heap.size+1) _ #[.int .i64 4,.int .i64 0] _ _ C2.out)
  go_wp2_with (first | (refine wpList_store_row rfl 37 _ _ rfl (w.heap.size+1) #[.int .i64 4,.int .i64 0] rfl rfl 37 _ C2.out infoF rfl (by simp [Value.oneCell']) ?_))
  generalize u1.setRow (w.heap.size+1) #[.int .i64 4,.int .i64 0]=uz at HW HK ⊢
  (try go_wp2_with fail)
  (try simp only [Exit.inBlock,Exit.then])
  refine bodyPost_ret (v:=.agg #[.int .i64 4,.int .i64 0]) ?_ rfl ⟨by rw [RO.out];rfl,HW.out⟩
  exact results_cell_row rfl _ _ (w.heap.size+1) 37 _ (0,0) _ rfl HK.out Tryz.underlying37 rfl infoF
theorem det_ok {T:Tab} {d:Det} (h:tabMay T=true) (hd:d ∈ T.dets):Fl.isn d.on=false∧Fl.isn d.off=false∧0≤d.phase∧d.phase < 8:=by
 have h1:May.Det.may d=true:=by
  unfold tabMay at h
  simp only [Bool.and_eq_true] at h
  have h2:May.listMay 16 May.Det.may T.dets=true:=by simp [h]
  unfold May.listMay at h2
  rw [Bool.and_eq_true,List.all_eq_true] at h2
  exact h2.2 d hd
 unfold May.Det.may MayF.level May.allIn May.inB at h1
 simp only [Bool.and_eq_true,List.all_cons,List.all_nil,Bool.and_true,decide_eq_true_eq,Bool.not_eq_true'] at h1
 obtain ⟨⟨h2,h3⟩,⟨⟨h4,_⟩,_⟩,⟨⟨h5,_⟩,_⟩,_⟩:=h1
 exact ⟨h4,h5,h2,by omega⟩
theorem none_may {T:Tab} (h:mayF T=none):tabMay T=true:=by
 unfold mayF at h
 cases hm:tabMay T with
 | true=>rfl
 | false=>rw [hm] at h;simp at h
theorem idx8_0 (v0 v1 v2 v3 v4 v5 v6 v7:Value) (w:World):Sem.run Tryz.prog (Instr.index 80 (.agg #[v0,v1,v2,v3,v4,v5,v6,v7]) (.int .i64 0)) w=.ok v0 w:=by kernel_rfl
theorem idx8_1 (v0 v1 v2 v3 v4 v5 v6 v7:Value) (w:World):Sem.run Tryz.prog (Instr.index 80 (.agg #[v0,v1,v2,v3,v4,v5,v6,v7]) (.int .i64 1)) w=.ok v1 w:=by kernel_rfl
theorem idx8_2 (v0 v1 v2 v3 v4 v5 v6 v7:Value) (w:World):Sem.run Tryz.prog (Instr.index 80 (.agg #[v0,v1,v2,v3,v4,v5,v6,v7]) (.int .i64 2)) w=.ok v2 w:=by kernel_rfl
theorem idx8_3 (v0 v1 v2 v3 v4 v5 v6 v7:Value) (w:World):Sem.run Tryz.prog (Instr.index 80 (.agg #[v0,v1,v2,v3,v4,v5,v6,v7]) (.int .i64 3)) w=.ok v3 w:=by kernel_rfl
theorem idx8_4 (v0 v1 v2 v3 v4 v5 v6 v7:Value) (w:World):Sem.run Tryz.prog (Instr.index 80 (.agg #[v0,v1,v2,v3,v4,v5,v6,v7]) (.int .i64 4)) w=.ok v4 w:=by kernel_rfl
theorem idx8_5 (v0 v1 v2 v3 v4 v5 v6 v7:Value) (w:World):Sem.run Tryz.prog (Instr.index 80 (.agg #[v0,v1,v2,v3,v4,v5,v6,v7]) (.int .i64 5)) w=.ok v5 w:=by kernel_rfl
theorem idx8_6 (v0 v1 v2 v3 v4 v5 v6 v7:Value) (w:World):Sem.run Tryz.prog (Instr.index 80 (.agg #[v0,v1,v2,v3,v4,v5,v6,v7]) (.int .i64 6)) w=.ok v6 w:=by kernel_rfl
theorem idx8_7 (v0 v1 v2 v3 v4 v5 v6 v7:Value) (w:World):Sem.run Tryz.prog (Instr.index 80 (.agg #[v0,v1,v2,v3,v4,v5,v6,v7]) (.int .i64 7)) w=.ok v7 w:=by kernel_rfl
theorem check_any (T:Tab) (h:Hd) (w:World) (ht:IsTab w h T) :
  Calls Tryz.prog 14 #[.agg (T.cells h).toArray] w fun e w'=>e=.returned (.agg (fcells (chkC T)))∧Below w.heap.size w w':=by
 have hsz:=(cells_ok ht).size
 have IA:Hid ((Tryz.prog.info? 32).map (·.size)=some (T.cells h).length):=hJJ (by rw [List.size_toArray] at hsz;rw [hsz];exact infoT)
 have LT0:=hJJ (Row.lies_new w (T.cells h).toArray 32)
 have hs1:(w.alloc (.cells (T.cells h).toArray 32)).heap.size=w.heap.size+1:=by simp
 have RU0:Hid (∀ n W,Below w.heap.size w W→Lie n W→Calls Tryz.prog 73 #[.agg (T.cells h).toArray] W fun e w'=>e=.returned (.agg (fltC 4 (mayF T)))∧Below W.heap.size W w'):=hJJ (fun n W hb hl=>ranges_any T h W (ht.below hb))
 have RU1:Hid (∀ n W,Below w.heap.size w W→Lie n W→Calls Tryz.prog 109 #[.agg (T.cells h).toArray,.pointer (some ⟨n+1+1,0,none⟩),.pointer (some ⟨n+1,0,none⟩)] W fun e w'=>e=.returned (.agg (fltC 7 ((ons T).find? fun p=>phBad (phAt T p))))∧Below W.heap.size W w'):=hJJ (fun n W hb hl=>ChkP.phases_P T h 7 (n+1+1) (n+1) (fun p=>phBad (phAt T p)) W (ht.below hb) hl.c2 hl.c1 (fun k W' hk hb'=>ChkB.badPhase_any T h k hk W' ((ht.below hb).below hb')))
 have RU2:Hid (∀ n W,Below w.heap.size w W→Lie n W→Calls Tryz.prog 76 #[.agg (T.cells h).toArray] W fun e w'=>e=.returned (.agg (fltC 8 (ringsC T)))∧Below W.heap.size W w'):=hJJ (fun n W hb hl=>by have:=rings_any T h W (ht.below hb);rwa [flt_agg] at this)
 have RU3:Hid (∀ n W,Below w.heap.size w W→Lie n W→Calls Tryz.prog 109 #[.agg (T.cells h).toArray,.pointer (some ⟨n+3+1,0,none⟩),.pointer (some ⟨n+3,0,none⟩)] W fun e w'=>e=.returned (.agg (fltC 9 ((ons T).find? (confBad T))))∧Below W.heap.size W w'):=hJJ (fun n W hb hl=>ChkP.phases_C T h 9 (n+3+1) (n+3) (confBad T) W (ht.below hb) hl.c4 hl.c3 (fun k W' hk hb'=>ChkJ.badConflict_any T h k hk W' ((ht.below hb).below hb')))
 have RU4:Hid (mayF T=none→∀ n W,Below w.heap.size w W→Lie n W→Calls Tryz.prog 113 #[.agg (T.cells h).toArray,.pointer (some ⟨n+5+1,0,none⟩),.pointer (some ⟨n+5+1+1,0,none⟩),.pointer (some ⟨n+5,0,none⟩)] W fun e w'=>e=.returned (.agg (fltC 10 (idx (detBad T) T.dets)))∧Below W.heap.size W w'):=hJJ (fun hm0=>have hm:=none_may hm0;fun n W hb hl=>ChkE.elem_D T h 10 (n+5+1) (n+5+1+1) (n+5) (detBad T) W (ht.below hb) hl.c6 hl.c7 hl.c5 (fun v W' hv hb'=>ChkB.badDetector_any T h v W' ((ht.below hb).below hb') (det_ok hm hv).1 (det_ok hm hv).2.1 (det_ok hm hv).2.2))
 have RU5:Hid (∀ n W,Below w.heap.size w W→Lie n W→Calls Tryz.prog 114 #[.agg (T.cells h).toArray,.pointer (some ⟨n+8+1,0,none⟩),.pointer (some ⟨n+8+1+1,0,none⟩),.pointer (some ⟨n+8,0,none⟩)] W fun e w'=>e=.returned (.agg (fltC 11 (idx (railBad T) T.rails)))∧Below W.heap.size W w'):=hJJ (fun n W hb hl=>ChkE.elem_R T h 11 (n+8+1) (n+8+1+1) (n+8) (railBad T) W (ht.below hb) hl.c9 hl.c10 hl.c8 (fun v W' hv hb'=>ChkR.badRail_any T h v W' ((ht.below hb).below hb')))
 have RU6:Hid (∀ n W,Below w.heap.size w W→Lie n W→Calls Tryz.prog 119 #[.agg (T.cells h).toArray,.pointer (some ⟨n+11+1,0,none⟩),.pointer (some ⟨n+11+1+1,0,none⟩),.pointer (some ⟨n+11,0,none⟩)] W fun e w'=>e=.returned (.agg (fltC 12 (idx (busBad T) T.buses)))∧Below W.heap.size W w'):=hJJ (fun n W hb hl=>ChkE.elem_B T h 12 (n+11+1) (n+11+1+1) (n+11) (busBad T) W (ht.below hb) hl.c12 hl.c13 hl.c11 (fun v W' hv hb'=>ChkB.badBus_any T h v W' ((ht.below hb).below hb')))
 have RU7:Hid (∀ n W,Below w.heap.size w W→Lie n W→Calls Tryz.prog 109 #[.agg (T.cells h).toArray,.pointer (some ⟨n+14+1,0,none⟩),.pointer (some ⟨n+14,0,none⟩)] W fun e w'=>e=.returned (.agg (fltC 13 ((ons T).find? (flashBad T))))∧Below W.heap.size W w'):=hJJ (fun n W hb hl=>ChkP.phases_F T h 13 (n+14+1) (n+14) (flashBad T) W (ht.below hb) hl.c15 hl.c14 (fun k W' hk hb'=>ChkY.badFlash_any T h k hk W' ((ht.below hb).below hb')))
 obtain ⟨o0,ho0⟩:∃ z,(mayF T)=z:=⟨_,rfl⟩
 obtain ⟨o1,ho1⟩:∃ z,((ons T).find? fun p=>phBad (phAt T p))=z:=⟨_,rfl⟩
 obtain ⟨o2,ho2⟩:∃ z,(ringsC T)=z:=⟨_,rfl⟩
 obtain ⟨o3,ho3⟩:∃ z,((ons T).find? (confBad T))=z:=⟨_,rfl⟩
 obtain ⟨o4,ho4⟩:∃ z,(idx (detBad T) T.dets)=z:=⟨_,rfl⟩
 obtain ⟨o5,ho5⟩:∃ z,(idx (railBad T) T.rails)=z:=⟨_,rfl⟩
 obtain ⟨o6,ho6⟩:∃ z,(idx (busBad T) T.buses)=z:=⟨_,rfl⟩
 obtain ⟨o7,ho7⟩:∃ z,((ons T).find? (flashBad T))=z:=⟨_,rfl⟩
 obtain ⟨l,hl⟩:∃ z,z=rulesC T:=⟨_,rfl⟩
 have CK:Hid (chkC T=firstF l):=hJJ (by rw [hl];rfl)
 unfold rulesC at hl
 rw [ho0,ho1,ho2,ho3,ho4,ho5,ho6,ho7] at hl
 rw [ho0] at RU0
 rw [ho1] at RU1
 rw [ho2] at RU2
 rw [ho3] at RU3
 rw [ho4] at RU4
 rw [ho5] at RU5
 rw [ho6] at RU6
 rw [ho7] at RU7
 rw [ho0] at RU4
 have LL0:Hid (l[0]?=some (4,o0)):=hJJ (by rw [hl];rfl)
 have LL1:Hid (l[1]?=some (7,o1)):=hJJ (by rw [hl];rfl)
 have LL2:Hid (l[2]?=some (8,o2)):=hJJ (by rw [hl];rfl)
 have LL3:Hid (l[3]?=some (9,o3)):=hJJ (by rw [hl];rfl)
 have LL4:Hid (l[4]?=some (10,o4)):=hJJ (by rw [hl];rfl)
 have LL5:Hid (l[5]?=some (11,o5)):=hJJ (by rw [hl];rfl)
 have LL6:Hid (l[6]?=some (12,o6)):=hJJ (by rw [hl];rfl)
 have LL7:Hid (l[7]?=some (13,o7)):=hJJ (by rw [hl];rfl)
 have LE:Hid (∀ (j:Nat) x,l[j]?=some x→j < 8):=hJJ (fun j x hx=>by have:=(List.getElem?_eq_some_iff.1 hx).1;rw [hl] at this;simpa using this)
 generalize chkC T=ck at CK ⊢
 clear hl ht ho0 ho1 ho2 ho3 ho4 ho5 ho6 ho7
 generalize T.cells h=c at *
 go_enter Tryz.func14,Tryz.ntmps14
 go_upto_region 1 with fail
 obtain ⟨W1,hW1,E1,E0,EB,bR⟩:=laid2 w (.cells c.toArray 32) (.cells #[.int .i64 0,.int .i64 0] 37)
 rw [hW1]
 have LT1:=hJJ (LT0.out.below (by rw [hs1];exact EB))
 have B0:=hJJ E0
 clear hW1 EB hs1 hsz LT0 E0 E1
 go_wp2_with fail
 refine (rules_any _).mono ?_
 rintro e W2 ⟨rfl,hlie,hb⟩
 have C0:Hid (Below w.heap.size w W2):=hJJ (B0.out.trans (hb.mono B0.out.size))
 have C2:Hid (W2.heap[w.heap.size+1]?=some (.cells #[.int .i64 0,.int .i64 0] 37 (0,0))):=hJJ ((hb.block _ (Array.getElem?_eq_some_iff.1 bR).1).trans bR)
 have LT:=hJJ (LT1.out.below hb)
 have LI:=hJJ hlie
 clear hb bR B0 hlie LT1
 generalize W1.heap.size=n at *
 unfold fns
 go_wp2_with fail
 go_loopw [7] (fun a wr=>∃ q:Nat,q≤8∧a=.int .i64 q∧(∀ (j:Nat) x,j < q→l[j]?=some x→x.2=none)∧Below W2.heap.size W2 wr) (fun a _=>8 - (intOf a).toNat)
 case atStart=>exact ⟨0,by omega,rfl,(fun j x h=>by omega),Below.refl _ _⟩
 case round =>
  obtain ⟨q,hq,rfl,hall,hB⟩:=hrel
  have HA:=hJJ hall
  have HB:=hJJ hB
  have BW:Hid (Below w.heap.size w wr):=hJJ (C0.out.trans (hB.mono C0.out.size))
  have LTW:=hJJ (LT.out.below hB)
  have LIW:=hJJ (LI.out.below hB)
  clear hall hB
  have hq9:q=0∨q=1∨q=2∨q=3∨q=4∨q=5∨q=6∨q=7∨q=8:=by omega
  clear hq
  rcases hq9 with rfl | rfl | rfl | rfl | rfl | rfl | rfl | rfl | rfl
  ·rw [show ((0:Nat):Int)=(0:Int) from rfl]
   have ix:=idx8_0 (.func (.func 73) #[] #[]) (.func (.func 109) #[] #[.pointer (some ⟨n+1+1,0,none⟩),.pointer (some ⟨n+1,0,none⟩)]) (.func (.func 76) #[] #[]) (.func (.func 109) #[] #[.pointer (some ⟨n+3+1,0,none⟩),.pointer (some ⟨n+3,0,none⟩)]) (.func (.func 113) #[] #[.pointer (some ⟨n+5+1,0,none⟩),.pointer (some ⟨n+5+1+1,0,none⟩),.pointer (some ⟨n+5,0,none⟩)]) (.func (.func 114) #[] #[.pointer (some ⟨n+8+1,0,none⟩),.pointer (some ⟨n+8+1+1,0,none⟩),.pointer (some ⟨n+8,0,none⟩)]) (.func (.func 119) #[] #[.pointer (some ⟨n+11+1,0,none⟩),.pointer (some ⟨n+11+1+1,0,none⟩),.pointer (some ⟨n+11,0,none⟩)]) (.func (.func 109) #[] #[.pointer (some ⟨n+14+1,0,none⟩),.pointer (some ⟨n+14,0,none⟩)])
   have NX:Hid (o0=none→∀ (i:Nat) x,i < 0+1→l[i]?=some x→x.2=none):=hJJ (fun e i x hi hx=>by
    by_cases hij:i=0
    ·subst hij;obtain rfl:=Option.some.inj (hx.symm.trans LL0.out);exact e
    ·exact HA.out i x (by omega) hx)
   have HIT:Hid (∀ p,o0=some p→ck=(4,p)):=hJJ (fun p e=>by rw [CK.out];exact first_hit (q:=0) (by rw [LL0.out,e]) HA.out)
   have RC:=hJJ (RU0.out n _ BW.out LIW.out)
   clear RU0 RU1 RU2 RU3 RU4 RU5 RU6 RU7 LL0 LL1 LL2 LL3 LL4 LL5 LL6 LL7 LE HA LIW
   go_wp2_with (refine lgZ 32 ⟨w.heap.size,0,none⟩ c rfl LTW.out Tryz.underlying32 IA.out ?_)
   (try go_wp2_with fail)
   clear ix
   refine RC.out.mono ?_
   rintro e u1 ⟨rfl,hb⟩
   have D0:Hid (Below w.heap.size w u1):=hJJ (BW.out.trans (hb.mono BW.out.size))
   have D3:=hJJ (HB.out.trans (hb.mono HB.out.size))
   clear hb BW HB LTW RC
   cases o0 with
   | none =>
    have NN:=hJJ (NX.out rfl)
    clear NX HIT
    go_upto_region 5 with (refine Row.wpList_store_new rfl 37 _ _ rfl u1 _ #[I 0,I 0] rfl rfl rfl infoF rfl (by simp [Value.oneCell']) ?_)
    have hg:=Row.lies_new u1 #[I 0,I 0] 37
    have HL:Hid (Lies (u1.alloc (.cells #[I 0,I 0] 37)) ⟨u1.heap.size,0,none⟩ #[I 0,I 0].toList):=hJJ hg
    have F0:Hid (Below w.heap.size w (u1.alloc (.cells #[I 0,I 0] 37))):=hJJ (D0.out.alloc D0.out.size _)
    have F3:Hid (Below W2.heap.size W2 (u1.alloc (.cells #[I 0,I 0] 37))):=hJJ (D3.out.alloc D3.out.size _)
    clear hg D0 D3
    generalize u1.alloc (.cells #[I 0,I 0] 37)=u2 at HL F0 F3 ⊢
    generalize u1.heap.size=b2 at HL ⊢
    have EQ:=hJJ (show Eqs 37 [I 0,I 0] [I 0,I 0] true from fault_eqs 0 0 0 0)
    go_wp2_with (first | (refine lgZ 37 ⟨b2,0,none⟩ [I 0,I 0] rfl HL.out Tryz.underlying37 infoF ?_) | (refine Row.wpList_neq 37 _ _ _ rfl (by rfl) #[I 0,I 0] #[I 0,I 0] rfl rfl guardF true EQ.out ?_))
    (try go_wp2)
    go_roundw
    case rel=>exact ⟨0+1,by omega,by go_num,NN.out,F3.out⟩
    case measure=>simp [intOf]
   | some p =>
    have CP:=hJJ (HIT.out p rfl)
    clear NX HIT
    go_upto_region 5 with (refine Row.wpList_store_new rfl 37 _ _ rfl u1 _ #[I 4,I p] rfl rfl rfl infoF rfl (by simp [Value.oneCell']) ?_)
    have hg:=Row.lies_new u1 #[I 4,I p] 37
    have HL:Hid (Lies (u1.alloc (.cells #[I 4,I p] 37)) ⟨u1.heap.size,0,none⟩ #[I 4,I p].toList):=hJJ hg
    have F0:Hid (Below w.heap.size w (u1.alloc (.cells #[I 4,I p] 37))):=hJJ (D0.out.alloc D0.out.size _)
    have F3:Hid (Below W2.heap.size W2 (u1.alloc (.cells #[I 4,I p] 37))):=hJJ (D3.out.alloc D3.out.size _)
    clear hg D0 D3
    generalize u1.alloc (.cells #[I 4,I p] 37)=u2 at HL F0 F3 ⊢
    generalize u1.heap.size=b2 at HL ⊢
    have EQ:=hJJ (show Eqs 37 [I 4,I p] [I 0,I 0] false from by have:=fault_eqs 4 p 0 0;rwa [decide_eq_false (by omega)] at this)
    have G2:Hid (u2.heap[w.heap.size+1]?=some (.cells #[.int .i64 0,.int .i64 0] 37 (0,0))):=hJJ ((F3.out.block _ (Array.getElem?_eq_some_iff.1 C2.out).1).trans C2.out)
    have HW:=hJJ (below_setRow F0.out (g:=w.heap.size+1) (by omega) #[I 4,I p])
    have HK:=hJJ (setRow_heap u2 (w.heap.size+1) _ #[I 4,I p] _ _ G2.out)
    go_wp2_with (first | (refine lgZ 37 ⟨b2,0,none⟩ [I 4,I p] rfl HL.out Tryz.underlying37 infoF ?_) | (refine Row.wpList_neq 37 _ _ _ rfl (by rfl) #[I 4,I p] #[I 0,I 0] rfl rfl guardF false EQ.out ?_) | (refine wpList_store_row rfl 37 _ _ rfl (w.heap.size+1) #[I 4,I p] rfl rfl 37 _ G2.out infoF rfl (by simp [Value.oneCell']) ?_))
    generalize u2.setRow (w.heap.size+1) #[I 4,I p]=uz at HW HK ⊢
    (try go_wp2_with fail)
    (try simp only [Exit.inBlock,Exit.then])
    refine bodyPost_ret (v:=.agg #[I 4,I p]) ?_ rfl ⟨by rw [CP.out];rfl,HW.out⟩
    exact results_cell_row rfl _ _ (w.heap.size+1) 37 _ (0,0) _ rfl HK.out Tryz.underlying37 rfl infoF
  ·rw [show ((1:Nat):Int)=(1:Int) from rfl]
   have ix:=idx8_1 (.func (.func 73) #[] #[]) (.func (.func 109) #[] #[.pointer (some ⟨n+1+1,0,none⟩),.pointer (some ⟨n+1,0,none⟩)]) (.func (.func 76) #[] #[]) (.func (.func 109) #[] #[.pointer (some ⟨n+3+1,0,none⟩),.pointer (some ⟨n+3,0,none⟩)]) (.func (.func 113) #[] #[.pointer (some ⟨n+5+1,0,none⟩),.pointer (some ⟨n+5+1+1,0,none⟩),.pointer (some ⟨n+5,0,none⟩)]) (.func (.func 114) #[] #[.pointer (some ⟨n+8+1,0,none⟩),.pointer (some ⟨n+8+1+1,0,none⟩),.pointer (some ⟨n+8,0,none⟩)]) (.func (.func 119) #[] #[.pointer (some ⟨n+11+1,0,none⟩),.pointer (some ⟨n+11+1+1,0,none⟩),.pointer (some ⟨n+11,0,none⟩)]) (.func (.func 109) #[] #[.pointer (some ⟨n+14+1,0,none⟩),.pointer (some ⟨n+14,0,none⟩)])
   have NX:Hid (o1=none→∀ (i:Nat) x,i < 1+1→l[i]?=some x→x.2=none):=hJJ (fun e i x hi hx=>by
    by_cases hij:i=1
    ·subst hij;obtain rfl:=Option.some.inj (hx.symm.trans LL1.out);exact e
    ·exact HA.out i x (by omega) hx)
   have HIT:Hid (∀ p,o1=some p→ck=(7,p)):=hJJ (fun p e=>by rw [CK.out];exact first_hit (q:=1) (by rw [LL1.out,e]) HA.out)
   have RC:=hJJ (RU1.out n _ BW.out LIW.out)
   clear RU0 RU1 RU2 RU3 RU4 RU5 RU6 RU7 LL0 LL1 LL2 LL3 LL4 LL5 LL6 LL7 LE HA LIW
   go_wp2_with (refine lgZ 32 ⟨w.heap.size,0,none⟩ c rfl LTW.out Tryz.underlying32 IA.out ?_)
   (try go_wp2_with fail)
   clear ix
   refine RC.out.mono ?_
   rintro e u1 ⟨rfl,hb⟩
   have D0:Hid (Below w.heap.size w u1):=hJJ (BW.out.trans (hb.mono BW.out.size))
   have D3:=hJJ (HB.out.trans (hb.mono HB.out.size))
   clear hb BW HB LTW RC
   cases o1 with
   | none =>
    have NN:=hJJ (NX.out rfl)
    clear NX HIT
    go_upto_region 5 with (refine Row.wpList_store_new rfl 37 _ _ rfl u1 _ #[I 0,I 0] rfl rfl rfl infoF rfl (by simp [Value.oneCell']) ?_)
    have hg:=Row.lies_new u1 #[I 0,I 0] 37
    have HL:Hid (Lies (u1.alloc (.cells #[I 0,I 0] 37)) ⟨u1.heap.size,0,none⟩ #[I 0,I 0].toList):=hJJ hg
    have F0:Hid (Below w.heap.size w (u1.alloc (.cells #[I 0,I 0] 37))):=hJJ (D0.out.alloc D0.out.size _)
    have F3:Hid (Below W2.heap.size W2 (u1.alloc (.cells #[I 0,I 0] 37))):=hJJ (D3.out.alloc D3.out.size _)
    clear hg D0 D3
    generalize u1.alloc (.cells #[I 0,I 0] 37)=u2 at HL F0 F3 ⊢
    generalize u1.heap.size=b2 at HL ⊢
    have EQ:=hJJ (show Eqs 37 [I 0,I 0] [I 0,I 0] true from fault_eqs 0 0 0 0)
    go_wp2_with (first | (refine lgZ 37 ⟨b2,0,none⟩ [I 0,I 0] rfl HL.out Tryz.underlying37 infoF ?_) | (refine Row.wpList_neq 37 _ _ _ rfl (by rfl) #[I 0,I 0] #[I 0,I 0] rfl rfl guardF true EQ.out ?_))
    (try go_wp2)
    go_roundw
    case rel=>exact ⟨1+1,by omega,by go_num,NN.out,F3.out⟩
    case measure=>simp [intOf]
   | some p =>
    have CP:=hJJ (HIT.out p rfl)
    clear NX HIT
    go_upto_region 5 with (refine Row.wpList_store_new rfl 37 _ _ rfl u1 _ #[I 7,I p] rfl rfl rfl infoF rfl (by simp [Value.oneCell']) ?_)
    have hg:=Row.lies_new u1 #[I 7,I p] 37
    have HL:Hid (Lies (u1.alloc (.cells #[I 7,I p] 37)) ⟨u1.heap.size,0,none⟩ #[I 7,I p].toList):=hJJ hg
    have F0:Hid (Below w.heap.size w (u1.alloc (.cells #[I 7,I p] 37))):=hJJ (D0.out.alloc D0.out.size _)
    have F3:Hid (Below W2.heap.size W2 (u1.alloc (.cells #[I 7,I p] 37))):=hJJ (D3.out.alloc D3.out.size _)
    clear hg D0 D3
    generalize u1.alloc (.cells #[I 7,I p] 37)=u2 at HL F0 F3 ⊢
    generalize u1.heap.size=b2 at HL ⊢
    have EQ:=hJJ (show Eqs 37 [I 7,I p] [I 0,I 0] false from by have:=fault_eqs 7 p 0 0;rwa [decide_eq_false (by omega)] at this)
    have G2:Hid (u2.heap[w.heap.size+1]?=some (.cells #[.int .i64 0,.int .i64 0] 37 (0,0))):=hJJ ((F3.out.block _ (Array.getElem?_eq_some_iff.1 C2.out).1).trans C2.out)
    have HW:=hJJ (below_setRow F0.out (g:=w.heap.size+1) (by omega) #[I 7,I p])
    have HK:=hJJ (setRow_heap u2 (w.heap.size+1) _ #[I 7,I p] _ _ G2.out)
    go_wp2_with (first | (refine lgZ 37 ⟨b2,0,none⟩ [I 7,I p] rfl HL.out Tryz.underlying37 infoF ?_) | (refine Row.wpList_neq 37 _ _ _ rfl (by rfl) #[I 7,I p] #[I 0,I 0] rfl rfl guardF false EQ.out ?_) | (refine wpList_store_row rfl 37 _ _ rfl (w.heap.size+1) #[I 7,I p] rfl rfl 37 _ G2.out infoF rfl (by simp [Value.oneCell']) ?_))
    generalize u2.setRow (w.heap.size+1) #[I 7,I p]=uz at HW HK ⊢
    (try go_wp2_with fail)
    (try simp only [Exit.inBlock,Exit.then])
    refine bodyPost_ret (v:=.agg #[I 7,I p]) ?_ rfl ⟨by rw [CP.out];rfl,HW.out⟩
    exact results_cell_row rfl _ _ (w.heap.size+1) 37 _ (0,0) _ rfl HK.out Tryz.underlying37 rfl infoF
  ·rw [show ((2:Nat):Int)=(2:Int) from rfl]
   have ix:=idx8_2 (.func (.func 73) #[] #[]) (.func (.func 109) #[] #[.pointer (some ⟨n+1+1,0,none⟩),.pointer (some ⟨n+1,0,none⟩)]) (.func (.func 76) #[] #[]) (.func (.func 109) #[] #[.pointer (some ⟨n+3+1,0,none⟩),.pointer (some ⟨n+3,0,none⟩)]) (.func (.func 113) #[] #[.pointer (some ⟨n+5+1,0,none⟩),.pointer (some ⟨n+5+1+1,0,none⟩),.pointer (some ⟨n+5,0,none⟩)]) (.func (.func 114) #[] #[.pointer (some ⟨n+8+1,0,none⟩),.pointer (some ⟨n+8+1+1,0,none⟩),.pointer (some ⟨n+8,0,none⟩)]) (.func (.func 119) #[] #[.pointer (some ⟨n+11+1,0,none⟩),.pointer (some ⟨n+11+1+1,0,none⟩),.pointer (some ⟨n+11,0,none⟩)]) (.func (.func 109) #[] #[.pointer (some ⟨n+14+1,0,none⟩),.pointer (some ⟨n+14,0,none⟩)])
   have NX:Hid (o2=none→∀ (i:Nat) x,i < 2+1→l[i]?=some x→x.2=none):=hJJ (fun e i x hi hx=>by
    by_cases hij:i=2
    ·subst hij;obtain rfl:=Option.some.inj (hx.symm.trans LL2.out);exact e
    ·exact HA.out i x (by omega) hx)
   have HIT:Hid (∀ p,o2=some p→ck=(8,p)):=hJJ (fun p e=>by rw [CK.out];exact first_hit (q:=2) (by rw [LL2.out,e]) HA.out)
   have RC:=hJJ (RU2.out n _ BW.out LIW.out)
   clear RU0 RU1 RU2 RU3 RU4 RU5 RU6 RU7 LL0 LL1 LL2 LL3 LL4 LL5 LL6 LL7 LE HA LIW
   go_wp2_with (refine lgZ 32 ⟨w.heap.size,0,none⟩ c rfl LTW.out Tryz.underlying32 IA.out ?_)
   (try go_wp2_with fail)
   clear ix
   refine RC.out.mono ?_
   rintro e u1 ⟨rfl,hb⟩
   have D0:Hid (Below w.heap.size w u1):=hJJ (BW.out.trans (hb.mono BW.out.size))
   have D3:=hJJ (HB.out.trans (hb.mono HB.out.size))
   clear hb BW HB LTW RC
   cases o2 with
   | none =>
    have NN:=hJJ (NX.out rfl)
    clear NX HIT
    go_upto_region 5 with (refine Row.wpList_store_new rfl 37 _ _ rfl u1 _ #[I 0,I 0] rfl rfl rfl infoF rfl (by simp [Value.oneCell']) ?_)
    have hg:=Row.lies_new u1 #[I 0,I 0] 37
    have HL:Hid (Lies (u1.alloc (.cells #[I 0,I 0] 37)) ⟨u1.heap.size,0,none⟩ #[I 0,I 0].toList):=hJJ hg
    have F0:Hid (Below w.heap.size w (u1.alloc (.cells #[I 0,I 0] 37))):=hJJ (D0.out.alloc D0.out.size _)
    have F3:Hid (Below W2.heap.size W2 (u1.alloc (.cells #[I 0,I 0] 37))):=hJJ (D3.out.alloc D3.out.size _)
    clear hg D0 D3
    generalize u1.alloc (.cells #[I 0,I 0] 37)=u2 at HL F0 F3 ⊢
    generalize u1.heap.size=b2 at HL ⊢
    have EQ:=hJJ (show Eqs 37 [I 0,I 0] [I 0,I 0] true from fault_eqs 0 0 0 0)
    go_wp2_with (first | (refine lgZ 37 ⟨b2,0,none⟩ [I 0,I 0] rfl HL.out Tryz.underlying37 infoF ?_) | (refine Row.wpList_neq 37 _ _ _ rfl (by rfl) #[I 0,I 0] #[I 0,I 0] rfl rfl guardF true EQ.out ?_))
    (try go_wp2)
    go_roundw
    case rel=>exact ⟨2+1,by omega,by go_num,NN.out,F3.out⟩
    case measure=>simp [intOf]
   | some p =>
    have CP:=hJJ (HIT.out p rfl)
    clear NX HIT
    go_upto_region 5 with (refine Row.wpList_store_new rfl 37 _ _ rfl u1 _ #[I 8,I p] rfl rfl rfl infoF rfl (by simp [Value.oneCell']) ?_)
    have hg:=Row.lies_new u1 #[I 8,I p] 37
    have HL:Hid (Lies (u1.alloc (.cells #[I 8,I p] 37)) ⟨u1.heap.size,0,none⟩ #[I 8,I p].toList):=hJJ hg
    have F0:Hid (Below w.heap.size w (u1.alloc (.cells #[I 8,I p] 37))):=hJJ (D0.out.alloc D0.out.size _)
    have F3:Hid (Below W2.heap.size W2 (u1.alloc (.cells #[I 8,I p] 37))):=hJJ (D3.out.alloc D3.out.size _)
    clear hg D0 D3
    generalize u1.alloc (.cells #[I 8,I p] 37)=u2 at HL F0 F3 ⊢
    generalize u1.heap.size=b2 at HL ⊢
    have EQ:=hJJ (show Eqs 37 [I 8,I p] [I 0,I 0] false from by have:=fault_eqs 8 p 0 0;rwa [decide_eq_false (by omega)] at this)
    have G2:Hid (u2.heap[w.heap.size+1]?=some (.cells #[.int .i64 0,.int .i64 0] 37 (0,0))):=hJJ ((F3.out.block _ (Array.getElem?_eq_some_iff.1 C2.out).1).trans C2.out)
    have HW:=hJJ (below_setRow F0.out (g:=w.heap.size+1) (by omega) #[I 8,I p])
    have HK:=hJJ (setRow_heap u2 (w.heap.size+1) _ #[I 8,I p] _ _ G2.out)
    go_wp2_with (first | (refine lgZ 37 ⟨b2,0,none⟩ [I 8,I p] rfl HL.out Tryz.underlying37 infoF ?_) | (refine Row.wpList_neq 37 _ _ _ rfl (by rfl) #[I 8,I p] #[I 0,I 0] rfl rfl guardF false EQ.out ?_) | (refine wpList_store_row rfl 37 _ _ rfl (w.heap.size+1) #[I 8,I p] rfl rfl 37 _ G2.out infoF rfl (by simp [Value.oneCell']) ?_))
    generalize u2.setRow (w.heap.size+1) #[I 8,I p]=uz at HW HK ⊢
    (try go_wp2_with fail)
    (try simp only [Exit.inBlock,Exit.then])
    refine bodyPost_ret (v:=.agg #[I 8,I p]) ?_ rfl ⟨by rw [CP.out];rfl,HW.out⟩
    exact results_cell_row rfl _ _ (w.heap.size+1) 37 _ (0,0) _ rfl HK.out Tryz.underlying37 rfl infoF
  ·rw [show ((3:Nat):Int)=(3:Int) from rfl]
   have ix:=idx8_3 (.func (.func 73) #[] #[]) (.func (.func 109) #[] #[.pointer (some ⟨n+1+1,0,none⟩),.pointer (some ⟨n+1,0,none⟩)]) (.func (.func 76) #[] #[]) (.func (.func 109) #[] #[.pointer (some ⟨n+3+1,0,none⟩),.pointer (some ⟨n+3,0,none⟩)]) (.func (.func 113) #[] #[.pointer (some ⟨n+5+1,0,none⟩),.pointer (some ⟨n+5+1+1,0,none⟩),.pointer (some ⟨n+5,0,none⟩)]) (.func (.func 114) #[] #[.pointer (some ⟨n+8+1,0,none⟩),.pointer (some ⟨n+8+1+1,0,none⟩),.pointer (some ⟨n+8,0,none⟩)]) (.func (.func 119) #[] #[.pointer (some ⟨n+11+1,0,none⟩),.pointer (some ⟨n+11+1+1,0,none⟩),.pointer (some ⟨n+11,0,none⟩)]) (.func (.func 109) #[] #[.pointer (some ⟨n+14+1,0,none⟩),.pointer (some ⟨n+14,0,none⟩)])
   have NX:Hid (o3=none→∀ (i:Nat) x,i < 3+1→l[i]?=some x→x.2=none):=hJJ (fun e i x hi hx=>by
    by_cases hij:i=3
    ·subst hij;obtain rfl:=Option.some.inj (hx.symm.trans LL3.out);exact e
    ·exact HA.out i x (by omega) hx)
   have HIT:Hid (∀ p,o3=some p→ck=(9,p)):=hJJ (fun p e=>by rw [CK.out];exact first_hit (q:=3) (by rw [LL3.out,e]) HA.out)
   have RC:=hJJ (RU3.out n _ BW.out LIW.out)
   clear RU0 RU1 RU2 RU3 RU4 RU5 RU6 RU7 LL0 LL1 LL2 LL3 LL4 LL5 LL6 LL7 LE HA LIW
   go_wp2_with (refine lgZ 32 ⟨w.heap.size,0,none⟩ c rfl LTW.out Tryz.underlying32 IA.out ?_)
   (try go_wp2_with fail)
   clear ix
   refine RC.out.mono ?_
   rintro e u1 ⟨rfl,hb⟩
   have D0:Hid (Below w.heap.size w u1):=hJJ (BW.out.trans (hb.mono BW.out.size))
   have D3:=hJJ (HB.out.trans (hb.mono HB.out.size))
   clear hb BW HB LTW RC
   cases o3 with
   | none =>
    have NN:=hJJ (NX.out rfl)
    clear NX HIT
    go_upto_region 5 with (refine Row.wpList_store_new rfl 37 _ _ rfl u1 _ #[I 0,I 0] rfl rfl rfl infoF rfl (by simp [Value.oneCell']) ?_)
    have hg:=Row.lies_new u1 #[I 0,I 0] 37
    have HL:Hid (Lies (u1.alloc (.cells #[I 0,I 0] 37)) ⟨u1.heap.size,0,none⟩ #[I 0,I 0].toList):=hJJ hg
    have F0:Hid (Below w.heap.size w (u1.alloc (.cells #[I 0,I 0] 37))):=hJJ (D0.out.alloc D0.out.size _)
    have F3:Hid (Below W2.heap.size W2 (u1.alloc (.cells #[I 0,I 0] 37))):=hJJ (D3.out.alloc D3.out.size _)
    clear hg D0 D3
    generalize u1.alloc (.cells #[I 0,I 0] 37)=u2 at HL F0 F3 ⊢
    generalize u1.heap.size=b2 at HL ⊢
    have EQ:=hJJ (show Eqs 37 [I 0,I 0] [I 0,I 0] true from fault_eqs 0 0 0 0)
    go_wp2_with (first | (refine lgZ 37 ⟨b2,0,none⟩ [I 0,I 0] rfl HL.out Tryz.underlying37 infoF ?_) | (refine Row.wpList_neq 37 _ _ _ rfl (by rfl) #[I 0,I 0] #[I 0,I 0] rfl rfl guardF true EQ.out ?_))
    (try go_wp2)
    go_roundw
    case rel=>exact ⟨3+1,by omega,by go_num,NN.out,F3.out⟩
    case measure=>simp [intOf]
   | some p =>
    have CP:=hJJ (HIT.out p rfl)
    clear NX HIT
    go_upto_region 5 with (refine Row.wpList_store_new rfl 37 _ _ rfl u1 _ #[I 9,I p] rfl rfl rfl infoF rfl (by simp [Value.oneCell']) ?_)
    have hg:=Row.lies_new u1 #[I 9,I p] 37
    have HL:Hid (Lies (u1.alloc (.cells #[I 9,I p] 37)) ⟨u1.heap.size,0,none⟩ #[I 9,I p].toList):=hJJ hg
    have F0:Hid (Below w.heap.size w (u1.alloc (.cells #[I 9,I p] 37))):=hJJ (D0.out.alloc D0.out.size _)
    have F3:Hid (Below W2.heap.size W2 (u1.alloc (.cells #[I 9,I p] 37))):=hJJ (D3.out.alloc D3.out.size _)
    clear hg D0 D3
    generalize u1.alloc (.cells #[I 9,I p] 37)=u2 at HL F0 F3 ⊢
    generalize u1.heap.size=b2 at HL ⊢
    have EQ:=hJJ (show Eqs 37 [I 9,I p] [I 0,I 0] false from by have:=fault_eqs 9 p 0 0;rwa [decide_eq_false (by omega)] at this)
    have G2:Hid (u2.heap[w.heap.size+1]?=some (.cells #[.int .i64 0,.int .i64 0] 37 (0,0))):=hJJ ((F3.out.block _ (Array.getElem?_eq_some_iff.1 C2.out).1).trans C2.out)
    have HW:=hJJ (below_setRow F0.out (g:=w.heap.size+1) (by omega) #[I 9,I p])
    have HK:=hJJ (setRow_heap u2 (w.heap.size+1) _ #[I 9,I p] _ _ G2.out)
    go_wp2_with (first | (refine lgZ 37 ⟨b2,0,none⟩ [I 9,I p] rfl HL.out Tryz.underlying37 infoF ?_) | (refine Row.wpList_neq 37 _ _ _ rfl (by rfl) #[I 9,I p] #[I 0,I 0] rfl rfl guardF false EQ.out ?_) | (refine wpList_store_row rfl 37 _ _ rfl (w.heap.size+1) #[I 9,I p] rfl rfl 37 _ G2.out infoF rfl (by simp [Value.oneCell']) ?_))
    generalize u2.setRow (w.heap.size+1) #[I 9,I p]=uz at HW HK ⊢
    (try go_wp2_with fail)
    (try simp only [Exit.inBlock,Exit.then])
    refine bodyPost_ret (v:=.agg #[I 9,I p]) ?_ rfl ⟨by rw [CP.out];rfl,HW.out⟩
    exact results_cell_row rfl _ _ (w.heap.size+1) 37 _ (0,0) _ rfl HK.out Tryz.underlying37 rfl infoF
  ·rw [show ((4:Nat):Int)=(4:Int) from rfl]
   have ix:=idx8_4 (.func (.func 73) #[] #[]) (.func (.func 109) #[] #[.pointer (some ⟨n+1+1,0,none⟩),.pointer (some ⟨n+1,0,none⟩)]) (.func (.func 76) #[] #[]) (.func (.func 109) #[] #[.pointer (some ⟨n+3+1,0,none⟩),.pointer (some ⟨n+3,0,none⟩)]) (.func (.func 113) #[] #[.pointer (some ⟨n+5+1,0,none⟩),.pointer (some ⟨n+5+1+1,0,none⟩),.pointer (some ⟨n+5,0,none⟩)]) (.func (.func 114) #[] #[.pointer (some ⟨n+8+1,0,none⟩),.pointer (some ⟨n+8+1+1,0,none⟩),.pointer (some ⟨n+8,0,none⟩)]) (.func (.func 119) #[] #[.pointer (some ⟨n+11+1,0,none⟩),.pointer (some ⟨n+11+1+1,0,none⟩),.pointer (some ⟨n+11,0,none⟩)]) (.func (.func 109) #[] #[.pointer (some ⟨n+14+1,0,none⟩),.pointer (some ⟨n+14,0,none⟩)])
   have NX:Hid (o4=none→∀ (i:Nat) x,i < 4+1→l[i]?=some x→x.2=none):=hJJ (fun e i x hi hx=>by
    by_cases hij:i=4
    ·subst hij;obtain rfl:=Option.some.inj (hx.symm.trans LL4.out);exact e
    ·exact HA.out i x (by omega) hx)
   have HIT:Hid (∀ p,o4=some p→ck=(10,p)):=hJJ (fun p e=>by rw [CK.out];exact first_hit (q:=4) (by rw [LL4.out,e]) HA.out)
   have RC:=hJJ (RU4.out (HA.out 0 _ (by omega) LL0.out) n _ BW.out LIW.out)
   clear RU0 RU1 RU2 RU3 RU4 RU5 RU6 RU7 LL0 LL1 LL2 LL3 LL4 LL5 LL6 LL7 LE HA LIW
   go_wp2_with (refine lgZ 32 ⟨w.heap.size,0,none⟩ c rfl LTW.out Tryz.underlying32 IA.out ?_)
   (try go_wp2_with fail)
   clear ix
   refine RC.out.mono ?_
   rintro e u1 ⟨rfl,hb⟩
   have D0:Hid (Below w.heap.size w u1):=hJJ (BW.out.trans (hb.mono BW.out.size))
   have D3:=hJJ (HB.out.trans (hb.mono HB.out.size))
   clear hb BW HB LTW RC
   cases o4 with
   | none =>
    have NN:=hJJ (NX.out rfl)
    clear NX HIT
    go_upto_region 5 with (refine Row.wpList_store_new rfl 37 _ _ rfl u1 _ #[I 0,I 0] rfl rfl rfl infoF rfl (by simp [Value.oneCell']) ?_)
    have hg:=Row.lies_new u1 #[I 0,I 0] 37
    have HL:Hid (Lies (u1.alloc (.cells #[I 0,I 0] 37)) ⟨u1.heap.size,0,none⟩ #[I 0,I 0].toList):=hJJ hg
    have F0:Hid (Below w.heap.size w (u1.alloc (.cells #[I 0,I 0] 37))):=hJJ (D0.out.alloc D0.out.size _)
    have F3:Hid (Below W2.heap.size W2 (u1.alloc (.cells #[I 0,I 0] 37))):=hJJ (D3.out.alloc D3.out.size _)
    clear hg D0 D3
    generalize u1.alloc (.cells #[I 0,I 0] 37)=u2 at HL F0 F3 ⊢
    generalize u1.heap.size=b2 at HL ⊢
    have EQ:=hJJ (show Eqs 37 [I 0,I 0] [I 0,I 0] true from fault_eqs 0 0 0 0)
    go_wp2_with (first | (refine lgZ 37 ⟨b2,0,none⟩ [I 0,I 0] rfl HL.out Tryz.underlying37 infoF ?_) | (refine Row.wpList_neq 37 _ _ _ rfl (by rfl) #[I 0,I 0] #[I 0,I 0] rfl rfl guardF true EQ.out ?_))
    (try go_wp2)
    go_roundw
    case rel=>exact ⟨4+1,by omega,by go_num,NN.out,F3.out⟩
    case measure=>simp [intOf]
   | some p =>
    have CP:=hJJ (HIT.out p rfl)
    clear NX HIT
    go_upto_region 5 with (refine Row.wpList_store_new rfl 37 _ _ rfl u1 _ #[I 10,I p] rfl rfl rfl infoF rfl (by simp [Value.oneCell']) ?_)
    have hg:=Row.lies_new u1 #[I 10,I p] 37
    have HL:Hid (Lies (u1.alloc (.cells #[I 10,I p] 37)) ⟨u1.heap.size,0,none⟩ #[I 10,I p].toList):=hJJ hg
    have F0:Hid (Below w.heap.size w (u1.alloc (.cells #[I 10,I p] 37))):=hJJ (D0.out.alloc D0.out.size _)
    have F3:Hid (Below W2.heap.size W2 (u1.alloc (.cells #[I 10,I p] 37))):=hJJ (D3.out.alloc D3.out.size _)
    clear hg D0 D3
    generalize u1.alloc (.cells #[I 10,I p] 37)=u2 at HL F0 F3 ⊢
    generalize u1.heap.size=b2 at HL ⊢
    have EQ:=hJJ (show Eqs 37 [I 10,I p] [I 0,I 0] false from by have:=fault_eqs 10 p 0 0;rwa [decide_eq_false (by omega)] at this)
    have G2:Hid (u2.heap[w.heap.size+1]?=some (.cells #[.int .i64 0,.int .i64 0] 37 (0,0))):=hJJ ((F3.out.block _ (Array.getElem?_eq_some_iff.1 C2.out).1).trans C2.out)
    have HW:=hJJ (below_setRow F0.out (g:=w.heap.size+1) (by omega) #[I 10,I p])
    have HK:=hJJ (setRow_heap u2 (w.heap.size+1) _ #[I 10,I p] _ _ G2.out)
    go_wp2_with (first | (refine lgZ 37 ⟨b2,0,none⟩ [I 10,I p] rfl HL.out Tryz.underlying37 infoF ?_) | (refine Row.wpList_neq 37 _ _ _ rfl (by rfl) #[I 10,I p] #[I 0,I 0] rfl rfl guardF false EQ.out ?_) | (refine wpList_store_row rfl 37 _ _ rfl (w.heap.size+1) #[I 10,I p] rfl rfl 37 _ G2.out infoF rfl (by simp [Value.oneCell']) ?_))
    generalize u2.setRow (w.heap.size+1) #[I 10,I p]=uz at HW HK ⊢
    (try go_wp2_with fail)
    (try simp only [Exit.inBlock,Exit.then])
    refine bodyPost_ret (v:=.agg #[I 10,I p]) ?_ rfl ⟨by rw [CP.out];rfl,HW.out⟩
    exact results_cell_row rfl _ _ (w.heap.size+1) 37 _ (0,0) _ rfl HK.out Tryz.underlying37 rfl infoF
  ·rw [show ((5:Nat):Int)=(5:Int) from rfl]
   have ix:=idx8_5 (.func (.func 73) #[] #[]) (.func (.func 109) #[] #[.pointer (some ⟨n+1+1,0,none⟩),.pointer (some ⟨n+1,0,none⟩)]) (.func (.func 76) #[] #[]) (.func (.func 109) #[] #[.pointer (some ⟨n+3+1,0,none⟩),.pointer (some ⟨n+3,0,none⟩)]) (.func (.func 113) #[] #[.pointer (some ⟨n+5+1,0,none⟩),.pointer (some ⟨n+5+1+1,0,none⟩),.pointer (some ⟨n+5,0,none⟩)]) (.func (.func 114) #[] #[.pointer (some ⟨n+8+1,0,none⟩),.pointer (some ⟨n+8+1+1,0,none⟩),.pointer (some ⟨n+8,0,none⟩)]) (.func (.func 119) #[] #[.pointer (some ⟨n+11+1,0,none⟩),.pointer (some ⟨n+11+1+1,0,none⟩),.pointer (some ⟨n+11,0,none⟩)]) (.func (.func 109) #[] #[.pointer (some ⟨n+14+1,0,none⟩),.pointer (some ⟨n+14,0,none⟩)])
   have NX:Hid (o5=none→∀ (i:Nat) x,i < 5+1→l[i]?=some x→x.2=none):=hJJ (fun e i x hi hx=>by
    by_cases hij:i=5
    ·subst hij;obtain rfl:=Option.some.inj (hx.symm.trans LL5.out);exact e
    ·exact HA.out i x (by omega) hx)
   have HIT:Hid (∀ p,o5=some p→ck=(11,p)):=hJJ (fun p e=>by rw [CK.out];exact first_hit (q:=5) (by rw [LL5.out,e]) HA.out)
   have RC:=hJJ (RU5.out n _ BW.out LIW.out)
   clear RU0 RU1 RU2 RU3 RU4 RU5 RU6 RU7 LL0 LL1 LL2 LL3 LL4 LL5 LL6 LL7 LE HA LIW
   go_wp2_with (refine lgZ 32 ⟨w.heap.size,0,none⟩ c rfl LTW.out Tryz.underlying32 IA.out ?_)
   (try go_wp2_with fail)
   clear ix
   refine RC.out.mono ?_
   rintro e u1 ⟨rfl,hb⟩
   have D0:Hid (Below w.heap.size w u1):=hJJ (BW.out.trans (hb.mono BW.out.size))
   have D3:=hJJ (HB.out.trans (hb.mono HB.out.size))
   clear hb BW HB LTW RC
   cases o5 with
   | none =>
    have NN:=hJJ (NX.out rfl)
    clear NX HIT
    go_upto_region 5 with (refine Row.wpList_store_new rfl 37 _ _ rfl u1 _ #[I 0,I 0] rfl rfl rfl infoF rfl (by simp [Value.oneCell']) ?_)
    have hg:=Row.lies_new u1 #[I 0,I 0] 37
    have HL:Hid (Lies (u1.alloc (.cells #[I 0,I 0] 37)) ⟨u1.heap.size,0,none⟩ #[I 0,I 0].toList):=hJJ hg
    have F0:Hid (Below w.heap.size w (u1.alloc (.cells #[I 0,I 0] 37))):=hJJ (D0.out.alloc D0.out.size _)
    have F3:Hid (Below W2.heap.size W2 (u1.alloc (.cells #[I 0,I 0] 37))):=hJJ (D3.out.alloc D3.out.size _)
    clear hg D0 D3
    generalize u1.alloc (.cells #[I 0,I 0] 37)=u2 at HL F0 F3 ⊢
    generalize u1.heap.size=b2 at HL ⊢
    have EQ:=hJJ (show Eqs 37 [I 0,I 0] [I 0,I 0] true from fault_eqs 0 0 0 0)
    go_wp2_with (first | (refine lgZ 37 ⟨b2,0,none⟩ [I 0,I 0] rfl HL.out Tryz.underlying37 infoF ?_) | (refine Row.wpList_neq 37 _ _ _ rfl (by rfl) #[I 0,I 0] #[I 0,I 0] rfl rfl guardF true EQ.out ?_))
    (try go_wp2)
    go_roundw
    case rel=>exact ⟨5+1,by omega,by go_num,NN.out,F3.out⟩
    case measure=>simp [intOf]
   | some p =>
    have CP:=hJJ (HIT.out p rfl)
    clear NX HIT
    go_upto_region 5 with (refine Row.wpList_store_new rfl 37 _ _ rfl u1 _ #[I 11,I p] rfl rfl rfl infoF rfl (by simp [Value.oneCell']) ?_)
    have hg:=Row.lies_new u1 #[I 11,I p] 37
    have HL:Hid (Lies (u1.alloc (.cells #[I 11,I p] 37)) ⟨u1.heap.size,0,none⟩ #[I 11,I p].toList):=hJJ hg
    have F0:Hid (Below w.heap.size w (u1.alloc (.cells #[I 11,I p] 37))):=hJJ (D0.out.alloc D0.out.size _)
    have F3:Hid (Below W2.heap.size W2 (u1.alloc (.cells #[I 11,I p] 37))):=hJJ (D3.out.alloc D3.out.size _)
    clear hg D0 D3
    generalize u1.alloc (.cells #[I 11,I p] 37)=u2 at HL F0 F3 ⊢
    generalize u1.heap.size=b2 at HL ⊢
    have EQ:=hJJ (show Eqs 37 [I 11,I p] [I 0,I 0] false from by have:=fault_eqs 11 p 0 0;rwa [decide_eq_false (by omega)] at this)
    have G2:Hid (u2.heap[w.heap.size+1]?=some (.cells #[.int .i64 0,.int .i64 0] 37 (0,0))):=hJJ ((F3.out.block _ (Array.getElem?_eq_some_iff.1 C2.out).1).trans C2.out)
    have HW:=hJJ (below_setRow F0.out (g:=w.heap.size+1) (by omega) #[I 11,I p])
    have HK:=hJJ (setRow_heap u2 (w.heap.size+1) _ #[I 11,I p] _ _ G2.out)
    go_wp2_with (first | (refine lgZ 37 ⟨b2,0,none⟩ [I 11,I p] rfl HL.out Tryz.underlying37 infoF ?_) | (refine Row.wpList_neq 37 _ _ _ rfl (by rfl) #[I 11,I p] #[I 0,I 0] rfl rfl guardF false EQ.out ?_) | (refine wpList_store_row rfl 37 _ _ rfl (w.heap.size+1) #[I 11,I p] rfl rfl 37 _ G2.out infoF rfl (by simp [Value.oneCell']) ?_))
    generalize u2.setRow (w.heap.size+1) #[I 11,I p]=uz at HW HK ⊢
    (try go_wp2_with fail)
    (try simp only [Exit.inBlock,Exit.then])
    refine bodyPost_ret (v:=.agg #[I 11,I p]) ?_ rfl ⟨by rw [CP.out];rfl,HW.out⟩
    exact results_cell_row rfl _ _ (w.heap.size+1) 37 _ (0,0) _ rfl HK.out Tryz.underlying37 rfl infoF
  ·rw [show ((6:Nat):Int)=(6:Int) from rfl]
   have ix:=idx8_6 (.func (.func 73) #[] #[]) (.func (.func 109) #[] #[.pointer (some ⟨n+1+1,0,none⟩),.pointer (some ⟨n+1,0,none⟩)]) (.func (.func 76) #[] #[]) (.func (.func 109) #[] #[.pointer (some ⟨n+3+1,0,none⟩),.pointer (some ⟨n+3,0,none⟩)]) (.func (.func 113) #[] #[.pointer (some ⟨n+5+1,0,none⟩),.pointer (some ⟨n+5+1+1,0,none⟩),.pointer (some ⟨n+5,0,none⟩)]) (.func (.func 114) #[] #[.pointer (some ⟨n+8+1,0,none⟩),.pointer (some ⟨n+8+1+1,0,none⟩),.pointer (some ⟨n+8,0,none⟩)]) (.func (.func 119) #[] #[.pointer (some ⟨n+11+1,0,none⟩),.pointer (some ⟨n+11+1+1,0,none⟩),.pointer (some ⟨n+11,0,none⟩)]) (.func (.func 109) #[] #[.pointer (some ⟨n+14+1,0,none⟩),.pointer (some ⟨n+14,0,none⟩)])
   have NX:Hid (o6=none→∀ (i:Nat) x,i < 6+1→l[i]?=some x→x.2=none):=hJJ (fun e i x hi hx=>by
    by_cases hij:i=6
    ·subst hij;obtain rfl:=Option.some.inj (hx.symm.trans LL6.out);exact e
    ·exact HA.out i x (by omega) hx)
   have HIT:Hid (∀ p,o6=some p→ck=(12,p)):=hJJ (fun p e=>by rw [CK.out];exact first_hit (q:=6) (by rw [LL6.out,e]) HA.out)
   have RC:=hJJ (RU6.out n _ BW.out LIW.out)
   clear RU0 RU1 RU2 RU3 RU4 RU5 RU6 RU7 LL0 LL1 LL2 LL3 LL4 LL5 LL6 LL7 LE HA LIW
   go_wp2_with (refine lgZ 32 ⟨w.heap.size,0,none⟩ c rfl LTW.out Tryz.underlying32 IA.out ?_)
   (try go_wp2_with fail)
   clear ix
   refine RC.out.mono ?_
   rintro e u1 ⟨rfl,hb⟩
   have D0:Hid (Below w.heap.size w u1):=hJJ (BW.out.trans (hb.mono BW.out.size))
   have D3:=hJJ (HB.out.trans (hb.mono HB.out.size))
   clear hb BW HB LTW RC
   cases o6 with
   | none =>
    have NN:=hJJ (NX.out rfl)
    clear NX HIT
    go_upto_region 5 with (refine Row.wpList_store_new rfl 37 _ _ rfl u1 _ #[I 0,I 0] rfl rfl rfl infoF rfl (by simp [Value.oneCell']) ?_)
    have hg:=Row.lies_new u1 #[I 0,I 0] 37
    have HL:Hid (Lies (u1.alloc (.cells #[I 0,I 0] 37)) ⟨u1.heap.size,0,none⟩ #[I 0,I 0].toList):=hJJ hg
    have F0:Hid (Below w.heap.size w (u1.alloc (.cells #[I 0,I 0] 37))):=hJJ (D0.out.alloc D0.out.size _)
    have F3:Hid (Below W2.heap.size W2 (u1.alloc (.cells #[I 0,I 0] 37))):=hJJ (D3.out.alloc D3.out.size _)
    clear hg D0 D3
    generalize u1.alloc (.cells #[I 0,I 0] 37)=u2 at HL F0 F3 ⊢
    generalize u1.heap.size=b2 at HL ⊢
    have EQ:=hJJ (show Eqs 37 [I 0,I 0] [I 0,I 0] true from fault_eqs 0 0 0 0)
    go_wp2_with (first | (refine lgZ 37 ⟨b2,0,none⟩ [I 0,I 0] rfl HL.out Tryz.underlying37 infoF ?_) | (refine Row.wpList_neq 37 _ _ _ rfl (by rfl) #[I 0,I 0] #[I 0,I 0] rfl rfl guardF true EQ.out ?_))
    (try go_wp2)
    go_roundw
    case rel=>exact ⟨6+1,by omega,by go_num,NN.out,F3.out⟩
    case measure=>simp [intOf]
   | some p =>
    have CP:=hJJ (HIT.out p rfl)
    clear NX HIT
    go_upto_region 5 with (refine Row.wpList_store_new rfl 37 _ _ rfl u1 _ #[I 12,I p] rfl rfl rfl infoF rfl (by simp [Value.oneCell']) ?_)
    have hg:=Row.lies_new u1 #[I 12,I p] 37
    have HL:Hid (Lies (u1.alloc (.cells #[I 12,I p] 37)) ⟨u1.heap.size,0,none⟩ #[I 12,I p].toList):=hJJ hg
    have F0:Hid (Below w.heap.size w (u1.alloc (.cells #[I 12,I p] 37))):=hJJ (D0.out.alloc D0.out.size _)
    have F3:Hid (Below W2.heap.size W2 (u1.alloc (.cells #[I 12,I p] 37))):=hJJ (D3.out.alloc D3.out.size _)
    clear hg D0 D3
    generalize u1.alloc (.cells #[I 12,I p] 37)=u2 at HL F0 F3 ⊢
    generalize u1.heap.size=b2 at HL ⊢
    have EQ:=hJJ (show Eqs 37 [I 12,I p] [I 0,I 0] false from by have:=fault_eqs 12 p 0 0;rwa [decide_eq_false (by omega)] at this)
    have G2:Hid (u2.heap[w.heap.size+1]?=some (.cells #[.int .i64 0,.int .i64 0] 37 (0,0))):=hJJ ((F3.out.block _ (Array.getElem?_eq_some_iff.1 C2.out).1).trans C2.out)
    have HW:=hJJ (below_setRow F0.out (g:=w.heap.size+1) (by omega) #[I 12,I p])
    have HK:=hJJ (setRow_heap u2 (w.heap.size+1) _ #[I 12,I p] _ _ G2.out)
    go_wp2_with (first | (refine lgZ 37 ⟨b2,0,none⟩ [I 12,I p] rfl HL.out Tryz.underlying37 infoF ?_) | (refine Row.wpList_neq 37 _ _ _ rfl (by rfl) #[I 12,I p] #[I 0,I 0] rfl rfl guardF false EQ.out ?_) | (refine wpList_store_row rfl 37 _ _ rfl (w.heap.size+1) #[I 12,I p] rfl rfl 37 _ G2.out infoF rfl (by simp [Value.oneCell']) ?_))
    generalize u2.setRow (w.heap.size+1) #[I 12,I p]=uz at HW HK ⊢
    (try go_wp2_with fail)
    (try simp only [Exit.inBlock,Exit.then])
    refine bodyPost_ret (v:=.agg #[I 12,I p]) ?_ rfl ⟨by rw [CP.out];rfl,HW.out⟩
    exact results_cell_row rfl _ _ (w.heap.size+1) 37 _ (0,0) _ rfl HK.out Tryz.underlying37 rfl infoF
  ·rw [show ((7:Nat):Int)=(7:Int) from rfl]
   have ix:=idx8_7 (.func (.func 73) #[] #[]) (.func (.func 109) #[] #[.pointer (some ⟨n+1+1,0,none⟩),.pointer (some ⟨n+1,0,none⟩)]) (.func (.func 76) #[] #[]) (.func (.func 109) #[] #[.pointer (some ⟨n+3+1,0,none⟩),.pointer (some ⟨n+3,0,none⟩)]) (.func (.func 113) #[] #[.pointer (some ⟨n+5+1,0,none⟩),.pointer (some ⟨n+5+1+1,0,none⟩),.pointer (some ⟨n+5,0,none⟩)]) (.func (.func 114) #[] #[.pointer (some ⟨n+8+1,0,none⟩),.pointer (some ⟨n+8+1+1,0,none⟩),.pointer (some ⟨n+8,0,none⟩)]) (.func (.func 119) #[] #[.pointer (some ⟨n+11+1,0,none⟩),.pointer (some ⟨n+11+1+1,0,none⟩),.pointer (some ⟨n+11,0,none⟩)]) (.func (.func 109) #[] #[.pointer (some ⟨n+14+1,0,none⟩),.pointer (some ⟨n+14,0,none⟩)])
   have NX:Hid (o7=none→∀ (i:Nat) x,i < 7+1→l[i]?=some x→x.2=none):=hJJ (fun e i x hi hx=>by
    by_cases hij:i=7
    ·subst hij;obtain rfl:=Option.some.inj (hx.symm.trans LL7.out);exact e
    ·exact HA.out i x (by omega) hx)
   have HIT:Hid (∀ p,o7=some p→ck=(13,p)):=hJJ (fun p e=>by rw [CK.out];exact first_hit (q:=7) (by rw [LL7.out,e]) HA.out)
   have RC:=hJJ (RU7.out n _ BW.out LIW.out)
   clear RU0 RU1 RU2 RU3 RU4 RU5 RU6 RU7 LL0 LL1 LL2 LL3 LL4 LL5 LL6 LL7 LE HA LIW
   go_wp2_with (refine lgZ 32 ⟨w.heap.size,0,none⟩ c rfl LTW.out Tryz.underlying32 IA.out ?_)
   (try go_wp2_with fail)
   clear ix
   refine RC.out.mono ?_
   rintro e u1 ⟨rfl,hb⟩
   have D0:Hid (Below w.heap.size w u1):=hJJ (BW.out.trans (hb.mono BW.out.size))
   have D3:=hJJ (HB.out.trans (hb.mono HB.out.size))
   clear hb BW HB LTW RC
   cases o7 with
   | none =>
    have NN:=hJJ (NX.out rfl)
    clear NX HIT
    go_upto_region 5 with (refine Row.wpList_store_new rfl 37 _ _ rfl u1 _ #[I 0,I 0] rfl rfl rfl infoF rfl (by simp [Value.oneCell']) ?_)
    have hg:=Row.lies_new u1 #[I 0,I 0] 37
    have HL:Hid (Lies (u1.alloc (.cells #[I 0,I 0] 37)) ⟨u1.heap.size,0,none⟩ #[I 0,I 0].toList):=hJJ hg
    have F0:Hid (Below w.heap.size w (u1.alloc (.cells #[I 0,I 0] 37))):=hJJ (D0.out.alloc D0.out.size _)
    have F3:Hid (Below W2.heap.size W2 (u1.alloc (.cells #[I 0,I 0] 37))):=hJJ (D3.out.alloc D3.out.size _)
    clear hg D0 D3
    generalize u1.alloc (.cells #[I 0,I 0] 37)=u2 at HL F0 F3 ⊢
    generalize u1.heap.size=b2 at HL ⊢
    have EQ:=hJJ (show Eqs 37 [I 0,I 0] [I 0,I 0] true from fault_eqs 0 0 0 0)
    go_wp2_with (first | (refine lgZ 37 ⟨b2,0,none⟩ [I 0,I 0] rfl HL.out Tryz.underlying37 infoF ?_) | (refine Row.wpList_neq 37 _ _ _ rfl (by rfl) #[I 0,I 0] #[I 0,I 0] rfl rfl guardF true EQ.out ?_))
    (try go_wp2)
    go_roundw
    case rel=>exact ⟨7+1,by omega,by go_num,NN.out,F3.out⟩
    case measure=>simp [intOf]
   | some p =>
    have CP:=hJJ (HIT.out p rfl)
    clear NX HIT
    go_upto_region 5 with (refine Row.wpList_store_new rfl 37 _ _ rfl u1 _ #[I 13,I p] rfl rfl rfl infoF rfl (by simp [Value.oneCell']) ?_)
    have hg:=Row.lies_new u1 #[I 13,I p] 37
    have HL:Hid (Lies (u1.alloc (.cells #[I 13,I p] 37)) ⟨u1.heap.size,0,none⟩ #[I 13,I p].toList):=hJJ hg
    have F0:Hid (Below w.heap.size w (u1.alloc (.cells #[I 13,I p] 37))):=hJJ (D0.out.alloc D0.out.size _)
    have F3:Hid (Below W2.heap.size W2 (u1.alloc (.cells #[I 13,I p] 37))):=hJJ (D3.out.alloc D3.out.size _)
    clear hg D0 D3
    generalize u1.alloc (.cells #[I 13,I p] 37)=u2 at HL F0 F3 ⊢
    generalize u1.heap.size=b2 at HL ⊢
    have EQ:=hJJ (show Eqs 37 [I 13,I p] [I 0,I 0] false from by have:=fault_eqs 13 p 0 0;rwa [decide_eq_false (by omega)] at this)
    have G2:Hid (u2.heap[w.heap.size+1]?=some (.cells #[.int .i64 0,.int .i64 0] 37 (0,0))):=hJJ ((F3.out.block _ (Array.getElem?_eq_some_iff.1 C2.out).1).trans C2.out)
    have HW:=hJJ (below_setRow F0.out (g:=w.heap.size+1) (by omega) #[I 13,I p])
    have HK:=hJJ (setRow_heap u2 (w.heap.size+1) _ #[I 13,I p] _ _ G2.out)
    go_wp2_with (first | (refine lgZ 37 ⟨b2,0,none⟩ [I 13,I p] rfl HL.out Tryz.underlying37 infoF ?_) | (refine Row.wpList_neq 37 _ _ _ rfl (by rfl) #[I 13,I p] #[I 0,I 0] rfl rfl guardF false EQ.out ?_) | (refine wpList_store_row rfl 37 _ _ rfl (w.heap.size+1) #[I 13,I p] rfl rfl 37 _ G2.out infoF rfl (by simp [Value.oneCell']) ?_))
    generalize u2.setRow (w.heap.size+1) #[I 13,I p]=uz at HW HK ⊢
    (try go_wp2_with fail)
    (try simp only [Exit.inBlock,Exit.then])
    refine bodyPost_ret (v:=.agg #[I 13,I p]) ?_ rfl ⟨by rw [CP.out];rfl,HW.out⟩
    exact results_cell_row rfl _ _ (w.heap.size+1) 37 _ (0,0) _ rfl HK.out Tryz.underlying37 rfl infoF
  ·rw [show ((8:Nat):Int)=(8:Int) from rfl]
   have RO:=hJJ (show ck=(0,0) by rw [CK.out];exact first_miss (fun x hx=>by obtain ⟨j,hj,rfl⟩:=List.getElem_of_mem hx;have h1:=List.getElem?_eq_getElem hj;exact HA.out j _ (LE.out j _ h1) h1))
   have G2:Hid (wr.heap[w.heap.size+1]?=some (.cells #[.int .i64 0,.int .i64 0] 37 (0,0))):=hJJ ((HB.out.block _ (Array.getElem?_eq_some_iff.1 C2.out).1).trans C2.out)
   clear RU0 RU1 RU2 RU3 RU4 RU5 RU6 RU7 LL0 LL1 LL2 LL3 LL4 LL5 LL6 LL7 LE HA LIW
   have HW:=hJJ (below_setRow BW.out (g:=w.heap.size+1) (by omega) #[.int .i64 0,.int .i64 0])
   have HK:=hJJ (setRow_heap wr (w.heap.size+1) _ #[.int .i64 0,.int .i64 0] _ _ G2.out)
   go_wp2_with (first | (refine wpList_store_row rfl 37 _ _ rfl (w.heap.size+1) #[.int .i64 0,.int .i64 0] rfl rfl 37 _ G2.out infoF rfl (by simp [Value.oneCell']) ?_))
   generalize wr.setRow (w.heap.size+1) #[.int .i64 0,.int .i64 0]=uz at HW HK ⊢
   (try go_wp2_with fail)
   (try simp only [Exit.inBlock,Exit.then])
   refine bodyPost_ret (v:=.agg #[.int .i64 0,.int .i64 0]) ?_ rfl ⟨by rw [RO.out];rfl,HW.out⟩
   exact results_cell_row rfl _ _ (w.heap.size+1) 37 _ (0,0) _ rfl HK.out Tryz.underlying37 rfl infoF
end ChkK
namespace Bes
open Go Tab PlaceM PlanM OnS May ChkM ChkX
open ChkZ (inG phG mem_inG group_iff first_iff inj_of has_placed)
theorem first_none:∀ {l:List (Int × Option Int)},(∀ x ∈ l,x.1 ≠ 0)→firstF l=(0,0)→∀ x ∈ l,x.2=none
 | [],_,_,x,hx=>by simp at hx
 | (c,some p) :: l,hc,h,x,hx=>by
  exfalso
  have:c=0:=congrArg Prod.fst h
  exact hc (c,some p) (by simp) this
 | (c,none) :: l,hc,h,x,hx=>by
  rcases List.mem_cons.1 hx with rfl | hx
  ·rfl
  ·exact first_none (fun y hy=>hc y (List.mem_cons_of_mem _ hy)) h x hx
structure Fine (T:Tab):Prop where
 rg:InR T
 wh:∀ x ∈ spots T,where_ T x.p=some x
 on:∀ x ∈ spots T,SetM.has (onS T:Nat) x.p=true
 all:∀ q,SetM.has (onS T:Nat) q=true→∃ y ∈ spots T,y.p=q
 cf:∀ p ∈ ons T,confBad T p=false
theorem Fine.inj {T:Tab} (h:Fine T) {x y:Spt} (hx:x ∈ spots T) (hy:y ∈ spots T) (e:x.p=y.p):x=y:=by
 have h1:=h.wh x hx
 rw [e,h.wh y hy] at h1
 exact (Option.some.inj h1).symm
theorem Fine.mem {T:Tab} (h:Fine T) {x:Spt} (hx:x ∈ spots T):x.p ∈ ons T:=ChkX.mem_ons.2 (h.on x hx)
theorem Fine.symm {T:Tab} (h:Fine T) {x y:Spt} (hx:x ∈ spots T) (hy:y ∈ spots T):SetM.has (cfAt T x.p) y.p=SetM.has (cfAt T y.p) x.p:=by
 have:=h.cf x.p (h.mem hx)
 unfold confBad at this
 rw [Bool.or_eq_false_iff,List.any_eq_false] at this
 have h2:=this.2 y.p (h.mem hy)
 simp only [Bool.or_eq_true,not_or,bne_iff_ne,ne_eq,Classical.not_not] at h2
 exact h2.1
theorem Fine.clash {T:Tab} (h:Fine T) {x y:Spt} (hx:x ∈ spots T) (hy:y ∈ spots T) (hg:x.g=y.g) (hk:x.k ≠ y.k):SetM.has (cfAt T x.p) y.p=false∧SetM.has (cfAt T y.p) x.p=false:=by
 have hb:beside T x.p y.p=true:=by
  unfold beside
  rw [h.wh x hx,h.wh y hy]
  simp [hg,hk]
 have:=h.cf x.p (h.mem hx)
 unfold confBad at this
 rw [Bool.or_eq_false_iff,List.any_eq_false] at this
 have h2:=this.2 y.p (h.mem hy)
 rw [hb] at h2
 have h3:=h.symm hx hy
 cases e:SetM.has (cfAt T x.p) y.p with
 | false=>exact ⟨rfl,by rw [← h3,e]⟩
 | true=>rw [e] at h2;simp at h2
end Bes
namespace BdL
open Zip
open Go.ChangeShapes Go.WideShapes Go.ChangeAt Go.RowKit
open Tab Gath OnS RefC Clear
open May (St phases_in infoP infoT row_new)
open BdB BdN BdT ChkM PlaceM
open Same (Eqs)
theorem code_zero:∀ {l:List (Int × Option Int)},(∀ x ∈ l,x.1 ≠ 0)→(firstF l).1=0→firstF l=(0,0)
 | [],_,_=>rfl
 | (c,some p) :: l,hc,h=>absurd h (hc (c,some p) (by simp))
 | (c,none) :: l,hc,h=>code_zero (l:=l) (fun y hy=>hc y (List.mem_cons_of_mem _ hy)) h
theorem chk_zero {T:Tab} (h:(chkC T).1=0):chkC T=(0,0):=code_zero (l:=rulesC T) (by unfold rulesC;simp) h
theorem rails_four {T:Tab} (h:chkC T=(0,0)):T.rails.length≤4:=by
 have H:=Bes.first_none (l:=rulesC T) (by unfold rulesC;simp) h
 have h4:mayF T=none:=H (4,mayF T) (by unfold rulesC;simp)
 have hm:=ChkK.none_may h4
 unfold May.tabMay at hm
 simp only [Bool.and_eq_true] at hm
 have h2:May.listMay 4 May.Rl.may T.rails=true:=by simp [hm]
 unfold May.listMay at h2
 rw [Bool.and_eq_true] at h2
 have:=h2.1
 simp only [decide_eq_true_eq] at this
 omega
theorem builtB:Tryz.prog.built 65 []=some ((List.replicate 12 (0:Int)).map I).toArray:=by kernel_rfl
theorem pall_any (T:Tab) (h:Hd) (w:World) (ht:IsTab w h T) (sm:Few T) :
  Calls Tryz.prog 37 #[.agg (T.cells h).toArray] w fun e w'=>e=.returned (.tuple #[.agg ((allB T).map I).toArray,.agg (fcells (allF T))])∧Below w.heap.size w w':=by
 have hsz:=(cells_ok ht).size
 have IA:Hid ((Tryz.prog.info? 32).map (·.size)=some (T.cells h).length):=hJJ (by rw [List.size_toArray] at hsz;rw [hsz];exact infoT)
 have CK0:Hid (∀ W,Below w.heap.size w W→Calls Tryz.prog 14 #[.agg (T.cells h).toArray] W fun e w'=>e=.returned (.agg (fcells (chkC T)))∧Below W.heap.size W w'):=hJJ (fun W hb=>ChkK.check_any T h W (ht.below hb))
 have BC:Hid (chkC T=(0,0)→∀ W,Below w.heap.size w W→Calls Tryz.prog 69 #[.agg (T.cells h).toArray] W fun e w'=>e=.returned (.agg ((waitsL T++entsL T).map I).toArray)∧Below W.heap.size W w'):=hJJ (fun hc W hb=>bounds_any T h W (ht.below hb) sm (rails_four hc))
 have FC0:Hid (∀ W,Below w.heap.size w W→Calls Tryz.prog 70 #[.agg (T.cells h).toArray,.agg ((waitsL T++entsL T).map I).toArray] W fun e w'=>e=.returned (.agg (fcells (faultS T)))∧Below W.heap.size W w'):=hJJ (fun W hb=>pfault_any T h (waitsL T) (entsL T) W (ht.below hb) (waits_len T) (ents_len T) (waits_lo T))
 have ST:=hJJ (laid3 w (T.cells h).toArray ((List.replicate 12 (0:Int)).map I).toArray #[I 0,I 0] 32 65 37)
 have RS:Hid (allF T=if chkC T=(0,0) then faultS T else chkC T):=hJJ rfl
 have RB:Hid (allB T=if allF T=(0,0) then waitsL T++entsL T else List.replicate 12 0):=hJJ rfl
 have LB:Hid ((waitsL T++entsL T).length=12):=hJJ (by rw [List.length_append,waits_len,ents_len])
 generalize allB T=rb at RB ⊢
 generalize allF T=rf at RS RB ⊢
 obtain ⟨⟨f1,f2⟩,hf⟩:∃ x,chkC T=x:=⟨_,rfl⟩
 obtain ⟨⟨g1,g2⟩,hg⟩:∃ x,faultS T=x:=⟨_,rfl⟩
 rw [hf] at RS CK0 BC
 rw [hg] at RS FC0
 have CK:Hid (∀ W,Below w.heap.size w W→Calls Tryz.prog 14 #[.agg (T.cells h).toArray] W fun e w'=>e=.returned (.agg #[I f1,I f2])∧Below W.heap.size W w'):=hJJ CK0.out
 have FC:Hid (∀ W,Below w.heap.size w W→Calls Tryz.prog 70 #[.agg (T.cells h).toArray,.agg ((waitsL T++entsL T).map I).toArray] W fun e w'=>e=.returned (.agg #[I g1,I g2])∧Below W.heap.size W w'):=hJJ FC0.out
 clear hf hg CK0 FC0 ht sm
 have EF:Hid (Eqs 37 [I f1,I f2] [I 0,I 0] (decide (f1=0∧f2=0))):=hJJ (ChkK.fault_eqs f1 f2 0 0)
 have EG:Hid (Eqs 37 [I g1,I g2] [I 0,I 0] (decide (g1=0∧g2=0))):=hJJ (ChkK.fault_eqs g1 g2 0 0)
 generalize T.cells h=c at *
 generalize hbl:waitsL T++entsL T=bl at *
 clear hbl
 have hz:=(zero_of_info infoBz).1
 have ZI:Hid ((Tryz.prog.info? 65).map (·.size)=some ((List.replicate 12 (0:Int)).map I).toArray.size):=hJJ infoB
 have ZO:Hid (((List.replicate 12 (0:Int)).map I).toArray.all (·.oneCell')=true):=hJJ (bone (zeros 8) (zeros 4))
 have BZ:=hJJ builtB
 have ZE:bcells (zeros 8) (zeros 4)=((List.replicate 12 (0:Int)).map I).toArray:=rfl
 rw [ZE] at hz
 clear ZE
 have RZ:Hid (∀ L:List Int,L=List.replicate 12 0→(L.map I).toArray=((List.replicate 12 (0:Int)).map I).toArray):=hJJ (fun L e=>by rw [e])
 have Z12:Hid (((List.replicate 12 (0:Int)).map I).toArray.size=12):=hJJ rfl
 generalize ((List.replicate 12 (0:Int)).map I).toArray=Z at *
 go_enter Tryz.func37,Tryz.ntmps37
 go_upto_region 1 with fail
 generalize ((w.alloc (.cells c.toArray 32)).alloc (.cells Z 65)).alloc (.cells #[I 0,I 0] 37)=w1 at ST ⊢
 clear hsz
 have LT:Hid (∀ u,Below w1.heap.size w1 u→Lies u ⟨w.heap.size,0,none⟩ c):=hJJ (fun u hu=>by have:=bks_lies (ST.out.step hu) (x:=(w.heap.size,c.toArray,32)) (by simp);simpa using this)
 have SZ:Hid (w.heap.size+3≤w1.heap.size):=hJJ (by
  have:=(Array.getElem?_eq_some_iff.1 (ST.out.blk (w.heap.size+2,#[I 0,I 0],37) (by simp))).1
  exact this)
 go_wp2_with (refine lgZ 32 ⟨w.heap.size,0,none⟩ c rfl (LT.out _ (Below.refl _ _)) Tryz.underlying32 IA.out ?_)
 refine (CK.out _ ST.out.bel).mono ?_
 rintro e u1 ⟨rfl,hb⟩
 have W1:Hid (Below w1.heap.size w1 (u1.alloc (.cells #[I f1,I f2] 37))):=hJJ (hb.alloc hb.size _)
 have NE:Hid (u1.heap.size ≠ w.heap.size+1∧u1.heap.size ≠ w.heap.size+2):=hJJ (by have:=hb.size;have:=SZ.out;omega)
 clear hb CK
 go_upto_region 2 with (refine Row.wpList_store_new rfl 37 _ _ rfl u1 _ #[I f1,I f2] rfl rfl rfl infoF rfl (by simp [Value.oneCell']) ?_)
 have KF:Hid ((u1.alloc (.cells #[I f1,I f2] 37)).heap[u1.heap.size]?=some (.cells #[I f1,I f2] 37 (0,0))):=hJJ (heap_alloc_new _ _)
 generalize u1.alloc (.cells #[I f1,I f2] 37)=u2 at W1 KF ⊢
 generalize u1.heap.size=m1 at NE KF ⊢
 have S2:=hJJ (ST.out.step W1.out)
 have BF:=hJJ S2.out.bel
 have K1:Hid (u2.heap[w.heap.size+1]?=some (.cells Z 65 (0,0))):=hJJ (S2.out.blk (w.heap.size+1,Z,65) (by simp))
 have K2:Hid (u2.heap[w.heap.size+2]?=some (.cells #[I 0,I 0] 37 (0,0))):=hJJ (S2.out.blk (w.heap.size+2,#[I 0,I 0],37) (by simp))
 have HL:Hid (Lies u2 ⟨m1,0,none⟩ [I f1,I f2]):=hJJ (by have:=Row.lies_of_block KF.out;simpa using this)
 clear S2
 by_cases hf:f1=0∧f2=0
 rotate_left
 ·have RR:Hid (Value.tuple #[.agg Z,.agg #[I f1,I f2]]=.tuple #[.agg (rb.map I).toArray,.agg (fcells rf)]):=hJJ (by
   have h1:rf=(f1,f2):=by rw [RS.out,if_neg (fun e=>hf (by injection e with a b;exact ⟨a,b⟩))]
   have h2:rb=List.replicate 12 0:=by rw [RB.out,if_neg (by rw [h1];exact fun e=>hf (by injection e with a b;exact ⟨a,b⟩))]
   rw [RZ.out rb h2,h1];rfl)
  have EF2:Hid (Eqs 37 [I f1,I f2] [I 0,I 0] false):=hJJ (by have:=EF.out;rwa [decide_eq_false hf] at this)
  clear RS RB EF EG BC FC LT hf
  go_upto_region 3 with (first | (refine lgZ 37 ⟨m1,0,none⟩ [I f1,I f2] rfl HL.out Tryz.underlying37 infoF ?_) | (refine Row.wpList_neq 37 _ _ _ rfl (by rfl) #[I f1,I f2] #[I 0,I 0] rfl rfl ChkK.guardF false EF2.out ?_))
  have D0:Hid (Below w.heap.size w { u2 with drawn:=u2.drawn+1 }):=hJJ BF.out.drew
  have D1:Hid (({ u2 with drawn:=u2.drawn+1 }:World).heap[w.heap.size+1]?=some (.cells Z 65 (0,0))):=hJJ K1.out
  have D2:Hid (({ u2 with drawn:=u2.drawn+1 }:World).heap[w.heap.size+2]?=some (.cells #[I 0,I 0] 37 (0,0))):=hJJ K2.out
  refine wp_region_held (S:=fun v=>v.heap[m1]?=some (.cells #[I f1,I f2] 37 (0,0))) (by kernel_rfl) ?_
  have hS:({ u2 with drawn:=u2.drawn+1 }:World).heap[m1]?=some (.cells #[I f1,I f2] 37 (0,0)):=KF.out
  generalize ({ u2 with drawn:=u2.drawn+1 }:World)=v at hS D0 D1 D2 ⊢
  refine Held.take_build (i:=0) (some 12) rfl 65 #[] Z rfl rfl (by kernel_rfl) (by kernel_rfl) (by kernel_rfl) (fun _ _ _ h=>h) (by rfl) hS (by simpa using BZ.out) ?_
  (try dsimp only [Act.put]);(try simp only [zA,zB,zC])
  refine tlZ 1 13 37 _ ⟨m1,0,none⟩ [I f1,I f2] rfl hS (fun w' hw'=>by have:=Row.lies_of_block hw';simpa using this) Tryz.underlying37 infoF ?_
  (try dsimp only [Act.put]);(try simp only [zA,zB,zC])
  refine rdZ 2 rfl (fun K hK=>?_)
  rw [if_pos (by rfl)]
  refine wp_store_row 65 _ _ rfl (w.heap.size+1) Z rfl rfl 65 _ D1.out ZI.out rfl ZO.out ?_
  have hS2:(v.setRow (w.heap.size+1) Z).heap[m1]?=some (.cells #[I f1,I f2] 37 (0,0)):=(setRow_other _ _ _ _ NE.out.1).trans hS
  have E0:=hJJ (Same.below_setRow D0.out (g:=(w.heap.size+1)) (by omega) Z)
  have E1:=hJJ (setRow_heap v (w.heap.size+1) _ Z _ _ D1.out)
  have E2:Hid ((v.setRow (w.heap.size+1) Z).heap[w.heap.size+2]?=some (.cells #[I 0,I 0] 37 (0,0))):=hJJ ((setRow_other _ _ _ _ (by omega)).trans D2.out)
  generalize v.setRow (w.heap.size+1) Z=v2 at hS2 E0 E1 E2 ⊢
  refine hK.out _ _ hS2 (fun hS=>?_)
  clear hK K hS2 D0 D1 D2
  (try dsimp only [Act.put]);(try simp only [zA,zB,zC])
  refine rdZ 3 rfl (fun K hK=>?_)
  rw [if_pos (by rfl)]
  refine wp_store_row 37 _ _ rfl (w.heap.size+2) #[I f1,I f2] rfl rfl 37 _ E2.out infoF rfl (by simp [Value.oneCell']) ?_
  have hS3:(v2.setRow (w.heap.size+2) #[I f1,I f2]).heap[m1]?=some (.cells #[I f1,I f2] 37 (0,0)):=(setRow_other _ _ _ _ NE.out.2).trans hS
  have F0:=hJJ (Same.below_setRow E0.out (g:=(w.heap.size+2)) (by omega) #[I f1,I f2])
  have F2:=hJJ (setRow_heap v2 (w.heap.size+2) _ #[I f1,I f2] _ _ E2.out)
  have F1:Hid ((v2.setRow (w.heap.size+2) #[I f1,I f2]).heap[w.heap.size+1]?=some (.cells Z 65 (0,0))):=hJJ ((setRow_other _ _ _ _ (by omega)).trans E1.out)
  generalize v2.setRow (w.heap.size+2) #[I f1,I f2]=v3 at hS3 F0 F1 F2 ⊢
  refine hK.out _ _ hS3 (fun hS=>?_)
  clear hK K hS3 E0 E1 E2
  refine wpAnyH_done (by kernel_rfl) ?_ _
  (try go_wp2_with fail)
  (try simp only [Exit.inBlock,Exit.then])
  refine bodyPost_ret (v:=.tuple #[.agg Z,.agg #[I f1,I f2]]) ?_ rfl ⟨by rw [RR.out],F0.out⟩
  exact results_two rfl _ _ (w.heap.size+1) (w.heap.size+2) 65 37 Z #[I f1,I f2] _ _ rfl rfl F1.out F2.out Tryz.underlying65 rfl ZI.out Tryz.underlying37 rfl infoF
 obtain ⟨rfl,rfl⟩:=hf
 have RS2:Hid (rf=(g1,g2)):=hJJ (by rw [RS.out,if_pos rfl])
 have EF2:Hid (Eqs 37 [I 0,I 0] [I 0,I 0] true):=hJJ (by have:=EF.out;rwa [decide_eq_true (by simp)] at this)
 have BC1:=hJJ (BC.out rfl)
 clear RS EF BC
 go_upto_region 4 with (first | (refine lgZ 37 ⟨m1,0,none⟩ [I 0,I 0] rfl HL.out Tryz.underlying37 infoF ?_) | (refine Row.wpList_neq 37 _ _ _ rfl (by rfl) #[I 0,I 0] #[I 0,I 0] rfl rfl ChkK.guardF true EF2.out ?_))
 clear HL EF2 KF NE
 go_wp2_with (refine lgZ 32 ⟨w.heap.size,0,none⟩ c rfl (LT.out _ W1.out) Tryz.underlying32 IA.out ?_)
 refine (BC1.out _ BF.out).mono ?_
 rintro e u3 ⟨rfl,hb⟩
 have BL:Hid ((Tryz.prog.info? 65).map (·.size)=some (bl.map I).length):=hJJ (by rw [List.length_map,LB.out];exact infoB)
 have BO:Hid ((bl.map I).toArray.all (·.oneCell')=true):=hJJ (by simp [Value.oneCell'])
 have RB2:Hid (rb=if (g1,g2)=((0,0):Int × Int) then bl else List.replicate 12 0):=hJJ (by rw [RB.out,RS2.out])
 have RL:Hid (∀ L:List Int,L=bl→(L.map I).toArray=(bl.map I).toArray):=hJJ (fun L e=>by rw [e])
 have BL12:Hid ((bl.map I).length=12):=hJJ (by rw [List.length_map,LB.out])
 clear RB LB BC1
 generalize hbc:bl.map I=bc at *
 clear hbc
 have W3:Hid (Below u2.heap.size u2 (u3.alloc (.cells bc.toArray 65))):=hJJ (hb.alloc hb.size _)
 clear hb
 go_upto_region 5 with (refine Row.wpList_store_new rfl 65 _ _ rfl u3 _ bc.toArray rfl rfl rfl (by rw [List.size_toArray];exact BL.out) (by rw [Z12.out,List.size_toArray,BL12.out]) BO.out ?_)
 have KB:Hid ((u3.alloc (.cells bc.toArray 65)).heap[u3.heap.size]?=some (.cells bc.toArray 65 (0,0))):=hJJ (heap_alloc_new _ _)
 generalize u3.alloc (.cells bc.toArray 65)=u4 at W3 KB ⊢
 generalize u3.heap.size=m2 at KB ⊢
 have W4:Hid (Below w1.heap.size w1 u4):=hJJ (W1.out.trans (W3.out.mono W1.out.size))
 have HB:Hid (Lies u4 ⟨m2,0,none⟩ bc):=hJJ (by have:=Row.lies_of_block KB.out;simpa using this)
 clear W1 BF K1 K2 W3 hz
 go_wp2_with (first | (refine lgZ 32 ⟨w.heap.size,0,none⟩ c rfl (LT.out _ W4.out) Tryz.underlying32 IA.out ?_) | (refine lgZ 65 ⟨m2,0,none⟩ bc rfl HB.out Tryz.underlying65 BL.out ?_))
 refine (FC.out _ (ST.out.step W4.out).bel).mono ?_
 rintro e u5 ⟨rfl,hb⟩
 have W5:Hid (Below u4.heap.size u4 (u5.alloc (.cells #[I g1,I g2] 37))):=hJJ (hb.alloc hb.size _)
 have NE:Hid (u5.heap.size ≠ w.heap.size+1∧u5.heap.size ≠ w.heap.size+2):=hJJ (by have:=hb.size;have:=W4.out.size;have:=SZ.out;omega)
 clear hb FC HB
 go_upto_region 6 with (refine Row.wpList_store_new rfl 37 _ _ rfl u5 _ #[I g1,I g2] rfl rfl rfl infoF rfl (by simp [Value.oneCell']) ?_)
 have KF:Hid ((u5.alloc (.cells #[I g1,I g2] 37)).heap[u5.heap.size]?=some (.cells #[I g1,I g2] 37 (0,0))):=hJJ (heap_alloc_new _ _)
 generalize u5.alloc (.cells #[I g1,I g2] 37)=u6 at W5 KF ⊢
 generalize u5.heap.size=m3 at NE KF ⊢
 have S6:=hJJ (ST.out.step (W4.out.trans (W5.out.mono W4.out.size)))
 have BF:=hJJ S6.out.bel
 have K1:Hid (u6.heap[w.heap.size+1]?=some (.cells Z 65 (0,0))):=hJJ (S6.out.blk (w.heap.size+1,Z,65) (by simp))
 have K2:Hid (u6.heap[w.heap.size+2]?=some (.cells #[I 0,I 0] 37 (0,0))):=hJJ (S6.out.blk (w.heap.size+2,#[I 0,I 0],37) (by simp))
 have HL:Hid (Lies u6 ⟨m3,0,none⟩ [I g1,I g2]):=hJJ (by have:=Row.lies_of_block KF.out;simpa using this)
 have HB:Hid (Lies u6 ⟨m2,0,none⟩ bc):=hJJ (by have:=Row.lies_of_block ((W5.out.block _ (Array.getElem?_eq_some_iff.1 KB.out).1).trans KB.out);simpa using this)
 clear S6 W4 W5 KB ST LT IA
 by_cases hg:g1=0∧g2=0
 rotate_left
 ·have RR:Hid (Value.tuple #[.agg Z,.agg #[I g1,I g2]]=.tuple #[.agg (rb.map I).toArray,.agg (fcells rf)]):=hJJ (by
   have h2:rb=List.replicate 12 0:=by rw [RB2.out,if_neg (fun e=>hg (by injection e with a b;exact ⟨a,b⟩))]
   rw [RZ.out rb h2,RS2.out];rfl)
  have EG2:Hid (Eqs 37 [I g1,I g2] [I 0,I 0] false):=hJJ (by have:=EG.out;rwa [decide_eq_false hg] at this)
  clear RB2 RS2 EG hg HB RL
  go_upto_region 7 with (first | (refine lgZ 37 ⟨m3,0,none⟩ [I g1,I g2] rfl HL.out Tryz.underlying37 infoF ?_) | (refine Row.wpList_neq 37 _ _ _ rfl (by rfl) #[I g1,I g2] #[I 0,I 0] rfl rfl ChkK.guardF false EG2.out ?_))
  have D0:Hid (Below w.heap.size w { u6 with drawn:=u6.drawn+1 }):=hJJ BF.out.drew
  have D1:Hid (({ u6 with drawn:=u6.drawn+1 }:World).heap[w.heap.size+1]?=some (.cells Z 65 (0,0))):=hJJ K1.out
  have D2:Hid (({ u6 with drawn:=u6.drawn+1 }:World).heap[w.heap.size+2]?=some (.cells #[I 0,I 0] 37 (0,0))):=hJJ K2.out
  refine wp_region_held (S:=fun v=>v.heap[m3]?=some (.cells #[I g1,I g2] 37 (0,0))) (by kernel_rfl) ?_
  have hS:({ u6 with drawn:=u6.drawn+1 }:World).heap[m3]?=some (.cells #[I g1,I g2] 37 (0,0)):=KF.out
  generalize ({ u6 with drawn:=u6.drawn+1 }:World)=v at hS D0 D1 D2 ⊢
  refine Held.take_build (i:=0) (some 22) rfl 65 #[] Z rfl rfl (by kernel_rfl) (by kernel_rfl) (by kernel_rfl) (fun _ _ _ h=>h) (by rfl) hS (by simpa using BZ.out) ?_
  (try dsimp only [Act.put]);(try simp only [zA,zB,zC])
  refine tlZ 1 23 37 _ ⟨m3,0,none⟩ [I g1,I g2] rfl hS (fun w' hw'=>by have:=Row.lies_of_block hw';simpa using this) Tryz.underlying37 infoF ?_
  (try dsimp only [Act.put]);(try simp only [zA,zB,zC])
  refine rdZ 2 rfl (fun K hK=>?_)
  rw [if_pos (by rfl)]
  refine wp_store_row 65 _ _ rfl (w.heap.size+1) Z rfl rfl 65 _ D1.out ZI.out rfl ZO.out ?_
  have hS2:(v.setRow (w.heap.size+1) Z).heap[m3]?=some (.cells #[I g1,I g2] 37 (0,0)):=(setRow_other _ _ _ _ NE.out.1).trans hS
  have E0:=hJJ (Same.below_setRow D0.out (g:=(w.heap.size+1)) (by omega) Z)
  have E1:=hJJ (setRow_heap v (w.heap.size+1) _ Z _ _ D1.out)
  have E2:Hid ((v.setRow (w.heap.size+1) Z).heap[w.heap.size+2]?=some (.cells #[I 0,I 0] 37 (0,0))):=hJJ ((setRow_other _ _ _ _ (by omega)).trans D2.out)
  generalize v.setRow (w.heap.size+1) Z=v2 at hS2 E0 E1 E2 ⊢
  refine hK.out _ _ hS2 (fun hS=>?_)
  clear hK K hS2 D0 D1 D2
  (try dsimp only [Act.put]);(try simp only [zA,zB,zC])
  refine rdZ 3 rfl (fun K hK=>?_)
  rw [if_pos (by rfl)]
  refine wp_store_row 37 _ _ rfl (w.heap.size+2) #[I g1,I g2] rfl rfl 37 _ E2.out infoF rfl (by simp [Value.oneCell']) ?_
  have hS3:(v2.setRow (w.heap.size+2) #[I g1,I g2]).heap[m3]?=some (.cells #[I g1,I g2] 37 (0,0)):=(setRow_other _ _ _ _ NE.out.2).trans hS
  have F0:=hJJ (Same.below_setRow E0.out (g:=(w.heap.size+2)) (by omega) #[I g1,I g2])
  have F2:=hJJ (setRow_heap v2 (w.heap.size+2) _ #[I g1,I g2] _ _ E2.out)
  have F1:Hid ((v2.setRow (w.heap.size+2) #[I g1,I g2]).heap[w.heap.size+1]?=some (.cells Z 65 (0,0))):=hJJ ((setRow_other _ _ _ _ (by omega)).trans E1.out)
  generalize v2.setRow (w.heap.size+2) #[I g1,I g2]=v3 at hS3 F0 F1 F2 ⊢
  refine hK.out _ _ hS3 (fun hS=>?_)
  clear hK K hS3 E0 E1 E2
  refine wpAnyH_done (by kernel_rfl) ?_ _
  (try go_wp2_with fail)
  (try simp only [Exit.inBlock,Exit.then])
  refine bodyPost_ret (v:=.tuple #[.agg Z,.agg #[I g1,I g2]]) ?_ rfl ⟨by rw [RR.out],F0.out⟩
  exact results_two rfl _ _ (w.heap.size+1) (w.heap.size+2) 65 37 Z #[I g1,I g2] _ _ rfl rfl F1.out F2.out Tryz.underlying65 rfl ZI.out Tryz.underlying37 rfl infoF
 obtain ⟨rfl,rfl⟩:=hg
 have RR:Hid (Value.tuple #[.agg bc.toArray,.agg #[I 0,I 0]]=.tuple #[.agg (rb.map I).toArray,.agg (fcells rf)]):=hJJ (by
  have h2:rb=bl:=by rw [RB2.out,if_pos rfl]
  rw [RL.out rb h2,RS2.out];rfl)
 have EG2:Hid (Eqs 37 [I 0,I 0] [I 0,I 0] true):=hJJ (by have:=EG.out;rwa [decide_eq_true (by simp)] at this)
 clear RB2 RS2 EG RL
 go_upto_region 8 with (first | (refine lgZ 37 ⟨m3,0,none⟩ [I 0,I 0] rfl HL.out Tryz.underlying37 infoF ?_) | (refine Row.wpList_neq 37 _ _ _ rfl (by rfl) #[I 0,I 0] #[I 0,I 0] rfl rfl ChkK.guardF true EG2.out ?_))
 clear EG2 HL KF
 have E0:=hJJ (Same.below_setRow BF.out (g:=w.heap.size+1) (by omega) bc.toArray)
 have E1:=hJJ (setRow_heap u6 (w.heap.size+1) _ bc.toArray _ _ K1.out)
 have E2:Hid ((u6.setRow (w.heap.size+1) bc.toArray).heap[w.heap.size+2]?=some (.cells #[I 0,I 0] 37 (0,0))):=hJJ ((setRow_other _ _ _ _ (by omega)).trans K2.out)
 have F0:=hJJ (Same.below_setRow E0.out (g:=w.heap.size+2) (by omega) #[I 0,I 0])
 have F2:=hJJ (setRow_heap (u6.setRow (w.heap.size+1) bc.toArray) (w.heap.size+2) _ #[I 0,I 0] _ _ E2.out)
 have F1:Hid (((u6.setRow (w.heap.size+1) bc.toArray).setRow (w.heap.size+2) #[I 0,I 0]).heap[w.heap.size+1]?=some (.cells bc.toArray 65 (0,0))):=hJJ ((setRow_other _ _ _ _ (by omega)).trans E1.out)
 go_wp2_with (first | (refine lgZ 65 ⟨m2,0,none⟩ bc rfl HB.out Tryz.underlying65 BL.out ?_) | (refine wpList_store_row rfl 65 _ _ rfl (w.heap.size+1) bc.toArray rfl rfl 65 _ K1.out (by rw [List.size_toArray];exact BL.out) (by rw [Z12.out,List.size_toArray,BL12.out]) BO.out ?_) | (refine wpList_store_row rfl 37 _ _ rfl (w.heap.size+2) #[I 0,I 0] rfl rfl 37 _ E2.out infoF rfl (by simp [Value.oneCell']) ?_))
 generalize (u6.setRow (w.heap.size+1) bc.toArray).setRow (w.heap.size+2) #[I 0,I 0]=v3 at F0 F1 F2 ⊢
 (try go_wp2_with fail)
 (try simp only [Exit.inBlock,Exit.then])
 refine bodyPost_ret (v:=.tuple #[.agg bc.toArray,.agg #[I 0,I 0]]) ?_ rfl ⟨by rw [RR.out],F0.out⟩
 exact results_two rfl _ _ (w.heap.size+1) (w.heap.size+2) 65 37 bc.toArray #[I 0,I 0] _ _ rfl rfl F1.out F2.out Tryz.underlying65 rfl (by rw [List.size_toArray];exact BL.out) Tryz.underlying37 rfl infoF
end BdL
namespace Good9
open Zip
open Go.ChangeShapes Go.WideShapes Go.ChangeAt Go.RowKit
open Tab Gath GenG GenT PlaceM
open Clone (zPh)
open GenT (zTab)
theorem wpList_store_mid {P:Program} {ops:Array Oper} {rest:List Oper} {op:Oper} {a:Act} {w w':World} {Q:Exit→Act→World→Prop} (hw:Region.wanted op (yielded ops a.tmps)=true) (ty:TypeId) (x y:Operand) (ho:op.op=.store ty x y) (p:Addr) (cells:Array Value)
  (hx:a.eval x=.pointer (some p)) (hy:a.eval y=.agg cells) (hr:(Instr.storeAt ty (.pointer (some p)) (.agg cells)).run P w=.ok () w') (h:wpList P ops Q rest (a.put op.dst undef) w'):wpList P ops Q (op :: rest) a w :=
 BigFrame.wpList_want hw fun _ hK=>by
  unfold Oper.wp execOp
  simp only [ho,hx,hy,Sem.run_bind,hr,Result.andThen_ok,Sem.run_pure]
  exact hK _ _ h
end Good9
namespace Wa9
open Zip
open Go.ChangeShapes Go.WideShapes Go.ChangeAt Go.RowKit
open Tab Clone PlaceM PlanM OnS ChkM ChkK
open May (chain infoT)
open Same (Eqs)
theorem chk_z:chkC zTab=(8,0):=by decide +kernel
theorem builtZ:Tryz.prog.built 32 []=some (zTab.cells zHd).toArray:=by kernel_rfl
section
variable {P:Program} {ops:Array Oper} {Q:Exit→Act→World→Prop}
theorem wpList_build0 {rest:List Oper} {o:Oper} {a:Act} {w:World} (hgd:o.guard=none) (t:TypeId) (ho:o.op=.build t #[]) (cells:Array Value) (hb:P.built t []=some cells)
  (h:wpList P ops Q rest (a.put o.dst (.agg cells)) w):wpList P ops Q (o :: rest) a w :=
 wpList_plain hgd fun _ hK=>by
  unfold Oper.wp execOp
  have hb':P.built t ((#[]:Array (Nat × Operand)).map fun (i,x)=>(i,a.eval x)).toList=some cells:=by simpa using hb
  simp only [ho,Sem.run_bind,run_build w t _ _ hb',Result.andThen_ok,Sem.run_pure]
  exact hK _ _ h
end
end Wa9
namespace Wa10
open Zip
open Go.ChangeShapes Go.WideShapes Go.ChangeAt Go.RowKit
open Tab Clone PlaceM PlanM OnS ChkM ChkK BdB
open May (chain infoT)
def pA:Ph:=⟨true,5,0,20,20,0,10,2,0,0,0,false,false⟩
def tA:Tab:={ zTab with phases:=zTab.phases.set 0 pA }
theorem few_z:Few zTab:=⟨by decide,by intro g hg;simp [zTab] at hg⟩
theorem tA_is (w:World):IsTab w zHd tA:=⟨rfl,rfl,rfl,⟨[],rfl,RowOf.nil w,fun g hg=>by simp at hg⟩,RowOf.nil w,RowOf.nil w,RowOf.nil w⟩
theorem all_z:allF zTab=(8,0):=by unfold allF;rw [Wa9.chk_z];rfl
theorem serve_A:ServeS.serveS tA 0=40:=by decide +kernel
theorem info24:(Tryz.prog.info? 24).map (·.size)=some 13:=by kernel_rfl
theorem put_A:((zTab.cells zHd).toArray.toList.take 0++pA.cells.toArray.toList++(zTab.cells zHd).toArray.toList.drop (0+pA.cells.toArray.size)).toArray=(tA.cells zHd).toArray:=rfl
theorem builtA:Tryz.prog.built 24 [(0,.bool true),(1,I 5),(3,I 20),(4,I 20),(6,I 10),(7,I 2)]=some pA.cells.toArray:=by kernel_rfl
theorem awake_any (w:World):Calls Tryz.prog 24 #[] w fun e w'=>e=.returned (.bool true)∧Below w.heap.size w w':=by
 have BZ:=hJJ Wa9.builtZ
 have hz:=(zero_of_info info31).1
 have hz2:=(zero_of_info BdN.infoBz).1
 have CZ:Hid (∀ W,Calls Tryz.prog 37 #[.agg (zTab.cells zHd).toArray] W fun e w'=>e=.returned (.tuple #[.agg ((allB zTab).map I).toArray,.agg #[I 8,I 0]])∧Below W.heap.size W w'):=hJJ (fun W=>by have:=BdL.pall_any zTab zHd W (z_is W) few_z;rwa [all_z] at this)
 have SV:Hid (∀ W,Calls Tryz.prog 25 #[.agg (tA.cells zHd).toArray,.int .i64 0] W fun e w'=>e=.returned (.int .i64 40)∧Below W.heap.size W w'):=hJJ (fun W=>by have:=BdV.pserve_any tA zHd 0 W (tA_is W);rwa [serve_A] at this)
 have A0:=hJJ ((Below.refl w.heap.size w).alloc (Nat.le_refl _) (.cells (zTab.cells zHd).toArray 32))
 have K0:=hJJ (heap_alloc_new w (.cells (zTab.cells zHd).toArray 32))
 have RUN:=hJJ (fun W h=>(Row.run_storeAt_at (P:=Tryz.prog) W w.heap.size 0 32 24 (zTab.cells zHd).toArray pA.cells.toArray h info24 (by decide) (Ph.one pA)).trans (by rw [put_A]))
 have PA:=hJJ builtA
 have IA:Hid ((Tryz.prog.info? 32).map (·.size)=some (tA.cells zHd).length):=hJJ infoT
 have LA:(allB zTab).length=12:=by decide +kernel
 have hbl:(((allB zTab).map I).toArray).size=12:=by rw [List.size_toArray,List.length_map,LA]
 have HO:Hid (((allB zTab).map I).toArray.all (·.oneCell')=true):=hJJ (by simp [Value.oneCell'])
 generalize ((allB zTab).map I).toArray=bz at *
 generalize (zTab.cells zHd).toArray=Z at *
 generalize tA.cells zHd=c at *
 have ZBs:Hid ((bcells (zeros 8) (zeros 4)).size=12):=hJJ rfl
 generalize bcells (zeros 8) (zeros 4)=zb at *
 have BZs:=hJJ hbl
 clear LA PA hbl
 go_enter Tryz.func24,Tryz.ntmps24
 go_upto_region 2 with fail
 generalize w.alloc (.cells Z 32)=w1 at A0 K0 ⊢
 go_upto_region 3 with (refine Good9.wpList_store_mid (by rfl) 24 _ _ rfl ⟨w.heap.size,0,none⟩ pA.cells.toArray rfl rfl (RUN.out _ K0.out) ?_)
 have K1:=hJJ (setRow_heap w1 w.heap.size _ c.toArray _ _ K0.out)
 have A1:=hJJ (Same.below_setRow A0.out (Nat.le_refl _) c.toArray)
 generalize w1.setRow w.heap.size c.toArray=w2 at K1 A1 ⊢
 clear K0 A0 RUN
 go_wp2_with (refine Wa9.wpList_build0 rfl 32 rfl Z BZ.out ?_)
 refine (CZ.out _).mono ?_
 rintro e u1 ⟨rfl,hb⟩
 have A2:=hJJ (A1.out.trans (hb.mono A1.out.size))
 have K2:=hJJ ((hb.block _ (Array.getElem?_eq_some_iff.1 K1.out).1).trans K1.out)
 have LE:=hJJ ((Array.getElem?_eq_some_iff.1 K2.out).1)
 clear hb K1 A1 CZ
 have KB:=hJJ (heap_alloc2_old u1 (.cells zb 65) (.cells #[I 0,I 0] 37))
 have KF:=hJJ ((setRow_other ((u1.alloc (.cells zb 65)).alloc (.cells #[I 0,I 0] 37)) u1.heap.size (u1.heap.size+1) bz (by omega)).trans (heap_alloc2_new u1 (.cells zb 65) (.cells #[I 0,I 0] 37)))
 have B4:Hid (Below u1.heap.size u1 ((((u1.alloc (.cells zb 65)).alloc (.cells #[I 0,I 0] 37)).setRow u1.heap.size bz).setRow (u1.heap.size+1) #[I 8,I 0])):=hJJ (Same.below_setRow (Same.below_setRow (((Below.refl _ _).alloc (Nat.le_refl _) _).alloc (by simp) _) (Nat.le_refl _) _) (by omega) _)
 have K8:=hJJ (setRow_heap _ (u1.heap.size+1) _ #[I 8,I 0] _ _ KF.out)
 go_upto_region 4 with (first | (refine wpList_store_row rfl 65 _ _ rfl u1.heap.size bz rfl rfl 65 _ KB.out (by rw [BZs.out];exact infoB) (by rw [ZBs.out,BZs.out]) HO.out ?_) | (refine wpList_store_row rfl 37 _ _ rfl (u1.heap.size+1) #[I 8,I 0] rfl rfl 37 _ KF.out infoF rfl (by simp [Value.oneCell']) ?_))
 generalize (((u1.alloc (.cells zb 65)).alloc (.cells #[I 0,I 0] 37)).setRow u1.heap.size bz).setRow (u1.heap.size+1) #[I 8,I 0]=u2 at B4 K8 ⊢
 have A3:=hJJ (A2.out.trans (B4.out.mono A2.out.size))
 have K3:=hJJ ((B4.out.block _ LE.out).trans K2.out)
 have LT:Hid (Lies u2 ⟨w.heap.size,0,none⟩ c):=hJJ (by have:=Row.lies_of_block K3.out;simpa using this)
 clear KB KF B4 K2 A2 hz hz2
 go_wp2_with (refine lgZ 32 ⟨w.heap.size,0,none⟩ c rfl LT.out Tryz.underlying32 IA.out ?_)
 refine (SV.out _).mono ?_
 rintro e u3 ⟨rfl,hb⟩
 have A4:=hJJ (A3.out.trans (hb.mono A3.out.size))
 have c8:u3.cell? ⟨u1.heap.size+1,0,none⟩=some (I 8):=by rw [cell_of_row _ _ _ _ _ _ ((hb.block _ (Array.getElem?_eq_some_iff.1 K8.out).1).trans K8.out)];rfl
 clear hb K8 SV LT K3 A3
 go_wp2
 go_ret
 exact ⟨rfl,A4.out⟩
end Wa10
namespace Kx
open Go Go.RowKit
open Tab Gath GenG GenT Clone
structure Kx (w0:World) (tb:Nat) (hd:Hd) (T:Tab) (W:World):Prop where
 bel:Below w0.heap.size w0 W
 tbB:w0.heap.size≤tb
 blk:W.heap[tb]?=some (.cells (T.cells hd).toArray 32 (0,0))
 tab:IsTab w0 hd T
theorem Kx.isTab {w0:World} {tb:Nat} {hd:Hd} {T:Tab} {W:World} (h:Kx w0 tb hd T W):IsTab W hd T:=h.tab.below h.bel
theorem Kx.size {w0:World} {tb:Nat} {hd:Hd} {T:Tab} {W:World} (h:Kx w0 tb hd T W):tb < W.heap.size:=(Array.getElem?_eq_some_iff.1 h.blk).1
theorem Kx.step {w0:World} {tb:Nat} {hd:Hd} {T:Tab} {W W':World} (h:Kx w0 tb hd T W) (hb:Below W.heap.size W W'):Kx w0 tb hd T W' :=
 ⟨h.bel.trans (hb.mono h.bel.size),h.tbB,(hb.block _ h.size).trans h.blk,h.tab⟩
theorem Kx.cell {w0:World} {tb:Nat} {hd:Hd} {T:Tab} {W:World} (h:Kx w0 tb hd T W) (i:Nat):W.cell? ⟨tb,i,none⟩=(T.cells hd)[i]?:=by
 rw [cell_of_row _ _ _ _ _ _ h.blk];simp
theorem Kx.frozen {w0:World} {tb:Nat} {hd:Hd} {T:Tab} {W:World} (h:Kx w0 tb hd T W) (i:Nat):W.frozen? ⟨tb,i,none⟩=false:=frozen_of_row _ _ _ _ _ h.blk
theorem Kx.lies {w0:World} {tb:Nat} {hd:Hd} {T:Tab} {W:World} (h:Kx w0 tb hd T W):Lies W ⟨tb,0,none⟩ (T.cells hd):=by have:=Row.lies_of_block h.blk;simpa using this
theorem Kx.write {w0:World} {tb:Nat} {hd:Hd} {T U:Tab} {W W':World} (h:Kx w0 tb hd T W) (hg:W.grownBy W' (some tb)) (hb:W'.heap[tb]?=some (.cells (U.cells hd).toArray 32 (0,0)))
  (h1:U.phases.length=8) (h2:U.conflict.length=8) (h3:U.flash.length=8) (e1:U.groups=T.groups) (e2:U.dets=T.dets) (e3:U.rails=T.rails) (e4:U.buses=T.buses):Kx w0 tb hd U W' :=
 ⟨h.bel.grown hg h.bel.size (fun k hk=>by cases hk;exact h.tbB),h.tbB,hb,⟨h1,h2,h3,by rw [e1];exact h.tab.groups,by rw [e2];exact h.tab.dets,by rw [e3];exact h.tab.rails,by rw [e4];exact h.tab.buses⟩⟩
theorem Kx.set {w0:World} {tb:Nat} {hd:Hd} {T U:Tab} {W:World} (h:Kx w0 tb hd T W) (i:Nat) (v:Value) (hc:(T.cells hd).set i v=U.cells hd)
  (h1:U.phases.length=8) (h2:U.conflict.length=8) (h3:U.flash.length=8) (e1:U.groups=T.groups) (e2:U.dets=T.dets) (e3:U.rails=T.rails) (e4:U.buses=T.buses):Kx w0 tb hd U (W.setCell ⟨tb,i,none⟩ v) :=
 h.write (grown_set _ _ _ _) (by rw [heap_setCell_same _ _ _ _ _ _ h.blk,← hc];simp) h1 h2 h3 e1 e2 e3 e4
theorem Kx.store_ph {w0:World} {tb:Nat} {hd:Hd} {T:Tab} {W:World} (h:Kx w0 tb hd T W) (p:Nat) (hp:p < 8) (x:Ph) :
  ∃ W',Sem.run Tryz.prog (storeCells ⟨tb,p*13,none⟩ x.cells) W=.ok () W'∧Kx w0 tb hd { T with phases:=T.phases.set p x } W':=by
 have hl:=cells_cut hd h.tab.ph h.tab.cf h.tab.fl
 have hr:=run_storeCells_at Tryz.prog tb (p*13) 32 x.cells 0 (T.cells hd).toArray W h.blk (by simp [hl,Ph.cells];omega) (fun v hv=>(Array.all_eq_true_iff_forall_mem.1 (Ph.one x)) v (by simpa using hv))
 simp only [Nat.add_zero] at hr
 refine ⟨_,hr,h.write (setRow_grown _ _ _ h.size) ?_ (by simp [h.tab.ph]) h.tab.cf h.tab.fl rfl rfl rfl rfl⟩
 rw [setRow_heap _ _ _ _ _ _ h.blk,← cells_phase hd h.tab.ph p hp x,Nat.mul_comm 13 p]
 rfl
end Kx
namespace Ky
open Go Go.RowKit
open Tab Gath GenG GenT Clone Kx
theorem flat_set {α:Type} {f:α→List Value} {n:Nat} (hf:∀ x,(f x).length=n) {x:α} {v:Value} {j:Nat} (hj:j < n):∀ {l:List α} {k:Nat} {u:α},l[k]?=some u→(f u).set j v=f x→(l.flatMap f).set (k*n+j) v=(l.set k x).flatMap f
 | [],k,u,h,_=>by simp at h
 | y :: l,0,u,h,e=>by
  obtain rfl:y=u:=by simpa using h
  rw [List.flatMap_cons,List.set_cons_zero,List.flatMap_cons,Nat.zero_mul,Nat.zero_add,List.set_append_left _ _ (by rw [hf];exact hj),e]
 | y :: l,k+1,u,h,e=>by
  rw [List.flatMap_cons,List.set_cons_succ,List.flatMap_cons,List.set_append_right _ _ (by rw [hf,Nat.add_mul];omega),hf,show (k+1)*n+j - n=k*n+j by rw [Nat.add_mul];omega,flat_set hf hj (l:=l) (by simpa using h) e]
theorem flat_at {α:Type} {f:α→List Value} {n:Nat} (hf:∀ x,(f x).length=n) {j:Nat} (hj:j < n):∀ {l:List α} {k:Nat} {u:α},l[k]?=some u→(l.flatMap f)[k*n+j]?=(f u)[j]?
 | [],k,u,h=>by simp at h
 | y :: l,0,u,h=>by
  obtain rfl:y=u:=by simpa using h
  rw [List.flatMap_cons,Nat.zero_mul,Nat.zero_add,List.getElem?_append_left (by rw [hf];exact hj)]
 | y :: l,k+1,u,h=>by
  rw [List.flatMap_cons,List.getElem?_append_right (by rw [hf,Nat.add_mul];omega),hf,show (k+1)*n+j - n=k*n+j by rw [Nat.add_mul];omega,flat_at hf hj (l:=l) (by simpa using h)]
theorem ph_len (u:Ph):u.cells.length=13:=rfl
theorem flat_lt {l:List Ph} {k:Nat} {u:Ph} (h:l[k]?=some u) {j:Nat} (hj:j < 13):k*13+j < (l.flatMap Ph.cells).length:=by
 have hk:=(List.getElem?_eq_some_iff.1 h).1
 rw [Tab.phases_len];omega
theorem cells_cell {T:Tab} (hd:Hd) {k:Nat} {u x:Ph} (hu:T.phases[k]?=some u) {j:Nat} (hj:j < 13) {v:Value} (hx:u.cells.set j v=x.cells):(T.cells hd).set (k*13+j) v={ T with phases:=T.phases.set k x }.cells hd:=by
 unfold Tab.cells
 rw [List.set_append_left _ _ (flat_lt hu hj),flat_set ph_len hj hu hx]
theorem cells_at {T:Tab} (hd:Hd) {k:Nat} {u:Ph} (hu:T.phases[k]?=some u) {j:Nat} (hj:j < 13):(T.cells hd)[k*13+j]?=u.cells[j]?:=by
 unfold Tab.cells
 rw [List.getElem?_append_left (flat_lt hu hj),flat_at ph_len hj hu]
theorem put {w0:World} {tb:Nat} {hd:Hd} {T:Tab} {W:World} (h:Kx w0 tb hd T W) {k:Nat} {u x:Ph} (hu:T.phases[k]?=some u) {j:Nat} (hj:j < 13) {v:Value} (hx:u.cells.set j v=x.cells) :
  Kx w0 tb hd { T with phases:=T.phases.set k x } (W.setCell ⟨tb,k*13+j,none⟩ v) :=
 h.set _ _ (cells_cell hd hu hj hx) (by simp [h.tab.ph]) h.tab.cf h.tab.fl rfl rfl rfl rfl
theorem cell_at {w0:World} {tb:Nat} {hd:Hd} {T:Tab} {W:World} (h:Kx w0 tb hd T W) {k:Nat} {u:Ph} (hu:T.phases[k]?=some u) {j:Nat} (hj:j < 13):W.cell? ⟨tb,k*13+j,none⟩=u.cells[j]?:=by
 rw [h.cell,cells_at hd hu hj]
theorem copy {w0:World} {tb:Nat} {hd:Hd} {T:Tab} {W:World} (h:Kx w0 tb hd T W):Kx w0 W.heap.size hd T (W.alloc (.cells (T.cells hd).toArray 32)) :=
 ⟨h.bel.trans (((Below.refl _ _).alloc (Nat.le_refl _) _).mono h.bel.size),h.bel.size,heap_alloc_new _ _,h.tab⟩
theorem other {w0:World} {tb ub:Nat} {hd:Hd} {T:Tab} {W:World} (h:Kx w0 tb hd T W) (hn:ub ≠ tb) (hb:w0.heap.size≤ub) (i:Nat) (v:Value):Kx w0 tb hd T (W.setCell ⟨ub,i,none⟩ v):=by
 have hg:=grown_set W ub i v
 exact ⟨h.bel.grown hg h.bel.size (fun k hk=>by cases hk;exact hb),h.tbB,(hg.block _ h.size (fun e=>hn (Option.some.inj e).symm)).trans h.blk,h.tab⟩
theorem cells_window {T:Tab} (hd:Hd) (h8:T.phases.length=8) (hc:T.conflict.length=8) (hf:T.flash.length=8) (x:Int):(T.cells hd).set 129 (I x)={ T with window:=x }.cells hd:=by
 obtain ⟨a0,a1,a2,a3,a4,a5,a6,a7,e⟩:=eight h8
 obtain ⟨c0,c1,c2,c3,c4,c5,c6,c7,e2⟩:=eight hc
 obtain ⟨f0,f1,f2,f3,f4,f5,f6,f7,e3⟩:=eight hf
 obtain ⟨phases,groups,conflict,dets,rails,buses,extend,budget,start,revert,least,flash,window,share⟩:=T
 simp only at e e2 e3
 subst e e2 e3
 rfl
theorem cells_share {T:Tab} (hd:Hd) (h8:T.phases.length=8) (hc:T.conflict.length=8) (hf:T.flash.length=8) (x:Int):(T.cells hd).set 130 (I x)={ T with share:=x }.cells hd:=by
 obtain ⟨a0,a1,a2,a3,a4,a5,a6,a7,e⟩:=eight h8
 obtain ⟨c0,c1,c2,c3,c4,c5,c6,c7,e2⟩:=eight hc
 obtain ⟨f0,f1,f2,f3,f4,f5,f6,f7,e3⟩:=eight hf
 obtain ⟨phases,groups,conflict,dets,rails,buses,extend,budget,start,revert,least,flash,window,share⟩:=T
 simp only at e e2 e3
 subst e e2 e3
 rfl
theorem put_window {w0:World} {tb:Nat} {hd:Hd} {T:Tab} {W:World} (h:Kx w0 tb hd T W) (x:Int):Kx w0 tb hd { T with window:=x } (W.setCell ⟨tb,129,none⟩ (I x)) :=
 h.set 129 (I x) (cells_window hd h.tab.ph h.tab.cf h.tab.fl x) h.tab.ph h.tab.cf h.tab.fl rfl rfl rfl rfl
theorem put_share {w0:World} {tb:Nat} {hd:Hd} {T:Tab} {W:World} (h:Kx w0 tb hd T W) (x:Int):Kx w0 tb hd { T with share:=x } (W.setCell ⟨tb,130,none⟩ (I x)) :=
 h.set 130 (I x) (cells_share hd h.tab.ph h.tab.cf h.tab.fl x) h.tab.ph h.tab.cf h.tab.fl rfl rfl rfl rfl
theorem at_window {w0:World} {tb:Nat} {hd:Hd} {T:Tab} {W:World} (h:Kx w0 tb hd T W):W.cell? ⟨tb,129,none⟩=some (I T.window):=by rw [h.cell,← List.getElem?_toArray,(cells_ok h.tab).window]
theorem at_share {w0:World} {tb:Nat} {hd:Hd} {T:Tab} {W:World} (h:Kx w0 tb hd T W):W.cell? ⟨tb,130,none⟩=some (I T.share):=by rw [h.cell,← List.getElem?_toArray,(cells_ok h.tab).share]
theorem back {w0:World} {ub:Nat} {hd:Hd} {T U:Tab} {W:World} (h:Kx w0 ub hd U W) (ht:IsTab w0 hd T):Kx w0 ub hd T (W.setRow ub (T.cells hd).toArray) :=
 ⟨h.bel.grown (setRow_grown _ _ _ h.size) h.bel.size (fun k hk=>by cases hk;exact h.tbB),h.tbB,setRow_heap _ _ _ _ _ _ h.blk,ht⟩
end Ky
namespace RkB
open Zip
open Go.ChangeShapes Go.WideShapes Go.ChangeAt Go.RowKit
open Tab PlaceM PlanM OnS ChkM ChkI
open RefS (rlist_any rhas_any row_of)
open May (ret_bool infoT infoP)
theorem getD_mem {L:List Int} {q:Nat} (h:q < L.length):L.getD q 0 ∈ L:=by rw [List.getD_eq_getElem?_getD,List.getElem?_eq_getElem h];exact List.getElem_mem h
theorem any_no {f:Int→Bool} {L:List Int} (h:∀ j,j < L.length→f (L.getD j 0)=false):L.any f=false:=by
 rw [List.any_eq_false]
 intro z hz
 obtain ⟨i,hi,rfl⟩:=List.getElem_of_mem hz
 have:=h i hi
 rw [List.getD_eq_getElem?_getD,List.getElem?_eq_getElem hi] at this
 simpa using this
def pairR (T:Tab) (p q:Int):Bool:=SetM.has (cfAt T p) q || SetM.has (cfAt T q) p
theorem rclash_any (T:Tab) (h:Hd) (sa sb:Int) (w:World) (ht:IsTab w h T) :
  Calls Tryz.prog 94 #[.agg (T.cells h).toArray,.int .i64 sa,.int .i64 sb] w fun e w'=>e=.returned (.bool (clashR T sa sb))∧Below w.heap.size w w':=by
 have hsz:=(cells_ok ht).size
 have BX0:=hJJ (bxd_new ht)
 have A0:Hid (Below w.heap.size w (w.alloc (.cells (T.cells h).toArray 32))):=hJJ ((Below.refl _ _).alloc (Nat.le_refl _) _)
 obtain ⟨x,hx⟩:∃ x,x=clashR T sa sb:=⟨_,rfl⟩
 rw [← hx]
 have HX:Hid (x=(SetM.list sa).any fun p=>(SetM.list sb).any (pairR T p)):=hJJ hx
 have FR:Hid (∀ p q,pairR T p q=(SetM.has (cfAt T p) q || SetM.has (cfAt T q) p)):=hJJ (fun p q=>rfl)
 have RA:=hJJ (rlist_any sa)
 have RB:=hJJ (rlist_any sb)
 have BDA:=hJJ (fun q (hq:q ∈ SetM.list sa)=>SetM.list_bd _ q hq)
 have BDB:=hJJ (fun q (hq:q ∈ SetM.list sb)=>SetM.list_bd _ q hq)
 have hla:=SetM.list_len sa
 have hlb:=SetM.list_len sb
 generalize SetM.list sa=La at *
 generalize SetM.list sb=Lb at *
 clear ht hx
 generalize T.cells h=c at *
 go_enter Tryz.func94,Tryz.ntmps94
 go_upto_region 1 with fail
 generalize w.alloc (.cells c.toArray 32)=u at A0 BX0 ⊢
 clear hsz
 go_wp2_with fail
 refine (RA.out _).mono ?_
 rintro e u1 ⟨v,rfl,hown,hb⟩
 obtain ⟨aa,acap,rfl,hrow⟩:=row_of hown
 have HROW:=hJJ hrow
 have B0:Hid (Below w.heap.size w u1):=hJJ (A0.out.trans (hb.mono A0.out.size))
 have BX1:=hJJ (BX0.out.below hb)
 clear hown hrow hb A0 BX0
 go_wp2_with fail
 go_loopw [14] (fun i wr=>∃ q:Nat,q≤La.length∧i=.int .i64 q∧(∀ j,j < q→Lb.any (pairR T (La.getD j 0))=false)∧Below u1.heap.size u1 wr) (fun i _=>La.length - (intOf i).toNat)
 case atStart=>exact ⟨0,by omega,rfl,(fun j h=>by omega),Below.refl _ _⟩
 case round =>
  obtain ⟨q,hq,rfl,hall,hB⟩:=hrel
  have HA:=hJJ hall
  have HB:=hJJ hB
  have BW:Hid (Below w.heap.size w wr):=hJJ (B0.out.trans (hB.mono B0.out.size))
  have BX2:=hJJ (BX1.out.below hB)
  have HROWA:=hJJ (HROW.out.below hB)
  clear hall hB
  by_cases hlt:q < La.length
  ·obtain ⟨y,rfl,hcells⟩:=HROWA.out.cells hlt
   have cq:=hcells q hlt
   have hmem:=getD_mem hlt
   have hbd:=BDA.out _ hmem
   generalize hz:La.getD q 0=z at *
   have HZ:=hJJ hz
   have HM:=hJJ hmem
   clear hcells hz hmem
   obtain ⟨p,rfl⟩:=Int.eq_ofNat_of_zero_le hbd.1
   have hp8:((p:Nat):Int) < 8:=hbd.2
   go_wp2_with fail
   refine (RB.out _).mono ?_
   rintro e u2 ⟨v,rfl,hown,hb⟩
   obtain ⟨ab,bcap,rfl,hrow⟩:=row_of hown
   have HROWB:=hJJ hrow
   have HB2:=hJJ (HB.out.trans (hb.mono HB.out.size))
   have BW2:Hid (Below w.heap.size w u2):=hJJ (BW.out.trans (hb.mono BW.out.size))
   have BX:=hJJ (BX2.out.below hb)
   clear hown hrow hb cq BX2 BW HB
   go_wp2_with fail
   go_loopw [21] (fun i wk=>∃ r:Nat,r≤Lb.length∧i=.int .i64 r∧(∀ j,j < r→pairR T p (Lb.getD j 0)=false)∧wk=u2) (fun i _=>Lb.length - (intOf i).toNat)
   case atStart=>exact ⟨0,by omega,rfl,(fun j h=>by omega),rfl⟩
   case round =>
    obtain ⟨r,hr,rfl,hall2,rfl⟩:=hrel
    rename World=>wk
    have HA2:=hJJ hall2
    clear hall2
    by_cases hlt2:r < Lb.length
    ·obtain ⟨y2,rfl,hcells⟩:=HROWB.out.cells hlt2
     have cr:=hcells r hlt2
     have hmem:=getD_mem hlt2
     have hbd2:=BDB.out _ hmem
     generalize hz:Lb.getD r 0=z2 at *
     have HZ2:=hJJ hz
     have HM2:=hJJ hmem
     clear hcells hz hmem
     obtain ⟨j,rfl⟩:=Int.eq_ofNat_of_zero_le hbd2.1
     have hj8:((j:Nat):Int) < 8:=hbd2.2
     have cp:=BX.out.cf p (by omega) (by omega)
     have cj:=BX.out.cf j (by omega) (by omega)
     rw [Int.toNat_natCast] at cp cj
     have FQ:=hJJ (FR.out p j)
     have NEXT:Hid (pairR T p j=false→∀ i,i < r+1→pairR T p (Lb.getD i 0)=false):=hJJ (fun e i hi=>by
      by_cases h1:i=r
      ·subst h1;rw [HZ2.out];exact e
      ·exact HA2.out i (by omega))
     have STOP:Hid (pairR T p j=true→true=x):=hJJ (fun e=>by
      rw [HX.out];symm;rw [List.any_eq_true];exact ⟨_,HM.out,List.any_eq_true.2 ⟨_,HM2.out,e⟩⟩)
     obtain ⟨ha,hha⟩:∃ z,SetM.has (cfAt T p) j=z:=⟨_,rfl⟩
     obtain ⟨hb,hhb⟩:∃ z,SetM.has (cfAt T j) p=z:=⟨_,rfl⟩
     rw [hha,hhb] at FQ
     have HHA:=hJJ hha
     have HHB:=hJJ hhb
     clear hha hhb
     go_wp2_with fail
     refine (rhas_any _ _ _).mono ?_
     rintro e w' ⟨rfl,rfl⟩
     rw [HHA.out]
     cases ha with
     | true =>
      have SX:=hJJ (STOP.out (by rw [FQ.out];rfl))
      go_wp2
      go_ret
      exact ⟨ret_bool SX.out,BW2.out⟩
     | false =>
      go_wp2_with fail
      refine (rhas_any _ _ _).mono ?_
      rintro e w' ⟨rfl,rfl⟩
      rw [HHB.out]
      cases hb with
      | true =>
       have SX:=hJJ (STOP.out (by rw [FQ.out];rfl))
       go_wp2
       go_ret
       exact ⟨ret_bool SX.out,BW2.out⟩
      | false =>
       have NX:=hJJ (NEXT.out (by rw [FQ.out];rfl))
       go_wp2
       go_roundw
       case rel=>exact ⟨r+1,by omega,by go_num,NX.out,trivial⟩
       case measure=>simp [intOf];omega
    ·have NX:Hid (∀ i,i < q+1→Lb.any (pairR T (La.getD i 0))=false):=hJJ (fun i hi=>by
      by_cases h1:i=q
      ·subst h1;rw [HZ.out];exact any_no (fun j hj=>HA2.out j (by omega))
      ·exact HA.out i (by omega))
     go_wp2
     go_roundw
     case rel=>exact ⟨q+1,by omega,by go_num,NX.out,HB2.out⟩
     case measure=>simp [intOf];omega
  ·have SX:Hid (false=x):=hJJ (by
    rw [HX.out,any_no (f:=fun p=>Lb.any (pairR T p)) (fun j hj=>HA.out j (by omega))])
   go_wp2
   go_ret
   exact ⟨ret_bool SX.out,BW.out⟩
theorem pairs_yes {T:Tab} {L:List Int} (h:∀ i,i < L.length→∀ k,k < i→beside T (L.getD i 0) (L.getD k 0)=true):pairs T L=true:=by
 unfold pairs
 rw [List.all_eq_true]
 intro i hi
 rw [List.all_eq_true]
 intro k hk
 exact h i (List.mem_range.1 hi) k (List.mem_range.1 hk)
theorem pairs_no {T:Tab} {L:List Int} {i k:Nat} (hi:i < L.length) (hk:k < i) (h:beside T (L.getD i 0) (L.getD k 0)=false):pairs T L=false:=by
 unfold pairs
 rw [List.all_eq_false]
 refine ⟨i,List.mem_range.2 hi,?_⟩
 rw [Bool.not_eq_true,List.all_eq_false]
 exact ⟨k,List.mem_range.2 hk,by simp only [h];simp⟩
theorem exit_any (T:Tab) (h:Hd) (s:Int) (w:World) (ht:IsTab w h T) (sm:Few T) :
  Calls Tryz.prog 93 #[.agg (T.cells h).toArray,.int .i64 s] w fun e w'=>e=.returned (.bool (exitR T s))∧Below w.heap.size w w':=by
 have hsz:=(cells_ok ht).size
 have IA:Hid ((Tryz.prog.info? 32).map (·.size)=some (T.cells h).length):=hJJ (by rw [List.size_toArray] at hsz;rw [hsz];exact infoT)
 have BS:Hid (∀ (p q:Int) W,Below w.heap.size w W→Calls Tryz.prog 42 #[.agg (T.cells h).toArray,.int .i64 p,.int .i64 q] W fun e w'=>e=.returned (.bool (beside T p q))∧Below W.heap.size W w'):=hJJ (fun p q W hb=>Where.beside_any T h p q W (ht.below hb) sm)
 have LT0:=hJJ (Row.lies_new w (T.cells h).toArray 32)
 have A0:Hid (Below w.heap.size w (w.alloc (.cells (T.cells h).toArray 32))):=hJJ ((Below.refl _ _).alloc (Nat.le_refl _) _)
 obtain ⟨x,hx⟩:∃ x,x=exitR T s:=⟨_,rfl⟩
 rw [← hx]
 have HX:Hid (x=(pairs T (SetM.list s) && decide (0 < (SetM.list s).length))):=hJJ hx
 have PY:=hJJ (fun (h:∀ i,i < (SetM.list s).length→∀ k,k < i→beside T ((SetM.list s).getD i 0) ((SetM.list s).getD k 0)=true)=>pairs_yes h)
 have PN:=hJJ (fun (i k:Nat) (hi:i < (SetM.list s).length) (hk:k < i) (h:beside T ((SetM.list s).getD i 0) ((SetM.list s).getD k 0)=false)=>pairs_no hi hk h)
 have RA:=hJJ (rlist_any s)
 have hla:=SetM.list_len s
 generalize SetM.list s=L at *
 clear ht hx
 generalize T.cells h=c at *
 go_enter Tryz.func93,Tryz.ntmps93
 go_upto_region 1 with fail
 generalize w.alloc (.cells c.toArray 32)=u at A0 LT0 ⊢
 clear hsz
 go_wp2_with fail
 refine (RA.out _).mono ?_
 rintro e u1 ⟨v,rfl,hown,hb⟩
 obtain ⟨aa,acap,rfl,hrow⟩:=row_of hown
 have HROW:=hJJ hrow
 have B0:Hid (Below w.heap.size w u1):=hJJ (A0.out.trans (hb.mono A0.out.size))
 have LT1:=hJJ (LT0.out.below hb)
 clear hown hrow hb A0 LT0
 go_wp2_with fail
 go_loopw [6] (fun i wr=>∃ q:Nat,q≤L.length∧i=.int .i64 q∧(∀ i,i < q→∀ k,k < i→beside T (L.getD i 0) (L.getD k 0)=true)∧Below u1.heap.size u1 wr) (fun i _=>L.length - (intOf i).toNat)
 case atStart=>exact ⟨0,by omega,rfl,(fun j h=>by omega),Below.refl _ _⟩
 case round =>
  obtain ⟨q,hq,rfl,hall,hB⟩:=hrel
  have HA:=hJJ hall
  have HB:=hJJ hB
  clear hall hB
  by_cases hlt:q < L.length
  ·go_wp2_with fail
   go_loopw [7] (fun i wk=>∃ r:Nat,r≤q∧i=.int .i64 r∧(∀ k,k < r→beside T (L.getD q 0) (L.getD k 0)=true)∧Below wr.heap.size wr wk) (fun i _=>q - (intOf i).toNat)
   case atStart=>exact ⟨0,by omega,rfl,(fun j h=>by omega),Below.refl _ _⟩
   case round =>
    obtain ⟨r,hr,rfl,hall2,hB2⟩:=hrel
    rename World=>wk
    have HA2:=hJJ hall2
    have HB2:=hJJ hB2
    have HBK:=hJJ (HB.out.trans (hB2.mono HB.out.size))
    clear hall2 hB2
    by_cases hlt2:r < q
    ·have BW:Hid (Below w.heap.size w wk):=hJJ (B0.out.trans (HBK.out.mono B0.out.size))
     have LT:=hJJ (LT1.out.below HBK.out)
     obtain ⟨y,rfl,hcells⟩:=(HROW.out.below HBK.out).cells hlt
     have cq:=hcells q hlt
     have cr:=hcells r (by omega)
     have PNQ:=hJJ (PN.out q r hlt hlt2)
     obtain ⟨bs,hbs⟩:∃ z,beside T (L.getD q 0) (L.getD r 0)=z:=⟨_,rfl⟩
     have HBS:=hJJ hbs
     have BSQ:Hid (∀ p:Ph.S (Row.Old wk),Calls Tryz.prog 42 #[.agg c.toArray,.int .i64 (L.getD q 0),.int .i64 (L.getD r 0)] p.world fun e w'=>e=.returned (.bool bs)∧Below p.world.heap.size p.world w'):=hJJ (fun p=>by have:=BS.out (L.getD q 0) (L.getD r 0) p.world (BW.out.trans (p.is.mono BW.out.size));rwa [hbs] at this)
     clear hbs hcells
     generalize L.getD q 0=zq at *
     generalize hzr:L.getD r 0=zr at *
     have HZR:=hJJ hzr
     clear hzr
     have hne:Nonempty (Ph.S (Row.Old wk)):=⟨⟨0,wk,Below.refl _ _⟩⟩
     have CQ:∀ p:Ph.S (Row.Old wk),p.world.cell? (y.add q)=some (.int .i64 zq):=fun p=>(p.is.cell (World.block_lt_of_cell? wk _ cq)).trans cq
     have CR:∀ p:Ph.S (Row.Old wk),p.world.cell? (y.add r)=some (.int .i64 zr):=fun p=>(p.is.cell (World.block_lt_of_cell? wk _ cr)).trans cr
     clear cq cr
     have hqi:((q:Nat):Int) < (L.length:Nat):=by omega
     have hri:((r:Nat):Int) < (L.length:Nat):=by omega
     have hrq:((r:Nat):Int) < (q:Nat):=by omega
     go_upto_region 8 with fail
     refine Pw.region (Row.Old wk) [] hmx (by kernel_rfl) (Row.Old.drew _) ?_
     refine Pw.load rfl (by rfl) 32 _ rfl ⟨w.heap.size,0,none⟩ rfl c _ (fun p=>LT.out.below p.is) Tryz.underlying32 rfl IA.out ?_
     (try dsimp only [Act.put]);(try simp only [zA,zB,zC])
     iterate 8
      (refine Pw.calm rfl (fun K hK=>?_)
       go_simp
       refine hK _ ?_
       clear hK K)
     (refine Pw.calm rfl (fun K hK=>?_)
      go_simp
      refine ⟨_,fun p=>Row.Old.call (BSQ.out p),hK _ ?_⟩
      clear hK K)
     iterate 1
      (refine Pw.calm rfl (fun K hK=>?_)
       go_simp
       refine hK _ ?_
       clear hK K)
     refine Pw.nil ?_
     intro uz hbz
     have EZ:Hid (Below w.heap.size w uz):=hJJ (BW.out.trans (hbz.mono BW.out.size))
     have EK:=hJJ (HB2.out.trans (hbz.mono HB2.out.size))
     clear hbz CQ CR hne
     cases bs with
     | true =>
      have NX:Hid (∀ k,k < r+1→beside T zq (L.getD k 0)=true):=hJJ (fun k hk=>by
       by_cases h1:k=r
       ·subst h1;rw [HZR.out];exact HBS.out
       ·exact HA2.out k (by omega))
      go_wp2
      go_roundw
      case rel=>exact ⟨r+1,by omega,by go_num,NX.out,EK.out⟩
      case measure=>simp [intOf];omega
     | false =>
      have SX:Hid (false=x):=hJJ (by rw [HX.out,PNQ.out HBS.out];rfl)
      go_wp2
      go_ret
      exact ⟨ret_bool SX.out,EZ.out⟩
    ·have NX:Hid (∀ i,i < q+1→∀ k,k < i→beside T (L.getD i 0) (L.getD k 0)=true):=hJJ (fun i hi k hk=>by
      by_cases h1:i=q
      ·subst h1;exact HA2.out k (by omega)
      ·exact HA.out i (by omega) k hk)
     go_wp2
     go_roundw
     case rel=>exact ⟨q+1,by omega,by go_num,NX.out,HBK.out⟩
     case measure=>simp [intOf];omega
  ·have SX:Hid (x=decide (0 < L.length)):=hJJ (by
    rw [HX.out,PY.out (fun i hi k hk=>HA.out i (by omega) k hk)];simp)
   have BW:Hid (Below w.heap.size w wr):=hJJ (B0.out.trans (HB.out.mono B0.out.size))
   go_wp2
   go_ret
   exact ⟨ret_bool (by rw [SX.out]),BW.out⟩
end RkB
namespace RkC
open Go.ChangeShapes Go.WideShapes Go.ChangeAt Go.RowKit
open Tab PlaceM PlanM OnS ChkM ChkA
open ChkB (laid2)
open May (ret_bool infoT infoR)
def timesOk (r:Rl):Bool:=(decide (0 < r.hold) == (r.clear != 0)) && (decide (1≤r.green) && (decide (1≤r.stay) && ((r.most == 0 || decide (r.stay≤r.most)) && decide (r.delay < r.limit))))
end RkC
namespace Early
open Go Go.RowKit
def outB (ops:Array Oper):List Oper→Act→Option Act
 | [],a=>some a
 | o :: l,a =>
  if Region.wanted o (yielded ops a.tmps) then
   (match o.op with
    | .move x=>outB ops l (a.put o.dst (a.eval x))
    | .assign x=>outB ops l (a.put o.dst (a.eval x))
    | .pick c x y=>(match a.eval c with
     | .bool b=>outB ops l (a.put o.dst (if b then a.eval x else a.eval y))
     | _=>none)
    | _=>none)
  else outB ops l (a.put o.dst undef)
theorem out {P:Program} {ops:Array Oper} {Q:Exit→Act→World→Prop} {w:World}:∀ {l:List Oper} {a a':Act},outB ops l a=some a'→Q .normal a' w→wpList P ops Q l a w
 | [],a,a',h,hQ=>by
  obtain rfl:a=a':=Option.some.inj h
  exact hQ
 | o :: l,a,a',h,hQ=>by
  unfold outB at h
  unfold wpList
  split at h
  ·rename_i hw
   rw [if_pos hw]
   refine .inl ?_
   obtain ⟨dst,op,type,pos,after,guard⟩:=o
   unfold Oper.wp
   cases op with
   | move x=>exact out (l:=l) h hQ
   | assign x=>exact out (l:=l) h hQ
   | pick c x y =>
    dsimp only at h
    have hx:∀ b,a.eval c=.bool b→(execOp a.eval { dst,op:=.pick c x y,type,pos,after,guard }).run P w=.ok (.value (if b then a.eval x else a.eval y)) w:=by
     intro b hb
     simp only [execOp,hb]
     cases b <;> rfl
    cases hc:a.eval c with
    | bool b =>
     rw [hc] at h
     rw [hx b hc]
     exact out (l:=l) h hQ
    | _=>rw [hc] at h;cases h
   | _=>cases h
  ·rename_i hw
   rw [if_neg hw]
   exact out (l:=l) h hQ
theorem out_get {P:Program} {ops:Array Oper} {Q:Exit→Act→World→Prop} {w:World} {l:List Oper} {a:Act} (h:(outB ops l a).isSome=true) (hQ:Q .normal ((outB ops l a).getD a) w):wpList P ops Q l a w:=by
 cases e:outB ops l a with
 | none=>rw [e] at h;cases h
 | some a'=>rw [e] at hQ;exact out e hQ
theorem skip {P:Program} {ops:Array Oper} {Q:Exit→Act→World→Prop} {w:World} {o:Oper} {l:List Oper} {a:Act} (h:Region.wanted o (yielded ops a.tmps)=false) (hr:wpList P ops Q l (a.put o.dst undef) w):wpList P ops Q (o :: l) a w:=by
 unfold wpList
 rw [if_neg (by rw [h];simp)]
 exact hr
end Early
namespace RkC
open Zip
open Go.ChangeShapes Go.WideShapes Go.ChangeAt Go.RowKit
open Tab PlaceM PlanM OnS ChkM ChkA
open ChkB (laid2)
open May (ret_bool infoT infoR)
theorem rail_0 (T:Tab) (h:Hd) (r:Rl) (w:World) (ht:IsTab w h T) (sm:Few T) (z0:inR (or4 r) (onS T:Nat)=false) :
  Calls Tryz.prog 52 #[.agg (T.cells h).toArray,.agg r.cells.toArray,.int .i64 (onS T:Nat)] w fun e w'=>e=.returned (.bool (railOk T r))∧Below w.heap.size w w':=by
 have hsz:=(cells_ok ht).size
 have IA:Hid ((Tryz.prog.info? 32).map (·.size)=some (T.cells h).length):=hJJ (by rw [List.size_toArray] at hsz;rw [hsz];exact infoT)
 have AO:Hid (∀ W,Calls Tryz.prog 53 #[.int .i64 (or4 r),.int .i64 (onS T:Nat)] W fun e w'=>e=.returned (.bool (inR (or4 r) (onS T:Nat)))∧W=w'):=hJJ (fun W=>RkA.in_any _ _ W)
 have CL:Hid (∀ s W,Below w.heap.size w W→Calls Tryz.prog 94 #[.agg (T.cells h).toArray,.int .i64 s,.int .i64 s] W fun e w'=>e=.returned (.bool (clashR T s s))∧Below W.heap.size W w'):=hJJ (fun s W hb=>RkB.rclash_any T h s s W (ht.below hb))
 have AB:Hid (∀ s W,Below w.heap.size w W→Calls Tryz.prog 93 #[.agg (T.cells h).toArray,.int .i64 s] W fun e w'=>e=.returned (.bool (exitR T s))∧Below W.heap.size W w'):=hJJ (fun s W hb=>RkB.exit_any T h s W (ht.below hb) sm)
 obtain ⟨x,hx⟩:∃ x,x=railOk T r:=⟨_,rfl⟩
 rw [← hx]
 have HR:Hid (x=((inR (or4 r) (onS T:Nat) && (r.dwell != 0 && (bits .and .i64 r.dwell r.bars == 0 && exitR T r.exit))) && (!clashR T r.clear r.clear && (!clashR T r.dwell r.dwell && (!clashR T r.exit r.exit && timesOk r))))):=hJJ hx
 have LT0:=hJJ (Row.lies_new w (T.cells h).toArray 32)
 have hs1:(w.alloc (.cells (T.cells h).toArray 32)).heap.size=w.heap.size+1:=by simp
 have hone:=Rl.one r
 have hsz2:r.cells.toArray.size=11:=rfl
 have RC:=hJJ (rail_cells r)
 have O4:Hid (bits .or .i64 (bits .or .i64 (bits .or .i64 r.bars r.clear) r.dwell) r.exit=or4 r):=hJJ rfl
 obtain ⟨a1,ha1⟩:∃ z,inR (or4 r) (onS T:Nat)=z:=⟨_,rfl⟩
 obtain ⟨c1,hc1⟩:∃ z,clashR T r.clear r.clear=z:=⟨_,rfl⟩
 obtain ⟨c2,hc2⟩:∃ z,clashR T r.dwell r.dwell=z:=⟨_,rfl⟩
 obtain ⟨c3,hc3⟩:∃ z,clashR T r.exit r.exit=z:=⟨_,rfl⟩
 obtain ⟨b1,hb1⟩:∃ z,exitR T r.exit=z:=⟨_,rfl⟩
 have CL1:=hJJ (CL.out r.clear)
 have CL2:=hJJ (CL.out r.dwell)
 have CL3:=hJJ (CL.out r.exit)
 have AB1:=hJJ (AB.out r.exit)
 rw [ha1] at AO HR
 rw [hc1] at CL1 HR
 rw [hc2] at CL2 HR
 rw [hc3] at CL3 HR
 rw [hb1] at AB1 HR
 have TO:Hid (timesOk r=((decide (0 < r.hold) == (r.clear != 0)) && (decide (1≤r.green) && (decide (1≤r.stay) && ((r.most == 0 || decide (r.stay≤r.most)) && decide (r.delay < r.limit)))))):=hJJ rfl
 rw [show a1=false from ha1.symm.trans z0] at AO HR
 clear hx ht CL AB ha1 hc1 hc2 hc3 hb1
 generalize timesOk r=tk at *
 clear z0
 generalize or4 r=o4 at *
 generalize r.cells=rc at *
 obtain ⟨bars,clear_,dwell,exit,delay,green,foot,hold,stay,most,limit⟩:=r
 dsimp only at *
 generalize T.cells h=c at *
 generalize (((onS T:Nat)):Int)=on at *
 go_enter Tryz.func52,Tryz.ntmps52
 go_upto_region 1 with fail
 obtain ⟨u,hu,E1,E0,EB,b1'⟩:=laid2 w (.cells c.toArray 32) (.cells rc.toArray 47)
 rw [hu]
 have A0:=hJJ E0
 have A1:=hJJ (LT0.out.below (by rw [hs1];exact EB))
 have A2:Hid (u.heap[w.heap.size+1]?=some (.cells rc.toArray 47 (0,0))):=hJJ b1'
 clear hu EB LT0 b1' hs1 hsz hsz2 hone E0 E1
 obtain ⟨q0,q1,q2,q3,q4,q5,q7,q8,q9,q10⟩:=RC.out _ _ A2.out
 go_wp2_with fail
 rw [O4.out]
 refine (AO.out _).mono ?_
 rintro e w' ⟨rfl,rfl⟩
 rename_i Q1 K1 hK1 K2 hK2
 refine hK2 _ _ ?_
 have HX:Hid (false=x):=hJJ (by rw [HR.out];rfl)
 clear HR RC
 refine Early.out_get (by kernel_rfl) ?_
 refine hK1 _ _ ?_
 refine wp_seq (wp_region_lit ?_)
 refine Early.out_get (by kernel_rfl) ?_
 refine wp_ret ?_
 exact bodyPost_ret (v:=.bool false) (by kernel_rfl) (by kernel_rfl) ⟨ret_bool HX.out,A0.out⟩
end RkC
namespace RkC
open Zip
open Go.ChangeShapes Go.WideShapes Go.ChangeAt Go.RowKit
open Tab PlaceM PlanM OnS ChkM ChkA
open ChkB (laid2)
open May (ret_bool infoT infoR)
theorem rail_1 (T:Tab) (h:Hd) (r:Rl) (w:World) (ht:IsTab w h T) (sm:Few T) (z0:inR (or4 r) (onS T:Nat)=true) (z1:r.dwell=0) :
  Calls Tryz.prog 52 #[.agg (T.cells h).toArray,.agg r.cells.toArray,.int .i64 (onS T:Nat)] w fun e w'=>e=.returned (.bool (railOk T r))∧Below w.heap.size w w':=by
 have hsz:=(cells_ok ht).size
 have IA:Hid ((Tryz.prog.info? 32).map (·.size)=some (T.cells h).length):=hJJ (by rw [List.size_toArray] at hsz;rw [hsz];exact infoT)
 have AO:Hid (∀ W,Calls Tryz.prog 53 #[.int .i64 (or4 r),.int .i64 (onS T:Nat)] W fun e w'=>e=.returned (.bool (inR (or4 r) (onS T:Nat)))∧W=w'):=hJJ (fun W=>RkA.in_any _ _ W)
 have CL:Hid (∀ s W,Below w.heap.size w W→Calls Tryz.prog 94 #[.agg (T.cells h).toArray,.int .i64 s,.int .i64 s] W fun e w'=>e=.returned (.bool (clashR T s s))∧Below W.heap.size W w'):=hJJ (fun s W hb=>RkB.rclash_any T h s s W (ht.below hb))
 have AB:Hid (∀ s W,Below w.heap.size w W→Calls Tryz.prog 93 #[.agg (T.cells h).toArray,.int .i64 s] W fun e w'=>e=.returned (.bool (exitR T s))∧Below W.heap.size W w'):=hJJ (fun s W hb=>RkB.exit_any T h s W (ht.below hb) sm)
 obtain ⟨x,hx⟩:∃ x,x=railOk T r:=⟨_,rfl⟩
 rw [← hx]
 have HR:Hid (x=((inR (or4 r) (onS T:Nat) && (r.dwell != 0 && (bits .and .i64 r.dwell r.bars == 0 && exitR T r.exit))) && (!clashR T r.clear r.clear && (!clashR T r.dwell r.dwell && (!clashR T r.exit r.exit && timesOk r))))):=hJJ hx
 have LT0:=hJJ (Row.lies_new w (T.cells h).toArray 32)
 have hs1:(w.alloc (.cells (T.cells h).toArray 32)).heap.size=w.heap.size+1:=by simp
 have hone:=Rl.one r
 have hsz2:r.cells.toArray.size=11:=rfl
 have RC:=hJJ (rail_cells r)
 have O4:Hid (bits .or .i64 (bits .or .i64 (bits .or .i64 r.bars r.clear) r.dwell) r.exit=or4 r):=hJJ rfl
 obtain ⟨a1,ha1⟩:∃ z,inR (or4 r) (onS T:Nat)=z:=⟨_,rfl⟩
 obtain ⟨c1,hc1⟩:∃ z,clashR T r.clear r.clear=z:=⟨_,rfl⟩
 obtain ⟨c2,hc2⟩:∃ z,clashR T r.dwell r.dwell=z:=⟨_,rfl⟩
 obtain ⟨c3,hc3⟩:∃ z,clashR T r.exit r.exit=z:=⟨_,rfl⟩
 obtain ⟨b1,hb1⟩:∃ z,exitR T r.exit=z:=⟨_,rfl⟩
 have CL1:=hJJ (CL.out r.clear)
 have CL2:=hJJ (CL.out r.dwell)
 have CL3:=hJJ (CL.out r.exit)
 have AB1:=hJJ (AB.out r.exit)
 rw [ha1] at AO HR
 rw [hc1] at CL1 HR
 rw [hc2] at CL2 HR
 rw [hc3] at CL3 HR
 rw [hb1] at AB1 HR
 have TO:Hid (timesOk r=((decide (0 < r.hold) == (r.clear != 0)) && (decide (1≤r.green) && (decide (1≤r.stay) && ((r.most == 0 || decide (r.stay≤r.most)) && decide (r.delay < r.limit)))))):=hJJ rfl
 rw [show a1=true from ha1.symm.trans z0] at AO HR
 clear hx ht CL AB ha1 hc1 hc2 hc3 hb1
 generalize timesOk r=tk at *
 clear z0
 generalize or4 r=o4 at *
 generalize r.cells=rc at *
 obtain ⟨bars,clear_,dwell,exit,delay,green,foot,hold,stay,most,limit⟩:=r
 dsimp only at *
 generalize T.cells h=c at *
 generalize (((onS T:Nat)):Int)=on at *
 go_enter Tryz.func52,Tryz.ntmps52
 go_upto_region 1 with fail
 obtain ⟨u,hu,E1,E0,EB,b1'⟩:=laid2 w (.cells c.toArray 32) (.cells rc.toArray 47)
 rw [hu]
 have A0:=hJJ E0
 have A1:=hJJ (LT0.out.below (by rw [hs1];exact EB))
 have A2:Hid (u.heap[w.heap.size+1]?=some (.cells rc.toArray 47 (0,0))):=hJJ b1'
 clear hu EB LT0 b1' hs1 hsz hsz2 hone E0 E1
 have H1:=hJJ z1
 clear z1
 have zb:(dwell != 0)=false:=by rw [H1.out];rfl
 obtain ⟨q0,q1,q2,q3,q4,q5,q7,q8,q9,q10⟩:=RC.out _ _ A2.out
 go_wp2_with fail
 rw [O4.out]
 refine (AO.out _).mono ?_
 rintro e w' ⟨rfl,rfl⟩
 rename_i Q1 K1 hK1 K2 hK2
 refine hK2 _ _ ?_
 refine wpList_plain rfl (fun K hK=>?_)
 go_simp
 refine hK _ _ ?_
 clear hK K
 (try dsimp only [Act.put]);(try simp only [zA,zB,zC])
 refine BigFrame.wpList_want (by rfl) (fun K hK=>?_)
 go_simp
 refine hK _ _ ?_
 clear hK K
 (try dsimp only [Act.put]);(try simp only [zA,zB,zC])
 refine BigFrame.wpList_want (by rfl) (fun K hK=>?_)
 go_simp
 refine hK _ _ ?_
 clear hK K
 (try dsimp only [Act.put]);(try simp only [zA,zB,zC])
 refine BigFrame.wpList_want (by rfl) (fun K hK=>?_)
 go_simp
 refine hK _ _ ?_
 clear hK K
 (try dsimp only [Act.put]);(try simp only [zA,zB,zC])
 have HX:Hid (false=x):=hJJ (by rw [HR.out];simp [H1.out])
 clear HR RC
 refine Early.out_get (by kernel_rfl) ?_
 refine hK1 _ _ ?_
 refine wp_seq (wp_region_lit ?_)
 refine Early.out_get (by kernel_rfl) ?_
 refine wp_ret ?_
 exact bodyPost_ret (v:=.bool false) (by kernel_rfl) (by kernel_rfl) ⟨ret_bool HX.out,A0.out⟩
end RkC
end Go.Proofs.YtjolhoilcibdfaaGreat
