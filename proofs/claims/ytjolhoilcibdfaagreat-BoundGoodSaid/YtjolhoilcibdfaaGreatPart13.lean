/- 8 texts in one file, in build order. -/
import Derived.Test.YtjolhoilcibdfaaGreatPart01
import Derived.Test.YtjolhoilcibdfaaGreatRows
import Derived.Test.YtjolhoilcibdfaaGreatPart12
import Derived.Test.YtjolhoilcibdfaaGreatPart10
import Derived.Test.YtjolhoilcibdfaaGreatPart02
set_option linter.unusedVariables false
set_option linter.unusedSimpArgs false
set_option linter.unusedSectionVars false
set_option maxHeartbeats 8000000
set_option maxRecDepth 100000
namespace Go.Proofs.YtjolhoilcibdfaaGreat
namespace RkC
open Zip
open Go.ChangeShapes Go.WideShapes Go.ChangeAt Go.RowKit
open Tab PlaceM PlanM OnS ChkM ChkA
open ChkB (laid2)
open May (ret_bool infoT infoR)
theorem rail_2 (T:Tab) (h:Hd) (r:Rl) (w:World) (ht:IsTab w h T) (sm:Few T) (z0:inR (or4 r) (onS T:Nat)=true) (z1:r.dwell ≠ 0) (z2:bits .and .i64 r.dwell r.bars ≠ 0) :
  Calls Tryz.prog 52 #[.agg (T.cells h).toArray,.agg r.cells.toArray,.int .i64 (onS T:Nat)] w fun e w'=>e=.returned (.bool (railOk T r))∧Below w.heap.size w w':=by
 have hsz:=(cells_ok ht).size
 have IA:Hid ((Tryz.prog.info? 32).map (·.size)=some (T.cells h).length):=hJJ (by rw [List.size_toArray] at hsz;rw [hsz];exact infoT)
 have AO:Hid (∀ W,Calls Tryz.prog 53 #[.int .i64 (or4 r),.int .i64 (onS T:Nat)] W fun e w'=>e=.returned (.bool (inR (or4 r) (onS T:Nat)))∧W=w'):=hJJ (fun W=>RkA.in_any _ _ W)
 have CL:Hid (∀ s W,Below w.heap.size w W→Calls Tryz.prog 94 #[.agg (T.cells h).toArray,.int .i64 s,.int .i64 s] W fun e w'=>e=.returned (.bool (clashR T s s))∧Below W.heap.size W w'):=hJJ (fun s W hb=>RkB.rclash_any T h s s W (ht.below hb))
 have AB:Hid (∀ s W,Below w.heap.size w W→Calls Tryz.prog 93 #[.agg (T.cells h).toArray,.int .i64 s] W fun e w'=>e=.returned (.bool (exitR T s))∧Below W.heap.size W w'):=hJJ (fun s W hb=>RkB.exit_any T h s W (ht.below hb) sm)
 obtain ⟨x,hx⟩:∃ x,x=railOk T r:=⟨_,rfl⟩
 rw [← hx]
 have HR:Hid (x=((inR (or4 r) (onS T:Nat) && (r.dwell != 0 && (bits .and .i64 r.dwell r.bars == 0 && exitR T r.exit))) && (!clashR T r.clear r.clear && (!clashR T r.dwell r.dwell && (!clashR T r.exit r.exit && timesOk r))))):=hJJ hx
 have LT0:=hJJ (Row.lies_new w (T.cells h).toArray 32)
 have hs1:(w.alloc (.cells (T.cells h).toArray 32)).heap.size=w.heap.size+1:=by simp
 have hone:=Rl.one r
 have hsz2:r.cells.toArray.size=11:=rfl
 have RC:=hJJ (rail_cells r)
 have O4:Hid (bits .or .i64 (bits .or .i64 (bits .or .i64 r.bars r.clear) r.dwell) r.exit=or4 r):=hJJ rfl
 obtain ⟨a1,ha1⟩:∃ z,inR (or4 r) (onS T:Nat)=z:=⟨_,rfl⟩
 obtain ⟨c1,hc1⟩:∃ z,clashR T r.clear r.clear=z:=⟨_,rfl⟩
 obtain ⟨c2,hc2⟩:∃ z,clashR T r.dwell r.dwell=z:=⟨_,rfl⟩
 obtain ⟨c3,hc3⟩:∃ z,clashR T r.exit r.exit=z:=⟨_,rfl⟩
 obtain ⟨b1,hb1⟩:∃ z,exitR T r.exit=z:=⟨_,rfl⟩
 have CL1:=hJJ (CL.out r.clear)
 have CL2:=hJJ (CL.out r.dwell)
 have CL3:=hJJ (CL.out r.exit)
 have AB1:=hJJ (AB.out r.exit)
 rw [ha1] at AO HR
 rw [hc1] at CL1 HR
 rw [hc2] at CL2 HR
 rw [hc3] at CL3 HR
 rw [hb1] at AB1 HR
 have TO:Hid (timesOk r=((decide (0 < r.hold) == (r.clear != 0)) && (decide (1≤r.green) && (decide (1≤r.stay) && ((r.most == 0 || decide (r.stay≤r.most)) && decide (r.delay < r.limit)))))):=hJJ rfl
 rw [show a1=true from ha1.symm.trans z0] at AO HR
 clear hx ht CL AB ha1 hc1 hc2 hc3 hb1
 generalize timesOk r=tk at *
 clear z0
 generalize or4 r=o4 at *
 generalize r.cells=rc at *
 obtain ⟨bars,clear_,dwell,exit,delay,green,foot,hold,stay,most,limit⟩:=r
 dsimp only at *
 generalize T.cells h=c at *
 generalize (((onS T:Nat)):Int)=on at *
 go_enter Tryz.func52,Tryz.ntmps52
 go_upto_region 1 with fail
 obtain ⟨u,hu,E1,E0,EB,b1'⟩:=laid2 w (.cells c.toArray 32) (.cells rc.toArray 47)
 rw [hu]
 have A0:=hJJ E0
 have A1:=hJJ (LT0.out.below (by rw [hs1];exact EB))
 have A2:Hid (u.heap[w.heap.size+1]?=some (.cells rc.toArray 47 (0,0))):=hJJ b1'
 clear hu EB LT0 b1' hs1 hsz hsz2 hone E0 E1
 have H1:=hJJ z1
 clear z1
 have H3:=hJJ z2
 clear z2
 have zb:(dwell != 0)=true:=bne_iff_ne.2 H1.out
 obtain ⟨q0,q1,q2,q3,q4,q5,q7,q8,q9,q10⟩:=RC.out _ _ A2.out
 go_wp2_with fail
 rw [O4.out]
 refine (AO.out _).mono ?_
 rintro e w' ⟨rfl,rfl⟩
 have zc:(bits .and .i64 dwell bars == 0)=false:=beq_eq_false_iff_ne.2 H3.out
 rename_i Q1 K1 hK1 K2 hK2
 refine hK2 _ _ ?_
 refine wpList_plain rfl (fun K hK=>?_)
 go_simp
 refine hK _ _ ?_
 clear hK K
 (try dsimp only [Act.put]);(try simp only [zA,zB,zC])
 refine BigFrame.wpList_want (by rfl) (fun K hK=>?_)
 go_simp
 refine hK _ _ ?_
 clear hK K
 (try dsimp only [Act.put]);(try simp only [zA,zB,zC])
 refine BigFrame.wpList_want (by rfl) (fun K hK=>?_)
 go_simp
 refine hK _ _ ?_
 clear hK K
 (try dsimp only [Act.put]);(try simp only [zA,zB,zC])
 refine BigFrame.wpList_want (by rfl) (fun K hK=>?_)
 go_simp
 refine hK _ _ ?_
 clear hK K
 (try dsimp only [Act.put]);(try simp only [zA,zB,zC])
 refine wpList_plain rfl (fun K hK=>?_)
 go_simp
 refine hK _ _ ?_
 clear hK K
 (try dsimp only [Act.put]);(try simp only [zA,zB,zC])
 refine wpList_plain rfl (fun K hK=>?_)
 go_simp
 refine hK _ _ ?_
 clear hK K
 (try dsimp only [Act.put]);(try simp only [zA,zB,zC])
 refine BigFrame.wpList_want (by rfl) (fun K hK=>?_)
 go_simp
 refine hK _ _ ?_
 clear hK K
 (try dsimp only [Act.put]);(try simp only [zA,zB,zC])
 refine BigFrame.wpList_want (by rfl) (fun K hK=>?_)
 go_simp
 refine hK _ _ ?_
 clear hK K
 (try dsimp only [Act.put]);(try simp only [zA,zB,zC])
 refine BigFrame.wpList_want (by rfl) (fun K hK=>?_)
 go_simp
 refine hK _ _ ?_
 clear hK K
 (try dsimp only [Act.put]);(try simp only [zA,zB,zC])
 refine BigFrame.wpList_want (by rfl) (fun K hK=>?_)
 go_simp
 refine hK _ _ ?_
 clear hK K
 (try dsimp only [Act.put]);(try simp only [zA,zB,zC])
 refine BigFrame.wpList_want (by rfl) (fun K hK=>?_)
 go_simp
 refine hK _ _ ?_
 clear hK K
 (try dsimp only [Act.put]);(try simp only [zA,zB,zC])
 refine BigFrame.wpList_want (by rfl) (fun K hK=>?_)
 go_simp
 refine hK _ _ ?_
 clear hK K
 (try dsimp only [Act.put]);(try simp only [zA,zB,zC])
 have HX:Hid (false=x):=hJJ (by rw [HR.out];simp [H3.out])
 clear HR RC
 refine Early.out_get (by kernel_rfl) ?_
 refine hK1 _ _ ?_
 refine wp_seq (wp_region_lit ?_)
 refine Early.out_get (by kernel_rfl) ?_
 refine wp_ret ?_
 exact bodyPost_ret (v:=.bool false) (by kernel_rfl) (by kernel_rfl) ⟨ret_bool HX.out,A0.out⟩
end RkC
namespace RkC
open Zip
open Go.ChangeShapes Go.WideShapes Go.ChangeAt Go.RowKit
open Tab PlaceM PlanM OnS ChkM ChkA
open ChkB (laid2)
open May (ret_bool infoT infoR)
theorem rail_3 (T:Tab) (h:Hd) (r:Rl) (w:World) (ht:IsTab w h T) (sm:Few T) (z0:inR (or4 r) (onS T:Nat)=true) (z1:r.dwell ≠ 0) (z2:bits .and .i64 r.dwell r.bars=0) (z3:exitR T r.exit=false) :
  Calls Tryz.prog 52 #[.agg (T.cells h).toArray,.agg r.cells.toArray,.int .i64 (onS T:Nat)] w fun e w'=>e=.returned (.bool (railOk T r))∧Below w.heap.size w w':=by
 have hsz:=(cells_ok ht).size
 have IA:Hid ((Tryz.prog.info? 32).map (·.size)=some (T.cells h).length):=hJJ (by rw [List.size_toArray] at hsz;rw [hsz];exact infoT)
 have AO:Hid (∀ W,Calls Tryz.prog 53 #[.int .i64 (or4 r),.int .i64 (onS T:Nat)] W fun e w'=>e=.returned (.bool (inR (or4 r) (onS T:Nat)))∧W=w'):=hJJ (fun W=>RkA.in_any _ _ W)
 have CL:Hid (∀ s W,Below w.heap.size w W→Calls Tryz.prog 94 #[.agg (T.cells h).toArray,.int .i64 s,.int .i64 s] W fun e w'=>e=.returned (.bool (clashR T s s))∧Below W.heap.size W w'):=hJJ (fun s W hb=>RkB.rclash_any T h s s W (ht.below hb))
 have AB:Hid (∀ s W,Below w.heap.size w W→Calls Tryz.prog 93 #[.agg (T.cells h).toArray,.int .i64 s] W fun e w'=>e=.returned (.bool (exitR T s))∧Below W.heap.size W w'):=hJJ (fun s W hb=>RkB.exit_any T h s W (ht.below hb) sm)
 obtain ⟨x,hx⟩:∃ x,x=railOk T r:=⟨_,rfl⟩
 rw [← hx]
 have HR:Hid (x=((inR (or4 r) (onS T:Nat) && (r.dwell != 0 && (bits .and .i64 r.dwell r.bars == 0 && exitR T r.exit))) && (!clashR T r.clear r.clear && (!clashR T r.dwell r.dwell && (!clashR T r.exit r.exit && timesOk r))))):=hJJ hx
 have LT0:=hJJ (Row.lies_new w (T.cells h).toArray 32)
 have hs1:(w.alloc (.cells (T.cells h).toArray 32)).heap.size=w.heap.size+1:=by simp
 have hone:=Rl.one r
 have hsz2:r.cells.toArray.size=11:=rfl
 have RC:=hJJ (rail_cells r)
 have O4:Hid (bits .or .i64 (bits .or .i64 (bits .or .i64 r.bars r.clear) r.dwell) r.exit=or4 r):=hJJ rfl
 obtain ⟨a1,ha1⟩:∃ z,inR (or4 r) (onS T:Nat)=z:=⟨_,rfl⟩
 obtain ⟨c1,hc1⟩:∃ z,clashR T r.clear r.clear=z:=⟨_,rfl⟩
 obtain ⟨c2,hc2⟩:∃ z,clashR T r.dwell r.dwell=z:=⟨_,rfl⟩
 obtain ⟨c3,hc3⟩:∃ z,clashR T r.exit r.exit=z:=⟨_,rfl⟩
 obtain ⟨b1,hb1⟩:∃ z,exitR T r.exit=z:=⟨_,rfl⟩
 have CL1:=hJJ (CL.out r.clear)
 have CL2:=hJJ (CL.out r.dwell)
 have CL3:=hJJ (CL.out r.exit)
 have AB1:=hJJ (AB.out r.exit)
 rw [ha1] at AO HR
 rw [hc1] at CL1 HR
 rw [hc2] at CL2 HR
 rw [hc3] at CL3 HR
 rw [hb1] at AB1 HR
 have TO:Hid (timesOk r=((decide (0 < r.hold) == (r.clear != 0)) && (decide (1≤r.green) && (decide (1≤r.stay) && ((r.most == 0 || decide (r.stay≤r.most)) && decide (r.delay < r.limit)))))):=hJJ rfl
 rw [show a1=true from ha1.symm.trans z0] at AO HR;rw [show b1=false from hb1.symm.trans z3] at AB1 HR
 clear hx ht CL AB ha1 hc1 hc2 hc3 hb1
 generalize timesOk r=tk at *
 clear z0 z3
 generalize or4 r=o4 at *
 generalize r.cells=rc at *
 obtain ⟨bars,clear_,dwell,exit,delay,green,foot,hold,stay,most,limit⟩:=r
 dsimp only at *
 generalize T.cells h=c at *
 generalize (((onS T:Nat)):Int)=on at *
 go_enter Tryz.func52,Tryz.ntmps52
 go_upto_region 1 with fail
 obtain ⟨u,hu,E1,E0,EB,b1'⟩:=laid2 w (.cells c.toArray 32) (.cells rc.toArray 47)
 rw [hu]
 have A0:=hJJ E0
 have A1:=hJJ (LT0.out.below (by rw [hs1];exact EB))
 have A2:Hid (u.heap[w.heap.size+1]?=some (.cells rc.toArray 47 (0,0))):=hJJ b1'
 clear hu EB LT0 b1' hs1 hsz hsz2 hone E0 E1
 have H1:=hJJ z1
 clear z1
 have H3:=hJJ z2
 clear z2
 have zb:(dwell != 0)=true:=bne_iff_ne.2 H1.out
 obtain ⟨q0,q1,q2,q3,q4,q5,q7,q8,q9,q10⟩:=RC.out _ _ A2.out
 go_wp2_with fail
 rw [O4.out]
 refine (AO.out _).mono ?_
 rintro e w' ⟨rfl,rfl⟩
 have zc:(bits .and .i64 dwell bars == 0)=true:=beq_iff_eq.2 H3.out
 go_wp2_with (refine lgZ 32 ⟨w.heap.size,0,none⟩ c rfl A1.out Tryz.underlying32 IA.out ?_)
 (try go_wp2_with fail)
 refine (AB1.out _ A0.out).mono ?_
 rintro e u1 ⟨rfl,hb⟩
 replace A0:Hid (Below w.heap.size w u1):=hJJ (A0.out.trans (hb.mono A0.out.size))
 replace A2:Hid (u1.heap[w.heap.size+1]?=some (.cells rc.toArray 47 (0,0))):=hJJ ((hb.block _ (Array.getElem?_eq_some_iff.1 A2.out).1).trans A2.out)
 replace A1:=hJJ (A1.out.below hb)
 clear q0 q1 q2 q3 q4 q5 q7 q8 q9 q10
 clear hb
 obtain ⟨q0,q1,q2,q3,q4,q5,q7,q8,q9,q10⟩:=RC.out _ _ A2.out
 rename_i Q1 K1 hK1 K2 hK2
 refine hK2 _ _ ?_
 have HX:Hid (false=x):=hJJ (by rw [HR.out];simp)
 clear HR RC
 refine Early.out_get (by kernel_rfl) ?_
 refine hK1 _ _ ?_
 refine wp_seq (wp_region_lit ?_)
 refine Early.out_get (by kernel_rfl) ?_
 refine wp_ret ?_
 exact bodyPost_ret (v:=.bool false) (by kernel_rfl) (by kernel_rfl) ⟨ret_bool HX.out,A0.out⟩
end RkC
namespace RkC
open Zip
open Go.ChangeShapes Go.WideShapes Go.ChangeAt Go.RowKit
open Tab PlaceM PlanM OnS ChkM ChkA
open ChkB (laid2)
open May (ret_bool infoT infoR)
theorem rail_4 (T:Tab) (h:Hd) (r:Rl) (w:World) (ht:IsTab w h T) (sm:Few T) (z0:inR (or4 r) (onS T:Nat)=true) (z1:r.dwell ≠ 0) (z2:bits .and .i64 r.dwell r.bars=0) (z3:exitR T r.exit=true) (z4:clashR T r.clear r.clear=true) :
  Calls Tryz.prog 52 #[.agg (T.cells h).toArray,.agg r.cells.toArray,.int .i64 (onS T:Nat)] w fun e w'=>e=.returned (.bool (railOk T r))∧Below w.heap.size w w':=by
 have hsz:=(cells_ok ht).size
 have IA:Hid ((Tryz.prog.info? 32).map (·.size)=some (T.cells h).length):=hJJ (by rw [List.size_toArray] at hsz;rw [hsz];exact infoT)
 have AO:Hid (∀ W,Calls Tryz.prog 53 #[.int .i64 (or4 r),.int .i64 (onS T:Nat)] W fun e w'=>e=.returned (.bool (inR (or4 r) (onS T:Nat)))∧W=w'):=hJJ (fun W=>RkA.in_any _ _ W)
 have CL:Hid (∀ s W,Below w.heap.size w W→Calls Tryz.prog 94 #[.agg (T.cells h).toArray,.int .i64 s,.int .i64 s] W fun e w'=>e=.returned (.bool (clashR T s s))∧Below W.heap.size W w'):=hJJ (fun s W hb=>RkB.rclash_any T h s s W (ht.below hb))
 have AB:Hid (∀ s W,Below w.heap.size w W→Calls Tryz.prog 93 #[.agg (T.cells h).toArray,.int .i64 s] W fun e w'=>e=.returned (.bool (exitR T s))∧Below W.heap.size W w'):=hJJ (fun s W hb=>RkB.exit_any T h s W (ht.below hb) sm)
 obtain ⟨x,hx⟩:∃ x,x=railOk T r:=⟨_,rfl⟩
 rw [← hx]
 have HR:Hid (x=((inR (or4 r) (onS T:Nat) && (r.dwell != 0 && (bits .and .i64 r.dwell r.bars == 0 && exitR T r.exit))) && (!clashR T r.clear r.clear && (!clashR T r.dwell r.dwell && (!clashR T r.exit r.exit && timesOk r))))):=hJJ hx
 have LT0:=hJJ (Row.lies_new w (T.cells h).toArray 32)
 have hs1:(w.alloc (.cells (T.cells h).toArray 32)).heap.size=w.heap.size+1:=by simp
 have hone:=Rl.one r
 have hsz2:r.cells.toArray.size=11:=rfl
 have RC:=hJJ (rail_cells r)
 have O4:Hid (bits .or .i64 (bits .or .i64 (bits .or .i64 r.bars r.clear) r.dwell) r.exit=or4 r):=hJJ rfl
 obtain ⟨a1,ha1⟩:∃ z,inR (or4 r) (onS T:Nat)=z:=⟨_,rfl⟩
 obtain ⟨c1,hc1⟩:∃ z,clashR T r.clear r.clear=z:=⟨_,rfl⟩
 obtain ⟨c2,hc2⟩:∃ z,clashR T r.dwell r.dwell=z:=⟨_,rfl⟩
 obtain ⟨c3,hc3⟩:∃ z,clashR T r.exit r.exit=z:=⟨_,rfl⟩
 obtain ⟨b1,hb1⟩:∃ z,exitR T r.exit=z:=⟨_,rfl⟩
 have CL1:=hJJ (CL.out r.clear)
 have CL2:=hJJ (CL.out r.dwell)
 have CL3:=hJJ (CL.out r.exit)
 have AB1:=hJJ (AB.out r.exit)
 rw [ha1] at AO HR
 rw [hc1] at CL1 HR
 rw [hc2] at CL2 HR
 rw [hc3] at CL3 HR
 rw [hb1] at AB1 HR
 have TO:Hid (timesOk r=((decide (0 < r.hold) == (r.clear != 0)) && (decide (1≤r.green) && (decide (1≤r.stay) && ((r.most == 0 || decide (r.stay≤r.most)) && decide (r.delay < r.limit)))))):=hJJ rfl
 rw [show a1=true from ha1.symm.trans z0] at AO HR;rw [show b1=true from hb1.symm.trans z3] at AB1 HR;rw [show c1=true from hc1.symm.trans z4] at CL1 HR
 clear hx ht CL AB ha1 hc1 hc2 hc3 hb1
 generalize timesOk r=tk at *
 clear z0 z3 z4
 generalize or4 r=o4 at *
 generalize r.cells=rc at *
 obtain ⟨bars,clear_,dwell,exit,delay,green,foot,hold,stay,most,limit⟩:=r
 dsimp only at *
 generalize T.cells h=c at *
 generalize (((onS T:Nat)):Int)=on at *
 go_enter Tryz.func52,Tryz.ntmps52
 go_upto_region 1 with fail
 obtain ⟨u,hu,E1,E0,EB,b1'⟩:=laid2 w (.cells c.toArray 32) (.cells rc.toArray 47)
 rw [hu]
 have A0:=hJJ E0
 have A1:=hJJ (LT0.out.below (by rw [hs1];exact EB))
 have A2:Hid (u.heap[w.heap.size+1]?=some (.cells rc.toArray 47 (0,0))):=hJJ b1'
 clear hu EB LT0 b1' hs1 hsz hsz2 hone E0 E1
 have H1:=hJJ z1
 clear z1
 have H3:=hJJ z2
 clear z2
 have zb:(dwell != 0)=true:=bne_iff_ne.2 H1.out
 obtain ⟨q0,q1,q2,q3,q4,q5,q7,q8,q9,q10⟩:=RC.out _ _ A2.out
 go_wp2_with fail
 rw [O4.out]
 refine (AO.out _).mono ?_
 rintro e w' ⟨rfl,rfl⟩
 have zc:(bits .and .i64 dwell bars == 0)=true:=beq_iff_eq.2 H3.out
 go_wp2_with (refine lgZ 32 ⟨w.heap.size,0,none⟩ c rfl A1.out Tryz.underlying32 IA.out ?_)
 (try go_wp2_with fail)
 refine (AB1.out _ A0.out).mono ?_
 rintro e u1 ⟨rfl,hb⟩
 replace A0:Hid (Below w.heap.size w u1):=hJJ (A0.out.trans (hb.mono A0.out.size))
 replace A2:Hid (u1.heap[w.heap.size+1]?=some (.cells rc.toArray 47 (0,0))):=hJJ ((hb.block _ (Array.getElem?_eq_some_iff.1 A2.out).1).trans A2.out)
 replace A1:=hJJ (A1.out.below hb)
 clear q0 q1 q2 q3 q4 q5 q7 q8 q9 q10
 clear hb
 obtain ⟨q0,q1,q2,q3,q4,q5,q7,q8,q9,q10⟩:=RC.out _ _ A2.out
 rename_i Q1 K1 hK1 K2 hK2
 refine hK2 _ _ ?_
 refine wpList_plain rfl (fun K hK=>?_)
 go_simp
 refine hK _ _ ?_
 clear hK K
 (try dsimp only [Act.put]);(try simp only [zA,zB,zC])
 refine wpList_plain rfl (fun K hK=>?_)
 go_simp
 refine hK _ _ ?_
 clear hK K
 (try dsimp only [Act.put]);(try simp only [zA,zB,zC])
 refine hK1 _ _ ?_
 clear hK2 K2 hK1 K1
 refine wp_seq_k (fun K1 hK1=>?_)
 refine wp_region_lit ?_
 refine wpList_plain rfl (fun K hK=>?_)
 go_simp
 refine hK _ _ ?_
 clear hK K
 (try dsimp only [Act.put]);(try simp only [zA,zB,zC])
 refine wpList_plain rfl (fun K hK=>?_)
 go_simp
 refine hK _ _ ?_
 clear hK K
 (try dsimp only [Act.put]);(try simp only [zA,zB,zC])
 refine Row.wpList_load_g 32 _ rfl (by rfl) ⟨w.heap.size,0,none⟩ rfl c _ A1.out Tryz.underlying32 rfl IA.out ?_
 (try dsimp only [Act.put]);(try simp only [zA,zB,zC])
 refine BigFrame.wpList_want (by rfl) (fun K hK=>?_)
 go_simp
 refine hK _ _ ?_
 clear hK K
 (try dsimp only [Act.put]);(try simp only [zA,zB,zC])
 refine BigFrame.wpList_want (by rfl) (fun K hK=>?_)
 go_simp
 refine hK _ _ ?_
 clear hK K
 (try dsimp only [Act.put]);(try simp only [zA,zB,zC])
 refine BigFrame.wpList_want (by rfl) (fun K hK=>?_)
 go_simp
 refine hK _ _ ?_
 clear hK K
 (try dsimp only [Act.put]);(try simp only [zA,zB,zC])
 refine BigFrame.wpList_want (by rfl) (fun K hK=>?_)
 go_simp
 refine hK _ _ ?_
 clear hK K
 (try dsimp only [Act.put]);(try simp only [zA,zB,zC])
 refine BigFrame.wpList_want (by rfl) (fun K2 hK2=>?_)
 go_simp
 refine (CL1.out _ A0.out).mono ?_
 rintro e u2 ⟨rfl,hb⟩
 replace A0:Hid (Below w.heap.size w u2):=hJJ (A0.out.trans (hb.mono A0.out.size))
 replace A2:Hid (u2.heap[w.heap.size+1]?=some (.cells rc.toArray 47 (0,0))):=hJJ ((hb.block _ (Array.getElem?_eq_some_iff.1 A2.out).1).trans A2.out)
 replace A1:=hJJ (A1.out.below hb)
 clear q0 q1 q2 q3 q4 q5 q7 q8 q9 q10
 clear hb
 obtain ⟨q0,q1,q2,q3,q4,q5,q7,q8,q9,q10⟩:=RC.out _ _ A2.out
 refine hK2 _ _ ?_
 clear hK2 K2
 refine BigFrame.wpList_want (by rfl) (fun K hK=>?_)
 go_simp
 refine hK _ _ ?_
 clear hK K
 (try dsimp only [Act.put]);(try simp only [zA,zB,zC])
 have HX:Hid (false=x):=hJJ (by rw [HR.out];simp)
 clear HR RC
 refine Early.out_get (by kernel_rfl) ?_
 refine hK1 _ _ ?_
 refine wp_ret ?_
 exact bodyPost_ret (v:=.bool false) (by kernel_rfl) (by kernel_rfl) ⟨ret_bool HX.out,A0.out⟩
end RkC
namespace RkC
open Zip
open Go.ChangeShapes Go.WideShapes Go.ChangeAt Go.RowKit
open Tab PlaceM PlanM OnS ChkM ChkA
open ChkB (laid2)
open May (ret_bool infoT infoR)
theorem rail_5 (T:Tab) (h:Hd) (r:Rl) (w:World) (ht:IsTab w h T) (sm:Few T) (z0:inR (or4 r) (onS T:Nat)=true) (z1:r.dwell ≠ 0) (z2:bits .and .i64 r.dwell r.bars=0) (z3:exitR T r.exit=true) (z4:clashR T r.clear r.clear=false) (z5:clashR T r.dwell r.dwell=true) :
  Calls Tryz.prog 52 #[.agg (T.cells h).toArray,.agg r.cells.toArray,.int .i64 (onS T:Nat)] w fun e w'=>e=.returned (.bool (railOk T r))∧Below w.heap.size w w':=by
 have hsz:=(cells_ok ht).size
 have IA:Hid ((Tryz.prog.info? 32).map (·.size)=some (T.cells h).length):=hJJ (by rw [List.size_toArray] at hsz;rw [hsz];exact infoT)
 have AO:Hid (∀ W,Calls Tryz.prog 53 #[.int .i64 (or4 r),.int .i64 (onS T:Nat)] W fun e w'=>e=.returned (.bool (inR (or4 r) (onS T:Nat)))∧W=w'):=hJJ (fun W=>RkA.in_any _ _ W)
 have CL:Hid (∀ s W,Below w.heap.size w W→Calls Tryz.prog 94 #[.agg (T.cells h).toArray,.int .i64 s,.int .i64 s] W fun e w'=>e=.returned (.bool (clashR T s s))∧Below W.heap.size W w'):=hJJ (fun s W hb=>RkB.rclash_any T h s s W (ht.below hb))
 have AB:Hid (∀ s W,Below w.heap.size w W→Calls Tryz.prog 93 #[.agg (T.cells h).toArray,.int .i64 s] W fun e w'=>e=.returned (.bool (exitR T s))∧Below W.heap.size W w'):=hJJ (fun s W hb=>RkB.exit_any T h s W (ht.below hb) sm)
 obtain ⟨x,hx⟩:∃ x,x=railOk T r:=⟨_,rfl⟩
 rw [← hx]
 have HR:Hid (x=((inR (or4 r) (onS T:Nat) && (r.dwell != 0 && (bits .and .i64 r.dwell r.bars == 0 && exitR T r.exit))) && (!clashR T r.clear r.clear && (!clashR T r.dwell r.dwell && (!clashR T r.exit r.exit && timesOk r))))):=hJJ hx
 have LT0:=hJJ (Row.lies_new w (T.cells h).toArray 32)
 have hs1:(w.alloc (.cells (T.cells h).toArray 32)).heap.size=w.heap.size+1:=by simp
 have hone:=Rl.one r
 have hsz2:r.cells.toArray.size=11:=rfl
 have RC:=hJJ (rail_cells r)
 have O4:Hid (bits .or .i64 (bits .or .i64 (bits .or .i64 r.bars r.clear) r.dwell) r.exit=or4 r):=hJJ rfl
 obtain ⟨a1,ha1⟩:∃ z,inR (or4 r) (onS T:Nat)=z:=⟨_,rfl⟩
 obtain ⟨c1,hc1⟩:∃ z,clashR T r.clear r.clear=z:=⟨_,rfl⟩
 obtain ⟨c2,hc2⟩:∃ z,clashR T r.dwell r.dwell=z:=⟨_,rfl⟩
 obtain ⟨c3,hc3⟩:∃ z,clashR T r.exit r.exit=z:=⟨_,rfl⟩
 obtain ⟨b1,hb1⟩:∃ z,exitR T r.exit=z:=⟨_,rfl⟩
 have CL1:=hJJ (CL.out r.clear)
 have CL2:=hJJ (CL.out r.dwell)
 have CL3:=hJJ (CL.out r.exit)
 have AB1:=hJJ (AB.out r.exit)
 rw [ha1] at AO HR
 rw [hc1] at CL1 HR
 rw [hc2] at CL2 HR
 rw [hc3] at CL3 HR
 rw [hb1] at AB1 HR
 have TO:Hid (timesOk r=((decide (0 < r.hold) == (r.clear != 0)) && (decide (1≤r.green) && (decide (1≤r.stay) && ((r.most == 0 || decide (r.stay≤r.most)) && decide (r.delay < r.limit)))))):=hJJ rfl
 rw [show a1=true from ha1.symm.trans z0] at AO HR;rw [show b1=true from hb1.symm.trans z3] at AB1 HR;rw [show c1=false from hc1.symm.trans z4] at CL1 HR;rw [show c2=true from hc2.symm.trans z5] at CL2 HR
 clear hx ht CL AB ha1 hc1 hc2 hc3 hb1
 generalize timesOk r=tk at *
 clear z0 z3 z4 z5
 generalize or4 r=o4 at *
 generalize r.cells=rc at *
 obtain ⟨bars,clear_,dwell,exit,delay,green,foot,hold,stay,most,limit⟩:=r
 dsimp only at *
 generalize T.cells h=c at *
 generalize (((onS T:Nat)):Int)=on at *
 go_enter Tryz.func52,Tryz.ntmps52
 go_upto_region 1 with fail
 obtain ⟨u,hu,E1,E0,EB,b1'⟩:=laid2 w (.cells c.toArray 32) (.cells rc.toArray 47)
 rw [hu]
 have A0:=hJJ E0
 have A1:=hJJ (LT0.out.below (by rw [hs1];exact EB))
 have A2:Hid (u.heap[w.heap.size+1]?=some (.cells rc.toArray 47 (0,0))):=hJJ b1'
 clear hu EB LT0 b1' hs1 hsz hsz2 hone E0 E1
 have H1:=hJJ z1
 clear z1
 have H3:=hJJ z2
 clear z2
 have zb:(dwell != 0)=true:=bne_iff_ne.2 H1.out
 obtain ⟨q0,q1,q2,q3,q4,q5,q7,q8,q9,q10⟩:=RC.out _ _ A2.out
 go_wp2_with fail
 rw [O4.out]
 refine (AO.out _).mono ?_
 rintro e w' ⟨rfl,rfl⟩
 have zc:(bits .and .i64 dwell bars == 0)=true:=beq_iff_eq.2 H3.out
 go_wp2_with (refine lgZ 32 ⟨w.heap.size,0,none⟩ c rfl A1.out Tryz.underlying32 IA.out ?_)
 (try go_wp2_with fail)
 refine (AB1.out _ A0.out).mono ?_
 rintro e u1 ⟨rfl,hb⟩
 replace A0:Hid (Below w.heap.size w u1):=hJJ (A0.out.trans (hb.mono A0.out.size))
 replace A2:Hid (u1.heap[w.heap.size+1]?=some (.cells rc.toArray 47 (0,0))):=hJJ ((hb.block _ (Array.getElem?_eq_some_iff.1 A2.out).1).trans A2.out)
 replace A1:=hJJ (A1.out.below hb)
 clear q0 q1 q2 q3 q4 q5 q7 q8 q9 q10
 clear hb
 obtain ⟨q0,q1,q2,q3,q4,q5,q7,q8,q9,q10⟩:=RC.out _ _ A2.out
 rename_i Q1 K1 hK1 K2 hK2
 refine hK2 _ _ ?_
 refine wpList_plain rfl (fun K hK=>?_)
 go_simp
 refine hK _ _ ?_
 clear hK K
 (try dsimp only [Act.put]);(try simp only [zA,zB,zC])
 refine wpList_plain rfl (fun K hK=>?_)
 go_simp
 refine hK _ _ ?_
 clear hK K
 (try dsimp only [Act.put]);(try simp only [zA,zB,zC])
 refine hK1 _ _ ?_
 clear hK2 K2 hK1 K1
 refine wp_seq_k (fun K1 hK1=>?_)
 refine wp_region_lit ?_
 refine wpList_plain rfl (fun K hK=>?_)
 go_simp
 refine hK _ _ ?_
 clear hK K
 (try dsimp only [Act.put]);(try simp only [zA,zB,zC])
 refine wpList_plain rfl (fun K hK=>?_)
 go_simp
 refine hK _ _ ?_
 clear hK K
 (try dsimp only [Act.put]);(try simp only [zA,zB,zC])
 refine Row.wpList_load_g 32 _ rfl (by rfl) ⟨w.heap.size,0,none⟩ rfl c _ A1.out Tryz.underlying32 rfl IA.out ?_
 (try dsimp only [Act.put]);(try simp only [zA,zB,zC])
 refine BigFrame.wpList_want (by rfl) (fun K hK=>?_)
 go_simp
 refine hK _ _ ?_
 clear hK K
 (try dsimp only [Act.put]);(try simp only [zA,zB,zC])
 refine BigFrame.wpList_want (by rfl) (fun K hK=>?_)
 go_simp
 refine hK _ _ ?_
 clear hK K
 (try dsimp only [Act.put]);(try simp only [zA,zB,zC])
 refine BigFrame.wpList_want (by rfl) (fun K hK=>?_)
 go_simp
 refine hK _ _ ?_
 clear hK K
 (try dsimp only [Act.put]);(try simp only [zA,zB,zC])
 refine BigFrame.wpList_want (by rfl) (fun K hK=>?_)
 go_simp
 refine hK _ _ ?_
 clear hK K
 (try dsimp only [Act.put]);(try simp only [zA,zB,zC])
 refine BigFrame.wpList_want (by rfl) (fun K2 hK2=>?_)
 go_simp
 refine (CL1.out _ A0.out).mono ?_
 rintro e u2 ⟨rfl,hb⟩
 replace A0:Hid (Below w.heap.size w u2):=hJJ (A0.out.trans (hb.mono A0.out.size))
 replace A2:Hid (u2.heap[w.heap.size+1]?=some (.cells rc.toArray 47 (0,0))):=hJJ ((hb.block _ (Array.getElem?_eq_some_iff.1 A2.out).1).trans A2.out)
 replace A1:=hJJ (A1.out.below hb)
 clear q0 q1 q2 q3 q4 q5 q7 q8 q9 q10
 clear hb
 obtain ⟨q0,q1,q2,q3,q4,q5,q7,q8,q9,q10⟩:=RC.out _ _ A2.out
 refine hK2 _ _ ?_
 clear hK2 K2
 refine BigFrame.wpList_want (by rfl) (fun K hK=>?_)
 go_simp
 refine hK _ _ ?_
 clear hK K
 (try dsimp only [Act.put]);(try simp only [zA,zB,zC])
 refine wpList_plain rfl (fun K hK=>?_)
 go_simp
 refine hK _ _ ?_
 clear hK K
 (try dsimp only [Act.put]);(try simp only [zA,zB,zC])
 refine wpList_plain rfl (fun K hK=>?_)
 go_simp
 refine hK _ _ ?_
 clear hK K
 (try dsimp only [Act.put]);(try simp only [zA,zB,zC])
 refine Row.wpList_load_g 32 _ rfl (by rfl) ⟨w.heap.size,0,none⟩ rfl c _ A1.out Tryz.underlying32 rfl IA.out ?_
 (try dsimp only [Act.put]);(try simp only [zA,zB,zC])
 refine BigFrame.wpList_want (by rfl) (fun K hK=>?_)
 go_simp
 refine hK _ _ ?_
 clear hK K
 (try dsimp only [Act.put]);(try simp only [zA,zB,zC])
 refine BigFrame.wpList_want (by rfl) (fun K hK=>?_)
 go_simp
 refine hK _ _ ?_
 clear hK K
 (try dsimp only [Act.put]);(try simp only [zA,zB,zC])
 refine BigFrame.wpList_want (by rfl) (fun K hK=>?_)
 go_simp
 refine hK _ _ ?_
 clear hK K
 (try dsimp only [Act.put]);(try simp only [zA,zB,zC])
 refine BigFrame.wpList_want (by rfl) (fun K hK=>?_)
 go_simp
 refine hK _ _ ?_
 clear hK K
 (try dsimp only [Act.put]);(try simp only [zA,zB,zC])
 refine BigFrame.wpList_want (by rfl) (fun K2 hK2=>?_)
 go_simp
 refine (CL2.out _ A0.out).mono ?_
 rintro e u3 ⟨rfl,hb⟩
 replace A0:Hid (Below w.heap.size w u3):=hJJ (A0.out.trans (hb.mono A0.out.size))
 replace A2:Hid (u3.heap[w.heap.size+1]?=some (.cells rc.toArray 47 (0,0))):=hJJ ((hb.block _ (Array.getElem?_eq_some_iff.1 A2.out).1).trans A2.out)
 replace A1:=hJJ (A1.out.below hb)
 clear q0 q1 q2 q3 q4 q5 q7 q8 q9 q10
 clear hb
 obtain ⟨q0,q1,q2,q3,q4,q5,q7,q8,q9,q10⟩:=RC.out _ _ A2.out
 refine hK2 _ _ ?_
 clear hK2 K2
 refine BigFrame.wpList_want (by rfl) (fun K hK=>?_)
 go_simp
 refine hK _ _ ?_
 clear hK K
 (try dsimp only [Act.put]);(try simp only [zA,zB,zC])
 have HX:Hid (false=x):=hJJ (by rw [HR.out];simp)
 clear HR RC
 refine Early.out_get (by kernel_rfl) ?_
 refine hK1 _ _ ?_
 refine wp_ret ?_
 exact bodyPost_ret (v:=.bool false) (by kernel_rfl) (by kernel_rfl) ⟨ret_bool HX.out,A0.out⟩
end RkC
namespace RkC
open Zip
open Go.ChangeShapes Go.WideShapes Go.ChangeAt Go.RowKit
open Tab PlaceM PlanM OnS ChkM ChkA
open ChkB (laid2)
open May (ret_bool infoT infoR)
theorem rail_6 (T:Tab) (h:Hd) (r:Rl) (w:World) (ht:IsTab w h T) (sm:Few T) (z0:inR (or4 r) (onS T:Nat)=true) (z1:r.dwell ≠ 0) (z2:bits .and .i64 r.dwell r.bars=0) (z3:exitR T r.exit=true) (z4:clashR T r.clear r.clear=false) (z5:clashR T r.dwell r.dwell=false) (z6:clashR T r.exit r.exit=true) :
  Calls Tryz.prog 52 #[.agg (T.cells h).toArray,.agg r.cells.toArray,.int .i64 (onS T:Nat)] w fun e w'=>e=.returned (.bool (railOk T r))∧Below w.heap.size w w':=by
 have hsz:=(cells_ok ht).size
 have IA:Hid ((Tryz.prog.info? 32).map (·.size)=some (T.cells h).length):=hJJ (by rw [List.size_toArray] at hsz;rw [hsz];exact infoT)
 have AO:Hid (∀ W,Calls Tryz.prog 53 #[.int .i64 (or4 r),.int .i64 (onS T:Nat)] W fun e w'=>e=.returned (.bool (inR (or4 r) (onS T:Nat)))∧W=w'):=hJJ (fun W=>RkA.in_any _ _ W)
 have CL:Hid (∀ s W,Below w.heap.size w W→Calls Tryz.prog 94 #[.agg (T.cells h).toArray,.int .i64 s,.int .i64 s] W fun e w'=>e=.returned (.bool (clashR T s s))∧Below W.heap.size W w'):=hJJ (fun s W hb=>RkB.rclash_any T h s s W (ht.below hb))
 have AB:Hid (∀ s W,Below w.heap.size w W→Calls Tryz.prog 93 #[.agg (T.cells h).toArray,.int .i64 s] W fun e w'=>e=.returned (.bool (exitR T s))∧Below W.heap.size W w'):=hJJ (fun s W hb=>RkB.exit_any T h s W (ht.below hb) sm)
 obtain ⟨x,hx⟩:∃ x,x=railOk T r:=⟨_,rfl⟩
 rw [← hx]
 have HR:Hid (x=((inR (or4 r) (onS T:Nat) && (r.dwell != 0 && (bits .and .i64 r.dwell r.bars == 0 && exitR T r.exit))) && (!clashR T r.clear r.clear && (!clashR T r.dwell r.dwell && (!clashR T r.exit r.exit && timesOk r))))):=hJJ hx
 have LT0:=hJJ (Row.lies_new w (T.cells h).toArray 32)
 have hs1:(w.alloc (.cells (T.cells h).toArray 32)).heap.size=w.heap.size+1:=by simp
 have hone:=Rl.one r
 have hsz2:r.cells.toArray.size=11:=rfl
 have RC:=hJJ (rail_cells r)
 have O4:Hid (bits .or .i64 (bits .or .i64 (bits .or .i64 r.bars r.clear) r.dwell) r.exit=or4 r):=hJJ rfl
 obtain ⟨a1,ha1⟩:∃ z,inR (or4 r) (onS T:Nat)=z:=⟨_,rfl⟩
 obtain ⟨c1,hc1⟩:∃ z,clashR T r.clear r.clear=z:=⟨_,rfl⟩
 obtain ⟨c2,hc2⟩:∃ z,clashR T r.dwell r.dwell=z:=⟨_,rfl⟩
 obtain ⟨c3,hc3⟩:∃ z,clashR T r.exit r.exit=z:=⟨_,rfl⟩
 obtain ⟨b1,hb1⟩:∃ z,exitR T r.exit=z:=⟨_,rfl⟩
 have CL1:=hJJ (CL.out r.clear)
 have CL2:=hJJ (CL.out r.dwell)
 have CL3:=hJJ (CL.out r.exit)
 have AB1:=hJJ (AB.out r.exit)
 rw [ha1] at AO HR
 rw [hc1] at CL1 HR
 rw [hc2] at CL2 HR
 rw [hc3] at CL3 HR
 rw [hb1] at AB1 HR
 have TO:Hid (timesOk r=((decide (0 < r.hold) == (r.clear != 0)) && (decide (1≤r.green) && (decide (1≤r.stay) && ((r.most == 0 || decide (r.stay≤r.most)) && decide (r.delay < r.limit)))))):=hJJ rfl
 rw [show a1=true from ha1.symm.trans z0] at AO HR;rw [show b1=true from hb1.symm.trans z3] at AB1 HR;rw [show c1=false from hc1.symm.trans z4] at CL1 HR;rw [show c2=false from hc2.symm.trans z5] at CL2 HR;rw [show c3=true from hc3.symm.trans z6] at CL3 HR
 clear hx ht CL AB ha1 hc1 hc2 hc3 hb1
 generalize timesOk r=tk at *
 clear z0 z3 z4 z5 z6
 generalize or4 r=o4 at *
 generalize r.cells=rc at *
 obtain ⟨bars,clear_,dwell,exit,delay,green,foot,hold,stay,most,limit⟩:=r
 dsimp only at *
 generalize T.cells h=c at *
 generalize (((onS T:Nat)):Int)=on at *
 go_enter Tryz.func52,Tryz.ntmps52
 go_upto_region 1 with fail
 obtain ⟨u,hu,E1,E0,EB,b1'⟩:=laid2 w (.cells c.toArray 32) (.cells rc.toArray 47)
 rw [hu]
 have A0:=hJJ E0
 have A1:=hJJ (LT0.out.below (by rw [hs1];exact EB))
 have A2:Hid (u.heap[w.heap.size+1]?=some (.cells rc.toArray 47 (0,0))):=hJJ b1'
 clear hu EB LT0 b1' hs1 hsz hsz2 hone E0 E1
 have H1:=hJJ z1
 clear z1
 have H3:=hJJ z2
 clear z2
 have zb:(dwell != 0)=true:=bne_iff_ne.2 H1.out
 obtain ⟨q0,q1,q2,q3,q4,q5,q7,q8,q9,q10⟩:=RC.out _ _ A2.out
 go_wp2_with fail
 rw [O4.out]
 refine (AO.out _).mono ?_
 rintro e w' ⟨rfl,rfl⟩
 have zc:(bits .and .i64 dwell bars == 0)=true:=beq_iff_eq.2 H3.out
 go_wp2_with (refine lgZ 32 ⟨w.heap.size,0,none⟩ c rfl A1.out Tryz.underlying32 IA.out ?_)
 (try go_wp2_with fail)
 refine (AB1.out _ A0.out).mono ?_
 rintro e u1 ⟨rfl,hb⟩
 replace A0:Hid (Below w.heap.size w u1):=hJJ (A0.out.trans (hb.mono A0.out.size))
 replace A2:Hid (u1.heap[w.heap.size+1]?=some (.cells rc.toArray 47 (0,0))):=hJJ ((hb.block _ (Array.getElem?_eq_some_iff.1 A2.out).1).trans A2.out)
 replace A1:=hJJ (A1.out.below hb)
 clear q0 q1 q2 q3 q4 q5 q7 q8 q9 q10
 clear hb
 obtain ⟨q0,q1,q2,q3,q4,q5,q7,q8,q9,q10⟩:=RC.out _ _ A2.out
 rename_i Q1 K1 hK1 K2 hK2
 refine hK2 _ _ ?_
 refine wpList_plain rfl (fun K hK=>?_)
 go_simp
 refine hK _ _ ?_
 clear hK K
 (try dsimp only [Act.put]);(try simp only [zA,zB,zC])
 refine wpList_plain rfl (fun K hK=>?_)
 go_simp
 refine hK _ _ ?_
 clear hK K
 (try dsimp only [Act.put]);(try simp only [zA,zB,zC])
 refine hK1 _ _ ?_
 clear hK2 K2 hK1 K1
 refine wp_seq_k (fun K1 hK1=>?_)
 refine wp_region_lit ?_
 refine wpList_plain rfl (fun K hK=>?_)
 go_simp
 refine hK _ _ ?_
 clear hK K
 (try dsimp only [Act.put]);(try simp only [zA,zB,zC])
 refine wpList_plain rfl (fun K hK=>?_)
 go_simp
 refine hK _ _ ?_
 clear hK K
 (try dsimp only [Act.put]);(try simp only [zA,zB,zC])
 refine Row.wpList_load_g 32 _ rfl (by rfl) ⟨w.heap.size,0,none⟩ rfl c _ A1.out Tryz.underlying32 rfl IA.out ?_
 (try dsimp only [Act.put]);(try simp only [zA,zB,zC])
 refine BigFrame.wpList_want (by rfl) (fun K hK=>?_)
 go_simp
 refine hK _ _ ?_
 clear hK K
 (try dsimp only [Act.put]);(try simp only [zA,zB,zC])
 refine BigFrame.wpList_want (by rfl) (fun K hK=>?_)
 go_simp
 refine hK _ _ ?_
 clear hK K
 (try dsimp only [Act.put]);(try simp only [zA,zB,zC])
 refine BigFrame.wpList_want (by rfl) (fun K hK=>?_)
 go_simp
 refine hK _ _ ?_
 clear hK K
 (try dsimp only [Act.put]);(try simp only [zA,zB,zC])
 refine BigFrame.wpList_want (by rfl) (fun K hK=>?_)
 go_simp
 refine hK _ _ ?_
 clear hK K
 (try dsimp only [Act.put]);(try simp only [zA,zB,zC])
 refine BigFrame.wpList_want (by rfl) (fun K2 hK2=>?_)
 go_simp
 refine (CL1.out _ A0.out).mono ?_
 rintro e u2 ⟨rfl,hb⟩
 replace A0:Hid (Below w.heap.size w u2):=hJJ (A0.out.trans (hb.mono A0.out.size))
 replace A2:Hid (u2.heap[w.heap.size+1]?=some (.cells rc.toArray 47 (0,0))):=hJJ ((hb.block _ (Array.getElem?_eq_some_iff.1 A2.out).1).trans A2.out)
 replace A1:=hJJ (A1.out.below hb)
 clear q0 q1 q2 q3 q4 q5 q7 q8 q9 q10
 clear hb
 obtain ⟨q0,q1,q2,q3,q4,q5,q7,q8,q9,q10⟩:=RC.out _ _ A2.out
 refine hK2 _ _ ?_
 clear hK2 K2
 refine BigFrame.wpList_want (by rfl) (fun K hK=>?_)
 go_simp
 refine hK _ _ ?_
 clear hK K
 (try dsimp only [Act.put]);(try simp only [zA,zB,zC])
 refine wpList_plain rfl (fun K hK=>?_)
 go_simp
 refine hK _ _ ?_
 clear hK K
 (try dsimp only [Act.put]);(try simp only [zA,zB,zC])
 refine wpList_plain rfl (fun K hK=>?_)
 go_simp
 refine hK _ _ ?_
 clear hK K
 (try dsimp only [Act.put]);(try simp only [zA,zB,zC])
 refine Row.wpList_load_g 32 _ rfl (by rfl) ⟨w.heap.size,0,none⟩ rfl c _ A1.out Tryz.underlying32 rfl IA.out ?_
 (try dsimp only [Act.put]);(try simp only [zA,zB,zC])
 refine BigFrame.wpList_want (by rfl) (fun K hK=>?_)
 go_simp
 refine hK _ _ ?_
 clear hK K
 (try dsimp only [Act.put]);(try simp only [zA,zB,zC])
 refine BigFrame.wpList_want (by rfl) (fun K hK=>?_)
 go_simp
 refine hK _ _ ?_
 clear hK K
 (try dsimp only [Act.put]);(try simp only [zA,zB,zC])
 refine BigFrame.wpList_want (by rfl) (fun K hK=>?_)
 go_simp
 refine hK _ _ ?_
 clear hK K
 (try dsimp only [Act.put]);(try simp only [zA,zB,zC])
 refine BigFrame.wpList_want (by rfl) (fun K hK=>?_)
 go_simp
 refine hK _ _ ?_
 clear hK K
 (try dsimp only [Act.put]);(try simp only [zA,zB,zC])
 refine BigFrame.wpList_want (by rfl) (fun K2 hK2=>?_)
 go_simp
 refine (CL2.out _ A0.out).mono ?_
 rintro e u3 ⟨rfl,hb⟩
 replace A0:Hid (Below w.heap.size w u3):=hJJ (A0.out.trans (hb.mono A0.out.size))
 replace A2:Hid (u3.heap[w.heap.size+1]?=some (.cells rc.toArray 47 (0,0))):=hJJ ((hb.block _ (Array.getElem?_eq_some_iff.1 A2.out).1).trans A2.out)
 replace A1:=hJJ (A1.out.below hb)
 clear q0 q1 q2 q3 q4 q5 q7 q8 q9 q10
 clear hb
 obtain ⟨q0,q1,q2,q3,q4,q5,q7,q8,q9,q10⟩:=RC.out _ _ A2.out
 refine hK2 _ _ ?_
 clear hK2 K2
 refine BigFrame.wpList_want (by rfl) (fun K hK=>?_)
 go_simp
 refine hK _ _ ?_
 clear hK K
 (try dsimp only [Act.put]);(try simp only [zA,zB,zC])
 refine wpList_plain rfl (fun K hK=>?_)
 go_simp
 refine hK _ _ ?_
 clear hK K
 (try dsimp only [Act.put]);(try simp only [zA,zB,zC])
 refine wpList_plain rfl (fun K hK=>?_)
 go_simp
 refine hK _ _ ?_
 clear hK K
 (try dsimp only [Act.put]);(try simp only [zA,zB,zC])
 refine Row.wpList_load_g 32 _ rfl (by rfl) ⟨w.heap.size,0,none⟩ rfl c _ A1.out Tryz.underlying32 rfl IA.out ?_
 (try dsimp only [Act.put]);(try simp only [zA,zB,zC])
 refine BigFrame.wpList_want (by rfl) (fun K hK=>?_)
 go_simp
 refine hK _ _ ?_
 clear hK K
 (try dsimp only [Act.put]);(try simp only [zA,zB,zC])
 refine BigFrame.wpList_want (by rfl) (fun K hK=>?_)
 go_simp
 refine hK _ _ ?_
 clear hK K
 (try dsimp only [Act.put]);(try simp only [zA,zB,zC])
 refine BigFrame.wpList_want (by rfl) (fun K hK=>?_)
 go_simp
 refine hK _ _ ?_
 clear hK K
 (try dsimp only [Act.put]);(try simp only [zA,zB,zC])
 refine BigFrame.wpList_want (by rfl) (fun K hK=>?_)
 go_simp
 refine hK _ _ ?_
 clear hK K
 (try dsimp only [Act.put]);(try simp only [zA,zB,zC])
 refine BigFrame.wpList_want (by rfl) (fun K2 hK2=>?_)
 go_simp
 refine (CL3.out _ A0.out).mono ?_
 rintro e u4 ⟨rfl,hb⟩
 replace A0:Hid (Below w.heap.size w u4):=hJJ (A0.out.trans (hb.mono A0.out.size))
 replace A2:Hid (u4.heap[w.heap.size+1]?=some (.cells rc.toArray 47 (0,0))):=hJJ ((hb.block _ (Array.getElem?_eq_some_iff.1 A2.out).1).trans A2.out)
 replace A1:=hJJ (A1.out.below hb)
 clear q0 q1 q2 q3 q4 q5 q7 q8 q9 q10
 clear hb
 obtain ⟨q0,q1,q2,q3,q4,q5,q7,q8,q9,q10⟩:=RC.out _ _ A2.out
 refine hK2 _ _ ?_
 clear hK2 K2
 refine BigFrame.wpList_want (by rfl) (fun K hK=>?_)
 go_simp
 refine hK _ _ ?_
 clear hK K
 (try dsimp only [Act.put]);(try simp only [zA,zB,zC])
 have HX:Hid (false=x):=hJJ (by rw [HR.out];simp)
 clear HR RC
 refine Early.out_get (by kernel_rfl) ?_
 refine hK1 _ _ ?_
 refine wp_ret ?_
 exact bodyPost_ret (v:=.bool false) (by kernel_rfl) (by kernel_rfl) ⟨ret_bool HX.out,A0.out⟩
end RkC
namespace RkC
open Zip
open Go.ChangeShapes Go.WideShapes Go.ChangeAt Go.RowKit
open Tab PlaceM PlanM OnS ChkM ChkA
open ChkB (laid2)
open May (ret_bool infoT infoR)
theorem rail_7 (T:Tab) (h:Hd) (r:Rl) (w:World) (ht:IsTab w h T) (sm:Few T) (z0:inR (or4 r) (onS T:Nat)=true) (z1:r.dwell ≠ 0) (z2:bits .and .i64 r.dwell r.bars=0) (z3:exitR T r.exit=true) (z4:clashR T r.clear r.clear=false) (z5:clashR T r.dwell r.dwell=false) (z6:clashR T r.exit r.exit=false) :
  Calls Tryz.prog 52 #[.agg (T.cells h).toArray,.agg r.cells.toArray,.int .i64 (onS T:Nat)] w fun e w'=>e=.returned (.bool (railOk T r))∧Below w.heap.size w w':=by
 have hsz:=(cells_ok ht).size
 have IA:Hid ((Tryz.prog.info? 32).map (·.size)=some (T.cells h).length):=hJJ (by rw [List.size_toArray] at hsz;rw [hsz];exact infoT)
 have AO:Hid (∀ W,Calls Tryz.prog 53 #[.int .i64 (or4 r),.int .i64 (onS T:Nat)] W fun e w'=>e=.returned (.bool (inR (or4 r) (onS T:Nat)))∧W=w'):=hJJ (fun W=>RkA.in_any _ _ W)
 have CL:Hid (∀ s W,Below w.heap.size w W→Calls Tryz.prog 94 #[.agg (T.cells h).toArray,.int .i64 s,.int .i64 s] W fun e w'=>e=.returned (.bool (clashR T s s))∧Below W.heap.size W w'):=hJJ (fun s W hb=>RkB.rclash_any T h s s W (ht.below hb))
 have AB:Hid (∀ s W,Below w.heap.size w W→Calls Tryz.prog 93 #[.agg (T.cells h).toArray,.int .i64 s] W fun e w'=>e=.returned (.bool (exitR T s))∧Below W.heap.size W w'):=hJJ (fun s W hb=>RkB.exit_any T h s W (ht.below hb) sm)
 obtain ⟨x,hx⟩:∃ x,x=railOk T r:=⟨_,rfl⟩
 rw [← hx]
 have HR:Hid (x=((inR (or4 r) (onS T:Nat) && (r.dwell != 0 && (bits .and .i64 r.dwell r.bars == 0 && exitR T r.exit))) && (!clashR T r.clear r.clear && (!clashR T r.dwell r.dwell && (!clashR T r.exit r.exit && timesOk r))))):=hJJ hx
 have LT0:=hJJ (Row.lies_new w (T.cells h).toArray 32)
 have hs1:(w.alloc (.cells (T.cells h).toArray 32)).heap.size=w.heap.size+1:=by simp
 have hone:=Rl.one r
 have hsz2:r.cells.toArray.size=11:=rfl
 have RC:=hJJ (rail_cells r)
 have O4:Hid (bits .or .i64 (bits .or .i64 (bits .or .i64 r.bars r.clear) r.dwell) r.exit=or4 r):=hJJ rfl
 obtain ⟨a1,ha1⟩:∃ z,inR (or4 r) (onS T:Nat)=z:=⟨_,rfl⟩
 obtain ⟨c1,hc1⟩:∃ z,clashR T r.clear r.clear=z:=⟨_,rfl⟩
 obtain ⟨c2,hc2⟩:∃ z,clashR T r.dwell r.dwell=z:=⟨_,rfl⟩
 obtain ⟨c3,hc3⟩:∃ z,clashR T r.exit r.exit=z:=⟨_,rfl⟩
 obtain ⟨b1,hb1⟩:∃ z,exitR T r.exit=z:=⟨_,rfl⟩
 have CL1:=hJJ (CL.out r.clear)
 have CL2:=hJJ (CL.out r.dwell)
 have CL3:=hJJ (CL.out r.exit)
 have AB1:=hJJ (AB.out r.exit)
 rw [ha1] at AO HR
 rw [hc1] at CL1 HR
 rw [hc2] at CL2 HR
 rw [hc3] at CL3 HR
 rw [hb1] at AB1 HR
 have TO:Hid (timesOk r=((decide (0 < r.hold) == (r.clear != 0)) && (decide (1≤r.green) && (decide (1≤r.stay) && ((r.most == 0 || decide (r.stay≤r.most)) && decide (r.delay < r.limit)))))):=hJJ rfl
 rw [show a1=true from ha1.symm.trans z0] at AO HR;rw [show b1=true from hb1.symm.trans z3] at AB1 HR;rw [show c1=false from hc1.symm.trans z4] at CL1 HR;rw [show c2=false from hc2.symm.trans z5] at CL2 HR;rw [show c3=false from hc3.symm.trans z6] at CL3 HR
 clear hx ht CL AB ha1 hc1 hc2 hc3 hb1
 generalize timesOk r=tk at *
 clear z0 z3 z4 z5 z6
 generalize or4 r=o4 at *
 generalize r.cells=rc at *
 obtain ⟨bars,clear_,dwell,exit,delay,green,foot,hold,stay,most,limit⟩:=r
 dsimp only at *
 generalize T.cells h=c at *
 generalize (((onS T:Nat)):Int)=on at *
 go_enter Tryz.func52,Tryz.ntmps52
 go_upto_region 1 with fail
 obtain ⟨u,hu,E1,E0,EB,b1'⟩:=laid2 w (.cells c.toArray 32) (.cells rc.toArray 47)
 rw [hu]
 have A0:=hJJ E0
 have A1:=hJJ (LT0.out.below (by rw [hs1];exact EB))
 have A2:Hid (u.heap[w.heap.size+1]?=some (.cells rc.toArray 47 (0,0))):=hJJ b1'
 clear hu EB LT0 b1' hs1 hsz hsz2 hone E0 E1
 have H1:=hJJ z1
 clear z1
 have H3:=hJJ z2
 clear z2
 have zb:(dwell != 0)=true:=bne_iff_ne.2 H1.out
 obtain ⟨q0,q1,q2,q3,q4,q5,q7,q8,q9,q10⟩:=RC.out _ _ A2.out
 go_wp2_with fail
 rw [O4.out]
 refine (AO.out _).mono ?_
 rintro e w' ⟨rfl,rfl⟩
 have zc:(bits .and .i64 dwell bars == 0)=true:=beq_iff_eq.2 H3.out
 go_wp2_with (refine lgZ 32 ⟨w.heap.size,0,none⟩ c rfl A1.out Tryz.underlying32 IA.out ?_)
 (try go_wp2_with fail)
 refine (AB1.out _ A0.out).mono ?_
 rintro e u1 ⟨rfl,hb⟩
 replace A0:Hid (Below w.heap.size w u1):=hJJ (A0.out.trans (hb.mono A0.out.size))
 replace A2:Hid (u1.heap[w.heap.size+1]?=some (.cells rc.toArray 47 (0,0))):=hJJ ((hb.block _ (Array.getElem?_eq_some_iff.1 A2.out).1).trans A2.out)
 replace A1:=hJJ (A1.out.below hb)
 clear q0 q1 q2 q3 q4 q5 q7 q8 q9 q10
 clear hb
 obtain ⟨q0,q1,q2,q3,q4,q5,q7,q8,q9,q10⟩:=RC.out _ _ A2.out
 rename_i Q1 K1 hK1 K2 hK2
 refine hK2 _ _ ?_
 refine wpList_plain rfl (fun K hK=>?_)
 go_simp
 refine hK _ _ ?_
 clear hK K
 (try dsimp only [Act.put]);(try simp only [zA,zB,zC])
 refine wpList_plain rfl (fun K hK=>?_)
 go_simp
 refine hK _ _ ?_
 clear hK K
 (try dsimp only [Act.put]);(try simp only [zA,zB,zC])
 refine hK1 _ _ ?_
 clear hK2 K2 hK1 K1
 refine wp_seq_k (fun K1 hK1=>?_)
 refine wp_region_lit ?_
 refine wpList_plain rfl (fun K hK=>?_)
 go_simp
 refine hK _ _ ?_
 clear hK K
 (try dsimp only [Act.put]);(try simp only [zA,zB,zC])
 refine wpList_plain rfl (fun K hK=>?_)
 go_simp
 refine hK _ _ ?_
 clear hK K
 (try dsimp only [Act.put]);(try simp only [zA,zB,zC])
 refine Row.wpList_load_g 32 _ rfl (by rfl) ⟨w.heap.size,0,none⟩ rfl c _ A1.out Tryz.underlying32 rfl IA.out ?_
 (try dsimp only [Act.put]);(try simp only [zA,zB,zC])
 refine BigFrame.wpList_want (by rfl) (fun K hK=>?_)
 go_simp
 refine hK _ _ ?_
 clear hK K
 (try dsimp only [Act.put]);(try simp only [zA,zB,zC])
 refine BigFrame.wpList_want (by rfl) (fun K hK=>?_)
 go_simp
 refine hK _ _ ?_
 clear hK K
 (try dsimp only [Act.put]);(try simp only [zA,zB,zC])
 refine BigFrame.wpList_want (by rfl) (fun K hK=>?_)
 go_simp
 refine hK _ _ ?_
 clear hK K
 (try dsimp only [Act.put]);(try simp only [zA,zB,zC])
 refine BigFrame.wpList_want (by rfl) (fun K hK=>?_)
 go_simp
 refine hK _ _ ?_
 clear hK K
 (try dsimp only [Act.put]);(try simp only [zA,zB,zC])
 refine BigFrame.wpList_want (by rfl) (fun K2 hK2=>?_)
 go_simp
 refine (CL1.out _ A0.out).mono ?_
 rintro e u2 ⟨rfl,hb⟩
 replace A0:Hid (Below w.heap.size w u2):=hJJ (A0.out.trans (hb.mono A0.out.size))
 replace A2:Hid (u2.heap[w.heap.size+1]?=some (.cells rc.toArray 47 (0,0))):=hJJ ((hb.block _ (Array.getElem?_eq_some_iff.1 A2.out).1).trans A2.out)
 replace A1:=hJJ (A1.out.below hb)
 clear q0 q1 q2 q3 q4 q5 q7 q8 q9 q10
 clear hb
 obtain ⟨q0,q1,q2,q3,q4,q5,q7,q8,q9,q10⟩:=RC.out _ _ A2.out
 refine hK2 _ _ ?_
 clear hK2 K2
 refine BigFrame.wpList_want (by rfl) (fun K hK=>?_)
 go_simp
 refine hK _ _ ?_
 clear hK K
 (try dsimp only [Act.put]);(try simp only [zA,zB,zC])
 refine wpList_plain rfl (fun K hK=>?_)
 go_simp
 refine hK _ _ ?_
 clear hK K
 (try dsimp only [Act.put]);(try simp only [zA,zB,zC])
 refine wpList_plain rfl (fun K hK=>?_)
 go_simp
 refine hK _ _ ?_
 clear hK K
 (try dsimp only [Act.put]);(try simp only [zA,zB,zC])
 refine Row.wpList_load_g 32 _ rfl (by rfl) ⟨w.heap.size,0,none⟩ rfl c _ A1.out Tryz.underlying32 rfl IA.out ?_
 (try dsimp only [Act.put]);(try simp only [zA,zB,zC])
 refine BigFrame.wpList_want (by rfl) (fun K hK=>?_)
 go_simp
 refine hK _ _ ?_
 clear hK K
 (try dsimp only [Act.put]);(try simp only [zA,zB,zC])
 refine BigFrame.wpList_want (by rfl) (fun K hK=>?_)
 go_simp
 refine hK _ _ ?_
 clear hK K
 (try dsimp only [Act.put]);(try simp only [zA,zB,zC])
 refine BigFrame.wpList_want (by rfl) (fun K hK=>?_)
 go_simp
 refine hK _ _ ?_
 clear hK K
 (try dsimp only [Act.put]);(try simp only [zA,zB,zC])
 refine BigFrame.wpList_want (by rfl) (fun K hK=>?_)
 go_simp
 refine hK _ _ ?_
 clear hK K
 (try dsimp only [Act.put]);(try simp only [zA,zB,zC])
 refine BigFrame.wpList_want (by rfl) (fun K2 hK2=>?_)
 go_simp
 refine (CL2.out _ A0.out).mono ?_
 rintro e u3 ⟨rfl,hb⟩
 replace A0:Hid (Below w.heap.size w u3):=hJJ (A0.out.trans (hb.mono A0.out.size))
 replace A2:Hid (u3.heap[w.heap.size+1]?=some (.cells rc.toArray 47 (0,0))):=hJJ ((hb.block _ (Array.getElem?_eq_some_iff.1 A2.out).1).trans A2.out)
 replace A1:=hJJ (A1.out.below hb)
 clear q0 q1 q2 q3 q4 q5 q7 q8 q9 q10
 clear hb
 obtain ⟨q0,q1,q2,q3,q4,q5,q7,q8,q9,q10⟩:=RC.out _ _ A2.out
 refine hK2 _ _ ?_
 clear hK2 K2
 refine BigFrame.wpList_want (by rfl) (fun K hK=>?_)
 go_simp
 refine hK _ _ ?_
 clear hK K
 (try dsimp only [Act.put]);(try simp only [zA,zB,zC])
 refine wpList_plain rfl (fun K hK=>?_)
 go_simp
 refine hK _ _ ?_
 clear hK K
 (try dsimp only [Act.put]);(try simp only [zA,zB,zC])
 refine wpList_plain rfl (fun K hK=>?_)
 go_simp
 refine hK _ _ ?_
 clear hK K
 (try dsimp only [Act.put]);(try simp only [zA,zB,zC])
 refine Row.wpList_load_g 32 _ rfl (by rfl) ⟨w.heap.size,0,none⟩ rfl c _ A1.out Tryz.underlying32 rfl IA.out ?_
 (try dsimp only [Act.put]);(try simp only [zA,zB,zC])
 refine BigFrame.wpList_want (by rfl) (fun K hK=>?_)
 go_simp
 refine hK _ _ ?_
 clear hK K
 (try dsimp only [Act.put]);(try simp only [zA,zB,zC])
 refine BigFrame.wpList_want (by rfl) (fun K hK=>?_)
 go_simp
 refine hK _ _ ?_
 clear hK K
 (try dsimp only [Act.put]);(try simp only [zA,zB,zC])
 refine BigFrame.wpList_want (by rfl) (fun K hK=>?_)
 go_simp
 refine hK _ _ ?_
 clear hK K
 (try dsimp only [Act.put]);(try simp only [zA,zB,zC])
 refine BigFrame.wpList_want (by rfl) (fun K hK=>?_)
 go_simp
 refine hK _ _ ?_
 clear hK K
 (try dsimp only [Act.put]);(try simp only [zA,zB,zC])
 refine BigFrame.wpList_want (by rfl) (fun K2 hK2=>?_)
 go_simp
 refine (CL3.out _ A0.out).mono ?_
 rintro e u4 ⟨rfl,hb⟩
 replace A0:Hid (Below w.heap.size w u4):=hJJ (A0.out.trans (hb.mono A0.out.size))
 replace A2:Hid (u4.heap[w.heap.size+1]?=some (.cells rc.toArray 47 (0,0))):=hJJ ((hb.block _ (Array.getElem?_eq_some_iff.1 A2.out).1).trans A2.out)
 replace A1:=hJJ (A1.out.below hb)
 clear q0 q1 q2 q3 q4 q5 q7 q8 q9 q10
 clear hb
 obtain ⟨q0,q1,q2,q3,q4,q5,q7,q8,q9,q10⟩:=RC.out _ _ A2.out
 refine hK2 _ _ ?_
 clear hK2 K2
 refine BigFrame.wpList_want (by rfl) (fun K hK=>?_)
 go_simp
 refine hK _ _ ?_
 clear hK K
 (try dsimp only [Act.put]);(try simp only [zA,zB,zC])
 refine wpList_plain rfl (fun K hK=>?_)
 go_simp
 refine hK _ _ ?_
 clear hK K
 (try dsimp only [Act.put]);(try simp only [zA,zB,zC])
 refine wpList_plain rfl (fun K hK=>?_)
 go_simp
 refine hK _ _ ?_
 clear hK K
 (try dsimp only [Act.put]);(try simp only [zA,zB,zC])
 have HX:Hid (x=tk):=hJJ (by rw [HR.out,bne_iff_ne.2 H1.out,beq_iff_eq.2 H3.out];rfl)
 clear HR RC zb zc
 obtain ⟨va,hva⟩:∃ z,decide (0 < hold)=z:=⟨_,rfl⟩
 obtain ⟨vb,hvb⟩:∃ z,(clear_ != 0)=z:=⟨_,rfl⟩
 by_cases g1:va=vb
 rotate_left
 ·have g7:(va == vb)=false:=beq_eq_false_iff_ne.2 g1
  clear g1
  refine BigFrame.wpList_want (by rfl) (fun K hK=>?_)
  go_simp
  refine hK _ _ ?_
  clear hK K
  (try dsimp only [Act.put]);(try simp only [zA,zB,zC])
  refine BigFrame.wpList_want (by rfl) (fun K hK=>?_)
  go_simp
  refine hK _ _ ?_
  clear hK K
  (try dsimp only [Act.put]);(try simp only [zA,zB,zC])
  refine BigFrame.wpList_want (by rfl) (fun K hK=>?_)
  go_simp
  refine hK _ _ ?_
  clear hK K
  (try dsimp only [Act.put]);(try simp only [zA,zB,zC])
  refine BigFrame.wpList_want (by rfl) (fun K hK=>?_)
  go_simp
  refine hK _ _ ?_
  clear hK K
  (try dsimp only [Act.put]);(try simp only [zA,zB,zC])
  refine BigFrame.wpList_want (by rfl) (fun K hK=>?_)
  go_simp
  refine hK _ _ ?_
  clear hK K
  (try dsimp only [Act.put]);(try simp only [zA,zB,zC])
  refine BigFrame.wpList_want (by rfl) (fun K hK=>?_)
  go_simp
  refine hK _ _ ?_
  clear hK K
  (try dsimp only [Act.put]);(try simp only [zA,zB,zC])
  refine BigFrame.wpList_want (by rfl) (fun K hK=>?_)
  go_simp
  refine hK _ _ ?_
  clear hK K
  (try dsimp only [Act.put]);(try simp only [zA,zB,zC])
  have FX:Hid (false=x):=hJJ (by rw [HX.out,TO.out];simp [hva,hvb,g7])
  refine Early.out_get (by kernel_rfl) ?_
  refine hK1 _ _ ?_
  refine wp_ret ?_
  exact bodyPost_ret (v:=.bool false) (by kernel_rfl) (by kernel_rfl) ⟨ret_bool FX.out,A0.out⟩
 subst g1
 have g7:(va == va)=true:=beq_self_eq_true _
 refine BigFrame.wpList_want (by rfl) (fun K hK=>?_)
 go_simp
 refine hK _ _ ?_
 clear hK K
 (try dsimp only [Act.put]);(try simp only [zA,zB,zC])
 refine BigFrame.wpList_want (by rfl) (fun K hK=>?_)
 go_simp
 refine hK _ _ ?_
 clear hK K
 (try dsimp only [Act.put]);(try simp only [zA,zB,zC])
 refine BigFrame.wpList_want (by rfl) (fun K hK=>?_)
 go_simp
 refine hK _ _ ?_
 clear hK K
 (try dsimp only [Act.put]);(try simp only [zA,zB,zC])
 refine BigFrame.wpList_want (by rfl) (fun K hK=>?_)
 go_simp
 refine hK _ _ ?_
 clear hK K
 (try dsimp only [Act.put]);(try simp only [zA,zB,zC])
 refine BigFrame.wpList_want (by rfl) (fun K hK=>?_)
 go_simp
 refine hK _ _ ?_
 clear hK K
 (try dsimp only [Act.put]);(try simp only [zA,zB,zC])
 refine BigFrame.wpList_want (by rfl) (fun K hK=>?_)
 go_simp
 refine hK _ _ ?_
 clear hK K
 (try dsimp only [Act.put]);(try simp only [zA,zB,zC])
 refine BigFrame.wpList_want (by rfl) (fun K hK=>?_)
 go_simp
 refine hK _ _ ?_
 clear hK K
 (try dsimp only [Act.put]);(try simp only [zA,zB,zC])
 clear g7
 refine wpList_plain rfl (fun K hK=>?_)
 go_simp
 refine hK _ _ ?_
 clear hK K
 (try dsimp only [Act.put]);(try simp only [zA,zB,zC])
 refine wpList_plain rfl (fun K hK=>?_)
 go_simp
 refine hK _ _ ?_
 clear hK K
 (try dsimp only [Act.put]);(try simp only [zA,zB,zC])
 by_cases g2:1≤green
 rotate_left
 ·have f2:decide (1≤green)=false:=decide_eq_false g2
  clear g2
  refine BigFrame.wpList_want (by rfl) (fun K hK=>?_)
  go_simp
  refine hK _ _ ?_
  clear hK K
  (try dsimp only [Act.put]);(try simp only [zA,zB,zC])
  refine BigFrame.wpList_want (by rfl) (fun K hK=>?_)
  go_simp
  refine hK _ _ ?_
  clear hK K
  (try dsimp only [Act.put]);(try simp only [zA,zB,zC])
  refine BigFrame.wpList_want (by rfl) (fun K hK=>?_)
  go_simp
  refine hK _ _ ?_
  clear hK K
  (try dsimp only [Act.put]);(try simp only [zA,zB,zC])
  have FX:Hid (false=x):=hJJ (by rw [HX.out,TO.out];simp [hva,hvb,f2])
  refine Early.out_get (by kernel_rfl) ?_
  refine hK1 _ _ ?_
  refine wp_ret ?_
  exact bodyPost_ret (v:=.bool false) (by kernel_rfl) (by kernel_rfl) ⟨ret_bool FX.out,A0.out⟩
 have f2:decide (1≤green)=true:=decide_eq_true g2
 clear g2
 refine BigFrame.wpList_want (by rfl) (fun K hK=>?_)
 go_simp
 refine hK _ _ ?_
 clear hK K
 (try dsimp only [Act.put]);(try simp only [zA,zB,zC])
 refine BigFrame.wpList_want (by rfl) (fun K hK=>?_)
 go_simp
 refine hK _ _ ?_
 clear hK K
 (try dsimp only [Act.put]);(try simp only [zA,zB,zC])
 refine BigFrame.wpList_want (by rfl) (fun K hK=>?_)
 go_simp
 refine hK _ _ ?_
 clear hK K
 (try dsimp only [Act.put]);(try simp only [zA,zB,zC])
 refine wpList_plain rfl (fun K hK=>?_)
 go_simp
 refine hK _ _ ?_
 clear hK K
 (try dsimp only [Act.put]);(try simp only [zA,zB,zC])
 refine wpList_plain rfl (fun K hK=>?_)
 go_simp
 refine hK _ _ ?_
 clear hK K
 (try dsimp only [Act.put]);(try simp only [zA,zB,zC])
 by_cases g3:1≤stay
 rotate_left
 ·have f3:decide (1≤stay)=false:=decide_eq_false g3
  clear g3
  refine BigFrame.wpList_want (by rfl) (fun K hK=>?_)
  go_simp
  refine hK _ _ ?_
  clear hK K
  (try dsimp only [Act.put]);(try simp only [zA,zB,zC])
  refine BigFrame.wpList_want (by rfl) (fun K hK=>?_)
  go_simp
  refine hK _ _ ?_
  clear hK K
  (try dsimp only [Act.put]);(try simp only [zA,zB,zC])
  refine BigFrame.wpList_want (by rfl) (fun K hK=>?_)
  go_simp
  refine hK _ _ ?_
  clear hK K
  (try dsimp only [Act.put]);(try simp only [zA,zB,zC])
  have FX:Hid (false=x):=hJJ (by rw [HX.out,TO.out];simp [hva,hvb,f2,f3])
  refine Early.out_get (by kernel_rfl) ?_
  refine hK1 _ _ ?_
  refine wp_ret ?_
  exact bodyPost_ret (v:=.bool false) (by kernel_rfl) (by kernel_rfl) ⟨ret_bool FX.out,A0.out⟩
 have f3:decide (1≤stay)=true:=decide_eq_true g3
 clear g3
 refine BigFrame.wpList_want (by rfl) (fun K hK=>?_)
 go_simp
 refine hK _ _ ?_
 clear hK K
 (try dsimp only [Act.put]);(try simp only [zA,zB,zC])
 refine BigFrame.wpList_want (by rfl) (fun K hK=>?_)
 go_simp
 refine hK _ _ ?_
 clear hK K
 (try dsimp only [Act.put]);(try simp only [zA,zB,zC])
 refine BigFrame.wpList_want (by rfl) (fun K hK=>?_)
 go_simp
 refine hK _ _ ?_
 clear hK K
 (try dsimp only [Act.put]);(try simp only [zA,zB,zC])
 refine wpList_plain rfl (fun K hK=>?_)
 go_simp
 refine hK _ _ ?_
 clear hK K
 (try dsimp only [Act.put]);(try simp only [zA,zB,zC])
 refine wpList_plain rfl (fun K hK=>?_)
 go_simp
 refine hK _ _ ?_
 clear hK K
 (try dsimp only [Act.put]);(try simp only [zA,zB,zC])
 by_cases g4:most=0
 ·have f4:(most == 0)=true:=beq_iff_eq.2 g4
  have F4:=hJJ g4
  clear g4
  refine BigFrame.wpList_want (by rfl) (fun K hK=>?_)
  go_simp
  refine hK _ _ ?_
  clear hK K
  (try dsimp only [Act.put]);(try simp only [zA,zB,zC])
  refine BigFrame.wpList_want (by rfl) (fun K hK=>?_)
  go_simp
  refine hK _ _ ?_
  clear hK K
  (try dsimp only [Act.put]);(try simp only [zA,zB,zC])
  refine BigFrame.wpList_want (by rfl) (fun K hK=>?_)
  go_simp
  refine hK _ _ ?_
  clear hK K
  (try dsimp only [Act.put]);(try simp only [zA,zB,zC])
  refine BigFrame.wpList_want (by rfl) (fun K hK=>?_)
  go_simp
  refine hK _ _ ?_
  clear hK K
  (try dsimp only [Act.put]);(try simp only [zA,zB,zC])
  refine Early.skip (by rfl) ?_
  (try dsimp only [Act.put]);(try simp only [zA,zB,zC])
  refine Early.skip (by rfl) ?_
  (try dsimp only [Act.put]);(try simp only [zA,zB,zC])
  refine Early.skip (by rfl) ?_
  (try dsimp only [Act.put]);(try simp only [zA,zB,zC])
  refine Early.skip (by rfl) ?_
  (try dsimp only [Act.put]);(try simp only [zA,zB,zC])
  refine Early.skip (by rfl) ?_
  (try dsimp only [Act.put]);(try simp only [zA,zB,zC])
  refine BigFrame.wpList_want (by rfl) (fun K hK=>?_)
  go_simp
  refine hK _ _ ?_
  clear hK K
  (try dsimp only [Act.put]);(try simp only [zA,zB,zC])
  refine wpList_plain rfl (fun K hK=>?_)
  go_simp
  refine hK _ _ ?_
  clear hK K
  (try dsimp only [Act.put]);(try simp only [zA,zB,zC])
  refine wpList_plain rfl (fun K hK=>?_)
  go_simp
  refine hK _ _ ?_
  clear hK K
  (try dsimp only [Act.put]);(try simp only [zA,zB,zC])
  by_cases g5:delay < limit
  ·have f5:decide (delay < limit)=true:=decide_eq_true g5
   clear g5
   refine BigFrame.wpList_want (by rfl) (fun K hK=>?_)
   go_simp
   refine hK _ _ ?_
   clear hK K
   (try dsimp only [Act.put]);(try simp only [zA,zB,zC])
   refine BigFrame.wpList_want (by rfl) (fun K hK=>?_)
   go_simp
   refine hK _ _ ?_
   clear hK K
   (try dsimp only [Act.put]);(try simp only [zA,zB,zC])
   refine BigFrame.wpList_want (by rfl) (fun K hK=>?_)
   go_simp
   refine hK _ _ ?_
   clear hK K
   (try dsimp only [Act.put]);(try simp only [zA,zB,zC])
   refine BigFrame.wpList_want (by rfl) (fun K hK=>?_)
   go_simp
   refine hK _ _ ?_
   clear hK K
   (try dsimp only [Act.put]);(try simp only [zA,zB,zC])
   refine BigFrame.wpList_want (by rfl) (fun K hK=>?_)
   go_simp
   refine hK _ _ ?_
   clear hK K
   (try dsimp only [Act.put]);(try simp only [zA,zB,zC])
   have FX:Hid (true=x):=hJJ (by rw [HX.out,TO.out];simp [hva,hvb,f2,f3,f4,f5])
   refine Early.out_get (by kernel_rfl) ?_
   refine hK1 _ _ ?_
   refine wp_ret ?_
   exact bodyPost_ret (v:=.bool true) (by kernel_rfl) (by kernel_rfl) ⟨ret_bool FX.out,A0.out⟩
  ·have f5:decide (delay < limit)=false:=decide_eq_false g5
   clear g5
   refine BigFrame.wpList_want (by rfl) (fun K hK=>?_)
   go_simp
   refine hK _ _ ?_
   clear hK K
   (try dsimp only [Act.put]);(try simp only [zA,zB,zC])
   refine BigFrame.wpList_want (by rfl) (fun K hK=>?_)
   go_simp
   refine hK _ _ ?_
   clear hK K
   (try dsimp only [Act.put]);(try simp only [zA,zB,zC])
   refine BigFrame.wpList_want (by rfl) (fun K hK=>?_)
   go_simp
   refine hK _ _ ?_
   clear hK K
   (try dsimp only [Act.put]);(try simp only [zA,zB,zC])
   refine BigFrame.wpList_want (by rfl) (fun K hK=>?_)
   go_simp
   refine hK _ _ ?_
   clear hK K
   (try dsimp only [Act.put]);(try simp only [zA,zB,zC])
   refine BigFrame.wpList_want (by rfl) (fun K hK=>?_)
   go_simp
   refine hK _ _ ?_
   clear hK K
   (try dsimp only [Act.put]);(try simp only [zA,zB,zC])
   have FX:Hid (false=x):=hJJ (by rw [HX.out,TO.out];simp [hva,hvb,f2,f3,f4,f5])
   refine Early.out_get (by kernel_rfl) ?_
   refine hK1 _ _ ?_
   refine wp_ret ?_
   exact bodyPost_ret (v:=.bool false) (by kernel_rfl) (by kernel_rfl) ⟨ret_bool FX.out,A0.out⟩
 have f4:(most == 0)=false:=beq_eq_false_iff_ne.2 g4
 clear g4
 by_cases g6:stay≤most
 ·have f6:decide (stay≤most)=true:=decide_eq_true g6
  clear g6
  refine BigFrame.wpList_want (by rfl) (fun K hK=>?_)
  go_simp
  refine hK _ _ ?_
  clear hK K
  (try dsimp only [Act.put]);(try simp only [zA,zB,zC])
  refine BigFrame.wpList_want (by rfl) (fun K hK=>?_)
  go_simp
  refine hK _ _ ?_
  clear hK K
  (try dsimp only [Act.put]);(try simp only [zA,zB,zC])
  refine BigFrame.wpList_want (by rfl) (fun K hK=>?_)
  go_simp
  refine hK _ _ ?_
  clear hK K
  (try dsimp only [Act.put]);(try simp only [zA,zB,zC])
  refine BigFrame.wpList_want (by rfl) (fun K hK=>?_)
  go_simp
  refine hK _ _ ?_
  clear hK K
  (try dsimp only [Act.put]);(try simp only [zA,zB,zC])
  refine BigFrame.wpList_want (by rfl) (fun K hK=>?_)
  go_simp
  refine hK _ _ ?_
  clear hK K
  (try dsimp only [Act.put]);(try simp only [zA,zB,zC])
  refine BigFrame.wpList_want (by rfl) (fun K hK=>?_)
  go_simp
  refine hK _ _ ?_
  clear hK K
  (try dsimp only [Act.put]);(try simp only [zA,zB,zC])
  refine BigFrame.wpList_want (by rfl) (fun K hK=>?_)
  go_simp
  refine hK _ _ ?_
  clear hK K
  (try dsimp only [Act.put]);(try simp only [zA,zB,zC])
  refine BigFrame.wpList_want (by rfl) (fun K hK=>?_)
  go_simp
  refine hK _ _ ?_
  clear hK K
  (try dsimp only [Act.put]);(try simp only [zA,zB,zC])
  refine BigFrame.wpList_want (by rfl) (fun K hK=>?_)
  go_simp
  refine hK _ _ ?_
  clear hK K
  (try dsimp only [Act.put]);(try simp only [zA,zB,zC])
  refine BigFrame.wpList_want (by rfl) (fun K hK=>?_)
  go_simp
  refine hK _ _ ?_
  clear hK K
  (try dsimp only [Act.put]);(try simp only [zA,zB,zC])
  refine wpList_plain rfl (fun K hK=>?_)
  go_simp
  refine hK _ _ ?_
  clear hK K
  (try dsimp only [Act.put]);(try simp only [zA,zB,zC])
  refine wpList_plain rfl (fun K hK=>?_)
  go_simp
  refine hK _ _ ?_
  clear hK K
  (try dsimp only [Act.put]);(try simp only [zA,zB,zC])
  by_cases g5:delay < limit
  ·have f5:decide (delay < limit)=true:=decide_eq_true g5
   clear g5
   refine BigFrame.wpList_want (by rfl) (fun K hK=>?_)
   go_simp
   refine hK _ _ ?_
   clear hK K
   (try dsimp only [Act.put]);(try simp only [zA,zB,zC])
   refine BigFrame.wpList_want (by rfl) (fun K hK=>?_)
   go_simp
   refine hK _ _ ?_
   clear hK K
   (try dsimp only [Act.put]);(try simp only [zA,zB,zC])
   refine BigFrame.wpList_want (by rfl) (fun K hK=>?_)
   go_simp
   refine hK _ _ ?_
   clear hK K
   (try dsimp only [Act.put]);(try simp only [zA,zB,zC])
   refine BigFrame.wpList_want (by rfl) (fun K hK=>?_)
   go_simp
   refine hK _ _ ?_
   clear hK K
   (try dsimp only [Act.put]);(try simp only [zA,zB,zC])
   refine BigFrame.wpList_want (by rfl) (fun K hK=>?_)
   go_simp
   refine hK _ _ ?_
   clear hK K
   (try dsimp only [Act.put]);(try simp only [zA,zB,zC])
   have FX:Hid (true=x):=hJJ (by rw [HX.out,TO.out];simp [hva,hvb,f2,f3,f4,f6,f5])
   refine Early.out_get (by kernel_rfl) ?_
   refine hK1 _ _ ?_
   refine wp_ret ?_
   exact bodyPost_ret (v:=.bool true) (by kernel_rfl) (by kernel_rfl) ⟨ret_bool FX.out,A0.out⟩
  ·have f5:decide (delay < limit)=false:=decide_eq_false g5
   clear g5
   refine BigFrame.wpList_want (by rfl) (fun K hK=>?_)
   go_simp
   refine hK _ _ ?_
   clear hK K
   (try dsimp only [Act.put]);(try simp only [zA,zB,zC])
   refine BigFrame.wpList_want (by rfl) (fun K hK=>?_)
   go_simp
   refine hK _ _ ?_
   clear hK K
   (try dsimp only [Act.put]);(try simp only [zA,zB,zC])
   refine BigFrame.wpList_want (by rfl) (fun K hK=>?_)
   go_simp
   refine hK _ _ ?_
   clear hK K
   (try dsimp only [Act.put]);(try simp only [zA,zB,zC])
   refine BigFrame.wpList_want (by rfl) (fun K hK=>?_)
   go_simp
   refine hK _ _ ?_
   clear hK K
   (try dsimp only [Act.put]);(try simp only [zA,zB,zC])
   refine BigFrame.wpList_want (by rfl) (fun K hK=>?_)
   go_simp
   refine hK _ _ ?_
   clear hK K
   (try dsimp only [Act.put]);(try simp only [zA,zB,zC])
   have FX:Hid (false=x):=hJJ (by rw [HX.out,TO.out];simp [hva,hvb,f2,f3,f4,f6,f5])
   refine Early.out_get (by kernel_rfl) ?_
   refine hK1 _ _ ?_
   refine wp_ret ?_
   exact bodyPost_ret (v:=.bool false) (by kernel_rfl) (by kernel_rfl) ⟨ret_bool FX.out,A0.out⟩
 ·have f6:decide (stay≤most)=false:=decide_eq_false g6
  clear g6
  refine BigFrame.wpList_want (by rfl) (fun K hK=>?_)
  go_simp
  refine hK _ _ ?_
  clear hK K
  (try dsimp only [Act.put]);(try simp only [zA,zB,zC])
  refine BigFrame.wpList_want (by rfl) (fun K hK=>?_)
  go_simp
  refine hK _ _ ?_
  clear hK K
  (try dsimp only [Act.put]);(try simp only [zA,zB,zC])
  refine BigFrame.wpList_want (by rfl) (fun K hK=>?_)
  go_simp
  refine hK _ _ ?_
  clear hK K
  (try dsimp only [Act.put]);(try simp only [zA,zB,zC])
  refine BigFrame.wpList_want (by rfl) (fun K hK=>?_)
  go_simp
  refine hK _ _ ?_
  clear hK K
  (try dsimp only [Act.put]);(try simp only [zA,zB,zC])
  refine BigFrame.wpList_want (by rfl) (fun K hK=>?_)
  go_simp
  refine hK _ _ ?_
  clear hK K
  (try dsimp only [Act.put]);(try simp only [zA,zB,zC])
  refine BigFrame.wpList_want (by rfl) (fun K hK=>?_)
  go_simp
  refine hK _ _ ?_
  clear hK K
  (try dsimp only [Act.put]);(try simp only [zA,zB,zC])
  refine BigFrame.wpList_want (by rfl) (fun K hK=>?_)
  go_simp
  refine hK _ _ ?_
  clear hK K
  (try dsimp only [Act.put]);(try simp only [zA,zB,zC])
  refine BigFrame.wpList_want (by rfl) (fun K hK=>?_)
  go_simp
  refine hK _ _ ?_
  clear hK K
  (try dsimp only [Act.put]);(try simp only [zA,zB,zC])
  refine BigFrame.wpList_want (by rfl) (fun K hK=>?_)
  go_simp
  refine hK _ _ ?_
  clear hK K
  (try dsimp only [Act.put]);(try simp only [zA,zB,zC])
  refine BigFrame.wpList_want (by rfl) (fun K hK=>?_)
  go_simp
  refine hK _ _ ?_
  clear hK K
  (try dsimp only [Act.put]);(try simp only [zA,zB,zC])
  have FX:Hid (false=x):=hJJ (by rw [HX.out,TO.out];simp [hva,hvb,f2,f3,f4,f6])
  refine Early.out_get (by kernel_rfl) ?_
  refine hK1 _ _ ?_
  refine wp_ret ?_
  exact bodyPost_ret (v:=.bool false) (by kernel_rfl) (by kernel_rfl) ⟨ret_bool FX.out,A0.out⟩
end RkC
namespace RkC
open Go.ChangeShapes Go.WideShapes Go.ChangeAt Go.RowKit
open Tab PlaceM PlanM OnS ChkM ChkA
open ChkB (laid2)
open May (ret_bool infoT infoR)
theorem rail_any (T:Tab) (h:Hd) (r:Rl) (w:World) (ht:IsTab w h T) (sm:Few T) :
  Calls Tryz.prog 52 #[.agg (T.cells h).toArray,.agg r.cells.toArray,.int .i64 (onS T:Nat)] w fun e w'=>e=.returned (.bool (railOk T r))∧Below w.heap.size w w':=by
 by_cases z0:inR (or4 r) (onS T:Nat)=true
 rotate_left
 ·exact rail_0 T h r w ht sm (by simpa using z0)
 by_cases z1:r.dwell=0
 ·exact rail_1 T h r w ht sm z0 z1
 by_cases z2:bits .and .i64 r.dwell r.bars=0
 rotate_left
 ·exact rail_2 T h r w ht sm z0 z1 z2
 by_cases z3:exitR T r.exit=true
 rotate_left
 ·exact rail_3 T h r w ht sm z0 z1 z2 (by simpa using z3)
 by_cases z4:clashR T r.clear r.clear=false
 rotate_left
 ·exact rail_4 T h r w ht sm z0 z1 z2 z3 (by simpa using z4)
 by_cases z5:clashR T r.dwell r.dwell=false
 rotate_left
 ·exact rail_5 T h r w ht sm z0 z1 z2 z3 z4 (by simpa using z5)
 by_cases z6:clashR T r.exit r.exit=false
 rotate_left
 ·exact rail_6 T h r w ht sm z0 z1 z2 z3 z4 z5 (by simpa using z6)
 exact rail_7 T h r w ht sm z0 z1 z2 z3 z4 z5 z6
end RkC
namespace RkK
open Zip
open Go.ChangeShapes Go.WideShapes Go.ChangeAt Go.RowKit
open Tab PlaceM PlanM OnS ChkM ChkH ChkE
open ChkB (laid2)
open ChkI (hmx)
open Same (below_setRow)
open RefS (rhas_any rlist_any row_of)
open RkB (getD_mem)
open May (ret_bool infoT infoP infoD infoR infoB tabMay)
theorem find_hit {f:Int→Bool} {L:List Int} {q:Nat} (h:q < L.length) (hf:f (L.getD q 0)=true) (hn:∀ i,i < q→f (L.getD i 0)=false):L.find? f=some (L.getD q 0):=by
 rw [List.getD_eq_getElem?_getD,List.getElem?_eq_getElem h] at hf ⊢
 rw [Option.getD_some] at hf ⊢
 rw [List.find?_eq_some_iff_getElem]
 refine ⟨hf,q,h,rfl,fun j hj=>?_⟩
 have:=hn j hj
 rw [List.getD_eq_getElem?_getD,List.getElem?_eq_getElem (by omega)] at this
 simpa using this
theorem find_miss {f:Int→Bool} {L:List Int} (hn:∀ i,i < L.length→f (L.getD i 0)=false):L.find? f=none:=by
 rw [List.find?_eq_none]
 intro z hz
 obtain ⟨i,hi,rfl⟩:=List.getElem_of_mem hz
 have:=hn i hi
 rw [List.getD_eq_getElem?_getD,List.getElem?_eq_getElem hi] at this
 simpa using this
theorem lies_at {w:World} {b:Nat} {c:List Value} (h:Lies w ⟨b,0,none⟩ c) (j:Nat) (hj:0 < j) {v:Value} (hv:c[j]?=some v):w.cell? ⟨b,j,none⟩=some v:=by
 have:=h j v hv
 rw [show (⟨b,0,none⟩:Addr).add j=⟨b,j,none⟩ by simp [Addr.add,Nat.pos_iff_ne_zero.1 hj]] at this
 exact this
theorem rcheck_any (T:Tab) (h:Hd) (w:World) (ht:IsTab w h T) (sm:Few T) :
  Calls Tryz.prog 15 #[.agg (T.cells h).toArray] w fun e w'=>e=.returned (.agg (fcells (chkR T)))∧Below w.heap.size w w':=by
 have hsz:=(cells_ok ht).size
 have IA:Hid ((Tryz.prog.info? 32).map (·.size)=some (T.cells h).length):=hJJ (by rw [List.size_toArray] at hsz;rw [hsz];exact infoT)
 have MY:Hid (∀ W,Below w.heap.size w W→Calls Tryz.prog 48 #[.agg (T.cells h).toArray] W fun e w'=>e=.returned (.bool (tabMay T))∧Below W.heap.size W w'):=hJJ (fun W hb=>May.rmay_any T h W (ht.below hb))
 have ON:Hid (∀ W,Below w.heap.size w W→Calls Tryz.prog 22 #[.agg (T.cells h).toArray] W fun e w'=>e=.returned (.int .i64 (onS T:Nat))∧Below W.heap.size W w'):=hJJ (fun W hb=>OnS.on_any T h W (ht.below hb))
 have RG:Hid (∀ W,Below w.heap.size w W→Calls Tryz.prog 50 #[.agg (T.cells h).toArray] W fun e w'=>e=.returned (.agg (fltC 8 (ringsR T)))∧Below W.heap.size W w'):=hJJ (fun W hb=>RkR.rrings_any T h W (ht.below hb) sm)
 have CF:Hid (∀ (k:Nat) W,k < 8→Below w.heap.size w W→Calls Tryz.prog 51 #[.agg (T.cells h).toArray,.int .i64 k,.int .i64 (onS T:Nat)] W fun e w'=>e=.returned (.bool (confOk T k))∧Below W.heap.size W w'):=hJJ (fun k W hk hb=>RkA.conflict_any T h k hk W (ht.below hb) sm)
 have FL:Hid (∀ (k:Nat) W,k < 8→Below w.heap.size w W→Calls Tryz.prog 54 #[.agg (T.cells h).toArray,.int .i64 k,.int .i64 (onS T:Nat)] W fun e w'=>e=.returned (.bool (flashOk T k))∧Below W.heap.size W w'):=hJJ (fun k W hk hb=>RkA.flash_any T h k hk W (ht.below hb))
 have RL:Hid (∀ (r:Rl) W,Below w.heap.size w W→Calls Tryz.prog 52 #[.agg (T.cells h).toArray,.agg r.cells.toArray,.int .i64 (onS T:Nat)] W fun e w'=>e=.returned (.bool (railOk T r))∧Below W.heap.size W w'):=hJJ (fun r W hb=>RkC.rail_any T h r W (ht.below hb) sm)
 have DO:Hid (tabMay T=true→∀ d,d ∈ T.dets→Fl.isn d.on=false∧Fl.isn d.off=false∧0≤d.phase∧d.phase < 8):=hJJ (fun hm d hd=>ChkK.det_ok hm hd)
 have LT0:=hJJ (Row.lies_new w (T.cells h).toArray 32)
 have PL0:=hJJ (fun k hk=>ChkB.phase_lies ht k hk)
 have hs1:(w.alloc (.cells (T.cells h).toArray 32)).heap.size=w.heap.size+1:=by simp
 have BD:=hJJ (fun q (hq:q ∈ ons T)=>SetM.list_bd _ q hq)
 have hl8:(ons T).length≤8:=SetM.list_len _
 have OL:Hid (SetM.list (onS T:Nat)=ons T):=hJJ rfl
 have C113:Hid ((T.cells h)[113]?=some (.slice h.d.a T.dets.length h.d.cap)):=hJJ ((List.getElem?_toArray ..).symm.trans (cells_ok ht).d)
 have C114:Hid ((T.cells h)[114]?=some (.slice h.r.a T.rails.length h.r.cap)):=hJJ ((List.getElem?_toArray ..).symm.trans (cells_ok ht).r)
 have C115:Hid ((T.cells h)[115]?=some (.slice h.b.a T.buses.length h.b.cap)):=hJJ ((List.getElem?_toArray ..).symm.trans (cells_ok ht).b)
 have RD:=hJJ ht.dets
 have RR:=hJJ ht.rails
 have RB:=hJJ ht.buses
 have KD:=ht.dets.len
 have KR:=ht.rails.len
 have KB:=ht.buses.len
 unfold maxLen at KD KR KB
 obtain ⟨l,hl⟩:∃ z,z=rulesR T:=⟨_,rfl⟩
 have CK:Hid (chkR T=firstF l):=hJJ (by rw [hl];rfl)
 unfold rulesR at hl
 have LL0:Hid (l[0]?=some (4,mayF T)):=hJJ (by rw [hl];rfl)
 have LL1:Hid (l[1]?=some (7,(ons T).find? fun p=>!phOk (phAt T p))):=hJJ (by rw [hl];rfl)
 have LL2:Hid (l[2]?=some (8,ringsR T)):=hJJ (by rw [hl];rfl)
 have LL3:Hid (l[3]?=some (9,(ons T).find? fun p=>!confOk T p)):=hJJ (by rw [hl];rfl)
 have LL4:Hid (l[4]?=some (10,idx (detR T) T.dets)):=hJJ (by rw [hl];rfl)
 have LL5:Hid (l[5]?=some (11,idx (fun r=>!railOk T r) T.rails)):=hJJ (by rw [hl];rfl)
 have LL6:Hid (l[6]?=some (12,idx (busR T) T.buses)):=hJJ (by rw [hl];rfl)
 have LL7:Hid (l[7]?=some (13,(ons T).find? fun p=>!flashOk T p)):=hJJ (by rw [hl];rfl)
 have LE:Hid (l.length=8):=hJJ (by rw [hl];rfl)
 have DR:Hid (∀ d,detR T d=(gtF d.off d.on || !SetM.has (onS T:Nat) d.phase)):=hJJ (fun _=>rfl)
 have BR:Hid (∀ b,busR T b=(b.set == 0 || (!inR b.set (onS T:Nat) || decide (b.lock < 1)))):=hJJ (fun _=>rfl)
 have MF:Hid (mayF T=if tabMay T then none else some 0):=hJJ rfl
 generalize chkR T=ck at CK ⊢
 clear hl ht sm
 generalize hda:h.d.a=da at *
 generalize hdc:h.d.cap=dcap at *
 generalize hra:h.r.a=ra at *
 generalize hrc:h.r.cap=rcap at *
 generalize hba:h.b.a=ba at *
 generalize hbc:h.b.cap=bcap at *
 have RDa:=hJJ hda
 have RRa:=hJJ hra
 have RBa:=hJJ hba
 clear hda hdc hra hrc hba hbc
 generalize T.cells h=c at *
 generalize ons T=L at *
 generalize hon:(((onS T:Nat)):Int)=on at *
 clear hon
 go_enter Tryz.func15,Tryz.ntmps15
 go_upto_region 1 with fail
 obtain ⟨W1,hW1,E1,E0,EB,bR⟩:=laid2 w (.cells c.toArray 32) (.cells #[.int .i64 0,.int .i64 0] 37)
 rw [hW1]
 have LT:=hJJ (LT0.out.below (by rw [hs1];exact EB))
 have PL:=hJJ (fun k hk=>(PL0.out k hk).below (by rw [hs1];exact EB))
 have C0:=hJJ E0
 have C2:=hJJ bR
 clear hW1 EB hs1 hsz LT0 PL0 E0 E1 bR
 go_wp2_with (refine lgZ 32 ⟨w.heap.size,0,none⟩ c rfl LT.out Tryz.underlying32 IA.out ?_)
 (try go_wp2_with fail)
 refine (MY.out _ C0.out).mono ?_
 rintro e u1 ⟨rfl,hb⟩
 replace C0:Hid (Below w.heap.size w u1):=hJJ (C0.out.trans (hb.mono C0.out.size))
 replace C2:Hid (u1.heap[w.heap.size+1]?=some (.cells #[.int .i64 0,.int .i64 0] 37 (0,0))):=hJJ ((hb.block _ (Array.getElem?_eq_some_iff.1 C2.out).1).trans C2.out)
 replace LT:=hJJ (LT.out.below hb)
 replace PL:=hJJ (fun k hk=>(PL.out k hk).below hb)
 clear hb
 cases hm:tabMay T with
 | false =>
  have RO:Hid (ck=(4,0)):=hJJ (by rw [CK.out];exact first_hit (q:=0) (by rw [LL0.out,MF.out,hm];rfl) (fun j x hj=>by omega))
  clear hm
  have HW:=hJJ (below_setRow C0.out (g:=w.heap.size+1) (by omega) #[.int .i64 4,.int .i64 0])
  have HK:=hJJ (setRow_heap u1 (w.heap.size+1) _ #[.int .i64 4,.int .i64 0] _ _ C2.out)
  go_wp2_with (first | (refine wpList_store_row rfl 37 _ _ rfl (w.heap.size+1) #[.int .i64 4,.int .i64 0] rfl rfl 37 _ C2.out infoF rfl (by simp [Value.oneCell']) ?_))
  generalize u1.setRow (w.heap.size+1) #[.int .i64 4,.int .i64 0]=uz at HW HK ⊢
  (try go_wp2_with fail)
  (try simp only [Exit.inBlock,Exit.then])
  refine bodyPost_ret (v:=.agg #[.int .i64 4,.int .i64 0]) ?_ rfl ⟨by rw [RO.out];rfl,HW.out⟩
  exact results_cell_row rfl _ _ (w.heap.size+1) 37 _ (0,0) _ rfl HK.out Tryz.underlying37 rfl infoF
 | true =>
  have N1:Hid (∀ (j:Nat) x,j < 1→l[j]?=some x→x.2=none):=hJJ (fun j x hj hx=>by
   obtain rfl:j=0:=by omega
   obtain rfl:=Option.some.inj (hx.symm.trans LL0.out)
   show mayF T=none
   rw [MF.out,hm];rfl)
  have DM:=hJJ (DO.out hm)
  clear hm
  go_wp2_with (refine lgZ 32 ⟨w.heap.size,0,none⟩ c rfl LT.out Tryz.underlying32 IA.out ?_)
  (try go_wp2_with fail)
  refine (ON.out _ C0.out).mono ?_
  rintro e u2 ⟨rfl,hb⟩
  replace C0:Hid (Below w.heap.size w u2):=hJJ (C0.out.trans (hb.mono C0.out.size))
  replace C2:Hid (u2.heap[w.heap.size+1]?=some (.cells #[.int .i64 0,.int .i64 0] 37 (0,0))):=hJJ ((hb.block _ (Array.getElem?_eq_some_iff.1 C2.out).1).trans C2.out)
  replace LT:=hJJ (LT.out.below hb)
  replace PL:=hJJ (fun k hk=>(PL.out k hk).below hb)
  clear hb
  go_wp2_with fail
  refine (rlist_any _ _).mono ?_
  rintro e u3 ⟨v,rfl,hown,hb⟩
  rw [OL.out] at hown
  obtain ⟨la,lcap,rfl,hrow⟩:=row_of hown
  have HROW:=hJJ hrow
  replace C0:Hid (Below w.heap.size w u3):=hJJ (C0.out.trans (hb.mono C0.out.size))
  replace C2:Hid (u3.heap[w.heap.size+1]?=some (.cells #[.int .i64 0,.int .i64 0] 37 (0,0))):=hJJ ((hb.block _ (Array.getElem?_eq_some_iff.1 C2.out).1).trans C2.out)
  replace LT:=hJJ (LT.out.below hb)
  replace PL:=hJJ (fun k hk=>(PL.out k hk).below hb)
  clear hown hrow hb
  go_wp2_with fail
  go_loopw [25] (fun i wr=>∃ q:Nat,q≤L.length∧i=.int .i64 q∧(∀ i,i < q→(fun p=>phOk (phAt T p)) (L.getD i 0)=true)∧Below u3.heap.size u3 wr) (fun i _=>L.length - (intOf i).toNat)
  case atStart=>exact ⟨0,by omega,rfl,(fun j h=>by omega),Below.refl _ _⟩
  case round =>
   obtain ⟨q,hq,rfl,hall,hB⟩:=hrel
   have HA:=hJJ hall
   have HB:=hJJ hB
   have hROW:=HROW.out.below hB
   replace C0:Hid (Below w.heap.size w wr):=hJJ (C0.out.trans (hB.mono C0.out.size))
   replace C2:Hid (wr.heap[w.heap.size+1]?=some (.cells #[.int .i64 0,.int .i64 0] 37 (0,0))):=hJJ ((hB.block _ (Array.getElem?_eq_some_iff.1 C2.out).1).trans C2.out)
   replace LT:=hJJ (LT.out.below hB)
   replace PL:=hJJ (fun k hk=>(PL.out k hk).below hB)
   clear hall hB
   by_cases hlt:q < L.length
   ·obtain ⟨y,rfl,hcells⟩:=hROW.cells hlt
    have cq:=hcells q hlt
    have hmem:=getD_mem hlt
    have hbd:=BD.out _ hmem
    generalize hz:L.getD q 0=z at *
    have HZ:=hJJ hz
    clear hcells hz hmem hROW
    obtain ⟨p,rfl⟩:=Int.eq_ofNat_of_zero_le hbd.1
    have hp8:((p:Nat):Int) < 8:=hbd.2
    have hpn:p < 8:=by omega
    obtain ⟨gd,hgd⟩:∃ z,(fun p=>phOk (phAt T p)) ((p:Nat):Int)=z:=⟨_,rfl⟩
    have HPL:=hJJ (PL.out p hpn)
    go_wp2_with (refine Row.wpList_load_g 24 _ rfl (by first | rfl | go_simp) ⟨w.heap.size,p*13,none⟩ rfl (phAt T p).cells _ HPL.out Tryz.underlying24 rfl infoP ?_)
    (try go_wp2_with fail)
    have PC:=RkA.phase_any (phAt T p) wr
    rw [show phOk (phAt T ((p:Nat):Int))=gd from hgd] at PC
    refine PC.mono ?_
    rintro e wq ⟨rfl,hb⟩
    have HBQ:=hJJ (HB.out.trans (hb.mono HB.out.size))
    replace C0:Hid (Below w.heap.size w wq):=hJJ (C0.out.trans (hb.mono C0.out.size))
    replace C2:Hid (wq.heap[w.heap.size+1]?=some (.cells #[.int .i64 0,.int .i64 0] 37 (0,0))):=hJJ ((hb.block _ (Array.getElem?_eq_some_iff.1 C2.out).1).trans C2.out)
    replace LT:=hJJ (LT.out.below hb)
    replace PL:=hJJ (fun k hk=>(PL.out k hk).below hb)
    clear hb
    cases gd with
    | false =>
     have RO:Hid (ck=(7,((p:Nat):Int))):=hJJ (by
      rw [CK.out]
      refine first_hit (q:=1) ?_ N1.out
      rw [LL1.out,find_hit hlt (by rw [HZ.out];simp [hgd]) (fun i hi=>by have h1:=HA.out i hi;(try dsimp only at h1 ⊢);rw [h1];rfl),HZ.out])
     clear hgd
     have HW:=hJJ (below_setRow C0.out (g:=w.heap.size+1) (by omega) #[.int .i64 7,.int .i64 p])
     have HK:=hJJ (setRow_heap wq (w.heap.size+1) _ #[.int .i64 7,.int .i64 p] _ _ C2.out)
     go_wp2_with (first | (refine wpList_store_row rfl 37 _ _ rfl (w.heap.size+1) #[.int .i64 7,.int .i64 p] rfl rfl 37 _ C2.out infoF rfl (by simp [Value.oneCell']) ?_))
     generalize wq.setRow (w.heap.size+1) #[.int .i64 7,.int .i64 p]=uz at HW HK ⊢
     (try go_wp2_with fail)
     (try simp only [Exit.inBlock,Exit.then])
     refine bodyPost_ret (v:=.agg #[.int .i64 7,.int .i64 p]) ?_ rfl ⟨by rw [RO.out];rfl,HW.out⟩
     exact results_cell_row rfl _ _ (w.heap.size+1) 37 _ (0,0) _ rfl HK.out Tryz.underlying37 rfl infoF
    | true =>
     have HG:=hJJ hgd
     clear hgd
     go_wp2
     go_roundw
     case rel=>exact ⟨q+1,by omega,by go_num,(fun i hi=>by
      by_cases h1:i=q
      ·subst h1;rw [HZ.out];exact HG.out
      ·exact HA.out i (by omega)),HBQ.out⟩
     case measure=>simp [intOf];omega
   ·have FM:=hJJ (find_miss (f:=fun p=>!(fun p=>phOk (phAt T p)) p) (L:=L) (fun i hi=>by have h1:=HA.out i (by omega);(try dsimp only at h1 ⊢);rw [h1];rfl))
    have N2:Hid (∀ (j:Nat) x,j < 2→l[j]?=some x→x.2=none):=hJJ (fun j x hj hx=>by
     by_cases hjj:j=1
     ·subst hjj;obtain rfl:=Option.some.inj (hx.symm.trans LL1.out);exact FM.out
     ·exact N1.out j x (by omega) hx)
    go_wp2_with (refine lgZ 32 ⟨w.heap.size,0,none⟩ c rfl LT.out Tryz.underlying32 IA.out ?_)
    (try go_wp2_with fail)
    refine (RG.out _ C0.out).mono ?_
    rintro e v1 ⟨rfl,hb⟩
    replace C0:Hid (Below w.heap.size w v1):=hJJ (C0.out.trans (hb.mono C0.out.size))
    replace C2:Hid (v1.heap[w.heap.size+1]?=some (.cells #[.int .i64 0,.int .i64 0] 37 (0,0))):=hJJ ((hb.block _ (Array.getElem?_eq_some_iff.1 C2.out).1).trans C2.out)
    replace LT:=hJJ (LT.out.below hb)
    replace PL:=hJJ (fun k hk=>(PL.out k hk).below hb)
    clear hb
    cases hrg:ringsR T with
    | some p =>
     have RO:Hid (ck=(8,p)):=hJJ (by rw [CK.out];exact first_hit (q:=2) (by rw [LL2.out,hrg]) N2.out)
     clear hrg
     go_upto_region 11 with (refine Row.wpList_store_new rfl 37 _ _ rfl v1 _ #[I 8,I p] rfl rfl rfl infoF rfl (by simp [Value.oneCell']) ?_)
     have hb:Below v1.heap.size v1 (v1.alloc (.cells #[I 8,I p] 37)):=(Below.refl _ _).alloc (Nat.le_refl _) _
     have hg:=heap_alloc_new v1 (.cells #[I 8,I p] 37)
     replace C0:Hid (Below w.heap.size w (v1.alloc (.cells #[I 8,I p] 37))):=hJJ (C0.out.trans (hb.mono C0.out.size))
     replace C2:Hid ((v1.alloc (.cells #[I 8,I p] 37)).heap[w.heap.size+1]?=some (.cells #[.int .i64 0,.int .i64 0] 37 (0,0))):=hJJ ((hb.block _ (Array.getElem?_eq_some_iff.1 C2.out).1).trans C2.out)
     replace LT:=hJJ (LT.out.below hb)
     replace PL:=hJJ (fun k hk=>(PL.out k hk).below hb)
     have d0:(v1.alloc (.cells #[I 8,I p] 37)).cell? ⟨v1.heap.size,0,none⟩=some (I 8):=by rw [cell_of_row _ _ _ _ _ _ hg];rfl
     have HL:Hid (Lies (v1.alloc (.cells #[I 8,I p] 37)) ⟨v1.heap.size,0,none⟩ #[I 8,I p].toList):=hJJ (Row.lies_of_block hg)
     clear hb hg
     generalize v1.alloc (.cells #[I 8,I p] 37)=v2 at *
     generalize v1.heap.size=b1 at *
     have HW:=hJJ (below_setRow C0.out (g:=w.heap.size+1) (by omega) #[I 8,I p])
     have HK:=hJJ (setRow_heap v2 (w.heap.size+1) _ #[I 8,I p] _ _ C2.out)
     go_wp2_with (first | (refine lgZ 37 ⟨b1,0,none⟩ [I 8,I p] rfl HL.out Tryz.underlying37 infoF ?_) | (refine wpList_store_row rfl 37 _ _ rfl (w.heap.size+1) #[I 8,I p] rfl rfl 37 _ C2.out infoF rfl (by simp [Value.oneCell']) ?_))
     generalize v2.setRow (w.heap.size+1) #[I 8,I p]=uz at HW HK ⊢
     (try go_wp2_with fail)
     (try simp only [Exit.inBlock,Exit.then])
     refine bodyPost_ret (v:=.agg #[I 8,I p]) ?_ rfl ⟨by rw [RO.out];rfl,HW.out⟩
     exact results_cell_row rfl _ _ (w.heap.size+1) 37 _ (0,0) _ rfl HK.out Tryz.underlying37 rfl infoF
    | none =>
     have N3:Hid (∀ (j:Nat) x,j < 3→l[j]?=some x→x.2=none):=hJJ (fun j x hj hx=>by
      by_cases hjj:j=2
      ·subst hjj;obtain rfl:=Option.some.inj (hx.symm.trans LL2.out);exact hrg
      ·exact N2.out j x (by omega) hx)
     clear hrg
     go_upto_region 11 with (refine Row.wpList_store_new rfl 37 _ _ rfl v1 _ #[I 0,I 0] rfl rfl rfl infoF rfl (by simp [Value.oneCell']) ?_)
     have hb:Below v1.heap.size v1 (v1.alloc (.cells #[I 0,I 0] 37)):=(Below.refl _ _).alloc (Nat.le_refl _) _
     have hg:=heap_alloc_new v1 (.cells #[I 0,I 0] 37)
     replace C0:Hid (Below w.heap.size w (v1.alloc (.cells #[I 0,I 0] 37))):=hJJ (C0.out.trans (hb.mono C0.out.size))
     replace C2:Hid ((v1.alloc (.cells #[I 0,I 0] 37)).heap[w.heap.size+1]?=some (.cells #[.int .i64 0,.int .i64 0] 37 (0,0))):=hJJ ((hb.block _ (Array.getElem?_eq_some_iff.1 C2.out).1).trans C2.out)
     replace LT:=hJJ (LT.out.below hb)
     replace PL:=hJJ (fun k hk=>(PL.out k hk).below hb)
     have d0:(v1.alloc (.cells #[I 0,I 0] 37)).cell? ⟨v1.heap.size,0,none⟩=some (I 0):=by rw [cell_of_row _ _ _ _ _ _ hg];rfl
     have HL:Hid (Lies (v1.alloc (.cells #[I 0,I 0] 37)) ⟨v1.heap.size,0,none⟩ #[I 0,I 0].toList):=hJJ (Row.lies_of_block hg)
     clear hb hg
     generalize v1.alloc (.cells #[I 0,I 0] 37)=v2 at *
     generalize v1.heap.size=b1 at *
     go_wp2_with fail
     refine (rlist_any _ _).mono ?_
     rintro e u4 ⟨v,rfl,hown,hb⟩
     rw [OL.out] at hown
     obtain ⟨la,lcap,rfl,hrow⟩:=row_of hown
     have HROW:=hJJ hrow
     replace C0:Hid (Below w.heap.size w u4):=hJJ (C0.out.trans (hb.mono C0.out.size))
     replace C2:Hid (u4.heap[w.heap.size+1]?=some (.cells #[.int .i64 0,.int .i64 0] 37 (0,0))):=hJJ ((hb.block _ (Array.getElem?_eq_some_iff.1 C2.out).1).trans C2.out)
     replace LT:=hJJ (LT.out.below hb)
     replace PL:=hJJ (fun k hk=>(PL.out k hk).below hb)
     clear hown hrow hb
     go_wp2_with fail
     go_loopw [47] (fun i wr=>∃ q:Nat,q≤L.length∧i=.int .i64 q∧(∀ i,i < q→(confOk T) (L.getD i 0)=true)∧Below u4.heap.size u4 wr) (fun i _=>L.length - (intOf i).toNat)
     case atStart=>exact ⟨0,by omega,rfl,(fun j h=>by omega),Below.refl _ _⟩
     case round =>
      obtain ⟨q,hq,rfl,hall,hB⟩:=hrel
      have HA:=hJJ hall
      have HB:=hJJ hB
      have hROW:=HROW.out.below hB
      replace C0:Hid (Below w.heap.size w wr):=hJJ (C0.out.trans (hB.mono C0.out.size))
      replace C2:Hid (wr.heap[w.heap.size+1]?=some (.cells #[.int .i64 0,.int .i64 0] 37 (0,0))):=hJJ ((hB.block _ (Array.getElem?_eq_some_iff.1 C2.out).1).trans C2.out)
      replace LT:=hJJ (LT.out.below hB)
      replace PL:=hJJ (fun k hk=>(PL.out k hk).below hB)
      clear hall hB
      by_cases hlt:q < L.length
      ·obtain ⟨y,rfl,hcells⟩:=hROW.cells hlt
       have cq:=hcells q hlt
       have hmem:=getD_mem hlt
       have hbd:=BD.out _ hmem
       generalize hz:L.getD q 0=z at *
       have HZ:=hJJ hz
       clear hcells hz hmem hROW
       obtain ⟨p,rfl⟩:=Int.eq_ofNat_of_zero_le hbd.1
       have hp8:((p:Nat):Int) < 8:=hbd.2
       have hpn:p < 8:=by omega
       obtain ⟨gd,hgd⟩:∃ z,(confOk T) ((p:Nat):Int)=z:=⟨_,rfl⟩
       have PC:=CF.out p wr hpn C0.out
       rw [hgd] at PC
       go_wp2_with (refine lgZ 32 ⟨w.heap.size,0,none⟩ c rfl LT.out Tryz.underlying32 IA.out ?_)
       (try go_wp2_with fail)
       refine PC.mono ?_
       rintro e wq ⟨rfl,hb⟩
       have HBQ:=hJJ (HB.out.trans (hb.mono HB.out.size))
       replace C0:Hid (Below w.heap.size w wq):=hJJ (C0.out.trans (hb.mono C0.out.size))
       replace C2:Hid (wq.heap[w.heap.size+1]?=some (.cells #[.int .i64 0,.int .i64 0] 37 (0,0))):=hJJ ((hb.block _ (Array.getElem?_eq_some_iff.1 C2.out).1).trans C2.out)
       replace LT:=hJJ (LT.out.below hb)
       replace PL:=hJJ (fun k hk=>(PL.out k hk).below hb)
       clear hb
       cases gd with
       | false =>
        have RO:Hid (ck=(9,((p:Nat):Int))):=hJJ (by
         rw [CK.out]
         refine first_hit (q:=3) ?_ N3.out
         rw [LL3.out,find_hit hlt (by rw [HZ.out];simp [hgd]) (fun i hi=>by have h1:=HA.out i hi;(try dsimp only at h1 ⊢);rw [h1];rfl),HZ.out])
        clear hgd
        have HW:=hJJ (below_setRow C0.out (g:=w.heap.size+1) (by omega) #[.int .i64 9,.int .i64 p])
        have HK:=hJJ (setRow_heap wq (w.heap.size+1) _ #[.int .i64 9,.int .i64 p] _ _ C2.out)
        go_wp2_with (first | (refine wpList_store_row rfl 37 _ _ rfl (w.heap.size+1) #[.int .i64 9,.int .i64 p] rfl rfl 37 _ C2.out infoF rfl (by simp [Value.oneCell']) ?_))
        generalize wq.setRow (w.heap.size+1) #[.int .i64 9,.int .i64 p]=uz at HW HK ⊢
        (try go_wp2_with fail)
        (try simp only [Exit.inBlock,Exit.then])
        refine bodyPost_ret (v:=.agg #[.int .i64 9,.int .i64 p]) ?_ rfl ⟨by rw [RO.out];rfl,HW.out⟩
        exact results_cell_row rfl _ _ (w.heap.size+1) 37 _ (0,0) _ rfl HK.out Tryz.underlying37 rfl infoF
       | true =>
        have HG:=hJJ hgd
        clear hgd
        go_wp2
        go_roundw
        case rel=>exact ⟨q+1,by omega,by go_num,(fun i hi=>by
         by_cases h1:i=q
         ·subst h1;rw [HZ.out];exact HG.out
         ·exact HA.out i (by omega)),HBQ.out⟩
        case measure=>simp [intOf];omega
      ·have FM:=hJJ (find_miss (f:=fun p=>!(confOk T) p) (L:=L) (fun i hi=>by have h1:=HA.out i (by omega);(try dsimp only at h1 ⊢);rw [h1];rfl))
       have N4:Hid (∀ (j:Nat) x,j < 4→l[j]?=some x→x.2=none):=hJJ (fun j x hj hx=>by
        by_cases hjj:j=3
        ·subst hjj;obtain rfl:=Option.some.inj (hx.symm.trans LL3.out);exact FM.out
        ·exact N3.out j x (by omega) hx)
       rename World=>wd
       go_wp2_with fail
       go_loopw [9] (fun i wr=>∃ q:Nat,q≤T.dets.length∧i=.int .i64 q∧(∀ (j:Nat) u,j < q→T.dets[j]?=some u→(detR T) u=false)∧Below wd.heap.size wd wr) (fun i _=>T.dets.length - (intOf i).toNat)
       case atStart=>exact ⟨0,by omega,rfl,(fun j u h=>by omega),Below.refl _ _⟩
       case round =>
        obtain ⟨q,hq,rfl,hall,hB⟩:=hrel
        have HA:=hJJ hall
        have HB:=hJJ hB
        replace C0:Hid (Below w.heap.size w wr):=hJJ (C0.out.trans (hB.mono C0.out.size))
        replace C2:Hid (wr.heap[w.heap.size+1]?=some (.cells #[.int .i64 0,.int .i64 0] 37 (0,0))):=hJJ ((hB.block _ (Array.getElem?_eq_some_iff.1 C2.out).1).trans C2.out)
        replace LT:=hJJ (LT.out.below hB)
        replace PL:=hJJ (fun k hk=>(PL.out k hk).below hB)
        clear hall hB
        have qs:=lies_at LT.out 113 (by decide) C113.out
        by_cases hlt:q < T.dets.length
        ·have hv:=List.getElem?_eq_getElem hlt
         generalize hz:T.dets[q]=v at hv
         have hmem:v ∈ T.dets:=List.mem_of_getElem? hv
         have HV:=hJJ hv
         clear hv hz
         obtain ⟨y,hy,hc⟩:=(RD.out.below C0.out).at HV.out
         rw [RDa.out] at hy
         obtain rfl:da=some y:=hy
         have HC:=hJJ hc
         clear hc
         have DV:=hJJ (DM.out v hmem)
         clear hmem
         obtain ⟨ph,don,doff,ddelay,dextend,dmOn,dmOff⟩:=v
         have DQ:=hJJ (DR.out ⟨ph,don,doff,ddelay,dextend,dmOn,dmOff⟩)
         have ho:=Secs.ord_cases doff don DV.out.2.1 DV.out.1
         have HOC:=hJJ ho
         clear ho
         obtain ⟨hp,hhp⟩:∃ z,SetM.has on ph=z:=⟨_,rfl⟩
         have HHP:=hJJ hhp
         clear hhp
         have hwr:=HB.out.size
         go_upto_region 23 with (first | (refine Row.wpList_load_g 45 _ rfl (by first | rfl | go_simp) (y.add (q*7)) rfl (Det.cells ⟨ph,don,doff,ddelay,dextend,dmOn,dmOff⟩) _ HC.out Tryz.underlying45 rfl infoD ?_) | (refine Row.wpList_store_new rfl 45 _ _ rfl wr _ (Det.cells ⟨ph,don,doff,ddelay,dextend,dmOn,dmOff⟩).toArray rfl rfl rfl infoD rfl (Det.one _) ?_))
         have hb:Below wr.heap.size wr (wr.alloc (.cells (Det.cells ⟨ph,don,doff,ddelay,dextend,dmOn,dmOff⟩).toArray 45)):=(Below.refl _ _).alloc (Nat.le_refl _) _
         have hg:=heap_alloc_new wr (.cells (Det.cells ⟨ph,don,doff,ddelay,dextend,dmOn,dmOff⟩).toArray 45)
         have HBQ:=hJJ (HB.out.trans (hb.mono HB.out.size))
         replace C0:Hid (Below w.heap.size w (wr.alloc (.cells (Det.cells ⟨ph,don,doff,ddelay,dextend,dmOn,dmOff⟩).toArray 45))):=hJJ (C0.out.trans (hb.mono C0.out.size))
         replace C2:Hid ((wr.alloc (.cells (Det.cells ⟨ph,don,doff,ddelay,dextend,dmOn,dmOff⟩).toArray 45)).heap[w.heap.size+1]?=some (.cells #[.int .i64 0,.int .i64 0] 37 (0,0))):=hJJ ((hb.block _ (Array.getElem?_eq_some_iff.1 C2.out).1).trans C2.out)
         replace LT:=hJJ (LT.out.below hb)
         replace PL:=hJJ (fun k hk=>(PL.out k hk).below hb)
         clear hb
         have d0:(wr.alloc (.cells (Det.cells ⟨ph,don,doff,ddelay,dextend,dmOn,dmOff⟩).toArray 45)).cell? ⟨wr.heap.size,0,none⟩=some (I ph):=by rw [cell_of_row _ _ _ _ _ _ hg];rfl
         have d1:(wr.alloc (.cells (Det.cells ⟨ph,don,doff,ddelay,dextend,dmOn,dmOff⟩).toArray 45)).cell? ⟨wr.heap.size,1,none⟩=some (.float .f64 don):=by rw [cell_of_row _ _ _ _ _ _ hg];rfl
         have d2:(wr.alloc (.cells (Det.cells ⟨ph,don,doff,ddelay,dextend,dmOn,dmOff⟩).toArray 45)).cell? ⟨wr.heap.size,2,none⟩=some (.float .f64 doff):=by rw [cell_of_row _ _ _ _ _ _ hg];rfl
         clear hg HC qs
         generalize hxc:(Det.cells ⟨ph,don,doff,ddelay,dextend,dmOn,dmOff⟩)=xc at *
         clear hxc
         generalize wr.alloc (.cells xc.toArray 45)=wq at *
         generalize wr.heap.size=b1 at *
         have D0:=hJJ d0
         rcases HOC.out with ⟨ga,ho⟩ | ⟨ga,ho⟩ | ⟨ga,ho⟩
         ·have GT:Hid (gtF doff don=false):=hJJ (by unfold gtF;exact decide_eq_false (by omega))
          clear ga
          go_wp2_with fail
          refine (rhas_any _ _ _).mono ?_
          rintro e w' ⟨rfl,rfl⟩
          rw [HHP.out]
          rename World=>wq
          cases hp with
          | false =>
           have BADV:Hid (detR T ⟨ph,don,doff,ddelay,dextend,dmOn,dmOff⟩=true):=hJJ (by rw [DQ.out];(try dsimp only);rw [GT.out,HHP.out];rfl)
           have RO:Hid (ck=(10,((q:Nat):Int))):=hJJ (by rw [CK.out];exact first_hit (q:=4) (by rw [LL4.out,idx_hit HV.out BADV.out HA.out]) N4.out)
           have HW:=hJJ (below_setRow C0.out (g:=w.heap.size+1) (by omega) #[.int .i64 10,.int .i64 q])
           have HK:=hJJ (setRow_heap wq (w.heap.size+1) _ #[.int .i64 10,.int .i64 q] _ _ C2.out)
           go_wp2_with (first | (refine wpList_store_row rfl 37 _ _ rfl (w.heap.size+1) #[.int .i64 10,.int .i64 q] rfl rfl 37 _ C2.out infoF rfl (by simp [Value.oneCell']) ?_))
           generalize wq.setRow (w.heap.size+1) #[.int .i64 10,.int .i64 q]=uz at HW HK ⊢
           (try go_wp2_with fail)
           (try simp only [Exit.inBlock,Exit.then])
           refine bodyPost_ret (v:=.agg #[.int .i64 10,.int .i64 q]) ?_ rfl ⟨by rw [RO.out];rfl,HW.out⟩
           exact results_cell_row rfl _ _ (w.heap.size+1) 37 _ (0,0) _ rfl HK.out Tryz.underlying37 rfl infoF
          | true =>
           have BADV:Hid (detR T ⟨ph,don,doff,ddelay,dextend,dmOn,dmOff⟩=false):=hJJ (by rw [DQ.out];(try dsimp only);rw [GT.out,HHP.out];rfl)
           have HF:=hJJ BADV.out
           go_wp2
           go_roundw
           case rel=>exact ⟨q+1,by omega,by go_num,(fun j u hj hu=>by
            by_cases e:j=q
            ·subst e;obtain rfl:=Option.some.inj (hu.symm.trans HV.out);exact HF.out
            ·exact HA.out j u (by omega) hu),HBQ.out⟩
           case measure=>simp [intOf];omega
         ·have GT:Hid (gtF doff don=false):=hJJ (by unfold gtF;exact decide_eq_false (by omega))
          clear ga
          go_wp2_with fail
          refine (rhas_any _ _ _).mono ?_
          rintro e w' ⟨rfl,rfl⟩
          rw [HHP.out]
          rename World=>wq
          cases hp with
          | false =>
           have BADV:Hid (detR T ⟨ph,don,doff,ddelay,dextend,dmOn,dmOff⟩=true):=hJJ (by rw [DQ.out];(try dsimp only);rw [GT.out,HHP.out];rfl)
           have RO:Hid (ck=(10,((q:Nat):Int))):=hJJ (by rw [CK.out];exact first_hit (q:=4) (by rw [LL4.out,idx_hit HV.out BADV.out HA.out]) N4.out)
           have HW:=hJJ (below_setRow C0.out (g:=w.heap.size+1) (by omega) #[.int .i64 10,.int .i64 q])
           have HK:=hJJ (setRow_heap wq (w.heap.size+1) _ #[.int .i64 10,.int .i64 q] _ _ C2.out)
           go_wp2_with (first | (refine wpList_store_row rfl 37 _ _ rfl (w.heap.size+1) #[.int .i64 10,.int .i64 q] rfl rfl 37 _ C2.out infoF rfl (by simp [Value.oneCell']) ?_))
           generalize wq.setRow (w.heap.size+1) #[.int .i64 10,.int .i64 q]=uz at HW HK ⊢
           (try go_wp2_with fail)
           (try simp only [Exit.inBlock,Exit.then])
           refine bodyPost_ret (v:=.agg #[.int .i64 10,.int .i64 q]) ?_ rfl ⟨by rw [RO.out];rfl,HW.out⟩
           exact results_cell_row rfl _ _ (w.heap.size+1) 37 _ (0,0) _ rfl HK.out Tryz.underlying37 rfl infoF
          | true =>
           have BADV:Hid (detR T ⟨ph,don,doff,ddelay,dextend,dmOn,dmOff⟩=false):=hJJ (by rw [DQ.out];(try dsimp only);rw [GT.out,HHP.out];rfl)
           have HF:=hJJ BADV.out
           go_wp2
           go_roundw
           case rel=>exact ⟨q+1,by omega,by go_num,(fun j u hj hu=>by
            by_cases e:j=q
            ·subst e;obtain rfl:=Option.some.inj (hu.symm.trans HV.out);exact HF.out
            ·exact HA.out j u (by omega) hu),HBQ.out⟩
           case measure=>simp [intOf];omega
         ·have BADV:Hid (detR T ⟨ph,don,doff,ddelay,dextend,dmOn,dmOff⟩=true):=hJJ (by rw [DQ.out];unfold gtF;(try dsimp only);rw [decide_eq_true (by omega)];rfl)
          clear ga
          have RO:Hid (ck=(10,((q:Nat):Int))):=hJJ (by rw [CK.out];exact first_hit (q:=4) (by rw [LL4.out,idx_hit HV.out BADV.out HA.out]) N4.out)
          have HW:=hJJ (below_setRow C0.out (g:=w.heap.size+1) (by omega) #[.int .i64 10,.int .i64 q])
          have HK:=hJJ (setRow_heap wq (w.heap.size+1) _ #[.int .i64 10,.int .i64 q] _ _ C2.out)
          go_wp2_with (first | (refine wpList_store_row rfl 37 _ _ rfl (w.heap.size+1) #[.int .i64 10,.int .i64 q] rfl rfl 37 _ C2.out infoF rfl (by simp [Value.oneCell']) ?_))
          generalize wq.setRow (w.heap.size+1) #[.int .i64 10,.int .i64 q]=uz at HW HK ⊢
          (try go_wp2_with fail)
          (try simp only [Exit.inBlock,Exit.then])
          refine bodyPost_ret (v:=.agg #[.int .i64 10,.int .i64 q]) ?_ rfl ⟨by rw [RO.out];rfl,HW.out⟩
          exact results_cell_row rfl _ _ (w.heap.size+1) 37 _ (0,0) _ rfl HK.out Tryz.underlying37 rfl infoF
        ·have FM:=hJJ (idx_miss (f:=detR T) (l:=T.dets) (fun j u hu=>HA.out j u (by have:=(List.getElem?_eq_some_iff.1 hu).1;omega) hu))
         have N5:Hid (∀ (j:Nat) x,j < 5→l[j]?=some x→x.2=none):=hJJ (fun j x hj hx=>by
          by_cases hjj:j=4
          ·subst hjj;obtain rfl:=Option.some.inj (hx.symm.trans LL4.out);exact FM.out
          ·exact N4.out j x (by omega) hx)
         rename World=>wd
         go_wp2_with fail
         go_loopw [11] (fun i wr=>∃ q:Nat,q≤T.rails.length∧i=.int .i64 q∧(∀ (j:Nat) u,j < q→T.rails[j]?=some u→(fun r=>!railOk T r) u=false)∧Below wd.heap.size wd wr) (fun i _=>T.rails.length - (intOf i).toNat)
         case atStart=>exact ⟨0,by omega,rfl,(fun j u h=>by omega),Below.refl _ _⟩
         case round =>
          obtain ⟨q,hq,rfl,hall,hB⟩:=hrel
          have HA:=hJJ hall
          have HB:=hJJ hB
          replace C0:Hid (Below w.heap.size w wr):=hJJ (C0.out.trans (hB.mono C0.out.size))
          replace C2:Hid (wr.heap[w.heap.size+1]?=some (.cells #[.int .i64 0,.int .i64 0] 37 (0,0))):=hJJ ((hB.block _ (Array.getElem?_eq_some_iff.1 C2.out).1).trans C2.out)
          replace LT:=hJJ (LT.out.below hB)
          replace PL:=hJJ (fun k hk=>(PL.out k hk).below hB)
          clear hall hB
          have qs:=lies_at LT.out 114 (by decide) C114.out
          by_cases hlt:q < T.rails.length
          ·have hv:=List.getElem?_eq_getElem hlt
           generalize hz:T.rails[q]=v at hv
           have hmem:v ∈ T.rails:=List.mem_of_getElem? hv
           have HV:=hJJ hv
           clear hv hz
           obtain ⟨y,hy,hc⟩:=(RR.out.below C0.out).at HV.out
           rw [RRa.out] at hy
           obtain rfl:ra=some y:=hy
           have HC:=hJJ hc
           clear hc
           obtain ⟨gd,hgd⟩:∃ z,railOk T v=z:=⟨_,rfl⟩
           have hne:Nonempty (Ph.S (Row.Old wr)):=⟨⟨0,wr,Below.refl _ _⟩⟩
           have QS:∀ p:Ph.S (Row.Old wr),p.world.cell? ⟨w.heap.size,114,none⟩=some (.slice (some y) T.rails.length rcap):=fun p=>(p.is.cell (World.block_lt_of_cell? wr _ qs)).trans qs
           have RLW:Hid (∀ p:Ph.S (Row.Old wr),Calls Tryz.prog 52 #[.agg c.toArray,.agg v.cells.toArray,.int .i64 on] p.world fun e w'=>e=.returned (.bool gd)∧Below p.world.heap.size p.world w'):=hJJ (fun p=>by have:=RL.out v p.world (C0.out.trans (p.is.mono C0.out.size));rwa [hgd] at this)
           have hqi:((q:Nat):Int) < (T.rails.length:Nat):=by omega
           have HGD:=hJJ hgd
           have IV:Hid ((Tryz.prog.info? 47).map (·.size)=some v.cells.length):=hJJ infoR
           clear hgd hmem
           generalize hxc:v.cells=xc at *
           clear hxc
           go_upto_region 28 with fail
           clear qs
           refine Pw.region (Row.Old wr) [] hmx (by kernel_rfl) (Row.Old.drew _) ?_
           refine Pw.load rfl (by rfl) 32 _ rfl ⟨w.heap.size,0,none⟩ rfl c _ (fun p=>LT.out.below p.is) Tryz.underlying32 rfl IA.out ?_
           (try dsimp only [Act.put]);(try simp only [zA,zB,zC])
           (refine Pw.calm rfl (fun K hK=>?_)
            go_simp
            refine hK _ ?_
            clear hK K)
           (refine Pw.calm rfl (fun K hK=>?_)
            go_simp
            refine hK _ ?_
            clear hK K)
           (refine Pw.calm rfl (fun K hK=>?_)
            go_simp
            refine hK _ ?_
            clear hK K)
           (refine Pw.calm rfl (fun K hK=>?_)
            go_simp
            refine hK _ ?_
            clear hK K)
           refine Pw.load rfl (by rfl) 47 _ rfl (y.add (q*11)) rfl xc _ (fun p=>HC.out.below p.is) Tryz.underlying47 rfl IV.out ?_
           (try dsimp only [Act.put]);(try simp only [zA,zB,zC])
           (refine Pw.calm rfl (fun K hK=>?_)
            go_simp
            refine hK _ ?_
            clear hK K)
           (refine Pw.calm rfl (fun K hK=>?_)
            go_simp
            refine ⟨_,fun p=>Row.Old.call (RLW.out p),hK _ ?_⟩
            clear hK K)
           (refine Pw.calm rfl (fun K hK=>?_)
            go_simp
            refine hK _ ?_
            clear hK K)
           refine Pw.nil ?_
           intro wq hb
           have HBQ:=hJJ (HB.out.trans (hb.mono HB.out.size))
           replace C0:Hid (Below w.heap.size w wq):=hJJ (C0.out.trans (hb.mono C0.out.size))
           replace C2:Hid (wq.heap[w.heap.size+1]?=some (.cells #[.int .i64 0,.int .i64 0] 37 (0,0))):=hJJ ((hb.block _ (Array.getElem?_eq_some_iff.1 C2.out).1).trans C2.out)
           replace LT:=hJJ (LT.out.below hb)
           replace PL:=hJJ (fun k hk=>(PL.out k hk).below hb)
           clear hb QS hne RLW
           cases gd with
           | false =>
            have BADV:Hid ((fun r=>!railOk T r) v=true):=hJJ (by (try dsimp only);rw [HGD.out];rfl)
            have RO:Hid (ck=(11,((q:Nat):Int))):=hJJ (by rw [CK.out];exact first_hit (q:=5) (by rw [LL5.out,idx_hit HV.out BADV.out HA.out]) N5.out)
            have HW:=hJJ (below_setRow C0.out (g:=w.heap.size+1) (by omega) #[.int .i64 11,.int .i64 q])
            have HK:=hJJ (setRow_heap wq (w.heap.size+1) _ #[.int .i64 11,.int .i64 q] _ _ C2.out)
            go_wp2_with (first | (refine wpList_store_row rfl 37 _ _ rfl (w.heap.size+1) #[.int .i64 11,.int .i64 q] rfl rfl 37 _ C2.out infoF rfl (by simp [Value.oneCell']) ?_))
            generalize wq.setRow (w.heap.size+1) #[.int .i64 11,.int .i64 q]=uz at HW HK ⊢
            (try go_wp2_with fail)
            (try simp only [Exit.inBlock,Exit.then])
            refine bodyPost_ret (v:=.agg #[.int .i64 11,.int .i64 q]) ?_ rfl ⟨by rw [RO.out];rfl,HW.out⟩
            exact results_cell_row rfl _ _ (w.heap.size+1) 37 _ (0,0) _ rfl HK.out Tryz.underlying37 rfl infoF
           | true =>
            have BADV:Hid ((fun r=>!railOk T r) v=false):=hJJ (by (try dsimp only);rw [HGD.out];rfl)
            have HF:=hJJ BADV.out
            go_wp2
            go_roundw
            case rel=>exact ⟨q+1,by omega,by go_num,(fun j u hj hu=>by
             by_cases e:j=q
             ·subst e;obtain rfl:=Option.some.inj (hu.symm.trans HV.out);exact HF.out
             ·exact HA.out j u (by omega) hu),HBQ.out⟩
            case measure=>simp [intOf];omega
          ·have FM:=hJJ (idx_miss (f:=(fun r=>!railOk T r)) (l:=T.rails) (fun j u hu=>HA.out j u (by have:=(List.getElem?_eq_some_iff.1 hu).1;omega) hu))
           have N6:Hid (∀ (j:Nat) x,j < 6→l[j]?=some x→x.2=none):=hJJ (fun j x hj hx=>by
            by_cases hjj:j=5
            ·subst hjj;obtain rfl:=Option.some.inj (hx.symm.trans LL5.out);exact FM.out
            ·exact N5.out j x (by omega) hx)
           rename World=>wd
           go_wp2_with fail
           go_loopw [12] (fun i wr=>∃ q:Nat,q≤T.buses.length∧i=.int .i64 q∧(∀ (j:Nat) u,j < q→T.buses[j]?=some u→(busR T) u=false)∧Below wd.heap.size wd wr) (fun i _=>T.buses.length - (intOf i).toNat)
           case atStart=>exact ⟨0,by omega,rfl,(fun j u h=>by omega),Below.refl _ _⟩
           case round =>
            obtain ⟨q,hq,rfl,hall,hB⟩:=hrel
            have HA:=hJJ hall
            have HB:=hJJ hB
            replace C0:Hid (Below w.heap.size w wr):=hJJ (C0.out.trans (hB.mono C0.out.size))
            replace C2:Hid (wr.heap[w.heap.size+1]?=some (.cells #[.int .i64 0,.int .i64 0] 37 (0,0))):=hJJ ((hB.block _ (Array.getElem?_eq_some_iff.1 C2.out).1).trans C2.out)
            replace LT:=hJJ (LT.out.below hB)
            replace PL:=hJJ (fun k hk=>(PL.out k hk).below hB)
            clear hall hB
            have qs:=lies_at LT.out 115 (by decide) C115.out
            by_cases hlt:q < T.buses.length
            ·have hv:=List.getElem?_eq_getElem hlt
             generalize hz:T.buses[q]=v at hv
             have hmem:v ∈ T.buses:=List.mem_of_getElem? hv
             have HV:=hJJ hv
             clear hv hz
             obtain ⟨y,hy,hc⟩:=(RB.out.below C0.out).at HV.out
             rw [RBa.out] at hy
             obtain rfl:ba=some y:=hy
             have HC:=hJJ hc
             clear hc
             clear hmem
             obtain ⟨bset,block⟩:=v
             have BQ:=hJJ (BR.out ⟨bset,block⟩)
             have hwr:=HB.out.size
             go_upto_region 34 with (first | (refine Row.wpList_load_g 49 _ rfl (by first | rfl | go_simp) (y.add (q*2)) rfl (Bs.cells ⟨bset,block⟩) _ HC.out Tryz.underlying49 rfl infoB ?_) | (refine Row.wpList_store_new rfl 49 _ _ rfl wr _ (Bs.cells ⟨bset,block⟩).toArray rfl rfl rfl infoB rfl (Bs.one _) ?_))
             have hb:Below wr.heap.size wr (wr.alloc (.cells (Bs.cells ⟨bset,block⟩).toArray 49)):=(Below.refl _ _).alloc (Nat.le_refl _) _
             have hg:=heap_alloc_new wr (.cells (Bs.cells ⟨bset,block⟩).toArray 49)
             have HBQ:=hJJ (HB.out.trans (hb.mono HB.out.size))
             replace C0:Hid (Below w.heap.size w (wr.alloc (.cells (Bs.cells ⟨bset,block⟩).toArray 49))):=hJJ (C0.out.trans (hb.mono C0.out.size))
             replace C2:Hid ((wr.alloc (.cells (Bs.cells ⟨bset,block⟩).toArray 49)).heap[w.heap.size+1]?=some (.cells #[.int .i64 0,.int .i64 0] 37 (0,0))):=hJJ ((hb.block _ (Array.getElem?_eq_some_iff.1 C2.out).1).trans C2.out)
             replace LT:=hJJ (LT.out.below hb)
             replace PL:=hJJ (fun k hk=>(PL.out k hk).below hb)
             clear hb
             have d0:(wr.alloc (.cells (Bs.cells ⟨bset,block⟩).toArray 49)).cell? ⟨wr.heap.size,0,none⟩=some (I bset):=by rw [cell_of_row _ _ _ _ _ _ hg];rfl
             have d1:(wr.alloc (.cells (Bs.cells ⟨bset,block⟩).toArray 49)).cell? ⟨wr.heap.size,1,none⟩=some (I block):=by rw [cell_of_row _ _ _ _ _ _ hg];rfl
             clear hg HC qs
             generalize hxc:(Bs.cells ⟨bset,block⟩)=xc at *
             clear hxc
             generalize wr.alloc (.cells xc.toArray 49)=wq at *
             generalize wr.heap.size=b1 at *
             obtain ⟨hi,hhi⟩:∃ z,inR bset on=z:=⟨_,rfl⟩
             have HHI:=hJJ hhi
             clear hhi
             by_cases hs0:bset=0
             ·have BADV:Hid (busR T ⟨bset,block⟩=true):=hJJ (by rw [BQ.out];(try dsimp only);rw [hs0];rfl)
              have hsb:(bset == 0)=true:=beq_iff_eq.2 hs0
              clear hs0
              have RO:Hid (ck=(12,((q:Nat):Int))):=hJJ (by rw [CK.out];exact first_hit (q:=6) (by rw [LL6.out,idx_hit HV.out BADV.out HA.out]) N6.out)
              have HW:=hJJ (below_setRow C0.out (g:=w.heap.size+1) (by omega) #[.int .i64 12,.int .i64 q])
              have HK:=hJJ (setRow_heap wq (w.heap.size+1) _ #[.int .i64 12,.int .i64 q] _ _ C2.out)
              go_wp2_with (first | (refine wpList_store_row rfl 37 _ _ rfl (w.heap.size+1) #[.int .i64 12,.int .i64 q] rfl rfl 37 _ C2.out infoF rfl (by simp [Value.oneCell']) ?_))
              generalize wq.setRow (w.heap.size+1) #[.int .i64 12,.int .i64 q]=uz at HW HK ⊢
              (try go_wp2_with fail)
              (try simp only [Exit.inBlock,Exit.then])
              refine bodyPost_ret (v:=.agg #[.int .i64 12,.int .i64 q]) ?_ rfl ⟨by rw [RO.out];rfl,HW.out⟩
              exact results_cell_row rfl _ _ (w.heap.size+1) 37 _ (0,0) _ rfl HK.out Tryz.underlying37 rfl infoF
             have hsb:(bset == 0)=false:=beq_eq_false_iff_ne.2 hs0
             have HSB:=hJJ hsb
             go_wp2_with fail
             refine (RkA.in_any _ _ _).mono ?_
             rintro e w' ⟨rfl,rfl⟩
             rename World=>wq
             rw [HHI.out]
             cases hi with
             | false =>
              have BADV:Hid (busR T ⟨bset,block⟩=true):=hJJ (by rw [BQ.out];(try dsimp only);rw [HSB.out,HHI.out];rfl)
              have RO:Hid (ck=(12,((q:Nat):Int))):=hJJ (by rw [CK.out];exact first_hit (q:=6) (by rw [LL6.out,idx_hit HV.out BADV.out HA.out]) N6.out)
              have HW:=hJJ (below_setRow C0.out (g:=w.heap.size+1) (by omega) #[.int .i64 12,.int .i64 q])
              have HK:=hJJ (setRow_heap wq (w.heap.size+1) _ #[.int .i64 12,.int .i64 q] _ _ C2.out)
              go_wp2_with (first | (refine wpList_store_row rfl 37 _ _ rfl (w.heap.size+1) #[.int .i64 12,.int .i64 q] rfl rfl 37 _ C2.out infoF rfl (by simp [Value.oneCell']) ?_))
              generalize wq.setRow (w.heap.size+1) #[.int .i64 12,.int .i64 q]=uz at HW HK ⊢
              (try go_wp2_with fail)
              (try simp only [Exit.inBlock,Exit.then])
              refine bodyPost_ret (v:=.agg #[.int .i64 12,.int .i64 q]) ?_ rfl ⟨by rw [RO.out];rfl,HW.out⟩
              exact results_cell_row rfl _ _ (w.heap.size+1) 37 _ (0,0) _ rfl HK.out Tryz.underlying37 rfl infoF
             | true =>
              by_cases hlk:block < 1
              ·have BADV:Hid (busR T ⟨bset,block⟩=true):=hJJ (by rw [BQ.out];(try dsimp only);rw [HSB.out,HHI.out,decide_eq_true hlk];rfl)
               have RO:Hid (ck=(12,((q:Nat):Int))):=hJJ (by rw [CK.out];exact first_hit (q:=6) (by rw [LL6.out,idx_hit HV.out BADV.out HA.out]) N6.out)
               have HW:=hJJ (below_setRow C0.out (g:=w.heap.size+1) (by omega) #[.int .i64 12,.int .i64 q])
               have HK:=hJJ (setRow_heap wq (w.heap.size+1) _ #[.int .i64 12,.int .i64 q] _ _ C2.out)
               go_wp2_with (first | (refine wpList_store_row rfl 37 _ _ rfl (w.heap.size+1) #[.int .i64 12,.int .i64 q] rfl rfl 37 _ C2.out infoF rfl (by simp [Value.oneCell']) ?_))
               generalize wq.setRow (w.heap.size+1) #[.int .i64 12,.int .i64 q]=uz at HW HK ⊢
               (try go_wp2_with fail)
               (try simp only [Exit.inBlock,Exit.then])
               refine bodyPost_ret (v:=.agg #[.int .i64 12,.int .i64 q]) ?_ rfl ⟨by rw [RO.out];rfl,HW.out⟩
               exact results_cell_row rfl _ _ (w.heap.size+1) 37 _ (0,0) _ rfl HK.out Tryz.underlying37 rfl infoF
              ·have BADV:Hid (busR T ⟨bset,block⟩=false):=hJJ (by rw [BQ.out];(try dsimp only);rw [HSB.out,HHI.out,decide_eq_false hlk];rfl)
               have HF:=hJJ BADV.out
               go_wp2
               go_roundw
               case rel=>exact ⟨q+1,by omega,by go_num,(fun j u hj hu=>by
                by_cases e:j=q
                ·subst e;obtain rfl:=Option.some.inj (hu.symm.trans HV.out);exact HF.out
                ·exact HA.out j u (by omega) hu),HBQ.out⟩
               case measure=>simp [intOf];omega
            ·have FM:=hJJ (idx_miss (f:=busR T) (l:=T.buses) (fun j u hu=>HA.out j u (by have:=(List.getElem?_eq_some_iff.1 hu).1;omega) hu))
             have N7:Hid (∀ (j:Nat) x,j < 7→l[j]?=some x→x.2=none):=hJJ (fun j x hj hx=>by
              by_cases hjj:j=6
              ·subst hjj;obtain rfl:=Option.some.inj (hx.symm.trans LL6.out);exact FM.out
              ·exact N6.out j x (by omega) hx)
             rename World=>wd
             go_wp2_with fail
             refine (rlist_any _ _).mono ?_
             rintro e u9 ⟨v,rfl,hown,hb⟩
             rw [OL.out] at hown
             obtain ⟨la,lcap,rfl,hrow⟩:=row_of hown
             have HROW:=hJJ hrow
             replace C0:Hid (Below w.heap.size w u9):=hJJ (C0.out.trans (hb.mono C0.out.size))
             replace C2:Hid (u9.heap[w.heap.size+1]?=some (.cells #[.int .i64 0,.int .i64 0] 37 (0,0))):=hJJ ((hb.block _ (Array.getElem?_eq_some_iff.1 C2.out).1).trans C2.out)
             replace LT:=hJJ (LT.out.below hb)
             replace PL:=hJJ (fun k hk=>(PL.out k hk).below hb)
             clear hown hrow hb
             go_wp2_with fail
             go_loopw [135] (fun i wr=>∃ q:Nat,q≤L.length∧i=.int .i64 q∧(∀ i,i < q→(flashOk T) (L.getD i 0)=true)∧Below u9.heap.size u9 wr) (fun i _=>L.length - (intOf i).toNat)
             case atStart=>exact ⟨0,by omega,rfl,(fun j h=>by omega),Below.refl _ _⟩
             case round =>
              obtain ⟨q,hq,rfl,hall,hB⟩:=hrel
              have HA:=hJJ hall
              have HB:=hJJ hB
              have hROW:=HROW.out.below hB
              replace C0:Hid (Below w.heap.size w wr):=hJJ (C0.out.trans (hB.mono C0.out.size))
              replace C2:Hid (wr.heap[w.heap.size+1]?=some (.cells #[.int .i64 0,.int .i64 0] 37 (0,0))):=hJJ ((hB.block _ (Array.getElem?_eq_some_iff.1 C2.out).1).trans C2.out)
              replace LT:=hJJ (LT.out.below hB)
              replace PL:=hJJ (fun k hk=>(PL.out k hk).below hB)
              clear hall hB
              by_cases hlt:q < L.length
              ·obtain ⟨y,rfl,hcells⟩:=hROW.cells hlt
               have cq:=hcells q hlt
               have hmem:=getD_mem hlt
               have hbd:=BD.out _ hmem
               generalize hz:L.getD q 0=z at *
               have HZ:=hJJ hz
               clear hcells hz hmem hROW
               obtain ⟨p,rfl⟩:=Int.eq_ofNat_of_zero_le hbd.1
               have hp8:((p:Nat):Int) < 8:=hbd.2
               have hpn:p < 8:=by omega
               obtain ⟨gd,hgd⟩:∃ z,(flashOk T) ((p:Nat):Int)=z:=⟨_,rfl⟩
               have PC:=FL.out p wr hpn C0.out
               rw [hgd] at PC
               go_wp2_with (refine lgZ 32 ⟨w.heap.size,0,none⟩ c rfl LT.out Tryz.underlying32 IA.out ?_)
               (try go_wp2_with fail)
               refine PC.mono ?_
               rintro e wq ⟨rfl,hb⟩
               have HBQ:=hJJ (HB.out.trans (hb.mono HB.out.size))
               replace C0:Hid (Below w.heap.size w wq):=hJJ (C0.out.trans (hb.mono C0.out.size))
               replace C2:Hid (wq.heap[w.heap.size+1]?=some (.cells #[.int .i64 0,.int .i64 0] 37 (0,0))):=hJJ ((hb.block _ (Array.getElem?_eq_some_iff.1 C2.out).1).trans C2.out)
               replace LT:=hJJ (LT.out.below hb)
               replace PL:=hJJ (fun k hk=>(PL.out k hk).below hb)
               clear hb
               cases gd with
               | false =>
                have RO:Hid (ck=(13,((p:Nat):Int))):=hJJ (by
                 rw [CK.out]
                 refine first_hit (q:=7) ?_ N7.out
                 rw [LL7.out,find_hit hlt (by rw [HZ.out];simp [hgd]) (fun i hi=>by have h1:=HA.out i hi;(try dsimp only at h1 ⊢);rw [h1];rfl),HZ.out])
                clear hgd
                have HW:=hJJ (below_setRow C0.out (g:=w.heap.size+1) (by omega) #[.int .i64 13,.int .i64 p])
                have HK:=hJJ (setRow_heap wq (w.heap.size+1) _ #[.int .i64 13,.int .i64 p] _ _ C2.out)
                go_wp2_with (first | (refine wpList_store_row rfl 37 _ _ rfl (w.heap.size+1) #[.int .i64 13,.int .i64 p] rfl rfl 37 _ C2.out infoF rfl (by simp [Value.oneCell']) ?_))
                generalize wq.setRow (w.heap.size+1) #[.int .i64 13,.int .i64 p]=uz at HW HK ⊢
                (try go_wp2_with fail)
                (try simp only [Exit.inBlock,Exit.then])
                refine bodyPost_ret (v:=.agg #[.int .i64 13,.int .i64 p]) ?_ rfl ⟨by rw [RO.out];rfl,HW.out⟩
                exact results_cell_row rfl _ _ (w.heap.size+1) 37 _ (0,0) _ rfl HK.out Tryz.underlying37 rfl infoF
               | true =>
                have HG:=hJJ hgd
                clear hgd
                go_wp2
                go_roundw
                case rel=>exact ⟨q+1,by omega,by go_num,(fun i hi=>by
                 by_cases h1:i=q
                 ·subst h1;rw [HZ.out];exact HG.out
                 ·exact HA.out i (by omega)),HBQ.out⟩
                case measure=>simp [intOf];omega
              ·have FM:=hJJ (find_miss (f:=fun p=>!(flashOk T) p) (L:=L) (fun i hi=>by have h1:=HA.out i (by omega);(try dsimp only at h1 ⊢);rw [h1];rfl))
               have N8:Hid (∀ (j:Nat) x,j < 8→l[j]?=some x→x.2=none):=hJJ (fun j x hj hx=>by
                by_cases hjj:j=7
                ·subst hjj;obtain rfl:=Option.some.inj (hx.symm.trans LL7.out);exact FM.out
                ·exact N7.out j x (by omega) hx)
               have RO:Hid (ck=(0,0)):=hJJ (by
                rw [CK.out]
                refine first_miss (fun x hx=>?_)
                obtain ⟨j,hj,rfl⟩:=List.getElem_of_mem hx
                exact N8.out j _ (by rw [LE.out] at hj;exact hj) (List.getElem?_eq_getElem hj))
               have HW:=hJJ (below_setRow C0.out (g:=w.heap.size+1) (by omega) #[.int .i64 0,.int .i64 0])
               have HK:=hJJ (setRow_heap wr (w.heap.size+1) _ #[.int .i64 0,.int .i64 0] _ _ C2.out)
               go_wp2_with (first | (refine wpList_store_row rfl 37 _ _ rfl (w.heap.size+1) #[.int .i64 0,.int .i64 0] rfl rfl 37 _ C2.out infoF rfl (by simp [Value.oneCell']) ?_))
               generalize wr.setRow (w.heap.size+1) #[.int .i64 0,.int .i64 0]=uz at HW HK ⊢
               (try go_wp2_with fail)
               (try simp only [Exit.inBlock,Exit.then])
               refine bodyPost_ret (v:=.agg #[.int .i64 0,.int .i64 0]) ?_ rfl ⟨by rw [RO.out];rfl,HW.out⟩
               exact results_cell_row rfl _ _ (w.heap.size+1) 37 _ (0,0) _ rfl HK.out Tryz.underlying37 rfl infoF
end RkK
end Go.Proofs.YtjolhoilcibdfaaGreat
