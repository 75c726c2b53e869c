/- 8 texts in one file, in build order. -/
import Derived.Test.YtjolhoilcibdfaaGreatPart01
import Derived.Test.YtjolhoilcibdfaaGreatRows
import Derived.Test.YtjolhoilcibdfaaGreatPart10
set_option linter.unusedVariables false
set_option linter.unusedSimpArgs false
set_option linter.unusedSectionVars false
set_option maxHeartbeats 8000000
set_option maxRecDepth 100000
namespace Go.Proofs.YtjolhoilcibdfaaGreat
namespace RkC
open Zip
open Go.ChangeShapes Go.WideShapes Go.ChangeAt Go.RowKit
open Tab PlaceM PlanM OnS ChkM ChkA
open ChkB (laid2)
open May (ret_bool infoT infoR)
theorem rail_1 (T:Tab) (h:Hd) (r:Rl) (w:World) (ht:IsTab w h T) (sm:Few T) (z0:inR (or4 r) (onS T:Nat)=true) (z1:r.dwell=0) :
  Calls Tryz.prog 52 #[.agg (T.cells h).toArray,.agg r.cells.toArray,.int .i64 (onS T:Nat)] w fun e w'=>e=.returned (.bool (railOk T r))∧Below w.heap.size w w':=by
 have hsz:=(cells_ok ht).size
 have IA:Hid ((Tryz.prog.info? 32).map (·.size)=some (T.cells h).length):=hJJ (by rw [List.size_toArray] at hsz;rw [hsz];exact infoT)
 have AO:Hid (∀ W,Calls Tryz.prog 53 #[.int .i64 (or4 r),.int .i64 (onS T:Nat)] W fun e w'=>e=.returned (.bool (inR (or4 r) (onS T:Nat)))∧W=w'):=hJJ (fun W=>RkA.in_any _ _ W)
 have CL:Hid (∀ s W,Below w.heap.size w W→Calls Tryz.prog 94 #[.agg (T.cells h).toArray,.int .i64 s,.int .i64 s] W fun e w'=>e=.returned (.bool (clashR T s s))∧Below W.heap.size W w'):=hJJ (fun s W hb=>RkB.rclash_any T h s s W (ht.below hb))
 have AB:Hid (∀ s W,Below w.heap.size w W→Calls Tryz.prog 93 #[.agg (T.cells h).toArray,.int .i64 s] W fun e w'=>e=.returned (.bool (exitR T s))∧Below W.heap.size W w'):=hJJ (fun s W hb=>RkB.exit_any T h s W (ht.below hb) sm)
 obtain ⟨x,hx⟩:∃ x,x=railOk T r:=⟨_,rfl⟩
 rw [← hx]
 have HR:Hid (x=((inR (or4 r) (onS T:Nat) && (r.dwell != 0 && (bits .and .i64 r.dwell r.bars == 0 && exitR T r.exit))) && (!clashR T r.clear r.clear && (!clashR T r.dwell r.dwell && (!clashR T r.exit r.exit && timesOk r))))):=hJJ hx
 have LT0:=hJJ (Row.lies_new w (T.cells h).toArray 32)
 have hs1:(w.alloc (.cells (T.cells h).toArray 32)).heap.size=w.heap.size+1:=by simp
 have hone:=Rl.one r
 have hsz2:r.cells.toArray.size=11:=rfl
 have RC:=hJJ (rail_cells r)
 have O4:Hid (bits .or .i64 (bits .or .i64 (bits .or .i64 r.bars r.clear) r.dwell) r.exit=or4 r):=hJJ rfl
 obtain ⟨a1,ha1⟩:∃ z,inR (or4 r) (onS T:Nat)=z:=⟨_,rfl⟩
 obtain ⟨c1,hc1⟩:∃ z,clashR T r.clear r.clear=z:=⟨_,rfl⟩
 obtain ⟨c2,hc2⟩:∃ z,clashR T r.dwell r.dwell=z:=⟨_,rfl⟩
 obtain ⟨c3,hc3⟩:∃ z,clashR T r.exit r.exit=z:=⟨_,rfl⟩
 obtain ⟨b1,hb1⟩:∃ z,exitR T r.exit=z:=⟨_,rfl⟩
 have CL1:=hJJ (CL.out r.clear)
 have CL2:=hJJ (CL.out r.dwell)
 have CL3:=hJJ (CL.out r.exit)
 have AB1:=hJJ (AB.out r.exit)
 rw [ha1] at AO HR
 rw [hc1] at CL1 HR
 rw [hc2] at CL2 HR
 rw [hc3] at CL3 HR
 rw [hb1] at AB1 HR
 have TO:Hid (timesOk r=((decide (0 < r.hold) == (r.clear != 0)) && (decide (1≤r.green) && (decide (1≤r.stay) && ((r.most == 0 || decide (r.stay≤r.most)) && decide (r.delay < r.limit)))))):=hJJ rfl
 rw [show a1=true from ha1.symm.trans z0] at AO HR
 clear hx ht CL AB ha1 hc1 hc2 hc3 hb1
 generalize timesOk r=tk at *
 clear z0
 generalize or4 r=o4 at *
 generalize r.cells=rc at *
 obtain ⟨bars,clear_,dwell,exit,delay,green,foot,hold,stay,most,limit⟩:=r
 dsimp only at *
 generalize T.cells h=c at *
 generalize (((onS T:Nat)):Int)=on at *
 go_enter Tryz.func52,Tryz.ntmps52
 go_upto_region 1 with fail
 obtain ⟨u,hu,E1,E0,EB,b1'⟩:=laid2 w (.cells c.toArray 32) (.cells rc.toArray 47)
 rw [hu]
 have A0:=hJJ E0
 have A1:=hJJ (LT0.out.below (by rw [hs1];exact EB))
 have A2:Hid (u.heap[w.heap.size+1]?=some (.cells rc.toArray 47 (0,0))):=hJJ b1'
 clear hu EB LT0 b1' hs1 hsz hsz2 hone E0 E1
 have H1:=hJJ z1
 clear z1
 have zb:(dwell != 0)=false:=by rw [H1.out];rfl
 obtain ⟨q0,q1,q2,q3,q4,q5,q7,q8,q9,q10⟩:=RC.out _ _ A2.out
 go_wp2_with fail
 rw [O4.out]
 refine (AO.out _).mono ?_
 rintro e w' ⟨rfl,rfl⟩
 rename_i Q1 K1 hK1 K2 hK2
 refine hK2 _ _ ?_
 refine wpList_plain rfl (fun K hK=>?_)
 go_simp
 refine hK _ _ ?_
 clear hK K
 (try dsimp only [Act.put]);(try simp only [zA,zB,zC])
 refine BigFrame.wpList_want (by rfl) (fun K hK=>?_)
 go_simp
 refine hK _ _ ?_
 clear hK K
 (try dsimp only [Act.put]);(try simp only [zA,zB,zC])
 refine BigFrame.wpList_want (by rfl) (fun K hK=>?_)
 go_simp
 refine hK _ _ ?_
 clear hK K
 (try dsimp only [Act.put]);(try simp only [zA,zB,zC])
 refine BigFrame.wpList_want (by rfl) (fun K hK=>?_)
 go_simp
 refine hK _ _ ?_
 clear hK K
 (try dsimp only [Act.put]);(try simp only [zA,zB,zC])
 have HX:Hid (false=x):=hJJ (by rw [HR.out];simp [H1.out])
 clear HR RC
 refine Early.out_get (by kernel_rfl) ?_
 refine hK1 _ _ ?_
 refine wp_seq (wp_region_lit ?_)
 refine Early.out_get (by kernel_rfl) ?_
 refine wp_ret ?_
 exact bodyPost_ret (v:=.bool false) (by kernel_rfl) (by kernel_rfl) ⟨ret_bool HX.out,A0.out⟩
end RkC
namespace RkC
open Zip
open Go.ChangeShapes Go.WideShapes Go.ChangeAt Go.RowKit
open Tab PlaceM PlanM OnS ChkM ChkA
open ChkB (laid2)
open May (ret_bool infoT infoR)
theorem rail_2 (T:Tab) (h:Hd) (r:Rl) (w:World) (ht:IsTab w h T) (sm:Few T) (z0:inR (or4 r) (onS T:Nat)=true) (z1:r.dwell ≠ 0) (z2:bits .and .i64 r.dwell r.bars ≠ 0) :
  Calls Tryz.prog 52 #[.agg (T.cells h).toArray,.agg r.cells.toArray,.int .i64 (onS T:Nat)] w fun e w'=>e=.returned (.bool (railOk T r))∧Below w.heap.size w w':=by
 have hsz:=(cells_ok ht).size
 have IA:Hid ((Tryz.prog.info? 32).map (·.size)=some (T.cells h).length):=hJJ (by rw [List.size_toArray] at hsz;rw [hsz];exact infoT)
 have AO:Hid (∀ W,Calls Tryz.prog 53 #[.int .i64 (or4 r),.int .i64 (onS T:Nat)] W fun e w'=>e=.returned (.bool (inR (or4 r) (onS T:Nat)))∧W=w'):=hJJ (fun W=>RkA.in_any _ _ W)
 have CL:Hid (∀ s W,Below w.heap.size w W→Calls Tryz.prog 94 #[.agg (T.cells h).toArray,.int .i64 s,.int .i64 s] W fun e w'=>e=.returned (.bool (clashR T s s))∧Below W.heap.size W w'):=hJJ (fun s W hb=>RkB.rclash_any T h s s W (ht.below hb))
 have AB:Hid (∀ s W,Below w.heap.size w W→Calls Tryz.prog 93 #[.agg (T.cells h).toArray,.int .i64 s] W fun e w'=>e=.returned (.bool (exitR T s))∧Below W.heap.size W w'):=hJJ (fun s W hb=>RkB.exit_any T h s W (ht.below hb) sm)
 obtain ⟨x,hx⟩:∃ x,x=railOk T r:=⟨_,rfl⟩
 rw [← hx]
 have HR:Hid (x=((inR (or4 r) (onS T:Nat) && (r.dwell != 0 && (bits .and .i64 r.dwell r.bars == 0 && exitR T r.exit))) && (!clashR T r.clear r.clear && (!clashR T r.dwell r.dwell && (!clashR T r.exit r.exit && timesOk r))))):=hJJ hx
 have LT0:=hJJ (Row.lies_new w (T.cells h).toArray 32)
 have hs1:(w.alloc (.cells (T.cells h).toArray 32)).heap.size=w.heap.size+1:=by simp
 have hone:=Rl.one r
 have hsz2:r.cells.toArray.size=11:=rfl
 have RC:=hJJ (rail_cells r)
 have O4:Hid (bits .or .i64 (bits .or .i64 (bits .or .i64 r.bars r.clear) r.dwell) r.exit=or4 r):=hJJ rfl
 obtain ⟨a1,ha1⟩:∃ z,inR (or4 r) (onS T:Nat)=z:=⟨_,rfl⟩
 obtain ⟨c1,hc1⟩:∃ z,clashR T r.clear r.clear=z:=⟨_,rfl⟩
 obtain ⟨c2,hc2⟩:∃ z,clashR T r.dwell r.dwell=z:=⟨_,rfl⟩
 obtain ⟨c3,hc3⟩:∃ z,clashR T r.exit r.exit=z:=⟨_,rfl⟩
 obtain ⟨b1,hb1⟩:∃ z,exitR T r.exit=z:=⟨_,rfl⟩
 have CL1:=hJJ (CL.out r.clear)
 have CL2:=hJJ (CL.out r.dwell)
 have CL3:=hJJ (CL.out r.exit)
 have AB1:=hJJ (AB.out r.exit)
 rw [ha1] at AO HR
 rw [hc1] at CL1 HR
 rw [hc2] at CL2 HR
 rw [hc3] at CL3 HR
 rw [hb1] at AB1 HR
 have TO:Hid (timesOk r=((decide (0 < r.hold) == (r.clear != 0)) && (decide (1≤r.green) && (decide (1≤r.stay) && ((r.most == 0 || decide (r.stay≤r.most)) && decide (r.delay < r.limit)))))):=hJJ rfl
 rw [show a1=true from ha1.symm.trans z0] at AO HR
 clear hx ht CL AB ha1 hc1 hc2 hc3 hb1
 generalize timesOk r=tk at *
 clear z0
 generalize or4 r=o4 at *
 generalize r.cells=rc at *
 obtain ⟨bars,clear_,dwell,exit,delay,green,foot,hold,stay,most,limit⟩:=r
 dsimp only at *
 generalize T.cells h=c at *
 generalize (((onS T:Nat)):Int)=on at *
 go_enter Tryz.func52,Tryz.ntmps52
 go_upto_region 1 with fail
 obtain ⟨u,hu,E1,E0,EB,b1'⟩:=laid2 w (.cells c.toArray 32) (.cells rc.toArray 47)
 rw [hu]
 have A0:=hJJ E0
 have A1:=hJJ (LT0.out.below (by rw [hs1];exact EB))
 have A2:Hid (u.heap[w.heap.size+1]?=some (.cells rc.toArray 47 (0,0))):=hJJ b1'
 clear hu EB LT0 b1' hs1 hsz hsz2 hone E0 E1
 have H1:=hJJ z1
 clear z1
 have H3:=hJJ z2
 clear z2
 have zb:(dwell != 0)=true:=bne_iff_ne.2 H1.out
 obtain ⟨q0,q1,q2,q3,q4,q5,q7,q8,q9,q10⟩:=RC.out _ _ A2.out
 go_wp2_with fail
 rw [O4.out]
 refine (AO.out _).mono ?_
 rintro e w' ⟨rfl,rfl⟩
 have zc:(bits .and .i64 dwell bars == 0)=false:=beq_eq_false_iff_ne.2 H3.out
 rename_i Q1 K1 hK1 K2 hK2
 refine hK2 _ _ ?_
 refine wpList_plain rfl (fun K hK=>?_)
 go_simp
 refine hK _ _ ?_
 clear hK K
 (try dsimp only [Act.put]);(try simp only [zA,zB,zC])
 refine BigFrame.wpList_want (by rfl) (fun K hK=>?_)
 go_simp
 refine hK _ _ ?_
 clear hK K
 (try dsimp only [Act.put]);(try simp only [zA,zB,zC])
 refine BigFrame.wpList_want (by rfl) (fun K hK=>?_)
 go_simp
 refine hK _ _ ?_
 clear hK K
 (try dsimp only [Act.put]);(try simp only [zA,zB,zC])
 refine BigFrame.wpList_want (by rfl) (fun K hK=>?_)
 go_simp
 refine hK _ _ ?_
 clear hK K
 (try dsimp only [Act.put]);(try simp only [zA,zB,zC])
 refine wpList_plain rfl (fun K hK=>?_)
 go_simp
 refine hK _ _ ?_
 clear hK K
 (try dsimp only [Act.put]);(try simp only [zA,zB,zC])
 refine wpList_plain rfl (fun K hK=>?_)
 go_simp
 refine hK _ _ ?_
 clear hK K
 (try dsimp only [Act.put]);(try simp only [zA,zB,zC])
 refine BigFrame.wpList_want (by rfl) (fun K hK=>?_)
 go_simp
 refine hK _ _ ?_
 clear hK K
 (try dsimp only [Act.put]);(try simp only [zA,zB,zC])
 refine BigFrame.wpList_want (by rfl) (fun K hK=>?_)
 go_simp
 refine hK _ _ ?_
 clear hK K
 (try dsimp only [Act.put]);(try simp only [zA,zB,zC])
 refine BigFrame.wpList_want (by rfl) (fun K hK=>?_)
 go_simp
 refine hK _ _ ?_
 clear hK K
 (try dsimp only [Act.put]);(try simp only [zA,zB,zC])
 refine BigFrame.wpList_want (by rfl) (fun K hK=>?_)
 go_simp
 refine hK _ _ ?_
 clear hK K
 (try dsimp only [Act.put]);(try simp only [zA,zB,zC])
 refine BigFrame.wpList_want (by rfl) (fun K hK=>?_)
 go_simp
 refine hK _ _ ?_
 clear hK K
 (try dsimp only [Act.put]);(try simp only [zA,zB,zC])
 refine BigFrame.wpList_want (by rfl) (fun K hK=>?_)
 go_simp
 refine hK _ _ ?_
 clear hK K
 (try dsimp only [Act.put]);(try simp only [zA,zB,zC])
 have HX:Hid (false=x):=hJJ (by rw [HR.out];simp [H3.out])
 clear HR RC
 refine Early.out_get (by kernel_rfl) ?_
 refine hK1 _ _ ?_
 refine wp_seq (wp_region_lit ?_)
 refine Early.out_get (by kernel_rfl) ?_
 refine wp_ret ?_
 exact bodyPost_ret (v:=.bool false) (by kernel_rfl) (by kernel_rfl) ⟨ret_bool HX.out,A0.out⟩
end RkC
namespace RkC
open Zip
open Go.ChangeShapes Go.WideShapes Go.ChangeAt Go.RowKit
open Tab PlaceM PlanM OnS ChkM ChkA
open ChkB (laid2)
open May (ret_bool infoT infoR)
theorem rail_3 (T:Tab) (h:Hd) (r:Rl) (w:World) (ht:IsTab w h T) (sm:Few T) (z0:inR (or4 r) (onS T:Nat)=true) (z1:r.dwell ≠ 0) (z2:bits .and .i64 r.dwell r.bars=0) (z3:exitR T r.exit=false) :
  Calls Tryz.prog 52 #[.agg (T.cells h).toArray,.agg r.cells.toArray,.int .i64 (onS T:Nat)] w fun e w'=>e=.returned (.bool (railOk T r))∧Below w.heap.size w w':=by
 have hsz:=(cells_ok ht).size
 have IA:Hid ((Tryz.prog.info? 32).map (·.size)=some (T.cells h).length):=hJJ (by rw [List.size_toArray] at hsz;rw [hsz];exact infoT)
 have AO:Hid (∀ W,Calls Tryz.prog 53 #[.int .i64 (or4 r),.int .i64 (onS T:Nat)] W fun e w'=>e=.returned (.bool (inR (or4 r) (onS T:Nat)))∧W=w'):=hJJ (fun W=>RkA.in_any _ _ W)
 have CL:Hid (∀ s W,Below w.heap.size w W→Calls Tryz.prog 94 #[.agg (T.cells h).toArray,.int .i64 s,.int .i64 s] W fun e w'=>e=.returned (.bool (clashR T s s))∧Below W.heap.size W w'):=hJJ (fun s W hb=>RkB.rclash_any T h s s W (ht.below hb))
 have AB:Hid (∀ s W,Below w.heap.size w W→Calls Tryz.prog 93 #[.agg (T.cells h).toArray,.int .i64 s] W fun e w'=>e=.returned (.bool (exitR T s))∧Below W.heap.size W w'):=hJJ (fun s W hb=>RkB.exit_any T h s W (ht.below hb) sm)
 obtain ⟨x,hx⟩:∃ x,x=railOk T r:=⟨_,rfl⟩
 rw [← hx]
 have HR:Hid (x=((inR (or4 r) (onS T:Nat) && (r.dwell != 0 && (bits .and .i64 r.dwell r.bars == 0 && exitR T r.exit))) && (!clashR T r.clear r.clear && (!clashR T r.dwell r.dwell && (!clashR T r.exit r.exit && timesOk r))))):=hJJ hx
 have LT0:=hJJ (Row.lies_new w (T.cells h).toArray 32)
 have hs1:(w.alloc (.cells (T.cells h).toArray 32)).heap.size=w.heap.size+1:=by simp
 have hone:=Rl.one r
 have hsz2:r.cells.toArray.size=11:=rfl
 have RC:=hJJ (rail_cells r)
 have O4:Hid (bits .or .i64 (bits .or .i64 (bits .or .i64 r.bars r.clear) r.dwell) r.exit=or4 r):=hJJ rfl
 obtain ⟨a1,ha1⟩:∃ z,inR (or4 r) (onS T:Nat)=z:=⟨_,rfl⟩
 obtain ⟨c1,hc1⟩:∃ z,clashR T r.clear r.clear=z:=⟨_,rfl⟩
 obtain ⟨c2,hc2⟩:∃ z,clashR T r.dwell r.dwell=z:=⟨_,rfl⟩
 obtain ⟨c3,hc3⟩:∃ z,clashR T r.exit r.exit=z:=⟨_,rfl⟩
 obtain ⟨b1,hb1⟩:∃ z,exitR T r.exit=z:=⟨_,rfl⟩
 have CL1:=hJJ (CL.out r.clear)
 have CL2:=hJJ (CL.out r.dwell)
 have CL3:=hJJ (CL.out r.exit)
 have AB1:=hJJ (AB.out r.exit)
 rw [ha1] at AO HR
 rw [hc1] at CL1 HR
 rw [hc2] at CL2 HR
 rw [hc3] at CL3 HR
 rw [hb1] at AB1 HR
 have TO:Hid (timesOk r=((decide (0 < r.hold) == (r.clear != 0)) && (decide (1≤r.green) && (decide (1≤r.stay) && ((r.most == 0 || decide (r.stay≤r.most)) && decide (r.delay < r.limit)))))):=hJJ rfl
 rw [show a1=true from ha1.symm.trans z0] at AO HR;rw [show b1=false from hb1.symm.trans z3] at AB1 HR
 clear hx ht CL AB ha1 hc1 hc2 hc3 hb1
 generalize timesOk r=tk at *
 clear z0 z3
 generalize or4 r=o4 at *
 generalize r.cells=rc at *
 obtain ⟨bars,clear_,dwell,exit,delay,green,foot,hold,stay,most,limit⟩:=r
 dsimp only at *
 generalize T.cells h=c at *
 generalize (((onS T:Nat)):Int)=on at *
 go_enter Tryz.func52,Tryz.ntmps52
 go_upto_region 1 with fail
 obtain ⟨u,hu,E1,E0,EB,b1'⟩:=laid2 w (.cells c.toArray 32) (.cells rc.toArray 47)
 rw [hu]
 have A0:=hJJ E0
 have A1:=hJJ (LT0.out.below (by rw [hs1];exact EB))
 have A2:Hid (u.heap[w.heap.size+1]?=some (.cells rc.toArray 47 (0,0))):=hJJ b1'
 clear hu EB LT0 b1' hs1 hsz hsz2 hone E0 E1
 have H1:=hJJ z1
 clear z1
 have H3:=hJJ z2
 clear z2
 have zb:(dwell != 0)=true:=bne_iff_ne.2 H1.out
 obtain ⟨q0,q1,q2,q3,q4,q5,q7,q8,q9,q10⟩:=RC.out _ _ A2.out
 go_wp2_with fail
 rw [O4.out]
 refine (AO.out _).mono ?_
 rintro e w' ⟨rfl,rfl⟩
 have zc:(bits .and .i64 dwell bars == 0)=true:=beq_iff_eq.2 H3.out
 go_wp2_with (refine lgZ 32 ⟨w.heap.size,0,none⟩ c rfl A1.out Tryz.underlying32 IA.out ?_)
 (try go_wp2_with fail)
 refine (AB1.out _ A0.out).mono ?_
 rintro e u1 ⟨rfl,hb⟩
 replace A0:Hid (Below w.heap.size w u1):=hJJ (A0.out.trans (hb.mono A0.out.size))
 replace A2:Hid (u1.heap[w.heap.size+1]?=some (.cells rc.toArray 47 (0,0))):=hJJ ((hb.block _ (Array.getElem?_eq_some_iff.1 A2.out).1).trans A2.out)
 replace A1:=hJJ (A1.out.below hb)
 clear q0 q1 q2 q3 q4 q5 q7 q8 q9 q10
 clear hb
 obtain ⟨q0,q1,q2,q3,q4,q5,q7,q8,q9,q10⟩:=RC.out _ _ A2.out
 rename_i Q1 K1 hK1 K2 hK2
 refine hK2 _ _ ?_
 have HX:Hid (false=x):=hJJ (by rw [HR.out];simp)
 clear HR RC
 refine Early.out_get (by kernel_rfl) ?_
 refine hK1 _ _ ?_
 refine wp_seq (wp_region_lit ?_)
 refine Early.out_get (by kernel_rfl) ?_
 refine wp_ret ?_
 exact bodyPost_ret (v:=.bool false) (by kernel_rfl) (by kernel_rfl) ⟨ret_bool HX.out,A0.out⟩
end RkC
namespace RkC
open Zip
open Go.ChangeShapes Go.WideShapes Go.ChangeAt Go.RowKit
open Tab PlaceM PlanM OnS ChkM ChkA
open ChkB (laid2)
open May (ret_bool infoT infoR)
theorem rail_4 (T:Tab) (h:Hd) (r:Rl) (w:World) (ht:IsTab w h T) (sm:Few T) (z0:inR (or4 r) (onS T:Nat)=true) (z1:r.dwell ≠ 0) (z2:bits .and .i64 r.dwell r.bars=0) (z3:exitR T r.exit=true) (z4:clashR T r.clear r.clear=true) :
  Calls Tryz.prog 52 #[.agg (T.cells h).toArray,.agg r.cells.toArray,.int .i64 (onS T:Nat)] w fun e w'=>e=.returned (.bool (railOk T r))∧Below w.heap.size w w':=by
 have hsz:=(cells_ok ht).size
 have IA:Hid ((Tryz.prog.info? 32).map (·.size)=some (T.cells h).length):=hJJ (by rw [List.size_toArray] at hsz;rw [hsz];exact infoT)
 have AO:Hid (∀ W,Calls Tryz.prog 53 #[.int .i64 (or4 r),.int .i64 (onS T:Nat)] W fun e w'=>e=.returned (.bool (inR (or4 r) (onS T:Nat)))∧W=w'):=hJJ (fun W=>RkA.in_any _ _ W)
 have CL:Hid (∀ s W,Below w.heap.size w W→Calls Tryz.prog 94 #[.agg (T.cells h).toArray,.int .i64 s,.int .i64 s] W fun e w'=>e=.returned (.bool (clashR T s s))∧Below W.heap.size W w'):=hJJ (fun s W hb=>RkB.rclash_any T h s s W (ht.below hb))
 have AB:Hid (∀ s W,Below w.heap.size w W→Calls Tryz.prog 93 #[.agg (T.cells h).toArray,.int .i64 s] W fun e w'=>e=.returned (.bool (exitR T s))∧Below W.heap.size W w'):=hJJ (fun s W hb=>RkB.exit_any T h s W (ht.below hb) sm)
 obtain ⟨x,hx⟩:∃ x,x=railOk T r:=⟨_,rfl⟩
 rw [← hx]
 have HR:Hid (x=((inR (or4 r) (onS T:Nat) && (r.dwell != 0 && (bits .and .i64 r.dwell r.bars == 0 && exitR T r.exit))) && (!clashR T r.clear r.clear && (!clashR T r.dwell r.dwell && (!clashR T r.exit r.exit && timesOk r))))):=hJJ hx
 have LT0:=hJJ (Row.lies_new w (T.cells h).toArray 32)
 have hs1:(w.alloc (.cells (T.cells h).toArray 32)).heap.size=w.heap.size+1:=by simp
 have hone:=Rl.one r
 have hsz2:r.cells.toArray.size=11:=rfl
 have RC:=hJJ (rail_cells r)
 have O4:Hid (bits .or .i64 (bits .or .i64 (bits .or .i64 r.bars r.clear) r.dwell) r.exit=or4 r):=hJJ rfl
 obtain ⟨a1,ha1⟩:∃ z,inR (or4 r) (onS T:Nat)=z:=⟨_,rfl⟩
 obtain ⟨c1,hc1⟩:∃ z,clashR T r.clear r.clear=z:=⟨_,rfl⟩
 obtain ⟨c2,hc2⟩:∃ z,clashR T r.dwell r.dwell=z:=⟨_,rfl⟩
 obtain ⟨c3,hc3⟩:∃ z,clashR T r.exit r.exit=z:=⟨_,rfl⟩
 obtain ⟨b1,hb1⟩:∃ z,exitR T r.exit=z:=⟨_,rfl⟩
 have CL1:=hJJ (CL.out r.clear)
 have CL2:=hJJ (CL.out r.dwell)
 have CL3:=hJJ (CL.out r.exit)
 have AB1:=hJJ (AB.out r.exit)
 rw [ha1] at AO HR
 rw [hc1] at CL1 HR
 rw [hc2] at CL2 HR
 rw [hc3] at CL3 HR
 rw [hb1] at AB1 HR
 have TO:Hid (timesOk r=((decide (0 < r.hold) == (r.clear != 0)) && (decide (1≤r.green) && (decide (1≤r.stay) && ((r.most == 0 || decide (r.stay≤r.most)) && decide (r.delay < r.limit)))))):=hJJ rfl
 rw [show a1=true from ha1.symm.trans z0] at AO HR;rw [show b1=true from hb1.symm.trans z3] at AB1 HR;rw [show c1=true from hc1.symm.trans z4] at CL1 HR
 clear hx ht CL AB ha1 hc1 hc2 hc3 hb1
 generalize timesOk r=tk at *
 clear z0 z3 z4
 generalize or4 r=o4 at *
 generalize r.cells=rc at *
 obtain ⟨bars,clear_,dwell,exit,delay,green,foot,hold,stay,most,limit⟩:=r
 dsimp only at *
 generalize T.cells h=c at *
 generalize (((onS T:Nat)):Int)=on at *
 go_enter Tryz.func52,Tryz.ntmps52
 go_upto_region 1 with fail
 obtain ⟨u,hu,E1,E0,EB,b1'⟩:=laid2 w (.cells c.toArray 32) (.cells rc.toArray 47)
 rw [hu]
 have A0:=hJJ E0
 have A1:=hJJ (LT0.out.below (by rw [hs1];exact EB))
 have A2:Hid (u.heap[w.heap.size+1]?=some (.cells rc.toArray 47 (0,0))):=hJJ b1'
 clear hu EB LT0 b1' hs1 hsz hsz2 hone E0 E1
 have H1:=hJJ z1
 clear z1
 have H3:=hJJ z2
 clear z2
 have zb:(dwell != 0)=true:=bne_iff_ne.2 H1.out
 obtain ⟨q0,q1,q2,q3,q4,q5,q7,q8,q9,q10⟩:=RC.out _ _ A2.out
 go_wp2_with fail
 rw [O4.out]
 refine (AO.out _).mono ?_
 rintro e w' ⟨rfl,rfl⟩
 have zc:(bits .and .i64 dwell bars == 0)=true:=beq_iff_eq.2 H3.out
 go_wp2_with (refine lgZ 32 ⟨w.heap.size,0,none⟩ c rfl A1.out Tryz.underlying32 IA.out ?_)
 (try go_wp2_with fail)
 refine (AB1.out _ A0.out).mono ?_
 rintro e u1 ⟨rfl,hb⟩
 replace A0:Hid (Below w.heap.size w u1):=hJJ (A0.out.trans (hb.mono A0.out.size))
 replace A2:Hid (u1.heap[w.heap.size+1]?=some (.cells rc.toArray 47 (0,0))):=hJJ ((hb.block _ (Array.getElem?_eq_some_iff.1 A2.out).1).trans A2.out)
 replace A1:=hJJ (A1.out.below hb)
 clear q0 q1 q2 q3 q4 q5 q7 q8 q9 q10
 clear hb
 obtain ⟨q0,q1,q2,q3,q4,q5,q7,q8,q9,q10⟩:=RC.out _ _ A2.out
 rename_i Q1 K1 hK1 K2 hK2
 refine hK2 _ _ ?_
 refine wpList_plain rfl (fun K hK=>?_)
 go_simp
 refine hK _ _ ?_
 clear hK K
 (try dsimp only [Act.put]);(try simp only [zA,zB,zC])
 refine wpList_plain rfl (fun K hK=>?_)
 go_simp
 refine hK _ _ ?_
 clear hK K
 (try dsimp only [Act.put]);(try simp only [zA,zB,zC])
 refine hK1 _ _ ?_
 clear hK2 K2 hK1 K1
 refine wp_seq_k (fun K1 hK1=>?_)
 refine wp_region_lit ?_
 refine wpList_plain rfl (fun K hK=>?_)
 go_simp
 refine hK _ _ ?_
 clear hK K
 (try dsimp only [Act.put]);(try simp only [zA,zB,zC])
 refine wpList_plain rfl (fun K hK=>?_)
 go_simp
 refine hK _ _ ?_
 clear hK K
 (try dsimp only [Act.put]);(try simp only [zA,zB,zC])
 refine Row.wpList_load_g 32 _ rfl (by rfl) ⟨w.heap.size,0,none⟩ rfl c _ A1.out Tryz.underlying32 rfl IA.out ?_
 (try dsimp only [Act.put]);(try simp only [zA,zB,zC])
 refine BigFrame.wpList_want (by rfl) (fun K hK=>?_)
 go_simp
 refine hK _ _ ?_
 clear hK K
 (try dsimp only [Act.put]);(try simp only [zA,zB,zC])
 refine BigFrame.wpList_want (by rfl) (fun K hK=>?_)
 go_simp
 refine hK _ _ ?_
 clear hK K
 (try dsimp only [Act.put]);(try simp only [zA,zB,zC])
 refine BigFrame.wpList_want (by rfl) (fun K hK=>?_)
 go_simp
 refine hK _ _ ?_
 clear hK K
 (try dsimp only [Act.put]);(try simp only [zA,zB,zC])
 refine BigFrame.wpList_want (by rfl) (fun K hK=>?_)
 go_simp
 refine hK _ _ ?_
 clear hK K
 (try dsimp only [Act.put]);(try simp only [zA,zB,zC])
 refine BigFrame.wpList_want (by rfl) (fun K2 hK2=>?_)
 go_simp
 refine (CL1.out _ A0.out).mono ?_
 rintro e u2 ⟨rfl,hb⟩
 replace A0:Hid (Below w.heap.size w u2):=hJJ (A0.out.trans (hb.mono A0.out.size))
 replace A2:Hid (u2.heap[w.heap.size+1]?=some (.cells rc.toArray 47 (0,0))):=hJJ ((hb.block _ (Array.getElem?_eq_some_iff.1 A2.out).1).trans A2.out)
 replace A1:=hJJ (A1.out.below hb)
 clear q0 q1 q2 q3 q4 q5 q7 q8 q9 q10
 clear hb
 obtain ⟨q0,q1,q2,q3,q4,q5,q7,q8,q9,q10⟩:=RC.out _ _ A2.out
 refine hK2 _ _ ?_
 clear hK2 K2
 refine BigFrame.wpList_want (by rfl) (fun K hK=>?_)
 go_simp
 refine hK _ _ ?_
 clear hK K
 (try dsimp only [Act.put]);(try simp only [zA,zB,zC])
 have HX:Hid (false=x):=hJJ (by rw [HR.out];simp)
 clear HR RC
 refine Early.out_get (by kernel_rfl) ?_
 refine hK1 _ _ ?_
 refine wp_ret ?_
 exact bodyPost_ret (v:=.bool false) (by kernel_rfl) (by kernel_rfl) ⟨ret_bool HX.out,A0.out⟩
end RkC
namespace RkC
open Zip
open Go.ChangeShapes Go.WideShapes Go.ChangeAt Go.RowKit
open Tab PlaceM PlanM OnS ChkM ChkA
open ChkB (laid2)
open May (ret_bool infoT infoR)
theorem rail_5 (T:Tab) (h:Hd) (r:Rl) (w:World) (ht:IsTab w h T) (sm:Few T) (z0:inR (or4 r) (onS T:Nat)=true) (z1:r.dwell ≠ 0) (z2:bits .and .i64 r.dwell r.bars=0) (z3:exitR T r.exit=true) (z4:clashR T r.clear r.clear=false) (z5:clashR T r.dwell r.dwell=true) :
  Calls Tryz.prog 52 #[.agg (T.cells h).toArray,.agg r.cells.toArray,.int .i64 (onS T:Nat)] w fun e w'=>e=.returned (.bool (railOk T r))∧Below w.heap.size w w':=by
 have hsz:=(cells_ok ht).size
 have IA:Hid ((Tryz.prog.info? 32).map (·.size)=some (T.cells h).length):=hJJ (by rw [List.size_toArray] at hsz;rw [hsz];exact infoT)
 have AO:Hid (∀ W,Calls Tryz.prog 53 #[.int .i64 (or4 r),.int .i64 (onS T:Nat)] W fun e w'=>e=.returned (.bool (inR (or4 r) (onS T:Nat)))∧W=w'):=hJJ (fun W=>RkA.in_any _ _ W)
 have CL:Hid (∀ s W,Below w.heap.size w W→Calls Tryz.prog 94 #[.agg (T.cells h).toArray,.int .i64 s,.int .i64 s] W fun e w'=>e=.returned (.bool (clashR T s s))∧Below W.heap.size W w'):=hJJ (fun s W hb=>RkB.rclash_any T h s s W (ht.below hb))
 have AB:Hid (∀ s W,Below w.heap.size w W→Calls Tryz.prog 93 #[.agg (T.cells h).toArray,.int .i64 s] W fun e w'=>e=.returned (.bool (exitR T s))∧Below W.heap.size W w'):=hJJ (fun s W hb=>RkB.exit_any T h s W (ht.below hb) sm)
 obtain ⟨x,hx⟩:∃ x,x=railOk T r:=⟨_,rfl⟩
 rw [← hx]
 have HR:Hid (x=((inR (or4 r) (onS T:Nat) && (r.dwell != 0 && (bits .and .i64 r.dwell r.bars == 0 && exitR T r.exit))) && (!clashR T r.clear r.clear && (!clashR T r.dwell r.dwell && (!clashR T r.exit r.exit && timesOk r))))):=hJJ hx
 have LT0:=hJJ (Row.lies_new w (T.cells h).toArray 32)
 have hs1:(w.alloc (.cells (T.cells h).toArray 32)).heap.size=w.heap.size+1:=by simp
 have hone:=Rl.one r
 have hsz2:r.cells.toArray.size=11:=rfl
 have RC:=hJJ (rail_cells r)
 have O4:Hid (bits .or .i64 (bits .or .i64 (bits .or .i64 r.bars r.clear) r.dwell) r.exit=or4 r):=hJJ rfl
 obtain ⟨a1,ha1⟩:∃ z,inR (or4 r) (onS T:Nat)=z:=⟨_,rfl⟩
 obtain ⟨c1,hc1⟩:∃ z,clashR T r.clear r.clear=z:=⟨_,rfl⟩
 obtain ⟨c2,hc2⟩:∃ z,clashR T r.dwell r.dwell=z:=⟨_,rfl⟩
 obtain ⟨c3,hc3⟩:∃ z,clashR T r.exit r.exit=z:=⟨_,rfl⟩
 obtain ⟨b1,hb1⟩:∃ z,exitR T r.exit=z:=⟨_,rfl⟩
 have CL1:=hJJ (CL.out r.clear)
 have CL2:=hJJ (CL.out r.dwell)
 have CL3:=hJJ (CL.out r.exit)
 have AB1:=hJJ (AB.out r.exit)
 rw [ha1] at AO HR
 rw [hc1] at CL1 HR
 rw [hc2] at CL2 HR
 rw [hc3] at CL3 HR
 rw [hb1] at AB1 HR
 have TO:Hid (timesOk r=((decide (0 < r.hold) == (r.clear != 0)) && (decide (1≤r.green) && (decide (1≤r.stay) && ((r.most == 0 || decide (r.stay≤r.most)) && decide (r.delay < r.limit)))))):=hJJ rfl
 rw [show a1=true from ha1.symm.trans z0] at AO HR;rw [show b1=true from hb1.symm.trans z3] at AB1 HR;rw [show c1=false from hc1.symm.trans z4] at CL1 HR;rw [show c2=true from hc2.symm.trans z5] at CL2 HR
 clear hx ht CL AB ha1 hc1 hc2 hc3 hb1
 generalize timesOk r=tk at *
 clear z0 z3 z4 z5
 generalize or4 r=o4 at *
 generalize r.cells=rc at *
 obtain ⟨bars,clear_,dwell,exit,delay,green,foot,hold,stay,most,limit⟩:=r
 dsimp only at *
 generalize T.cells h=c at *
 generalize (((onS T:Nat)):Int)=on at *
 go_enter Tryz.func52,Tryz.ntmps52
 go_upto_region 1 with fail
 obtain ⟨u,hu,E1,E0,EB,b1'⟩:=laid2 w (.cells c.toArray 32) (.cells rc.toArray 47)
 rw [hu]
 have A0:=hJJ E0
 have A1:=hJJ (LT0.out.below (by rw [hs1];exact EB))
 have A2:Hid (u.heap[w.heap.size+1]?=some (.cells rc.toArray 47 (0,0))):=hJJ b1'
 clear hu EB LT0 b1' hs1 hsz hsz2 hone E0 E1
 have H1:=hJJ z1
 clear z1
 have H3:=hJJ z2
 clear z2
 have zb:(dwell != 0)=true:=bne_iff_ne.2 H1.out
 obtain ⟨q0,q1,q2,q3,q4,q5,q7,q8,q9,q10⟩:=RC.out _ _ A2.out
 go_wp2_with fail
 rw [O4.out]
 refine (AO.out _).mono ?_
 rintro e w' ⟨rfl,rfl⟩
 have zc:(bits .and .i64 dwell bars == 0)=true:=beq_iff_eq.2 H3.out
 go_wp2_with (refine lgZ 32 ⟨w.heap.size,0,none⟩ c rfl A1.out Tryz.underlying32 IA.out ?_)
 (try go_wp2_with fail)
 refine (AB1.out _ A0.out).mono ?_
 rintro e u1 ⟨rfl,hb⟩
 replace A0:Hid (Below w.heap.size w u1):=hJJ (A0.out.trans (hb.mono A0.out.size))
 replace A2:Hid (u1.heap[w.heap.size+1]?=some (.cells rc.toArray 47 (0,0))):=hJJ ((hb.block _ (Array.getElem?_eq_some_iff.1 A2.out).1).trans A2.out)
 replace A1:=hJJ (A1.out.below hb)
 clear q0 q1 q2 q3 q4 q5 q7 q8 q9 q10
 clear hb
 obtain ⟨q0,q1,q2,q3,q4,q5,q7,q8,q9,q10⟩:=RC.out _ _ A2.out
 rename_i Q1 K1 hK1 K2 hK2
 refine hK2 _ _ ?_
 refine wpList_plain rfl (fun K hK=>?_)
 go_simp
 refine hK _ _ ?_
 clear hK K
 (try dsimp only [Act.put]);(try simp only [zA,zB,zC])
 refine wpList_plain rfl (fun K hK=>?_)
 go_simp
 refine hK _ _ ?_
 clear hK K
 (try dsimp only [Act.put]);(try simp only [zA,zB,zC])
 refine hK1 _ _ ?_
 clear hK2 K2 hK1 K1
 refine wp_seq_k (fun K1 hK1=>?_)
 refine wp_region_lit ?_
 refine wpList_plain rfl (fun K hK=>?_)
 go_simp
 refine hK _ _ ?_
 clear hK K
 (try dsimp only [Act.put]);(try simp only [zA,zB,zC])
 refine wpList_plain rfl (fun K hK=>?_)
 go_simp
 refine hK _ _ ?_
 clear hK K
 (try dsimp only [Act.put]);(try simp only [zA,zB,zC])
 refine Row.wpList_load_g 32 _ rfl (by rfl) ⟨w.heap.size,0,none⟩ rfl c _ A1.out Tryz.underlying32 rfl IA.out ?_
 (try dsimp only [Act.put]);(try simp only [zA,zB,zC])
 refine BigFrame.wpList_want (by rfl) (fun K hK=>?_)
 go_simp
 refine hK _ _ ?_
 clear hK K
 (try dsimp only [Act.put]);(try simp only [zA,zB,zC])
 refine BigFrame.wpList_want (by rfl) (fun K hK=>?_)
 go_simp
 refine hK _ _ ?_
 clear hK K
 (try dsimp only [Act.put]);(try simp only [zA,zB,zC])
 refine BigFrame.wpList_want (by rfl) (fun K hK=>?_)
 go_simp
 refine hK _ _ ?_
 clear hK K
 (try dsimp only [Act.put]);(try simp only [zA,zB,zC])
 refine BigFrame.wpList_want (by rfl) (fun K hK=>?_)
 go_simp
 refine hK _ _ ?_
 clear hK K
 (try dsimp only [Act.put]);(try simp only [zA,zB,zC])
 refine BigFrame.wpList_want (by rfl) (fun K2 hK2=>?_)
 go_simp
 refine (CL1.out _ A0.out).mono ?_
 rintro e u2 ⟨rfl,hb⟩
 replace A0:Hid (Below w.heap.size w u2):=hJJ (A0.out.trans (hb.mono A0.out.size))
 replace A2:Hid (u2.heap[w.heap.size+1]?=some (.cells rc.toArray 47 (0,0))):=hJJ ((hb.block _ (Array.getElem?_eq_some_iff.1 A2.out).1).trans A2.out)
 replace A1:=hJJ (A1.out.below hb)
 clear q0 q1 q2 q3 q4 q5 q7 q8 q9 q10
 clear hb
 obtain ⟨q0,q1,q2,q3,q4,q5,q7,q8,q9,q10⟩:=RC.out _ _ A2.out
 refine hK2 _ _ ?_
 clear hK2 K2
 refine BigFrame.wpList_want (by rfl) (fun K hK=>?_)
 go_simp
 refine hK _ _ ?_
 clear hK K
 (try dsimp only [Act.put]);(try simp only [zA,zB,zC])
 refine wpList_plain rfl (fun K hK=>?_)
 go_simp
 refine hK _ _ ?_
 clear hK K
 (try dsimp only [Act.put]);(try simp only [zA,zB,zC])
 refine wpList_plain rfl (fun K hK=>?_)
 go_simp
 refine hK _ _ ?_
 clear hK K
 (try dsimp only [Act.put]);(try simp only [zA,zB,zC])
 refine Row.wpList_load_g 32 _ rfl (by rfl) ⟨w.heap.size,0,none⟩ rfl c _ A1.out Tryz.underlying32 rfl IA.out ?_
 (try dsimp only [Act.put]);(try simp only [zA,zB,zC])
 refine BigFrame.wpList_want (by rfl) (fun K hK=>?_)
 go_simp
 refine hK _ _ ?_
 clear hK K
 (try dsimp only [Act.put]);(try simp only [zA,zB,zC])
 refine BigFrame.wpList_want (by rfl) (fun K hK=>?_)
 go_simp
 refine hK _ _ ?_
 clear hK K
 (try dsimp only [Act.put]);(try simp only [zA,zB,zC])
 refine BigFrame.wpList_want (by rfl) (fun K hK=>?_)
 go_simp
 refine hK _ _ ?_
 clear hK K
 (try dsimp only [Act.put]);(try simp only [zA,zB,zC])
 refine BigFrame.wpList_want (by rfl) (fun K hK=>?_)
 go_simp
 refine hK _ _ ?_
 clear hK K
 (try dsimp only [Act.put]);(try simp only [zA,zB,zC])
 refine BigFrame.wpList_want (by rfl) (fun K2 hK2=>?_)
 go_simp
 refine (CL2.out _ A0.out).mono ?_
 rintro e u3 ⟨rfl,hb⟩
 replace A0:Hid (Below w.heap.size w u3):=hJJ (A0.out.trans (hb.mono A0.out.size))
 replace A2:Hid (u3.heap[w.heap.size+1]?=some (.cells rc.toArray 47 (0,0))):=hJJ ((hb.block _ (Array.getElem?_eq_some_iff.1 A2.out).1).trans A2.out)
 replace A1:=hJJ (A1.out.below hb)
 clear q0 q1 q2 q3 q4 q5 q7 q8 q9 q10
 clear hb
 obtain ⟨q0,q1,q2,q3,q4,q5,q7,q8,q9,q10⟩:=RC.out _ _ A2.out
 refine hK2 _ _ ?_
 clear hK2 K2
 refine BigFrame.wpList_want (by rfl) (fun K hK=>?_)
 go_simp
 refine hK _ _ ?_
 clear hK K
 (try dsimp only [Act.put]);(try simp only [zA,zB,zC])
 have HX:Hid (false=x):=hJJ (by rw [HR.out];simp)
 clear HR RC
 refine Early.out_get (by kernel_rfl) ?_
 refine hK1 _ _ ?_
 refine wp_ret ?_
 exact bodyPost_ret (v:=.bool false) (by kernel_rfl) (by kernel_rfl) ⟨ret_bool HX.out,A0.out⟩
end RkC
namespace RkC
open Zip
open Go.ChangeShapes Go.WideShapes Go.ChangeAt Go.RowKit
open Tab PlaceM PlanM OnS ChkM ChkA
open ChkB (laid2)
open May (ret_bool infoT infoR)
theorem rail_6 (T:Tab) (h:Hd) (r:Rl) (w:World) (ht:IsTab w h T) (sm:Few T) (z0:inR (or4 r) (onS T:Nat)=true) (z1:r.dwell ≠ 0) (z2:bits .and .i64 r.dwell r.bars=0) (z3:exitR T r.exit=true) (z4:clashR T r.clear r.clear=false) (z5:clashR T r.dwell r.dwell=false) (z6:clashR T r.exit r.exit=true) :
  Calls Tryz.prog 52 #[.agg (T.cells h).toArray,.agg r.cells.toArray,.int .i64 (onS T:Nat)] w fun e w'=>e=.returned (.bool (railOk T r))∧Below w.heap.size w w':=by
 have hsz:=(cells_ok ht).size
 have IA:Hid ((Tryz.prog.info? 32).map (·.size)=some (T.cells h).length):=hJJ (by rw [List.size_toArray] at hsz;rw [hsz];exact infoT)
 have AO:Hid (∀ W,Calls Tryz.prog 53 #[.int .i64 (or4 r),.int .i64 (onS T:Nat)] W fun e w'=>e=.returned (.bool (inR (or4 r) (onS T:Nat)))∧W=w'):=hJJ (fun W=>RkA.in_any _ _ W)
 have CL:Hid (∀ s W,Below w.heap.size w W→Calls Tryz.prog 94 #[.agg (T.cells h).toArray,.int .i64 s,.int .i64 s] W fun e w'=>e=.returned (.bool (clashR T s s))∧Below W.heap.size W w'):=hJJ (fun s W hb=>RkB.rclash_any T h s s W (ht.below hb))
 have AB:Hid (∀ s W,Below w.heap.size w W→Calls Tryz.prog 93 #[.agg (T.cells h).toArray,.int .i64 s] W fun e w'=>e=.returned (.bool (exitR T s))∧Below W.heap.size W w'):=hJJ (fun s W hb=>RkB.exit_any T h s W (ht.below hb) sm)
 obtain ⟨x,hx⟩:∃ x,x=railOk T r:=⟨_,rfl⟩
 rw [← hx]
 have HR:Hid (x=((inR (or4 r) (onS T:Nat) && (r.dwell != 0 && (bits .and .i64 r.dwell r.bars == 0 && exitR T r.exit))) && (!clashR T r.clear r.clear && (!clashR T r.dwell r.dwell && (!clashR T r.exit r.exit && timesOk r))))):=hJJ hx
 have LT0:=hJJ (Row.lies_new w (T.cells h).toArray 32)
 have hs1:(w.alloc (.cells (T.cells h).toArray 32)).heap.size=w.heap.size+1:=by simp
 have hone:=Rl.one r
 have hsz2:r.cells.toArray.size=11:=rfl
 have RC:=hJJ (rail_cells r)
 have O4:Hid (bits .or .i64 (bits .or .i64 (bits .or .i64 r.bars r.clear) r.dwell) r.exit=or4 r):=hJJ rfl
 obtain ⟨a1,ha1⟩:∃ z,inR (or4 r) (onS T:Nat)=z:=⟨_,rfl⟩
 obtain ⟨c1,hc1⟩:∃ z,clashR T r.clear r.clear=z:=⟨_,rfl⟩
 obtain ⟨c2,hc2⟩:∃ z,clashR T r.dwell r.dwell=z:=⟨_,rfl⟩
 obtain ⟨c3,hc3⟩:∃ z,clashR T r.exit r.exit=z:=⟨_,rfl⟩
 obtain ⟨b1,hb1⟩:∃ z,exitR T r.exit=z:=⟨_,rfl⟩
 have CL1:=hJJ (CL.out r.clear)
 have CL2:=hJJ (CL.out r.dwell)
 have CL3:=hJJ (CL.out r.exit)
 have AB1:=hJJ (AB.out r.exit)
 rw [ha1] at AO HR
 rw [hc1] at CL1 HR
 rw [hc2] at CL2 HR
 rw [hc3] at CL3 HR
 rw [hb1] at AB1 HR
 have TO:Hid (timesOk r=((decide (0 < r.hold) == (r.clear != 0)) && (decide (1≤r.green) && (decide (1≤r.stay) && ((r.most == 0 || decide (r.stay≤r.most)) && decide (r.delay < r.limit)))))):=hJJ rfl
 rw [show a1=true from ha1.symm.trans z0] at AO HR;rw [show b1=true from hb1.symm.trans z3] at AB1 HR;rw [show c1=false from hc1.symm.trans z4] at CL1 HR;rw [show c2=false from hc2.symm.trans z5] at CL2 HR;rw [show c3=true from hc3.symm.trans z6] at CL3 HR
 clear hx ht CL AB ha1 hc1 hc2 hc3 hb1
 generalize timesOk r=tk at *
 clear z0 z3 z4 z5 z6
 generalize or4 r=o4 at *
 generalize r.cells=rc at *
 obtain ⟨bars,clear_,dwell,exit,delay,green,foot,hold,stay,most,limit⟩:=r
 dsimp only at *
 generalize T.cells h=c at *
 generalize (((onS T:Nat)):Int)=on at *
 go_enter Tryz.func52,Tryz.ntmps52
 go_upto_region 1 with fail
 obtain ⟨u,hu,E1,E0,EB,b1'⟩:=laid2 w (.cells c.toArray 32) (.cells rc.toArray 47)
 rw [hu]
 have A0:=hJJ E0
 have A1:=hJJ (LT0.out.below (by rw [hs1];exact EB))
 have A2:Hid (u.heap[w.heap.size+1]?=some (.cells rc.toArray 47 (0,0))):=hJJ b1'
 clear hu EB LT0 b1' hs1 hsz hsz2 hone E0 E1
 have H1:=hJJ z1
 clear z1
 have H3:=hJJ z2
 clear z2
 have zb:(dwell != 0)=true:=bne_iff_ne.2 H1.out
 obtain ⟨q0,q1,q2,q3,q4,q5,q7,q8,q9,q10⟩:=RC.out _ _ A2.out
 go_wp2_with fail
 rw [O4.out]
 refine (AO.out _).mono ?_
 rintro e w' ⟨rfl,rfl⟩
 have zc:(bits .and .i64 dwell bars == 0)=true:=beq_iff_eq.2 H3.out
 go_wp2_with (refine lgZ 32 ⟨w.heap.size,0,none⟩ c rfl A1.out Tryz.underlying32 IA.out ?_)
 (try go_wp2_with fail)
 refine (AB1.out _ A0.out).mono ?_
 rintro e u1 ⟨rfl,hb⟩
 replace A0:Hid (Below w.heap.size w u1):=hJJ (A0.out.trans (hb.mono A0.out.size))
 replace A2:Hid (u1.heap[w.heap.size+1]?=some (.cells rc.toArray 47 (0,0))):=hJJ ((hb.block _ (Array.getElem?_eq_some_iff.1 A2.out).1).trans A2.out)
 replace A1:=hJJ (A1.out.below hb)
 clear q0 q1 q2 q3 q4 q5 q7 q8 q9 q10
 clear hb
 obtain ⟨q0,q1,q2,q3,q4,q5,q7,q8,q9,q10⟩:=RC.out _ _ A2.out
 rename_i Q1 K1 hK1 K2 hK2
 refine hK2 _ _ ?_
 refine wpList_plain rfl (fun K hK=>?_)
 go_simp
 refine hK _ _ ?_
 clear hK K
 (try dsimp only [Act.put]);(try simp only [zA,zB,zC])
 refine wpList_plain rfl (fun K hK=>?_)
 go_simp
 refine hK _ _ ?_
 clear hK K
 (try dsimp only [Act.put]);(try simp only [zA,zB,zC])
 refine hK1 _ _ ?_
 clear hK2 K2 hK1 K1
 refine wp_seq_k (fun K1 hK1=>?_)
 refine wp_region_lit ?_
 refine wpList_plain rfl (fun K hK=>?_)
 go_simp
 refine hK _ _ ?_
 clear hK K
 (try dsimp only [Act.put]);(try simp only [zA,zB,zC])
 refine wpList_plain rfl (fun K hK=>?_)
 go_simp
 refine hK _ _ ?_
 clear hK K
 (try dsimp only [Act.put]);(try simp only [zA,zB,zC])
 refine Row.wpList_load_g 32 _ rfl (by rfl) ⟨w.heap.size,0,none⟩ rfl c _ A1.out Tryz.underlying32 rfl IA.out ?_
 (try dsimp only [Act.put]);(try simp only [zA,zB,zC])
 refine BigFrame.wpList_want (by rfl) (fun K hK=>?_)
 go_simp
 refine hK _ _ ?_
 clear hK K
 (try dsimp only [Act.put]);(try simp only [zA,zB,zC])
 refine BigFrame.wpList_want (by rfl) (fun K hK=>?_)
 go_simp
 refine hK _ _ ?_
 clear hK K
 (try dsimp only [Act.put]);(try simp only [zA,zB,zC])
 refine BigFrame.wpList_want (by rfl) (fun K hK=>?_)
 go_simp
 refine hK _ _ ?_
 clear hK K
 (try dsimp only [Act.put]);(try simp only [zA,zB,zC])
 refine BigFrame.wpList_want (by rfl) (fun K hK=>?_)
 go_simp
 refine hK _ _ ?_
 clear hK K
 (try dsimp only [Act.put]);(try simp only [zA,zB,zC])
 refine BigFrame.wpList_want (by rfl) (fun K2 hK2=>?_)
 go_simp
 refine (CL1.out _ A0.out).mono ?_
 rintro e u2 ⟨rfl,hb⟩
 replace A0:Hid (Below w.heap.size w u2):=hJJ (A0.out.trans (hb.mono A0.out.size))
 replace A2:Hid (u2.heap[w.heap.size+1]?=some (.cells rc.toArray 47 (0,0))):=hJJ ((hb.block _ (Array.getElem?_eq_some_iff.1 A2.out).1).trans A2.out)
 replace A1:=hJJ (A1.out.below hb)
 clear q0 q1 q2 q3 q4 q5 q7 q8 q9 q10
 clear hb
 obtain ⟨q0,q1,q2,q3,q4,q5,q7,q8,q9,q10⟩:=RC.out _ _ A2.out
 refine hK2 _ _ ?_
 clear hK2 K2
 refine BigFrame.wpList_want (by rfl) (fun K hK=>?_)
 go_simp
 refine hK _ _ ?_
 clear hK K
 (try dsimp only [Act.put]);(try simp only [zA,zB,zC])
 refine wpList_plain rfl (fun K hK=>?_)
 go_simp
 refine hK _ _ ?_
 clear hK K
 (try dsimp only [Act.put]);(try simp only [zA,zB,zC])
 refine wpList_plain rfl (fun K hK=>?_)
 go_simp
 refine hK _ _ ?_
 clear hK K
 (try dsimp only [Act.put]);(try simp only [zA,zB,zC])
 refine Row.wpList_load_g 32 _ rfl (by rfl) ⟨w.heap.size,0,none⟩ rfl c _ A1.out Tryz.underlying32 rfl IA.out ?_
 (try dsimp only [Act.put]);(try simp only [zA,zB,zC])
 refine BigFrame.wpList_want (by rfl) (fun K hK=>?_)
 go_simp
 refine hK _ _ ?_
 clear hK K
 (try dsimp only [Act.put]);(try simp only [zA,zB,zC])
 refine BigFrame.wpList_want (by rfl) (fun K hK=>?_)
 go_simp
 refine hK _ _ ?_
 clear hK K
 (try dsimp only [Act.put]);(try simp only [zA,zB,zC])
 refine BigFrame.wpList_want (by rfl) (fun K hK=>?_)
 go_simp
 refine hK _ _ ?_
 clear hK K
 (try dsimp only [Act.put]);(try simp only [zA,zB,zC])
 refine BigFrame.wpList_want (by rfl) (fun K hK=>?_)
 go_simp
 refine hK _ _ ?_
 clear hK K
 (try dsimp only [Act.put]);(try simp only [zA,zB,zC])
 refine BigFrame.wpList_want (by rfl) (fun K2 hK2=>?_)
 go_simp
 refine (CL2.out _ A0.out).mono ?_
 rintro e u3 ⟨rfl,hb⟩
 replace A0:Hid (Below w.heap.size w u3):=hJJ (A0.out.trans (hb.mono A0.out.size))
 replace A2:Hid (u3.heap[w.heap.size+1]?=some (.cells rc.toArray 47 (0,0))):=hJJ ((hb.block _ (Array.getElem?_eq_some_iff.1 A2.out).1).trans A2.out)
 replace A1:=hJJ (A1.out.below hb)
 clear q0 q1 q2 q3 q4 q5 q7 q8 q9 q10
 clear hb
 obtain ⟨q0,q1,q2,q3,q4,q5,q7,q8,q9,q10⟩:=RC.out _ _ A2.out
 refine hK2 _ _ ?_
 clear hK2 K2
 refine BigFrame.wpList_want (by rfl) (fun K hK=>?_)
 go_simp
 refine hK _ _ ?_
 clear hK K
 (try dsimp only [Act.put]);(try simp only [zA,zB,zC])
 refine wpList_plain rfl (fun K hK=>?_)
 go_simp
 refine hK _ _ ?_
 clear hK K
 (try dsimp only [Act.put]);(try simp only [zA,zB,zC])
 refine wpList_plain rfl (fun K hK=>?_)
 go_simp
 refine hK _ _ ?_
 clear hK K
 (try dsimp only [Act.put]);(try simp only [zA,zB,zC])
 refine Row.wpList_load_g 32 _ rfl (by rfl) ⟨w.heap.size,0,none⟩ rfl c _ A1.out Tryz.underlying32 rfl IA.out ?_
 (try dsimp only [Act.put]);(try simp only [zA,zB,zC])
 refine BigFrame.wpList_want (by rfl) (fun K hK=>?_)
 go_simp
 refine hK _ _ ?_
 clear hK K
 (try dsimp only [Act.put]);(try simp only [zA,zB,zC])
 refine BigFrame.wpList_want (by rfl) (fun K hK=>?_)
 go_simp
 refine hK _ _ ?_
 clear hK K
 (try dsimp only [Act.put]);(try simp only [zA,zB,zC])
 refine BigFrame.wpList_want (by rfl) (fun K hK=>?_)
 go_simp
 refine hK _ _ ?_
 clear hK K
 (try dsimp only [Act.put]);(try simp only [zA,zB,zC])
 refine BigFrame.wpList_want (by rfl) (fun K hK=>?_)
 go_simp
 refine hK _ _ ?_
 clear hK K
 (try dsimp only [Act.put]);(try simp only [zA,zB,zC])
 refine BigFrame.wpList_want (by rfl) (fun K2 hK2=>?_)
 go_simp
 refine (CL3.out _ A0.out).mono ?_
 rintro e u4 ⟨rfl,hb⟩
 replace A0:Hid (Below w.heap.size w u4):=hJJ (A0.out.trans (hb.mono A0.out.size))
 replace A2:Hid (u4.heap[w.heap.size+1]?=some (.cells rc.toArray 47 (0,0))):=hJJ ((hb.block _ (Array.getElem?_eq_some_iff.1 A2.out).1).trans A2.out)
 replace A1:=hJJ (A1.out.below hb)
 clear q0 q1 q2 q3 q4 q5 q7 q8 q9 q10
 clear hb
 obtain ⟨q0,q1,q2,q3,q4,q5,q7,q8,q9,q10⟩:=RC.out _ _ A2.out
 refine hK2 _ _ ?_
 clear hK2 K2
 refine BigFrame.wpList_want (by rfl) (fun K hK=>?_)
 go_simp
 refine hK _ _ ?_
 clear hK K
 (try dsimp only [Act.put]);(try simp only [zA,zB,zC])
 have HX:Hid (false=x):=hJJ (by rw [HR.out];simp)
 clear HR RC
 refine Early.out_get (by kernel_rfl) ?_
 refine hK1 _ _ ?_
 refine wp_ret ?_
 exact bodyPost_ret (v:=.bool false) (by kernel_rfl) (by kernel_rfl) ⟨ret_bool HX.out,A0.out⟩
end RkC
namespace RkC
open Zip
open Go.ChangeShapes Go.WideShapes Go.ChangeAt Go.RowKit
open Tab PlaceM PlanM OnS ChkM ChkA
open ChkB (laid2)
open May (ret_bool infoT infoR)
theorem rail_7 (T:Tab) (h:Hd) (r:Rl) (w:World) (ht:IsTab w h T) (sm:Few T) (z0:inR (or4 r) (onS T:Nat)=true) (z1:r.dwell ≠ 0) (z2:bits .and .i64 r.dwell r.bars=0) (z3:exitR T r.exit=true) (z4:clashR T r.clear r.clear=false) (z5:clashR T r.dwell r.dwell=false) (z6:clashR T r.exit r.exit=false) :
  Calls Tryz.prog 52 #[.agg (T.cells h).toArray,.agg r.cells.toArray,.int .i64 (onS T:Nat)] w fun e w'=>e=.returned (.bool (railOk T r))∧Below w.heap.size w w':=by
 have hsz:=(cells_ok ht).size
 have IA:Hid ((Tryz.prog.info? 32).map (·.size)=some (T.cells h).length):=hJJ (by rw [List.size_toArray] at hsz;rw [hsz];exact infoT)
 have AO:Hid (∀ W,Calls Tryz.prog 53 #[.int .i64 (or4 r),.int .i64 (onS T:Nat)] W fun e w'=>e=.returned (.bool (inR (or4 r) (onS T:Nat)))∧W=w'):=hJJ (fun W=>RkA.in_any _ _ W)
 have CL:Hid (∀ s W,Below w.heap.size w W→Calls Tryz.prog 94 #[.agg (T.cells h).toArray,.int .i64 s,.int .i64 s] W fun e w'=>e=.returned (.bool (clashR T s s))∧Below W.heap.size W w'):=hJJ (fun s W hb=>RkB.rclash_any T h s s W (ht.below hb))
 have AB:Hid (∀ s W,Below w.heap.size w W→Calls Tryz.prog 93 #[.agg (T.cells h).toArray,.int .i64 s] W fun e w'=>e=.returned (.bool (exitR T s))∧Below W.heap.size W w'):=hJJ (fun s W hb=>RkB.exit_any T h s W (ht.below hb) sm)
 obtain ⟨x,hx⟩:∃ x,x=railOk T r:=⟨_,rfl⟩
 rw [← hx]
 have HR:Hid (x=((inR (or4 r) (onS T:Nat) && (r.dwell != 0 && (bits .and .i64 r.dwell r.bars == 0 && exitR T r.exit))) && (!clashR T r.clear r.clear && (!clashR T r.dwell r.dwell && (!clashR T r.exit r.exit && timesOk r))))):=hJJ hx
 have LT0:=hJJ (Row.lies_new w (T.cells h).toArray 32)
 have hs1:(w.alloc (.cells (T.cells h).toArray 32)).heap.size=w.heap.size+1:=by simp
 have hone:=Rl.one r
 have hsz2:r.cells.toArray.size=11:=rfl
 have RC:=hJJ (rail_cells r)
 have O4:Hid (bits .or .i64 (bits .or .i64 (bits .or .i64 r.bars r.clear) r.dwell) r.exit=or4 r):=hJJ rfl
 obtain ⟨a1,ha1⟩:∃ z,inR (or4 r) (onS T:Nat)=z:=⟨_,rfl⟩
 obtain ⟨c1,hc1⟩:∃ z,clashR T r.clear r.clear=z:=⟨_,rfl⟩
 obtain ⟨c2,hc2⟩:∃ z,clashR T r.dwell r.dwell=z:=⟨_,rfl⟩
 obtain ⟨c3,hc3⟩:∃ z,clashR T r.exit r.exit=z:=⟨_,rfl⟩
 obtain ⟨b1,hb1⟩:∃ z,exitR T r.exit=z:=⟨_,rfl⟩
 have CL1:=hJJ (CL.out r.clear)
 have CL2:=hJJ (CL.out r.dwell)
 have CL3:=hJJ (CL.out r.exit)
 have AB1:=hJJ (AB.out r.exit)
 rw [ha1] at AO HR
 rw [hc1] at CL1 HR
 rw [hc2] at CL2 HR
 rw [hc3] at CL3 HR
 rw [hb1] at AB1 HR
 have TO:Hid (timesOk r=((decide (0 < r.hold) == (r.clear != 0)) && (decide (1≤r.green) && (decide (1≤r.stay) && ((r.most == 0 || decide (r.stay≤r.most)) && decide (r.delay < r.limit)))))):=hJJ rfl
 rw [show a1=true from ha1.symm.trans z0] at AO HR;rw [show b1=true from hb1.symm.trans z3] at AB1 HR;rw [show c1=false from hc1.symm.trans z4] at CL1 HR;rw [show c2=false from hc2.symm.trans z5] at CL2 HR;rw [show c3=false from hc3.symm.trans z6] at CL3 HR
 clear hx ht CL AB ha1 hc1 hc2 hc3 hb1
 generalize timesOk r=tk at *
 clear z0 z3 z4 z5 z6
 generalize or4 r=o4 at *
 generalize r.cells=rc at *
 obtain ⟨bars,clear_,dwell,exit,delay,green,foot,hold,stay,most,limit⟩:=r
 dsimp only at *
 generalize T.cells h=c at *
 generalize (((onS T:Nat)):Int)=on at *
 go_enter Tryz.func52,Tryz.ntmps52
 go_upto_region 1 with fail
 obtain ⟨u,hu,E1,E0,EB,b1'⟩:=laid2 w (.cells c.toArray 32) (.cells rc.toArray 47)
 rw [hu]
 have A0:=hJJ E0
 have A1:=hJJ (LT0.out.below (by rw [hs1];exact EB))
 have A2:Hid (u.heap[w.heap.size+1]?=some (.cells rc.toArray 47 (0,0))):=hJJ b1'
 clear hu EB LT0 b1' hs1 hsz hsz2 hone E0 E1
 have H1:=hJJ z1
 clear z1
 have H3:=hJJ z2
 clear z2
 have zb:(dwell != 0)=true:=bne_iff_ne.2 H1.out
 obtain ⟨q0,q1,q2,q3,q4,q5,q7,q8,q9,q10⟩:=RC.out _ _ A2.out
 go_wp2_with fail
 rw [O4.out]
 refine (AO.out _).mono ?_
 rintro e w' ⟨rfl,rfl⟩
 have zc:(bits .and .i64 dwell bars == 0)=true:=beq_iff_eq.2 H3.out
 go_wp2_with (refine lgZ 32 ⟨w.heap.size,0,none⟩ c rfl A1.out Tryz.underlying32 IA.out ?_)
 (try go_wp2_with fail)
 refine (AB1.out _ A0.out).mono ?_
 rintro e u1 ⟨rfl,hb⟩
 replace A0:Hid (Below w.heap.size w u1):=hJJ (A0.out.trans (hb.mono A0.out.size))
 replace A2:Hid (u1.heap[w.heap.size+1]?=some (.cells rc.toArray 47 (0,0))):=hJJ ((hb.block _ (Array.getElem?_eq_some_iff.1 A2.out).1).trans A2.out)
 replace A1:=hJJ (A1.out.below hb)
 clear q0 q1 q2 q3 q4 q5 q7 q8 q9 q10
 clear hb
 obtain ⟨q0,q1,q2,q3,q4,q5,q7,q8,q9,q10⟩:=RC.out _ _ A2.out
 rename_i Q1 K1 hK1 K2 hK2
 refine hK2 _ _ ?_
 refine wpList_plain rfl (fun K hK=>?_)
 go_simp
 refine hK _ _ ?_
 clear hK K
 (try dsimp only [Act.put]);(try simp only [zA,zB,zC])
 refine wpList_plain rfl (fun K hK=>?_)
 go_simp
 refine hK _ _ ?_
 clear hK K
 (try dsimp only [Act.put]);(try simp only [zA,zB,zC])
 refine hK1 _ _ ?_
 clear hK2 K2 hK1 K1
 refine wp_seq_k (fun K1 hK1=>?_)
 refine wp_region_lit ?_
 refine wpList_plain rfl (fun K hK=>?_)
 go_simp
 refine hK _ _ ?_
 clear hK K
 (try dsimp only [Act.put]);(try simp only [zA,zB,zC])
 refine wpList_plain rfl (fun K hK=>?_)
 go_simp
 refine hK _ _ ?_
 clear hK K
 (try dsimp only [Act.put]);(try simp only [zA,zB,zC])
 refine Row.wpList_load_g 32 _ rfl (by rfl) ⟨w.heap.size,0,none⟩ rfl c _ A1.out Tryz.underlying32 rfl IA.out ?_
 (try dsimp only [Act.put]);(try simp only [zA,zB,zC])
 refine BigFrame.wpList_want (by rfl) (fun K hK=>?_)
 go_simp
 refine hK _ _ ?_
 clear hK K
 (try dsimp only [Act.put]);(try simp only [zA,zB,zC])
 refine BigFrame.wpList_want (by rfl) (fun K hK=>?_)
 go_simp
 refine hK _ _ ?_
 clear hK K
 (try dsimp only [Act.put]);(try simp only [zA,zB,zC])
 refine BigFrame.wpList_want (by rfl) (fun K hK=>?_)
 go_simp
 refine hK _ _ ?_
 clear hK K
 (try dsimp only [Act.put]);(try simp only [zA,zB,zC])
 refine BigFrame.wpList_want (by rfl) (fun K hK=>?_)
 go_simp
 refine hK _ _ ?_
 clear hK K
 (try dsimp only [Act.put]);(try simp only [zA,zB,zC])
 refine BigFrame.wpList_want (by rfl) (fun K2 hK2=>?_)
 go_simp
 refine (CL1.out _ A0.out).mono ?_
 rintro e u2 ⟨rfl,hb⟩
 replace A0:Hid (Below w.heap.size w u2):=hJJ (A0.out.trans (hb.mono A0.out.size))
 replace A2:Hid (u2.heap[w.heap.size+1]?=some (.cells rc.toArray 47 (0,0))):=hJJ ((hb.block _ (Array.getElem?_eq_some_iff.1 A2.out).1).trans A2.out)
 replace A1:=hJJ (A1.out.below hb)
 clear q0 q1 q2 q3 q4 q5 q7 q8 q9 q10
 clear hb
 obtain ⟨q0,q1,q2,q3,q4,q5,q7,q8,q9,q10⟩:=RC.out _ _ A2.out
 refine hK2 _ _ ?_
 clear hK2 K2
 refine BigFrame.wpList_want (by rfl) (fun K hK=>?_)
 go_simp
 refine hK _ _ ?_
 clear hK K
 (try dsimp only [Act.put]);(try simp only [zA,zB,zC])
 refine wpList_plain rfl (fun K hK=>?_)
 go_simp
 refine hK _ _ ?_
 clear hK K
 (try dsimp only [Act.put]);(try simp only [zA,zB,zC])
 refine wpList_plain rfl (fun K hK=>?_)
 go_simp
 refine hK _ _ ?_
 clear hK K
 (try dsimp only [Act.put]);(try simp only [zA,zB,zC])
 refine Row.wpList_load_g 32 _ rfl (by rfl) ⟨w.heap.size,0,none⟩ rfl c _ A1.out Tryz.underlying32 rfl IA.out ?_
 (try dsimp only [Act.put]);(try simp only [zA,zB,zC])
 refine BigFrame.wpList_want (by rfl) (fun K hK=>?_)
 go_simp
 refine hK _ _ ?_
 clear hK K
 (try dsimp only [Act.put]);(try simp only [zA,zB,zC])
 refine BigFrame.wpList_want (by rfl) (fun K hK=>?_)
 go_simp
 refine hK _ _ ?_
 clear hK K
 (try dsimp only [Act.put]);(try simp only [zA,zB,zC])
 refine BigFrame.wpList_want (by rfl) (fun K hK=>?_)
 go_simp
 refine hK _ _ ?_
 clear hK K
 (try dsimp only [Act.put]);(try simp only [zA,zB,zC])
 refine BigFrame.wpList_want (by rfl) (fun K hK=>?_)
 go_simp
 refine hK _ _ ?_
 clear hK K
 (try dsimp only [Act.put]);(try simp only [zA,zB,zC])
 refine BigFrame.wpList_want (by rfl) (fun K2 hK2=>?_)
 go_simp
 refine (CL2.out _ A0.out).mono ?_
 rintro e u3 ⟨rfl,hb⟩
 replace A0:Hid (Below w.heap.size w u3):=hJJ (A0.out.trans (hb.mono A0.out.size))
 replace A2:Hid (u3.heap[w.heap.size+1]?=some (.cells rc.toArray 47 (0,0))):=hJJ ((hb.block _ (Array.getElem?_eq_some_iff.1 A2.out).1).trans A2.out)
 replace A1:=hJJ (A1.out.below hb)
 clear q0 q1 q2 q3 q4 q5 q7 q8 q9 q10
 clear hb
 obtain ⟨q0,q1,q2,q3,q4,q5,q7,q8,q9,q10⟩:=RC.out _ _ A2.out
 refine hK2 _ _ ?_
 clear hK2 K2
 refine BigFrame.wpList_want (by rfl) (fun K hK=>?_)
 go_simp
 refine hK _ _ ?_
 clear hK K
 (try dsimp only [Act.put]);(try simp only [zA,zB,zC])
 refine wpList_plain rfl (fun K hK=>?_)
 go_simp
 refine hK _ _ ?_
 clear hK K
 (try dsimp only [Act.put]);(try simp only [zA,zB,zC])
 refine wpList_plain rfl (fun K hK=>?_)
 go_simp
 refine hK _ _ ?_
 clear hK K
 (try dsimp only [Act.put]);(try simp only [zA,zB,zC])
 refine Row.wpList_load_g 32 _ rfl (by rfl) ⟨w.heap.size,0,none⟩ rfl c _ A1.out Tryz.underlying32 rfl IA.out ?_
 (try dsimp only [Act.put]);(try simp only [zA,zB,zC])
 refine BigFrame.wpList_want (by rfl) (fun K hK=>?_)
 go_simp
 refine hK _ _ ?_
 clear hK K
 (try dsimp only [Act.put]);(try simp only [zA,zB,zC])
 refine BigFrame.wpList_want (by rfl) (fun K hK=>?_)
 go_simp
 refine hK _ _ ?_
 clear hK K
 (try dsimp only [Act.put]);(try simp only [zA,zB,zC])
 refine BigFrame.wpList_want (by rfl) (fun K hK=>?_)
 go_simp
 refine hK _ _ ?_
 clear hK K
 (try dsimp only [Act.put]);(try simp only [zA,zB,zC])
 refine BigFrame.wpList_want (by rfl) (fun K hK=>?_)
 go_simp
 refine hK _ _ ?_
 clear hK K
 (try dsimp only [Act.put]);(try simp only [zA,zB,zC])
 refine BigFrame.wpList_want (by rfl) (fun K2 hK2=>?_)
 go_simp
 refine (CL3.out _ A0.out).mono ?_
 rintro e u4 ⟨rfl,hb⟩
 replace A0:Hid (Below w.heap.size w u4):=hJJ (A0.out.trans (hb.mono A0.out.size))
 replace A2:Hid (u4.heap[w.heap.size+1]?=some (.cells rc.toArray 47 (0,0))):=hJJ ((hb.block _ (Array.getElem?_eq_some_iff.1 A2.out).1).trans A2.out)
 replace A1:=hJJ (A1.out.below hb)
 clear q0 q1 q2 q3 q4 q5 q7 q8 q9 q10
 clear hb
 obtain ⟨q0,q1,q2,q3,q4,q5,q7,q8,q9,q10⟩:=RC.out _ _ A2.out
 refine hK2 _ _ ?_
 clear hK2 K2
 refine BigFrame.wpList_want (by rfl) (fun K hK=>?_)
 go_simp
 refine hK _ _ ?_
 clear hK K
 (try dsimp only [Act.put]);(try simp only [zA,zB,zC])
 refine wpList_plain rfl (fun K hK=>?_)
 go_simp
 refine hK _ _ ?_
 clear hK K
 (try dsimp only [Act.put]);(try simp only [zA,zB,zC])
 refine wpList_plain rfl (fun K hK=>?_)
 go_simp
 refine hK _ _ ?_
 clear hK K
 (try dsimp only [Act.put]);(try simp only [zA,zB,zC])
 have HX:Hid (x=tk):=hJJ (by rw [HR.out,bne_iff_ne.2 H1.out,beq_iff_eq.2 H3.out];rfl)
 clear HR RC zb zc
 obtain ⟨va,hva⟩:∃ z,decide (0 < hold)=z:=⟨_,rfl⟩
 obtain ⟨vb,hvb⟩:∃ z,(clear_ != 0)=z:=⟨_,rfl⟩
 by_cases g1:va=vb
 rotate_left
 ·have g7:(va == vb)=false:=beq_eq_false_iff_ne.2 g1
  clear g1
  refine BigFrame.wpList_want (by rfl) (fun K hK=>?_)
  go_simp
  refine hK _ _ ?_
  clear hK K
  (try dsimp only [Act.put]);(try simp only [zA,zB,zC])
  refine BigFrame.wpList_want (by rfl) (fun K hK=>?_)
  go_simp
  refine hK _ _ ?_
  clear hK K
  (try dsimp only [Act.put]);(try simp only [zA,zB,zC])
  refine BigFrame.wpList_want (by rfl) (fun K hK=>?_)
  go_simp
  refine hK _ _ ?_
  clear hK K
  (try dsimp only [Act.put]);(try simp only [zA,zB,zC])
  refine BigFrame.wpList_want (by rfl) (fun K hK=>?_)
  go_simp
  refine hK _ _ ?_
  clear hK K
  (try dsimp only [Act.put]);(try simp only [zA,zB,zC])
  refine BigFrame.wpList_want (by rfl) (fun K hK=>?_)
  go_simp
  refine hK _ _ ?_
  clear hK K
  (try dsimp only [Act.put]);(try simp only [zA,zB,zC])
  refine BigFrame.wpList_want (by rfl) (fun K hK=>?_)
  go_simp
  refine hK _ _ ?_
  clear hK K
  (try dsimp only [Act.put]);(try simp only [zA,zB,zC])
  refine BigFrame.wpList_want (by rfl) (fun K hK=>?_)
  go_simp
  refine hK _ _ ?_
  clear hK K
  (try dsimp only [Act.put]);(try simp only [zA,zB,zC])
  have FX:Hid (false=x):=hJJ (by rw [HX.out,TO.out];simp [hva,hvb,g7])
  refine Early.out_get (by kernel_rfl) ?_
  refine hK1 _ _ ?_
  refine wp_ret ?_
  exact bodyPost_ret (v:=.bool false) (by kernel_rfl) (by kernel_rfl) ⟨ret_bool FX.out,A0.out⟩
 subst g1
 have g7:(va == va)=true:=beq_self_eq_true _
 refine BigFrame.wpList_want (by rfl) (fun K hK=>?_)
 go_simp
 refine hK _ _ ?_
 clear hK K
 (try dsimp only [Act.put]);(try simp only [zA,zB,zC])
 refine BigFrame.wpList_want (by rfl) (fun K hK=>?_)
 go_simp
 refine hK _ _ ?_
 clear hK K
 (try dsimp only [Act.put]);(try simp only [zA,zB,zC])
 refine BigFrame.wpList_want (by rfl) (fun K hK=>?_)
 go_simp
 refine hK _ _ ?_
 clear hK K
 (try dsimp only [Act.put]);(try simp only [zA,zB,zC])
 refine BigFrame.wpList_want (by rfl) (fun K hK=>?_)
 go_simp
 refine hK _ _ ?_
 clear hK K
 (try dsimp only [Act.put]);(try simp only [zA,zB,zC])
 refine BigFrame.wpList_want (by rfl) (fun K hK=>?_)
 go_simp
 refine hK _ _ ?_
 clear hK K
 (try dsimp only [Act.put]);(try simp only [zA,zB,zC])
 refine BigFrame.wpList_want (by rfl) (fun K hK=>?_)
 go_simp
 refine hK _ _ ?_
 clear hK K
 (try dsimp only [Act.put]);(try simp only [zA,zB,zC])
 refine BigFrame.wpList_want (by rfl) (fun K hK=>?_)
 go_simp
 refine hK _ _ ?_
 clear hK K
 (try dsimp only [Act.put]);(try simp only [zA,zB,zC])
 clear g7
 refine wpList_plain rfl (fun K hK=>?_)
 go_simp
 refine hK _ _ ?_
 clear hK K
 (try dsimp only [Act.put]);(try simp only [zA,zB,zC])
 refine wpList_plain rfl (fun K hK=>?_)
 go_simp
 refine hK _ _ ?_
 clear hK K
 (try dsimp only [Act.put]);(try simp only [zA,zB,zC])
 by_cases g2:1≤green
 rotate_left
 ·have f2:decide (1≤green)=false:=decide_eq_false g2
  clear g2
  refine BigFrame.wpList_want (by rfl) (fun K hK=>?_)
  go_simp
  refine hK _ _ ?_
  clear hK K
  (try dsimp only [Act.put]);(try simp only [zA,zB,zC])
  refine BigFrame.wpList_want (by rfl) (fun K hK=>?_)
  go_simp
  refine hK _ _ ?_
  clear hK K
  (try dsimp only [Act.put]);(try simp only [zA,zB,zC])
  refine BigFrame.wpList_want (by rfl) (fun K hK=>?_)
  go_simp
  refine hK _ _ ?_
  clear hK K
  (try dsimp only [Act.put]);(try simp only [zA,zB,zC])
  have FX:Hid (false=x):=hJJ (by rw [HX.out,TO.out];simp [hva,hvb,f2])
  refine Early.out_get (by kernel_rfl) ?_
  refine hK1 _ _ ?_
  refine wp_ret ?_
  exact bodyPost_ret (v:=.bool false) (by kernel_rfl) (by kernel_rfl) ⟨ret_bool FX.out,A0.out⟩
 have f2:decide (1≤green)=true:=decide_eq_true g2
 clear g2
 refine BigFrame.wpList_want (by rfl) (fun K hK=>?_)
 go_simp
 refine hK _ _ ?_
 clear hK K
 (try dsimp only [Act.put]);(try simp only [zA,zB,zC])
 refine BigFrame.wpList_want (by rfl) (fun K hK=>?_)
 go_simp
 refine hK _ _ ?_
 clear hK K
 (try dsimp only [Act.put]);(try simp only [zA,zB,zC])
 refine BigFrame.wpList_want (by rfl) (fun K hK=>?_)
 go_simp
 refine hK _ _ ?_
 clear hK K
 (try dsimp only [Act.put]);(try simp only [zA,zB,zC])
 refine wpList_plain rfl (fun K hK=>?_)
 go_simp
 refine hK _ _ ?_
 clear hK K
 (try dsimp only [Act.put]);(try simp only [zA,zB,zC])
 refine wpList_plain rfl (fun K hK=>?_)
 go_simp
 refine hK _ _ ?_
 clear hK K
 (try dsimp only [Act.put]);(try simp only [zA,zB,zC])
 by_cases g3:1≤stay
 rotate_left
 ·have f3:decide (1≤stay)=false:=decide_eq_false g3
  clear g3
  refine BigFrame.wpList_want (by rfl) (fun K hK=>?_)
  go_simp
  refine hK _ _ ?_
  clear hK K
  (try dsimp only [Act.put]);(try simp only [zA,zB,zC])
  refine BigFrame.wpList_want (by rfl) (fun K hK=>?_)
  go_simp
  refine hK _ _ ?_
  clear hK K
  (try dsimp only [Act.put]);(try simp only [zA,zB,zC])
  refine BigFrame.wpList_want (by rfl) (fun K hK=>?_)
  go_simp
  refine hK _ _ ?_
  clear hK K
  (try dsimp only [Act.put]);(try simp only [zA,zB,zC])
  have FX:Hid (false=x):=hJJ (by rw [HX.out,TO.out];simp [hva,hvb,f2,f3])
  refine Early.out_get (by kernel_rfl) ?_
  refine hK1 _ _ ?_
  refine wp_ret ?_
  exact bodyPost_ret (v:=.bool false) (by kernel_rfl) (by kernel_rfl) ⟨ret_bool FX.out,A0.out⟩
 have f3:decide (1≤stay)=true:=decide_eq_true g3
 clear g3
 refine BigFrame.wpList_want (by rfl) (fun K hK=>?_)
 go_simp
 refine hK _ _ ?_
 clear hK K
 (try dsimp only [Act.put]);(try simp only [zA,zB,zC])
 refine BigFrame.wpList_want (by rfl) (fun K hK=>?_)
 go_simp
 refine hK _ _ ?_
 clear hK K
 (try dsimp only [Act.put]);(try simp only [zA,zB,zC])
 refine BigFrame.wpList_want (by rfl) (fun K hK=>?_)
 go_simp
 refine hK _ _ ?_
 clear hK K
 (try dsimp only [Act.put]);(try simp only [zA,zB,zC])
 refine wpList_plain rfl (fun K hK=>?_)
 go_simp
 refine hK _ _ ?_
 clear hK K
 (try dsimp only [Act.put]);(try simp only [zA,zB,zC])
 refine wpList_plain rfl (fun K hK=>?_)
 go_simp
 refine hK _ _ ?_
 clear hK K
 (try dsimp only [Act.put]);(try simp only [zA,zB,zC])
 by_cases g4:most=0
 ·have f4:(most == 0)=true:=beq_iff_eq.2 g4
  have F4:=hJJ g4
  clear g4
  refine BigFrame.wpList_want (by rfl) (fun K hK=>?_)
  go_simp
  refine hK _ _ ?_
  clear hK K
  (try dsimp only [Act.put]);(try simp only [zA,zB,zC])
  refine BigFrame.wpList_want (by rfl) (fun K hK=>?_)
  go_simp
  refine hK _ _ ?_
  clear hK K
  (try dsimp only [Act.put]);(try simp only [zA,zB,zC])
  refine BigFrame.wpList_want (by rfl) (fun K hK=>?_)
  go_simp
  refine hK _ _ ?_
  clear hK K
  (try dsimp only [Act.put]);(try simp only [zA,zB,zC])
  refine BigFrame.wpList_want (by rfl) (fun K hK=>?_)
  go_simp
  refine hK _ _ ?_
  clear hK K
  (try dsimp only [Act.put]);(try simp only [zA,zB,zC])
  refine Early.skip (by rfl) ?_
  (try dsimp only [Act.put]);(try simp only [zA,zB,zC])
  refine Early.skip (by rfl) ?_
  (try dsimp only [Act.put]);(try simp only [zA,zB,zC])
  refine Early.skip (by rfl) ?_
  (try dsimp only [Act.put]);(try simp only [zA,zB,zC])
  refine Early.skip (by rfl) ?_
  (try dsimp only [Act.put]);(try simp only [zA,zB,zC])
  refine Early.skip (by rfl) ?_
  (try dsimp only [Act.put]);(try simp only [zA,zB,zC])
  refine BigFrame.wpList_want (by rfl) (fun K hK=>?_)
  go_simp
  refine hK _ _ ?_
  clear hK K
  (try dsimp only [Act.put]);(try simp only [zA,zB,zC])
  refine wpList_plain rfl (fun K hK=>?_)
  go_simp
  refine hK _ _ ?_
  clear hK K
  (try dsimp only [Act.put]);(try simp only [zA,zB,zC])
  refine wpList_plain rfl (fun K hK=>?_)
  go_simp
  refine hK _ _ ?_
  clear hK K
  (try dsimp only [Act.put]);(try simp only [zA,zB,zC])
  by_cases g5:delay < limit
  ·have f5:decide (delay < limit)=true:=decide_eq_true g5
   clear g5
   refine BigFrame.wpList_want (by rfl) (fun K hK=>?_)
   go_simp
   refine hK _ _ ?_
   clear hK K
   (try dsimp only [Act.put]);(try simp only [zA,zB,zC])
   refine BigFrame.wpList_want (by rfl) (fun K hK=>?_)
   go_simp
   refine hK _ _ ?_
   clear hK K
   (try dsimp only [Act.put]);(try simp only [zA,zB,zC])
   refine BigFrame.wpList_want (by rfl) (fun K hK=>?_)
   go_simp
   refine hK _ _ ?_
   clear hK K
   (try dsimp only [Act.put]);(try simp only [zA,zB,zC])
   refine BigFrame.wpList_want (by rfl) (fun K hK=>?_)
   go_simp
   refine hK _ _ ?_
   clear hK K
   (try dsimp only [Act.put]);(try simp only [zA,zB,zC])
   refine BigFrame.wpList_want (by rfl) (fun K hK=>?_)
   go_simp
   refine hK _ _ ?_
   clear hK K
   (try dsimp only [Act.put]);(try simp only [zA,zB,zC])
   have FX:Hid (true=x):=hJJ (by rw [HX.out,TO.out];simp [hva,hvb,f2,f3,f4,f5])
   refine Early.out_get (by kernel_rfl) ?_
   refine hK1 _ _ ?_
   refine wp_ret ?_
   exact bodyPost_ret (v:=.bool true) (by kernel_rfl) (by kernel_rfl) ⟨ret_bool FX.out,A0.out⟩
  ·have f5:decide (delay < limit)=false:=decide_eq_false g5
   clear g5
   refine BigFrame.wpList_want (by rfl) (fun K hK=>?_)
   go_simp
   refine hK _ _ ?_
   clear hK K
   (try dsimp only [Act.put]);(try simp only [zA,zB,zC])
   refine BigFrame.wpList_want (by rfl) (fun K hK=>?_)
   go_simp
   refine hK _ _ ?_
   clear hK K
   (try dsimp only [Act.put]);(try simp only [zA,zB,zC])
   refine BigFrame.wpList_want (by rfl) (fun K hK=>?_)
   go_simp
   refine hK _ _ ?_
   clear hK K
   (try dsimp only [Act.put]);(try simp only [zA,zB,zC])
   refine BigFrame.wpList_want (by rfl) (fun K hK=>?_)
   go_simp
   refine hK _ _ ?_
   clear hK K
   (try dsimp only [Act.put]);(try simp only [zA,zB,zC])
   refine BigFrame.wpList_want (by rfl) (fun K hK=>?_)
   go_simp
   refine hK _ _ ?_
   clear hK K
   (try dsimp only [Act.put]);(try simp only [zA,zB,zC])
   have FX:Hid (false=x):=hJJ (by rw [HX.out,TO.out];simp [hva,hvb,f2,f3,f4,f5])
   refine Early.out_get (by kernel_rfl) ?_
   refine hK1 _ _ ?_
   refine wp_ret ?_
   exact bodyPost_ret (v:=.bool false) (by kernel_rfl) (by kernel_rfl) ⟨ret_bool FX.out,A0.out⟩
 have f4:(most == 0)=false:=beq_eq_false_iff_ne.2 g4
 clear g4
 by_cases g6:stay≤most
 ·have f6:decide (stay≤most)=true:=decide_eq_true g6
  clear g6
  refine BigFrame.wpList_want (by rfl) (fun K hK=>?_)
  go_simp
  refine hK _ _ ?_
  clear hK K
  (try dsimp only [Act.put]);(try simp only [zA,zB,zC])
  refine BigFrame.wpList_want (by rfl) (fun K hK=>?_)
  go_simp
  refine hK _ _ ?_
  clear hK K
  (try dsimp only [Act.put]);(try simp only [zA,zB,zC])
  refine BigFrame.wpList_want (by rfl) (fun K hK=>?_)
  go_simp
  refine hK _ _ ?_
  clear hK K
  (try dsimp only [Act.put]);(try simp only [zA,zB,zC])
  refine BigFrame.wpList_want (by rfl) (fun K hK=>?_)
  go_simp
  refine hK _ _ ?_
  clear hK K
  (try dsimp only [Act.put]);(try simp only [zA,zB,zC])
  refine BigFrame.wpList_want (by rfl) (fun K hK=>?_)
  go_simp
  refine hK _ _ ?_
  clear hK K
  (try dsimp only [Act.put]);(try simp only [zA,zB,zC])
  refine BigFrame.wpList_want (by rfl) (fun K hK=>?_)
  go_simp
  refine hK _ _ ?_
  clear hK K
  (try dsimp only [Act.put]);(try simp only [zA,zB,zC])
  refine BigFrame.wpList_want (by rfl) (fun K hK=>?_)
  go_simp
  refine hK _ _ ?_
  clear hK K
  (try dsimp only [Act.put]);(try simp only [zA,zB,zC])
  refine BigFrame.wpList_want (by rfl) (fun K hK=>?_)
  go_simp
  refine hK _ _ ?_
  clear hK K
  (try dsimp only [Act.put]);(try simp only [zA,zB,zC])
  refine BigFrame.wpList_want (by rfl) (fun K hK=>?_)
  go_simp
  refine hK _ _ ?_
  clear hK K
  (try dsimp only [Act.put]);(try simp only [zA,zB,zC])
  refine BigFrame.wpList_want (by rfl) (fun K hK=>?_)
  go_simp
  refine hK _ _ ?_
  clear hK K
  (try dsimp only [Act.put]);(try simp only [zA,zB,zC])
  refine wpList_plain rfl (fun K hK=>?_)
  go_simp
  refine hK _ _ ?_
  clear hK K
  (try dsimp only [Act.put]);(try simp only [zA,zB,zC])
  refine wpList_plain rfl (fun K hK=>?_)
  go_simp
  refine hK _ _ ?_
  clear hK K
  (try dsimp only [Act.put]);(try simp only [zA,zB,zC])
  by_cases g5:delay < limit
  ·have f5:decide (delay < limit)=true:=decide_eq_true g5
   clear g5
   refine BigFrame.wpList_want (by rfl) (fun K hK=>?_)
   go_simp
   refine hK _ _ ?_
   clear hK K
   (try dsimp only [Act.put]);(try simp only [zA,zB,zC])
   refine BigFrame.wpList_want (by rfl) (fun K hK=>?_)
   go_simp
   refine hK _ _ ?_
   clear hK K
   (try dsimp only [Act.put]);(try simp only [zA,zB,zC])
   refine BigFrame.wpList_want (by rfl) (fun K hK=>?_)
   go_simp
   refine hK _ _ ?_
   clear hK K
   (try dsimp only [Act.put]);(try simp only [zA,zB,zC])
   refine BigFrame.wpList_want (by rfl) (fun K hK=>?_)
   go_simp
   refine hK _ _ ?_
   clear hK K
   (try dsimp only [Act.put]);(try simp only [zA,zB,zC])
   refine BigFrame.wpList_want (by rfl) (fun K hK=>?_)
   go_simp
   refine hK _ _ ?_
   clear hK K
   (try dsimp only [Act.put]);(try simp only [zA,zB,zC])
   have FX:Hid (true=x):=hJJ (by rw [HX.out,TO.out];simp [hva,hvb,f2,f3,f4,f6,f5])
   refine Early.out_get (by kernel_rfl) ?_
   refine hK1 _ _ ?_
   refine wp_ret ?_
   exact bodyPost_ret (v:=.bool true) (by kernel_rfl) (by kernel_rfl) ⟨ret_bool FX.out,A0.out⟩
  ·have f5:decide (delay < limit)=false:=decide_eq_false g5
   clear g5
   refine BigFrame.wpList_want (by rfl) (fun K hK=>?_)
   go_simp
   refine hK _ _ ?_
   clear hK K
   (try dsimp only [Act.put]);(try simp only [zA,zB,zC])
   refine BigFrame.wpList_want (by rfl) (fun K hK=>?_)
   go_simp
   refine hK _ _ ?_
   clear hK K
   (try dsimp only [Act.put]);(try simp only [zA,zB,zC])
   refine BigFrame.wpList_want (by rfl) (fun K hK=>?_)
   go_simp
   refine hK _ _ ?_
   clear hK K
   (try dsimp only [Act.put]);(try simp only [zA,zB,zC])
   refine BigFrame.wpList_want (by rfl) (fun K hK=>?_)
   go_simp
   refine hK _ _ ?_
   clear hK K
   (try dsimp only [Act.put]);(try simp only [zA,zB,zC])
   refine BigFrame.wpList_want (by rfl) (fun K hK=>?_)
   go_simp
   refine hK _ _ ?_
   clear hK K
   (try dsimp only [Act.put]);(try simp only [zA,zB,zC])
   have FX:Hid (false=x):=hJJ (by rw [HX.out,TO.out];simp [hva,hvb,f2,f3,f4,f6,f5])
   refine Early.out_get (by kernel_rfl) ?_
   refine hK1 _ _ ?_
   refine wp_ret ?_
   exact bodyPost_ret (v:=.bool false) (by kernel_rfl) (by kernel_rfl) ⟨ret_bool FX.out,A0.out⟩
 ·have f6:decide (stay≤most)=false:=decide_eq_false g6
  clear g6
  refine BigFrame.wpList_want (by rfl) (fun K hK=>?_)
  go_simp
  refine hK _ _ ?_
  clear hK K
  (try dsimp only [Act.put]);(try simp only [zA,zB,zC])
  refine BigFrame.wpList_want (by rfl) (fun K hK=>?_)
  go_simp
  refine hK _ _ ?_
  clear hK K
  (try dsimp only [Act.put]);(try simp only [zA,zB,zC])
  refine BigFrame.wpList_want (by rfl) (fun K hK=>?_)
  go_simp
  refine hK _ _ ?_
  clear hK K
  (try dsimp only [Act.put]);(try simp only [zA,zB,zC])
  refine BigFrame.wpList_want (by rfl) (fun K hK=>?_)
  go_simp
  refine hK _ _ ?_
  clear hK K
  (try dsimp only [Act.put]);(try simp only [zA,zB,zC])
  refine BigFrame.wpList_want (by rfl) (fun K hK=>?_)
  go_simp
  refine hK _ _ ?_
  clear hK K
  (try dsimp only [Act.put]);(try simp only [zA,zB,zC])
  refine BigFrame.wpList_want (by rfl) (fun K hK=>?_)
  go_simp
  refine hK _ _ ?_
  clear hK K
  (try dsimp only [Act.put]);(try simp only [zA,zB,zC])
  refine BigFrame.wpList_want (by rfl) (fun K hK=>?_)
  go_simp
  refine hK _ _ ?_
  clear hK K
  (try dsimp only [Act.put]);(try simp only [zA,zB,zC])
  refine BigFrame.wpList_want (by rfl) (fun K hK=>?_)
  go_simp
  refine hK _ _ ?_
  clear hK K
  (try dsimp only [Act.put]);(try simp only [zA,zB,zC])
  refine BigFrame.wpList_want (by rfl) (fun K hK=>?_)
  go_simp
  refine hK _ _ ?_
  clear hK K
  (try dsimp only [Act.put]);(try simp only [zA,zB,zC])
  refine BigFrame.wpList_want (by rfl) (fun K hK=>?_)
  go_simp
  refine hK _ _ ?_
  clear hK K
  (try dsimp only [Act.put]);(try simp only [zA,zB,zC])
  have FX:Hid (false=x):=hJJ (by rw [HX.out,TO.out];simp [hva,hvb,f2,f3,f4,f6])
  refine Early.out_get (by kernel_rfl) ?_
  refine hK1 _ _ ?_
  refine wp_ret ?_
  exact bodyPost_ret (v:=.bool false) (by kernel_rfl) (by kernel_rfl) ⟨ret_bool FX.out,A0.out⟩
end RkC
namespace RkC
open Go.ChangeShapes Go.WideShapes Go.ChangeAt Go.RowKit
open Tab PlaceM PlanM OnS ChkM ChkA
open ChkB (laid2)
open May (ret_bool infoT infoR)
theorem rail_any (T:Tab) (h:Hd) (r:Rl) (w:World) (ht:IsTab w h T) (sm:Few T) :
  Calls Tryz.prog 52 #[.agg (T.cells h).toArray,.agg r.cells.toArray,.int .i64 (onS T:Nat)] w fun e w'=>e=.returned (.bool (railOk T r))∧Below w.heap.size w w':=by
 by_cases z0:inR (or4 r) (onS T:Nat)=true
 rotate_left
 ·exact rail_0 T h r w ht sm (by simpa using z0)
 by_cases z1:r.dwell=0
 ·exact rail_1 T h r w ht sm z0 z1
 by_cases z2:bits .and .i64 r.dwell r.bars=0
 rotate_left
 ·exact rail_2 T h r w ht sm z0 z1 z2
 by_cases z3:exitR T r.exit=true
 rotate_left
 ·exact rail_3 T h r w ht sm z0 z1 z2 (by simpa using z3)
 by_cases z4:clashR T r.clear r.clear=false
 rotate_left
 ·exact rail_4 T h r w ht sm z0 z1 z2 z3 (by simpa using z4)
 by_cases z5:clashR T r.dwell r.dwell=false
 rotate_left
 ·exact rail_5 T h r w ht sm z0 z1 z2 z3 z4 (by simpa using z5)
 by_cases z6:clashR T r.exit r.exit=false
 rotate_left
 ·exact rail_6 T h r w ht sm z0 z1 z2 z3 z4 z5 (by simpa using z6)
 exact rail_7 T h r w ht sm z0 z1 z2 z3 z4 z5 z6
end RkC
end Go.Proofs.YtjolhoilcibdfaaGreat
