/- 10 texts in one file, in build order. -/
import Derived.Test.YtjolhoilcibdfaaGreatPart01
import Derived.Test.YtjolhoilcibdfaaGreatRows
import Derived.Test.YtjolhoilcibdfaaGreatPart08
import Derived.Test.YtjolhoilcibdfaaGreatPart07
import Derived.Deep.Cut
import Derived.Test.YtjolhoilcibdfaaGreatPart02
import Derived.Test.YtjolhoilcibdfaaGreatPart09
import Derived.Test.YtjolhoilcibdfaaGreatPart03
set_option linter.unusedVariables false
set_option linter.unusedSimpArgs false
set_option linter.unusedSectionVars false
set_option maxHeartbeats 8000000
set_option maxRecDepth 100000
namespace Go.Proofs.YtjolhoilcibdfaaGreat
namespace ChkA
open Zip
open Go.ChangeShapes Go.WideShapes Go.ChangeAt Go.RowKit
open Tab PlaceM PlanM OnS ChkM
open May (ret_bool infoT St ints_in phases_in)
theorem allOn_any (T:Tab) (h:Hd) (s:Int) (w:World) (ht:IsTab w h T) :
  Calls Tryz.prog 115 #[.agg (T.cells h).toArray,.int .i64 s] w fun e w'=>e=.returned (.bool (allOn T s))∧Below w.heap.size w w':=by
 have hsz:=(cells_ok ht).size
 have IA:Hid ((Tryz.prog.info? 32).map (·.size)=some (T.cells h).length):=hJJ (by rw [List.size_toArray] at hsz;rw [hsz];exact infoT)
 have ON:Hid (∀ W,Below w.heap.size w W→Calls Tryz.prog 96 #[.agg (T.cells h).toArray] W fun e w'=>e=.returned (.int .i64 (onS T:Nat))∧Below W.heap.size W w'):=hJJ (fun W hb=>PlanO.pon_any T h W (ht.below hb))
 have A0:Hid (Below w.heap.size w (w.alloc (.cells (T.cells h).toArray 32))):=hJJ ((Below.refl _ _).alloc (Nat.le_refl _) _)
 have A1:Hid (Lies (w.alloc (.cells (T.cells h).toArray 32)) ⟨w.heap.size,0,none⟩ (T.cells h)):=hJJ (Row.lies_new w _ _)
 have HR:Hid (allOn T s=(bits .andNot .i64 s (onS T:Nat) == 0)):=hJJ rfl
 generalize allOn T s=r at HR ⊢
 generalize onS T=m at HR ON
 clear ht
 generalize T.cells h=c at *
 go_enter Tryz.func115,Tryz.ntmps115
 go_upto_region 1 with fail
 generalize w.alloc (.cells c.toArray 32)=u at A0 A1 ⊢
 clear hsz
 go_wp2_with (refine lgZ 32 ⟨w.heap.size,0,none⟩ c rfl A1.out Tryz.underlying32 IA.out ?_)
 refine (ON.out _ A0.out).mono ?_
 rintro e u1 ⟨rfl,hb⟩
 have B0:Hid (Below w.heap.size w u1):=hJJ (A0.out.trans (hb.mono A0.out.size))
 clear hb A0 A1 ON
 go_wp2
 go_ret
 exact ⟨ret_bool (by rw [HR.out]),B0.out⟩
theorem listD_any (T:Tab) (h:Hd) (w:World) (ht:IsTab w h T) :
  Calls Tryz.prog 79 #[.agg (T.cells h).toArray] w fun e w'=>e=.returned (h.d.val T.dets.length)∧Below w.heap.size w w':=by
 have S0:=hJJ (St.box (cs:=(T.cells h).toArray) ht)
 have hsz:=(cells_ok ht).size
 have q:=(St.box (cs:=(T.cells h).toArray) ht).cell (cells_ok ht).d
 generalize (T.cells h).toArray=cs at *
 clear ht
 go_enter Tryz.func79,Tryz.ntmps79
 go_upto_region 1 with fail
 generalize w.alloc (.cells cs 32)=w1 at S0 q ⊢
 clear hsz
 go_wp2
 go_ret
 exact ⟨rfl,S0.out.bel⟩
theorem listR_any (T:Tab) (h:Hd) (w:World) (ht:IsTab w h T) :
  Calls Tryz.prog 82 #[.agg (T.cells h).toArray] w fun e w'=>e=.returned (h.r.val T.rails.length)∧Below w.heap.size w w':=by
 have S0:=hJJ (St.box (cs:=(T.cells h).toArray) ht)
 have hsz:=(cells_ok ht).size
 have q:=(St.box (cs:=(T.cells h).toArray) ht).cell (cells_ok ht).r
 generalize (T.cells h).toArray=cs at *
 clear ht
 go_enter Tryz.func82,Tryz.ntmps82
 go_upto_region 1 with fail
 generalize w.alloc (.cells cs 32)=w1 at S0 q ⊢
 clear hsz
 go_wp2
 go_ret
 exact ⟨rfl,S0.out.bel⟩
theorem listB_any (T:Tab) (h:Hd) (w:World) (ht:IsTab w h T) :
  Calls Tryz.prog 85 #[.agg (T.cells h).toArray] w fun e w'=>e=.returned (h.b.val T.buses.length)∧Below w.heap.size w w':=by
 have S0:=hJJ (St.box (cs:=(T.cells h).toArray) ht)
 have hsz:=(cells_ok ht).size
 have q:=(St.box (cs:=(T.cells h).toArray) ht).cell (cells_ok ht).b
 generalize (T.cells h).toArray=cs at *
 clear ht
 go_enter Tryz.func85,Tryz.ntmps85
 go_upto_region 1 with fail
 generalize w.alloc (.cells cs 32)=w1 at S0 q ⊢
 clear hsz
 go_wp2
 go_ret
 exact ⟨rfl,S0.out.bel⟩
theorem rail_cells (r:Rl) (w:World) (b:Nat) (hb:w.heap[b]?=some (.cells r.cells.toArray 47 (0,0))) :
  w.cell? ⟨b,0,none⟩=some (I r.bars)∧w.cell? ⟨b,1,none⟩=some (I r.clear)∧w.cell? ⟨b,2,none⟩=some (I r.dwell)∧w.cell? ⟨b,3,none⟩=some (I r.exit)∧w.cell? ⟨b,4,none⟩=some (I r.delay)∧w.cell? ⟨b,5,none⟩=some (I r.green)∧w.cell? ⟨b,7,none⟩=some (I r.hold)∧w.cell? ⟨b,8,none⟩=some (I r.stay)∧w.cell? ⟨b,9,none⟩=some (I r.most)∧w.cell? ⟨b,10,none⟩=some (I r.limit):=by
 refine ⟨?_,?_,?_,?_,?_,?_,?_,?_,?_,?_⟩ <;> (rw [cell_of_row _ _ _ _ _ _ hb];rfl)
theorem badTimes_any (r:Rl) (w:World) :
  Calls Tryz.prog 118 #[.agg r.cells.toArray] w fun e w'=>e=.returned (.bool (timesBad r))∧Below w.heap.size w w':=by
 have A0:Hid (Below w.heap.size w (w.alloc (.cells r.cells.toArray 47))):=hJJ ((Below.refl _ _).alloc (Nat.le_refl _) _)
 obtain ⟨q0,q1,q2,q3,q4,q5,q7,q8,q9,q10⟩:=rail_cells r _ _ (heap_alloc_new w (.cells r.cells.toArray 47))
 have HR:Hid (timesBad r=_):=hJJ (by unfold timesBad;rfl)
 generalize timesBad r=x at HR ⊢
 have hone:=Rl.one r
 have hsz:r.cells.toArray.size=11:=rfl
 generalize r.cells.toArray=cs at *
 obtain ⟨bars,clear,dwell,exit,delay,green,foot,hold,stay,most,limit⟩:=r
 simp only at *
 go_enter Tryz.func118,Tryz.ntmps118
 go_upto_region 1 with fail
 generalize w.alloc (.cells cs 47)=u at *
 clear q0 q2 q3 hone hsz
 go_wp2
 all_goals go_ret
 all_goals (refine ⟨ret_bool ?_,A0.out⟩)
 all_goals (rw [HR.out])
 all_goals (clear HR q1 q4 q5 q7 q8 q9 q10 A0)
 all_goals (first | grind | (simp_all <;> omega))
end ChkA
namespace ChkB
open Zip
open Go.ChangeShapes Go.WideShapes Go.ChangeAt Go.RowKit
open Tab PlaceM PlanM OnS ChkM ChkA
open May (ret_bool infoT infoP infoB infoD infoR St ints_in phases_in)
theorem phase_cells (u:Ph) (w:World) (b:Nat) (hb:w.heap[b]?=some (.cells u.cells.toArray 24 (0,0))) :
  w.cell? ⟨b,1,none⟩=some (I u.min)∧w.cell? ⟨b,3,none⟩=some (I u.max)∧w.cell? ⟨b,4,none⟩=some (I u.top)∧w.cell? ⟨b,5,none⟩=some (I u.step)∧w.cell? ⟨b,6,none⟩=some (I u.yellow)∧w.cell? ⟨b,8,none⟩=some (I u.walk)∧w.cell? ⟨b,9,none⟩=some (I u.blinks)∧w.cell? ⟨b,10,none⟩=some (I u.recall):=by
 refine ⟨?_,?_,?_,?_,?_,?_,?_,?_⟩ <;> (rw [cell_of_row _ _ _ _ _ _ hb];rfl)
theorem phase_lies {T:Tab} {h:Hd} {w:World} (ht:IsTab w h T) (k:Nat) (hk:k < 8):Lies (w.alloc (.cells (T.cells h).toArray 32)) ⟨w.heap.size,k*13,none⟩ (phAt T k).cells:=by
 have C:=cells_ok ht
 have hb:(w.alloc (.cells (T.cells h).toArray 32)).heap[w.heap.size]?=some (.cells (T.cells h).toArray 32 (0,0)):=heap_alloc_new w _
 have h8:k < T.phases.length:=by rw [ht.ph];exact hk
 have e:phAt T k=T.phases[k]:=by unfold phAt;rw [Int.toNat_natCast,List.getD_eq_getElem?_getD,List.getElem?_eq_getElem h8];rfl
 have h1:=C.phase k _ (List.getElem?_eq_getElem h8)
 rw [Nat.mul_comm] at h1
 rw [← e] at h1
 intro j v hv
 rw [Addr.add_mid,cell_of_row _ _ _ _ _ _ hb]
 rw [← h1,List.getElem?_take] at hv
 split at hv
 ·rw [List.getElem?_drop,Array.getElem?_toList] at hv
  exact hv
 ·cases hv
theorem badPhase_any (T:Tab) (h:Hd) (k:Nat) (hk:k < 8) (w:World) (ht:IsTab w h T) :
  Calls Tryz.prog 75 #[.agg (T.cells h).toArray,.int .i64 k] w fun e w'=>e=.returned (.bool (phBad (phAt T k)))∧Below w.heap.size w w':=by
 have hsz:=(cells_ok ht).size
 have A0:Hid (Below w.heap.size w (w.alloc (.cells (T.cells h).toArray 32))):=hJJ ((Below.refl _ _).alloc (Nat.le_refl _) _)
 have A1:=hJJ (phase_lies ht k hk)
 have HS:Hid ((w.alloc (.cells (T.cells h).toArray 32)).heap.size=w.heap.size+1):=hJJ (by simp)
 clear ht
 generalize T.cells h=c at *
 obtain ⟨x,hx⟩:∃ x,x=phBad (phAt T k):=⟨_,rfl⟩
 rw [← hx]
 have HR:=hJJ hx
 clear hx
 generalize phAt T k=ph at *
 go_enter Tryz.func75,Tryz.ntmps75
 go_upto_region 1 with fail
 generalize w.alloc (.cells c.toArray 32)=u at A0 A1 HS ⊢
 clear hsz
 go_upto_region 2 with (first | (refine lgZ 24 ⟨w.heap.size,k*13,none⟩ ph.cells rfl A1.out Tryz.underlying24 infoP ?_) | (refine Row.wpList_store_new rfl 24 _ _ rfl u _ ph.cells.toArray rfl rfl rfl infoP rfl (Ph.one _) ?_))
 have E:=hJJ (A0.out.trans (((Below.refl u.heap.size u).alloc (Nat.le_refl _) (.cells ph.cells.toArray 24)).mono A0.out.size))
 obtain ⟨q1,q3,q4,q5,q6,q8,q9,q10⟩:=phase_cells ph _ _ (heap_alloc_new u (.cells ph.cells.toArray 24))
 generalize u.alloc (.cells ph.cells.toArray 24)=u2 at *
 generalize u.heap.size=b2 at *
 clear A0 A1 HS
 obtain ⟨on,min,gap,max,top,step,yellow,red,walk,blinks,recall,lock,rest⟩:=ph
 simp only at *
 go_wp2
 all_goals go_ret
 all_goals (refine ⟨ret_bool ?_,E.out⟩)
 all_goals (rw [HR.out];unfold phBad;dsimp only)
 all_goals (clear HR q1 q3 q4 q5 q6 q8 q9 q10 E)
 all_goals (first | grind | (simp_all <;> omega))
theorem laid2 (w:World) (o0 o1:Obj):∃ W,((w.alloc o0).alloc o1)=W∧W.heap.size=w.heap.size+2∧Below w.heap.size w W∧Below (w.heap.size+1) (w.alloc o0) W∧W.heap[w.heap.size+1]?=some o1:=by
 refine ⟨_,rfl,by simp,((Below.refl _ w).alloc (Nat.le_refl _) _).alloc (by simp) _,?_,?_⟩
 ·have:=(Below.refl (w.alloc o0).heap.size (w.alloc o0)).alloc (Nat.le_refl _) o1
  simpa using this
 ·have h1:=heap_alloc_new (w.alloc o0) o1
  rwa [World.size_alloc] at h1
theorem lies_head {w:World} {x:Addr} {v:Value} {l:List Value} (h:Lies w x (v :: l)):w.cell? x=some v:=by
 have:=h 0 v rfl
 rwa [Tab.add_zero] at this
theorem badDetector_any (T:Tab) (h:Hd) (d:Det) (w:World) (ht:IsTab w h T) (h0:Fl.isn d.on=false) (h1:Fl.isn d.off=false) (hp:0≤d.phase∧d.phase < 8) :
  Calls Tryz.prog 80 #[.agg (T.cells h).toArray,.agg d.cells.toArray] w fun e w'=>e=.returned (.bool (detBad T d))∧Below w.heap.size w w':=by
 have hsz:=(cells_ok ht).size
 have hs1:(w.alloc (.cells (T.cells h).toArray 32)).heap.size=w.heap.size+1:=by simp
 obtain ⟨ph,on,off,delay,extend,mOn,mOff⟩:=d
 dsimp only at h0 h1 hp
 obtain ⟨k,rfl⟩:=Int.eq_ofNat_of_zero_le hp.1
 have hk:k < 8:=by omega
 have LP:=hJJ (lies_head (phase_lies ht k hk))
 obtain ⟨x,hx⟩:∃ x,x=detBad T ⟨k,on,off,delay,extend,mOn,mOff⟩:=⟨_,rfl⟩
 rw [← hx]
 have HR:Hid (x=(gtF off on || !(phAt T k).on)):=hJJ hx
 generalize (phAt T k).on=q at LP HR
 have ho:=Secs.ord_cases off on h1 h0
 have HO:=hJJ ho
 clear hx ht h0 h1 hp ho
 generalize T.cells h=c at *
 have hone:=Det.one ⟨k,on,off,delay,extend,mOn,mOff⟩
 have hsz2:(Det.cells ⟨k,on,off,delay,extend,mOn,mOff⟩).toArray.size=7:=rfl
 generalize hcd:(Det.cells ⟨k,on,off,delay,extend,mOn,mOff⟩).toArray=cd at *
 have HCD:=hJJ hcd
 clear hcd
 go_enter Tryz.func80,Tryz.ntmps80
 go_upto_region 1 with fail
 obtain ⟨u,hu,E1,E0,EB,b1⟩:=laid2 w (.cells c.toArray 32) (.cells cd 45)
 rw [hu]
 have EE:=hJJ E0
 have c0:u.cell? ⟨w.heap.size,k*13,none⟩=some (.bool q):=(EB.cell (p:=⟨w.heap.size,k*13,none⟩) (Nat.lt_succ_self _)).trans LP.out
 have q0:u.cell? ⟨w.heap.size+1,0,none⟩=some (I k):=by rw [cell_of_row _ _ _ _ _ _ b1,← HCD.out];rfl
 have q1:u.cell? ⟨w.heap.size+1,1,none⟩=some (.float .f64 on):=by rw [cell_of_row _ _ _ _ _ _ b1,← HCD.out];rfl
 have q2:u.cell? ⟨w.heap.size+1,2,none⟩=some (.float .f64 off):=by rw [cell_of_row _ _ _ _ _ _ b1,← HCD.out];rfl
 clear hu EB LP b1 hs1 hsz hsz2 hone E0 HCD
 rcases HO.out with ⟨a,ho⟩ | ⟨a,ho⟩ | ⟨a,ho⟩
 all_goals
  clear HO
  have HA:=hJJ a
  clear a
  go_wp2
  go_ret
  have a:=HA.out
  refine ⟨ret_bool ?_,EE.out⟩
  rw [HR.out]
  unfold gtF
  first | (rw [decide_eq_true (by omega)];simp) | (rw [decide_eq_false (by omega)];simp)
theorem badBus_any (T:Tab) (h:Hd) (d:Bs) (w:World) (ht:IsTab w h T) :
  Calls Tryz.prog 86 #[.agg (T.cells h).toArray,.agg d.cells.toArray] w fun e w'=>e=.returned (.bool (busBad T d))∧Below w.heap.size w w':=by
 have hsz:=(cells_ok ht).size
 have IA:Hid ((Tryz.prog.info? 32).map (·.size)=some (T.cells h).length):=hJJ (by rw [List.size_toArray] at hsz;rw [hsz];exact infoT)
 obtain ⟨s,lk⟩:=d
 have AO:Hid (∀ W,Below w.heap.size w W→Calls Tryz.prog 115 #[.agg (T.cells h).toArray,.int .i64 s] W fun e w'=>e=.returned (.bool (allOn T s))∧Below W.heap.size W w'):=hJJ (fun W hb=>allOn_any T h s W (ht.below hb))
 obtain ⟨x,hx⟩:∃ x,x=busBad T ⟨s,lk⟩:=⟨_,rfl⟩
 rw [← hx]
 have HR:Hid (x=(s == 0 || (!allOn T s || decide (lk < 1)))):=hJJ hx
 generalize allOn T s=q at AO HR
 have A1:=hJJ (Row.lies_new w (T.cells h).toArray 32)
 clear hx ht
 have hone:=Bs.one ⟨s,lk⟩
 have hsz2:(Bs.cells ⟨s,lk⟩).toArray.size=2:=rfl
 generalize hcd:(Bs.cells ⟨s,lk⟩).toArray=cd at *
 have HCD:=hJJ hcd
 clear hcd
 generalize T.cells h=c at *
 go_enter Tryz.func86,Tryz.ntmps86
 go_upto_region 1 with fail
 obtain ⟨u,hu,E1,E0,EB,b1⟩:=laid2 w (.cells c.toArray 32) (.cells cd 49)
 rw [hu]
 have EE:=hJJ E0
 have LT:Hid (Lies u ⟨w.heap.size,0,none⟩ c):=hJJ (A1.out.below (by simpa using EB))
 have q0:u.cell? ⟨w.heap.size+1,0,none⟩=some (I s):=by rw [cell_of_row _ _ _ _ _ _ b1,← HCD.out];rfl
 have q1:u.cell? ⟨w.heap.size+1,1,none⟩=some (I lk):=by rw [cell_of_row _ _ _ _ _ _ b1,← HCD.out];rfl
 have Q1:=hJJ q1
 clear hu EB A1 b1 hsz hsz2 hone E0 HCD
 by_cases hs:s=0
 ·go_wp2
  go_ret
  exact ⟨ret_bool (by rw [HR.out,hs];rfl),EE.out⟩
 ·go_wp2_with (refine lgZ 32 ⟨w.heap.size,0,none⟩ c rfl LT.out Tryz.underlying32 IA.out ?_)
  refine (AO.out _ EE.out).mono ?_
  rintro e u1 ⟨rfl,hb⟩
  have q1:=(hb.cell (World.block_lt_of_cell? u _ Q1.out)).trans Q1.out
  have EF:=hJJ (EE.out.trans (hb.mono EE.out.size))
  clear hb q0 LT AO Q1
  cases q with
  | true =>
   go_wp2
   go_ret
   refine ⟨ret_bool ?_,EF.out⟩
   rw [HR.out];simp [hs]
  | false =>
   go_wp2
   go_ret
   refine ⟨ret_bool ?_,EF.out⟩
   rw [HR.out];simp
end ChkB
namespace RkA
open Zip
open Go.ChangeShapes Go.WideShapes Go.ChangeAt Go.RowKit
open Tab PlaceM PlanM OnS ChkM ChkI
open RefS (rlist_any rhas_any row_of)
open May (ret_bool infoT infoP)
theorem in_any (a b:Int) (w:World):Calls Tryz.prog 53 #[.int .i64 a,.int .i64 b] w fun e w'=>e=.returned (.bool (inR a b))∧w=w':=by
 have HR:Hid (inR a b=(bits .and .i64 (bits .andNot .i64 a b) 255 == 0)):=hJJ rfl
 generalize inR a b=x at HR ⊢
 go_enter Tryz.func53,Tryz.ntmps53
 go_wp2
 go_ret
 exact ⟨ret_bool HR.out.symm,rfl⟩
theorem phase_any (ph:Ph) (w:World) :
  Calls Tryz.prog 49 #[.agg ph.cells.toArray] w fun e w'=>e=.returned (.bool (phOk ph))∧Below w.heap.size w w':=by
 obtain ⟨x,hx⟩:∃ x,x=phOk ph:=⟨_,rfl⟩
 rw [← hx]
 have HR:=hJJ hx
 clear hx
 have E:Hid (Below w.heap.size w (w.alloc (.cells ph.cells.toArray 24))):=hJJ ((Below.refl _ _).alloc (Nat.le_refl _) _)
 obtain ⟨q1,q3,q4,q5,q6,q8,q9,q10⟩:=ChkB.phase_cells ph _ _ (heap_alloc_new w (.cells ph.cells.toArray 24))
 have hone:=Ph.one ph
 have hsz:ph.cells.toArray.size=13:=rfl
 generalize ph.cells.toArray=cs at *
 go_enter Tryz.func49,Tryz.ntmps49
 go_upto_region 1 with fail
 generalize w.alloc (.cells cs 24)=u2 at *
 clear hone hsz
 obtain ⟨on,min,gap,max,top,step,yellow,red,walk,blinks,recall,lock,rest⟩:=ph
 simp only at *
 go_wp2
 all_goals go_ret
 all_goals (refine ⟨ret_bool ?_,E.out⟩)
 all_goals (rw [HR.out];unfold phOk;dsimp only)
 all_goals (clear HR q1 q3 q4 q5 q6 q8 q9 q10 E)
 all_goals (first | grind | (simp_all <;> omega))
theorem flash_any (T:Tab) (h:Hd) (k:Nat) (hk:k < 8) (w:World) (ht:IsTab w h T) :
  Calls Tryz.prog 54 #[.agg (T.cells h).toArray,.int .i64 k,.int .i64 (onS T:Nat)] w fun e w'=>e=.returned (.bool (flashOk T k))∧Below w.heap.size w w':=by
 have hsz:=(cells_ok ht).size
 have BX0:=hJJ (bxd_new ht)
 have A0:Hid (Below w.heap.size w (w.alloc (.cells (T.cells h).toArray 32))):=hJJ ((Below.refl _ _).alloc (Nat.le_refl _) _)
 obtain ⟨x,hx⟩:∃ x,x=flashOk T k:=⟨_,rfl⟩
 rw [← hx]
 have HR:Hid (x=(flAt T k != 0 && !(ons T).any (flashR T k))):=hJJ hx
 have FR:Hid (∀ q,flashR T k q=(flAt T k == 2 && (flAt T q == 2 && SetM.has (cfAt T k) q))):=hJJ (fun q=>rfl)
 have BD:=hJJ (fun q (hq:q ∈ ons T)=>SetM.list_bd _ q hq)
 have HL:=hJJ (show (ons T).length≤8 from SetM.list_len _)
 have OL:Hid (SetM.list (onS T:Nat)=ons T):=hJJ rfl
 generalize ons T=L at *
 clear ht hx
 generalize T.cells h=c at *
 have hki:((k:Nat):Int) < 8:=by omega
 go_enter Tryz.func54,Tryz.ntmps54
 go_upto_region 1 with fail
 generalize w.alloc (.cells c.toArray 32)=u at A0 BX0 ⊢
 clear hsz
 have cf:=BX0.out.fl k (by omega) (by omega)
 rw [Int.toNat_natCast] at cf
 generalize hfk:flAt T k=fk at *
 by_cases h0:fk=0
 ·subst h0
  have HX:Hid (false=x):=hJJ (by rw [HR.out];rfl)
  go_wp2
  go_ret
  exact ⟨ret_bool HX.out,A0.out⟩
 have HX:Hid (x=!L.any (flashR T k)):=hJJ (by rw [HR.out,bne_iff_ne.2 h0];rfl)
 clear HR
 go_wp2_with fail
 refine (rlist_any _ _).mono ?_
 rintro e u1 ⟨v,rfl,hown,hb⟩
 rw [OL.out] at hown
 obtain ⟨a,cap,rfl,hrow⟩:=row_of hown
 have HROW:=hJJ hrow
 have B0:Hid (Below w.heap.size w u1):=hJJ (A0.out.trans (hb.mono A0.out.size))
 have BX:=hJJ (BX0.out.below hb)
 clear hown hrow hb A0 BX0 cf
 have hl8:=HL.out
 go_wp2_with fail
 go_loopw [17] (fun i wr=>∃ q:Nat,q≤L.length∧i=.int .i64 q∧(∀ j,j < q→flashR T k (L.getD j 0)=false)∧wr=u1) (fun i _=>L.length - (intOf i).toNat)
 case atStart=>exact ⟨0,by omega,rfl,(fun j h=>by omega),rfl⟩
 case round =>
  obtain ⟨q,hq,rfl,hall,rfl⟩:=hrel
  rename World=>wg
  have HA:=hJJ hall
  clear hall
  by_cases hlt:q < L.length
  ·obtain ⟨y,rfl,hcells⟩:=HROW.out.cells hlt
   have cq:=hcells q hlt
   have hmem:L.getD q 0 ∈ L:=by rw [List.getD_eq_getElem?_getD,List.getElem?_eq_getElem hlt];exact List.getElem_mem hlt
   have hbd:=BD.out _ hmem
   generalize hz:L.getD q 0=z at *
   have HZ:=hJJ hz
   have HM:=hJJ hmem
   clear hcells hz hmem
   obtain ⟨j,rfl⟩:=Int.eq_ofNat_of_zero_le hbd.1
   have hj8:((j:Nat):Int) < 8:=hbd.2
   have fk':=BX.out.fl k (by omega) (by omega)
   have fj:=BX.out.fl j (by omega) (by omega)
   have ck:=BX.out.cf k (by omega) (by omega)
   rw [Int.toNat_natCast] at fk' fj ck
   rw [hfk] at fk'
   have FQ:Hid (flashR T k j=(fk == 2 && (flAt T j == 2 && SetM.has (cfAt T k) j))):=hJJ (FR.out j)
   have NEXT:Hid (flashR T k j=false→∀ i,i < q+1→flashR T k (L.getD i 0)=false):=hJJ (fun e i hi=>by
    by_cases h1:i=q
    ·subst h1;rw [HZ.out];exact e
    ·exact HA.out i (by omega))
   have STOP:Hid (flashR T k j=true→false=x):=hJJ (fun e=>by
    rw [HX.out,List.any_eq_true.2 ⟨_,HM.out,e⟩];rfl)
   generalize flAt T j=fq at *
   obtain ⟨hs,hhs⟩:∃ z,SetM.has (cfAt T k) j=z:=⟨_,rfl⟩
   rw [hhs] at FQ
   have HHS:=hJJ hhs
   clear hhs FR
   by_cases h2:fk=2
   ·by_cases h3:fq=2
    ·subst h2 h3
     have FV:Hid (flashR T k j=hs):=hJJ (by rw [FQ.out];rfl)
     go_wp2_with fail
     refine (rhas_any _ _ _).mono ?_
     rintro e w' ⟨rfl,rfl⟩
     rw [HHS.out]
     cases hs with
     | true =>
      have SX:=hJJ (STOP.out FV.out)
      go_wp2
      go_ret
      exact ⟨ret_bool SX.out,B0.out⟩
     | false =>
      have NX:=hJJ (NEXT.out FV.out)
      go_wp2
      go_roundw
      case rel=>exact ⟨q+1,by omega,by go_num,NX.out,trivial⟩
      case measure=>simp [intOf];omega
    ·have NX:=hJJ (NEXT.out (by rw [FQ.out,beq_eq_false_iff_ne.2 h3];simp))
     subst h2
     have H3:=hJJ h3
     go_wp2
     go_roundw
     case rel=>exact ⟨q+1,by omega,by go_num,NX.out,trivial⟩
     case measure=>simp [intOf];omega
   ·have NX:=hJJ (NEXT.out (by rw [FQ.out,beq_eq_false_iff_ne.2 h2];simp))
    go_wp2
    go_roundw
    case rel=>exact ⟨q+1,by omega,by go_num,NX.out,trivial⟩
    case measure=>simp [intOf];omega
  ·have SX:Hid (true=x):=hJJ (by
    rw [HX.out,List.any_eq_false.2]
    ·rfl
    ·intro z hz
     obtain ⟨i,hi,rfl⟩:=List.getElem_of_mem hz
     have:=HA.out i (by omega)
     rw [List.getD_eq_getElem?_getD,List.getElem?_eq_getElem hi] at this
     simpa using this)
   go_wp2
   go_ret
   exact ⟨ret_bool SX.out,B0.out⟩
theorem conflict_any (T:Tab) (h:Hd) (k:Nat) (hk:k < 8) (w:World) (ht:IsTab w h T) (sm:Few T) :
  Calls Tryz.prog 51 #[.agg (T.cells h).toArray,.int .i64 k,.int .i64 (onS T:Nat)] w fun e w'=>e=.returned (.bool (confOk T k))∧Below w.heap.size w w':=by
 have hsz:=(cells_ok ht).size
 have IA:Hid ((Tryz.prog.info? 32).map (·.size)=some (T.cells h).length):=hJJ (by rw [List.size_toArray] at hsz;rw [hsz];exact infoT)
 have BS:Hid (∀ (q:Int) W,Below w.heap.size w W→Calls Tryz.prog 42 #[.agg (T.cells h).toArray,.int .i64 k,.int .i64 q] W fun e w'=>e=.returned (.bool (beside T k q))∧Below W.heap.size W w'):=hJJ (fun q W hb=>Where.beside_any T h k q W (ht.below hb) sm)
 have BX0:=hJJ (bxd_new ht)
 have LT0:=hJJ (Row.lies_new w (T.cells h).toArray 32)
 have A0:Hid (Below w.heap.size w (w.alloc (.cells (T.cells h).toArray 32))):=hJJ ((Below.refl _ _).alloc (Nat.le_refl _) _)
 obtain ⟨x,hx⟩:∃ x,x=confOk T k:=⟨_,rfl⟩
 rw [← hx]
 have HX:Hid (x=!(ons T).any (confR T k)):=hJJ hx
 have FR:Hid (∀ q,confR T k q=((SetM.has (cfAt T k) q && q == k) || ((SetM.has (cfAt T k) q != SetM.has (cfAt T q) k) || (SetM.has (cfAt T k) q && beside T k q)))):=hJJ (fun q=>rfl)
 have BD:=hJJ (fun q (hq:q ∈ ons T)=>SetM.list_bd _ q hq)
 have HL:=hJJ (show (ons T).length≤8 from SetM.list_len _)
 have OL:Hid (SetM.list (onS T:Nat)=ons T):=hJJ rfl
 generalize ons T=L at *
 clear ht hx
 generalize T.cells h=c at *
 have hki:((k:Nat):Int) < 8:=by omega
 go_enter Tryz.func51,Tryz.ntmps51
 go_upto_region 1 with fail
 generalize w.alloc (.cells c.toArray 32)=u at A0 BX0 LT0 ⊢
 clear hsz
 go_wp2_with fail
 refine (rlist_any _ _).mono ?_
 rintro e u1 ⟨v,rfl,hown,hb⟩
 rw [OL.out] at hown
 obtain ⟨a,cap,rfl,hrow⟩:=row_of hown
 have HROW:=hJJ hrow
 have B0:Hid (Below w.heap.size w u1):=hJJ (A0.out.trans (hb.mono A0.out.size))
 have BX1:=hJJ (BX0.out.below hb)
 have LT1:=hJJ (LT0.out.below hb)
 clear hown hrow hb A0 BX0 LT0
 have hl8:=HL.out
 go_wp2_with fail
 go_loopw [13] (fun i wr=>∃ q:Nat,q≤L.length∧i=.int .i64 q∧(∀ j,j < q→confR T k (L.getD j 0)=false)∧Below u1.heap.size u1 wr) (fun i _=>L.length - (intOf i).toNat)
 case atStart=>exact ⟨0,by omega,rfl,(fun j h=>by omega),Below.refl _ _⟩
 case round =>
  obtain ⟨q,hq,rfl,hall,hB⟩:=hrel
  have HA:=hJJ hall
  have HB:=hJJ hB
  have BW:Hid (Below w.heap.size w wr):=hJJ (B0.out.trans (hB.mono B0.out.size))
  have BX:=hJJ (BX1.out.below hB)
  have LT:=hJJ (LT1.out.below hB)
  have HROW:=hJJ (HROW.out.below hB)
  clear hall hB
  by_cases hlt:q < L.length
  ·obtain ⟨y,rfl,hcells⟩:=HROW.out.cells hlt
   have cq:=hcells q hlt
   have hmem:L.getD q 0 ∈ L:=by rw [List.getD_eq_getElem?_getD,List.getElem?_eq_getElem hlt];exact List.getElem_mem hlt
   have hbd:=BD.out _ hmem
   generalize hz:L.getD q 0=z at *
   have HZ:=hJJ hz
   have HM:=hJJ hmem
   clear hcells hz hmem
   obtain ⟨j,rfl⟩:=Int.eq_ofNat_of_zero_le hbd.1
   have hj8:((j:Nat):Int) < 8:=hbd.2
   have cj:=BX.out.cf j (by omega) (by omega)
   have ck:=BX.out.cf k (by omega) (by omega)
   rw [Int.toNat_natCast] at cj ck
   have FQ:=hJJ (FR.out j)
   have NEXT:Hid (confR T k j=false→∀ i,i < q+1→confR T k (L.getD i 0)=false):=hJJ (fun e i hi=>by
    by_cases h1:i=q
    ·subst h1;rw [HZ.out];exact e
    ·exact HA.out i (by omega))
   have STOP:Hid (confR T k j=true→false=x):=hJJ (fun e=>by
    rw [HX.out,List.any_eq_true.2 ⟨_,HM.out,e⟩];rfl)
   obtain ⟨ha,hha⟩:∃ z,SetM.has (cfAt T k) j=z:=⟨_,rfl⟩
   obtain ⟨hb,hhb⟩:∃ z,SetM.has (cfAt T j) k=z:=⟨_,rfl⟩
   obtain ⟨bs,hbs⟩:∃ z,beside T k j=z:=⟨_,rfl⟩
   rw [hha,hhb,hbs] at FQ
   have BSJ:=hJJ (BS.out j)
   rw [hbs] at BSJ
   have HHA:=hJJ hha
   have HHB:=hJJ hhb
   clear hha hhb hbs FR BS BD
   go_wp2_with fail
   refine (rhas_any _ _ _).mono ?_
   rintro e w' ⟨rfl,rfl⟩
   rw [HHA.out]
   cases ha with
   | false =>
    go_wp2_with fail
    refine (rhas_any _ _ _).mono ?_
    rintro e w' ⟨rfl,rfl⟩
    rw [HHB.out]
    cases hb with
    | true =>
     have SX:=hJJ (STOP.out (by rw [FQ.out];simp))
     go_wp2
     go_ret
     exact ⟨ret_bool SX.out,BW.out⟩
    | false =>
     have NX:=hJJ (NEXT.out (by rw [FQ.out];simp))
     go_wp2
     go_roundw
     case rel=>exact ⟨q+1,by omega,by go_num,NX.out,HB.out⟩
     case measure=>simp [intOf];omega
   | true =>
    by_cases hjk:((j:Nat):Int)=(k:Int)
    ·have SX:=hJJ (STOP.out (by rw [FQ.out,hjk];simp))
     have hjb:(((j:Nat):Int) == (k:Int))=true:=by rw [beq_iff_eq];exact hjk
     clear hjk
     go_wp2
     go_ret
     exact ⟨ret_bool SX.out,BW.out⟩
    ·have HJ:=hJJ hjk
     have hjb:(((j:Nat):Int) == (k:Int))=false:=by rw [beq_eq_false_iff_ne];exact hjk
     have HJB:=hJJ hjb
     clear hjb
     go_wp2_with fail
     refine (rhas_any _ _ _).mono ?_
     rintro e w' ⟨rfl,rfl⟩
     rw [HHB.out]
     cases hb with
     | false =>
      have SX:=hJJ (STOP.out (by rw [FQ.out];simp))
      go_wp2
      go_ret
      exact ⟨ret_bool SX.out,BW.out⟩
     | true =>
      go_wp2_with (refine lgZ 32 ⟨w.heap.size,0,none⟩ c rfl LT.out Tryz.underlying32 IA.out ?_)
      (try go_wp2_with fail)
      refine (BSJ.out _ BW.out).mono ?_
      rintro e u3 ⟨rfl,hb3⟩
      have HB3:=hJJ (HB.out.trans (hb3.mono HB.out.size))
      have BW3:Hid (Below w.heap.size w u3):=hJJ (BW.out.trans (hb3.mono BW.out.size))
      clear hb3
      have FV:Hid (confR T k j=bs):=hJJ (by rw [FQ.out,HJB.out];simp)
      cases bs with
      | true =>
       have SX:=hJJ (STOP.out FV.out)
       go_wp2
       go_ret
       exact ⟨ret_bool SX.out,BW3.out⟩
      | false =>
       have NX:=hJJ (NEXT.out FV.out)
       go_wp2
       go_roundw
       case rel=>exact ⟨q+1,by omega,by go_num,NX.out,HB3.out⟩
       case measure=>simp [intOf];omega
  ·have SX:Hid (true=x):=hJJ (by
    rw [HX.out,List.any_eq_false.2]
    ·rfl
    ·intro z hz
     obtain ⟨i,hi,rfl⟩:=List.getElem_of_mem hz
     have:=HA.out i (by omega)
     rw [List.getD_eq_getElem?_getD,List.getElem?_eq_getElem hi] at this
     simpa using this)
   go_wp2
   go_ret
   exact ⟨ret_bool SX.out,BW.out⟩
end RkA
namespace ChkG
open Zip
open Go.ChangeShapes Go.WideShapes Go.ChangeAt Go.RowKit
open Tab PlaceM PlanM OnS ChkM ChkA
open PlanW (wG wK wI idx0 idx1 info2 pwhere_any)
open May (ret_bool infoT St)
def atOk (T:Tab) (g k i:Nat) (p:Int):Bool:=at0 (where_ T p) == (g,k,i)
theorem at_iff (T:Tab) (g k i:Nat) (p:Int):atOk T g k i p=(decide (wG (where_ T p)=g) && (decide (wK (where_ T p)=k) && decide (wI (where_ T p)=i))):=by
 unfold atOk at0 wG wK wI
 cases where_ T p with
 | none=>rw [Bool.eq_iff_iff];simp;omega
 | some x=>rw [Bool.eq_iff_iff];simp;omega
theorem rep_row {T:Tab} {g k:Nat} {l:List Int}:repRow T g k l=false ↔ ∀ i,i < l.length→atOk T g k i (l.getD i 0)=true:=by
 unfold repRow
 rw [List.any_eq_false]
 constructor
 ·intro h i hi
  have:=h i (List.mem_range.2 hi)
  unfold atOk
  simpa using this
 ·intro h i hi
  have:=h i (List.mem_range.1 hi)
  unfold atOk at this
  simpa using this
theorem repeats_any (T:Tab) (h:Hd) (g:Nat) (w:World) (ht:IsTab w h T) (hg:g < T.groups.length) :
  Calls Tryz.prog 139 #[.agg (T.cells h).toArray,.int .i64 g] w fun e w'=>e=.returned (.bool (repeats T g))∧Below w.heap.size w w':=by
 obtain ⟨⟨ga,gcap⟩,sd,sr,sb⟩:=h
 have hsz1:=(cells_ok ht).size
 have IA:Hid ((Tryz.prog.info? 32).map (·.size)=some (T.cells ⟨⟨ga,gcap⟩,sd,sr,sb⟩).length):=hJJ (by rw [List.size_toArray] at hsz1;rw [hsz1];exact infoT)
 have WH:Hid (∀ p W,Below w.heap.size w W→Calls Tryz.prog 63 #[.agg (T.cells ⟨⟨ga,gcap⟩,sd,sr,sb⟩).toArray,.int .i64 p] W fun e w'=>e=.returned (.tuple #[I (wG (where_ T p)),I (wK (where_ T p)),I (wI (where_ T p)),.bool (where_ T p).isSome])∧Below W.heap.size W w'):=hJJ (fun p W hb=>pwhere_any T _ p W (ht.below hb))
 have LT0:=hJJ (Row.lies_new w (T.cells ⟨⟨ga,gcap⟩,sd,sr,sb⟩).toArray 32)
 have C:=hJJ (cells_ok ht)
 obtain ⟨gs,hgd,hgr⟩:=ht.groups
 have Hgr:=hJJ hgr
 have Hgd:=hJJ hgd
 have S0:=hJJ (St.box (cs:=(T.cells ⟨⟨ga,gcap⟩,sd,sr,sb⟩).toArray) ht)
 have Hgl:=hJJ (show T.groups.length=gs.length by rw [← hgd,List.length_map])
 have Kg:=hgr.1.len
 unfold maxLen at Kg
 have hlt:g < gs.length:=by rw [← Hgl.out];exact hg
 have hv:=List.getElem?_eq_getElem hlt
 generalize gs[g]=u at hv
 obtain ⟨x,hx,hc⟩:=hgr.1.at hv
 have hok:=hgr.2 u (List.mem_of_getElem? hv)
 have HD:Hid (rowsAt T g=u.data):=hJJ (rows_in (by rw [← hgd,List.getElem?_map,hv];rfl))
 obtain rfl:ga=some x:=hx
 obtain ⟨l0,l1,⟨a0,cap0⟩,⟨a1,cap1⟩⟩:=u
 have HC:Hid (Lies w (x.add (g*2)) [.slice a0 l0.length cap0,.slice a1 l1.length cap1]):=hJJ hc
 have HO:=hJJ hok
 have RS:Hid (repeats T g=(repRow T g 0 l0 || repRow T g 1 l1)):=hJJ (by unfold repeats;rw [HD.out];rfl)
 have AT:=hJJ (at_iff T)
 have RR:Hid (∀ {k l},repRow T g k l=false ↔ ∀ i,i < l.length→atOk T g k i (l.getD i 0)=true):=hJJ rep_row
 have q104:=S0.out.cell C.out.g
 rw [Hgl.out] at q104
 have Q104:Hid ((w.alloc (.cells (T.cells ⟨⟨some x,gcap⟩,sd,sr,sb⟩).toArray 32)).cell? ⟨w.heap.size,104,none⟩=some (.slice (some x) gs.length gcap)):=hJJ q104
 clear ht hgr hgd hv hc hok hsz1 q104 C
 obtain ⟨res,hres⟩:∃ r,r=repeats T g:=⟨_,rfl⟩
 rw [← hres]
 have HRES:=hJJ hres
 clear hres
 generalize hcc:T.cells ⟨⟨some x,gcap⟩,sd,sr,sb⟩=c at *
 clear hcc
 have hsz:c.toArray.size=131:=by
  have:=S0.out.blk
  have h2:=IA.out
  have h3:(Tryz.prog.info? 32).map (·.size)=some 131:=infoT
  rw [h3] at h2
  rw [List.size_toArray];exact (Option.some.inj h2).symm
 go_enter Tryz.func139,Tryz.ntmps139
 go_upto_region 1 with fail
 clear hsz
 generalize w.alloc (.cells c.toArray 32)=w1 at *
 have q104:=Q104.out
 have HC1:=hJJ (HC.out.below S0.out.bel)
 have HO1:=hJJ (HO.out.below S0.out.bel)
 clear HC HO
 go_wp2_with (refine Row.wpList_load_g 41 _ rfl (by first | rfl | go_simp) (x.add (g*2)) rfl [.slice a0 l0.length cap0,.slice a1 l1.length cap1] _ HC1.out Tryz.underlying41 rfl info2 ?_)
 clear q104
 go_loopw [18] (fun a wr=>∃ r:Nat,r≤2∧a=.int .i64 r∧(0 < r→repRow T g 0 l0=false)∧(1 < r→repRow T g 1 l1=false)∧Below w1.heap.size w1 wr) (fun a _=>2 - (intOf a).toNat)
 case atStart=>exact ⟨0,by omega,rfl,by omega,by omega,Below.refl _ _⟩
 case round =>
  obtain ⟨r,hr,rfl,h0,h1,hB⟩:=hrel
  have H0:=hJJ h0
  have H1:=hJJ h1
  have HB:=hJJ hB
  clear h0 h1 hB
  by_cases hr2:r < 2
  ·obtain ⟨l,a,cap,hidx,hrow,hring,hbad⟩:∃ (l:List Int) (a:Option Addr) (cap:Nat),(∀ W,Sem.run Tryz.prog (Instr.index 41 (.agg #[.slice a0 l0.length cap0,.slice a1 l1.length cap1]) (.int .i64 r)) W=.ok (.slice a l.length cap) W)∧IntRow wr ⟨a,cap⟩ l∧(repRow T g r l=false→(0 < r+1→repRow T g 0 l0=false)∧(1 < r+1→repRow T g 1 l1=false))∧(repRow T g r l=true→repeats T g=true):=by
    have:r=0∨r=1:=by omega
    rcases this with rfl | rfl
    ·exact ⟨l0,a0,cap0,fun W=>idx0 _ _ W,HO1.out.1.below HB.out,fun e=>⟨fun _=>e,by omega⟩,fun e=>by rw [RS.out,e];rfl⟩
    ·exact ⟨l1,a1,cap1,fun W=>idx1 _ _ W,HO1.out.2.below HB.out,fun e=>⟨fun _=>H0.out (by omega),fun _=>e⟩,fun e=>by rw [RS.out,e];simp⟩
   have HROW:=hJJ hrow
   have HRING:=hJJ hring
   have HBAD:=hJJ hbad
   have K:=hrow.len
   unfold maxLen at K
   clear hrow hring hbad
   go_wp2_with fail
   clear hidx
   go_loopw [24] (fun a' wk=>∃ j:Nat,j≤l.length∧a'=.int .i64 j∧(∀ i,i < j→atOk T g r i (l.getD i 0)=true)∧Below wr.heap.size wr wk) (fun a' _=>l.length - (intOf a').toNat)
   case atStart=>exact ⟨0,by omega,rfl,(fun i h=>by omega),Below.refl _ _⟩
   case round =>
    obtain ⟨j,hj,rfl,hall,hB2⟩:=hrel
    rename World=>wk
    have HA:=hJJ hall
    have HB2:=hJJ hB2
    clear hall hB2
    by_cases hjl:j < l.length
    ·have hv:=List.getElem?_eq_getElem hjl
     generalize hz:l[j]=z at hv
     obtain ⟨y,hy,hp⟩:=IntRow.at (HROW.out.below HB2.out) hv
     obtain rfl:a=some y:=hy
     have hgd:l.getD j 0=z:=by rw [List.getD_eq_getElem?_getD,hv];rfl
     have HGD:=hJJ hgd
     have LT:Hid (Lies wk ⟨w.heap.size,0,none⟩ c):=hJJ ((LT0.out.below HB.out).below HB2.out)
     have BW:Hid (Below w.heap.size w wk):=hJJ (S0.out.bel.trans ((HB.out.trans (HB2.out.mono HB.out.size)).mono S0.out.bel.size))
     clear hv hz hgd
     have hAT:=AT.out g r j z
     go_wp2_with (refine lgZ 32 ⟨w.heap.size,0,none⟩ c rfl LT.out Tryz.underlying32 IA.out ?_)
     refine (WH.out z _ BW.out).mono ?_
     rintro e u1 ⟨rfl,hb⟩
     have HB3:Hid (Below wr.heap.size wr u1):=hJJ (HB2.out.trans (hb.mono HB2.out.size))
     have BW1:Hid (Below w.heap.size w u1):=hJJ (BW.out.trans (hb.mono BW.out.size))
     clear hb LT BW HB2
     have HAT:=hJJ hAT
     clear hAT
     generalize wG (where_ T z)=oG at HAT ⊢
     generalize wK (where_ T z)=oK at HAT ⊢
     generalize wI (where_ T z)=oI at HAT ⊢
     generalize (where_ T z).isSome=oS
     have BAD:Hid (atOk T g r j z=false→true=res):=hJJ (fun e=>by
      rw [HRES.out];symm
      refine HBAD.out ?_
      cases hr:repRow T g r l with
      | true=>rfl
      | false=>rw [RR.out] at hr;have:=hr j hjl;rw [HGD.out,e] at this;cases this)
     by_cases e1:oG=(g:Int)
     ·by_cases e2:oK=(r:Int)
      ·by_cases e3:oI=(j:Int)
       ·subst e1 e2 e3
        have OK:=hJJ (show atOk T g r j z=true by rw [HAT.out];simp)
        go_wp2
        go_roundw
        case rel=>exact ⟨j+1,by omega,by go_num,(fun i hi=>by
         by_cases e:i=j
         ·subst e;rw [HGD.out];exact OK.out
         ·exact HA.out i (by omega)),HB3.out⟩
        case measure=>simp [intOf];omega
       ·have NO:=hJJ (BAD.out (by rw [HAT.out];simp [e3]))
        go_wp2
        go_ret
        exact ⟨ret_bool NO.out,BW1.out⟩
      ·have NO:=hJJ (BAD.out (by rw [HAT.out];simp [e2]))
       go_wp2
       go_ret
       exact ⟨ret_bool NO.out,BW1.out⟩
     ·have NO:=hJJ (BAD.out (by rw [HAT.out];simp [e1]))
      go_wp2
      go_ret
      exact ⟨ret_bool NO.out,BW1.out⟩
    ·have HE:=hJJ (HRING.out (by rw [RR.out];intro i hi;exact HA.out i (by omega)))
     have HB4:=hJJ (HB.out.trans (HB2.out.mono HB.out.size))
     go_wp2
     go_roundw
     case rel=>exact ⟨r+1,by omega,by go_num,HE.out.1,HE.out.2,HB4.out⟩
     case measure=>simp [intOf];omega
  ·have NO:=hJJ (show false=res by rw [HRES.out,RS.out,H0.out (by omega),H1.out (by omega)];rfl)
   have BW1:=hJJ (S0.out.bel.trans (HB.out.mono S0.out.bel.size))
   go_wp2
   go_ret
   exact ⟨ret_bool NO.out,BW1.out⟩
end ChkG
namespace ChkH
open Zip
open Go.ChangeShapes Go.WideShapes Go.ChangeAt Go.RowKit
open Tab PlaceM PlanM OnS ChkM ChkA ChkG
open May (ret_bool infoT St)
open Same (below_setRow)
def flt (c:Int):Option Int→Value
 | none=>.agg #[I 0,I 0]
 | some p=>.agg #[I c,I p]
theorem infoF:(Tryz.prog.info? 37).map (·.size)=some 2:=by kernel_rfl
theorem badGroup_any (T:Tab) (h:Hd) (g:Nat) (w:World) (ht:IsTab w h T) (hg:g < T.groups.length) :
  Calls Tryz.prog 110 #[.agg (T.cells h).toArray,.int .i64 g] w fun e w'=>e=.returned (.bool (groupBad T g))∧Below w.heap.size w w':=by
 have hsz:=(cells_ok ht).size
 have IA:Hid ((Tryz.prog.info? 32).map (·.size)=some (T.cells h).length):=hJJ (by rw [List.size_toArray] at hsz;rw [hsz];exact infoT)
 have ME:Hid (∀ W,Below w.heap.size w W→Calls Tryz.prog 111 #[.agg (T.cells h).toArray,.int .i64 g] W fun e w'=>e=.returned (.int .i64 (membS T g:Nat))∧Below W.heap.size W w'):=hJJ (fun W hb=>PlanC.members_any T h g W (ht.below hb))
 have AO:Hid (∀ s W,Below w.heap.size w W→Calls Tryz.prog 115 #[.agg (T.cells h).toArray,.int .i64 s] W fun e w'=>e=.returned (.bool (allOn T s))∧Below W.heap.size W w'):=hJJ (fun s W hb=>allOn_any T h s W (ht.below hb))
 have RP:Hid (∀ W,Below w.heap.size w W→Calls Tryz.prog 139 #[.agg (T.cells h).toArray,.int .i64 g] W fun e w'=>e=.returned (.bool (repeats T g))∧Below W.heap.size W w'):=hJJ (fun W hb=>repeats_any T h g W (ht.below hb) hg)
 obtain ⟨x,hx⟩:∃ x,x=groupBad T g:=⟨_,rfl⟩
 rw [← hx]
 have HR:Hid (x=(membS T g == 0 || (!allOn T (membS T g:Nat) || repeats T g))):=hJJ hx
 have A0:Hid (Below w.heap.size w (w.alloc (.cells (T.cells h).toArray 32))):=hJJ ((Below.refl _ _).alloc (Nat.le_refl _) _)
 have A1:=hJJ (Row.lies_new w (T.cells h).toArray 32)
 generalize membS T g=m at HR ME
 generalize repeats T g=rp at HR RP
 clear hx ht hg
 generalize T.cells h=c at *
 go_enter Tryz.func110,Tryz.ntmps110
 go_upto_region 1 with fail
 generalize w.alloc (.cells c.toArray 32)=u at A0 A1 ⊢
 clear hsz
 go_wp2_with (refine lgZ 32 ⟨w.heap.size,0,none⟩ c rfl A1.out Tryz.underlying32 IA.out ?_)
 refine (ME.out _ A0.out).mono ?_
 rintro e u1 ⟨rfl,hb⟩
 have B0:Hid (Below w.heap.size w u1):=hJJ (A0.out.trans (hb.mono A0.out.size))
 have B1:=hJJ (A1.out.below hb)
 clear hb A0 A1 ME
 by_cases hm:m=0
 ·have HR2:Hid (true=x):=hJJ (by rw [HR.out,hm];rfl)
  rw [hm,show (((0:Nat):Int))=(0:Int) from rfl]
  clear hm
  go_wp2
  go_ret
  exact ⟨ret_bool HR2.out,B0.out⟩
 have HM:((m:Int) == 0)=false:=by rw [beq_eq_false_iff_ne];omega
 have HR2:Hid (x=(!allOn T (m:Nat) || rp)):=hJJ (by rw [HR.out,show (m == 0)=false by rw [beq_eq_false_iff_ne];exact hm];rfl)
 have HMi:Hid (¬ ((m:Nat):Int)=0):=hJJ (by omega)
 clear HR hm
 generalize ((m:Nat):Int)=mi at HM HMi HR2 ⊢
 have hmi:=HMi.out
 have HMb:=hJJ HM
 have AO2:=hJJ (AO.out mi)
 clear AO HM
 generalize allOn T mi=ao at AO2 HR2
 go_wp2_with (refine lgZ 32 ⟨w.heap.size,0,none⟩ c rfl B1.out Tryz.underlying32 IA.out ?_)
 refine (AO2.out _ B0.out).mono ?_
 rintro e u2 ⟨rfl,hb⟩
 have A0:Hid (Below w.heap.size w u2):=hJJ (B0.out.trans (hb.mono B0.out.size))
 have A1:=hJJ (B1.out.below hb)
 clear hb B0 B1 AO2 hmi
 cases ao with
 | false =>
  have HR3:Hid (true=x):=hJJ (by rw [HR2.out];rfl)
  go_wp2
  go_ret
  exact ⟨ret_bool HR3.out,A0.out⟩
 | true =>
  have HR3:Hid (rp=x):=hJJ (by rw [HR2.out];rfl)
  go_wp2_with (refine lgZ 32 ⟨w.heap.size,0,none⟩ c rfl A1.out Tryz.underlying32 IA.out ?_)
  refine (RP.out _ A0.out).mono ?_
  rintro e u3 ⟨rfl,hb⟩
  have B0:Hid (Below w.heap.size w u3):=hJJ (A0.out.trans (hb.mono A0.out.size))
  clear hb A0 A1
  go_wp2
  go_ret
  exact ⟨ret_bool (by rw [HMb.out];exact HR3.out),B0.out⟩
theorem find_none {f:Nat→Bool} {n:Nat} (h:∀ j,j < n→f j=false):(List.range n).find? f=none:=range_miss h
theorem placed_lt (T:Tab):∀ g,placed T g < 256
 | 0=>by unfold placed;decide
 | g+1=>Nat.or_lt_two_pow (n:=8) (placed_lt T g) (memb_lt T g)
def fltC (c:Int):Option Int→Array Value
 | none=>#[I 0,I 0]
 | some p=>#[I c,I p]
theorem flt_agg (c:Int) (o:Option Int):flt c o=.agg (fltC c o):=by cases o <;> rfl
theorem rings_any (T:Tab) (h:Hd) (w:World) (ht:IsTab w h T) :
  Calls Tryz.prog 76 #[.agg (T.cells h).toArray] w fun e w'=>e=.returned (flt 8 (ringsC T))∧Below w.heap.size w w':=by
 have hsz:=(cells_ok ht).size
 have C:=hJJ (cells_ok ht)
 have IA:Hid ((Tryz.prog.info? 32).map (·.size)=some (T.cells h).length):=hJJ (by rw [List.size_toArray] at hsz;rw [hsz];exact infoT)
 have ON:Hid (∀ W,Below w.heap.size w W→Calls Tryz.prog 96 #[.agg (T.cells h).toArray] W fun e w'=>e=.returned (.int .i64 (onS T:Nat))∧Below W.heap.size W w'):=hJJ (fun W hb=>PlanO.pon_any T h W (ht.below hb))
 have ME:Hid (∀ (g:Nat) W,Below w.heap.size w W→Calls Tryz.prog 111 #[.agg (T.cells h).toArray,.int .i64 g] W fun e w'=>e=.returned (.int .i64 (membS T g:Nat))∧Below W.heap.size W w'):=hJJ (fun g W hb=>PlanC.members_any T h g W (ht.below hb))
 have BG:Hid (∀ (g:Nat) W,g < T.groups.length→Below w.heap.size w W→Calls Tryz.prog 110 #[.agg (T.cells h).toArray,.int .i64 g] W fun e w'=>e=.returned (.bool (groupBad T g))∧Below W.heap.size W w'):=hJJ (fun g W hg hb=>badGroup_any T h g W (ht.below hb) hg)
 have A0:Hid (Below w.heap.size w ((w.alloc (.cells (T.cells h).toArray 32)).alloc (.cells #[.int .i64 0,.int .i64 0] 37))):=hJJ (((Below.refl _ _).alloc (Nat.le_refl _) _).alloc (by simp) _)
 have A1:Hid (Lies ((w.alloc (.cells (T.cells h).toArray 32)).alloc (.cells #[.int .i64 0,.int .i64 0] 37)) ⟨w.heap.size,0,none⟩ (T.cells h)):=hJJ ((Row.lies_new w _ _).below ((Below.refl _ _).alloc (Nat.le_refl _) _))
 have A2:Hid (((w.alloc (.cells (T.cells h).toArray 32)).alloc (.cells #[.int .i64 0,.int .i64 0] 37)).heap[w.heap.size+1]?=some (.cells #[.int .i64 0,.int .i64 0] 37 (0,0))):=hJJ (heap_alloc2_new w _ _)
 have q104:=(((Row.lies_new w (T.cells h).toArray 32).below ((Below.refl _ _).alloc (Nat.le_refl _) (.cells #[.int .i64 0,.int .i64 0] 37))) 104 _ ((Array.getElem?_toList ..).trans C.out.g):((w.alloc (.cells (T.cells h).toArray 32)).alloc (.cells #[.int .i64 0,.int .i64 0] 37)).cell? ((⟨w.heap.size,0,none⟩:Addr).add 104)=_)
 have q104:((w.alloc (.cells (T.cells h).toArray 32)).alloc (.cells #[.int .i64 0,.int .i64 0] 37)).cell? ⟨w.heap.size,104,none⟩=some (.slice h.g.a T.groups.length h.g.cap):=q104
 have Kg:T.groups.length≤maxLen:=by
  obtain ⟨gs,hgd,hgr⟩:=ht.groups
  have:=hgr.1.len
  rw [← hgd,List.length_map];omega
 unfold maxLen at Kg
 have RC:Hid (ringsC T=_):=hJJ (by unfold ringsC;rfl)
 have LT:=hJJ (placed_lt T)
 have ML:=hJJ (memb_lt T)
 obtain ⟨o,ho⟩:∃ o,o=ringsC T:=⟨_,rfl⟩
 rw [← ho,flt_agg] 
 rw [← ho] at RC
 clear ho ht C
 generalize hn:T.groups.length=n at *
 have HN:=hJJ hn
 clear hn
 generalize h.g.cap=gcap at *
 generalize h.g.a=ga at *
 generalize T.cells h=c at *
 go_enter Tryz.func76,Tryz.ntmps76
 go_upto_region 1 with fail
 generalize ((w.alloc (.cells c.toArray 32)).alloc (.cells #[.int .i64 0,.int .i64 0] 37))=u at A0 A1 A2 q104 ⊢
 clear hsz
 by_cases hz:n=0
 ·subst hz
  have RO:Hid (o=some 0):=hJJ (by rw [RC.out];rfl)
  clear RC
  have HW:=hJJ (below_setRow A0.out (g:=w.heap.size+1) (by omega) #[I 8,I 0])
  have HK:=hJJ (setRow_heap u (w.heap.size+1) _ #[I 8,I 0] _ _ A2.out)
  go_wp2_with (first | (refine wpList_store_row rfl 37 _ _ rfl (w.heap.size+1) #[I 8,I 0] rfl rfl 37 _ A2.out infoF rfl (by simp [Value.oneCell']) ?_))
  generalize u.setRow (w.heap.size+1) #[I 8,I 0]=uz at HW HK ⊢
  (try go_wp2_with fail)
  (try simp only [Exit.inBlock,Exit.then])
  refine bodyPost_ret (v:=.agg #[I 8,I 0]) ?_ rfl ⟨by rw [RO.out];rfl,HW.out⟩
  exact results_cell_row rfl _ _ (w.heap.size+1) 37 _ (0,0) _ rfl HK.out Tryz.underlying37 rfl infoF
 ·have HZ:Hid (¬ n=0):=hJJ hz
  have hzi:((n:Int) == 0)=false:=by rw [beq_eq_false_iff_ne];omega
  have hzj:¬ ((n:Int)=0):=by omega
  rw [if_neg hz] at RC
  clear hz
  go_wp2_with fail
  clear hzi hzj q104
  go_loopw [3,13] (fun s a wr=>∃ q:Nat,q≤n∧s=.int .i64 (placed T q:Nat)∧a=.int .i64 q∧(∀ j,j < q→groupBad T j=false)∧Below u.heap.size u wr) (fun _ a _=>n - (intOf a).toNat)
  case atStart=>exact ⟨0,by omega,rfl,rfl,(fun j h=>by omega),Below.refl _ _⟩
  case round =>
   obtain ⟨q,hq,rfl,rfl,hall,hB⟩:=hrel
   have HA:=hJJ hall
   have B0:Hid (Below w.heap.size w wr):=hJJ (A0.out.trans (hB.mono A0.out.size))
   have B1:=hJJ (A1.out.below hB)
   have B2:Hid (wr.heap[w.heap.size+1]?=some (.cells #[.int .i64 0,.int .i64 0] 37 (0,0))):=hJJ ((hB.block _ (Array.getElem?_eq_some_iff.1 A2.out).1).trans A2.out)
   have B3:=hJJ hB
   clear hall hB
   by_cases hlt:q < n
   ·go_wp2_with (refine lgZ 32 ⟨w.heap.size,0,none⟩ c rfl B1.out Tryz.underlying32 IA.out ?_)
    refine (BG.out q _ hlt B0.out).mono ?_
    rintro e u1 ⟨rfl,hb⟩
    have C0:Hid (Below w.heap.size w u1):=hJJ (B0.out.trans (hb.mono B0.out.size))
    have C1:=hJJ (B1.out.below hb)
    have C2:Hid (u1.heap[w.heap.size+1]?=some (.cells #[.int .i64 0,.int .i64 0] 37 (0,0))):=hJJ ((hb.block _ (Array.getElem?_eq_some_iff.1 B2.out).1).trans B2.out)
    have C3:=hJJ (B3.out.trans (hb.mono B3.out.size))
    clear hb B0 B1 B2 B3
    cases hgb:groupBad T q with
    | true =>
     have RO:Hid (o=some (q:Int)):=hJJ (by rw [RC.out,range_hit hlt hgb HA.out])
     clear hgb
     have HW:=hJJ (below_setRow C0.out (g:=w.heap.size+1) (by omega) #[I 8,I q])
     have HK:=hJJ (setRow_heap u1 (w.heap.size+1) _ #[I 8,I q] _ _ C2.out)
     go_wp2_with (first | (refine wpList_store_row rfl 37 _ _ rfl (w.heap.size+1) #[I 8,I q] rfl rfl 37 _ C2.out infoF rfl (by simp [Value.oneCell']) ?_))
     generalize u1.setRow (w.heap.size+1) #[I 8,I q]=uz at HW HK ⊢
     (try go_wp2_with fail)
     (try simp only [Exit.inBlock,Exit.then])
     refine bodyPost_ret (v:=.agg #[I 8,I q]) ?_ rfl ⟨by rw [RO.out];rfl,HW.out⟩
     exact results_cell_row rfl _ _ (w.heap.size+1) 37 _ (0,0) _ rfl HK.out Tryz.underlying37 rfl infoF
    | false =>
     have HG:=hJJ hgb
     clear hgb
     go_wp2_with (refine lgZ 32 ⟨w.heap.size,0,none⟩ c rfl C1.out Tryz.underlying32 IA.out ?_)
     refine (ME.out q _ C0.out).mono ?_
     rintro e u2 ⟨rfl,hb⟩
     have D3:=hJJ (C3.out.trans (hb.mono C3.out.size))
     have OR:Hid (bits .or .i64 (placed T q:Nat) (membS T q:Nat)=(placed T (q+1):Nat)):=hJJ (RefS.or_small _ _ (LT.out _) (ML.out _))
     clear hb C0 C1 C2 C3
     generalize membS T q=mq at OR ⊢
     generalize placed T q=pq at OR ⊢
     go_wp2
     go_roundw
     case rel=>exact ⟨q+1,by omega,by rw [OR.out],by go_num,(fun j hj=>by
      by_cases e:j=q
      ·subst e;exact HG.out
      ·exact HA.out j (by omega)),D3.out⟩
     case measure=>simp [intOf];omega
   ·have hqn:q=n:=by omega
    have RC2:Hid (o=if bits .andNot .i64 (onS T:Nat) (placed T n:Nat)=0 then none else some 0):=hJJ (by rw [RC.out,find_none (fun j hj=>HA.out j (by omega))])
    rw [hqn]
    clear RC hlt hqn hq HA
    go_wp2_with (refine lgZ 32 ⟨w.heap.size,0,none⟩ c rfl B1.out Tryz.underlying32 IA.out ?_)
    refine (ON.out _ B0.out).mono ?_
    rintro e u1 ⟨rfl,hb⟩
    have C0:Hid (Below w.heap.size w u1):=hJJ (B0.out.trans (hb.mono B0.out.size))
    have C2:Hid (u1.heap[w.heap.size+1]?=some (.cells #[.int .i64 0,.int .i64 0] 37 (0,0))):=hJJ ((hb.block _ (Array.getElem?_eq_some_iff.1 B2.out).1).trans B2.out)
    clear hb B0 B1 B2 B3
    generalize placed T n=pq at RC2 ⊢
    generalize onS T=m at RC2 ⊢
    by_cases hz:bits .andNot .i64 (m:Int) (pq:Int)=0
    ·have RO:Hid (o=none):=hJJ (by rw [RC2.out,if_pos hz])
     have HW:=hJJ (below_setRow C0.out (g:=w.heap.size+1) (by omega) #[I 0,I 0])
     have HK:=hJJ (setRow_heap u1 (w.heap.size+1) _ #[I 0,I 0] _ _ C2.out)
     go_wp2_with (first | (refine wpList_store_row rfl 37 _ _ rfl (w.heap.size+1) #[I 0,I 0] rfl rfl 37 _ C2.out infoF rfl (by simp [Value.oneCell']) ?_))
     generalize u1.setRow (w.heap.size+1) #[I 0,I 0]=uz at HW HK ⊢
     (try go_wp2_with fail)
     (try simp only [Exit.inBlock,Exit.then])
     refine bodyPost_ret (v:=.agg #[I 0,I 0]) ?_ rfl ⟨by rw [RO.out];rfl,HW.out⟩
     exact results_cell_row rfl _ _ (w.heap.size+1) 37 _ (0,0) _ rfl HK.out Tryz.underlying37 rfl infoF
    ·have RO:Hid (o=some 0):=hJJ (by rw [RC2.out,if_neg hz])
     have HW:=hJJ (below_setRow C0.out (g:=w.heap.size+1) (by omega) #[I 8,I 0])
     have HK:=hJJ (setRow_heap u1 (w.heap.size+1) _ #[I 8,I 0] _ _ C2.out)
     go_wp2_with (first | (refine wpList_store_row rfl 37 _ _ rfl (w.heap.size+1) #[I 8,I 0] rfl rfl 37 _ C2.out infoF rfl (by simp [Value.oneCell']) ?_))
     generalize u1.setRow (w.heap.size+1) #[I 8,I 0]=uz at HW HK ⊢
     (try go_wp2_with fail)
     (try simp only [Exit.inBlock,Exit.then])
     refine bodyPost_ret (v:=.agg #[I 8,I 0]) ?_ rfl ⟨by rw [RO.out];rfl,HW.out⟩
     exact results_cell_row rfl _ _ (w.heap.size+1) 37 _ (0,0) _ rfl HK.out Tryz.underlying37 rfl infoF
end ChkH
namespace RkR
open Zip
open Go.ChangeShapes Go.WideShapes Go.ChangeAt Go.RowKit
open Tab PlaceM PlanM OnS ChkM ChkH
open ChkB (laid2)
open Same (below_setRow)
open Where (infoS)
open RefS (rhas_any rwith_any)
open May (ret_bool infoT)
theorem fold_cons (on:Int) (g:Nat) (S:List Spt) (j:Nat) (x:Spt) (h:S[j]?=some x) (st:Nat × Nat):foldR on g (S.drop j) st=foldR on g (x :: S.drop (j+1)) st:=by
 obtain ⟨h1,h2⟩:=List.getElem?_eq_some_iff.1 h
 rw [List.drop_eq_getElem_cons h1,h2]
theorem fold_other {on:Int} {g n s:Nat} {x:Spt} {l:List Spt} (h:¬ x.g=g):foldR on g (x :: l) (n,s)=foldR on g l (n,s):=by unfold foldR;rw [if_neg h];cases l <;> rfl
theorem fold_bad {on:Int} {g n s:Nat} {x:Spt} {l:List Spt} (h:x.g=g) (hb:(!SetM.has on x.p || SetM.has (s:Nat) x.p)=true):foldR on g (x :: l) (n,s)=none:=by unfold foldR;rw [if_pos h,if_pos hb]
theorem fold_good {on:Int} {g n s:Nat} {x:Spt} {l:List Spt} (h:x.g=g) (hb:(!SetM.has on x.p || SetM.has (s:Nat) x.p)=false):foldR on g (x :: l) (n,s)=foldR on g l (n+1,SetM.withN (s:Nat) x.p):=by
 rw [foldR,if_pos h,if_neg (by rw [hb];simp)]
theorem loop_none {T:Tab} {m g seen:Nat} (h:foldR (onS T:Nat) g (spots T) (0,seen)=none):loopR T (m+1) g seen=some (g:Int):=by rw [loopR,h]
theorem loop_zero {T:Tab} {m g seen s:Nat} (h:foldR (onS T:Nat) g (spots T) (0,seen)=some (0,s)):loopR T (m+1) g seen=some (g:Int):=by rw [loopR,h];rfl
theorem loop_next {T:Tab} {m g seen n s:Nat} (h:foldR (onS T:Nat) g (spots T) (0,seen)=some (n,s)) (hn:¬ n=0):loopR T (m+1) g seen=loopR T m (g+1) s:=by rw [loopR,h];exact if_neg hn
theorem rrings_any (T:Tab) (h:Hd) (w:World) (ht:IsTab w h T) (sm:Few T) :
  Calls Tryz.prog 50 #[.agg (T.cells h).toArray] w fun e w'=>e=.returned (.agg (fltC 8 (ringsR T)))∧Below w.heap.size w w':=by
 have hsz:=(cells_ok ht).size
 have C:=hJJ (cells_ok ht)
 have IA:Hid ((Tryz.prog.info? 32).map (·.size)=some (T.cells h).length):=hJJ (by rw [List.size_toArray] at hsz;rw [hsz];exact infoT)
 have ON:Hid (∀ W,Below w.heap.size w W→Calls Tryz.prog 22 #[.agg (T.cells h).toArray] W fun e w'=>e=.returned (.int .i64 (onS T:Nat))∧Below W.heap.size W w'):=hJJ (fun W hb=>OnS.on_any T h W (ht.below hb))
 have SPC:Hid (∀ W,Below w.heap.size w W→Calls Tryz.prog 18 #[.agg (T.cells h).toArray] W fun e w'=>∃ s:Sl,e=.returned (s.val (spots T).length)∧RowOf 4 Spt.cells w' s (spots T)∧Below W.heap.size W w'):=hJJ (fun W hb=>Spots.spots_any T h W (ht.below hb) sm)
 have A0:Hid (Below w.heap.size w ((w.alloc (.cells (T.cells h).toArray 32)).alloc (.cells #[.int .i64 0,.int .i64 0] 37))):=hJJ (((Below.refl _ _).alloc (Nat.le_refl _) _).alloc (by simp) _)
 have A1:Hid (Lies ((w.alloc (.cells (T.cells h).toArray 32)).alloc (.cells #[.int .i64 0,.int .i64 0] 37)) ⟨w.heap.size,0,none⟩ (T.cells h)):=hJJ ((Row.lies_new w _ _).below ((Below.refl _ _).alloc (Nat.le_refl _) _))
 have A2:Hid (((w.alloc (.cells (T.cells h).toArray 32)).alloc (.cells #[.int .i64 0,.int .i64 0] 37)).heap[w.heap.size+1]?=some (.cells #[.int .i64 0,.int .i64 0] 37 (0,0))):=hJJ (heap_alloc2_new w _ _)
 have q104:((w.alloc (.cells (T.cells h).toArray 32)).alloc (.cells #[.int .i64 0,.int .i64 0] 37)).cell? ⟨w.heap.size,104,none⟩=some (.slice h.g.a T.groups.length h.g.cap):=A1.out 104 _ ((Array.getElem?_toList ..).trans C.out.g)
 have Kg:T.groups.length≤maxLen:=by
  obtain ⟨gs,hgd,hgr⟩:=ht.groups
  have:=hgr.1.len
  rw [← hgd,List.length_map];omega
 unfold maxLen at Kg
 obtain ⟨o,ho⟩:∃ o,o=ringsR T:=⟨_,rfl⟩
 rw [← ho]
 have RC:Hid (o=if T.groups.length=0 then some 0 else loopR T T.groups.length 0 0):=hJJ ho
 have OL:Hid (onS T < 256):=hJJ (SetM.of_lt _)
 have F1:Hid (∀ {m g seen:Nat},foldR (onS T:Nat) g (spots T) (0,seen)=none→loopR T (m+1) g seen=some (g:Int)):=hJJ loop_none
 have F2:Hid (∀ {m g seen s:Nat},foldR (onS T:Nat) g (spots T) (0,seen)=some (0,s)→loopR T (m+1) g seen=some (g:Int)):=hJJ loop_zero
 have F3:Hid (∀ {m g seen n s:Nat},foldR (onS T:Nat) g (spots T) (0,seen)=some (n,s)→¬ n=0→loopR T (m+1) g seen=loopR T m (g+1) s):=hJJ loop_next
 have F4:Hid (∀ g seen,loopR T 0 g seen=if seen=onS T then none else some 0):=hJJ (fun _ _=>rfl)
 clear ho ht C sm
 generalize T.groups.length=n at *
 generalize h.g.cap=gcap at *
 generalize h.g.a=ga at *
 generalize T.cells h=c at *
 generalize loopR T=lr at *
 generalize spots T=S at *
 generalize onS T=on at *
 go_enter Tryz.func50,Tryz.ntmps50
 go_upto_region 1 with fail
 generalize ((w.alloc (.cells c.toArray 32)).alloc (.cells #[.int .i64 0,.int .i64 0] 37))=u at A0 A1 A2 q104 ⊢
 have Q104:=hJJ q104
 clear hsz
 by_cases hz:n=0
 ·subst hz
  have RO:Hid (o=some 0):=hJJ (by rw [RC.out];rfl)
  clear RC
  have HW:=hJJ (below_setRow A0.out (g:=w.heap.size+1) (by omega) #[I 8,I 0])
  have HK:=hJJ (setRow_heap u (w.heap.size+1) _ #[I 8,I 0] _ _ A2.out)
  go_wp2_with (first | (refine wpList_store_row rfl 37 _ _ rfl (w.heap.size+1) #[I 8,I 0] rfl rfl 37 _ A2.out infoF rfl (by simp [Value.oneCell']) ?_))
  generalize u.setRow (w.heap.size+1) #[I 8,I 0]=uz at HW HK ⊢
  (try go_wp2_with fail)
  (try simp only [Exit.inBlock,Exit.then])
  refine bodyPost_ret (v:=.agg #[I 8,I 0]) ?_ rfl ⟨by rw [RO.out];rfl,HW.out⟩
  exact results_cell_row rfl _ _ (w.heap.size+1) 37 _ (0,0) _ rfl HK.out Tryz.underlying37 rfl infoF
 ·have hzi:((n:Int) == 0)=false:=by rw [beq_eq_false_iff_ne];omega
  have hzj:¬ ((n:Int)=0):=by omega
  have RC2:Hid (o=lr n 0 0):=hJJ (by rw [RC.out,if_neg hz])
  clear hz RC
  go_wp2_with (refine lgZ 32 ⟨w.heap.size,0,none⟩ c rfl A1.out Tryz.underlying32 IA.out ?_)
  (try go_wp2_with fail)
  refine (ON.out _ A0.out).mono ?_
  rintro e u1 ⟨rfl,hb⟩
  have B0:Hid (Below w.heap.size w u1):=hJJ (A0.out.trans (hb.mono A0.out.size))
  have B1:=hJJ (A1.out.below hb)
  have B2:Hid (u1.heap[w.heap.size+1]?=some (.cells #[.int .i64 0,.int .i64 0] 37 (0,0))):=hJJ ((hb.block _ (Array.getElem?_eq_some_iff.1 A2.out).1).trans A2.out)
  have BQ:=hJJ ((hb.cell (World.block_lt_of_cell? u _ Q104.out)).trans Q104.out)
  clear hb hzi hzj q104 A0 A1 A2 Q104
  go_wp2_with fail
  go_loopw [4,5] (fun s a wr=>∃ q seen:Nat,q≤n∧seen < 256∧s=.int .i64 (seen:Nat)∧a=.int .i64 q∧o=lr (n - q) q seen∧Below u1.heap.size u1 wr) (fun _ a _=>n - (intOf a).toNat)
  case atStart=>exact ⟨0,0,by omega,by decide,rfl,rfl,RC2.out,Below.refl _ _⟩
  case round =>
   obtain ⟨q,seen,hq,hseen,rfl,rfl,ho,hB⟩:=hrel
   have HO:=hJJ ho
   have HSE:=hJJ hseen
   have C0:Hid (Below w.heap.size w wr):=hJJ (B0.out.trans (hB.mono B0.out.size))
   have C1:=hJJ (B1.out.below hB)
   have C2:Hid (wr.heap[w.heap.size+1]?=some (.cells #[.int .i64 0,.int .i64 0] 37 (0,0))):=hJJ ((hB.block _ (Array.getElem?_eq_some_iff.1 B2.out).1).trans B2.out)
   have q104:=(hB.cell (World.block_lt_of_cell? u1 _ BQ.out)).trans BQ.out
   have C3:=hJJ hB
   clear ho hB hseen RC2
   by_cases hlt:q < n
   ·obtain ⟨m,hm⟩:∃ m,n - q=m+1:=⟨n - q - 1,by omega⟩
    have HM:Hid (n - (q+1)=m):=hJJ (by omega)
    have HO2:Hid (o=lr (m+1) q seen):=hJJ (by rw [← hm];exact HO.out)
    clear hm HO
    go_wp2_with (refine lgZ 32 ⟨w.heap.size,0,none⟩ c rfl C1.out Tryz.underlying32 IA.out ?_)
    (try go_wp2_with fail)
    refine (SPC.out _ C0.out).mono ?_
    rintro e u2 ⟨⟨sa,scap⟩,rfl,hrow,hb⟩
    rw [show (Sl.val ⟨sa,scap⟩ S.length)=.slice sa S.length scap from rfl]
    have D0:Hid (Below w.heap.size w u2):=hJJ (C0.out.trans (hb.mono C0.out.size))
    have D2:Hid (u2.heap[w.heap.size+1]?=some (.cells #[.int .i64 0,.int .i64 0] 37 (0,0))):=hJJ ((hb.block _ (Array.getElem?_eq_some_iff.1 C2.out).1).trans C2.out)
    have D3:=hJJ (C3.out.trans (hb.mono C3.out.size))
    have HR:=hJJ hrow
    have K:=hrow.len
    unfold maxLen at K
    clear hrow hb q104 C0 C1 C2 C3
    go_wp2_with fail
    go_loopw [4,6,26] (fun s a i wk=>∃ j k sn:Nat,j≤S.length∧k≤j∧sn < 256∧s=.int .i64 (sn:Nat)∧a=.int .i64 (k:Nat)∧i=.int .i64 j∧foldR on q S (0,seen)=foldR on q (S.drop j) (k,sn)∧Below u2.heap.size u2 wk) (fun _ _ i _=>S.length - (intOf i).toNat)
    case atStart=>exact ⟨0,0,seen,by omega,by omega,HSE.out,rfl,rfl,rfl,rfl,Below.refl _ _⟩
    case round =>
     obtain ⟨j,k,sn,hj,hkj,hsn,rfl,rfl,rfl,hf,hB2⟩:=hrel
     rename World=>wk
     have HF:=hJJ hf
     have HSN:=hJJ hsn
     have HB2:=hJJ hB2
     have G0:Hid (Below w.heap.size w wk):=hJJ (D0.out.trans (hB2.mono D0.out.size))
     have G2:Hid (wk.heap[w.heap.size+1]?=some (.cells #[.int .i64 0,.int .i64 0] 37 (0,0))):=hJJ ((hB2.block _ (Array.getElem?_eq_some_iff.1 D2.out).1).trans D2.out)
     clear hf hB2 hsn
     by_cases hjl:j < S.length
     ·have hv:=List.getElem?_eq_getElem hjl
      generalize S[j]=x at hv
      obtain ⟨y,hy,hc⟩:=(HR.out.below HB2.out).at hv
      obtain rfl:sa=some y:=hy
      have FC:=hJJ (HF.out.trans (fold_cons on q S j x hv (k,sn)))
      have HC:=hJJ hc
      clear hv hc HF
      obtain ⟨xg,xk,xi,xp⟩:=x
      have hwk:=HB2.out.size
      go_upto_region 12 with (first | (refine Row.wpList_load_g 55 _ rfl (by first | rfl | go_simp) (y.add (j*4)) rfl (Spt.cells ⟨xg,xk,xi,xp⟩) _ HC.out Tryz.underlying55 rfl infoS ?_) | (refine Row.wpList_store_new rfl 55 _ _ rfl wk _ (Spt.cells ⟨xg,xk,xi,xp⟩).toArray rfl rfl rfl infoS rfl (Spt.one _) ?_))
      have hbn:Below u2.heap.size u2 (wk.alloc (.cells (Spt.cells ⟨xg,xk,xi,xp⟩).toArray 55)):=HB2.out.alloc hwk _
      have hgn:=heap_alloc_new wk (.cells (Spt.cells ⟨xg,xk,xi,xp⟩).toArray 55)
      have d0:(wk.alloc (.cells (Spt.cells ⟨xg,xk,xi,xp⟩).toArray 55)).cell? ⟨wk.heap.size,0,none⟩=some (I xg):=by rw [cell_of_row _ _ _ _ _ _ hgn];rfl
      have d3:(wk.alloc (.cells (Spt.cells ⟨xg,xk,xi,xp⟩).toArray 55)).cell? ⟨wk.heap.size,3,none⟩=some (I xp):=by rw [cell_of_row _ _ _ _ _ _ hgn];rfl
      have HN:=hJJ hbn
      have G0':Hid (Below w.heap.size w (wk.alloc (.cells (Spt.cells ⟨xg,xk,xi,xp⟩).toArray 55))):=hJJ (G0.out.alloc G0.out.size _)
      clear hbn hgn HC G0
      generalize hxc:(Spt.cells ⟨xg,xk,xi,xp⟩)=xc at *
      clear hxc
      generalize wk.alloc (.cells xc.toArray 55)=w4 at HN d0 d3 G0' ⊢
      generalize wk.heap.size=b4 at d0 d3 ⊢
      have D3X:=hJJ d3
      by_cases hg:((xg:Nat):Int)=(q:Int)
      ·have hgn:xg=q:=by omega
       have FB:=hJJ (fun e=>FC.out.trans (fold_bad (on:=on) (n:=k) (s:=sn) (l:=S.drop (j+1)) (x:=⟨xg,xk,xi,xp⟩) hgn e))
       have FG:=hJJ (fun e=>FC.out.trans (fold_good (on:=on) (n:=k) (s:=sn) (l:=S.drop (j+1)) (x:=⟨xg,xk,xi,xp⟩) hgn e))
       have hgb:(((xg:Nat):Int) != (q:Int))=false:=by rw [bne_eq_false_iff_eq];exact hg
       have hgi:=hg
       clear hg
       obtain ⟨va,hva⟩:∃ z,SetM.has (on:Nat) xp=z:=⟨_,rfl⟩
       obtain ⟨vb,hvb⟩:∃ z,SetM.has (sn:Nat) xp=z:=⟨_,rfl⟩
       have HVA:=hJJ hva
       have HVB:=hJJ hvb
       have FB:=hJJ (fun (e:(!va || vb)=true)=>FB.out (by rw [← e,← hva,← hvb]))
       have FG:=hJJ (fun (e:(!va || vb)=false)=>FG.out (by rw [← e,← hva,← hvb]))
       have WL:=hJJ (SetM.with_lt (sn:Nat) xp)
       clear hva hvb hgi hgn
       have hk62:((k:Nat):Int) < 9223372036854775807:=by omega
       go_wp2_with fail
       refine (rhas_any _ _ _).mono ?_
       rintro e w' ⟨rfl,rfl⟩
       rw [HVA.out]
       cases va with
       | false =>
        have RO:Hid (o=some (q:Int)):=hJJ (by rw [HO2.out];exact F1.out (FB.out rfl))
        have G2':Hid (w4.heap[w.heap.size+1]?=some (.cells #[.int .i64 0,.int .i64 0] 37 (0,0))):=hJJ ((HN.out.block _ (Array.getElem?_eq_some_iff.1 D2.out).1).trans D2.out)
        clear d0 d3 hgb
        have HW:=hJJ (below_setRow G0'.out (g:=w.heap.size+1) (by omega) #[I 8,I q])
        have HK:=hJJ (setRow_heap w4 (w.heap.size+1) _ #[I 8,I q] _ _ G2'.out)
        go_wp2_with (first | (refine wpList_store_row rfl 37 _ _ rfl (w.heap.size+1) #[I 8,I q] rfl rfl 37 _ G2'.out infoF rfl (by simp [Value.oneCell']) ?_))
        generalize w4.setRow (w.heap.size+1) #[I 8,I q]=uz at HW HK ⊢
        (try go_wp2_with fail)
        (try simp only [Exit.inBlock,Exit.then])
        refine bodyPost_ret (v:=.agg #[I 8,I q]) ?_ rfl ⟨by rw [RO.out];rfl,HW.out⟩
        exact results_cell_row rfl _ _ (w.heap.size+1) 37 _ (0,0) _ rfl HK.out Tryz.underlying37 rfl infoF
       | true =>
        have d3:=D3X.out
        go_wp2_with fail
        refine (rhas_any _ _ _).mono ?_
        rintro e w' ⟨rfl,rfl⟩
        rw [HVB.out]
        cases vb with
        | true =>
         have RO:Hid (o=some (q:Int)):=hJJ (by rw [HO2.out];exact F1.out (FB.out rfl))
         have G2':Hid (w4.heap[w.heap.size+1]?=some (.cells #[.int .i64 0,.int .i64 0] 37 (0,0))):=hJJ ((HN.out.block _ (Array.getElem?_eq_some_iff.1 D2.out).1).trans D2.out)
         clear d0 d3 hgb
         have HW:=hJJ (below_setRow G0'.out (g:=w.heap.size+1) (by omega) #[I 8,I q])
         have HK:=hJJ (setRow_heap w4 (w.heap.size+1) _ #[I 8,I q] _ _ G2'.out)
         go_wp2_with (first | (refine wpList_store_row rfl 37 _ _ rfl (w.heap.size+1) #[I 8,I q] rfl rfl 37 _ G2'.out infoF rfl (by simp [Value.oneCell']) ?_))
         generalize w4.setRow (w.heap.size+1) #[I 8,I q]=uz at HW HK ⊢
         (try go_wp2_with fail)
         (try simp only [Exit.inBlock,Exit.then])
         refine bodyPost_ret (v:=.agg #[I 8,I q]) ?_ rfl ⟨by rw [RO.out];rfl,HW.out⟩
         exact results_cell_row rfl _ _ (w.heap.size+1) 37 _ (0,0) _ rfl HK.out Tryz.underlying37 rfl infoF
        | false =>
         have NX:=hJJ (FG.out rfl)
         clear FB FG FC
         go_wp2_with fail
         refine (rwith_any _ _ _).mono ?_
         rintro e w5 ⟨rfl,hb⟩
         have HN5:=hJJ (HN.out.trans (hb.mono HN.out.size))
         clear hb d0 d3
         go_wp2
         go_roundw
         case rel=>exact ⟨j+1,k+1,_,by omega,by omega,WL.out,rfl,by go_num,by go_num,NX.out,HN5.out⟩
         case measure=>simp [intOf];omega
      ·have hgn:¬ xg=q:=by omega
       have NX:=hJJ (FC.out.trans (fold_other (on:=on) (n:=k) (s:=sn) (l:=S.drop (j+1)) (x:=⟨xg,xk,xi,xp⟩) hgn))
       have hgb:(((xg:Nat):Int) != (q:Int))=true:=by rw [bne_iff_ne];exact hg
       have hgi:¬ ((xg:Nat):Int)=(q:Int):=hg
       clear hg hgn FC
       go_wp2
       go_roundw
       case rel=>exact ⟨j+1,k,sn,by omega,by omega,HSN.out,rfl,rfl,by go_num,NX.out,HN.out⟩
       case measure=>simp [intOf];omega
     ·have FE:Hid (foldR on q S (0,seen)=some (k,sn)):=hJJ (by rw [HF.out,List.drop_of_length_le (by omega)];rfl)
      by_cases hk:k=0
      ·subst hk
       have RO:Hid (o=some (q:Int)):=hJJ (by rw [HO2.out];exact F2.out FE.out)
       have HW:=hJJ (below_setRow G0.out (g:=w.heap.size+1) (by omega) #[I 8,I q])
       have HK:=hJJ (setRow_heap wk (w.heap.size+1) _ #[I 8,I q] _ _ G2.out)
       go_wp2_with (first | (refine wpList_store_row rfl 37 _ _ rfl (w.heap.size+1) #[I 8,I q] rfl rfl 37 _ G2.out infoF rfl (by simp [Value.oneCell']) ?_))
       generalize wk.setRow (w.heap.size+1) #[I 8,I q]=uz at HW HK ⊢
       (try go_wp2_with fail)
       (try simp only [Exit.inBlock,Exit.then])
       refine bodyPost_ret (v:=.agg #[I 8,I q]) ?_ rfl ⟨by rw [RO.out];rfl,HW.out⟩
       exact results_cell_row rfl _ _ (w.heap.size+1) 37 _ (0,0) _ rfl HK.out Tryz.underlying37 rfl infoF
      ·have hki:((k:Nat):Int) ≠ 0:=by omega
       have hkb:(((k:Nat):Int) == 0)=false:=by rw [beq_eq_false_iff_ne];exact hki
       have NX:Hid (o=lr (n - (q+1)) (q+1) sn):=hJJ (by rw [HO2.out,HM.out];exact F3.out FE.out hk)
       have E3:=hJJ (D3.out.trans (HB2.out.mono D3.out.size))
       clear hk
       go_wp2
       go_roundw
       case rel=>exact ⟨q+1,sn,by omega,HSN.out,rfl,by go_num,NX.out,E3.out⟩
       case measure=>simp [intOf];omega
   ·have hqn:q=n:=by omega
    have RL:Hid (o=if seen=on then none else some 0):=hJJ (by rw [HO.out,hqn,Nat.sub_self];exact F4.out _ _)
    by_cases he:((seen:Nat):Int)=(on:Int)
    ·have heb:(((seen:Nat):Int) != (on:Int))=false:=by rw [bne_eq_false_iff_eq];exact he
     have RO:Hid (o=none):=hJJ (by rw [RL.out,if_pos (by omega)])
     clear he
     have HW:=hJJ (below_setRow C0.out (g:=w.heap.size+1) (by omega) #[I 0,I 0])
     have HK:=hJJ (setRow_heap wr (w.heap.size+1) _ #[I 0,I 0] _ _ C2.out)
     go_wp2_with (first | (refine wpList_store_row rfl 37 _ _ rfl (w.heap.size+1) #[I 0,I 0] rfl rfl 37 _ C2.out infoF rfl (by simp [Value.oneCell']) ?_))
     generalize wr.setRow (w.heap.size+1) #[I 0,I 0]=uz at HW HK ⊢
     (try go_wp2_with fail)
     (try simp only [Exit.inBlock,Exit.then])
     refine bodyPost_ret (v:=.agg #[I 0,I 0]) ?_ rfl ⟨by rw [RO.out];rfl,HW.out⟩
     exact results_cell_row rfl _ _ (w.heap.size+1) 37 _ (0,0) _ rfl HK.out Tryz.underlying37 rfl infoF
    ·have heb:(((seen:Nat):Int) != (on:Int))=true:=by rw [bne_iff_ne];exact he
     have RO:Hid (o=some 0):=hJJ (by rw [RL.out,if_neg (by omega)])
     clear he
     have HW:=hJJ (below_setRow C0.out (g:=w.heap.size+1) (by omega) #[I 8,I 0])
     have HK:=hJJ (setRow_heap wr (w.heap.size+1) _ #[I 8,I 0] _ _ C2.out)
     go_wp2_with (first | (refine wpList_store_row rfl 37 _ _ rfl (w.heap.size+1) #[I 8,I 0] rfl rfl 37 _ C2.out infoF rfl (by simp [Value.oneCell']) ?_))
     generalize wr.setRow (w.heap.size+1) #[I 8,I 0]=uz at HW HK ⊢
     (try go_wp2_with fail)
     (try simp only [Exit.inBlock,Exit.then])
     refine bodyPost_ret (v:=.agg #[I 8,I 0]) ?_ rfl ⟨by rw [RO.out];rfl,HW.out⟩
     exact results_cell_row rfl _ _ (w.heap.size+1) 37 _ (0,0) _ rfl HK.out Tryz.underlying37 rfl infoF
end RkR
namespace ChkZ
open Go Tab PlaceM PlanM OnS May ChkM ChkX
open PlanW (where_some)
def inG (T:Tab) (g:Nat):List Spt:=(spots T).filter fun x=>decide ((x.g:Int)=g)
def phG (T:Tab) (g:Nat):List Int:=(inG T g).map Spt.p
theorem memb_eq (T:Tab) (g:Nat):SetM.of (phG T g)=membS T g:=memb_spots T g
theorem mem_inG {T:Tab} {g:Nat} {x:Spt}:x ∈ inG T g ↔ x ∈ spots T∧x.g=g:=by
 unfold inG
 rw [List.mem_filter,decide_eq_true_eq]
 constructor
 ·rintro ⟨h1,h2⟩;exact ⟨h1,by omega⟩
 ·rintro ⟨h1,h2⟩;exact ⟨h1,by omega⟩
theorem spot_range {T:Tab} {x:Spt} (h:x ∈ spots T):0≤x.p∧x.p < 8:=by obtain ⟨_,_,_,h1,h2⟩:=mem_spots.1 h;exact ⟨h1,h2⟩
theorem ph_range {T:Tab} {g:Nat} {p:Int} (h:p ∈ phG T g):0≤p∧p < 8:=by
 obtain ⟨x,hx,rfl⟩:=List.mem_map.1 h
 exact spot_range (mem_inG.1 hx).1
theorem has_memb {T:Tab} {g:Nat} {q:Int}:SetM.has (membS T g:Nat) q=true ↔ q ∈ phG T g:=by
 rw [← memb_eq,has_of]
 constructor
 ·rintro ⟨_,_,h⟩;exact h
 ·intro h;have:=ph_range h;exact ⟨this.1,this.2,h⟩
theorem has_or {m n:Nat} (hm:m < 256) (hn:n < 256) {q:Int}:SetM.has ((m ||| n:Nat):Int) q=true ↔ SetM.has (m:Int) q=true∨SetM.has (n:Int) q=true:=by
 have hmn:m ||| n < 256:=Nat.or_lt_two_pow (n:=8) hm hn
 rw [has_bits,has_bits,has_bits,SetM.low_nat _ hmn,SetM.low_nat _ hm,SetM.low_nat _ hn,Nat.testBit_or,Bool.or_eq_true]
 constructor
 ·rintro ⟨h1,h2,h3 | h3⟩
  ·exact .inl ⟨h1,h2,h3⟩
  ·exact .inr ⟨h1,h2,h3⟩
 ·rintro (⟨h1,h2,h3⟩ | ⟨h1,h2,h3⟩)
  ·exact ⟨h1,h2,.inl h3⟩
  ·exact ⟨h1,h2,.inr h3⟩
theorem has_placed {T:Tab} {q:Int}:∀ g,SetM.has (placed T g:Nat) q=true ↔ ∃ y ∈ spots T,y.g < g∧y.p=q
 | 0=>by
  constructor
  ·intro h;have:=(has_bits.1 h).2.2;rw [show ((placed T 0:Nat):Int)=((0:Nat):Int) from rfl,SetM.low_nat 0 (by decide),Nat.zero_testBit] at this;cases this
  ·rintro ⟨y,_,h,_⟩;omega
 | g+1=>by
  rw [show placed T (g+1)=placed T g ||| membS T g from rfl,has_or (ChkH.placed_lt T g) (memb_lt T g),has_placed g,has_memb]
  constructor
  ·rintro (⟨y,h1,h2,h3⟩ | h)
   ·exact ⟨y,h1,by omega,h3⟩
   ·obtain ⟨y,hy,rfl⟩:=List.mem_map.1 h
    obtain ⟨h1,h2⟩:=mem_inG.1 hy
    exact ⟨y,h1,by omega,rfl⟩
  ·rintro ⟨y,h1,h2,h3⟩
   by_cases h4:y.g < g
   ·exact .inl ⟨y,h1,h4,h3⟩
   ·exact .inr (List.mem_map.2 ⟨y,mem_inG.2 ⟨h1,by omega⟩,h3⟩)
def go (on:Int):List Int→Nat × Nat→Option (Nat × Nat)
 | [],s=>some s
 | p :: l,(n,s)=>if !SetM.has on p || SetM.has (s:Nat) p then none else go on l (n+1,SetM.withN (s:Nat) p)
theorem fold_go (on:Int) (g:Nat):∀ (l:List Spt) (n s:Nat),foldR on g l (n,s)=go on ((l.filter fun x=>decide ((x.g:Int)=g)).map Spt.p) (n,s)
 | [],n,s=>rfl
 | x :: l,n,s=>by
  by_cases h:x.g=g
  ·have hd:decide ((x.g:Int)=g)=true:=by rw [decide_eq_true_eq];omega
   rw [List.filter_cons,hd,if_pos rfl,List.map_cons,go]
   by_cases hb:(!SetM.has on x.p || SetM.has (s:Nat) x.p)=true
   ·rw [RkR.fold_bad h hb,if_pos hb]
   ·have hb':(!SetM.has on x.p || SetM.has (s:Nat) x.p)=false:=by simpa using hb
    rw [RkR.fold_good h hb',if_neg hb]
    exact fold_go on g l _ _
  ·have hd:decide ((x.g:Int)=g)=false:=by rw [decide_eq_false_iff_not];omega
   rw [RkR.fold_other h,List.filter_cons,hd]
   exact fold_go on g l n s
theorem go_bad {on:Int}:∀ {l:List Int} {n s:Nat},go on l (n,s)=none→(∃ p ∈ l,SetM.has on p=false)∨(∃ p ∈ l,SetM.has (s:Nat) p=true)∨¬ l.Nodup
 | [],n,s,h=>by simp [go] at h
 | p :: l,n,s,h=>by
  rw [go] at h
  split at h
  ·rename_i hb
   rw [Bool.or_eq_true] at hb
   rcases hb with hb | hb
   ·exact .inl ⟨p,List.mem_cons_self ..,by simpa using hb⟩
   ·exact .inr (.inl ⟨p,List.mem_cons_self ..,hb⟩)
  ·rcases go_bad h with ⟨q,h1,h2⟩ | ⟨q,h1,h2⟩ | h1
   ·exact .inl ⟨q,List.mem_cons_of_mem _ h1,h2⟩
   ·rw [SetM.has_with,Bool.or_eq_true] at h2
    rcases h2 with h2 | h2
    ·exact .inr (.inl ⟨q,List.mem_cons_of_mem _ h1,h2⟩)
    ·refine .inr (.inr fun hn=>?_)
     have:q=p:=by rw [Bool.and_eq_true,beq_iff_eq] at h2;exact h2.2
     subst this
     exact (List.nodup_cons.1 hn).1 h1
   ·exact .inr (.inr fun hn=>h1 (List.nodup_cons.1 hn).2)
theorem go_good {on:Int}:∀ {l:List Int} {n s n' s':Nat},s < 256→(∀ p ∈ l,0≤p∧p < 8)→go on l (n,s)=some (n',s') →
  (∀ p ∈ l,SetM.has on p=true)∧(∀ p ∈ l,SetM.has (s:Nat) p=false)∧l.Nodup∧n'=n+l.length∧s' < 256∧∀ q,SetM.has (s':Nat) q=true ↔ SetM.has (s:Nat) q=true∨q ∈ l
 | [],n,s,n',s',hs,_,h=>by
  obtain ⟨rfl,rfl⟩:n=n'∧s=s':=by simpa [go] using h
  exact ⟨by simp,by simp,List.nodup_nil,rfl,hs,by simp⟩
 | p :: l,n,s,n',s',hs,hr,h=>by
  rw [go] at h
  split at h
  ·cases h
  ·rename_i hb
   have hb':(!SetM.has on p || SetM.has (s:Nat) p)=false:=by simpa using hb
   rw [Bool.or_eq_false_iff] at hb'
   have h1:SetM.has on p=true:=by simpa using hb'.1
   obtain ⟨a1,a2,a3,a4,a5,a6⟩:=go_good (SetM.with_lt _ _) (fun q hq=>hr q (List.mem_cons_of_mem _ hq)) h
   have hp:=hr p (List.mem_cons_self ..)
   have hw:∀ q,SetM.has (SetM.withN (s:Nat) p:Nat) q=true ↔ SetM.has (s:Nat) q=true∨q=p:=by
    intro q
    rw [SetM.has_with,Bool.or_eq_true,Bool.and_eq_true,beq_iff_eq]
    constructor
    ·rintro (h | ⟨_,h⟩)
     ·exact .inl h
     ·exact .inr h
    ·rintro (h | h)
     ·exact .inl h
     ·refine .inr ⟨?_,h⟩
      obtain ⟨k,rfl⟩:=Int.eq_ofNat_of_zero_le hp.1
      rw [SetM.bit_in k (by omega),bne_iff_ne]
      exact Nat.ne_of_gt (Nat.pow_pos (by decide))
   refine ⟨?_,?_,?_,?_,a5,?_⟩
   ·intro q hq
    rcases List.mem_cons.1 hq with rfl | hq
    ·exact h1
    ·exact a1 q hq
   ·intro q hq
    rcases List.mem_cons.1 hq with rfl | hq
    ·exact hb'.2
    ·cases e:SetM.has (s:Nat) q with
     | false=>rfl
     | true=>have:=a2 q hq;rw [(hw q).2 (.inl e)] at this;cases this
   ·refine List.nodup_cons.2 ⟨fun hm=>?_,a3⟩
    have:=a2 p hm
    rw [(hw p).2 (.inr rfl)] at this
    cases this
   ·rw [a4,List.length_cons];omega
   ·intro q
    rw [a6,hw,List.mem_cons]
    constructor
    ·rintro ((h | h) | h)
     ·exact .inl h
     ·exact .inr (.inl h)
     ·exact .inr (.inr h)
    ·rintro (h | h | h)
     ·exact .inl (.inl h)
     ·exact .inl (.inr h)
     ·exact .inr h
theorem Lt.asymm {x y:Spt} (h:Lt x y) (k:Lt y x):False:=by unfold Lt at h k;omega
theorem where_first {T:Tab} {x y:Spt} (hw:where_ T x.p=some x) (hy:y ∈ spots T) (hp:y.p=x.p):¬ Lt y x:=by
 intro hl
 unfold where_ find at hw
 have hs:=spots_sorted T
 rw [List.find?_eq_some_iff_append] at hw
 obtain ⟨_,l1,l2,e,h1⟩:=hw
 rw [e] at hy hs
 rcases List.mem_append.1 hy with hy | hy
 ·have:=h1 y hy
  rw [hp] at this
  simp at this
 ·rcases List.mem_cons.1 hy with rfl | hy
  ·exact Lt.irrefl hl
  ·have:=(List.pairwise_append.1 hs).2.1
   exact Lt.asymm hl ((List.pairwise_cons.1 this).1 y hy)
theorem at_some {T:Tab} {x:Spt} (hx:x ∈ spots T):(at0 (where_ T x.p)=(x.g,x.k,x.i)) ↔ where_ T x.p=some x:=by
 constructor
 ·intro h
  cases hw:where_ T x.p with
  | none =>
   exfalso
   unfold where_ find at hw
   rw [List.find?_eq_none] at hw
   exact hw x hx (by simp)
  | some y =>
   rw [hw] at h
   unfold where_ find at hw
   have hp:y.p=x.p:=by simpa using List.find?_some hw
   obtain ⟨yg,yk,yi,yp⟩:=y
   obtain ⟨xg,xk,xi,xp⟩:=x
   simp only [at0,Prod.mk.injEq] at h
   obtain ⟨h1,h2,h3⟩:=h
   subst h1 h2 h3
   simp only at hp
   rw [hp]
 ·intro h;rw [h];rfl
theorem rows_at {T:Tab} {g:Nat} (hg:g < T.groups.length):rowsAt T g=T.groups[g]:=rows_in (List.getElem?_eq_getElem hg)
theorem spot_of {T:Tab} (h:InR T) {g k i:Nat} (hg:g < T.groups.length) (hk:k < 2) (hi:i < (ringOf (rowsAt T g) k).length):(⟨g,k,i,(ringOf (rowsAt T g) k).getD i 0⟩:Spt) ∈ spots T:=by
 have hm:=h.gr _ (List.getElem_mem hg)
 unfold groupMay rowMay at hm
 simp only [Bool.and_eq_true,allIn_iff] at hm
 rw [mem_spots]
 refine ⟨T.groups[g],List.getElem?_eq_getElem hg,?_⟩
 rw [rows_at hg] at hi ⊢
 simp only
 have he:(ringOf T.groups[g] k)[i]?=some ((ringOf T.groups[g] k).getD i 0):=by rw [List.getD_eq_getElem?_getD,List.getElem?_eq_getElem hi];rfl
 refine ⟨he,?_⟩
 have hmem:(ringOf T.groups[g] k).getD i 0 ∈ ringOf T.groups[g] k:=List.mem_of_getElem? he
 have h01:k=0∨k=1:=by omega
 rcases h01 with rfl | rfl
 ·have:=hm.1.2 _ hmem;omega
 ·have:=hm.2.2 _ hmem;omega
theorem rep_iff {T:Tab} (h:InR T) {g:Nat} (hg:g < T.groups.length):repeats T g=false ↔ ∀ x ∈ inG T g,where_ T x.p=some x:=by
 unfold repeats
 rw [Bool.or_eq_false_iff,ChkG.rep_row,ChkG.rep_row]
 constructor
 ·rintro ⟨h0,h1⟩ x hx
  obtain ⟨hs,hxg⟩:=mem_inG.1 hx
  rw [← at_some hs]
  obtain ⟨y,hy,hr,_⟩:=mem_spots.1 hs
  have hry:rowsAt T (x.g:Nat)=y:=rows_in hy
  rw [hxg] at hry
  have hlt:=(List.getElem?_eq_some_iff.1 hr).1
  have hk:x.k=0∨x.k=1:=by
   unfold ringOf at hr
   by_cases e0:x.k=0
   ·exact .inl e0
   ·by_cases e1:x.k=1
    ·exact .inr e1
    ·rw [if_neg e0,if_neg e1] at hr;simp at hr
  have hv:(ringOf y x.k).getD x.i 0=x.p:=by rw [List.getD_eq_getElem?_getD,hr];rfl
  rcases hk with e | e
  ·rw [e] at hlt hv
   have:=h0 x.i (by rw [hry];exact hlt)
   unfold ChkG.atOk at this
   rw [beq_iff_eq,hry,show y.1.getD x.i 0=x.p from hv] at this
   rw [this,hxg,e]
  ·rw [e] at hlt hv
   have:=h1 x.i (by rw [hry];exact hlt)
   unfold ChkG.atOk at this
   rw [beq_iff_eq,hry,show y.2.getD x.i 0=x.p from hv] at this
   rw [this,hxg,e]
 ·intro hall
  constructor
  ·intro i hi
   have hs:=spot_of h hg (k:=0) (by omega) hi
   have:=(at_some hs).2 (hall _ (mem_inG.2 ⟨hs,rfl⟩))
   unfold ChkG.atOk
   rw [beq_iff_eq]
   exact this
  ·intro i hi
   have hs:=spot_of h hg (k:=1) (by omega) hi
   have:=(at_some hs).2 (hall _ (mem_inG.2 ⟨hs,rfl⟩))
   unfold ChkG.atOk
   rw [beq_iff_eq]
   exact this
theorem inj_of {A:List Spt}:(A.map Spt.p).Nodup→∀ {x y:Spt},x ∈ A→y ∈ A→x.p=y.p→x=y:=by
 induction A with
 | nil=>intro _ x y hx;cases hx
 | cons a A ih =>
  intro hn x y hx hy hp
  rw [List.map_cons,List.nodup_cons] at hn
  rcases List.mem_cons.1 hx with hx | hx
  ·rcases List.mem_cons.1 hy with hy | hy
   ·rw [hx,hy]
   ·exact absurd (List.mem_map.2 ⟨y,hy,by rw [← hp,hx]⟩) hn.1
  ·rcases List.mem_cons.1 hy with hy | hy
   ·exact absurd (List.mem_map.2 ⟨x,hx,by rw [hp,hy]⟩) hn.1
   ·exact ih hn.2 hx hy hp
theorem first_iff {T:Tab} (g:Nat):(∀ x ∈ inG T g,where_ T x.p=some x) ↔ (phG T g).Nodup∧∀ p ∈ phG T g,SetM.has (placed T g:Nat) p=false:=by
 constructor
 ·intro h
  constructor
  ·unfold phG List.Nodup
   rw [List.pairwise_map]
   have hs:(inG T g).Pairwise Lt:=(spots_sorted T).sublist List.filter_sublist
   refine List.Pairwise.imp_of_mem (fun {y x} hy hx hl e=>?_) hs
   exact where_first (h x hx) (mem_inG.1 hy).1 e hl
  ·intro p hp
   obtain ⟨x,hx,rfl⟩:=List.mem_map.1 hp
   cases e:SetM.has (placed T g:Nat) x.p with
   | false=>rfl
   | true =>
    exfalso
    obtain ⟨y,h1,h2,h3⟩:=(has_placed g).1 e
    exact where_first (h x hx) h1 h3 (.inl (by rw [(mem_inG.1 hx).2];exact h2))
 ·rintro ⟨hn,hp⟩ x hx
  obtain ⟨hs,hxg⟩:=mem_inG.1 hx
  refine where_some hs rfl (fun y hy hl e=>?_)
  rcases hl with hl | ⟨hl,hl2⟩
  ·have:=hp x.p (List.mem_map.2 ⟨x,hx,rfl⟩)
   rw [(has_placed g).2 ⟨y,hy,by omega,e⟩] at this
   cases this
  ·have hyx:=inj_of hn (mem_inG.2 ⟨hy,by omega⟩) hx e
   subst hyx
   omega
theorem of_zero {l:List Int} (hr:∀ p ∈ l,0≤p∧p < 8):SetM.of l=0 ↔ l=[]:=by
 constructor
 ·intro h
  cases l with
  | nil=>rfl
  | cons p l =>
   exfalso
   have hp:=hr p (List.mem_cons_self ..)
   exact (low_ne (SetM.of_lt (p :: l))).2 ⟨p,has_of.2 ⟨hp.1,hp.2,List.mem_cons_self ..⟩⟩ h
 ·rintro rfl;rfl
theorem group_iff {T:Tab} (h:InR T) {g:Nat} (hg:g < T.groups.length):groupBad T g=false ↔
  phG T g ≠ []∧(∀ p ∈ phG T g,SetM.has (onS T:Nat) p=true)∧(phG T g).Nodup∧∀ p ∈ phG T g,SetM.has (placed T g:Nat) p=false:=by
 unfold groupBad
 rw [Bool.or_eq_false_iff,Bool.or_eq_false_iff,rep_iff h hg,first_iff,beq_eq_false_iff_ne,Bool.not_eq_false',allOn_iff (by have:=memb_lt T g;omega),← memb_eq,ne_eq,of_zero (fun p hp=>ph_range hp)]
 rw [memb_eq]
 simp only [has_memb]
theorem group_step {T:Tab} (h:InR T) {g:Nat} (hg:g < T.groups.length) :
  (groupBad T g=true→foldR (onS T:Nat) g (spots T) (0,placed T g)=none∨∃ s,foldR (onS T:Nat) g (spots T) (0,placed T g)=some (0,s)) ∧
  (groupBad T g=false→∃ n,foldR (onS T:Nat) g (spots T) (0,placed T g)=some (n,placed T (g+1))∧n ≠ 0):=by
 have hf:foldR (onS T:Nat) g (spots T) (0,placed T g)=ChkZ.go (onS T:Nat) (phG T g) (0,placed T g):=fold_go _ _ _ _ _
 rw [hf]
 have hi:=group_iff h hg
 constructor
 ·intro hb
  cases hgo:ChkZ.go (onS T:Nat) (phG T g) (0,placed T g) with
  | none=>exact .inl rfl
  | some st =>
   obtain ⟨n',s'⟩:=st
   obtain ⟨a1,a2,a3,a4,a5,a6⟩:=go_good (ChkH.placed_lt T g) (fun p hp=>ph_range hp) hgo
   have:phG T g=[]:=by
    refine Classical.byContradiction fun hne=>?_
    have:=hi.2 ⟨hne,a1,a3,a2⟩
    rw [this] at hb;cases hb
   rw [this] at a4
   exact .inr ⟨s',by rw [a4];rfl⟩
 ·intro hb
  obtain ⟨b1,b2,b3,b4⟩:=hi.1 hb
  cases hgo:ChkZ.go (onS T:Nat) (phG T g) (0,placed T g) with
  | none =>
   exfalso
   rcases go_bad hgo with ⟨p,h1,h2⟩ | ⟨p,h1,h2⟩ | h1
   ·rw [b2 p h1] at h2;cases h2
   ·rw [b4 p h1] at h2;cases h2
   ·exact h1 b3
  | some st =>
   obtain ⟨n',s'⟩:=st
   obtain ⟨a1,a2,a3,a4,a5,a6⟩:=go_good (ChkH.placed_lt T g) (fun p hp=>ph_range hp) hgo
   have e:s'=placed T (g+1):=by
    refine SetM.has_ext a5 (ChkH.placed_lt T (g+1)) fun q=>?_
    rw [Bool.eq_iff_iff,a6,show placed T (g+1)=placed T g ||| membS T g from rfl,has_or (ChkH.placed_lt T g) (memb_lt T g),has_memb]
   refine ⟨n',by rw [e],?_⟩
   rw [a4]
   have:=List.length_pos_iff.2 b1
   omega
def tailC (T:Tab):Option Int :=
 match (List.range T.groups.length).find? (groupBad T) with
 | some g=>some (g:Int)
 | none=>if bits .andNot .i64 (onS T:Nat) (placed T T.groups.length:Nat)=0 then none else some 0
theorem loop_eq {T:Tab} (h:InR T):∀ (m g:Nat),g+m=T.groups.length→(∀ j,j < g→groupBad T j=false)→loopR T m g (placed T g)=tailC T
 | 0,g,hg,hn=>by
  obtain rfl:g=T.groups.length:=by omega
  unfold tailC
  rw [range_miss hn]
  simp only [loopR]
  have hon:0≤((onS T:Nat):Int)∧((onS T:Nat):Int)≤255:=by have:onS T < 256:=SetM.of_lt _;omega
  have e:placed T T.groups.length=onS T ↔ bits .andNot .i64 (onS T:Nat) (placed T T.groups.length:Nat)=0:=by
   rw [andNot_zero hon (ChkH.placed_lt T _)]
   constructor
   ·intro e q hq;rw [e];exact hq
   ·intro hsub
    refine SetM.has_ext (ChkH.placed_lt T _) (SetM.of_lt _) fun q=>?_
    rw [Bool.eq_iff_iff]
    refine ⟨fun hq=>?_,hsub q⟩
    obtain ⟨y,h1,h2,rfl⟩:=(has_placed _).1 hq
    exact ((group_iff h h2).1 (hn y.g h2)).2.1 _ (List.mem_map.2 ⟨y,mem_inG.2 ⟨h1,rfl⟩,rfl⟩)
  by_cases he:placed T T.groups.length=onS T
  ·rw [if_pos he,if_pos (e.1 he)]
  ·rw [if_neg he,if_neg (fun h=>he (e.2 h))]
 | m+1,g,hg,hn=>by
  have hlt:g < T.groups.length:=by omega
  obtain ⟨s1,s2⟩:=group_step h hlt
  cases hb:groupBad T g with
  | true =>
   have ht:tailC T=some (g:Int):=by unfold tailC;rw [range_hit hlt hb hn]
   rw [ht]
   rcases s1 hb with h1 | ⟨s,h1⟩
   ·exact RkR.loop_none h1
   ·exact RkR.loop_zero h1
  | false =>
   obtain ⟨n,h1,h2⟩:=s2 hb
   rw [RkR.loop_next h1 h2]
   refine loop_eq h m (g+1) (by omega) (fun j hj=>?_)
   by_cases e:j=g
   ·subst e;exact hb
   ·exact hn j (by omega)
theorem rings_eq {T:Tab} (h:InR T):ringsC T=ringsR T:=by
 unfold ringsC ringsR
 by_cases h0:T.groups.length=0
 ·rw [if_pos h0,if_pos h0]
 ·rw [if_neg h0,if_neg h0,show (0:Nat)=placed T 0 from rfl]
  exact (loop_eq h T.groups.length 0 (by omega) (fun j hj=>by omega)).symm
theorem find_congr {f g:Int→Bool}:∀ {l:List Int},(∀ x ∈ l,f x=g x)→l.find? f=l.find? g
 | [],_=>rfl
 | x :: l,h=>by
  rw [List.find?_cons,List.find?_cons,h x (List.mem_cons_self ..),find_congr (fun y hy=>h y (List.mem_cons_of_mem _ hy))]
theorem idx_congr {α:Type} {f g:α→Bool} {l:List α} (h:∀ x ∈ l,f x=g x):idx f l=idx g l:=by
 have:l.findIdx? f=l.findIdx? g:=by
  induction l with
  | nil=>rfl
  | cons x l ih=>rw [List.findIdx?_cons,List.findIdx?_cons,h x (List.mem_cons_self ..),ih (fun y hy=>h y (List.mem_cons_of_mem _ hy))]
 unfold idx
 rw [this]
theorem chk_eq {T:Tab} (h8:T.phases.length=8) (hc:T.conflict.length=8):chkC T=chkR T:=by
 cases hm:tabMay T with
 | false=>unfold chkC chkR rulesC rulesR mayF;rw [hm];rfl
 | true =>
  have h:=in_ranges hm
  have hb:∀ p ∈ ons T,0≤p∧p < 8:=fun p hp=>SetM.list_bd _ _ hp
  unfold chkC chkR rulesC rulesR
  rw [rings_eq h,
   find_congr (f:=fun p=>phBad (phAt T p)) (g:=fun p=>!phOk (phAt T p)) (fun p hp=>by rw [ph_eq (ph_at h h8 (hb p hp).1 (hb p hp).2),Bool.not_not]),
   find_congr (f:=confBad T) (g:=fun p=>!confOk T p) (fun p hp=>by rw [conf_eq hp,Bool.not_not]),
   idx_congr (f:=detBad T) (g:=detR T) (fun d hd=>by
    have hd':=h.dt d hd
    unfold Det.may at hd'
    rw [Bool.and_eq_true,allIn_iff] at hd'
    have:=hd'.1 d.phase (by simp)
    exact det_eq h8 this.1 (by omega)),
   idx_congr (f:=railBad T) (g:=fun r=>!railOk T r) (fun r hr=>by rw [rail_eq h hc (h.rl r hr),Bool.not_not]),
   idx_congr (f:=busBad T) (g:=busR T) (fun b hb'=>bus_eq (h.bs b hb')),
   find_congr (f:=flashBad T) (g:=fun p=>!flashOk T p) (fun p hp=>by rw [flash_eq,Bool.not_not])]
end ChkZ
namespace Val
open Go Tab GenG GenT PlaceM PlanM OnS ChkM Clone May
open RefS (num num_range)
open ChkX (in_ranges InR)
open ChkZ
theorem gen_in (L:List Int):InR (genTab L):=in_ranges (gen_may L)
theorem gen_where (L:List Int) {x:Spt} (hx:x ∈ spots (genTab L)):where_ (genTab L) x.p=some x:=by
 have h:(where_ (genTab L) x.p).isSome=true:=by
  rw [where_isSome,decide_eq_true_eq]
  exact List.mem_map.2 ⟨x,hx,rfl⟩
 obtain ⟨y,hy⟩:=Option.isSome_iff_exists.1 h
 have h1:y ∈ spots (genTab L):=List.mem_of_find?_eq_some hy
 have h2:y.p=x.p:=by simpa using List.find?_some hy
 rw [hy,inj_of (gen_nodup L) h1 hx h2]
theorem gen_spot_on (L:List Int) {x:Spt} (hx:x ∈ spots (genTab L)):SetM.has (onS (genTab L):Nat) x.p=true:=by
 rw [gen_has_on,gen_where L hx];rfl
theorem gen_glen (L:List Int):(genTab L).groups.length=genG L:=by
 rw [genTab_groups];unfold genGs;rw [up_len]
theorem up_bound (L:List Int) (G:Nat) (hG:G≤3):∀ g,g≤G→(upTo L G g).2≤8+g - G∨g=0
 | 0,_=>.inr rfl
 | g+1,h=>by
  have h0:=up_bound L G hG g (by omega)
  have hz:(upTo L G 0).2=0:=rfl
  refine .inl ?_
  show (upTo L G g).2+n0 L G g (upTo L G g).2+n1 L G g (upTo L G g).2≤8+(g+1) - G
  unfold n1 n0 lim
  rcases h0 with h0 | rfl
  ·omega
  ·rw [hz];omega
theorem grp_some (L:List Int) (g:Nat) (h:g < genG L):0 < n0 L (genG L) g (upTo L (genG L) g).2+n1 L (genG L) g (upTo L (genG L) g).2:=by
 have hG:=(genG_range L).2
 have h0:=up_bound L (genG L) hG g (by omega)
 have hz:(upTo L (genG L) 0).2=0:=rfl
 have hp:(upTo L (genG L) g).2 < lim (genG L) g:=by
  unfold lim
  rcases h0 with h0 | rfl
  ·omega
  ·rw [hz];omega
 by_cases c:n0 L (genG L) g (upTo L (genG L) g).2=0
 ·have:0 < n1 L (genG L) g (upTo L (genG L) g).2:=by
   unfold n1
   rw [c]
   have hw:0 < want1 L g 0:=by
    have:=num_range L (2+2*g) 3 (by omega)
    unfold want1
    split
    ·omega
    ·rename_i hh
     have:¬ num L (2+2*g) 3=0:=fun e=>hh ⟨e,rfl⟩
     omega
   omega
  omega
 ·omega
theorem up_at (L:List Int) (G:Nat):∀ m g,g < m→(upTo L G m).1[g]?=some (grpD L G g (upTo L G g).2)
 | 0,g,h=>by omega
 | m+1,g,h=>by
  have e1:(upTo L G (m+1)).1=(upTo L G m).1++[grpD L G m (upTo L G m).2]:=rfl
  rw [e1]
  by_cases c:g=m
  ·subst c
   rw [List.getElem?_append_right (by rw [up_len];omega),up_len]
   simp
  ·rw [List.getElem?_append_left (by rw [up_len];omega)]
   exact up_at L G m g (by omega)
theorem gen_group (L:List Int) (g:Nat) (h:g < genG L):(genTab L).groups[g]?=some (grpD L (genG L) g (upTo L (genG L) g).2):=by
 rw [genTab_groups];exact up_at L _ _ g h
theorem group_has (L:List Int) (g:Nat) (h:g < genG L):phG (genTab L) g ≠ []:=by
 have hs:=grp_some L g h
 have hg:=gen_group L g h
 have h8:=up_le L (genG L) (genG_range L).2 (g+1) (by omega)
 have e2:(upTo L (genG L) (g+1)).2=(upTo L (genG L) g).2+n0 L (genG L) g (upTo L (genG L) g).2+n1 L (genG L) g (upTo L (genG L) g).2:=rfl
 rw [e2] at h8
 have key:∃ x:Spt,x ∈ spots (genTab L)∧x.g=g:=by
  by_cases c:0 < n0 L (genG L) g (upTo L (genG L) g).2
  ·refine ⟨⟨g,0,0,((upTo L (genG L) g).2+0:Nat)⟩,mem_spots.2 ⟨_,hg,?_,Int.natCast_nonneg _,?_⟩,rfl⟩
   ·exact seg_at c
   ·dsimp only;omega
  ·have hn1:0 < n1 L (genG L) g (upTo L (genG L) g).2:=by omega
   refine ⟨⟨g,1,0,((upTo L (genG L) g).2+n0 L (genG L) g (upTo L (genG L) g).2+0:Nat)⟩,mem_spots.2 ⟨_,hg,?_,Int.natCast_nonneg _,?_⟩,rfl⟩
   ·exact seg_at hn1
   ·dsimp only;omega
 obtain ⟨x,hx,hxg⟩:=key
 intro e
 have:x.p ∈ phG (genTab L) g:=List.mem_map.2 ⟨x,mem_inG.2 ⟨hx,hxg⟩,rfl⟩
 rw [e] at this
 simp at this
theorem group_ok (L:List Int) (g:Nat) (h:g < genG L):groupBad (genTab L) g=false:=by
 refine (group_iff (gen_in L) (by rw [gen_glen];exact h)).2 ⟨group_has L g h,fun p hp=>?_,?_⟩
 ·obtain ⟨x,hx,rfl⟩:=List.mem_map.1 hp
  exact gen_spot_on L (mem_inG.1 hx).1
 ·exact (first_iff g).1 (fun x hx=>gen_where L (mem_inG.1 hx).1)
theorem no_ring (L:List Int):ringsC (genTab L)=none:=by
 have hG:=genG_range L
 unfold ringsC
 rw [gen_glen,if_neg (by omega),List.find?_eq_none.2 (fun g hg=>by rw [group_ok L g (List.mem_range.1 hg)];simp)]
 dsimp only
 have hp:placed (genTab L) (genG L) < 256:=ChkH.placed_lt _ _
 rw [if_pos]
 have ho:onS (genTab L) < 256:=SetM.of_lt _
 refine (ChkX.andNot_zero (by omega) hp).2 (fun q hq=>?_)
 rw [has_placed]
 rw [gen_has_on] at hq
 obtain ⟨y,hy⟩:=Option.isSome_iff_exists.1 hq
 have h1:y ∈ spots (genTab L):=List.mem_of_find?_eq_some hy
 have h2:y.p=q:=by simpa using List.find?_some hy
 refine ⟨y,h1,?_,h2⟩
 obtain ⟨z,hz,_⟩:=mem_spots.1 h1
 have:=(List.getElem?_eq_some_iff.1 hz).1
 rw [gen_glen] at this
 exact this
end Val
namespace Val
open Go Tab GenG GenT PlaceM PlanM OnS ChkM Clone May
open RefS (num num_range)
open ChkX (has_bits and_ne low_in allOn_iff andNot_eq not_bit low_ne)
theorem has_or4 {a b q:Int} (hb:0≤b∧b≤255):SetM.has (bits .or .i64 a b) q=true ↔ SetM.has a q=true∨SetM.has b q=true:=by
 obtain ⟨m,rfl⟩:=Int.eq_ofNat_of_zero_le hb.1
 have hm:m < 256:=by omega
 rw [has_bits,has_bits,has_bits,SetM.or_low a m hm,Nat.testBit_or,SetM.low_nat m hm]
 simp only [Bool.or_eq_true]
 constructor
 ·rintro ⟨h1,h2,h3 | h3⟩
  ·exact .inl ⟨h1,h2,h3⟩
  ·exact .inr ⟨h1,h2,h3⟩
 ·rintro (⟨h1,h2,h3⟩ | ⟨h1,h2,h3⟩)
  ·exact ⟨h1,h2,.inl h3⟩
  ·exact ⟨h1,h2,.inr h3⟩
theorem has_on_gen {L:List Int} {q:Int}:SetM.has (onS (genTab L):Nat) q=true ↔ 0≤q∧q < (genN L:Int):=by
 rw [← ChkX.mem_ons];exact mem_ons
structure Two (L:List Int) (s:Int):Prop where
 rg:0≤s∧s≤255
 on:∀ x,SetM.has s x=true→0≤x∧x < (genN L:Int)
 bes:∀ x y,SetM.has s x=true→SetM.has s y=true→x=y∨beside (genTab L) x y=true
theorem has_withS {T:Tab} {p q x:Int} (hp:0≤p∧p < 8) (hq:0≤q∧q < 8):SetM.has (GenW.withS T p q) x=true ↔ x=p∨(beside T p q=true∧x=q):=by
 have h1:SetM.has ((SetM.of [p]:Nat):Int) x=true ↔ x=p:=by
  rw [ChkX.has_of]
  simp only [List.mem_singleton]
  constructor
  ·rintro ⟨_,_,h⟩;exact h
  ·rintro rfl;exact ⟨hp.1,hp.2,rfl⟩
 unfold GenW.withS
 by_cases hb:beside T p q=true
 ·rw [if_pos hb,SetM.has_with,Bool.or_eq_true,h1,Bool.and_eq_true]
  obtain ⟨k,rfl⟩:=Int.eq_ofNat_of_zero_le hq.1
  rw [bit_ne k (by omega),beq_iff_eq]
  simp [hb]
 ·rw [if_neg hb,h1]
  simp [hb]
theorem two_withS (L:List Int) {p q:Int} (hp:0≤p∧p < (genN L:Int)) (hq:0≤q∧q < (genN L:Int)):Two L (GenW.withS (tab1 L) p q):=by
 have h8:=genN_range L
 have hh:=fun x=>has_withS (T:=tab1 L) (p:=p) (q:=q) (x:=x) ⟨hp.1,by omega⟩ ⟨hq.1,by omega⟩
 obtain ⟨m,hm,hm2⟩:=withS_nat (tab1 L) p q
 have hs:∀ a b,beside (genTab L) a b=beside (tab1 L) a b:=fun a b=>beside_same (U:=tab1 L) (genTab_groups L) a b
 refine ⟨by rw [hm];omega,fun x hx=>?_,fun x y hx hy=>?_⟩
 ·rcases (hh x).1 hx with rfl | ⟨_,rfl⟩
  ·exact hp
  ·exact hq
 ·rcases (hh x).1 hx with rfl | ⟨h1,rfl⟩ <;> rcases (hh y).1 hy with h2 | ⟨h3,h2⟩ <;> subst h2
  ·exact .inl rfl
  ·exact .inr (by rw [hs];exact h3)
  ·exact .inr (by rw [hs,beside_symm];exact h1)
  ·exact .inl rfl
theorem two_zero (L:List Int):Two L 0:=⟨by omega,fun x hx=>(by rw [has_zero] at hx;cases hx),fun x y hx=>(by rw [has_zero] at hx;cases hx)⟩
theorem Two.clash {L:List Int} {s:Int} (h:Two L s):clashC (genTab L) s=false:=by
 have h8:=genN_range L
 unfold clashC
 rw [List.any_eq_false]
 intro p hp hne
 rw [bne_iff_ne,and_ne h.rg] at hne
 obtain ⟨q,h1,h2⟩:=hne
 have hps:=(SetM.mem_list _ _).1 hp
 have hr:=h.on p hps
 obtain ⟨_,hpq,hb⟩:=cf_at L ⟨hr.1,by omega⟩ h1
 rcases h.bes p q hps h2 with e | e
 ·exact hpq e
 ·rw [hb] at e;cases e
theorem Two.abreast {L:List Int} {s:Int} (h:Two L s):abreast (genTab L) s=true:=by
 unfold ChkM.abreast
 rw [List.all_eq_true]
 intro p hp
 rw [List.all_eq_true]
 intro q hq
 have hps:=(SetM.mem_list _ _).1 hp
 have hqs:=(SetM.mem_list _ _).1 hq
 rw [SetM.has_without,Bool.and_eq_true,Bool.not_eq_true',beq_eq_false_iff_ne] at hqs
 rcases h.bes p q hps hqs.1 with e | e
 ·exact absurd e.symm hqs.2
 ·exact e
theorem withS_ne {T:Tab} {p q:Int} (hp:0≤p∧p < 8) (hq:0≤q∧q < 8):(GenW.withS T p q == 0)=false:=by
 rw [beq_eq_false_iff_ne]
 intro e
 have:=(has_withS (T:=T) (x:=p) hp hq).2 (.inl rfl)
 rw [e,has_zero] at this
 cases this
theorem has_bars {x q:Int} {d:Int} {n:Nat} (h8:n≤8) (hd:∃ m:Nat,d=(m:Int)∧m < 256) (h:SetM.has (GenR.barsV x d n) q=true):(0≤q∧q < (n:Int))∧SetM.has d q=false:=by
 obtain ⟨m,rfl,hm⟩:=hd
 have hme:=mask_eq ⟨n,by omega⟩
 dsimp only at hme
 have hb:2 ^ n - 1 < 256:=by
  have:2 ^ n≤2 ^ 8:=Nat.pow_le_pow_right (by omega) h8
  omega
 have hlt:SetM.low x &&& (2 ^ n - 1) < 256:=Nat.lt_of_le_of_lt Nat.and_le_right hb
 unfold GenR.barsV at h
 rw [hme,SetM.and_low x _ hb,andNot_eq (by omega) hm] at h
 have hlt2:SetM.low ((SetM.low x &&& (2 ^ n - 1):Nat):Int) &&& (255 - m) < 256:=Nat.lt_of_le_of_lt Nat.and_le_left (SetM.low_lt _)
 obtain ⟨h0,hq8,ht⟩:=has_bits.1 h
 rw [SetM.low_nat _ hlt2,SetM.low_nat _ hlt,Nat.testBit_and,Nat.testBit_and,Nat.testBit_two_pow_sub_one,not_bit hm (by omega)] at ht
 simp only [Bool.and_eq_true,decide_eq_true_eq,Bool.not_eq_true'] at ht
 refine ⟨⟨h0,by omega⟩,?_⟩
 cases hc:SetM.has (m:Int) q with
 | false=>rfl
 | true =>
  have:=(has_bits.1 hc).2.2
  rw [SetM.low_nat _ hm,ht.2] at this
  cases this
theorem rail_good (L:List Int) (i:Int):railBad (genTab L) (GenR.genRl (tab1 L) L i (genN L))=false:=by
 have h8:=genN_range L
 have h0:=genN_pos L
 have r0:=num_range L i (genN L) (by omega)
 have r1:=num_range L (i+1) (genN L) (by omega)
 have r2:=num_range L (i+2) (genN L) (by omega)
 have r3:=num_range L (i+3) (genN L) (by omega)
 have r4:=num_range L (i+4) ((genN L:Int)+1) (by omega)
 have r5:=num_range L (i+5) (genN L) (by omega)
 have r6:=num_range L (i+6) 10 (by omega)
 have r8:=num_range L (i+8) 4 (by omega)
 have r9:=num_range L (i+9) 6 (by omega)
 have rc:=num_range L (i+11) 15 (by omega)
 have rd:=num_range L (i+13) 30 (by omega)
 have rl:=GenR.lim_range (num L (i+14) 3)
 have TD:=two_withS L r0 r1
 have TE:=two_withS L r2 r3
 have ND:=withS_ne (T:=tab1 L) (p:=num L i (genN L)) (q:=num L (i+1) (genN L)) ⟨r0.1,by omega⟩ ⟨r1.1,by omega⟩
 have NE:=withS_ne (T:=tab1 L) (p:=num L (i+2) (genN L)) (q:=num L (i+3) (genN L)) ⟨r2.1,by omega⟩ ⟨r3.1,by omega⟩
 have TC:Two L (if num L (i+4) ((genN L:Int)+1) < genN L then GenW.withS (tab1 L) (num L (i+4) ((genN L:Int)+1)) (num L (i+5) (genN L)) else 0):=by
  split
  ·exact two_withS L ⟨r4.1,by omega⟩ r5
  ·exact two_zero L
 have HC:((if num L (i+4) ((genN L:Int)+1) < genN L then 1+num L (i+6) 10 else 0) == 0)=((if num L (i+4) ((genN L:Int)+1) < genN L then GenW.withS (tab1 L) (num L (i+4) ((genN L:Int)+1)) (num L (i+5) (genN L)) else 0) == 0):=by
  split
  ·rw [withS_ne ⟨r4.1,by omega⟩ ⟨r5.1,by omega⟩,beq_eq_false_iff_ne]
   omega
  ·rfl
 have wd:=withS_nat (tab1 L) (num L i (genN L)) (num L (i+1) (genN L))
 have B:=bars_range (num L (i+7) 256) _ h8 wd
 have BH:=fun q=>has_bars (x:=num L (i+7) 256) (q:=q) h8 wd
 unfold GenR.genRl
 dsimp only
 generalize GenR.barsV (num L (i+7) 256) (GenW.withS (tab1 L) (num L i (genN L)) (num L (i+1) (genN L))) (genN L)=bars at *
 generalize GenW.withS (tab1 L) (num L i (genN L)) (num L (i+1) (genN L))=dwell at *
 generalize GenW.withS (tab1 L) (num L (i+2) (genN L)) (num L (i+3) (genN L))=exit at *
 generalize (if num L (i+4) ((genN L:Int)+1) < genN L then GenW.withS (tab1 L) (num L (i+4) ((genN L:Int)+1)) (num L (i+5) (genN L)) else 0)=clear at *
 generalize (if num L (i+4) ((genN L:Int)+1) < genN L then 1+num L (i+6) 10 else 0)=hold at *
 unfold railBad
 have A:∀ x:Rl,x.bars=bars→x.clear=clear→x.dwell=dwell→x.exit=exit→allOn (genTab L) (or4 x)=true:=by
  rintro x rfl rfl rfl rfl
  have ho:0≤or4 x∧or4 x≤255:=ChkX.or_in (ChkX.or_in (ChkX.or_in B TC.rg) TD.rg) TE.rg
  refine (allOn_iff ho).2 (fun q hq=>has_on_gen.2 ?_)
  unfold or4 at hq
  rw [has_or4 TE.rg,has_or4 TD.rg,has_or4 TC.rg] at hq
  rcases hq with ((hq | hq) | hq) | hq
  ·exact (BH q hq).1
  ·exact TC.on q hq
  ·exact TD.on q hq
  ·exact TE.on q hq
 rw [A _ rfl rfl rfl rfl]
 dsimp only
 have DB:bits .and .i64 dwell bars=0:=by
  refine Classical.byContradiction fun hn=>?_
  obtain ⟨q,h1,h2⟩:=(and_ne B).1 hn
  rw [(BH q h2).2] at h1
  cases h1
 rw [ND,NE,DB,TC.clash,TD.clash,TE.clash,TE.abreast]
 unfold timesBad
 dsimp only
 rw [HC]
 simp only [Bool.not_true,Bool.false_or,bne_self_eq_false,Bool.or_eq_false_iff,decide_eq_false_iff_not,Bool.and_eq_false_imp,decide_eq_true_eq]
 refine ⟨by omega,by omega,?_,by omega⟩
 intro h
 by_cases c:num L (i+12) 3=1
 ·rw [if_pos c];omega
 ·rw [if_neg c] at h;omega
theorem no_rail (L:List Int):idx (railBad (genTab L)) (genTab L).rails=none:=by
 refine idx_none fun x hx=>?_
 rw [genTab_rails] at hx
 obtain ⟨i,rfl⟩:=mem_down _ hx
 exact rail_good L _
theorem gen_chk (L:List Int):chkC (genTab L)=(0,0):=by
 unfold chkC rulesC
 have hm:mayF (genTab L)=none:=by unfold mayF;rw [gen_may];rfl
 rw [hm,no_phase,no_ring,no_conf,no_det,no_rail,no_bus,no_flash]
 rfl
end Val
namespace GenT
open Go Tab GenG PlaceM OnS Clone
open RefS (num num_range)
open May MayF
theorem allIn_iff {m:Int} {l:List Int}:allIn m l=true ↔ ∀ x ∈ l,0≤x∧x≤m:=by
 unfold allIn inB
 rw [List.all_eq_true]
 constructor
 ·intro h x hx;have:=h x hx;simpa using this
 ·intro h x hx;have:=h x hx;simpa using this
theorem listMay_iff {α:Type} {m:Int} {f:α→Bool} {l:List α}:listMay m f l=true ↔ (l.length:Int)≤m∧∀ x ∈ l,f x=true:=by
 unfold listMay
 rw [Bool.and_eq_true,decide_eq_true_eq,List.all_eq_true]
theorem upd_mem {α:Type} {f:Nat→α} {z:α} {n:Nat} {x:α} (h:x ∈ upd f z n):x=z∨∃ i,i < n∧i < 8∧x=f i:=by
 unfold upd at h
 rw [List.mem_map] at h
 obtain ⟨i,hi,rfl⟩:=h
 by_cases e:i < n
 ·rw [if_pos e];exact .inr ⟨i,e,List.mem_range.1 hi,rfl⟩
 ·rw [if_neg e];exact .inl rfl
theorem down_mem {α:Type} {f:Nat→α} {k:Nat} {x:α}:∀ {j:Nat},j≤k→x ∈ down f k j→∃ i,0 < i∧i≤k∧x=f i
 | 0,_,h=>by simp [down] at h
 | j+1,hj,h=>by
  rw [down] at h
  rcases List.mem_append.1 h with h | h
  ·exact down_mem (by omega) h
  ·obtain rfl:x=f (k - j):=by simpa using h
   exact ⟨k - j,by omega,by omega,rfl⟩
theorem genPh_may (L:List Int) (i:Int):Ph.may (GenP.genPh L i)=true:=by
 have a0:=num_range L i 12 (by omega)
 have a1:=num_range L (i+1) 9 (by omega)
 have a2:=num_range L (i+2) 6 (by omega)
 have a3:=num_range L (i+3) 4 (by omega)
 have a4:=num_range L (i+4) 5 (by omega)
 have a5:=num_range L (i+5) 25 (by omega)
 have a6:=num_range L (i+6) 15 (by omega)
 have a8:=num_range L (i+8) 10 (by omega)
 have b8:=num_range L (i+8) 97 (by omega)
 have a9:=num_range L (i+9) 7 (by omega)
 unfold Ph.may
 rw [Bool.and_eq_true,allIn_iff,allIn_iff]
 constructor
 ·intro x hx
  simp only [GenP.genPh,List.mem_cons,List.not_mem_nil,or_false] at hx
  rcases hx with rfl | rfl | rfl | rfl | rfl | rfl | rfl | rfl | rfl
  ·omega
  ·omega
  ·omega
  ·omega
  ·omega
  ·omega
  ·omega
  ·split <;> omega
  ·split <;> omega
 ·intro x hx
  simp only [GenP.genPh,List.mem_cons,List.not_mem_nil,or_false] at hx
  subst hx
  unfold GenP.recall
  split <;> omega
theorem zPh_may:Ph.may zPh=true:=by decide
theorem seg_may {p m:Nat} (h:p+m≤8) (h2:m≤8):rowMay (seg p m)=true:=by
 unfold rowMay
 rw [Bool.and_eq_true,decide_eq_true_eq,allIn_iff,seg_len]
 exact ⟨h2,fun x hx=>by have:=mem_seg.1 hx;omega⟩
theorem up_may (L:List Int) (G:Nat) (hG:G≤3):∀ g,g≤G→∀ x ∈ (upTo L G g).1,groupMay x=true
 | 0,_=>fun x h=>by simp [upTo] at h
 | g+1,hg=>fun x h=>by
  have h8:=up_le L G hG (g+1) hg
  have e2:(upTo L G (g+1)).2=(upTo L G g).2+n0 L G g (upTo L G g).2+n1 L G g (upTo L G g).2:=rfl
  rw [e2] at h8
  rw [upTo] at h
  rcases List.mem_append.1 h with h | h
  ·exact up_may L G hG g (by omega) x h
  ·obtain rfl:x=grpD L G g (upTo L G g).2:=by simpa using h
   unfold groupMay grpD
   rw [seg_may (by omega) (by omega),seg_may (by omega) (by omega)];rfl
theorem set_in {l:List Int} {m x:Int} {i:Nat} (h:∀ y ∈ l,0≤y∧y≤m) (hx:0≤x∧x≤m):∀ y ∈ l.set i x,0≤y∧y≤m:=fun y hy=>by
 rcases List.mem_or_eq_of_mem_set hy with hy | rfl
 ·exact h y hy
 ·exact hx
theorem with_in (s p:Int):0≤((SetM.withN s p:Nat):Int)∧((SetM.withN s p:Nat):Int)≤255:=by have:=SetM.with_lt s p;omega
theorem cset_in {L:List Int} {T:Tab} {p q:Nat} {C:List Int} (h:∀ y ∈ C,0≤y∧y≤255):∀ y ∈ cset L T p q C,0≤y∧y≤255:=by
 unfold cset
 split
 ·exact set_in (set_in h (with_in _ _)) (with_in _ _)
 ·exact h
theorem crow_in {L:List Int} {T:Tab} {p:Nat} {C:List Int} (h:∀ y ∈ C,0≤y∧y≤255):∀ q,∀ y ∈ crow L T p C q,0≤y∧y≤255
 | 0=>h
 | q+1=>cset_in (crow_in h q)
theorem call_in {L:List Int} {T:Tab} {C:List Int} (h:∀ y ∈ C,0≤y∧y≤255):∀ p,∀ y ∈ call L T C p,0≤y∧y≤255
 | 0=>h
 | p+1=>crow_in (call_in h p) p
theorem lev_ok:∀ x,x < 4→∀ y,y < 3→level (GenD.onTab (x:Nat))=true∧level (GenD.mulTab (x:Nat) (y:Nat))=true:=by decide +kernel
theorem span_ok:∀ k,k < 6→span (Fl.ofB k)=true:=by decide +kernel
theorem genDet_may (L:List Int) (i:Int) (n:Nat) (n0:0 < n) (n8:n≤8):Det.may (GenD.genDet L i n)=true:=by
 have a0:=num_range L i n (by omega)
 obtain ⟨x1,h1⟩:=Int.eq_ofNat_of_zero_le (num_range L (i+1) 4 (by omega)).1
 obtain ⟨x2,h2⟩:=Int.eq_ofNat_of_zero_le (num_range L (i+2) 3 (by omega)).1
 have b1:=(num_range L (i+1) 4 (by omega)).2
 have b2:=(num_range L (i+2) 3 (by omega)).2
 have a3:=num_range L (i+3) 4 (by omega)
 have a4:=num_range L (i+4) 6 (by omega)
 have a6:=num_range L (i+6) 60 (by omega)
 have a7:=num_range L (i+7) 300 (by omega)
 have e:=lev_ok x1 (by omega) x2 (by omega)
 unfold Det.may GenD.genDet
 simp only [Bool.and_eq_true,allIn_iff]
 refine ⟨?_,?_,?_,?_,?_,?_⟩
 ·intro x hx;simp at hx;omega
 ·rw [h1];exact e.1
 ·rw [h1,h2];exact e.2
 ·exact span_ok _ (by omega)
 ·exact span_ok _ (by omega)
 ·intro x hx
  simp only [List.mem_cons,List.not_mem_nil,or_false] at hx
  rcases hx with rfl | rfl
  ·split <;> omega
  ·split <;> omega
theorem and_in (x m:Int) (h:0≤x∧x≤255):0≤bits .and .i64 x m∧bits .and .i64 x m≤255:=by
 obtain ⟨k,rfl⟩:=Int.eq_ofNat_of_zero_le h.1
 have e:bits .and .i64 (k:Int) m=IntKind.i64.wrap (((BitVec.ofInt 64 (k:Int) &&& BitVec.ofInt 64 m).toNat:Nat):Int):=rfl
 have hk:(BitVec.ofInt 64 (k:Int)).toNat=k:=by rw [BitVec.ofInt_natCast,BitVec.toNat_ofNat];omega
 have hl:(BitVec.ofInt 64 (k:Int) &&& BitVec.ofInt 64 m).toNat≤k:=by rw [BitVec.toNat_and,hk];exact Nat.and_le_left
 rw [e,IntKind.wrap_i64]
 omega
theorem andNot_in (x m:Int) (h:0≤x∧x≤255):0≤bits .andNot .i64 x m∧bits .andNot .i64 x m≤255:=by
 obtain ⟨k,rfl⟩:=Int.eq_ofNat_of_zero_le h.1
 have e:bits .andNot .i64 (k:Int) m=IntKind.i64.wrap (((BitVec.ofInt 64 (k:Int) &&& ~~~ BitVec.ofInt 64 m).toNat:Nat):Int):=rfl
 have hk:(BitVec.ofInt 64 (k:Int)).toNat=k:=by rw [BitVec.ofInt_natCast,BitVec.toNat_ofNat];omega
 have hl:(BitVec.ofInt 64 (k:Int) &&& ~~~ BitVec.ofInt 64 m).toNat≤k:=by rw [BitVec.toNat_and,hk];exact Nat.and_le_left
 rw [e,IntKind.wrap_i64]
 omega
theorem withS_in (T:Tab) (p q:Int):0≤GenW.withS T p q∧GenW.withS T p q≤255:=by
 unfold GenW.withS
 split
 ·exact with_in _ _
 ·have:=SetM.of_lt [p];omega
theorem genRl_may (T:Tab) (L:List Int) (i:Int) (n:Nat) (n0:0 < n) (n8:n≤8):Rl.may (GenR.genRl T L i n)=true:=by
 have a6:=num_range L (i+6) 10 (by omega)
 have a7:=num_range L (i+7) 256 (by omega)
 have a8:=num_range L (i+8) 4 (by omega)
 have a9:=num_range L (i+9) 6 (by omega)
 have aa:=num_range L (i+10) 6 (by omega)
 have ab:=num_range L (i+11) 15 (by omega)
 have ad:=num_range L (i+13) 30 (by omega)
 have al:=GenR.lim_range (num L (i+14) 3)
 unfold Rl.may
 simp only [Bool.and_eq_true,allIn_iff]
 refine ⟨?_,?_,?_⟩
 ·intro x hx
  simp only [GenR.genRl,List.mem_cons,List.not_mem_nil,or_false] at hx
  rcases hx with rfl | rfl | rfl | rfl
  ·exact andNot_in _ _ (and_in _ _ (by omega))
  ·split
   ·exact withS_in _ _ _
   ·omega
  ·exact withS_in _ _ _
  ·exact withS_in _ _ _
 ·intro x hx
  simp only [GenR.genRl,List.mem_cons,List.not_mem_nil,or_false] at hx
  rcases hx with rfl | rfl | rfl | rfl | rfl | rfl
  ·omega
  ·omega
  ·omega
  ·split <;> omega
  ·omega
  ·split <;> omega
 ·intro x hx
  simp only [GenR.genRl,List.mem_cons,List.not_mem_nil,or_false] at hx
  subst hx
  omega
theorem genBs_may (L:List Int) (i n:Nat):Bs.may (genBs L i n)=true:=by
 have a0:=num_range L (330+2*i) 256 (by omega)
 have a1:=num_range L (331+2*i) 30 (by omega)
 have b:=and_in (num L (330+2*i) 256) (GenR.maskV n) (by omega)
 unfold Bs.may
 simp only [Bool.and_eq_true,allIn_iff]
 constructor
 ·intro x hx
  simp only [genBs,List.mem_cons,List.not_mem_nil,or_false] at hx
  subst hx
  omega
 ·intro x hx
  simp only [genBs,List.mem_cons,List.not_mem_nil,or_false] at hx
  subst hx
  omega
theorem sums_in (l:List Int):0≤RefC.sums l∧RefC.sums l≤2147483647:=by
 unfold RefC.sums
 have h:∀ (l:List Int) (a:Int),0≤a∧a≤2147483647→0≤l.foldl RefC.add a∧l.foldl RefC.add a≤2147483647:=by
  intro l
  induction l with
  | nil=>intro a h;exact h
  | cons x l ih=>intro a _;exact ih _ ⟨RefC.cap_lo _,RefC.cap_hi _⟩
 exact h l 0 (by omega)
theorem wait_in (T:Tab) (p:Int):0≤WaitS.waitS T p∧WaitS.waitS T p≤2147483647:=by
 have hf:0≤FreeS.freeS T p∧FreeS.freeS T p≤2147483647:=by
  unfold FreeS.freeS
  split
  ·split
   ·exact sums_in _
   ·omega
  ·omega
 unfold WaitS.waitS
 split
 ·exact hf
 ·exact sums_in _
theorem maxW_in (T:Tab):∀ p,0≤maxW T p∧maxW T p≤2147483647
 | 0=>by show (0:Int)≤0∧(0:Int)≤2147483647;omega
 | p+1=>by
  have h1:=maxW_in T p
  have h2:=wait_in T p
  show 0≤max (maxW T p) (WaitS.waitS T p)∧max (maxW T p) (WaitS.waitS T p)≤2147483647
  omega
theorem gen_may (L:List Int):tabMay (genTab L)=true:=by
 obtain ⟨g1,g3⟩:=genG_range L
 have n8:=genN_range L
 have n1:=genN_pos L
 have d9:=num_range L 175 9 (by omega)
 have r4:=num_range L 176 4 (by omega)
 have b3:=num_range L 177 3 (by omega)
 have hD:(genTab L).dets=down (fun i:Nat=>GenD.genDet L (180+8*i) (genN L)) (num L 175 9).toNat (num L 175 9).toNat:=by unfold genTab;split <;> rfl
 have hR:(genTab L).rails=down (fun i:Nat=>GenR.genRl (tab1 L) L (260+16*i) (genN L)) (num L 176 4 % 3).toNat (num L 176 4 % 3).toNat:=by unfold genTab;split <;> rfl
 have hB:(genTab L).buses=down (fun i:Nat=>genBs L i (genN L)) (num L 177 3).toNat (num L 177 3).toNat:=by unfold genTab;split <;> rfl
 have hC:(genTab L).conflict=call L (tab1 L) [0,0,0,0,0,0,0,0] (genN L):=by
  have h:(tabF L).conflict=call L (tab1 L) [0,0,0,0,0,0,0,0] (genN L):=by unfold tabF;split <;> rfl
  unfold genTab;split <;> exact h
 have hF:∀ y ∈ (genTab L).flash,0≤y∧y≤2:=by
  have hu:∀ y ∈ upd (fun _=>(1:Int)) 0 (genN L),0≤y∧y≤2:=fun y hy=>by rcases upd_mem hy with rfl | ⟨i,_,_,rfl⟩ <;> omega
  have h:∀ y ∈ (tabF L).flash,0≤y∧y≤2:=by
   unfold tabF;split
   ·exact set_in hu (by omega)
   ·exact hu
  unfold genTab;split <;> exact h
 have hS:∀ y ∈ [(genTab L).extend,(genTab L).budget,(genTab L).start,(genTab L).revert,(genTab L).least],0≤y∧y≤9999:=by
  have h:∀ y ∈ [num L 178 12,num L 179 40,num L 180 8,num L 181 8,num L 182 12],0≤y∧y≤9999:=by
   have a:=num_range L 178 12 (by omega)
   have b:=num_range L 179 40 (by omega)
   have c:=num_range L 180 8 (by omega)
   have d:=num_range L 181 8 (by omega)
   have e:=num_range L 182 12 (by omega)
   intro y hy
   simp only [List.mem_cons,List.not_mem_nil,or_false] at hy
   rcases hy with rfl | rfl | rfl | rfl | rfl <;> omega
  unfold genTab;split <;> exact h
 have hW:∀ y ∈ [(genTab L).window,(genTab L).share],0≤y∧y≤2147483647:=by
  have s:=num_range L 183 4 (by omega)
  have w0:(tabS L).window=0:=by have:=congrArg Tab.window (tabS_window L);exact this.symm
  have w:=maxW_in (tabS L) (genN L)
  unfold genTab;split
  ·intro y hy
   simp only [List.mem_cons,List.not_mem_nil,or_false] at hy
   rcases hy with rfl | rfl
   ·rw [w0];omega
   ·show 0≤num L 183 4∧num L 183 4≤2147483647;omega
  ·intro y hy
   simp only [List.mem_cons,List.not_mem_nil,or_false] at hy
   rcases hy with rfl | rfl
   ·exact w
   ·show 0≤num L 183 4∧num L 183 4≤2147483647;omega
 unfold tabMay
 simp only [Bool.and_eq_true,listMay_iff,allIn_iff]
 refine ⟨⟨?_,?_⟩,⟨?_,?_⟩,?_,⟨?_,?_⟩,⟨?_,?_⟩,⟨?_,?_⟩,hS,hF,hW⟩
 ·rw [genTab_phases,upd_len];decide
 ·rw [genTab_phases]
  intro x hx
  rcases upd_mem hx with rfl | ⟨i,_,_,rfl⟩
  ·exact zPh_may
  ·exact genPh_may _ _
 ·rw [genTab_groups,genGs_len];omega
 ·rw [genTab_groups];exact up_may L (genG L) g3 _ (Nat.le_refl _)
 ·rw [hC];exact call_in (fun y hy=>by simp at hy;omega) _
 ·rw [hD,down_len];omega
 ·rw [hD]
  intro x hx
  obtain ⟨i,_,_,rfl⟩:=down_mem (Nat.le_refl _) hx
  exact genDet_may _ _ _ (by omega) n8
 ·rw [hR,down_len];omega
 ·rw [hR]
  intro x hx
  obtain ⟨i,_,_,rfl⟩:=down_mem (Nat.le_refl _) hx
  exact genRl_may _ _ _ _ (by omega) n8
 ·rw [hB,down_len];omega
 ·rw [hB]
  intro x hx
  obtain ⟨i,_,_,rfl⟩:=down_mem (Nat.le_refl _) hx
  exact genBs_may _ _ _
end GenT
end Go.Proofs.YtjolhoilcibdfaaGreat
