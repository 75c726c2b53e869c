/- 17 texts in one file, in build order. -/
import Derived.Test.YtjdeemmaaiecnaaGreatRows
import Derived.Test.YtjdeemmaaiecnaaGreatPart03
import Derived.Test.YtjdeemmaaiecnaaGreatPart02
import Derived.WalkKit
import Derived.ProofKit
import Derived.IntWalk
import Derived.Lib.Hide
import Derived.LoopTactic
import Derived.Below
import Derived.BigQuiet
import Derived.Deep.QuietTactic
import Derived.Deep.WholeRow
import Derived.Laws.BitsAllLaws
import Derived.Lib.SlBytesConst
import Derived.OpenShut
import Derived.Deep.Cut
import Derived.Test.YtjdeemmaaiecnaaGreatPart01
import Derived.Deep.RegionHeld3
import Derived.Defers
import Derived.Recover
import Derived.Laws.Pointers
import Derived.Laws.StructEq
import Derived.Orders
import Derived.ChangeArms
import Derived.DeepKeys
import Derived.OwnWalk
import Derived.Laws.CopyOwn
set_option linter.unusedVariables false
set_option linter.unusedSimpArgs false
set_option linter.unusedSectionVars false
set_option maxHeartbeats 8000000
set_option maxRecDepth 100000
namespace Go.Proofs.YtjdeemmaaiecnaaGreat
namespace May
open Go.ChangeShapes Go.WideShapes Go.ChangeAt Go.RowKit
open Tab
def listMay {α:Type} (m:Int) (f:α→Bool) (l:List α):Bool:=decide ((l.length:Int)≤m) && l.all f
def tabMay (T:Tab):Bool :=
 listMay 8 Ph.may T.phases && (listMay 4 groupMay T.groups && (allIn 255 T.conflict && (listMay 16 Det.may T.dets && (listMay 4 Rl.may T.rails && (listMay 4 Bs.may T.buses &&
  (allIn 9999 [T.extend,T.budget,T.start,T.revert,T.least] && (allIn 2 T.flash && allIn 2147483647 [T.window,T.share])))))))
theorem ints_in {w:World} {g:Nat} {cs:Array Value} {t:TypeId} {fr:Nat × Nat} (hg:w.heap[g]?=some (.cells cs t fr)) (o n:Nat) (l:List Int) (h:(cs.toList.drop o).take n=l.map I) (hn:l.length=n) (hm:n≤maxLen) :
  IntRow w ⟨some ⟨g,o,none⟩,n⟩ l:=by
 subst hn
 refine .inr ⟨_,rfl,Nat.le_refl _,hm,fun i v hv j u hu=>?_⟩
 cases j with
 | zero =>
  obtain rfl:=Option.some.inj hu
  rw [Nat.mul_one,add_two,Nat.add_zero,Addr.add_mid]
  exact range_of hg o _ _ h i _ (by simp [hv])
 | succ j=>cases hu
theorem phases_in {w:World} {g:Nat} {cs:Array Value} {t:TypeId} {fr:Nat × Nat} {T:Tab} {h:Hd} (hg:w.heap[g]?=some (.cells cs t fr)) (C:CellsOk T h cs) (hn:T.phases.length=8) :
  RowOf 13 Ph.cells w ⟨some ⟨g,0,none⟩,8⟩ T.phases:=by
 refine .inr ⟨_,rfl,by rw [hn];exact Nat.le_refl _,(show 8≤maxLen by decide),fun i v hv j u hu=>?_⟩
 rw [add_two,Addr.add_mid,Nat.zero_add,Nat.mul_comm]
 exact range_of hg (13*i) 13 _ (C.phase i v hv) j u hu
structure St (w:World) (N:Nat) (cs:Array Value) (h:Hd) (T:Tab) (W:World):Prop where
 bel:Below w.heap.size w W
 blk:W.heap[N]?=some (.cells cs 33 (0,0))
 tab:IsTab W h T
 le:w.heap.size≤N
theorem St.step {w W W':World} {N:Nat} {cs:Array Value} {h:Hd} {T:Tab} (k:St w N cs h T W) (hb:Below W.heap.size W W'):St w N cs h T W' :=
 ⟨chain k.bel hb,by rw [hb.block N (Array.getElem?_eq_some_iff.1 k.blk).1];exact k.blk,k.tab.below hb,k.le⟩
theorem St.cell {w W:World} {N:Nat} {cs:Array Value} {h:Hd} {T:Tab} (k:St w N cs h T W) {o:Nat} {v:Value} (hv:cs[o]?=some v):W.cell? ⟨N,o,none⟩=some v:=by
 rw [cell_of_row _ _ _ _ _ _ k.blk];exact hv
theorem St.box {w:World} {cs:Array Value} {h:Hd} {T:Tab} (k:IsTab w h T):St w w.heap.size cs h T (w.alloc (.cells cs 33)) :=
 ⟨(Below.refl _ _).alloc (Nat.le_refl _) _,heap_alloc_new _ _,k.below ((Below.refl _ _).alloc (Nat.le_refl _) _),Nat.le_refl _⟩
theorem within_len (m:Int) (a:Option Addr) (cap:Nat) (l:List Int) (n:Nat) (hn:l.length=n) (w:World) (h:IntRow w ⟨a,cap⟩ l) :
  Calls Tryz.prog 82 #[.int .i64 m,.slice a n cap] w fun e w'=>e=.returned (.bool (allIn m l))∧w=w':=by
 subst hn;exact within_any m a cap l w h
theorem may_any (T:Tab) (h:Hd) (w:World) (k:IsTab w h T) :
  Calls Tryz.prog 42 #[.agg (T.cells h).toArray] w fun e w'=>e=.returned (.bool (tabMay T))∧Below w.heap.size w w':=by
 have C:=Lib.hid (cells_ok k)
 have L8:=Lib.hid k.ph
 have Lc:=Lib.hid k.cf
 have Lf:=Lib.hid k.fl
 generalize (T.cells h).toArray=cs at C ⊢
 have hsz:=C.out.size
 obtain ⟨gs,hgd,hgr⟩:=k.groups
 have Hgr:=Lib.hid hgr
 clear hgr
 have hw0:Below w.heap.size w (w.alloc (.cells cs 33)):=(Below.refl _ _).alloc (Nat.le_refl _) _
 have HW0:=Lib.hid hw0
 clear hw0
 have S0:=Lib.hid (St.box (cs:=cs) k)
 clear k
 have Hgd:=Lib.hid hgd
 have hgl:T.groups.length=gs.length:=by rw [← hgd,List.length_map]
 have Hgl:=Lib.hid hgl
 clear hgd hgl
 have hph:=phases_in S0.out.blk C.out L8.out
 have cP:=mayAllP_any 8 (some ⟨w.heap.size,0,none⟩) 8 T.phases _ hph
 rw [L8.out] at cP
 have CP:=Lib.hid cP
 clear cP hph
 have L8p:Hid ((8:Nat)=T.phases.length):=L8.out.symm
 go_enter Tryz.func42,Tryz.ntmps42
 go_wp2_with fail
 refine (CP.out).mono ?_
 rintro e w1 ⟨rfl,hb1⟩
 have S1:=Lib.hid (S0.out.step hb1)
 clear hb1 S0
 generalize hv:(decide (((8:Nat):Int)≤8) && T.phases.all Ph.may)=b1
 have HB1:Hid (listMay 8 Ph.may T.phases=b1):=(by unfold listMay;rw [L8.out];exact hv)
 clear hv
 cases b1
 ·go_wp2
  go_ret
  exact ⟨ret_bool (by unfold tabMay;simp only [HB1.out,Bool.true_and,Bool.false_and,Bool.and_true,Bool.and_false]),S1.out.bel⟩
 have c104:=S1.out.cell C.out.g
 rw [Hgl.out] at c104
 go_wp2_with fail
 refine (mayAllG_any 4 h.g.a h.g.cap gs _ (Hgr.out.1.below S1.out.bel) (fun v hv=>(Hgr.out.2 v hv).below S1.out.bel)).mono ?_
 rintro e w2 ⟨rfl,hb2⟩
 have S2:=Lib.hid (S1.out.step hb2)
 clear hb2 S1
 generalize hv:(decide ((gs.length:Int)≤4) && gs.all (fun v=>groupMay v.data))=b2
 have HB2:Hid (listMay 4 groupMay T.groups=b2):=(by unfold listMay;rw [← Hgd.out,List.length_map,List.all_map];exact hv)
 clear hv
 cases b2
 ·go_wp2
  go_ret
  exact ⟨ret_bool (by unfold tabMay;simp only [HB1.out,HB2.out,Bool.true_and,Bool.false_and,Bool.and_true,Bool.and_false]),S2.out.bel⟩
 go_wp2_with fail
 refine (within_len 255 (some ⟨w.heap.size,105,none⟩) 8 T.conflict 8 Lc.out _ (ints_in S2.out.blk 105 8 _ C.out.conflict Lc.out (by decide))).mono ?_
 rintro e w3 ⟨rfl,rfl⟩
 have S3:=S2
 generalize hv:allIn 255 T.conflict=b3
 have HB3:Hid (allIn 255 T.conflict=b3):=hv
 clear hv
 cases b3
 ·go_wp2
  go_ret
  exact ⟨ret_bool (by unfold tabMay;simp only [HB1.out,HB2.out,HB3.out,Bool.true_and,Bool.false_and,Bool.and_true,Bool.and_false]),S3.out.bel⟩
 have c113:=S3.out.cell C.out.d
 go_wp2_with fail
 refine (mayAllD_any 16 h.d.a h.d.cap T.dets _ S3.out.tab.dets).mono ?_
 rintro e w4 ⟨rfl,hb4⟩
 have S4:=Lib.hid (S3.out.step hb4)
 clear hb4 S3
 generalize hv:(decide ((T.dets.length:Int)≤16) && T.dets.all Det.may)=b4
 have HB4:Hid (listMay 16 Det.may T.dets=b4):=hv
 clear hv
 cases b4
 ·go_wp2
  go_ret
  exact ⟨ret_bool (by unfold tabMay;simp only [HB1.out,HB2.out,HB3.out,HB4.out,Bool.true_and,Bool.false_and,Bool.and_true,Bool.and_false]),S4.out.bel⟩
 have c114:=S4.out.cell C.out.r
 go_wp2_with fail
 refine (mayAllR_any 4 h.r.a h.r.cap T.rails _ S4.out.tab.rails).mono ?_
 rintro e w5 ⟨rfl,hb5⟩
 have S5:=Lib.hid (S4.out.step hb5)
 clear hb5 S4
 generalize hv:(decide ((T.rails.length:Int)≤4) && T.rails.all Rl.may)=b5
 have HB5:Hid (listMay 4 Rl.may T.rails=b5):=hv
 clear hv
 cases b5
 ·go_wp2
  go_ret
  exact ⟨ret_bool (by unfold tabMay;simp only [HB1.out,HB2.out,HB3.out,HB4.out,HB5.out,Bool.true_and,Bool.false_and,Bool.and_true,Bool.and_false]),S5.out.bel⟩
 have c115:=S5.out.cell C.out.b
 go_wp2_with fail
 refine (mayAllB_any 4 h.b.a h.b.cap T.buses _ S5.out.tab.buses).mono ?_
 rintro e w6 ⟨rfl,hb6⟩
 have S6:=Lib.hid (S5.out.step hb6)
 clear hb6 S5
 generalize hv:(decide ((T.buses.length:Int)≤4) && T.buses.all Bs.may)=b6
 have HB6:Hid (listMay 4 Bs.may T.buses=b6):=hv
 clear hv
 cases b6
 ·go_wp2
  go_ret
  exact ⟨ret_bool (by unfold tabMay;simp only [HB1.out,HB2.out,HB3.out,HB4.out,HB5.out,HB6.out,Bool.true_and,Bool.false_and,Bool.and_true,Bool.and_false]),S6.out.bel⟩
 have c116:=S6.out.cell C.out.extend
 have c117:=S6.out.cell C.out.budget
 have c118:=S6.out.cell C.out.start
 have c119:=S6.out.cell C.out.revert
 have c120:=S6.out.cell C.out.least
 go_wp2_with fail
 refine (within_any 9999 _ _ [T.extend,T.budget,T.start,T.revert,T.least] _ (row_new _ _ [T.extend,T.budget,T.start,T.revert,T.least] 5 rfl (by decide) _ rfl)).mono ?_
 rintro e w7 ⟨rfl,hw⟩
 have hb7:Below w6.heap.size w6 w7:=hw ▸ (Below.refl _ _).alloc (Nat.le_refl _) _
 clear hw
 have S7:=Lib.hid (S6.out.step hb7)
 clear hb7 S6
 generalize hv:allIn 9999 [T.extend,T.budget,T.start,T.revert,T.least]=b7
 have HB7:Hid (allIn 9999 [T.extend,T.budget,T.start,T.revert,T.least]=b7):=hv
 clear hv
 cases b7
 ·go_wp2
  go_ret
  exact ⟨ret_bool (by unfold tabMay;simp only [HB1.out,HB2.out,HB3.out,HB4.out,HB5.out,HB6.out,HB7.out,Bool.true_and,Bool.false_and,Bool.and_true,Bool.and_false]),S7.out.bel⟩
 go_wp2_with fail
 refine (within_len 2 (some ⟨w.heap.size,121,none⟩) 8 T.flash 8 Lf.out _ (ints_in S7.out.blk 121 8 _ C.out.flash Lf.out (by decide))).mono ?_
 rintro e w8 ⟨rfl,rfl⟩
 have S8:=S7
 generalize hv:allIn 2 T.flash=b8
 have HB8:Hid (allIn 2 T.flash=b8):=hv
 clear hv
 cases b8
 ·go_wp2
  go_ret
  exact ⟨ret_bool (by unfold tabMay;simp only [HB1.out,HB2.out,HB3.out,HB4.out,HB5.out,HB6.out,HB7.out,HB8.out,Bool.true_and,Bool.false_and,Bool.and_true,Bool.and_false]),S8.out.bel⟩
 have c129:=S8.out.cell C.out.window
 have c130:=S8.out.cell C.out.share
 go_wp2_with fail
 refine (within_any 2147483647 _ _ [T.window,T.share] _ (row_new _ _ [T.window,T.share] 2 rfl (by decide) _ rfl)).mono ?_
 rintro e w9 ⟨rfl,hw⟩
 have hb9:Below w7.heap.size w7 w9:=hw ▸ (Below.refl _ _).alloc (Nat.le_refl _) _
 clear hw
 have S9:=Lib.hid (S8.out.step hb9)
 clear hb9 S8
 generalize hv:allIn 2147483647 [T.window,T.share]=b9
 have HB9:Hid (allIn 2147483647 [T.window,T.share]=b9):=hv
 clear hv
 go_wp2
 go_ret
 exact ⟨ret_bool (by unfold tabMay;simp only [HB1.out,HB2.out,HB3.out,HB4.out,HB5.out,HB6.out,HB7.out,HB8.out,HB9.out,Bool.true_and,Bool.false_and,Bool.and_true,Bool.and_false]),S9.out.bel⟩
end May
namespace Cd
open Go Tab
open Put (low low_len low_lt)
def B8 (l:List Nat):Prop:=∀ x ∈ l,x < 256
theorem B8.app {a b:List Nat} (h:B8 a) (k:B8 b):B8 (a++b):=fun x hx=>(List.mem_append.1 hx).elim (h x) (k x)
theorem B8.low (k:Nat) (n:Int):B8 (low k n):=low_lt k n
theorem B8.puts (k:Nat) (l:List Int):B8 (puts k l):=puts_lt k l
theorem B8.flat {α:Type} {f:α→List Nat} {l:List α} (h:∀ x,B8 (f x)):B8 (l.flatMap f):=fun x hx=>by
 obtain ⟨y,_,hy⟩:=List.mem_flatMap.1 hx
 exact h y x hy
theorem B8.list {α:Type} {f:α→List Nat} {l:List α} (h:∀ x,B8 (f x)):B8 (listB f l):=(B8.low _ _).app (B8.flat h)
theorem B8.ph (p:Ph):B8 (phB p):=(B8.puts _ _).app ((B8.puts _ _).app (B8.puts _ _))
theorem B8.row (l:List Int):B8 (rowB l):=(B8.low _ _).app (B8.puts _ _)
theorem B8.gr (y:List Int × List Int):B8 (grB y):=(B8.row _).app (B8.row _)
theorem B8.det (d:Det):B8 (detB d):=(B8.low _ _).app ((B8.low _ _).app ((B8.low _ _).app ((B8.low _ _).app ((B8.low _ _).app (B8.puts _ _)))))
theorem B8.rl (r:Rl):B8 (rlB r):=(B8.puts _ _).app ((B8.puts _ _).app (B8.puts _ _))
theorem B8.bs (b:Bs):B8 (bsB b):=(B8.puts _ _).app (B8.puts _ _)
theorem B8.items (T:Tab):B8 (itemsB T):=(B8.flat B8.ph).app ((B8.list B8.gr).app ((B8.puts _ _).app ((B8.list B8.det).app ((B8.list B8.rl).app ((B8.list B8.bs).app ((B8.puts _ _).app ((B8.puts _ _).app (B8.puts _ _))))))))
theorem B8.body (T:Tab):B8 (bodyB T):=B8.app (fun x hx=>by simp at hx;omega) (B8.items T)
structure Few (T:Tab):Prop where
 p:T.phases.length=8
 c:T.conflict.length=8
 f:T.flash.length=8
 g:T.groups.length≤4
 d:T.dets.length≤16
 r:T.rails.length≤4
 b:T.buses.length≤4
 row:∀ y ∈ T.groups,y.1.length≤8∧y.2.length≤8
theorem few_of {T:Tab} {w:World} {h:Hd} (ht:IsTab w h T) (hm:May.tabMay T=true):Few T:=by
 unfold May.tabMay May.listMay at hm
 simp only [Bool.and_eq_true,decide_eq_true_eq] at hm
 obtain ⟨_,⟨h1,h2⟩,_,⟨h3,_⟩,⟨h4,_⟩,⟨h5,_⟩,_⟩:=hm
 refine ⟨ht.ph,ht.cf,ht.fl,by omega,by omega,by omega,by omega,fun y hy=>?_⟩
 have:=List.all_eq_true.1 h2 y hy
 unfold May.groupMay May.rowMay at this
 simp only [Bool.and_eq_true,decide_eq_true_eq] at this
 exact ⟨this.1.1,this.2.1⟩
theorem Few.light {T:Tab} (h:Few T):Po.Light T:=⟨by have:=h.g;omega,by have:=h.d;omega,by have:=h.r;omega,by have:=h.b;omega,h.row⟩
theorem Few.steps {T:Tab} (h:Few T):Po.stepsT T≤400:=by unfold Po.stepsT;have:=h.g;have:=h.d;have:=h.r;have:=h.b;omega
theorem Few.len {T:Tab} (h:Few T):(bodyB T).length≤2046:=by
 have h1:=flat_len T.phases (f:=phB) (n:=22) (fun x _=>by rw [phB_len];exact Nat.le_refl _)
 have h2:=listB_len T.groups (f:=grB) (n:=18) (fun y hy=>by unfold grB;rw [List.length_append,rowB_len,rowB_len];have:=h.row y hy;omega)
 have h3:=listB_len T.dets (f:=detB) (n:=37) (fun x _=>by rw [detB_len];exact Nat.le_refl _)
 have h4:=listB_len T.rails (f:=rlB) (n:=20) (fun x _=>by rw [rlB_len];exact Nat.le_refl _)
 have h5:=listB_len T.buses (f:=bsB) (n:=3) (fun x _=>by rw [bsB_len];exact Nat.le_refl _)
 unfold bodyB itemsB
 simp only [List.length_append,puts_len,List.length_cons,List.length_nil]
 have:=h.p;have:=h.c;have:=h.f;have:=h.g;have:=h.d;have:=h.r;have:=h.b
 omega
end Cd
namespace Crc
open Go.ChangeShapes Go.WideShapes Go.ChangeAt Go.RowKit
open CrcM
theorem ret_int {k:IntKind} {a b:Int} (h:a=b):Ending.returned (.int k a)=.returned (.int k b):=by rw [h]
theorem wrap16 (a:Nat):IntKind.u16.wrap (a:Int)=((a % 65536:Nat):Int):=by rw [IntKind.wrap_u16];omega
theorem xor_rule (a:Nat) (h:a < 65536):bits .xor .u16 (a:Int) 4129=((a ^^^ 4129:Nat):Int):=u16_xor_nat a 4129 h (by decide)
theorem top_bit (c:Nat) (h:c < 65536):bits .and .u16 (c:Int) 32768=if c / 32768 % 2=1 then 32768 else 0:=by
 have h1:=u16_and_nat c 32768 h (by decide)
 rw [show bits .and .u16 (c:Int) 32768=((c &&& 32768:Nat):Int) from h1]
 have h2:c &&& 32768=if c / 32768 % 2=1 then 32768 else 0:=by
  have h5:c.testBit 15=decide (c / 32768 % 2=1):=Nat.testBit_eq_decide_div_mod_eq
  apply Nat.eq_of_testBit_eq
  intro i
  rw [Nat.testBit_and,show (32768:Nat)=2 ^ 15 from rfl,Nat.testBit_two_pow]
  by_cases hi:15=i
  ·subst hi
   rw [h5]
   by_cases h4:c / 32768 % 2=1
   ·rw [if_pos h4,decide_eq_true h4];decide
   ·rw [if_neg h4,decide_eq_false h4];decide
  ·rw [decide_eq_false hi,Bool.and_false]
   split
   ·rw [Nat.testBit_two_pow,decide_eq_false hi]
   ·rw [Nat.zero_testBit]
 rw [h2];split <;> rfl
theorem dbl_hit (c:Nat) (h:c < 65536) (hc:c / 32768 % 2=1):bits .xor .u16 (IntKind.u16.wrap ((c:Int)*2)) 4129=(dbl c:Nat):=by
 rw [show (c:Int)*2=((2*c:Nat):Int) by omega,wrap16,xor_rule _ (Nat.mod_lt _ (by decide))]
 unfold dbl;rw [if_pos hc]
theorem dbl_miss (c:Nat) (h:c < 65536) (hc:¬ c / 32768 % 2=1):IntKind.u16.wrap ((c:Int)*2)=(dbl c:Nat):=by
 rw [show (c:Int)*2=((2*c:Nat):Int) by omega,wrap16]
 unfold dbl;rw [if_neg hc,Nat.xor_zero]
theorem double_any (c:Nat) (h:c < 65536) (w:World) :
  Calls Tryz.prog 122 #[.int .u16 (c:Int)] w fun e w'=>e=.returned (.int .u16 (dbl c:Nat))∧w=w':=by
 have hb:=top_bit c h
 by_cases hc:c / 32768 % 2=1
 ·rw [if_pos hc] at hb
  have HS:=Lib.hid (dbl_hit c h hc)
  clear hc
  go_enter Tryz.func122,Tryz.ntmps122
  go_wp2
  go_ret
  exact ⟨ret_int HS.out,rfl⟩
 ·rw [if_neg hc] at hb
  have HS:=Lib.hid (dbl_miss c h hc)
  clear hc
  go_enter Tryz.func122,Tryz.ntmps122
  go_wp2
  go_ret
  exact ⟨ret_int HS.out,rfl⟩
def Row (w:World) (a:Option Addr) (l:List Nat):Prop:=l.length≤maxLen∧(∀ x ∈ l,x < 256)∧(l=[]∨∃ x,a=some x∧∀ i,i < l.length→w.cell? (x.add i)=some (.int .u8 (l.getD i 0:Nat)))
theorem Row.cells {w:World} {a:Option Addr} {l:List Nat} (h:Row w a l) {k:Nat} (hk:k < l.length):∃ x,a=some x∧∀ i,i < l.length→w.cell? (x.add i)=some (.int .u8 (l.getD i 0:Nat)):=by
 rcases h.2.2 with rfl | h
 ·simp at hk
 ·exact h
theorem Row.below {w w':World} {a:Option Addr} {l:List Nat} (h:Row w a l) (hb:Below w.heap.size w w'):Row w' a l:=by
 refine ⟨h.1,h.2.1,?_⟩
 rcases h.2.2 with h | ⟨x,hx,hc⟩
 ·exact .inl h
 ·exact .inr ⟨x,hx,fun i hi=>(hb.cell (World.block_lt_of_cell? w _ (hc i hi))).trans (hc i hi)⟩
theorem Row.lt {w:World} {a:Option Addr} {l:List Nat} (h:Row w a l) (k:Nat) (hk:k < l.length):l.getD k 0 < 256:=by
 rw [List.getD_eq_getElem?_getD,List.getElem?_eq_getElem hk];exact h.2.1 _ (List.getElem_mem hk)
theorem bit_of (y m:Nat) (hy:y < 256):IntKind.u16.wrap (bits .and .u8 ((y:Int) / 2 ^ (7 - m)) 1)=((y / 2 ^ (7 - m) % 2:Nat):Int):=by
 have h1:((y:Int) / 2 ^ (7 - m))=((y / 2 ^ (7 - m):Nat):Int):=by simp
 have h2:y / 2 ^ (7 - m) < 256:=Nat.lt_of_le_of_lt (Nat.div_le_self _ _) hy
 generalize y / 2 ^ (7 - m)=z at h1 h2 ⊢
 have h3:=u8_and_nat z 1 h2 (by decide)
 rw [h1,show bits .and .u8 (z:Int) 1=((z &&& 1:Nat):Int) from h3,Nat.and_one_is_mod,wrap16]
 omega
theorem test_eq (q y b:Nat) (h:q / 32768=b):((q:Int) / 32768 != (b:Int))=false:=by
 rw [bne_eq_false_iff_eq];omega
theorem test_ne (q y b:Nat) (h:¬ q / 32768=b):((q:Int) / 32768 != (b:Int))=true:=by
 rw [bne_iff_ne];omega
theorem bit_miss (q b:Nat) (h:q < 65536) (hb:q / 32768=b):IntKind.u16.wrap ((q:Int)*2)=(bitStep q b:Nat):=by
 rw [show (q:Int)*2=((2*q:Nat):Int) by omega,wrap16]
 unfold bitStep;rw [if_neg (by omega)]
theorem bit_hit (q b:Nat) (h:q < 65536) (hb:¬ q / 32768=b):bits .xor .u16 (IntKind.u16.wrap ((q:Int)*2)) 4129=(bitStep q b:Nat):=by
 rw [show (q:Int)*2=((2*q:Nat):Int) by omega,wrap16,xor_rule _ (Nat.mod_lt _ (by decide))]
 unfold bitStep;rw [if_pos (by omega)]
theorem ref_any (c:Nat) (hc:c < 65536) (a:Option Addr) (cap:Nat) (l:List Nat) (w:World) (h:Row w a l) :
  Calls Tryz.prog 26 #[.int .u16 (c:Int),.slice a l.length cap] w fun e w'=>e=.returned (.int .u16 (crc c l:Nat))∧w=w':=by
 have h1:=h.1
 unfold maxLen at h1
 have Hr:=Lib.hid h
 clear h
 go_enter Tryz.func26,Tryz.ntmps26
 go_wp2
 go_loop [0,5] (fun t i=>∃ k:Nat,k≤l.length∧i=.int .i64 k∧t=.int .u16 (crc c (l.take k):Nat)) (fun _ i=>l.length - (intOf i).toNat)
 case atStart=>exact ⟨0,Nat.zero_le _,rfl,rfl⟩
 case round =>
  obtain ⟨k,hk,rfl,rfl⟩:=hrel
  by_cases hlt:k < l.length
  ·have hs:=CrcM.take_snoc l k hlt
   have hx:=Hr.out.lt k hlt
   obtain ⟨x,rfl,hcl⟩:=Hr.out.cells hlt
   have hcell:=hcl k hlt
   have hd:=crc_lt c (l.take k) hc
   have HS:Hid (crc c (l.take (k+1))=bits8 (crc c (l.take k)) (l.getD k 0) 8):=by
    show _=_
    rw [hs,crc_snoc,bits8_step _ _ hd hx]
   clear hcl hs
   generalize crc c (l.take k)=d at hd HS
   generalize l.getD k 0=y at hcell hx HS
   go_wp2
   go_loop [0,6] (fun t i=>∃ m:Nat,m≤8∧i=.int .i64 (7 - (m:Int))∧t=.int .u16 (bits8 d y m:Nat)) (fun _ i=>(1+intOf i).toNat)
   case atStart=>exact ⟨0,Nat.zero_le _,rfl,rfl⟩
   case round =>
    obtain ⟨m,hm,rfl,rfl⟩:=hrel
    by_cases hlt:m < 8
    ·have hq:=bits8_lt d y m hd
     have hw1:=bit_of y m hx
     by_cases ht:bits8 d y m / 32768=y / 2 ^ (7 - m) % 2
     ·have hT:=test_eq _ y _ ht
      have HB:=Lib.hid (bit_miss _ _ hq ht)
      have HQ:Hid (bits8 d y (m+1)=bitStep (bits8 d y m) (y / 2 ^ (7 - m) % 2)):=rfl
      rw [← hw1] at hT
      clear ht hw1
      generalize bits8 d y m=q at hq hT HB HQ
      go_wp2
      go_round
      case rel=>exact ⟨m+1,by omega,by go_num,by rw [HQ.out,HB.out]⟩
      case measure=>simp [intOf];omega
     ·have hT:=test_ne _ y _ ht
      have HB:=Lib.hid (bit_hit _ _ hq ht)
      have HQ:Hid (bits8 d y (m+1)=bitStep (bits8 d y m) (y / 2 ^ (7 - m) % 2)):=rfl
      rw [← hw1] at hT
      clear ht hw1
      generalize bits8 d y m=q at hq hT HB HQ
      go_wp2
      go_round
      case rel=>exact ⟨m+1,by omega,by go_num,by rw [HQ.out,HB.out]⟩
      case measure=>simp [intOf];omega
    ·obtain rfl:m=8:=by omega
     go_wp2
     go_round
     case rel=>exact ⟨k+1,by omega,by go_num,by rw [HS.out]⟩
     case measure=>simp [intOf];omega
  ·go_wp2
   go_ret
   have:k=l.length:=by omega
   subst this
   exact ⟨by rw [List.take_of_length_le (Nat.le_refl _)];rfl,rfl⟩
def cells (k:Nat):Array Value:=((List.range 256).map fun i=>if i < k then .int .u16 (tab i:Nat) else .int .u16 0).toArray
theorem cells_size (k:Nat):(cells k).size=256:=by simp [cells]
theorem cells_at (k i:Nat) (h:i < 256):(cells k)[i]?=some (if i < k then .int .u16 (tab i:Nat) else .int .u16 0):=by
 unfold cells
 rw [List.getElem?_toArray,List.getElem?_map,List.getElem?_range h];rfl
theorem cells_zero:Array.replicate 256 (.int .u16 0)=cells 0:=by
 apply Array.ext_getElem?
 intro i
 by_cases h:i < 256
 ·rw [cells_at 0 i h,Array.getElem?_replicate,if_pos h];rfl
 ·rw [Array.getElem?_eq_none (by simp;omega),Array.getElem?_eq_none (by rw [cells_size];omega)]
theorem cells_set (k:Nat) (h:k < 256):(cells k).setIfInBounds k (.int .u16 (tab k:Nat))=cells (k+1):=by
 apply Array.ext_getElem?
 intro i
 by_cases hi:i < 256
 ·by_cases e:k=i
  ·subst e
   rw [Array.getElem?_setIfInBounds_self_of_lt (by rw [cells_size];exact h),cells_at _ _ h,if_pos (Nat.lt_succ_self _)]
  ·rw [Array.getElem?_setIfInBounds_ne e,cells_at _ _ hi,cells_at _ _ hi]
   by_cases h2:i < k
   ·rw [if_pos h2,if_pos (by omega)]
   ·rw [if_neg h2,if_neg (by omega)]
 ·rw [Array.getElem?_eq_none (by rw [Array.size_setIfInBounds,cells_size];omega),Array.getElem?_eq_none (by rw [cells_size];omega)]
theorem cells_half (k:Nat) (h:k < 256):(cells k)[k / 2]?=some (.int .u16 (tab (k / 2):Nat)):=by
 rw [cells_at _ _ (by omega)]
 by_cases h2:k / 2 < k
 ·rw [if_pos h2]
 ·have:k=0:=by omega
  subst this
  rw [if_neg (by decide)]
  rw [show 0 / 2=0 from rfl,tab_zero];rfl
theorem cells_one (k:Nat):(cells k).all (·.oneCell')=true:=by
 rw [Array.all_eq_true]
 intro i hi
 rw [cells_size] at hi
 have h1:=cells_at k i hi
 rw [Array.getElem?_eq_getElem (by rw [cells_size];exact hi)] at h1
 rw [Option.some.inj h1]
 split <;> rfl
theorem store_whole (w:World) (g:Nat) (t:TypeId) (j k:Nat) (hg:w.heap[g]?=some (.cells (cells j) t (0,0))) :
  (storeCells ⟨g,0,none⟩ (cells k).toList 0).run Tryz.prog w=.ok () (w.setRow g (cells k)):=by
 have:=run_storeCells_from (P:=Tryz.prog) g t (cells k).toList 0 (cells j) w hg (by simp [cells_size]) (fun v hv=>(Array.all_eq_true_iff_forall_mem.1 (cells_one k)) v (by simpa using hv))
 simpa using this
theorem info36:(Tryz.prog.info? 166).map (fun i=>(i.zero,i.size))=some (some (.agg (Array.replicate 256 (.int .u16 0))),256):=by kernel_rfl
theorem table_any (w:World) :
  Calls Tryz.prog 111 #[] w fun e w'=>e=.returned (.agg (cells 256))∧Below w.heap.size w w':=by
 obtain ⟨hz,hi⟩:=zero_of_info info36
 rw [cells_zero] at hz
 have Hi:=Lib.hid hi
 clear hi
 go_enter Tryz.func111,Tryz.ntmps111
 go_wp2_with fail
 go_loopw [3] (fun i wr=>∃ k:Nat,k≤256∧i=.int .i64 k∧wr=(w.alloc (.cells (cells 0) 166)).alloc (.cells (cells k) 166)) (fun i _=>256 - (intOf i).toNat)
 case atStart=>exact ⟨0,by omega,rfl,rfl⟩
 case round =>
  obtain ⟨k,hk,rfl,rfl⟩:=hrel
  by_cases hlt:k < 256
  ·have hcell:=cells_half k hlt
   have hsz:=cells_size k
   have ht:=tab_lt (k / 2)
   have HS:=Lib.hid (cells_set k hlt)
   have hto:((k:Int) / 2).toNat=k / 2:=by omega
   have hd:=dbl_lt (tab (k / 2))
   by_cases ho:k % 2=1
   ·have hx:bits .xor .u16 (dbl (tab (k / 2)):Nat) 4129=(tab k:Nat):=by rw [xor_rule _ hd,← tab_odd k hlt ho]
    have ho2:((k:Int) % 2)=1:=by omega
    go_wp2_with (go_at_call 122;refine (double_any _ ht _).mono ?_;rintro e w' ⟨rfl,rfl⟩)
    go_roundw
    case rel=>exact ⟨k+1,by omega,by go_num,by rw [HS.out]⟩
    case measure=>simp [intOf];omega
   ·have hx:dbl (tab (k / 2))=tab k:=(tab_even k hlt ho).symm
    have HX:=Lib.hid hx
    clear hx
    have ho2:((k:Int) % 2)=0:=by omega
    go_wp2_with (go_at_call 122;refine (double_any _ ht _).mono ?_;rintro e w' ⟨rfl,rfl⟩;rw [HX.out])
    go_roundw
    case rel=>exact ⟨k+1,by omega,by go_num,by rw [HS.out]⟩
    case measure=>simp [intOf];omega
  ·obtain rfl:k=256:=by omega
   have hu:Tryz.prog.underlying 166=some (.array 256 64):=by kernel_rfl
   have hg1:((w.alloc (.cells (cells 0) 166)).alloc (.cells (cells 256) 166)).heap[w.heap.size+1]?=some (.cells (cells 256) 166 (0,0)):=heap_alloc2_new w _ _
   have hg0:((w.alloc (.cells (cells 0) 166)).alloc (.cells (cells 256) 166)).heap[w.heap.size]?=some (.cells (cells 0) 166 (0,0)):=heap_alloc2_old w _ _
   have hbel:Below w.heap.size w ((w.alloc (.cells (cells 0) 166)).alloc (.cells (cells 256) 166)):=((Below.refl _ _).alloc (Nat.le_refl _) _).alloc (by simp) _
   generalize (w.alloc (.cells (cells 0) 166)).alloc (.cells (cells 256) 166)=w2 at hg1 hg0 hbel ⊢
   have hst:=store_whole w2 w.heap.size _ 0 256 hg0
   have HG:=Lib.hid (And.intro hg1 hu)
   have HF:Hid (Below w.heap.size w (w2.setRow w.heap.size (cells 256))∧(w2.setRow w.heap.size (cells 256)).heap[w.heap.size]?=some (.cells (cells 256) 166 (0,0))) :=
    ⟨hbel.trans ⟨rfl,rfl,rfl,by simp [World.setRow],fun j hj=>setRow_other _ _ _ _ (by omega)⟩,setRow_heap _ _ _ _ _ _ hg0⟩
   generalize w2.setRow w.heap.size (cells 256)=w3 at HF hst
   clear hg1 hg0 hu hz hbel
   go_wp2_with fail
   refine wp_load_row 166 (.tmp 1) rfl (w.heap.size+1) rfl 166 (cells 256) (0,0) _ HG.out.1 HG.out.2 rfl (by rw [cells_size];exact Hi.out) ?_
   go_wp2_with fail
   (try simp only [Exit.inBlock,Exit.then])
   refine bodyPost_ret (v:=.agg (cells 256)) ?_ rfl ⟨rfl,HF.out.1⟩
   exact results_cell_row rfl _ _ w.heap.size 166 (cells 256) (0,0) _ rfl HF.out.2 HG.out.2 rfl (by rw [cells_size];exact Hi.out)
end Crc
namespace CrcA
open Go.ChangeShapes Go.WideShapes Go.ChangeAt Go.RowKit
open CrcM Crc
theorem idx (d y:Nat) (hd:d < 65536) (hy:y < 256):bits .xor .u8 ((d:Int) / 256) (y:Int)=((d / 256 ^^^ y:Nat):Int):=by
 rw [show (d:Int) / 256=((d / 256:Nat):Int) by omega]
 exact u8_xor_nat _ _ (by omega) hy
theorem idx_lt (d y:Nat) (hd:d < 65536) (hy:y < 256):d / 256 ^^^ y < 256:=Nat.xor_lt_two_pow (n:=8) (by omega) hy
theorem step_bits (d y:Nat):bits .xor .u16 (IntKind.u16.wrap ((d:Int)*256)) (tab (d / 256 ^^^ y):Nat)=(CrcM.step d y:Nat):=by
 rw [show (d:Int)*256=((256*d:Nat):Int) by omega,wrap16]
 exact u16_xor_nat _ _ (Nat.mod_lt _ (by decide)) (tab_lt _)
theorem add_any (c:Nat) (hc:c < 65536) (a:Option Addr) (cap:Nat) (l:List Nat) (w:World) (h:Row w a l) :
  Calls Tryz.prog 90 #[.int .u16 (c:Int),.slice a l.length cap] w fun e w'=>e=.returned (.int .u16 (crc c l:Nat))∧Below w.heap.size w w':=by
 have h1:=h.1
 unfold maxLen at h1
 obtain ⟨hz,hi⟩:=zero_of_info info36
 rw [cells_zero] at hz
 have Hr:=Lib.hid h
 have Hi:=Lib.hid hi
 clear h hi
 go_enter Tryz.func90,Tryz.ntmps90
 go_wp2_with fail
 refine (table_any _).mono ?_
 rintro e w1 ⟨rfl,hb1⟩
 have hb2:Below w.heap.size w (w1.alloc (.cells (cells 256) 166)):=hb1.alloc hb1.size _
 have hst:(storeCells ⟨w1.heap.size,0,none⟩ (cells 256).toList 0).run Tryz.prog (w1.alloc (.cells (cells 0) 166))=.ok () (w1.alloc (.cells (cells 256) 166)):=by
  rw [store_whole _ _ _ 0 256 (heap_alloc_last w1 _),World.setRow_alloc_new]
 have ht:∀ j:Nat,j < 256→(w1.alloc (.cells (cells 256) 166)).cell? ⟨w1.heap.size,j,none⟩=some (.int .u16 (tab j:Nat)):=fun j hj=>by
  rw [World.cell?_alloc_at _ _ _ _ rfl,cells_at _ _ hj,if_pos hj]
 have Ht:=Lib.hid ht
 clear ht
 go_wp2_with fail
 have Hr2:=Lib.hid (Hr.out.below hb2)
 have Hb2:=Lib.hid hb2
 generalize w1.alloc (.cells (cells 256) 166)=w2 at Ht Hr2 Hb2 ⊢
 clear Hr hst hb2
 go_loop [0,11] (fun t i=>∃ k:Nat,k≤l.length∧i=.int .i64 k∧t=.int .u16 (crc c (l.take k):Nat)) (fun _ i=>l.length - (intOf i).toNat)
 case atStart=>exact ⟨0,Nat.zero_le _,rfl,rfl⟩
 case round =>
  obtain ⟨k,hk,rfl,rfl⟩:=hrel
  by_cases hlt:k < l.length
  ·have hs:=CrcM.take_snoc l k hlt
   have hx:=Hr2.out.lt k hlt
   obtain ⟨x,rfl,hcl⟩:=Hr2.out.cells hlt
   have hcell:=hcl k hlt
   have hd:=crc_lt c (l.take k) hc
   have HS:Hid (crc c (l.take (k+1))=CrcM.step (crc c (l.take k)) (l.getD k 0)):=by
    show _=_
    rw [hs,crc_snoc]
   clear hcl hs
   generalize crc c (l.take k)=d at hd HS
   generalize l.getD k 0=y at hcell hx HS
   have hj:=idx d y hd hx
   have hjl:=idx_lt d y hd hx
   have hst:=step_bits d y
   have htc:=Ht.out _ hjl
   rw [← HS.out] at hst
   clear HS
   generalize d / 256 ^^^ y=j at hj hjl hst htc
   have hjn:(j:Int).toNat=j:=Int.toNat_natCast j
   have hj2:(j:Int) < 256:=by omega
   go_wp2
   go_round
   case rel=>exact ⟨k+1,by omega,by go_num,rfl⟩
   case measure=>simp [intOf];omega
  ·go_wp2
   go_ret
   have:k=l.length:=by omega
   subst this
   exact ⟨by rw [List.take_of_length_le (Nat.le_refl _)];rfl,Hb2.out⟩
theorem of_any (a:Option Addr) (cap:Nat) (l:List Nat) (w:World) (h:Row w a l) :
  Calls Tryz.prog 44 #[.slice a l.length cap] w fun e w'=>e=.returned (.int .u16 (crc 65535 l:Nat))∧Below w.heap.size w w':=by
 have Hr:=Lib.hid h
 clear h
 go_enter Tryz.func44,Tryz.ntmps44
 go_wp2_with fail
 refine (add_any 65535 (by decide) _ _ l _ Hr.out).mono ?_
 rintro e w1 ⟨rfl,hb⟩
 go_wp2
 go_ret
 exact ⟨rfl,hb⟩
end CrcA
namespace May
open Go.ChangeShapes Go.WideShapes Go.ChangeAt Go.RowKit
open Tab
def GAll (l:List Gr):Prop:=l.all (fun v=>groupMay v.data)=true
theorem GAll.step {l:List Gr} {k:Nat} {v:Gr} (h:l[k]?=some v) (hk:GAll (l.take k)) (hv:groupMay v.data=true):GAll (l.take (k+1)):=all_step (f:=fun v:Gr=>groupMay v.data) h hk hv
theorem GAll.fin {l:List Gr} {k:Nat} (hk:GAll (l.take k)) (h:¬ k < l.length):l.all (fun v=>groupMay v.data)=true:=all_end (f:=fun v:Gr=>groupMay v.data) hk h
theorem infoT:(Tryz.prog.info? 33).map (·.size)=some 131:=by kernel_rfl
end May
namespace Po
open Go Go.RowKit Go.ChangeShapes
open Tab
open Put (low lim)
open Go.Proofs.YtjdeemmaaiecnaaGreat.B (Own own_row)
theorem own_mono {B B':Nat} {w:World} {v:Value} {l:List Nat} (h:Own B' w v l) (hb:B≤B'):Own B w v l:=by
 refine ⟨h.1,?_⟩
 rcases h.2 with h0 | ⟨g,cap,cur,h1,h2,h3⟩
 ·exact .inl h0
 ·exact .inr ⟨g,cap,cur,h1,by omega,h3⟩
theorem head_low:low (lim 3 8) 5784065=[88,66,1]:=by decide +kernel
end Po
namespace Po
open Go Go.RowKit Go.ChangeShapes
open Tab
open Put (low lim)
open Go.Proofs.YtjdeemmaaiecnaaGreat.B (Own own_row)
theorem enc_good {T:Tab} {hd:Hd} {w:World} (ht:IsTab w hd T) (hm:May.tabMay T=true) :
  Calls Tryz.prog 13 #[.agg (T.cells hd).toArray] w fun e w'=>∃ v,e=.returned (.tuple #[v,I 0])∧Own w.heap.size w' v (Cd.sealB (Cd.bodyB T))∧Below w.heap.size w w':=by
 have hmf:∀ (fn:Fn) (first cap:Array Value) (w:World),(Instr.makeFunc fn first cap).run Tryz.prog w=.ok (.func fn first cap) w:=fun _ _ _ _=>rfl
 have few:=Cd.few_of ht hm
 have PS:Hid (∀ (V0:World) (wb tb k:Nat) (l:List Nat) (W:World),Wp w V0 wb tb (T.cells hd).toArray l (k+stepsT T) W→w.heap.size≤tb→Calls Tryz.prog 20 #[wif wb,.pointer (some ⟨tb,0,none⟩)] W fun e W'=>e=.returned (.tuple #[])∧Wp w V0 wb tb (T.cells hd).toArray (l++Cd.itemsB T) k W'):=Lib.hid (fun V0 wb tb k l W h htb=>wpass ht few.light h htb)
 have LN:=Lib.hid few.len
 have ST:=Lib.hid few.steps
 have B8:Hid (∀ x ∈ Cd.bodyB T,x < 256):=Lib.hid (Cd.B8.body T)
 have BD:Hid ([88,66,1]++Cd.itemsB T=Cd.bodyB T):=Lib.hid rfl
 clear few
 have C:=cells_ok ht
 have IA:Hid ((Tryz.prog.info? 33).map (·.size)=some (T.cells hd).length):=Lib.hid (by have:=C.size;rw [List.size_toArray] at this;rw [this];exact May.infoT)
 have MY0:Hid (∀ W,Below w.heap.size w W→Calls Tryz.prog 42 #[.agg (T.cells hd).toArray] W fun e w'=>e=.returned (.bool true)∧Below W.heap.size W w'):=Lib.hid (fun W hb=>by rw [← hm];exact May.may_any T hd W (ht.below hb))
 generalize hcc:T.cells hd=c at IA MY0 ⊢
 have h0:=(Below.refl w.heap.size w).alloc (Nat.le_refl _) (.cells c.toArray 33)
 have h1:=h0.alloc h0.size (.cells #[I 0] 34)
 have hg0:=heap_alloc_new w (.cells c.toArray 33)
 have hg1:=heap_alloc_new (w.alloc (.cells c.toArray 33)) (.cells #[I 0] 34)
 have hs0:(w.alloc (.cells c.toArray 33)).heap.size=w.heap.size+1:=by simp
 have hg2:((w.alloc (.cells c.toArray 33)).alloc (.cells #[I 0] 34)).heap[w.heap.size]?=some (.cells c.toArray 33 (0,0)):=by
  rw [Below.heap_alloc _ _ _ (by rw [hs0];omega)];exact hg0
 rw [hs0] at hg1
 go_enter_defers Tryz.func13,Tryz.ntmps13
 go_upto_region 2 with fail
 generalize World.alloc (World.alloc w _) _=v at h1 hg1 hg2 ⊢
 have MY:Hid (∀ W,Below v.heap.size v W→Calls Tryz.prog 42 #[.agg c.toArray] W fun e w'=>e=.returned (.bool true)∧Below W.heap.size W w'):=Lib.hid (fun W hb=>MY0.out W (h1.trans (hb.mono h1.size)))
 have HB0:=Lib.hid h1
 have HE:=Lib.hid hg1
 have HTB:=Lib.hid hg2
 have GE:Hid (w.heap.size≤w.heap.size+1):=Lib.hid (by omega)
 generalize hge:w.heap.size+1=ge at HE GE ⊢
 generalize hgt:w.heap.size=gt at HE HTB GE hge ⊢
 have HGT:=Lib.hid hgt
 clear h0 h1 hg0 hg1 hg2 hs0 hge hgt MY0
 obtain ⟨body,hbody⟩:∃ x,x=Cd.bodyB T:=⟨_,rfl⟩
 rw [← hbody] at LN B8 BD
 have HBODY:=Lib.hid hbody
 clear hbody
 generalize Cd.itemsB T=items at PS BD
 generalize stepsT T=st at PS ST
 rw [hcc] at PS
 go_wp2_with (refine Row.wpList_load_g 33 _ rfl (by first | rfl | go_simp) ⟨gt,0,none⟩ rfl c _ (by have:=Row.lies_of_block HTB.out;simpa using this) Tryz.underlying33 rfl IA.out ?_)
 refine (MY.out v (Below.refl _ _)).mono ?_
 rintro e v1 ⟨rfl,hb⟩
 have HB1:=Lib.hid hb
 clear hb
 go_wp2_with fail
 refine (Put.put_any none 0 [] 3 5784065 v1 (Go.Proofs.YtjdeemmaaiecnaaGreat.B.row_nil _ _ _ rfl) (by simp)).mono ?_
 rintro e v2 ⟨pv,rfl,hown,hb2⟩
 rw [List.nil_append,head_low] at hown
 obtain ⟨pa,pn,pc,rfl⟩:∃ a n c,pv=.slice a n c:=by rcases hown.2 with ⟨rfl,_⟩ | ⟨g,cap,cur,rfl,_⟩ <;> exact ⟨_,_,_,rfl⟩
 go_upto_region 5 with fail
 have hb12:=HB1.out.trans (hb2.mono HB1.out.size)
 have hb3:Below v2.heap.size v2 (v2.alloc (.cells #[.slice pa pn pc] 92)):=(Below.refl _ _).alloc (Nat.le_refl _) _
 have hn3:=heap_alloc_new v2 (.cells #[.slice pa pn pc] 92)
 have hw:Wp w (v2.alloc (.cells #[.slice pa pn pc] 92)) v2.heap.size gt c.toArray [88,66,1] (0+st) (v2.alloc (.cells #[.slice pa pn pc] 92)):=by
  have hv:w.heap.size≤v.heap.size:=HB0.out.size
  have hv1:=HB1.out.size
  have hv2:=hb2.size
  refine ⟨⟨by have:=ST.out;simp only [List.length_cons,List.length_nil];omega,by omega,.slice pa pn pc,hn3,?_⟩,HB0.out.trans ((hb12.trans (hb3.mono (by omega))).mono hv),?_,fun _ _ _ _ hj _=>hj⟩
  ·exact own_mono (Go.Proofs.YtjdeemmaaiecnaaGreat.B.own_below hown hb3) (by omega)
  ·have h5:=HTB.out
   have h6:=(hb12.block gt (Array.getElem?_eq_some_iff.1 h5).1).trans h5
   exact (hb3.block gt (Array.getElem?_eq_some_iff.1 h6).1).trans h6
 have he3:(v2.alloc (.cells #[.slice pa pn pc] 92)).heap[ge]?=some (.cells #[I 0] 34 (0,0)):=by
  have h5:=HE.out
  have h6:=(hb12.block ge (Array.getElem?_eq_some_iff.1 h5).1).trans h5
  exact (hb3.block ge (Array.getElem?_eq_some_iff.1 h6).1).trans h6
 generalize v2.alloc (.cells #[.slice pa pn pc] 92)=v3 at hw he3 ⊢
 generalize v2.heap.size=wb at hw ⊢
 have HE3:=Lib.hid he3
 have hcall:=Lib.hid (PS.out v3 wb gt 0 _ v3 hw (by have:=HGT.out;omega))
 clear hown hb2 hb12 hb3 hn3 hw he3 HB1 PS
 go_wp2_with fail
 refine hcall.out.mono ?_
 rintro e v4 ⟨rfl,h4⟩
 rw [BD.out] at h4
 obtain ⟨val,hval,hown⟩:=h4.st.2.2
 obtain ⟨a,cap,rfl,hrow⟩:=own_row hown B8.out
 have HW:=Lib.hid hval
 have HR:=Lib.hid hrow
 have HL:=Lib.hid h4.low
 have HE4:Hid (v4.heap[ge]?=some (.cells #[I 0] 34 (0,0))):=Lib.hid (h4.keep ge _ _ _ HE3.out (by decide))
 clear hcall h4 hown hval hrow
 obtain ⟨cr,hcr⟩:∃ n:Nat,CrcM.crc 65535 body=n:=⟨_,rfl⟩
 have hcr2:cr < 65536:=by rw [← hcr];exact CrcM.crc_lt _ _ (by decide)
 have SL:Hid (Cd.sealB body=body++low 2 (cr:Int)):=Lib.hid (by unfold Cd.sealB;rw [hcr])
 have CR:Hid (∀ W,Below v4.heap.size v4 W→Calls Tryz.prog 44 #[.slice a body.length cap] W fun e w'=>e=.returned (.int .u16 (cr:Int))∧Below W.heap.size W w'):=Lib.hid (fun W hb=>by rw [← hcr];exact CrcA.of_any a cap body W (HR.out.below hb))
 have PU:Hid (∀ W,Below v4.heap.size v4 W→Calls Tryz.prog 43 #[.slice a body.length cap,.int .i64 2,.int .i64 (cr:Int)] W fun e w'=>∃ v,e=.returned v∧Own W.heap.size w' v (Cd.sealB body)∧Below W.heap.size W w'):=Lib.hid (fun W hb=>by rw [SL.out];exact Put.put_any a cap body 2 cr W (HR.out.below hb) (by have:=LN.out;omega))
 obtain ⟨res,hres⟩:∃ x,x=Cd.sealB body:=⟨_,rfl⟩
 rw [← hres] at PU
 have RS:Hid (res=Cd.sealB (Cd.bodyB T)):=Lib.hid (by rw [hres,HBODY.out])
 clear hres
 generalize body.length=bl at HW CR PU
 have ew:wrap64 (cr:Int)=cr:=IntWalk.wrap64_in _ (by omega)
 have ew2:IntKind.i64.wrap (cr:Int)=cr:=by rw [IntKind.wrap_i64];omega
 have q1:∀ p:QB.By v4.heap.size v4,p.world.cell? ⟨wb,0,none⟩=some (.slice a bl cap):=fun p=>by rw [cell_of_row _ _ _ _ _ _ ((p.below.block wb (Array.getElem?_eq_some_iff.1 HW.out).1).trans HW.out)];rfl
 clear hcr
 go_upto_region 6 with fail
 refine wp_region_noPanic ?_
 refine QT.region1 v4.heap.size 10 (by kernel_rfl) (by kernel_rfl) (by kernel_rfl) (by kernel_rfl) (v:=.pointer (some ⟨wb,0,none⟩)) (fun _ _ _ h=>h) (Or.inl ⟨by rfl,fun w'=>by go_simp;try rfl⟩) ?_
 dsimp only [Act.put]
 simp only [List.setIfInBounds_toArray,List.set_cons_zero,List.set_cons_succ,List.take_succ_cons,List.take_zero,List.drop_succ_cons,List.drop_zero]
 repeat (quiet_step (first
  | (go_at_call 44;with_reducible exact QB.call_of (Nat.le_refl _) (fun b=>CR.out _ b))))
 refine wpQuiet_nil ?_
 intro _ hw'
 obtain ⟨p,rfl⟩:=hw'
 have HP:=Lib.hid p.below
 clear q1
 generalize p.world=v5 at HP ⊢
 (try simp only [List.drop_succ_cons,List.drop_zero])
 go_wp2_with fail
 refine (PU.out v5 HP.out).mono ?_
 rintro e v6 ⟨rv,rfl,hown,hb⟩
 have h6:v6.heap[ge]?=some (.cells #[I 0] 34 (0,0)):=by
  have h5:=(HP.out.block ge (Array.getElem?_eq_some_iff.1 HE4.out).1).trans HE4.out
  exact (hb.block ge (Array.getElem?_eq_some_iff.1 h5).1).trans h5
 have c6:v6.cell? ⟨ge,0,none⟩=some (I 0):=by rw [cell_of_row _ _ _ _ _ _ h6];rfl
 have f6:v6.frozen? ⟨ge,0,none⟩=false:=frozen_of_row _ _ _ _ _ h6
 have hst:=setCell_eq_setRow v6 ge 0 #[I 0] 34 (0,0) (I 0) h6
 have HO:=Lib.hid hown
 have H6:=Lib.hid h6
 have HB6:Hid (Below w.heap.size w v6):=Lib.hid (by
  have:=HP.out.trans (hb.mono HP.out.size)
  exact HL.out.trans (this.mono HL.out.size))
 have HSZ:Hid (v4.heap.size≤v5.heap.size):=Lib.hid HP.out.size
 clear hown hb h6
 go_wp2_with fail
 refine NoPanic.normal ?_
 try rw [hst]
 go_wp2_with fail
 have hc:=setRow_heap v6 ge #[I 0] #[I 0] _ _ H6.out
 have hB:=below_setRow HB6.out (show w.heap.size≤ge by have:=GE.out;have:=HGT.out;omega) #[I 0]
 have hO:Own v5.heap.size (v6.setRow ge #[I 0]) rv res:=by
  refine ⟨HO.out.1,?_⟩
  rcases HO.out.2 with h0 | ⟨g,cp,cur,h1,h2,h3,h4⟩
  ·exact .inl h0
  ·refine .inr ⟨g,cp,cur,h1,h2,?_,h4⟩
   rw [setRow_other _ _ _ _ (fun e=>by subst e;rw [H6.out] at h3;cases h3)]
   exact h3
 generalize v6.setRow ge #[I 0]=v7 at hc hB hO ⊢
 refine leaves_cons (f:=41) (args:=#[.pointer (some ⟨ge,0,none⟩)]) (by simp) (by simp [go_sem]) ?_
 refine (enc_idle ge 0 v7 hc).mono ?_
 rintro e u' w'' ⟨rfl,rfl,w1,hb1,rfl⟩
 have hc2:=setRow_heap w1 ge #[I 0] #[I 0] _ _ ((hb1.block ge (Array.getElem?_eq_some_iff.1 hc).1).trans hc)
 have hBB:=below_setRow (hB.trans (hb1.mono hB.size)) (show w.heap.size≤ge by have:=GE.out;have:=HGT.out;omega) #[I 0]
 have hcell:(w1.setRow ge #[I 0]).cell? ⟨ge,0,none⟩=some (I 0):=by rw [cell_of_row _ _ _ _ _ _ hc2];rfl
 have hO2:Own w.heap.size (w1.setRow ge #[I 0]) rv res:=by
  have h0:=Go.Proofs.YtjdeemmaaiecnaaGreat.B.own_below (own_mono hO (show w.heap.size≤v5.heap.size from Nat.le_trans HL.out.size HSZ.out)) hb1
  refine ⟨h0.1,?_⟩
  rcases h0.2 with h0 | ⟨g,cp,cur,h1,h2,h3,h4⟩
  ·exact .inl h0
  ·refine .inr ⟨g,cp,cur,h1,h2,?_,h4⟩
   rw [setRow_other _ _ _ _ (fun e=>by rw [e,(hb1.block ge (Array.getElem?_eq_some_iff.1 hc).1).trans hc] at h3;cases h3)]
   exact h3
 simp [Leaves,settle,results,Tryz.results13,go_sem,hcell]
 rw [RS.out] at hO2
 exact ⟨hO2,hBB⟩
end Po
namespace Rd
open Go.ChangeShapes Go.WideShapes Go.ChangeAt Go.RowKit
open B Put
structure But (g:Nat) (w w':World):Prop where
 os:w'.os=w.os
 tape:w'.tape=w.tape
 output:w'.output=w.output
 size:w.heap.size≤w'.heap.size
 block:∀ k,k < w.heap.size→k ≠ g→w'.heap[k]?=w.heap[k]?
 shape:∀ k,k < w.heap.size→w'.shape? k=w.shape? k
theorem But.refl (g:Nat) (w:World):But g w w:=⟨rfl,rfl,rfl,Nat.le_refl _,fun _ _ _=>rfl,fun _ _=>rfl⟩
theorem shape_set (g i:Nat) (w:World) (v:Value) (k:Nat) (hk:k < w.heap.size):(w.setCell ⟨g,i,none⟩ v).shape? k=w.shape? k:=by
 by_cases hg:k=g
 ·subst hg
  unfold World.shape? World.setCell
  simp only [Array.getElem?_modify,if_true]
  cases h:w.heap[k]? with
  | none=>rfl
  | some o=>cases o <;> simp
 ·unfold World.shape?
  rw [Below.heap_setCell _ _ _ _ hg]
theorem But.trans {g:Nat} {a b c:World} (h:But g a b) (k:But g b c):But g a c :=
 ⟨k.os.trans h.os,k.tape.trans h.tape,k.output.trans h.output,Nat.le_trans h.size k.size,fun i hi hg=>(k.block i (Nat.lt_of_lt_of_le hi h.size) hg).trans (h.block i hi hg),fun i hi=>(k.shape i (Nat.lt_of_lt_of_le hi h.size)).trans (h.shape i hi)⟩
theorem But.of {g:Nat} {w w':World} (h:Below w.heap.size w w'):But g w w':=⟨h.os,h.tape,h.output,h.size,fun k hk _=>h.block k hk,fun k hk=>by unfold World.shape?;rw [h.block k hk]⟩
theorem But.below {g B:Nat} {w w':World} (h:But g w w') (hB:B≤w.heap.size) (hg:B≤g):Below B w w':=⟨h.os,h.tape,h.output,h.size,fun k hk=>h.block k (by omega) (by omega)⟩
theorem But.set (g i:Nat) (w:World) (v:Value):But g w (w.setCell ⟨g,i,none⟩ v) :=
 ⟨rfl,rfl,rfl,by simp [World.setCell],fun k _ hk=>Below.heap_setCell _ _ _ _ hk,fun k hk=>shape_set g i w v k hk⟩
theorem But.cell {g:Nat} {w w':World} (h:But g w w') {p:Addr} (hp:p.block < w.heap.size) (hg:p.block ≠ g):w'.cell? p=w.cell? p:=World.cell?_of_block (w:=w) (h.block p.block hp hg)
theorem But.row {g:Nat} {w w':World} (h:But g w w') {ad:Option Addr} {l:List Nat} (hr:Row w ad l) (hg:l ≠ []→∀ x,ad=some x→x.block ≠ g):Row w' ad l:=by
 refine ⟨hr.1,hr.2.1,?_⟩
 by_cases hl:l=[]
 ·exact .inl hl
 replace hg:=hg hl
 rcases hr.2.2 with h1 | ⟨x,hx,hc⟩
 ·exact .inl h1
 ·refine .inr ⟨x,hx,fun i hi=>?_⟩
  have hlt:=World.block_lt_of_cell? w _ (hc i hi)
  refine (h.cell hlt ?_).trans (hc i hi)
  have:=hg x hx
  unfold Addr.add
  split <;> exact this
structure Rd (w:World) (g:Nat) (ad:Option Addr) (cap:Nat) (l:List Nat) (k:Nat) (code fat:Int):Prop where
 lt:g < w.heap.size
 row:Row w ad l
 off:l ≠ []→∀ x,ad=some x→x.block ≠ g
 c0:w.cell? ⟨g,0,none⟩=some (.slice ad l.length cap)
 c1:w.cell? ⟨g,1,none⟩=some (.int .i64 k)
 c2:w.cell? ⟨g,2,none⟩=some (.int .i64 code)
 c3:w.cell? ⟨g,3,none⟩=some (.int .i64 fat)
 fz:∀ i,w.frozen? ⟨g,i,none⟩=false
 cap_le:l.length≤cap
theorem Rd.but {w w':World} {g g':Nat} {ad:Option Addr} {cap:Nat} {l:List Nat} {k:Nat} {code fat:Int} (h:Rd w g ad cap l k code fat) (hb:But g' w w') (hg:g ≠ g') (hx:l ≠ []→∀ x,ad=some x→x.block ≠ g'):Rd w' g ad cap l k code fat :=
 ⟨Nat.lt_of_lt_of_le h.lt hb.size,hb.row h.row hx,h.off,(hb.cell h.lt hg).trans h.c0,(hb.cell h.lt hg).trans h.c1,(hb.cell h.lt hg).trans h.c2,(hb.cell h.lt hg).trans h.c3,
  fun i=>(World.frozen?_of_block (w:=w) (hb.block g h.lt hg)).trans (h.fz i),h.cap_le⟩
theorem Rd.below {w w':World} {g:Nat} {ad:Option Addr} {cap:Nat} {l:List Nat} {k:Nat} {code fat:Int} (h:Rd w g ad cap l k code fat) (hb:Below w.heap.size w w'):Rd w' g ad cap l k code fat :=
 ⟨Nat.lt_of_lt_of_le h.lt hb.size,h.row.below hb,h.off,(hb.cell h.lt).trans h.c0,(hb.cell h.lt).trans h.c1,(hb.cell h.lt).trans h.c2,(hb.cell h.lt).trans h.c3,
  fun i=>(hb.frozen (p:=⟨g,i,none⟩) h.lt).trans (h.fz i),h.cap_le⟩
theorem clone_any (ad:Option Addr) (cap:Nat) (l:List Nat) (w:World) (hr:Row w ad l) (hl:l.length≤10000) (hnil:ad=none→cap=0) :
  Calls Tryz.prog 45 #[.slice ad l.length cap] w fun e w'=>∃ v,e=.returned v∧Own w.heap.size w' v l∧Below w.heap.size w w':=by
 have Hr:=Lib.hid hr
 clear hr
 cases ad with
 | none =>
  have h0:=hnil rfl
  subst h0
  have hl0:l=[]:=by
   rcases Hr.out.2.2 with h | ⟨x,hx,_⟩
   ·exact h
   ·cases hx
  subst hl0
  have he:∀ w:World,(binOp .eql 22 (.slice none 0 0) (.slice none 0 0)).run Tryz.prog w=.ok (.bool true) w:=fun _=>rfl
  go_enter Tryz.func45,Tryz.ntmps45
  go_wp2
  go_ret
  exact ⟨_,rfl,own_nil _ _,Below.refl _ _⟩
 | some x =>
  clear hnil
  have he:∀ (w:World) (n:Nat),(binOp .eql 22 (.slice (some x) n cap) (.slice none 0 0)).run Tryz.prog w=.ok (.bool false) w:=fun _ _=>rfl
  go_enter Tryz.func45,Tryz.ntmps45
  have hown:Own w.heap.size (w.alloc (.cells #[] 5)) (.slice (some ⟨w.heap.size,0,none⟩) 0 0) [] :=
   ⟨rfl,.inr ⟨w.heap.size,0,#[],rfl,Nat.le_refl _,heap_alloc_new w _,Nat.le_refl _,by unfold maxLen;omega,rfl,rfl⟩⟩
  have Hown:=Lib.hid hown
  clear hown
  go_wp2_with (at_builtin;refine wpList_more rfl _ _ rfl w.heap.size _ [] rfl Hown.out x cap l rfl (Hr.out.below ((Below.refl _ _).alloc (Nat.le_refl _) _)) ?hB ?len ?_)
  case hB=>simp
  case len=>simp;omega
  intro v w' hown' hb
  have hgo:Below w.heap.size w w':=((Below.refl _ _).alloc (Nat.le_refl _) _).trans hb
  have Hown':=Lib.hid hown'
  clear hown'
  go_wp2
  go_ret
  exact ⟨_,rfl,Hown'.out,hgo⟩
theorem new_any (ad:Option Addr) (cap:Nat) (l:List Nat) (w:World) (hr:Row w ad l) (hl:l.length≤10000) (hnil:ad=none→cap=0) :
  Calls Tryz.prog 18 #[.slice ad l.length cap] w fun e w'=>∃ g ad' cap',e=.returned (.pointer (some ⟨g,0,none⟩))∧w.heap.size≤g∧(∀ x,ad'=some x→w.heap.size≤x.block∧x.block < g)∧Rd w' g ad' cap' l 0 0 0∧Below w.heap.size w w':=by
 have Hr:=Lib.hid hr
 clear hr
 go_enter Tryz.func18,Tryz.ntmps18
 go_wp2_with fail
 refine (clone_any ad cap l _ Hr.out hl hnil).mono ?_
 rintro e w1 ⟨v,rfl,hown,hbel⟩
 obtain ⟨a1,cap1,rfl,hr1⟩:=own_row hown Hr.out.2.1
 have Hown:=Lib.hid hown
 have Hr1:=Lib.hid hr1
 clear hown hr1 hnil
 go_wp2
 go_ret
 refine ⟨w1.heap.size,a1,cap1,rfl,hbel.size,?_,?_,hbel.alloc hbel.size _⟩
 ·intro x hx
  subst hx
  exact Hown.out.lt x.block rfl
 ·refine ⟨by simp,Hr1.out.below ((Below.refl _ _).alloc (Nat.le_refl _) _),fun _ x hx e=>?_,by simp,by simp,by simp,by simp,fun i=>by unfold World.frozen?;rw [heap_alloc_new];simp,?_⟩
  ·subst hx
   have:=(Hown.out.lt x.block rfl).2
   omega
  ·have h:=Hown.out
   rcases h.2 with ⟨h1,h2⟩ | ⟨g',c',cur,h1,h2,h3,h4,h5⟩
   ·omega
   ·cases h1;exact h4
theorem new_own (ad:Option Addr) (cap:Nat) (l:List Nat) (w:World) (hr:Row w ad l) (hl:l.length≤10000) (hnil:ad=none→cap=0) :
  Calls Tryz.prog 18 #[.slice ad l.length cap] w fun e w'=>∃ g ad' cap',e=.returned (.pointer (some ⟨g,0,none⟩))∧w.heap.size≤g∧(∀ x,ad'=some x→w.heap.size≤x.block∧x.block < g)∧Rd w' g ad' cap' l 0 0 0∧Own w.heap.size w' (.slice ad' l.length cap') l∧w'.shape? g=some (95,4)∧Below w.heap.size w w':=by
 have Hr:=Lib.hid hr
 clear hr
 go_enter Tryz.func18,Tryz.ntmps18
 go_wp2_with fail
 refine (clone_any ad cap l _ Hr.out hl hnil).mono ?_
 rintro e w1 ⟨v,rfl,hown,hbel⟩
 obtain ⟨a1,cap1,rfl,hr1⟩:=own_row hown Hr.out.2.1
 have Hown:=Lib.hid hown
 have Hr1:=Lib.hid hr1
 clear hown hr1 hnil
 go_wp2
 go_ret
 refine ⟨w1.heap.size,a1,cap1,rfl,hbel.size,?_,?_,own_below Hown.out ((Below.refl _ _).alloc (Nat.le_refl _) _),by unfold World.shape?;rw [heap_alloc_new];rfl,hbel.alloc hbel.size _⟩
 ·intro x hx
  subst hx
  exact Hown.out.lt x.block rfl
 ·refine ⟨by simp,Hr1.out.below ((Below.refl _ _).alloc (Nat.le_refl _) _),fun _ x hx e=>?_,by simp,by simp,by simp,by simp,fun i=>by unfold World.frozen?;rw [heap_alloc_new];simp,?_⟩
  ·subst hx
   have:=(Hown.out.lt x.block rfl).2
   omega
  ·have h:=Hown.out
   rcases h.2 with ⟨h1,h2⟩ | ⟨g',c',cur,h1,h2,h3,h4,h5⟩
   ·omega
   ·cases h1;exact h4
theorem left_any (g:Nat) (ad:Option Addr) (cap:Nat) (l:List Nat) (k:Nat) (code fat:Int) (w:World) (h:Rd w g ad cap l k code fat) (hl:l.length≤10000) (hk:k≤l.length) :
  Calls Tryz.prog 60 #[.pointer (some ⟨g,0,none⟩)] w fun e w'=>e=.returned (.int .i64 (l.length - k:Int))∧∃ n,w'=w.drewN n:=by
 have h0:=h.c0
 have h1:=h.c1
 clear h
 go_enter Tryz.func60,Tryz.ntmps60
 go_wp2
 go_quiet (fail)
 go_wp2
 go_ret
 exact ⟨rfl,_,rfl⟩
theorem at_any (g:Nat) (ad:Option Addr) (cap:Nat) (l:List Nat) (k:Nat) (code fat:Int) (w:World) (h:Rd w g ad cap l k code fat) :
  Calls Tryz.prog 59 #[.pointer (some ⟨g,0,none⟩)] w fun e w'=>e=.returned (.int .i64 k)∧w=w':=by
 have h1:=h.c1
 clear h
 go_enter Tryz.func59,Tryz.ntmps59
 go_wp2
 go_ret
 exact ⟨rfl,rfl⟩
theorem fault_any (g:Nat) (ad:Option Addr) (cap:Nat) (l:List Nat) (k:Nat) (code fat:Int) (w:World) (h:Rd w g ad cap l k code fat) :
  Calls Tryz.prog 126 #[.pointer (some ⟨g,0,none⟩)] w fun e w'=>e=.returned (.agg #[.int .i64 code,.int .i64 fat])∧Below w.heap.size w w':=by
 have h2:=h.c2
 have h3:=h.c3
 have hg:=h.lt
 clear h
 go_enter Tryz.func126,Tryz.ntmps126
 go_wp2
 refine bodyPost_ret (v:=.agg #[.int .i64 code,.int .i64 fat]) ?_ rfl ⟨rfl,(Below.refl _ _).alloc (Nat.le_refl _) _⟩
 exact results_cell_row rfl _ _ w.heap.size 36 #[.int .i64 code,.int .i64 fat] (0,0) _ rfl (heap_alloc_new w _) Tryz.underlying36 rfl (by kernel_rfl)
end Rd
namespace Nx
open Go.ChangeShapes Go.WideShapes Go.ChangeAt Go.RowKit
open B Put Rd
def be (l:List Nat):Nat:=l.foldl (fun a x=>256*a+x) 0
theorem be_snoc (l:List Nat) (x:Nat):be (l++[x])=256*be l+x:=by unfold be;rw [List.foldl_append];rfl
theorem be_cons (l:List Nat) (x:Nat):be (x :: l)=x*256 ^ l.length+be l:=by
 have h:∀ (m:List Nat) (a:Nat),m.foldl (fun a x=>256*a+x) a=a*256 ^ m.length+m.foldl (fun a x=>256*a+x) 0:=by
  intro m
  induction m with
  | nil=>intro a;simp
  | cons y m ih =>
   intro a
   rw [List.foldl_cons,List.foldl_cons,ih (256*a+y),ih (256*0+y),List.length_cons,Nat.pow_succ]
   rw [Nat.mul_zero,Nat.zero_add,Nat.add_mul,Nat.mul_comm 256 a,Nat.mul_assoc a 256,Nat.mul_comm 256 (256 ^ m.length)]
   omega
 unfold be
 rw [List.foldl_cons,h l]
 simp
theorem be_lt (l:List Nat) (h:∀ x ∈ l,x < 256):be l < 256 ^ l.length:=by
 induction l with
 | nil=>decide
 | cons x l ih =>
  rw [be_cons,List.length_cons,Nat.pow_succ]
  have h1:=ih fun y hy=>h y (List.mem_cons_of_mem _ hy)
  have h2:=h x (List.mem_cons_self ..)
  have h3:x*256 ^ l.length≤255*256 ^ l.length:=Nat.mul_le_mul_right _ (by omega)
  omega
def val (l:List Nat) (k s:Nat):Nat:=be ((l.drop k).take s)
theorem val_succ (l:List Nat) (k s:Nat) (h:k+s < l.length):val l k (s+1)=256*val l k s+l.getD (k+s) 0:=by
 unfold val
 rw [List.take_succ_eq_append_getElem (by rw [List.length_drop];omega),be_snoc,List.getElem_drop]
 rw [List.getD_eq_getElem?_getD,List.getElem?_eq_getElem (by omega),Option.getD_some]
theorem val_lt (l:List Nat) (k s:Nat) (h:∀ x ∈ l,x < 256):val l k s < 256 ^ s:=by
 have h1:=be_lt ((l.drop k).take s) fun x hx=>h x (List.mem_of_mem_drop (List.mem_of_mem_take hx))
 refine Nat.lt_of_lt_of_le h1 (Nat.pow_le_pow_right (by decide) ?_)
 rw [List.length_take];omega
theorem or_step (v y:Nat) (hv:v < 72057594037927936) (hy:y < 256):bits .or .u64 (IntKind.u64.wrap ((v:Int)*256)) (y:Int)=((256*v+y:Nat):Int):=by
 have h1:IntKind.u64.wrap ((v:Int)*256)=((256*v:Nat):Int):=by rw [IntKind.wrap_u64];omega
 rw [h1,u64_or_nat _ _ (by omega) (by omega)]
 congr 1
 have h2:256*v=v <<< 8:=by rw [Nat.shiftLeft_eq];omega
 rw [h2,Nat.shiftLeft_add_eq_or_of_lt (show y < 2 ^ 8 by omega)]
theorem val_small (l:List Nat) (k s:Nat) (h:∀ x ∈ l,x < 256) (hs:s < 8):val l k s < 72057594037927936 :=
 Nat.lt_of_lt_of_le (val_lt l k s h) (by rw [show 72057594037927936=256 ^ 7 from rfl];exact Nat.pow_le_pow_right (by decide) (by omega))
theorem val_step (l:List Nat) (k q:Nat) (hq:k+q < l.length) (h8:q < 8) (h:∀ x ∈ l,x < 256) :
  bits .or .u64 (IntKind.u64.wrap ((val l k q:Nat)*256:Int)) (l.getD (k+q) 0:Nat)=(val l k (q+1):Nat):=by
 rw [val_succ l k q hq,or_step _ _ (val_small l k q h h8)]
 rw [List.getD_eq_getElem?_getD,List.getElem?_eq_getElem hq]
 exact h _ (List.getElem_mem hq)
abbrev fault (code fat:Int):Value:=.iface 36 (.agg #[.int .i64 code,.int .i64 fat])
theorem next_dead (g:Nat) (ad:Option Addr) (cap:Nat) (l:List Nat) (k s:Nat) (code fat:Int) (w:World) (h:Rd w g ad cap l k code fat) (hne:code ≠ 0) :
  Calls Tryz.prog 125 #[.pointer (some ⟨g,0,none⟩),.int .i64 s] w fun e w'=>e=.panicked [{ v:=fault code fat,recovered:=false }]∧w=w':=by
 have h2:=h.c2
 have h3:=h.c3
 have hpan:∀ (u:TypeId) (v:Value) (w:World),(Instr.panic (.iface u v)).run Tryz.prog w=.halt (.panic (.iface u v)) w:=fun _ _ _=>rfl
 clear h
 go_enter Tryz.func125,Tryz.ntmps125
 go_wp2
 exact ⟨rfl,rfl,rfl⟩
theorem next_end (g:Nat) (ad:Option Addr) (cap:Nat) (l:List Nat) (k s:Nat) (w:World) (h:Rd w g ad cap l k 0 0) (hl:l.length≤10000) (hk:k≤l.length) (hs:l.length < k+s) :
  Calls Tryz.prog 125 #[.pointer (some ⟨g,0,none⟩),.int .i64 s] w fun e w'=>e=.panicked [{ v:=fault 2 l.length,recovered:=false }]∧∃ n,w'=w.drewN n:=by
 have h0:=h.c0
 have h2:=h.c2
 have h3:=h.c3
 have hpan:∀ (u:TypeId) (v:Value) (w:World),(Instr.panic (.iface u v)).run Tryz.prog w=.halt (.panic (.iface u v)) w:=fun _ _ _=>rfl
 have HR:=Lib.hid h
 clear h
 go_enter Tryz.func125,Tryz.ntmps125
 go_wp2_with fail
 refine (left_any g ad cap l k 0 0 _ HR.out hl hk).mono ?_
 rintro e w1 ⟨rfl,n,rfl⟩
 have ht:decide ((s:Int) > (l.length:Int) - (k:Int))=true:=decide_eq_true (by omega)
 go_wp2
 exact ⟨rfl,rfl,_,rfl⟩
theorem next_ok (g:Nat) (ad:Option Addr) (cap:Nat) (l:List Nat) (k s:Nat) (w:World) (h:Rd w g ad cap l k 0 0) (hl:l.length≤10000) (hs:k+s≤l.length) (h8:s≤8) :
  Calls Tryz.prog 125 #[.pointer (some ⟨g,0,none⟩),.int .i64 s] w fun e w'=>e=.returned (.int .u64 (val l k s:Nat))∧∃ n,w'=w.drewN n:=by
 have h0:=h.c0
 have h1:=h.c1
 have h2:=h.c2
 have h3:=h.c3
 have h9:=h.cap_le
 have HR:=Lib.hid h
 clear h
 by_cases hs0:s=0
 ·subst hs0
  go_enter Tryz.func125,Tryz.ntmps125
  go_wp2_with fail
  refine (left_any g ad cap l k 0 0 _ HR.out hl (by omega)).mono ?_
  rintro e w1 ⟨rfl,n,rfl⟩
  have ht:decide ((0:Int) > (l.length:Int) - (k:Int))=false:=decide_eq_false (by omega)
  go_wp2
  go_quiet (fail)
  generalize (if cap=k then ad else Option.map (fun x=>x.add k) ad)=y
  go_wp2
  refine wp_loop_rounds 1 ?_
  rw [rounds_succ]
  go_wp2
  go_ret
  exact ⟨rfl,n+nq,by simp [World.drewN]⟩
 ·go_enter Tryz.func125,Tryz.ntmps125
  go_wp2_with fail
  refine (left_any g ad cap l k 0 0 _ HR.out hl (by omega)).mono ?_
  rintro e w1 ⟨rfl,n,rfl⟩
  have ht:decide ((s:Int) > (l.length:Int) - (k:Int))=false:=decide_eq_false (by omega)
  obtain ⟨x,rfl,hcl⟩:=HR.out.row.cells (k:=k) (by omega)
  have Hcl:=Lib.hid hcl
  clear hcl
  have hck:¬ cap=k:=by omega
  have hkc:k≤cap:=by omega
  have hksc:k+s≤cap:=by omega
  go_wp2
  go_quiet (fail)
  go_wp2
  have Hlt:=Lib.hid HR.out.row.2.1
  clear h0 h1 h2 h3 ht
  go_loop [5,46] (fun t i=>∃ q:Nat,q≤s∧i=.int .i64 q∧t=.int .u64 (val l k q:Nat)) (fun _ i=>s - (intOf i).toNat)
  case atStart=>exact ⟨0,Nat.zero_le _,rfl,rfl⟩
  case round =>
   obtain ⟨q,hq,rfl,rfl⟩:=hrel
   by_cases hlt:q < s
   ·have hcell:w.cell? ((x.add k).add q)=some (.int .u8 (l.getD (k+q) 0:Nat)):=by rw [addr_add];exact Hcl.out _ (by omega)
    have hy:l.getD (k+q) 0 < 256:=HR.out.row.lt _ (by omega)
    have hv:=val_step l k q (by omega) (by omega) Hlt.out
    have hqk:q < k+s - k:=by omega
    generalize l.getD (k+q) 0=y at hcell hv hy
    generalize hv1:val l k (q+1)=v1 at hv
    have Hv1:=Lib.hid hv1
    clear hv1
    generalize val l k q=v0 at hv
    go_wp2
    go_round
    case rel=>exact ⟨.int .u64 (v1:Int),.int .u8 (y:Int),.int .i64 ((q:Int)+1),⟨q+1,by omega,by go_num,by rw [Hv1.out]⟩,rfl,rfl,rfl⟩
    case measure=>simp [intOf];omega
   ·obtain rfl:q=s:=by omega
    go_wp2
    go_ret
    exact ⟨rfl,n+nq,by simp [World.drewN]⟩
end Nx
namespace Num
open Go.ChangeShapes Go.WideShapes Go.ChangeAt Go.RowKit
open B Put Rd Nx
theorem wpS_region_draw {P:Program} {Q:Exit→Act→List Frame→World→Prop} {a:Act} {cs:List Frame} {w:World} {id:Nat} {ops:Array Oper}
  (h:∀ t,wpOpsS P ops Q (Region.schedule (P.follows .mixedOrders) ops t) a cs { w with drawn:=w.drawn+1 }):(Code.region id ops true).wpS P Q a cs w :=
 fun b k hb hr=>let ⟨e,a',cs',w',q,r⟩:=wp_opsS _ a cs _ (h _) b k hb hr;⟨e,a',cs',w',q,.of_steps (.one step_region_draw) r⟩
theorem assert_ok (v:Value) (w:World):(Instr.typeAssert (.iface 36 v) 20 36 true).run Tryz.prog w=.ok (.tuple #[v,.bool true]) w:=by
 simp [Instr.typeAssert,run_underlying Tryz.underlying36,go_sem,Result.andThen]
theorem assert_nil (w:World):(Instr.typeAssert .nilIface 20 36 true).run Tryz.prog w=.ok (.tuple #[.agg #[.int .i64 0,.int .i64 0],.bool false]) w:=by
 have hz:(Tryz.prog.info? 36).map (·.zero)=some (some (.agg #[.int .i64 0,.int .i64 0])):=by kernel_rfl
 obtain ⟨j,hj,hz'⟩:=Option.map_eq_some_iff.1 hz
 simp [Instr.typeAssert,run_underlying Tryz.underlying36,go_sem,Result.andThen,typeInfo,zeroValue,hj,hz']
theorem Rd.keeps {w:World} {g:Nat} {ad:Option Addr} {cap:Nat} {l:List Nat} {k:Nat} {c0 f0:Int} (h:Rd w g ad cap l k c0 f0) (code fat:Int) :
  Rd ((w.setCell ⟨g,2,none⟩ (.int .i64 code)).setCell ⟨g,3,none⟩ (.int .i64 fat)) g ad cap l k code fat:=by
 have hb:But g w ((w.setCell ⟨g,2,none⟩ (.int .i64 code)).setCell ⟨g,3,none⟩ (.int .i64 fat)):=(But.set g 2 w _).trans (But.set g 3 _ _)
 refine ⟨Nat.lt_of_lt_of_le h.lt hb.size,hb.row h.row h.off,h.off,?_,?_,?_,?_,fun i=>?_,h.cap_le⟩
 ·simp [World.cell?_setCell_other,h.c0]
 ·simp [World.cell?_setCell_other,h.c1]
 ·simp [World.cell?_setCell_other,World.cell?_setCell_same,h.c2]
 ·simp [World.cell?_setCell_other,World.cell?_setCell_same,h.c3]
 ·simp [h.fz]
theorem Rd.moves {w:World} {g:Nat} {ad:Option Addr} {cap:Nat} {l:List Nat} {k:Nat} {c0 f0:Int} (h:Rd w g ad cap l k c0 f0) (k':Nat) :
  Rd (w.setCell ⟨g,1,none⟩ (.int .i64 k')) g ad cap l k' c0 f0:=by
 have hb:But g w (w.setCell ⟨g,1,none⟩ (.int .i64 k')):=But.set g 1 w _
 refine ⟨Nat.lt_of_lt_of_le h.lt hb.size,hb.row h.row h.off,h.off,?_,?_,?_,?_,fun i=>?_,h.cap_le⟩
 ·simp [World.cell?_setCell_other,h.c0]
 ·simp [World.cell?_setCell_same,h.c1]
 ·simp [World.cell?_setCell_other,h.c2]
 ·simp [World.cell?_setCell_other,h.c3]
 ·simp [h.fz]
theorem keep_nil (g:Nat) (w:World) :
  Calls Tryz.prog 124 #[.pointer (some ⟨g,0,none⟩),.nilIface] w fun e w'=>e=.returned (.tuple #[])∧Below w.heap.size w w':=by
 have ha:=assert_ok
 have hb:=assert_nil
 go_enter Tryz.func124,Tryz.ntmps124
 go_wp2
 go_end0
 exact ⟨rfl,(Below.refl _ _).alloc (Nat.le_refl _) _⟩
theorem keep_fault (g:Nat) (ad:Option Addr) (cap:Nat) (l:List Nat) (k:Nat) (c0 f0 code fat:Int) (w:World) (h:Rd w g ad cap l k c0 f0) :
  Calls Tryz.prog 124 #[.pointer (some ⟨g,0,none⟩),fault code fat] w fun e w'=>e=.returned (.tuple #[])∧But g w w'∧Rd w' g ad cap l k code fat:=by
 have h0:=h.c0
 have h1:=h.c1
 have h2:=h.c2
 have h3:=h.c3
 have h4:=h.fz 2
 have h5:=h.fz 3
 have hg:=h.lt
 have HR:=Lib.hid h
 clear h
 have ha:=assert_ok
 have hb:=assert_nil
 go_enter Tryz.func124,Tryz.ntmps124
 go_wp2
 have hk:=Rd.keeps HR.out code fat
 have hb2:But g w ((w.setCell ⟨g,2,none⟩ (.int .i64 code)).setCell ⟨g,3,none⟩ (.int .i64 fat)):=(But.set g 2 w _).trans (But.set g 3 _ _)
 have hb3:=(Below.refl _ ((w.setCell ⟨g,2,none⟩ (.int .i64 code)).setCell ⟨g,3,none⟩ (.int .i64 fat))).alloc (Nat.le_refl _) (.cells #[.int .i64 code,.int .i64 fat] 36)
 go_end0
 exact ⟨rfl,hb2.trans (But.of hb3),hk.below hb3⟩
theorem num_panic (b g:Nat) (ad:Option Addr) (cap:Nat) (l:List Nat) (k:Nat) (c0 f0 code fat:Int) (w:World) (hbox:w.cell? ⟨b,0,none⟩=some (.pointer (some ⟨g,0,none⟩))) (h:Rd w g ad cap l k c0 f0) :
  CallsD Tryz.prog 123 #[.pointer (some ⟨b,0,none⟩)] (.panicking [{ v:=fault code fat,recovered:=false }]) w fun e u' w' =>
   e=.returned (.tuple #[])∧u'=.panicking [{ v:=fault code fat,recovered:=true }]∧But g w w'∧Rd w' g ad cap l k code fat:=by
 refine callsD_of_wpS Tryz.func123 rfl fun c₀ cs hu=>?_
 apply wpS_region_draw
 intro t
 have hm:Tryz.prog.follows .mixedOrders=true:=rfl
 have hd:=h.below (w':=w.drew) ((Below.refl _ _).drew)
 have hbd:But g w w.drew:=But.of ((Below.refl _ _).drew)
 rcases Nat.mod_two_eq_zero_or_one t with ht | ht
 all_goals
  simp [Region.schedule,hm,Region.linearise,Region.linearise.go,Region.binds,List.range,List.range.loop,ht,Nat.mod_one]
  simp [wpOpsS,go_sem,recoverD,hu,hbox]
  refine (keep_fault g ad cap l k c0 f0 code fat _ hd).mono ?_
  rintro e w' ⟨rfl,hb,hr⟩
  simp [bodyPostS,results,Tryz.results123]
  exact ⟨hbd.trans hb,hr⟩
theorem num_idle (b g:Nat) (w:World) (hbox:w.cell? ⟨b,0,none⟩=some (.pointer (some ⟨g,0,none⟩))) :
  CallsD Tryz.prog 123 #[.pointer (some ⟨b,0,none⟩)] .returning w fun e u' w'=>e=.returned (.tuple #[])∧u'=.returning∧Below w.heap.size w w':=by
 refine callsD_of_wpS Tryz.func123 rfl fun c₀ cs hu=>?_
 apply wpS_region_draw
 intro t
 have hm:Tryz.prog.follows .mixedOrders=true:=rfl
 rcases Nat.mod_two_eq_zero_or_one t with ht | ht
 all_goals
  simp [Region.schedule,hm,Region.linearise,Region.linearise.go,Region.binds,List.range,List.range.loop,ht,Nat.mod_one]
  simp [wpOpsS,go_sem,recoverD,hu,hbox]
  refine (keep_nil g _).mono ?_
  rintro e w' ⟨rfl,hb⟩
  have hgo:Below w.heap.size w w':=((Below.refl _ _).drew).trans hb
  simp [bodyPostS,results,Tryz.results123]
  cases c₀
  simp_all
theorem float_panic (b g:Nat) (ad:Option Addr) (cap:Nat) (l:List Nat) (k:Nat) (c0 f0 code fat:Int) (w:World) (hbox:w.cell? ⟨b,0,none⟩=some (.pointer (some ⟨g,0,none⟩))) (h:Rd w g ad cap l k c0 f0) :
  CallsD Tryz.prog 155 #[.pointer (some ⟨b,0,none⟩)] (.panicking [{ v:=fault code fat,recovered:=false }]) w fun e u' w' =>
   e=.returned (.tuple #[])∧u'=.panicking [{ v:=fault code fat,recovered:=true }]∧But g w w'∧Rd w' g ad cap l k code fat:=by
 refine callsD_of_wpS Tryz.func155 rfl fun c₀ cs hu=>?_
 apply wpS_region_draw
 intro t
 have hm:Tryz.prog.follows .mixedOrders=true:=rfl
 have hd:=h.below (w':=w.drew) ((Below.refl _ _).drew)
 have hbd:But g w w.drew:=But.of ((Below.refl _ _).drew)
 rcases Nat.mod_two_eq_zero_or_one t with ht | ht
 all_goals
  simp [Region.schedule,hm,Region.linearise,Region.linearise.go,Region.binds,List.range,List.range.loop,ht,Nat.mod_one]
  simp [wpOpsS,go_sem,recoverD,hu,hbox]
  refine (keep_fault g ad cap l k c0 f0 code fat _ hd).mono ?_
  rintro e w' ⟨rfl,hb,hr⟩
  simp [bodyPostS,results,Tryz.results155]
  exact ⟨hbd.trans hb,hr⟩
theorem float_idle (b g:Nat) (w:World) (hbox:w.cell? ⟨b,0,none⟩=some (.pointer (some ⟨g,0,none⟩))) :
  CallsD Tryz.prog 155 #[.pointer (some ⟨b,0,none⟩)] .returning w fun e u' w'=>e=.returned (.tuple #[])∧u'=.returning∧Below w.heap.size w w':=by
 refine callsD_of_wpS Tryz.func155 rfl fun c₀ cs hu=>?_
 apply wpS_region_draw
 intro t
 have hm:Tryz.prog.follows .mixedOrders=true:=rfl
 rcases Nat.mod_two_eq_zero_or_one t with ht | ht
 all_goals
  simp [Region.schedule,hm,Region.linearise,Region.linearise.go,Region.binds,List.range,List.range.loop,ht,Nat.mod_one]
  simp [wpOpsS,go_sem,recoverD,hu,hbox]
  refine (keep_nil g _).mono ?_
  rintro e w' ⟨rfl,hb⟩
  have hgo:Below w.heap.size w w':=((Below.refl _ _).drew).trans hb
  simp [bodyPostS,results,Tryz.results155]
  cases c₀
  simp_all
end Num
namespace Nm
open Go.ChangeShapes Go.WideShapes Go.ChangeAt Go.RowKit
open B Put Rd Nx Num
structure St where
 k:Nat
 code:Int
 fat:Int
def num (l:List Nat) (s:St) (size:Nat) (low high:Int):Int × St :=
 if s.code ≠ 0 then (0,s)
 else if l.length < s.k+size then (0,⟨s.k,2,l.length⟩)
 else if (val l s.k size:Int) < low∨high < (val l s.k size:Int) then (0,⟨s.k,4,s.k⟩)
 else (val l s.k size,⟨s.k+size,0,0⟩)
def flt (l:List Nat) (s:St):Nat × St :=
 if s.code ≠ 0 then (0,s)
 else if l.length < s.k+8 then (0,⟨s.k,2,l.length⟩)
 else (val l s.k 8,⟨s.k+8,0,0⟩)
abbrev Rs (w:World) (g:Nat) (ad:Option Addr) (cap:Nat) (l:List Nat) (s:St):Prop:=Rd w g ad cap l s.k s.code s.fat
theorem num_dead (g:Nat) (ad:Option Addr) (cap:Nat) (l:List Nat) (k:Nat) (code fat:Int) (size low high:Int) (w:World) (h:Rd w g ad cap l k code fat) (hne:code ≠ 0) :
  Calls Tryz.prog 112 #[.pointer (some ⟨g,0,none⟩),.int .i64 size,.int .i64 low,.int .i64 high] w fun e w'=>e=.returned (.int .i64 0)∧Rd w' g ad cap l k code fat∧But g w w':=by
 have hmf:∀ (fn:Fn) (first cap:Array Value) (w:World),(Instr.makeFunc fn first cap).run Tryz.prog w=.ok (.func fn first cap) w:=fun _ _ _ _=>rfl
 have hpan:∀ (u:TypeId) (v:Value) (w:World),(Instr.panic (.iface u v)).run Tryz.prog w=.halt (.panic (.iface u v)) w:=fun _ _ _=>rfl
 have HR:=Lib.hid h
 clear h
 go_enter_defers Tryz.func112,Tryz.ntmps112
 go_wp2_with fail
 refine (limit_any size 7 _).mono ?_
 rintro e w' ⟨rfl,rfl⟩
 have hb1:=(Below.refl w.heap.size w).alloc (Nat.le_refl _) (.cells #[.pointer (some ⟨g,0,none⟩)] 52)
 have hbox:(w.alloc (.cells #[.pointer (some ⟨g,0,none⟩)] 52)).cell? ⟨w.heap.size,0,none⟩=some (.pointer (some ⟨g,0,none⟩)):=by simp
 have hlt1:w.heap.size < (w.alloc (.cells #[.pointer (some ⟨g,0,none⟩)] 52)).heap.size:=by simp
 have hgl:g < w.heap.size:=HR.out.lt
 have HR1:=Lib.hid (HR.out.below hb1)
 have HB1:=Lib.hid hb1
 generalize w.alloc (.cells #[.pointer (some ⟨g,0,none⟩)] 52)=w1 at hbox hlt1 HR1 HB1 ⊢
 clear hb1
 have hs7:=lim_le size 7
 generalize hsz:lim size 7=sz at hs7 ⊢
 have HSZ:=Lib.hid hsz
 clear hsz
 go_wp2_with fail
 refine (next_dead g ad cap l k sz code fat _ HR1.out hne).mono ?_
 rintro e w' ⟨rfl,rfl⟩
 go_wp2
 have HR2:=HR1
 have HB2:=HB1
 have hbox2:(w1).cell? ⟨w.heap.size,0,none⟩=some (.pointer (some ⟨g,0,none⟩)):=hbox
 refine leaves_cons (f:=123) (args:=#[.pointer (some ⟨w.heap.size,0,none⟩)]) (by simp) (by simp [go_sem]) ?_
 refine (num_panic w.heap.size g ad cap l k code fat code fat (w1) hbox2 HR2.out).mono ?_
 rintro e u' w'' ⟨rfl,rfl,hb,hr⟩
 simp [Leaves,settle,results,Tryz.results112,go_sem]
 exact ⟨hr,(But.of HB2.out).trans hb⟩
theorem num_end (g:Nat) (ad:Option Addr) (cap:Nat) (l:List Nat) (k:Nat) (size low high:Int) (w:World) (h:Rd w g ad cap l k 0 0) (hl:l.length≤10000) (hk:k≤l.length) (hs:l.length < k+(lim size 7)) :
  Calls Tryz.prog 112 #[.pointer (some ⟨g,0,none⟩),.int .i64 size,.int .i64 low,.int .i64 high] w fun e w'=>e=.returned (.int .i64 0)∧Rd w' g ad cap l k 2 l.length∧But g w w':=by
 have hmf:∀ (fn:Fn) (first cap:Array Value) (w:World),(Instr.makeFunc fn first cap).run Tryz.prog w=.ok (.func fn first cap) w:=fun _ _ _ _=>rfl
 have hpan:∀ (u:TypeId) (v:Value) (w:World),(Instr.panic (.iface u v)).run Tryz.prog w=.halt (.panic (.iface u v)) w:=fun _ _ _=>rfl
 have HR:=Lib.hid h
 clear h
 go_enter_defers Tryz.func112,Tryz.ntmps112
 go_wp2_with fail
 refine (limit_any size 7 _).mono ?_
 rintro e w' ⟨rfl,rfl⟩
 have hb1:=(Below.refl w.heap.size w).alloc (Nat.le_refl _) (.cells #[.pointer (some ⟨g,0,none⟩)] 52)
 have hbox:(w.alloc (.cells #[.pointer (some ⟨g,0,none⟩)] 52)).cell? ⟨w.heap.size,0,none⟩=some (.pointer (some ⟨g,0,none⟩)):=by simp
 have hlt1:w.heap.size < (w.alloc (.cells #[.pointer (some ⟨g,0,none⟩)] 52)).heap.size:=by simp
 have hgl:g < w.heap.size:=HR.out.lt
 have HR1:=Lib.hid (HR.out.below hb1)
 have HB1:=Lib.hid hb1
 generalize w.alloc (.cells #[.pointer (some ⟨g,0,none⟩)] 52)=w1 at hbox hlt1 HR1 HB1 ⊢
 clear hb1
 have hs7:=lim_le size 7
 generalize hsz:lim size 7=sz at hs hs7 ⊢
 have HSZ:=Lib.hid hsz
 clear hsz
 go_wp2_with fail
 refine (next_end g ad cap l k sz _ HR1.out hl hk hs).mono ?_
 rintro e w' ⟨rfl,n,rfl⟩
 go_wp2
 have hdr:Below w1.heap.size w1 (w1.drewN n):=below_drewN (Below.refl _ _) n
 have HR2:=Lib.hid (HR1.out.below hdr)
 have HB2:=Lib.hid (chain HB1.out hdr)
 have hbox2:(w1.drewN n).cell? ⟨w.heap.size,0,none⟩=some (.pointer (some ⟨g,0,none⟩)):=hbox
 refine leaves_cons (f:=123) (args:=#[.pointer (some ⟨w.heap.size,0,none⟩)]) (by simp) (by simp [go_sem]) ?_
 refine (num_panic w.heap.size g ad cap l k 0 0 2 l.length (w1.drewN n) hbox2 HR2.out).mono ?_
 rintro e u' w'' ⟨rfl,rfl,hb,hr⟩
 simp [Leaves,settle,results,Tryz.results112,go_sem]
 exact ⟨hr,(But.of HB2.out).trans hb⟩
theorem float_dead (g:Nat) (ad:Option Addr) (cap:Nat) (l:List Nat) (k:Nat) (code fat:Int) (w:World) (h:Rd w g ad cap l k code fat) (hne:code ≠ 0) :
  Calls Tryz.prog 154 #[.pointer (some ⟨g,0,none⟩)] w fun e w'=>e=.returned (.float .f64 0)∧Rd w' g ad cap l k code fat∧But g w w':=by
 have hmf:∀ (fn:Fn) (first cap:Array Value) (w:World),(Instr.makeFunc fn first cap).run Tryz.prog w=.ok (.func fn first cap) w:=fun _ _ _ _=>rfl
 have hpan:∀ (u:TypeId) (v:Value) (w:World),(Instr.panic (.iface u v)).run Tryz.prog w=.halt (.panic (.iface u v)) w:=fun _ _ _=>rfl
 have HR:=Lib.hid h
 clear h
 go_enter_defers Tryz.func154,Tryz.ntmps154
 go_wp2_with fail
 have hb1:=(Below.refl w.heap.size w).alloc (Nat.le_refl _) (.cells #[.pointer (some ⟨g,0,none⟩)] 52)
 have hbox:(w.alloc (.cells #[.pointer (some ⟨g,0,none⟩)] 52)).cell? ⟨w.heap.size,0,none⟩=some (.pointer (some ⟨g,0,none⟩)):=by simp
 have hlt1:w.heap.size < (w.alloc (.cells #[.pointer (some ⟨g,0,none⟩)] 52)).heap.size:=by simp
 have hgl:g < w.heap.size:=HR.out.lt
 have HR1:=Lib.hid (HR.out.below hb1)
 have HB1:=Lib.hid hb1
 generalize w.alloc (.cells #[.pointer (some ⟨g,0,none⟩)] 52)=w1 at hbox hlt1 HR1 HB1 ⊢
 clear hb1
 go_wp2_with fail
 refine (next_dead g ad cap l k 8 code fat _ HR1.out hne).mono ?_
 rintro e w' ⟨rfl,rfl⟩
 go_wp2
 have HR2:=HR1
 have HB2:=HB1
 have hbox2:(w1).cell? ⟨w.heap.size,0,none⟩=some (.pointer (some ⟨g,0,none⟩)):=hbox
 refine leaves_cons (f:=155) (args:=#[.pointer (some ⟨w.heap.size,0,none⟩)]) (by simp) (by simp [go_sem]) ?_
 refine (float_panic w.heap.size g ad cap l k code fat code fat (w1) hbox2 HR2.out).mono ?_
 rintro e u' w'' ⟨rfl,rfl,hb,hr⟩
 simp [Leaves,settle,results,Tryz.results154,go_sem]
 exact ⟨hr,(But.of HB2.out).trans hb⟩
theorem float_end (g:Nat) (ad:Option Addr) (cap:Nat) (l:List Nat) (k:Nat) (w:World) (h:Rd w g ad cap l k 0 0) (hl:l.length≤10000) (hk:k≤l.length) (hs:l.length < k+8) :
  Calls Tryz.prog 154 #[.pointer (some ⟨g,0,none⟩)] w fun e w'=>e=.returned (.float .f64 0)∧Rd w' g ad cap l k 2 l.length∧But g w w':=by
 have hmf:∀ (fn:Fn) (first cap:Array Value) (w:World),(Instr.makeFunc fn first cap).run Tryz.prog w=.ok (.func fn first cap) w:=fun _ _ _ _=>rfl
 have hpan:∀ (u:TypeId) (v:Value) (w:World),(Instr.panic (.iface u v)).run Tryz.prog w=.halt (.panic (.iface u v)) w:=fun _ _ _=>rfl
 have HR:=Lib.hid h
 clear h
 go_enter_defers Tryz.func154,Tryz.ntmps154
 go_wp2_with fail
 have hb1:=(Below.refl w.heap.size w).alloc (Nat.le_refl _) (.cells #[.pointer (some ⟨g,0,none⟩)] 52)
 have hbox:(w.alloc (.cells #[.pointer (some ⟨g,0,none⟩)] 52)).cell? ⟨w.heap.size,0,none⟩=some (.pointer (some ⟨g,0,none⟩)):=by simp
 have hlt1:w.heap.size < (w.alloc (.cells #[.pointer (some ⟨g,0,none⟩)] 52)).heap.size:=by simp
 have hgl:g < w.heap.size:=HR.out.lt
 have HR1:=Lib.hid (HR.out.below hb1)
 have HB1:=Lib.hid hb1
 generalize w.alloc (.cells #[.pointer (some ⟨g,0,none⟩)] 52)=w1 at hbox hlt1 HR1 HB1 ⊢
 clear hb1
 go_wp2_with fail
 refine (next_end g ad cap l k 8 _ HR1.out hl hk hs).mono ?_
 rintro e w' ⟨rfl,n,rfl⟩
 go_wp2
 have hdr:Below w1.heap.size w1 (w1.drewN n):=below_drewN (Below.refl _ _) n
 have HR2:=Lib.hid (HR1.out.below hdr)
 have HB2:=Lib.hid (chain HB1.out hdr)
 have hbox2:(w1.drewN n).cell? ⟨w.heap.size,0,none⟩=some (.pointer (some ⟨g,0,none⟩)):=hbox
 refine leaves_cons (f:=155) (args:=#[.pointer (some ⟨w.heap.size,0,none⟩)]) (by simp) (by simp [go_sem]) ?_
 refine (float_panic w.heap.size g ad cap l k 0 0 2 l.length (w1.drewN n) hbox2 HR2.out).mono ?_
 rintro e u' w'' ⟨rfl,rfl,hb,hr⟩
 simp [Leaves,settle,results,Tryz.results154,go_sem]
 exact ⟨hr,(But.of HB2.out).trans hb⟩
theorem num_below (g:Nat) (ad:Option Addr) (cap:Nat) (l:List Nat) (k:Nat) (size low high:Int) (w:World) (h:Rd w g ad cap l k 0 0) (hl:l.length≤10000) (hs:k+lim size 7≤l.length) (hlow:(val l k (lim size 7):Int) < low) :
  Calls Tryz.prog 112 #[.pointer (some ⟨g,0,none⟩),.int .i64 size,.int .i64 low,.int .i64 high] w fun e w'=>e=.returned (.int .i64 0)∧Rd w' g ad cap l k 4 k∧But g w w':=by
 have hmf:∀ (fn:Fn) (first cap:Array Value) (w:World),(Instr.makeFunc fn first cap).run Tryz.prog w=.ok (.func fn first cap) w:=fun _ _ _ _=>rfl
 have hpan:∀ (u:TypeId) (v:Value) (w:World),(Instr.panic (.iface u v)).run Tryz.prog w=.halt (.panic (.iface u v)) w:=fun _ _ _=>rfl
 have HR:=Lib.hid h
 clear h
 go_enter_defers Tryz.func112,Tryz.ntmps112
 go_wp2_with fail
 refine (limit_any size 7 _).mono ?_
 rintro e w' ⟨rfl,rfl⟩
 have hb1:=(Below.refl w.heap.size w).alloc (Nat.le_refl _) (.cells #[.pointer (some ⟨g,0,none⟩)] 52)
 have hbox:(w.alloc (.cells #[.pointer (some ⟨g,0,none⟩)] 52)).cell? ⟨w.heap.size,0,none⟩=some (.pointer (some ⟨g,0,none⟩)):=by simp
 have hlt1:w.heap.size < (w.alloc (.cells #[.pointer (some ⟨g,0,none⟩)] 52)).heap.size:=by simp
 have hgl:g < w.heap.size:=HR.out.lt
 have HR1:=Lib.hid (HR.out.below hb1)
 have HB1:=Lib.hid hb1
 generalize w.alloc (.cells #[.pointer (some ⟨g,0,none⟩)] 52)=w1 at hbox hlt1 HR1 HB1 ⊢
 clear hb1
 have hs7:=lim_le size 7
 generalize hsz:lim size 7=sz at hs hs7 hlow ⊢
 have HSZ:=Lib.hid hsz
 clear hsz
 go_wp2_with fail
 refine (next_ok g ad cap l k sz _ HR1.out hl hs (by omega)).mono ?_
 rintro e w' ⟨rfl,n,rfl⟩
 have hv56:val l k sz < 72057594037927936:=val_small l k sz HR1.out.row.2.1 (by omega)
 generalize hval:val l k sz=v at hv56 hlow ⊢
 have HV:=Lib.hid hval
 clear hval
 have hw:wrap64 (v:Int)=v:=by unfold wrap64;omega
 have hw2:IntKind.i64.wrap (v:Int)=v:=by rw [IntKind.wrap_i64];omega
 have hlo:decide ((v:Int) < low)=true:=decide_eq_true (by omega)
 have hdr:Below w1.heap.size w1 (w1.drewN n):=below_drewN (Below.refl _ _) n
 have HR2:=Lib.hid (HR1.out.below hdr)
 have HB2:=Lib.hid (chain HB1.out hdr)
 have hc1:=HR2.out.c1
 go_wp2
 have hbox2:(w1.drewN n).cell? ⟨w.heap.size,0,none⟩=some (.pointer (some ⟨g,0,none⟩)):=hbox
 refine leaves_cons (f:=123) (args:=#[.pointer (some ⟨w.heap.size,0,none⟩)]) (by simp) (by simp [go_sem]) ?_
 refine (num_panic w.heap.size g ad cap l k 0 0 4 k (w1.drewN n) hbox2 HR2.out).mono ?_
 rintro e u' w'' ⟨rfl,rfl,hb,hr⟩
 simp [Leaves,settle,results,Tryz.results112,go_sem]
 exact ⟨hr,(But.of HB2.out).trans hb⟩
theorem num_above (g:Nat) (ad:Option Addr) (cap:Nat) (l:List Nat) (k:Nat) (size low high:Int) (w:World) (h:Rd w g ad cap l k 0 0) (hl:l.length≤10000) (hs:k+lim size 7≤l.length) (hlow:¬ (val l k (lim size 7):Int) < low) (hhigh:high < (val l k (lim size 7):Int)) :
  Calls Tryz.prog 112 #[.pointer (some ⟨g,0,none⟩),.int .i64 size,.int .i64 low,.int .i64 high] w fun e w'=>e=.returned (.int .i64 0)∧Rd w' g ad cap l k 4 k∧But g w w':=by
 have hmf:∀ (fn:Fn) (first cap:Array Value) (w:World),(Instr.makeFunc fn first cap).run Tryz.prog w=.ok (.func fn first cap) w:=fun _ _ _ _=>rfl
 have hpan:∀ (u:TypeId) (v:Value) (w:World),(Instr.panic (.iface u v)).run Tryz.prog w=.halt (.panic (.iface u v)) w:=fun _ _ _=>rfl
 have HR:=Lib.hid h
 clear h
 go_enter_defers Tryz.func112,Tryz.ntmps112
 go_wp2_with fail
 refine (limit_any size 7 _).mono ?_
 rintro e w' ⟨rfl,rfl⟩
 have hb1:=(Below.refl w.heap.size w).alloc (Nat.le_refl _) (.cells #[.pointer (some ⟨g,0,none⟩)] 52)
 have hbox:(w.alloc (.cells #[.pointer (some ⟨g,0,none⟩)] 52)).cell? ⟨w.heap.size,0,none⟩=some (.pointer (some ⟨g,0,none⟩)):=by simp
 have hlt1:w.heap.size < (w.alloc (.cells #[.pointer (some ⟨g,0,none⟩)] 52)).heap.size:=by simp
 have hgl:g < w.heap.size:=HR.out.lt
 have HR1:=Lib.hid (HR.out.below hb1)
 have HB1:=Lib.hid hb1
 generalize w.alloc (.cells #[.pointer (some ⟨g,0,none⟩)] 52)=w1 at hbox hlt1 HR1 HB1 ⊢
 clear hb1
 have hs7:=lim_le size 7
 generalize hsz:lim size 7=sz at hs hs7 hlow hhigh ⊢
 have HSZ:=Lib.hid hsz
 clear hsz
 go_wp2_with fail
 refine (next_ok g ad cap l k sz _ HR1.out hl hs (by omega)).mono ?_
 rintro e w' ⟨rfl,n,rfl⟩
 have hv56:val l k sz < 72057594037927936:=val_small l k sz HR1.out.row.2.1 (by omega)
 generalize hval:val l k sz=v at hv56 hlow hhigh ⊢
 have HV:=Lib.hid hval
 clear hval
 have hw:wrap64 (v:Int)=v:=by unfold wrap64;omega
 have hw2:IntKind.i64.wrap (v:Int)=v:=by rw [IntKind.wrap_i64];omega
 have hlo:decide ((v:Int) < low)=false:=decide_eq_false (by omega)
 have hhi:decide ((v:Int) > high)=true:=decide_eq_true (by omega)
 have hdr:Below w1.heap.size w1 (w1.drewN n):=below_drewN (Below.refl _ _) n
 have HR2:=Lib.hid (HR1.out.below hdr)
 have HB2:=Lib.hid (chain HB1.out hdr)
 have hc1:=HR2.out.c1
 go_wp2
 have hbox2:(w1.drewN n).cell? ⟨w.heap.size,0,none⟩=some (.pointer (some ⟨g,0,none⟩)):=hbox
 refine leaves_cons (f:=123) (args:=#[.pointer (some ⟨w.heap.size,0,none⟩)]) (by simp) (by simp [go_sem]) ?_
 refine (num_panic w.heap.size g ad cap l k 0 0 4 k (w1.drewN n) hbox2 HR2.out).mono ?_
 rintro e u' w'' ⟨rfl,rfl,hb,hr⟩
 simp [Leaves,settle,results,Tryz.results112,go_sem]
 exact ⟨hr,(But.of HB2.out).trans hb⟩
theorem num_ok (g:Nat) (ad:Option Addr) (cap:Nat) (l:List Nat) (k:Nat) (size low high:Int) (w:World) (h:Rd w g ad cap l k 0 0) (hl:l.length≤10000) (hs:k+lim size 7≤l.length) (hlow:¬ (val l k (lim size 7):Int) < low) (hhigh:¬ high < (val l k (lim size 7):Int)) :
  Calls Tryz.prog 112 #[.pointer (some ⟨g,0,none⟩),.int .i64 size,.int .i64 low,.int .i64 high] w fun e w'=>e=.returned (.int .i64 (val l k (lim size 7):Nat))∧Rd w' g ad cap l (k+lim size 7) 0 0∧But g w w':=by
 have hmf:∀ (fn:Fn) (first cap:Array Value) (w:World),(Instr.makeFunc fn first cap).run Tryz.prog w=.ok (.func fn first cap) w:=fun _ _ _ _=>rfl
 have hpan:∀ (u:TypeId) (v:Value) (w:World),(Instr.panic (.iface u v)).run Tryz.prog w=.halt (.panic (.iface u v)) w:=fun _ _ _=>rfl
 have HR:=Lib.hid h
 clear h
 go_enter_defers Tryz.func112,Tryz.ntmps112
 go_wp2_with fail
 refine (limit_any size 7 _).mono ?_
 rintro e w' ⟨rfl,rfl⟩
 have hb1:=(Below.refl w.heap.size w).alloc (Nat.le_refl _) (.cells #[.pointer (some ⟨g,0,none⟩)] 52)
 have hbox:(w.alloc (.cells #[.pointer (some ⟨g,0,none⟩)] 52)).cell? ⟨w.heap.size,0,none⟩=some (.pointer (some ⟨g,0,none⟩)):=by simp
 have hlt1:w.heap.size < (w.alloc (.cells #[.pointer (some ⟨g,0,none⟩)] 52)).heap.size:=by simp
 have hgl:g < w.heap.size:=HR.out.lt
 have HR1:=Lib.hid (HR.out.below hb1)
 have HB1:=Lib.hid hb1
 generalize w.alloc (.cells #[.pointer (some ⟨g,0,none⟩)] 52)=w1 at hbox hlt1 HR1 HB1 ⊢
 clear hb1
 have hs7:=lim_le size 7
 generalize hsz:lim size 7=sz at hs hs7 hlow hhigh ⊢
 have HSZ:=Lib.hid hsz
 clear hsz
 go_wp2_with fail
 refine (next_ok g ad cap l k sz _ HR1.out hl hs (by omega)).mono ?_
 rintro e w' ⟨rfl,n,rfl⟩
 have hv56:val l k sz < 72057594037927936:=val_small l k sz HR1.out.row.2.1 (by omega)
 generalize hval:val l k sz=v at hv56 hlow hhigh ⊢
 have HV:=Lib.hid hval
 clear hval
 have hw:wrap64 (v:Int)=v:=by unfold wrap64;omega
 have hw2:IntKind.i64.wrap (v:Int)=v:=by rw [IntKind.wrap_i64];omega
 have hlo:decide ((v:Int) < low)=false:=decide_eq_false (by omega)
 have hhi:decide ((v:Int) > high)=false:=decide_eq_false (by omega)
 have hdr:Below w1.heap.size w1 (w1.drewN n):=below_drewN (Below.refl _ _) n
 have HR2:=Lib.hid (HR1.out.below hdr)
 have HB2:=Lib.hid (chain HB1.out hdr)
 have hc1:=HR2.out.c1
 have hz1:=HR2.out.fz 1
 go_wp2
 have hbox2:((w1.drewN n).setCell ⟨g,1,none⟩ (.int .i64 ((k:Int)+sz))).cell? ⟨w.heap.size,0,none⟩=some (.pointer (some ⟨g,0,none⟩)):=by
  rw [World.cell?_setCell_other _ _ _ _ (by first | (simp;done) | (simp;omega))];exact hbox
 have hset:But g (w1.drewN n) ((w1.drewN n).setCell ⟨g,1,none⟩ (.int .i64 ((k:Int)+sz))):=But.set g 1 _ _
 have hmv:Rd ((w1.drewN n).setCell ⟨g,1,none⟩ (.int .i64 ((k:Int)+sz))) g ad cap l (k+sz) 0 0:=by
  have h:=Rd.moves HR2.out (k+sz)
  rw [Int.natCast_add] at h;exact h
 refine leaves_cons (f:=123) (args:=#[.pointer (some ⟨w.heap.size,0,none⟩)]) (by simp) (by simp [go_sem]) ?_
 refine (num_idle w.heap.size g _ hbox2).mono ?_
 rintro e u' w'' ⟨rfl,rfl,hb⟩
 simp [Leaves,settle,results,Tryz.results112,go_sem]
 try rw [HSZ.out]
 exact ⟨HV.out.symm ▸ rfl,hmv.below hb,((But.of HB2.out).trans hset).trans (But.of hb)⟩
theorem float_ok (g:Nat) (ad:Option Addr) (cap:Nat) (l:List Nat) (k:Nat) (w:World) (h:Rd w g ad cap l k 0 0) (hl:l.length≤10000) (hs:k+8≤l.length) :
  Calls Tryz.prog 154 #[.pointer (some ⟨g,0,none⟩)] w fun e w'=>e=.returned (.float .f64 (val l k 8))∧Rd w' g ad cap l (k+8) 0 0∧But g w w':=by
 have hmf:∀ (fn:Fn) (first cap:Array Value) (w:World),(Instr.makeFunc fn first cap).run Tryz.prog w=.ok (.func fn first cap) w:=fun _ _ _ _=>rfl
 have hpan:∀ (u:TypeId) (v:Value) (w:World),(Instr.panic (.iface u v)).run Tryz.prog w=.halt (.panic (.iface u v)) w:=fun _ _ _=>rfl
 have HR:=Lib.hid h
 clear h
 have hfb:=frombits_call
 go_enter_defers Tryz.func154,Tryz.ntmps154
 go_wp2_with fail
 have hb1:=(Below.refl w.heap.size w).alloc (Nat.le_refl _) (.cells #[.pointer (some ⟨g,0,none⟩)] 52)
 have hbox:(w.alloc (.cells #[.pointer (some ⟨g,0,none⟩)] 52)).cell? ⟨w.heap.size,0,none⟩=some (.pointer (some ⟨g,0,none⟩)):=by simp
 have hlt1:w.heap.size < (w.alloc (.cells #[.pointer (some ⟨g,0,none⟩)] 52)).heap.size:=by simp
 have hgl:g < w.heap.size:=HR.out.lt
 have HR1:=Lib.hid (HR.out.below hb1)
 have HB1:=Lib.hid hb1
 generalize w.alloc (.cells #[.pointer (some ⟨g,0,none⟩)] 52)=w1 at hbox hlt1 HR1 HB1 ⊢
 clear hb1
 go_wp2_with fail
 refine (next_ok g ad cap l k 8 _ HR1.out hl hs (by omega)).mono ?_
 rintro e w' ⟨rfl,n,rfl⟩
 generalize hval:val l k 8=v
 have HV:=Lib.hid hval
 clear hval
 have hdr:Below w1.heap.size w1 (w1.drewN n):=below_drewN (Below.refl _ _) n
 have HR2:=Lib.hid (HR1.out.below hdr)
 have HB2:=Lib.hid (chain HB1.out hdr)
 have hc1:=HR2.out.c1
 have hz1:=HR2.out.fz 1
 go_wp2
 have hbox2:((w1.drewN n).setCell ⟨g,1,none⟩ (.int .i64 ((k:Int)+8))).cell? ⟨w.heap.size,0,none⟩=some (.pointer (some ⟨g,0,none⟩)):=by
  rw [World.cell?_setCell_other _ _ _ _ (by first | (simp;done) | (simp;omega))];exact hbox
 have hset:But g (w1.drewN n) ((w1.drewN n).setCell ⟨g,1,none⟩ (.int .i64 ((k:Int)+8))):=But.set g 1 _ _
 have hmv:Rd ((w1.drewN n).setCell ⟨g,1,none⟩ (.int .i64 ((k:Int)+8))) g ad cap l (k+8) 0 0:=by
  have h:=Rd.moves HR2.out (k+8)
  rw [Int.natCast_add] at h;exact h
 refine leaves_cons (f:=155) (args:=#[.pointer (some ⟨w.heap.size,0,none⟩)]) (by simp) (by simp [go_sem]) ?_
 refine (float_idle w.heap.size g _ hbox2).mono ?_
 rintro e u' w'' ⟨rfl,rfl,hb⟩
 simp [Leaves,settle,results,Tryz.results154,go_sem]
 try rw [HSZ.out]
 exact ⟨HV.out.symm ▸ rfl,hmv.below hb,((But.of HB2.out).trans hset).trans (But.of hb)⟩
def Good (l:List Nat) (s:St):Prop:=s.k≤l.length∧(s.code=0→s.fat=0)
theorem num_good (l:List Nat) (s:St) (size:Nat) (low high:Int) (h:Good l s):Good l (num l s size low high).2:=by
 unfold num
 split
 ·exact h
 ·split
  ·exact ⟨h.1,fun e=>by simp at e⟩
  ·split
   ·exact ⟨h.1,fun e=>by simp at e⟩
   ·exact ⟨by simp;omega,fun _=>rfl⟩
theorem flt_good (l:List Nat) (s:St) (h:Good l s):Good l (flt l s).2:=by
 unfold flt
 split
 ·exact h
 ·split
  ·exact ⟨h.1,fun e=>by simp at e⟩
  ·exact ⟨by simp;omega,fun _=>rfl⟩
theorem num_any (g:Nat) (ad:Option Addr) (cap:Nat) (l:List Nat) (s:St) (size low high:Int) (w:World) (h:Rs w g ad cap l s) (hl:l.length≤10000) (hg:Good l s) :
  Calls Tryz.prog 112 #[.pointer (some ⟨g,0,none⟩),.int .i64 size,.int .i64 low,.int .i64 high] w fun e w' =>
   e=.returned (.int .i64 (num l s (lim size 7) low high).1)∧Rs w' g ad cap l (num l s (lim size 7) low high).2∧But g w w':=by
 obtain ⟨k,code,fat⟩:=s
 unfold num
 by_cases h0:code ≠ 0
 ·rw [if_pos h0];exact num_dead g ad cap l k code fat size low high w h h0
 ·rw [if_neg h0]
  obtain rfl:code=0:=by omega
  obtain rfl:fat=0:=hg.2 rfl
  by_cases h1:l.length < k+lim size 7
  ·rw [if_pos h1];exact num_end g ad cap l k size low high w h hl hg.1 h1
  ·rw [if_neg h1]
   by_cases h2:(val l k (lim size 7):Int) < low
   ·rw [if_pos (.inl h2)];exact num_below g ad cap l k size low high w h hl (by omega) h2
   ·by_cases h3:high < (val l k (lim size 7):Int)
    ·rw [if_pos (.inr h3)];exact num_above g ad cap l k size low high w h hl (by omega) h2 h3
    ·rw [if_neg (by rintro (h | h) <;> contradiction)];exact num_ok g ad cap l k size low high w h hl (by omega) h2 h3
theorem float_any (g:Nat) (ad:Option Addr) (cap:Nat) (l:List Nat) (s:St) (w:World) (h:Rs w g ad cap l s) (hl:l.length≤10000) (hg:Good l s) :
  Calls Tryz.prog 154 #[.pointer (some ⟨g,0,none⟩)] w fun e w' =>
   e=.returned (.float .f64 (flt l s).1)∧Rs w' g ad cap l (flt l s).2∧But g w w':=by
 obtain ⟨k,code,fat⟩:=s
 unfold flt
 by_cases h0:code ≠ 0
 ·rw [if_pos h0];exact float_dead g ad cap l k code fat w h h0
 ·rw [if_neg h0]
  obtain rfl:code=0:=by omega
  obtain rfl:fat=0:=hg.2 rfl
  by_cases h1:l.length < k+8
  ·rw [if_pos h1];exact float_end g ad cap l k w h hl hg.1 h1
  ·rw [if_neg h1];exact float_ok g ad cap l k w h hl (by omega)
theorem bool_any (g:Nat) (ad:Option Addr) (cap:Nat) (l:List Nat) (s:St) (w:World) (h:Rs w g ad cap l s) (hl:l.length≤10000) (hg:Good l s) :
  Calls Tryz.prog 153 #[.pointer (some ⟨g,0,none⟩)] w fun e w' =>
   e=.returned (.bool (decide ((num l s 1 0 1).1=1)))∧Rs w' g ad cap l (num l s 1 0 1).2∧But g w w':=by
 have h1:=num_any g ad cap l s 1 0 1 w h hl hg
 rw [show lim 1 7=1 from rfl] at h1
 generalize num l s 1 0 1=r at h1
 clear h hg
 go_enter Tryz.func153,Tryz.ntmps153
 go_wp2_with fail
 refine h1.mono ?_
 rintro e w' ⟨rfl,hr,hb⟩
 have HR:=Lib.hid hr
 clear hr h1
 go_wp2
 go_ret
 exact ⟨rfl,HR.out,hb⟩
end Nm
namespace Flat
open Go Go.ChangeShapes Go.WideShapes
section
variable {α β:Type}
def All2 (R:α→β→Prop):List α→List β→Prop
 | [],[]=>True
 | a :: l,b :: m=>R a b∧All2 R l m
 | _,_=>False
variable {R:α→β→Prop}
theorem All2.length:∀ {a:List α} {b:List β},All2 R a b→a.length=b.length
 | [],[],_=>rfl
 | _ :: _,_ :: _,⟨_,h⟩=>by simp [All2.length h]
 | [],_ :: _,h=>h.elim
 | _ :: _,[],h=>h.elim
theorem All2.append:∀ {a:List α} {b:List β} {c:List α} {d:List β},All2 R a b→All2 R c d→All2 R (a++c) (b++d)
 | [],[],_,_,_,h=>h
 | _ :: _,_ :: _,_,_,⟨h,k⟩,h2=>⟨h,All2.append k h2⟩
 | [],_ :: _,_,_,h,_=>h.elim
 | _ :: _,[],_,_,h,_=>h.elim
theorem All2.split:∀ {a c:List α} {b:List β},All2 R (a++c) b→All2 R a (b.take a.length)∧All2 R c (b.drop a.length)
 | [],_,_,h=>⟨trivial,h⟩
 | _ :: _,_,_ :: _,⟨h,k⟩=>⟨⟨h,(All2.split k).1⟩,(All2.split k).2⟩
 | _ :: _,_,[],h=>h.elim
theorem All2.at:∀ {a:List α} {b:List β},All2 R a b→∀ {i:Nat} {x:α} {y:β},a[i]?=some x→b[i]?=some y→R x y
 | _ :: _,_ :: _,⟨h,_⟩,0,_,_,h1,h2=>by simp at h1 h2;subst h1 h2;exact h
 | _ :: _,_ :: _,⟨_,k⟩,i+1,_,_,h1,h2=>All2.at k (i:=i) (by simpa using h1) (by simpa using h2)
 | [],_,_,_,_,_,h1,_=>by simp at h1
 | _ :: _,[],h,_,_,_,_,_=>h.elim
theorem All2.mono {S:α→β→Prop} (hm:∀ x y,R x y→S x y):∀ {a:List α} {b:List β},All2 R a b→All2 S a b
 | [],[],_=>trivial
 | _ :: _,_ :: _,⟨h,k⟩=>⟨hm _ _ h,All2.mono hm k⟩
 | [],_ :: _,h=>h.elim
 | _ :: _,[],h=>h.elim
end
def rowT (P:Program) (t:TypeId):Bool:=match P.underlying t with | some (.struct _) | some (.array _ _)=>true | _=>false
def flatF (P:Program) (g:TypeId→Option (List TypeId)):Nat→List Field→Option (List TypeId)
 | _,[]=>some []
 | o,f :: fs=>if f.name ≠ "_"∧f.offset=o then
   match g f.type with
   | some r=>if r.length=P.cellsOf f.type then (flatF P g (o+r.length) fs).map (r++·) else none
   | none=>none
  else none
def flat (P:Program):Nat→TypeId→Option (List TypeId)
 | 0,_=>none
 | d+1,t=>match P.underlying t with
  | some (.struct fs)=>if P.stoodInHeld t=true then none else match flatF P (flat P d) 0 fs.toList with
   | some l=>if l.length=P.cellsOf t then some l else none
   | none=>none
  | some (.array n e)=>match flat P d e with
   | some r=>if r.length=P.cellsOf e∧n*P.cellsOf e=P.cellsOf t then some (List.replicate n r).flatten else none
   | none=>none
  | some _=>if P.cellsOf t=1 then some [t] else none
  | none=>none
theorem flatF_cons {P:Program} {g:TypeId→Option (List TypeId)} {o:Nat} {f:Field} {fs:List Field} {l:List TypeId} (h:flatF P g o (f :: fs)=some l) :
  f.name ≠ "_"∧f.offset=o∧∃ r l',g f.type=some r∧r.length=P.cellsOf f.type∧flatF P g (o+r.length) fs=some l'∧l=r++l':=by
 unfold flatF at h
 split at h
 ·rename_i h1
  split at h
  ·rename_i r hr
   split at h
   ·rename_i hl
    simp only [Option.map_eq_some_iff] at h
    obtain ⟨l',h2,rfl⟩:=h
    exact ⟨h1.1,h1.2,r,l',hr,hl,h2,rfl⟩
   ·cases h
  ·cases h
 ·cases h
theorem take_two {α:Type} (l:List α) (o a b:Nat):(l.drop o).take (a+b)=(l.drop o).take a++(l.drop (o+a)).take b:=by
 rw [List.take_add,List.drop_drop]
section
variable {P:Program} {R:TypeId→Value→Prop} {G:TypeId→List Value→Prop} {g:TypeId→Option (List TypeId)}
end
section
variable {H:Type} {enc:TypeId × Value→H} {P:Program} {w:World} {base:Nat} {spare:Nat→Bool} {held:Bool}
end
section
variable {P:Program}
def vOf (P:Program) (t:TypeId) (cs:List Value):Value:=if rowT P t then .agg cs.toArray else cs.headD undef
def LeafEq (P:Program) (t:TypeId) (p:Value × Value):Prop:=∃ b:Bool,(∀ D w,(Op.equalIn (D+1) t p.1 p.2).run P w=.ok b w)∧(b=true ↔ p.1=p.2)
theorem leaf_int {t:TypeId} {k:IntKind} (h:P.underlying t=some (.int k)) (a b:Int):LeafEq P t (.int k a,.int k b):=⟨a == b,fun D w=>run_equalIn_int w D t k k a b h,by simp⟩
theorem leaf_bool {t:TypeId} (h:P.underlying t=some .bool) (a b:Bool):LeafEq P t (.bool a,.bool b):=⟨a == b,fun D w=>run_equalIn_bool w D t a b h,by simp⟩
theorem run_part (w:World) {t:TypeId} {d:TypeDesc} (hu:P.underlying t=some d) (hc:rowT P t=false→P.cellsOf t=1) (cs:List Value) (off:Nat) (hl:off+P.cellsOf t≤cs.length) :
  (part t cs.toArray off).run P w=.ok (vOf P t ((cs.drop off).take (P.cellsOf t))) w:=by
 obtain ⟨i,hi⟩:=info_of_underlying hu
 have hagg:(isAgg t).run P w=.ok (rowT P t) w:=by
  unfold isAgg rowT
  rw [Sem.run_bind,run_underlying hu w]
  rw [hu]
  cases d <;> simp
 unfold part vOf
 rw [Sem.run_bind,hagg,Result.andThen_ok]
 cases hr:rowT P t with
 | true =>
  simp only [if_true,Sem.run_bind,run_sizeOf w hi,Result.andThen_ok,Sem.run_pure]
  congr 2
  simp [List.extract]
 | false =>
  have h1:=hc hr
  have h2:off < cs.length:=by omega
  simp only [Bool.false_eq_true,if_false,List.getElem?_toArray,List.getElem?_eq_getElem h2,Sem.run_pure,h1]
  have h3:(cs.drop off).take 1=[cs[off]]:=by rw [List.drop_eq_getElem_cons h2];rfl
  rw [h3]
  simp
theorem cells_one {d:Nat} {t:TypeId} {ts:List TypeId} (h:flat P d t=some ts):(∃ dd,P.underlying t=some dd)∧(rowT P t=false→P.cellsOf t=1):=by
 cases d with
 | zero=>simp [flat] at h
 | succ d =>
  unfold flat at h
  unfold rowT
  split at h
  ·rename_i hu;exact ⟨⟨_,hu⟩,by rw [hu];simp⟩
  ·rename_i hu;exact ⟨⟨_,hu⟩,by rw [hu];simp⟩
  ·rename_i hu
   split at h
   ·rename_i h1;exact ⟨⟨_,hu⟩,fun _=>h1⟩
   ·cases h
  ·cases h
def EqG (P:Program) (D:Nat) (g:TypeId→Option (List TypeId)):Prop:=∀ (t:TypeId) (ts:List TypeId) (zs:List (Value × Value)),g t=some ts→All2 (LeafEq P) ts zs →
 ∃ b:Bool,(∀ w,(Op.equalIn D t (vOf P t (zs.map (·.1))) (vOf P t (zs.map (·.2)))).run P w=.ok b w)∧(b=true ↔ zs.map (·.1)=zs.map (·.2))
theorem map_part {γ:Type} (f:Value × Value→γ) (zs:List (Value × Value)) (o n:Nat):((zs.map f).drop o).take n=((zs.drop o).take n).map f:=by
 rw [← List.map_drop,← List.map_take]
theorem fields_eq {D d:Nat} (hg:EqG P D (flat P d)) (zs:List (Value × Value)):∀ (fs:List Field) (o:Nat) (l:List TypeId),flatF P (flat P d) o fs=some l→o+l.length≤zs.length →
  All2 (LeafEq P) l ((zs.drop o).take l.length) →
  ∃ b:Bool,(∀ w,(Op.eqFields D (zs.map (·.1)).toArray (zs.map (·.2)).toArray fs).run P w=.ok b w)∧(b=true ↔ ((zs.drop o).take l.length).map (·.1)=((zs.drop o).take l.length).map (·.2))
 | [],_,l,h,_,_=>by
  simp only [flatF,Option.some.injEq] at h
  subst h
  exact ⟨true,fun w=>by simp [Op.eqFields],by simp⟩
 | f :: fs,o,l,h,hlen,hall=>by
  obtain ⟨hn,ho,r,l',h1,h2,h3,rfl⟩:=flatF_cons h
  obtain ⟨⟨dd,hu⟩,hone⟩:=cells_one h1
  rw [List.length_append] at hlen hall ⊢
  rw [take_two] at hall ⊢
  have hs:=hall.split
  have hlr:((zs.drop o).take r.length).length=r.length:=by simp;omega
  rw [List.take_left' hlr,List.drop_left' hlr] at hs
  obtain ⟨b,hb,hiff⟩:=hg f.type r _ h1 hs.1
  obtain ⟨b',hb',hiff'⟩:=fields_eq hg zs fs (o+r.length) l' h3 (by omega) hs.2
  have p1:=fun w=>run_part (P:=P) w hu hone (zs.map (·.1)) f.offset (by simp;omega)
  have p2:=fun w=>run_part (P:=P) w hu hone (zs.map (·.2)) f.offset (by simp;omega)
  rw [ho,← h2] at p1 p2
  simp only [map_part] at p1 p2
  refine ⟨b && b',fun w=>?_,?_⟩
  ·simp only [Op.eqFields,hn,ne_eq,not_false_eq_true,if_true,Sem.run_bind,ho,p1,p2,hb,Result.andThen_ok]
   cases b
   ·simp
   ·simpa using hb' w
  ·rw [Bool.and_eq_true,hiff,hiff',List.map_append,List.map_append]
   constructor
   ·rintro ⟨e1,e2⟩;rw [e1,e2]
   ·intro e;exact List.append_inj e (by simp)
theorem items_eq {D d:Nat} (hg:EqG P D (flat P d)) {e:TypeId} {r:List TypeId} (hr:flat P d e=some r) (hc:r.length=P.cellsOf e) (zs:List (Value × Value)):∀ (n k:Nat),(k+n)*P.cellsOf e≤zs.length →
  All2 (LeafEq P) (List.replicate n r).flatten ((zs.drop (k*P.cellsOf e)).take (n*P.cellsOf e)) →
  ∃ b:Bool,(∀ w,(Op.eqItems D e (P.cellsOf e) (zs.map (·.1)).toArray (zs.map (·.2)).toArray (List.range' k n)).run P w=.ok b w) ∧
   (b=true ↔ ((zs.drop (k*P.cellsOf e)).take (n*P.cellsOf e)).map (·.1)=((zs.drop (k*P.cellsOf e)).take (n*P.cellsOf e)).map (·.2))
 | 0,k,_,_=>⟨true,fun w=>by simp [Op.eqItems],by simp⟩
 | n+1,k,hlen,hall=>by
  obtain ⟨⟨dd,hu⟩,hone⟩:=cells_one hr
  have hlen':k*P.cellsOf e+P.cellsOf e+n*P.cellsOf e≤zs.length:=by
   have:(k+(n+1))*P.cellsOf e=k*P.cellsOf e+P.cellsOf e+n*P.cellsOf e:=by
    rw [Nat.add_mul,Nat.add_mul,Nat.one_mul];omega
   omega
  rw [List.replicate_succ,List.flatten_cons] at hall
  rw [Nat.add_mul,Nat.one_mul,Nat.add_comm (n*_),take_two] at hall ⊢
  have hs:=hall.split
  have hlr:((zs.drop (k*P.cellsOf e)).take (P.cellsOf e)).length=r.length:=by rw [hc];simp;omega
  rw [List.take_left' hlr,List.drop_left' hlr] at hs
  obtain ⟨b,hb,hiff⟩:=hg e r _ hr hs.1
  have hk:k*P.cellsOf e+P.cellsOf e=(k+1)*P.cellsOf e:=by rw [Nat.add_mul,Nat.one_mul]
  rw [hk] at hs ⊢
  obtain ⟨b',hb',hiff'⟩:=items_eq hg hr hc zs n (k+1) (by rw [Nat.add_mul,Nat.add_mul] at *;omega) hs.2
  have p1:=fun w=>run_part (P:=P) w hu hone (zs.map (·.1)) (k*P.cellsOf e) (by simp;omega)
  have p2:=fun w=>run_part (P:=P) w hu hone (zs.map (·.2)) (k*P.cellsOf e) (by simp;omega)
  simp only [map_part] at p1 p2
  refine ⟨b && b',fun w=>?_,?_⟩
  ·simp only [List.range'_succ,Op.eqItems,Sem.run_bind,p1,p2,hb,Result.andThen_ok]
   cases b
   ·simp
   ·simpa using hb' w
  ·rw [Bool.and_eq_true,hiff,hiff',List.map_append,List.map_append]
   constructor
   ·rintro ⟨e1,e2⟩;rw [e1,e2]
   ·intro e;exact List.append_inj e (by simp)
theorem eq_flat:∀ (d D:Nat),d≤D→EqG P D (flat P d)
 | 0,_,_=>fun t ts zs h _=>by simp [flat] at h
 | d+1,0,h=>absurd h (by omega)
 | d+1,D+1,hD=>fun t ts zs h hall=>by
  have IH:=eq_flat d D (by omega)
  unfold flat at h
  split at h
  ·rename_i fs hu
   split at h
   ·cases h
   ·rename_i hst
    split at h
    ·rename_i l hl
     split at h
     ·rename_i hlen
      simp only [Option.some.injEq] at h;subst h
      have hz:=hall.length
      obtain ⟨b,hb,hiff⟩:=fields_eq IH zs fs.toList 0 l hl (by omega) (by rw [List.drop_zero,hz,List.take_length];exact hall)
      rw [List.drop_zero,hz,List.take_length] at hiff
      have hfs:P.fieldsOf t=fs:=by simp [Program.fieldsOf,hu]
      refine ⟨b,fun w=>?_,hiff⟩
      have hr:rowT P t=true:=by unfold rowT;rw [hu]
      unfold vOf
      rw [if_pos hr,if_pos hr,run_equalIn_struct w D t _ _ (by rw [hfs];exact hu) (by simpa using hst),hfs]
      exact hb w
     ·cases h
    ·cases h
  ·rename_i n e hu
   split at h
   ·rename_i r hr
    split at h
    ·rename_i hlen
     simp only [Option.some.injEq] at h;subst h
     have hz:=hall.length
     have hz2:n*P.cellsOf e=zs.length:=by rw [← hz];simp [hlen.1]
     obtain ⟨b,hb,hiff⟩:=items_eq IH hr hlen.1 zs n 0 (by rw [Nat.zero_add];omega) (by rw [Nat.zero_mul,List.drop_zero,hz2,List.take_length];exact hall)
     rw [Nat.zero_mul,List.drop_zero,hz2,List.take_length] at hiff
     obtain ⟨⟨dd,hue⟩,_⟩:=cells_one hr
     obtain ⟨i,hi⟩:=info_of_underlying hue
     refine ⟨b,fun w=>?_,hiff⟩
     have hrow:rowT P t=true:=by unfold rowT;rw [hu]
     unfold vOf
     rw [if_pos hrow,if_pos hrow,run_equalIn_array w D _ _ hu hi,List.range_eq_range']
     exact hb w
    ·cases h
   ·cases h
  ·rename_i dd hns hna hu
   split at h
   ·simp only [Option.some.injEq] at h;subst h
    have hr:rowT P t=false:=by unfold rowT;rw [hu];cases dd <;> simp_all
    match zs,hall with
    | [p],⟨⟨b,hb,hiff⟩,_⟩ =>
     refine ⟨b,fun w=>?_,by simpa using hiff⟩
     unfold vOf
     rw [hr]
     simpa using hb D w
   ·cases h
  ·cases h
theorem eql_flat {d:Nat} {t:TypeId} {ts:List TypeId} (h:flat P d t=some ts) (hd:d≤10000) (hr:rowT P t=true) (zs:List (Value × Value)) (hall:All2 (LeafEq P) ts zs) :
  ∃ b:Bool,(∀ w,(Op.equalIn 10000 t (.agg (zs.map (·.1)).toArray) (.agg (zs.map (·.2)).toArray)).run P w=.ok b w)∧(b=true ↔ zs.map (·.1)=zs.map (·.2)):=by
 obtain ⟨b,hb,hiff⟩:=eq_flat d 10000 hd t ts zs h hall
 refine ⟨b,fun w=>?_,hiff⟩
 have:=hb w
 unfold vOf at this
 rwa [if_pos hr,if_pos hr] at this
end
end Flat
namespace Same
open Go.ChangeShapes Go.WideShapes
open Tab Flat
def Eqs (t:TypeId) (xs ys:List Value) (b:Bool):Prop:=∀ w:World,(Op.equalIn 10000 t (.agg xs.toArray) (.agg ys.toArray)).run Tryz.prog w=.ok b w
theorem eqs_of {d:Nat} {t:TypeId} {ts:List TypeId} (h:flat Tryz.prog d t=some ts) (hd:d≤10000) (hr:rowT Tryz.prog t=true) (zs:List (Value × Value)) (hall:All2 (LeafEq Tryz.prog) ts zs) {xs ys:List Value} (hx:zs.map (·.1)=xs) (hy:zs.map (·.2)=ys) {p:Prop} [Decidable p]
  (hp:xs=ys ↔ p):Eqs t xs ys (decide p):=by
 subst hx hy
 obtain ⟨b,hb,hiff⟩:=eql_flat h hd hr zs hall
 rw [hp] at hiff
 have e:b=decide p:=by
  by_cases hq:p
  ·rw [decide_eq_true hq];exact hiff.2 hq
  ·rw [decide_eq_false hq];cases b
   ·rfl
   ·exact absurd (hiff.1 rfl) hq
 intro w
 rw [hb w,e]
theorem lint (a b:Int):LeafEq Tryz.prog 3 (I a,I b):=leaf_int Tryz.underlying3 a b
theorem lbool (a b:Bool):LeafEq Tryz.prog 4 (.bool a,.bool b):=leaf_bool Tryz.underlying4 a b
theorem flatR:flat Tryz.prog 3 75=some [3,3,3,3,3,3,3,3,3,3,3]:=by kernel_rfl
theorem flatB:flat Tryz.prog 3 77=some [3,3]:=by kernel_rfl
abbrev phTs:List TypeId:=[4,3,3,3,3,3,3,3,3,3,3,4,4]
theorem flatP:flat Tryz.prog 4 26=some (List.replicate 8 phTs).flatten:=by kernel_rfl
theorem flat8:flat Tryz.prog 3 28=some (List.replicate 8 [3]).flatten:=by kernel_rfl
theorem rail_eqs (r s:Rl):Eqs 75 r.cells s.cells (decide (r=s)):=by
 obtain ⟨a0,a1,a2,a3,a4,a5,a6,a7,a8,a9,a10⟩:=r
 obtain ⟨b0,b1,b2,b3,b4,b5,b6,b7,b8,b9,b10⟩:=s
 refine eqs_of flatR (by decide) (by kernel_rfl) [(I a0,I b0),(I a1,I b1),(I a2,I b2),(I a3,I b3),(I a4,I b4),(I a5,I b5),(I a6,I b6),(I a7,I b7),(I a8,I b8),(I a9,I b9),(I a10,I b10)]
  ⟨lint _ _,lint _ _,lint _ _,lint _ _,lint _ _,lint _ _,lint _ _,lint _ _,lint _ _,lint _ _,lint _ _,trivial⟩ rfl rfl ?_
 simp [Rl.cells]
theorem bus_eqs (r s:Bs):Eqs 77 r.cells s.cells (decide (r=s)):=by
 obtain ⟨a0,a1⟩:=r
 obtain ⟨b0,b1⟩:=s
 refine eqs_of flatB (by decide) (by kernel_rfl) [(I a0,I b0),(I a1,I b1)] ⟨lint _ _,lint _ _,trivial⟩ rfl rfl ?_
 simp [Bs.cells]
theorem ph_leaves (p q:Ph):∃ zs,All2 (LeafEq Tryz.prog) phTs zs∧zs.map (·.1)=p.cells∧zs.map (·.2)=q.cells:=by
 obtain ⟨a0,a1,a2,a3,a4,a5,a6,a7,a8,a9,a10,a11,a12⟩:=p
 obtain ⟨b0,b1,b2,b3,b4,b5,b6,b7,b8,b9,b10,b11,b12⟩:=q
 exact ⟨[(.bool a0,.bool b0),(I a1,I b1),(I a2,I b2),(I a3,I b3),(I a4,I b4),(I a5,I b5),(I a6,I b6),(I a7,I b7),(I a8,I b8),(I a9,I b9),(I a10,I b10),(.bool a11,.bool b11),(.bool a12,.bool b12)],
  ⟨lbool _ _,lint _ _,lint _ _,lint _ _,lint _ _,lint _ _,lint _ _,lint _ _,lint _ _,lint _ _,lint _ _,lbool _ _,lbool _ _,trivial⟩,rfl,rfl⟩
theorem many {α:Type} {ts:List TypeId} {enc:α→List Value} (h1:∀ p q:α,∃ zs,All2 (LeafEq Tryz.prog) ts zs∧zs.map (·.1)=enc p∧zs.map (·.2)=enc q):∀ (n:Nat) (l m:List α),l.length=n→m.length=n →
  ∃ zs,All2 (LeafEq Tryz.prog) (List.replicate n ts).flatten zs∧zs.map (·.1)=l.flatMap enc∧zs.map (·.2)=m.flatMap enc
 | 0,[],[],_,_=>⟨[],trivial,rfl,rfl⟩
 | n+1,p :: l,q :: m,hl,hm=>by
  obtain ⟨z1,h2,h3,h4⟩:=h1 p q
  obtain ⟨z2,h5,h6,h7⟩:=many h1 n l m (by simpa using hl) (by simpa using hm)
  refine ⟨z1++z2,?_,by simp [h3,h6],by simp [h4,h7]⟩
  rw [List.replicate_succ,List.flatten_cons]
  exact h2.append h5
 | 0,_ :: _,_,hl,_=>by simp at hl
 | 0,[],_ :: _,_,hm=>by simp at hm
 | n+1,[],_,hl,_=>by simp at hl
 | n+1,_ :: _,[],_,hm=>by simp at hm
theorem phases_eqs (l m:List Ph) (hl:l.length=8) (hm:m.length=8):Eqs 26 (l.flatMap Ph.cells) (m.flatMap Ph.cells) (decide (l=m)):=by
 obtain ⟨zs,h1,h2,h3⟩:=many ph_leaves 8 l m hl hm
 exact eqs_of flatP (by decide) (by kernel_rfl) zs h1 h2 h3 ⟨phases_inj,fun e=>by rw [e]⟩
theorem flat_one (l:List Int):l.flatMap (fun n=>[I n])=l.map I:=by
 induction l with
 | nil=>rfl
 | cons a l ih=>rw [List.flatMap_cons,ih];rfl
theorem eight_eqs (l m:List Int) (hl:l.length=8) (hm:m.length=8):Eqs 28 (l.map I) (m.map I) (decide (l=m)):=by
 obtain ⟨zs,h1,h2,h3⟩:=many (ts:=[3]) (enc:=fun n=>[I n]) (fun p q=>⟨[(I p,I q)],⟨lint _ _,trivial⟩,rfl,rfl⟩) 8 l m hl hm
 rw [flat_one] at h2 h3
 exact eqs_of flat8 (by decide) (by kernel_rfl) zs h1 h2 h3 ⟨ints_inj,fun e=>by rw [e]⟩
def single (T:Tab):List Int:=[T.extend,T.budget,T.start,T.revert,T.least,T.window,T.share]
theorem guardR:Tryz.prog.eqGuardType Tryz.prog.depth 75=false:=by kernel_rfl
theorem guardB:Tryz.prog.eqGuardType Tryz.prog.depth 77=false:=by kernel_rfl
theorem guardP:Tryz.prog.eqGuardType Tryz.prog.depth 26=false:=by kernel_rfl
theorem guard8:Tryz.prog.eqGuardType Tryz.prog.depth 28=false:=by kernel_rfl
end Same
namespace Copy
open Go Go.RowKit
open Tab
section
variable {P:Program}
end
section
variable {α:Type} {n:Nat} {enc:α→List Value}
theorem flat_len (he:∀ v,(enc v).length=n) (l:List α):(l.flatMap enc).length=l.length*n:=by
 induction l with
 | nil=>simp
 | cons v l ih=>rw [List.flatMap_cons,List.length_append,ih,he,List.length_cons,Nat.add_mul,Nat.one_mul,Nat.add_comm]
theorem lies_flat (he:∀ v,(enc v).length=n) {w:World} {x:Addr}:∀ (l:List α) (k:Nat),(∀ i v,l[i]?=some v→Lies w (x.add ((k+i)*n)) (enc v))→Lies w (x.add (k*n)) (l.flatMap enc)
 | [],_,_=>fun j v hv=>by simp at hv
 | u :: l,k,h=>by
  have ih:=lies_flat he l (k+1) (fun i v hv=>by have:=h (i+1) v (by simpa using hv);rwa [show k+(i+1)=k+1+i by omega] at this)
  intro j v hv
  rw [List.flatMap_cons,List.getElem?_append] at hv
  split at hv
  ·exact h 0 u rfl j v hv
  ·rename_i hj
   have:=ih (j - (enc u).length) v hv
   rw [add_two,he u,Nat.add_mul,Nat.one_mul,show k*n+n+(j - n)=k*n+j by rw [he u] at hj;omega] at this
   rw [add_two];exact this
theorem flat_at (he:∀ v,(enc v).length=n):∀ (l:List α) (i:Nat) (v:α) (j:Nat) (u:Value),l[i]?=some v→(enc v)[j]?=some u→(l.flatMap enc)[i*n+j]?=some u
 | x :: l,0,v,j,u,h,hu=>by
  obtain rfl:=Option.some.inj h
  rw [List.flatMap_cons,Nat.zero_mul,Nat.zero_add,List.getElem?_append_left (List.getElem?_eq_some_iff.1 hu).1];exact hu
 | x :: l,i+1,v,j,u,h,hu=>by
  have:=flat_at he l i v j u (by simpa using h) hu
  rw [List.flatMap_cons,List.getElem?_append_right (by rw [he,Nat.add_mul];omega),he,Nat.add_mul,Nat.one_mul,show i*n+n+j - n=i*n+j by omega]
  exact this
theorem row_of_block (he:∀ v,(enc v).length=n) {w:World} {g:Nat} {t:TypeId} {fr:Nat × Nat} (l:List α) (hg:w.heap[g]?=some (.cells (l.flatMap enc).toArray t fr)) (hl:l.length≤maxLen):RowOf n enc w ⟨some ⟨g,0,none⟩,l.length⟩ l:=by
 refine .inr ⟨_,rfl,Nat.le_refl _,hl,fun i v hv j u hu=>?_⟩
 rw [add_two,Addr.add_mid,cell_of_row _ _ _ _ _ _ hg,Nat.zero_add]
 simpa using flat_at he l i v j u hv hu
theorem RowOf.flat (he:∀ v,(enc v).length=n) {w:World} {s:Sl} {l:List α} (h:RowOf n enc w s l) (h0:0 < l.length):∃ x,s.a=some x∧Lies w x (l.flatMap enc):=by
 rcases h with ⟨_,_,rfl⟩ | ⟨x,h1,h2,h3,h4⟩
 ·simp at h0
 ·refine ⟨x,h1,?_⟩
  have:=lies_flat (x:=x) he l 0 (fun i v hv=>by rw [Nat.zero_add];exact h4 i v hv)
  rwa [Nat.zero_mul,add_zero] at this
end
end Copy
namespace Clone
open Go.ChangeShapes Go.WideShapes Go.ChangeAt Go.RowKit
open Tab Copy
open May (chain infoP infoG infoD infoR infoB)
theorem zI:(Tryz.prog.info? 3).map (fun i=>(i.zero,i.size,i.bytes))=some (some (.int .i64 0),1,8):=by kernel_rfl
theorem zG:(Tryz.prog.info? 68).map (fun i=>(i.zero,i.size,i.bytes))=some (some (.agg #[.slice none 0 0,.slice none 0 0]),2,48):=by kernel_rfl
theorem zD:(Tryz.prog.info? 71).map (fun i=>(i.zero,i.size,i.bytes))=some (some (.agg #[.int .i64 0,.float .f64 0,.float .f64 0,.float .f64 0,.float .f64 0,.int .i64 0,.int .i64 0]),7,56):=by kernel_rfl
theorem zR:(Tryz.prog.info? 75).map (fun i=>(i.zero,i.size,i.bytes))=some (some (.agg #[.int .i64 0,.int .i64 0,.int .i64 0,.int .i64 0,.int .i64 0,.int .i64 0,.int .i64 0,.int .i64 0,.int .i64 0,.int .i64 0,.int .i64 0]),11,88):=by kernel_rfl
theorem zB:(Tryz.prog.info? 77).map (fun i=>(i.zero,i.size,i.bytes))=some (some (.agg #[.int .i64 0,.int .i64 0]),2,16):=by kernel_rfl
end Clone
namespace Owned
open Go Go.RowKit
open Tab Copy
structure Blk where
 at_:Nat
 cells:List Value
 type:TypeId
def Own (B:Nat) (w:World) (L:List Blk):Prop:=(L.map Blk.at_).Nodup∧∀ x ∈ L,B≤x.at_∧w.heap[x.at_]?=some (.cells x.cells.toArray x.type (0,0))
variable {B:Nat} {w w':World} {L M:List Blk} {x:Blk}
theorem Own.nil:Own B w []:=⟨by simp,fun x h=>by simp at h⟩
theorem Own.get (h:Own B w L) (hx:x ∈ L):w.heap[x.at_]?=some (.cells x.cells.toArray x.type (0,0)):=(h.2 x hx).2
theorem Own.base (h:Own B w L) (hx:x ∈ L):B≤x.at_:=(h.2 x hx).1
theorem Own.lt (h:Own B w L) (hx:x ∈ L):x.at_ < w.heap.size:=(Array.getElem?_eq_some_iff.1 (h.get hx)).1
theorem Own.step (h:Own B w L) (hb:Below w.heap.size w w'):Own B w' L:=⟨h.1,fun x hx=>⟨h.base hx,by rw [hb.block _ (h.lt hx)];exact h.get hx⟩⟩
theorem Own.tail (h:Own B w (x :: L)):Own B w L:=⟨(List.nodup_cons.1 h.1).2,fun y hy=>h.2 y (List.mem_cons_of_mem _ hy)⟩
theorem Own.add (h:Own B w L) (hb:Below w.heap.size w w') {g:Nat} {cs:List Value} {t:TypeId} (hg:w'.heap[g]?=some (.cells cs.toArray t (0,0))) (hn:w.heap.size≤g) (hB:B≤w.heap.size):Own B w' (⟨g,cs,t⟩ :: L):=by
 refine ⟨List.nodup_cons.2 ⟨fun hm=>?_,h.1⟩,fun y hy=>?_⟩
 ·obtain ⟨y,hy,e⟩:=List.mem_map.1 hm
  have:=h.lt hy
  have e':y.at_=g:=e
  omega
 ·rcases List.mem_cons.1 hy with rfl | hy
  ·exact ⟨Nat.le_trans hB hn,hg⟩
  ·exact (h.step hb).2 y hy
theorem Own.write (h:Own B w (x :: L)) {cs:List Value} (hg:w'.heap[x.at_]?=some (.cells cs.toArray x.type (0,0))) (ho:∀ j,j ≠ x.at_→w'.heap[j]?=w.heap[j]?):Own B w' (⟨x.at_,cs,x.type⟩ :: L):=by
 have hx:=(List.nodup_cons.1 h.1).1
 refine ⟨List.nodup_cons.2 ⟨hx,(List.nodup_cons.1 h.1).2⟩,fun y hy=>?_⟩
 rcases List.mem_cons.1 hy with rfl | hy
 ·exact ⟨(h.base (x:=x) (List.mem_cons_self ..):B≤x.at_),hg⟩
 ·have hne:y.at_ ≠ x.at_:=fun e=>hx (List.mem_map.2 ⟨y,hy,e⟩)
  exact ⟨h.base (List.mem_cons_of_mem _ hy),by rw [ho _ hne];exact h.get (List.mem_cons_of_mem _ hy)⟩
theorem Own.write_at {i:Nat} (h:Own B w L) (hx:L[i]?=some x) {cs:List Value} (hg:w'.heap[x.at_]?=some (.cells cs.toArray x.type (0,0))) (ho:∀ j,j ≠ x.at_→w'.heap[j]?=w.heap[j]?):Own B w' (L.set i ⟨x.at_,cs,x.type⟩):=by
 have hi:i < L.length:=(List.getElem?_eq_some_iff.1 hx).1
 have hxi:L[i]=x:=(List.getElem?_eq_some_iff.1 hx).2
 have hm:(L.set i ⟨x.at_,cs,x.type⟩).map Blk.at_=L.map Blk.at_:=by
  rw [List.map_set]
  apply List.ext_getElem?
  intro j
  rw [List.getElem?_set]
  split
  ·rename_i e
   subst e
   simp [hi,hxi]
  ·rfl
 refine ⟨by rw [hm];exact h.1,fun y hy=>?_⟩
 obtain ⟨j,hj⟩:=List.getElem?_of_mem hy
 rw [List.getElem?_set] at hj
 split at hj
 ·rename_i e
  subst e
  obtain rfl:=Option.some.inj hj
  exact ⟨(h.base (x:=x) (List.mem_of_getElem? hx):B≤x.at_),hg⟩
 ·rename_i e
  have hyL:=List.mem_of_getElem? hj
  have hne:y.at_ ≠ x.at_:=fun e'=>by
   have h1:(L.map Blk.at_)[j]?=some y.at_:=by rw [List.getElem?_map,hj];rfl
   have h2:(L.map Blk.at_)[i]?=some x.at_:=by rw [List.getElem?_map,hx];rfl
   have hjl:=(List.getElem?_eq_some_iff.1 h1).1
   have hil:=(List.getElem?_eq_some_iff.1 h2).1
   have e1:=(List.getElem?_eq_some_iff.1 h1).2
   have e2:=(List.getElem?_eq_some_iff.1 h2).2
   have hp:=List.pairwise_iff_getElem.1 h.1
   rcases Nat.lt_trichotomy i j with h3 | h3 | h3
   ·exact hp i j hil hjl h3 (by rw [e1,e2,e'])
   ·exact e h3
   ·exact hp j i hjl hil h3 (by rw [e1,e2,e'])
  exact ⟨h.base hyL,by rw [ho _ hne];exact h.get hyL⟩
theorem Own.row_at {i:Nat} (h:Own B w L) (hx:L[i]?=some x) (cs:List Value):Own B (w.setRow x.at_ cs.toArray) (L.set i ⟨x.at_,cs,x.type⟩) :=
 h.write_at hx (setRow_heap _ _ _ _ _ _ (h.get (List.mem_of_getElem? hx))) (fun j hj=>setRow_other _ _ _ _ hj)
theorem Own.cell (h:Own B w L) (hx:x ∈ L) (i:Nat):w.cell? ⟨x.at_,i,none⟩=x.cells[i]?:=by
 rw [cell_of_row _ _ _ _ _ _ (h.get hx)];simp
theorem Own.frozen (h:Own B w L) (hx:x ∈ L) (i:Nat):w.frozen? ⟨x.at_,i,none⟩=false:=frozen_of_row _ _ _ _ _ (h.get hx)
theorem below_write {a:World} (hb:Below B a w) {g i:Nat} (hg:B≤g) (v:Value):Below B a (w.setCell ⟨g,i,none⟩ v):=hb.setCell (p:=⟨g,i,none⟩) hg v
end Owned
namespace Clone
open Go.ChangeShapes Go.WideShapes Go.ChangeAt Go.RowKit
open Tab Copy Owned
open May (chain infoP infoG infoD infoR infoB infoT)
structure NG where
 r0:List Int
 r1:List Int
 b0:Nat
 b1:Nat
def NG.gr (g:NG):Gr:=⟨g.r0,g.r1,⟨some ⟨g.b0,0,none⟩,g.r0.length⟩,⟨some ⟨g.b1,0,none⟩,g.r1.length⟩⟩
def NG.blks (g:NG):List Blk:=[⟨g.b0,g.r0.flatMap (fun n=>[I n]),3⟩,⟨g.b1,g.r1.flatMap (fun n=>[I n]),3⟩]
abbrev at0 (g n:Nat):Sl:=⟨some ⟨g,0,none⟩,n⟩
def own (T:Tab) (ns:List NG) (G D R S:Nat):List Blk :=
 ⟨G,(ns.map NG.gr).flatMap Gr.cells,68⟩ :: ⟨D,T.dets.flatMap Det.cells,71⟩ :: ⟨R,T.rails.flatMap Rl.cells,75⟩ :: ⟨S,T.buses.flatMap Bs.cells,77⟩ :: ns.flatMap NG.blks
def hd (T:Tab) (G D R S:Nat):Hd:=⟨at0 G T.groups.length,at0 D T.dets.length,at0 R T.rails.length,at0 S T.buses.length⟩
section
variable {T:Tab} {ns:List NG} {G D R S:Nat}
end
structure Eights (T:Tab):Prop where
 p:T.phases.length=8
 c:T.conflict.length=8
 f:T.flash.length=8
theorem Eights.tab {T:Tab} (k:Eights T) (h:Hd) (w:World):CellsOk T h (T.cells h).toArray:=by
 have h0:IsTab w ⟨⟨none,0⟩,⟨none,0⟩,⟨none,0⟩,⟨none,0⟩⟩ { T with groups:=[],dets:=[],rails:=[],buses:=[] } :=
  ⟨k.p,k.c,k.f,⟨[],rfl,RowOf.nil w,fun g hg=>by simp at hg⟩,RowOf.nil w,RowOf.nil w,RowOf.nil w⟩
 have:=cells_ok h0
 obtain ⟨p0,p1,p2,p3,p4,p5,p6,p7,hp⟩:=eight k.p
 obtain ⟨c0,c1,c2,c3,c4,c5,c6,c7,hc⟩:=eight k.c
 obtain ⟨f0,f1,f2,f3,f4,f5,f6,f7,hf⟩:=eight k.f
 clear k
 obtain ⟨phases,groups,conflict,dets,rails,buses,extend,budget,start,revert,least,flash,window,share⟩:=T
 simp only at hp hc hf
 subst hp hc hf
 clear this h0
 constructor
 all_goals try rfl
 case one=>simp [Tab.cells,Ph.cells,Value.oneCell']
 intro i p hp
 match i,hp with
 | 0,hp | 1,hp | 2,hp | 3,hp | 4,hp | 5,hp | 6,hp | 7,hp =>
  obtain rfl:=Option.some.inj hp
  rfl
 | i+8,hp=>cases hp
def zPh:Ph:=⟨false,0,0,0,0,0,0,0,0,0,0,false,false⟩
def zTab:Tab:=⟨List.replicate 8 zPh,[],List.replicate 8 0,[],[],[],0,0,0,0,0,List.replicate 8 0,0,0⟩
def zHd:Hd:=⟨⟨none,0⟩,⟨none,0⟩,⟨none,0⟩,⟨none,0⟩⟩
theorem info31:(Tryz.prog.info? 33).map (fun i=>(i.zero,i.size))=some (some (.agg (zTab.cells zHd).toArray),131):=by kernel_rfl
theorem z_is (w:World):IsTab w zHd zTab:=⟨rfl,rfl,rfl,⟨[],rfl,RowOf.nil w,fun g hg=>by simp at hg⟩,RowOf.nil w,RowOf.nil w,RowOf.nil w⟩
end Clone
end Go.Proofs.YtjdeemmaaiecnaaGreat
