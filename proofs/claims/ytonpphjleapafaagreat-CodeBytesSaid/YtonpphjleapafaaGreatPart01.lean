/- 27 texts in one file, in build order. -/
import Derived.Deep.MidRow
import Derived.Below
import Derived.Still
import Derived.StillTail
import Derived.Deep.QuietTactic
import Derived.Deep.WholeRow
import Derived.BigFrame
import Derived.Laws.StructEq
import Derived.Laws.CopyRow
import Derived.Deep.RegionHeld
import Derived.Lib.Hide
import Derived.Test.YtonpphjleapafaaGreatRows
import Derived.WalkKit
import Derived.ProofKit
import Derived.LoopTactic
import Derived.Laws.Rows
import Derived.Deep.Cut
import Derived.StillTailTactics
import Derived.BigQuiet
import Derived.IntWalk
import Derived.Laws.BitsAllLaws
import Derived.Lib.SlBytesConst
import Derived.OpenShut
import Derived.Laws.AppendOwnNone
import Derived.Laws.CopyOwn
import Derived.OwnWalk
import Derived.Laws.ShiftsVarLaws
import Derived.Laws.OwnMore
import Derived.Laws.AppendOwn
import Derived.Laws.BitsLemmas
import Derived.Orders
import Derived.Recover
import Derived.Laws.Tables
import Ieee.Arith
import Derived.Laws.FloatBits
import Derived.Laws.FloatArith
set_option linter.unusedVariables false
set_option linter.unusedSimpArgs false
set_option linter.unusedSectionVars false
set_option maxHeartbeats 8000000
set_option maxRecDepth 100000
open Array renaming getElem?_eq_some_iff→k3, getElem?_toList→kx, replicate→kN, length_toList→kO, all_eq_true_iff_forall_mem→Ko, setIfInBounds_comm→KR, ext'→Qa
open List renaming getElem?_eq_getElem→k4, drop_succ_cons→k7, append_assoc→k8, length_append→k9, getElem?_eq_some_iff→kg, drop_zero→kh, take_succ_cons→ki, getD_eq_getElem?_getD→kl, range→km, setIfInBounds_toArray→ko, take_zero→kq, flatMap_singleton→kr, flatMap_append→kt, length_take→kv, getElem?_map→kF, getElem_cons_succ→kG, getElem_cons_zero→kH, length_map→kI, range_succ→kJ, not_mem_nil→kK, getElem_toArray→kL, mem_cons→kQ, length_cons→kR, set_cons_zero→kT, set_cons_succ→kU, append_nil→kX, getElem?_drop→K6, nil_append→K8, all_eq_true→Kd, mem_map→Kf, getD→Kj, flatMap_cons→Kk, mem_range→Km, take_of_length_le→Kp, map_map→Kr, length_singleton→Kt, getElem_mem→Ku, mem_of_getElem?→Kw, map_append→KA, getElem?_take→KI, ext_getElem?→KN, size_toArray→KO, map_cons→KQ, getElem?_take_of_lt→KT, length_drop→KW, length_eq_zero_iff→KX, getElem?_eq_none→q5, getElem?_append→qc, length→qe, mem_of_mem_take→qf, ne_nil_of_mem→qs, getElem?_set→qx, take_add_one→qy, cons_append→qH, flatMap_map→qK, replicate→qU, idxOf?→Q6
open Nat renaming le_refl→k5, le_trans→kb, two_pow_pos→kj, add_assoc→ku, pow_le_pow_right→ky, pow_add→kB, shiftLeft_eq→kD, zero_add→kE, mul_one→kP, min_eq_left→kW, zero_mul→kZ, mul_lt_mul_right→K0, mod_lt→K1, mul_assoc→K2, lt_log2_self→K3, zero_le→K4, add_mul→K5, mul_comm→K7, xor_assoc→K9, mul_le_mul_right→Kc, div_add_mod→Kg, one_mul→Ki, add_comm→Kn, sub_zero→Ks, log2_self_le→Kv, add_le_add_left→KC, pow_zero→KE, xor_lt_two_pow→KK, lt_of_lt_of_le→KL, log2_zero→KU, div_eq_of_lt→KY, lt_of_not_le→KZ, add_zero→q0, mod_eq_zero_of_dvd→q3, mul_div_mul_right→q6, mul_mod_mul_right→q7, le_div_iff_mul_le→q8, div_lt_iff_lt_mul→q9, eq_of_testBit_eq→qh, div_le_div_right→qj, mul_le_mul_left→qn, eq_or_lt_of_le→qq, add_right_comm→qr, mul_div_cancel→qt, lt_or_ge→qu, lt_trichotomy→qv, pow_succ→qD, one_shiftLeft→qE, decEq→qI, zero_testBit→qJ, dvd_mul_left→qM, testBit_and→qR, pow_dvd_pow→qS, dvd_trans→qZ, xor_comm→Q2, zero_div→Q5
open Go.World renaming block_lt_of_cell?→k6, alloc→Kb, ownsRow_nil→qz, setRow→Q3
open Go.RowKit.Below renaming refl→ka
open Go.Region renaming wanted→ke, ready→kk, Mode→kw, noSelect→kA, free→Ka, binds→Kl, waitsFor_spec→Kx, chainB→KS, noSelect_spec→qa, lexHead→qd, free_spec→qG, waitsFor→qO
open Go.Act renaming put→kf, put_comm→Q0
open Option.some renaming inj→kz
open Bool renaming and_eq_true→kC, eq_iff_iff→q4, false_and→qi, false_eq_true→qp, or_eq_true→qP, and_false→qV, false_or→qY
open Go.Result renaming andThen_ok→kM, andThen→KJ
open Go.Value renaming oneCell'→kS, pointer→qo
open Int renaming compare_eq_ite_lt→kV, mul_lt_mul_of_pos_right→KF, lt_of_mul_lt_mul_right→KM, emod_emod_of_dvd→qg, toNat_of_nonneg→ql, toNat_natCast→qA, dvd_mul_right→qC
open Go.Sem renaming run_bind→kY, run_pure→Ke
open Except renaming ok→Kh
open Go.Instr renaming makeFunc→Kq, sureAddr→KG, loadAt→qw, typeAssert→qL, storeAt→qW, field→Q7
open Go.Code renaming region→Ky
open Go.BigFrame renaming wpList_want→Kz
open Option renaming map_some→KB, getD_some→qF
open Go.Oper renaming wp→KD
open Go.Op renaming equalIn→KH
open Function renaming comp_def→KP
open Go.Addr renaming add→KV, add_mid→Q1
open Go.AllReadyH renaming cons→qb, nil→qX
open Go.Extern.MathFloatBits renaming float64frombits→qm, float64bits→qB
open Go.FloatKind renaming decode→qN
open Go.Ending renaming returned→qQ
open Or renaming inl→qT
open Go.Exit renaming inBlock→Q4
open Go.IntKind renaming min→Q8, max→Q9
open Go renaming heap_alloc_new→Qb, cell_of_row→Qc, setCell_eq_setRow→Qd, wpQuiet_nil→Qe, frozen_of_row→Qf, wpStill_nil→Qg, mem_ready→Qh, getD_set_ne→Qi, wpAnyH_done→Qj, ready_mono→Qk, wpList_store_row→Ql, run_underlying→Qm, toList_madeCells_one→Qn, setRow_heap→Qo, getD_both→Qp, run_callFunc_extern→Qq, wp_region_any→Qr, getD_set_true→Qs, info_parts→Qt, wpList_plain→Qu, results_cell_row→Qv, wpAnyH_take→Qw, run_eqGuard_agg→Qx, wp_region_held→Qy, wpAnyH_ready→Qz, setRow_other→QA, bodyPost_ret→QC
namespace Go.Proofs.YtonpphjleapafaaGreat
namespace Tab
open Go Go.RowKit
abbrev I (n:Int):Value:=.int .i64 n
abbrev F (n:Nat):Value:=.float .f64 n
structure Ph where
 on:Bool
 min:Int
 gap:Int
 max:Int
 top:Int
 step:Int
 yellow:Int
 red:Int
 walk:Int
 blinks:Int
 J4:Int
 lock:Bool
 rest:Bool
 deriving DecidableEq,Inhabited
structure Det where
 phase:Int
 on:Nat
 off:Nat
 delay:Nat
 extend:Nat
 maxOn:Int
 maxOff:Int
 deriving DecidableEq,Inhabited
structure Rl where
 bars:Int
 clear:Int
 dwell:Int
 exit:Int
 delay:Int
 green:Int
 foot:Int
 hold:Int
 stay:Int
 most:Int
 limit:Int
 deriving DecidableEq,Inhabited
structure Bs where
 set:Int
 lock:Int
 deriving DecidableEq,Inhabited
structure Tab where
 phases:List Ph
 groups:List (List Int × List Int)
 conflict:List Int
 dets:List Det
 rails:List Rl
 buses:List Bs
 extend:Int
 budget:Int
 start:Int
 revert:Int
 least:Int
 flash:List Int
 window:Int
 share:Int
 deriving DecidableEq,Inhabited
def Ph.cells (p:Ph):List Value:=[.bool p.on,I p.min,I p.gap,I p.max,I p.top,I p.step,I p.yellow,I p.red,I p.walk,I p.blinks,I p.J4,.bool p.lock,.bool p.rest]
def Det.cells (d:Det):List Value:=[I d.phase,F d.on,F d.off,F d.delay,F d.extend,I d.maxOn,I d.maxOff]
def Rl.cells (r:Rl):List Value:=[I r.bars,I r.clear,I r.dwell,I r.exit,I r.delay,I r.green,I r.foot,I r.hold,I r.stay,I r.most,I r.limit]
def Bs.cells (b:Bs):List Value:=[I b.set,I b.lock]
structure Sl where
 a:Option Addr
 cap:Nat
abbrev Sl.val (s:Sl) (n:Nat):Value:=.slice s.a n s.cap
def jl (w:World) (x:Addr) (cs:List Value):Prop:=∀ j v,cs[j]?=some v->w.cell? (x.add j)=some v
def ju {α:Type} (n:Nat) (enc:α->List Value) (w:World) (s:Sl) (l:List α):Prop :=
 (s.a=none/\s.cap=0/\l=[])\/∃ x,s.a=some x/\l.length<=s.cap/\s.cap<=maxLen/\∀ i v,l[i]?=some v->jl w (x.add (i*n)) (enc v)
abbrev jc (w:World) (s:Sl) (l:List Int):Prop:=ju 1 (fun n=>[I n]) w s l
theorem add_zero (x:Addr):x.add 0=x:=by cases x;simp [KV]
theorem add_one (y:Addr):y.add 1=⟨y.block,y.off+1,none⟩:=by simp [KV]
theorem j25 (x:Addr) (p i:Nat):(x.add p).add i=x.add (p+i):=by
 unfold KV;by_cases hp:p=0
 ·subst hp;simp
 by_cases hi:i=0
 ·subst hi;simp
 simp [hp,hi,show ¬ (p+i=0) by omega,ku]
theorem jl.below {w w':World} {x:Addr} {cs:List Value} (h:jl w x cs) (hb:Below w.heap.size w w'):jl w' x cs:=fun j v hv =>
 (hb.cell (k6 w _ (h j v hv))).trans (h j v hv)
section
variable {α:Type} {n:Nat} {enc:α->List Value} {w w':World} {s:Sl} {l:List α}
theorem ju.below (h:ju n enc w s l) (hb:Below w.heap.size w w'):ju n enc w' s l:=by
 rcases h with h | ⟨x,h1,h2,h3,h4⟩
 ·exact .inl h
 exact .inr ⟨x,h1,h2,h3,fun i v hv=>(h4 i v hv).below hb⟩
theorem ju.len (h:ju n enc w s l):l.length<=s.cap/\s.cap<=maxLen:=by
 rcases h with ⟨_,h1,rfl⟩ | ⟨x,h1,h2,h3,h4⟩
 ·rw [h1];exact ⟨k5 _,K4 _⟩
 exact ⟨h2,h3⟩
theorem ju.at (h:ju n enc w s l) {i:Nat} {v:α} (hv:l[i]?=some v):∃ x,s.a=some x/\jl w (x.add (i*n)) (enc v):=by
 rcases h with ⟨_,_,rfl⟩ | ⟨x,h1,h2,h3,h4⟩
 ·simp at hv
 exact ⟨x,h1,h4 i v hv⟩
theorem ju.nil (w:World):ju n enc w ⟨none,0⟩ []:=.inl ⟨rfl,rfl,rfl⟩
theorem jc.at {s:Sl} {l:List Int} (h:jc w s l) {i:Nat} {v:Int} (hv:l[i]?=some v):∃ x,s.a=some x/\w.cell? (x.add i)=some (I v):=by
 obtain ⟨x,hx,hl⟩:=ju.at h hv;have:=hl 0 _ rfl;rw [kP,j25,q0] at this;exact ⟨x,hx,this⟩
end
structure Gr where
 r0:List Int
 r1:List Int
 s0:Sl
 s1:Sl
def Gr.cells (g:Gr):List Value:=[g.s0.val g.r0.length,g.s1.val g.r1.length]
def Gr.ok (w:World) (g:Gr):Prop:=jc w g.s0 g.r0/\jc w g.s1 g.r1
def Gr.data (g:Gr):List Int × List Int:=(g.r0,g.r1)
def j0g (w:World) (s:Sl) (gs:List Gr):Prop:=ju 2 Gr.cells w s gs/\∀ g ∈ gs,g.ok w
theorem Gr.ok.below {w w':World} {g:Gr} (h:g.ok w) (hb:Below w.heap.size w w'):g.ok w':=⟨h.1.below hb,h.2.below hb⟩
theorem j0g.below {w w':World} {s:Sl} {gs:List Gr} (h:j0g w s gs) (hb:Below w.heap.size w w'):j0g w' s gs:=⟨h.1.below hb,fun g hg=>(h.2 g hg).below hb⟩
theorem Ph.one (p:Ph):p.cells.toArray.all (·.oneCell')=true:=by simp [Ph.cells,kS]
theorem Det.one (d:Det):d.cells.toArray.all (·.oneCell')=true:=by simp [Det.cells,kS]
theorem Rl.one (r:Rl):r.cells.toArray.all (·.oneCell')=true:=by simp [Rl.cells,kS]
theorem Bs.one (b:Bs):b.cells.toArray.all (·.oneCell')=true:=by simp [Bs.cells,kS]
theorem Gr.one (g:Gr):g.cells.toArray.all (·.oneCell')=true:=by simp [Gr.cells,kS]
structure Hd where
 g:Sl
 d:Sl
 r:Sl
 b:Sl
def Tab.cells (T:Tab) (h:Hd):List Value :=
 T.phases.flatMap Ph.cells++(h.g.val T.groups.length :: (T.conflict.map I++(h.d.val T.dets.length :: h.r.val T.rails.length :: h.b.val T.buses.length :: I T.extend :: I T.budget :: I T.start :: I T.revert :: I T.least ::
  (T.flash.map I++[I T.window,I T.share]))))
structure jy (w:World) (h:Hd) (T:Tab):Prop where
 ph:T.phases.length=8
 cf:T.conflict.length=8
 fl:T.flash.length=8
 groups:∃ gs:List Gr,gs.map Gr.data=T.groups/\j0g w h.g gs
 dets:ju 7 Det.cells w h.d T.dets
 rails:ju 11 Rl.cells w h.r T.rails
 buses:ju 2 Bs.cells w h.b T.buses
theorem jy.below {w w':World} {h:Hd} {T:Tab} (k:jy w h T) (hb:Below w.heap.size w w'):jy w' h T :=
 ⟨k.ph,k.cf,k.fl,let ⟨gs,h1,h2⟩:=k.groups;⟨gs,h1,h2.below hb⟩,k.dets.below hb,k.rails.below hb,k.buses.below hb⟩
theorem eight {α:Type} {l:List α} (h:l.length=8):∃ a0 a1 a2 a3 a4 a5 a6 a7,l=[a0,a1,a2,a3,a4,a5,a6,a7]:=by
 match l,h with
 | [a0,a1,a2,a3,a4,a5,a6,a7],_=>exact ⟨a0,a1,a2,a3,a4,a5,a6,a7,rfl⟩
structure j45 (T:Tab) (h:Hd) (cs:Array Value):Prop where
 size:cs.size=131
 one:cs.all (·.oneCell')=true
 g:cs[104]?=some (h.g.val T.groups.length)
 d:cs[113]?=some (h.d.val T.dets.length)
 r:cs[114]?=some (h.r.val T.rails.length)
 b:cs[115]?=some (h.b.val T.buses.length)
 extend:cs[116]?=some (I T.extend)
 budget:cs[117]?=some (I T.budget)
 start:cs[118]?=some (I T.start)
 revert:cs[119]?=some (I T.revert)
 least:cs[120]?=some (I T.least)
 window:cs[129]?=some (I T.window)
 share:cs[130]?=some (I T.share)
 phases:cs.toList.take 104=T.phases.flatMap Ph.cells
 conflict:(cs.toList.drop 105).take 8=T.conflict.map I
 flash:(cs.toList.drop 121).take 8=T.flash.map I
 phase:∀ i p,T.phases[i]?=some p->(cs.toList.drop (13*i)).take 13=p.cells
theorem j9 {w:World} {h:Hd} {T:Tab} (k:jy w h T):j45 T h (T.cells h).toArray:=by
 obtain ⟨p0,p1,p2,p3,p4,p5,p6,p7,hp⟩:=eight k.ph;obtain ⟨c0,c1,c2,c3,c4,c5,c6,c7,hc⟩:=eight k.cf;obtain ⟨f0,f1,f2,f3,f4,f5,f6,f7,hf⟩:=eight k.fl;clear k;obtain ⟨phases,groups,conflict,dets,rails,buses,extend,budget,start,revert,least,flash,window,share⟩:=T;simp only at hp hc hf;subst hp hc hf;constructor;all_goals try rfl
 case one=>simp [Tab.cells,Ph.cells,kS]
 intro i p hp
 match i,hp with
 | 0,hp | 1,hp | 2,hp | 3,hp | 4,hp | 5,hp | 6,hp | 7,hp=>
  obtain rfl:=kz hp;rfl
 | i+8,hp=>cases hp
theorem j4m {l:List Ph}:(l.flatMap Ph.cells).length=13*l.length:=by
 induction l with
 | nil=>rfl
 | cons p l ih=>rw [Kk,k9,ih,kR];simp [Ph.cells];omega
theorem j4n:∀ {l m:List Ph},l.flatMap Ph.cells=m.flatMap Ph.cells->l=m
 | [],[],_=>rfl
 | [],q :: m,h=>by simp [Ph.cells] at h
 | p :: l,[],h=>by simp [Ph.cells] at h
 | p :: l,q :: m,h=>by
  rw [Kk,Kk] at h;obtain ⟨h1,h2⟩:=List.append_inj h (by simp [Ph.cells]);rw [j4n h2];obtain ⟨⟩:=p;obtain ⟨⟩:=q;simp [Ph.cells] at h1;simp [h1]
theorem j6C:∀ {l m:List Int},l.map I=m.map I->l=m
 | [],[],_=>rfl
 | [],_ :: _,h=>by simp at h
 | _ :: _,[],h=>by simp at h
 | a :: l,b :: m,h=>by
  simp only [KQ,List.cons.injEq,Value.int.injEq,true_and] at h;rw [h.1,j6C h.2]
theorem j1c {w:World} {b:Nat} {C:Array Value} {t:TypeId} {fr:Nat × Nat} (hb:w.heap[b]?=some (.cells C t fr)) (o n:Nat) (cs:List Value) (h:(C.toList.drop o).take n=cs):w.rangeAt b o cs:=by
 subst h;have h1:=World.rangeAt_of_block hb o n
 rwa [Array.toList_extract,List.extract,Nat.add_sub_cancel_left] at h1
end Tab
namespace Ph
open Go Go.RowKit
section
variable {P:Program} {ops:Array Oper} {md:kw} {D:Nat->World->Prop} {cs:List Nat}
def jbZ (cs:List Nat) (p:Nat) (L:Array Bool):Prop:=∀ q c,cs[q]?=some c->L.getD c false=decide (q < p)
def Cl (D:Nat->World->Prop) (cs:List Nat) (L:Array Bool) (w:World):Prop:=∃ p,p<=cs.length/\jbZ cs p L/\D p w
def upon (P:Program) (C:World->Prop) (w:World) (v:Value):Result Next->Prop
 | .ok (.value u) w'=>w'=w/\u=v/\C w
 | .ok .skip w'=>v=undef/\C w'
 | .ok (.enter f args) w'=>w'=w/\Calls P f args w (fun e w''=>e=.returned v/\C w'')
 | _=>False
def Steps (P:Program) (md:kw) (ops:Array Oper) (D:Nat->World->Prop) (cs:List Nat) (i:Nat) (o:Oper) (a:Act) (v:Value):Prop :=
 ∀ L w,L.size=ops.size->i ∈ kk md ops L->Cl D cs L w->upon P (Cl D cs (L.setIfInBounds i true)) w v ((execOp a.eval o).run P w)
def Passes (md:kw) (ops:Array Oper) (D:Nat->World->Prop) (cs:List Nat) (i:Nat):Prop :=
 ∀ L w,L.size=ops.size->i ∈ kk md ops L->Cl D cs L w->Cl D cs (L.setIfInBounds i true) w
def pOp (P:Program) (md:kw) (ops:Array Oper) (D:Nat->World->Prop) (cs:List Nat) (i:Nat) (K:Act->Prop) (a:Act):Prop :=
 match ops[i]? with
 | none=>False
 | some o=>if ke o (yielded ops a.tmps) then ∃ v,Steps P md ops D cs i o a v/\K (a.put o.dst v) else Passes md ops D cs i/\K (a.put o.dst undef)
theorem jac {i:Nat} {a:Act} {K K':Act->Prop} (h:∀ a,K a->K' a) (hh:pOp P md ops D cs i K a):pOp P md ops D cs i K' a:=by
 unfold pOp at *;split
 ·rename_i ho;simp only [ho] at hh
 rename_i o ho;simp only [ho] at hh;split
 ·rename_i hw;simp only [hw,if_true] at hh;exact ⟨hh.choose,hh.choose_spec.1,h _ hh.choose_spec.2⟩
 rename_i hw;simp only [hw] at hh;exact ⟨hh.1,h _ hh.2⟩
def j4o (P:Program) (md:kw) (ops:Array Oper) (D:Nat->World->Prop) (cs:List Nat) (Q:Array Bool->Act->Prop):Nat->Array Bool->Act->Prop
 | 0,listed,a=>kk md ops listed=[]/\Q listed a
 | fuel+1,listed,a =>
  kk md ops listed ≠ [] /\
  ∀ i ∈ kk md ops listed,pOp P md ops D cs i (j4o P md ops D cs Q fuel (listed.setIfInBounds i true)) a
theorem j0s {Q:Array Bool->Act->Prop} {Q':Exit->Act->World->Prop} (hQ:∀ L a w,Cl D cs L w->Q L a->Q' .normal a w):∀ (fuel:Nat) (listed:Array Bool) (a:Act) (w:World),listed.size=ops.size->Cl D cs listed w ->
  j4o P md ops D cs Q fuel listed a->wpAny P md ops Q' fuel listed a w
 | 0,_,_,_,_,hw,h=>⟨h.1,hQ _ _ _ hw h.2⟩
 | fuel+1,listed,a,w,hsz,hw,h=>⟨fun h0=>absurd h0 h.1,fun i hi=>by
   have h1:=h.2 i hi;unfold pOp at h1;unfold wpOp;split
   ·rename_i ho;simp only [ho] at h1
   rename_i o ho;simp only [ho] at h1;split
   ·rename_i hwt;simp only [hwt,if_true] at h1;obtain ⟨v,hst,hK⟩:=h1;refine .inl ?_;have h2:=hst listed w hsz hi hw;unfold KD;generalize (execOp a.eval o).run P w=r at *;have hsz':(listed.setIfInBounds i true).size=ops.size:=by simpa using hsz
    cases r with
    | ok n w' =>
     cases n <;> simp only [upon] at h2 <;> simp only [Oper.upon]
     case value u =>
      obtain ⟨rfl,rfl,hC⟩:=h2;exact j0s hQ fuel _ _ _ hsz' hC hK
     case skip =>
      obtain ⟨rfl,hC⟩:=h2;exact j0s hQ fuel _ _ _ hsz' hC hK
     case enter f args =>
      obtain ⟨rfl,hc⟩:=h2;exact hc.mono fun e w'' ⟨he,hC⟩=>by subst he;exact j0s hQ fuel _ _ _ hsz' hC hK
    | halt x w'=>simp only [upon] at h2
   rename_i hwt;simp only [hwt] at h1;exact j0s hQ fuel _ _ _ (by simpa using hsz) (h1.1 listed w hsz hi hw) h1.2⟩
def j00 (P:Program) (md:kw) (ops:Array Oper) (D:Nat->World->Prop) (cs:List Nat) (i:Nat) (o:Oper) (v:Value) (a:Act):Prop :=
 (ke o (yielded ops a.tmps)=true/\Steps P md ops D cs i o a v)\/(ke o (yielded ops a.tmps)=false/\v=undef/\Passes md ops D cs i)
theorem j00.pOp {i:Nat} {o:Oper} {v:Value} {a:Act} (hi:ops[i]?=some o) (hy:j00 P md ops D cs i o v a) {K:Act->Prop} (h:K (a.put o.dst v)):pOp P md ops D cs i K a:=by
 unfold Ph.pOp;simp only [hi];rcases hy with ⟨hw,hv⟩ | ⟨hw,rfl,hp⟩
 ·simp only [hw,if_true];exact ⟨v,hv,h⟩
 simp only [hw,qp,if_false];exact ⟨hp,h⟩
theorem j00.of_same {i:Nat} {o:Oper} {v:Value} {a a':Act} (hy:j00 P md ops D cs i o v a) (he:execOp a'.eval o=execOp a.eval o)
  (hw:ke o (yielded ops a'.tmps)=ke o (yielded ops a.tmps)):j00 P md ops D cs i o v a':=by
 unfold j00 Steps at *;rw [he,hw];exact hy
theorem j4p {i:Nat} {o:Oper} {a:Act} {K:Act->Prop} (hi:ops[i]?=some o) (h:pOp P md ops D cs i K a):∃ v,j00 P md ops D cs i o v a/\K (a.put o.dst v):=by
 unfold pOp at h;simp only [hi] at h;by_cases hw:ke o (yielded ops a.tmps)=true
 ·simp only [hw,if_true] at h;obtain ⟨v,h1,h2⟩:=h;exact ⟨v,.inl ⟨hw,h1⟩,h2⟩
 simp only [hw] at h;exact ⟨undef,.inr ⟨by simpa using hw,rfl,h.1⟩,h.2⟩
theorem jc0 {i j:Nat} {oi oj:Oper} {v:Value} (hj:ops[j]?=some oj) (hap:oi.apart ops oj=true)
  (hsi:∀ cs b,oi.op ≠ .select cs b) (hsj:∀ cs b,oj.op ≠ .select cs b) {K:Act->Prop} {a:Act}
  (hy:j00 P md ops D cs i oi v a) (h:pOp P md ops D cs j K (a.put oi.dst v)) :
  pOp P md ops D cs j (fun a'=>j00 P md ops D cs i oi v a'/\K (a'.put oi.dst v)) a:=by
 obtain ⟨h1,h2,h3⟩:=Oper.apart_spec hap
 have Ju:∀ (a:Act),j00 P md ops D cs i oi v a->∀ u,j00 P md ops D cs i oi v (a.put oj.dst u):=fun a hy u =>
  hy.of_same (execOp_put oi hsi a oj.dst u h3) (wanted_put oi a oj.dst u h3)
 unfold pOp at *;simp only [hj] at *;rw [wanted_put oj a oi.dst v h1] at h;split
 ·rename_i hw;simp only [hw,if_true] at h;obtain ⟨u,hu,hn⟩:=h;refine ⟨u,?_,Ju a hy u,by rw [<-Q0 a v u h2];exact hn⟩;unfold Steps at *
  rwa [execOp_put oj hsj a oi.dst v h1] at hu
 rename_i hw;simp only [hw] at h;exact ⟨h.1,Ju a hy _,by rw [<-Q0 a v undef h2];exact h.2⟩
theorem j5Q {Q:Array Bool->Act->Prop} {i:Nat} {oi:Oper} {v:Value} (hi:ops[i]?=some oi) (hsel:∀ (j:Nat) (o:Oper) cs b,ops[j]?=some o->o.op ≠ .select cs b) :
  ∀ (fuel:Nat) (listed:Array Bool) (a:Act),
   (∀ j oj,ops[j]?=some oj->j ≠ i->listed.getD j true=false->(∀ e ∈ oj.after,Kl md e=true->e.on ≠ i)->oi.apart ops oj=true) ->
   i ∈ kk md ops listed->j00 P md ops D cs i oi v a ->
   j4o P md ops D cs Q fuel (listed.setIfInBounds i true) (a.put oi.dst v)->j4o P md ops D cs Q (fuel+1) listed a:=by
 intro fuel
 induction fuel with
 | zero =>
  intro listed a _ hr hy H;refine ⟨fun h=>(by rw [h] at hr;cases hr),fun j hj=>?_⟩;by_cases hji:j=i
  ·subst hji;exact hy.pOp hi H
  have:=Qk hj hji;rw [H.1] at this;cases this
 | succ fuel ih =>
  intro listed a hfree hr hy H;refine ⟨fun h=>(by rw [h] at hr;cases hr),fun j hj=>?_⟩;by_cases hji:j=i
  ·subst hji;exact hy.pOp hi H
  have h1:=H.2 j (Qk hj hji);obtain ⟨hjun,oj,hoj,hall⟩:=Qh.1 hj
  have hnot:∀ e ∈ oj.after,Kl md e=true->e.on ≠ i:=fun e he hb heq=>by
   have h1:=hall e he hb;have h0:=(Qh.1 hr).1;rw [heq] at h1;rcases qu i listed.size with h' | h'
   ·simp [h'] at h0 h1;rw [h0] at h1;cases h1
   simp [Array.getElem?_eq_none h'] at h1
  have h2:=jc0 hoj (hfree j oj hoj hji hjun hnot) (fun cs b=>hsel i oi cs b hi) (fun cs b=>hsel j oj cs b hoj) hy h1
  have hfree':∀ k ok,ops[k]?=some ok->k ≠ i->(listed.setIfInBounds j true).getD k true=false ->
    (∀ e ∈ ok.after,Kl md e=true->e.on ≠ i)->oi.apart ops ok=true:=fun k ok hk hki hun hno=>by
   refine hfree k ok hk hki ?_ hno;by_cases hjk:j=k
   ·subst hjk;exact hjun
   rw [Qi true hjk] at hun;exact hun
  refine jac (fun a' h3=>ih (listed.setIfInBounds j true) a' hfree' (Qk hr (Ne.symm hji)) h3.1 ?_) h2;rw [KR _ _ hji];exact h3.2
structure S (D:Nat->World->Prop) where
 ph:Nat
 world:World
 is:D ph world
def Oper.j1I (P:Program) (C:World->Prop) (w:World) (v:Value):Result Next->Prop
 | .ok (.value u) w'=>w'=w/\u=v
 | .ok .skip w'=>w'=w/\v=undef
 | .ok (.enter f args) w'=>w'=w/\Calls P f args w (fun e w''=>e=.returned v/\C w'')
 | _=>False
def Oper.calm (P:Program) (o:Oper) (a:Act) (D:Nat->World->Prop) (next:Act->Prop):Prop:=∃ v,(∀ p:S D,Oper.j1I P (D p.ph) p.world v ((execOp a.eval o).run P p.world))/\next (a.put o.dst v)
def Oper.j1J (P:Program) (C:World->Prop) (w:World) (v:Value):Result Next->Prop
 | .ok .skip w'=>v=undef/\C w'
 | .ok (.enter f args) w'=>w'=w/\Calls P f args w (fun e w''=>e=.returned v/\C w'')
 | _=>False
def Oper.link (P:Program) (o:Oper) (a:Act) (C C':World->Prop) (next:Act->Prop):Prop:=∃ v,(∀ w,C w->Oper.j1J P C' w v ((execOp a.eval o).run P w))/\next (a.put o.dst v)
def j2p (P:Program) (ops:Array Oper) (D:Nat->World->Prop) (cs:List Nat) (Q:Act->Prop):Nat->List Oper->Act->Prop
 | _,[],a=>Q a
 | k,o :: rest,a =>
  match cs.idxOf? k with
  | some p=>ke o (yielded ops a.tmps)=true/\Oper.link P o a (D p) (D (p+1)) (j2p P ops D cs Q (k+1) rest)
  | none=>if ke o (yielded ops a.tmps) then Oper.calm P o a D (j2p P ops D cs Q (k+1) rest) else j2p P ops D cs Q (k+1) rest (a.put o.dst undef)
theorem j1n {p k:Nat} {L:Array Bool} (hk:k ∉ cs) (h:jbZ cs p L):jbZ cs p (L.setIfInBounds k true):=by
 intro q c hq;have hne:k ≠ c:=fun e=>hk (by rw [e];exact Kw hq);rw [Qi false hne];exact h q c hq
theorem j5g {k:Nat} {o:Oper} {a:Act} {v:Value} (hk:k ∉ cs) (h:∀ p:S D,Oper.j1I P (D p.ph) p.world v ((execOp a.eval o).run P p.world)):Steps P md ops D cs k o a v:=by
 intro L w _ _ ⟨p,hp,hat,hd⟩;have h1:=h ⟨p,w,hd⟩;simp only at h1;generalize (execOp a.eval o).run P w=r at *;cases r with
 | ok n w' =>
  cases n <;> simp only [Oper.j1I] at h1 <;> simp only [upon]
  case value u=>exact ⟨h1.1,h1.2,p,hp,j1n hk hat,hd⟩
  case skip=>exact ⟨h1.2,p,hp,j1n hk hat,by rw [h1.1];exact hd⟩
  case enter f args=>exact ⟨h1.1,h1.2.mono fun e w'' ⟨he,hd'⟩=>⟨he,p,hp,j1n hk hat,hd'⟩⟩
 | halt x w'=>simp only [Oper.j1I] at h1
theorem j98 {k:Nat} (hk:k ∉ cs):Passes md ops D cs k:=fun L w _ _ ⟨p,hp,hat,hd⟩=>⟨p,hp,j1n hk hat,hd⟩
def j46 (md:kw) (ops:Array Oper) (cs:List Nat):Bool :=
 decide cs.Nodup && (km cs.length).all fun p=>decide (p=0) || qO md ops (cs.getD p 0) (cs.getD (p - 1) 0)
theorem j5h {k p:Nat} {o:Oper} {a:Act} {v:Value} (hc:j46 md ops cs=true) (hk:cs[p]?=some k)
  (h:∀ w,D p w->Oper.j1J P (D (p+1)) w v ((execOp a.eval o).run P w)):Steps P md ops D cs k o a v:=by
 intro L w hsz hr ⟨p',hp,hat,hd⟩;simp only [j46,kC,decide_eq_true_eq] at hc;obtain ⟨hnd,hall⟩:=hc;have hpl:p < cs.length:=(kg.1 hk).1;obtain ⟨hun,ok,hok,hedges⟩:=Qh.1 hr;have hkl:k < L.size:=by rw [hsz];exact (k3.1 hok).1
 have h1:=hat p k hk;rw [Qp hun] at h1;have h2:¬ p < p':=fun hlt=>by rw [decide_eq_true hlt] at h1;cases h1
 have h3:p<=p':=by
  by_cases h0:p=0
  ·omega
  have h4:=Kd.1 hall p (Km.2 hpl);simp only [qP,decide_eq_true_eq] at h4;rcases h4 with h4 | h4
  ·omega
  rw [kl,hk,qF] at h4;obtain ⟨oj,hoj,e,he,hb,hon⟩:=Kx h4;have:oj=ok:=kz (hoj.symm.trans hok);subst this;have h5:=hedges e he hb
  have h6:cs[p - 1]?=some (cs.getD (p - 1) 0):=by
   rw [kl,k4 (show p - 1 < cs.length by omega)];rfl
  have h7:=hat (p - 1) _ h6;rw [<-hon,h5] at h7;have:=of_decide_eq_true h7.symm;omega
 obtain rfl:p'=p:=by omega
 have hnew:jbZ cs (p'+1) (L.setIfInBounds k true):=by
  intro q c hq;by_cases hck:k=c
  ·subst hck
   have hqp:q=p':=by
    have hql:q < cs.length:=(kg.1 hq).1
    have e1:cs[q]=cs[p']:=by
     have a1:=kg.1 hq;have a2:=kg.1 hk;rw [a1.2,a2.2]
    have h10:=List.pairwise_iff_getElem.1 hnd;rcases qv q p' with h11 | h11 | h11
    ·exact absurd e1 (h10 q p' hql hpl h11)
    ·exact h11
    exact absurd e1.symm (h10 p' q hpl hql h11)
   subst hqp;rw [decide_eq_true (by omega)];simp [hkl]
  rw [Qi false hck,hat q c hq];have hqp:q ≠ p':=fun e=>by subst e;rw [hk] at hq;exact hck (kz hq)
  by_cases h8:q < p'
  ·rw [decide_eq_true h8,decide_eq_true (by omega)]
  rw [decide_eq_false h8,decide_eq_false (by omega)]
 have h9:=h w hd;generalize (execOp a.eval o).run P w=r at *;cases r with
 | ok n w' =>
  cases n <;> simp only [Oper.j1J] at h9 <;> simp only [upon]
  case skip=>exact ⟨h9.1,p'+1,by omega,hnew,h9.2⟩
  case enter f args=>exact ⟨h9.1,h9.2.mono fun e w'' ⟨he,hd'⟩=>⟨he,p'+1,by omega,hnew,hd'⟩⟩
 | halt x w'=>simp only [Oper.j1J] at h9
def j1K (md:kw) (ops:Array Oper) (cs:List Nat):Nat->Nat->Array Bool->Bool
 | 0,_,listed=>(kk md ops listed).isEmpty && cs.all fun c=>listed.getD c false
 | fuel+1,k,listed=>(kk md ops listed).contains k && Ka md ops listed k && j1K md ops cs fuel (k+1) (listed.setIfInBounds k true)
theorem j7K {k p:Nat} (h:cs.idxOf? k=some p):cs[p]?=some k:=by
 have h1:=List.findIdx?_eq_some_iff_getElem.1 (by simpa [Q6] using h);obtain ⟨hp,h2,_⟩:=h1;rw [k4 hp];simpa using h2
theorem j7L {k:Nat} (h:cs.idxOf? k=none):k ∉ cs:=by
 intro hm;have h1:∀ x ∈ cs,¬ x=k:=by simpa [Q6] using h
 exact h1 k hm rfl
theorem j4q {Q:Act->Prop} (hs:kA ops=true) (hc:j46 md ops cs=true):∀ (l:List Oper) (k:Nat) (listed:Array Bool) (a:Act),(∀ j,l[j]?=ops[k+j]?) ->
  j1K md ops cs l.length k listed=true->j2p P ops D cs Q k l a->j4o P md ops D cs (fun L a=>(cs.all fun c=>L.getD c false)=true/\Q a) l.length listed a
 | [],_,_,_,_,hB,h=>by
  simp only [List.length_nil,j1K,kC] at hB;exact ⟨by simpa using hB.1,hB.2,h⟩
 | o :: l,k,listed,a,hl,hB,h=>by
  have h0:ops[k]?=some o:=by simpa using (hl 0).symm
  simp only [kR,j1K,kC] at hB;obtain ⟨⟨hr,hf⟩,hB'⟩:=hB
  have hst:pOp P md ops D cs k (j2p P ops D cs Q (k+1) l) a:=by
   unfold pOp;simp only [h0];unfold j2p at h;split at h
   ·rename_i p hp;obtain ⟨hw,v,h1,h2⟩:=h;rw [if_pos hw];exact ⟨v,j5h hc (j7K hp) h1,h2⟩
   rename_i hp;have hk:=j7L hp;split
   ·rename_i hw;rw [if_pos hw] at h;obtain ⟨v,h1,h2⟩:=h;exact ⟨v,j5g hk h1,h2⟩
   rename_i hw;rw [if_neg hw] at h;exact ⟨j98 hk,h⟩
  obtain ⟨v,hy,hK⟩:=j4p h0 hst
  exact j5Q h0 (qa hs) l.length listed a (qG h0 hf) (by simpa using hr) hy
   (j4q hs hc l (k+1) _ _ (fun j=>by have:=hl (j+1);simpa [ku,Kn 1 j] using this) hB' hK)
def okB (md:kw) (ops:Array Oper) (cs:List Nat):Bool:=kA ops && j46 md ops cs && j1K md ops cs ops.size 0 (kN ops.size false)
theorem j2K {id:Nat} {Q:Exit->Act->World->Prop} {a:Act} {w:World} {l:List Oper} (D:Nat->World->Prop) (cs:List Nat) (hm:P.follows .mixedOrders=true) (hB:okB .any l.toArray cs=true) (hD:D 0 w.drew)
  (h:j2p P l.toArray D cs (fun a'=>∀ w',D cs.length w'->Q .normal a' w') 0 l a):(Ky id l.toArray true).wp P Q a w:=by
 simp only [okB,kC] at hB;obtain ⟨⟨hs,hc⟩,hlex⟩:=hB;have h1:=j4q (md:=.any) hs hc l 0 (kN l.toArray.size false) a (by simp) (by simpa using hlex) h;refine Qr hm ?_;refine j0s (D:=D) (cs:=cs) (Q:=fun L a=>(cs.all fun c=>L.getD c false)=true/\∀ w',D cs.length w'->Q .normal a w') (fun L a w ⟨p,hp,hat,hd⟩ ⟨hall,hq⟩=>?_) _ _ _ _ (by simp) ⟨0,K4 _,fun q c _=>by rw [getD_replicate_false];simp,hD⟩ (by simpa using h1)
 have hpe:p=cs.length:=by
  rcases qu p cs.length with h2 | h2
  ·have h3:=hat p _ (k4 h2);have h4:=Kd.1 hall _ (Ku h2);rw [h4] at h3;have:=of_decide_eq_true h3.symm;omega
  omega
 subst hpe;exact hq w hd
theorem jad {Q:Act->Prop} {k:Nat} {a:Act} (h:Q a):j2p P ops D cs Q k [] a:=h
theorem j26 {Q:Act->Prop} {k:Nat} {a:Act} {o:Oper} {rest:List Oper} (hk:cs.idxOf? k=none)
  (h:∀ K:Act->Prop,(∀ a,j2p P ops D cs Q (k+1) rest a->K a)->if ke o (yielded ops a.tmps) then Oper.calm P o a D K else K (a.put o.dst undef)):j2p P ops D cs Q k (o :: rest) a:=by
 unfold j2p;simp only [hk];exact h _ fun _ h=>h
end
attribute [go_sem] Oper.calm Oper.j1I Oper.link Oper.j1J
end Ph
namespace Row
open Go Go.RowKit
open Tab
section
variable {P:Program}
theorem JO (w:World) (y:Addr) (ty:TypeId) (cs:List Value) (d:TypeDesc) (hc:jl w y cs) (hu:P.underlying ty=some d) (hd:d.isRow=true) (hi:(P.info? ty).map (·.size)=some cs.length) :
  (loadVar ty y).run P w=.ok (.agg cs.toArray) w:=by
 have hl:(loadCells y cs.length).run P w=.ok cs.toArray w:=run_loadCells_list (P:=P) w y cs (fun j v hv=>hc j v hv);cases hq:P.info? ty with
 | none=>simp [hq] at hi
 | some i =>
  have hs:i.size=cs.length:=by simpa [hq] using hi
  have hagg:(isAgg ty).run P w=.ok true w:=by
   unfold isAgg;rw [kY,Qm hu w];cases d <;> simp_all
  simp [loadVar,kY,hagg,sizeOf,typeInfo,hq,hs,hl]
theorem Ji {op:Oper} {a:Act} {w:World} {K:Act->World->Prop} {Q:Exit->Act->World->Prop} (ty:TypeId) (x:Operand) (ho:op.op=.load ty x)
  (y:Addr) (hx:a.eval x=.pointer (some y)) (cs:List Value) (d:TypeDesc) (hc:jl w y cs) (hu:P.underlying ty=some d) (hd:d.isRow=true) (hi:(P.info? ty).map (·.size)=some cs.length)
  (h:K (a.put op.dst (.agg cs.toArray)) w):op.wp P a w K Q:=by
 unfold KD execOp;simp only [ho,hx,qw,KG,kY,Ke,kM,JO w y ty cs d hc hu hd hi];exact h
theorem jV {ops:Array Oper} {rest:List Oper} {op:Oper} {a:Act} {w:World} {Q:Exit->Act->World->Prop} (hgd:op.guard=none) (ty:TypeId) (x:Operand) (ho:op.op=.load ty x)
  (y:Addr) (hx:a.eval x=.pointer (some y)) (cs:List Value) (d:TypeDesc) (hc:jl w y cs) (hu:P.underlying ty=some d) (hd:d.isRow=true) (hi:(P.info? ty).map (·.size)=some cs.length)
  (h:wpList P ops Q rest (a.put op.dst (.agg cs.toArray)) w):wpList P ops Q (op :: rest) a w :=
 Qu hgd fun _ hK=>Ji ty x ho y hx cs d hc hu hd hi (hK _ _ h)
theorem j7 {ops:Array Oper} {rest:List Oper} {op:Oper} {a:Act} {w:World} {Q:Exit->Act->World->Prop} (ty:TypeId) (x:Operand) (ho:op.op=.load ty x) (hw:ke op (yielded ops a.tmps)=true)
  (y:Addr) (hx:a.eval x=.pointer (some y)) (cs:List Value) (d:TypeDesc) (hc:jl w y cs) (hu:P.underlying ty=some d) (hd:d.isRow=true) (hi:(P.info? ty).map (·.size)=some cs.length)
  (h:wpList P ops Q rest (a.put op.dst (.agg cs.toArray)) w):wpList P ops Q (op :: rest) a w :=
 Kz hw fun _ hK=>Ji ty x ho y hx cs d hc hu hd hi (hK _ _ h)
theorem jh {ops:Array Oper} {rest:List Oper} {op:Oper} {a:Act} {w:World} {Q:Exit->Act->World->Prop} (hgd:op.guard=none) (ty:TypeId) (x y:Operand) (ho:op.op=.store ty x y)
  (w0:World) (old cells:Array Value) (hw:w=w0.alloc (.cells old ty)) (hx:a.eval x=.pointer (some ⟨w0.heap.size,0,none⟩)) (hy:a.eval y=.agg cells) (hi:(P.info? ty).map (·.size)=some cells.size) (hold:old.size=cells.size) (h1:cells.all (·.oneCell')=true)
  (h:wpList P ops Q rest (a.put op.dst undef) (w0.alloc (.cells cells ty))):wpList P ops Q (op :: rest) a w:=by
 subst hw;refine Ql hgd ty x y ho w0.heap.size cells hx hy ty old (Qb w0 _) hi hold h1 ?_;rw [World.setRow_alloc_new];exact h
theorem j6D (w:World) (cs:Array Value) (t:TypeId):jl (w.alloc (.cells cs t)) ⟨w.heap.size,0,none⟩ cs.toList:=fun j v hv=>by
 rw [Q1,Qc _ _ _ _ _ _ (Qb w _),kE];simpa using hv
theorem j1 {w:World} {g:Nat} {cs:Array Value} {t:TypeId} {fr:Nat × Nat} (hg:w.heap[g]?=some (.cells cs t fr)):jl w ⟨g,0,none⟩ cs.toList:=fun j v hv=>by
 rw [Q1,Qc _ _ _ _ _ _ hg,kE];simpa using hv
theorem j99 {D:Nat->World->Prop} {ns:List Nat} {ops:Array Oper} {Q:Act->Prop} {k:Nat} {a:Act} {o:Oper} {rest:List Oper} (hk:ns.idxOf? k=none) (hw:ke o (yielded ops a.tmps)=true)
  (ty:TypeId) (x:Operand) (ho:o.op=.load ty x) (y:Addr) (hx:a.eval x=.pointer (some y)) (cs:List Value) (d:TypeDesc) (hc:∀ p:Ph.S D,jl p.world y cs)
  (hu:P.underlying ty=some d) (hd:d.isRow=true) (hi:(P.info? ty).map (·.size)=some cs.length) (h:Ph.j2p P ops D ns Q (k+1) rest (a.put o.dst (.agg cs.toArray))):Ph.j2p P ops D ns Q k (o :: rest) a:=by
 refine Ph.j26 hk fun K hK=>?_;rw [if_pos hw];refine ⟨_,fun p=>?_,hK _ h⟩;unfold execOp;simp only [ho,hx,qw,KG,kY,Ke,kM,JO p.world y ty cs d (hc p) hu hd hi];exact ⟨rfl,rfl⟩
theorem j7M (w:World) {a:Act} {o:Oper} (t:TypeId) (x y:Operand) (t2:TypeId) (ho:o.op=.binOp .eql t x y t2) (xs ys:Array Value) (hx:a.eval x=.agg xs) (hy:a.eval y=.agg ys) (hg:P.eqGuardType P.depth t=false) (b:Bool)
  (he:∀ w,(KH 10000 t (.agg xs) (.agg ys)).run P w=.ok b w):(execOp a.eval o).run P w=.ok (.value (.bool b)) w:=by
 unfold execOp;simp only [ho,hx,hy,kY,Qx w .eql t x y xs ys hg,kM,run_eql_struct,he w,Ke]
theorem j4r (w:World) {a:Act} {o:Oper} (t:TypeId) (x y:Operand) (t2:TypeId) (ho:o.op=.binOp .neq t x y t2) (xs ys:Array Value) (hx:a.eval x=.agg xs) (hy:a.eval y=.agg ys) (hg:P.eqGuardType P.depth t=false) (b:Bool)
  (he:∀ w,(KH 10000 t (.agg xs) (.agg ys)).run P w=.ok b w):(execOp a.eval o).run P w=.ok (.value (.bool (!b))) w:=by
 unfold execOp;simp only [ho,hx,hy,kY,Qx w .neq t x y xs ys hg,kM,run_neq_struct,he w,Ke]
theorem j7N {ops:Array Oper} {rest:List Oper} {o:Oper} {a:Act} {w:World} {Q:Exit->Act->World->Prop} (t:TypeId) (x y:Operand) (t2:TypeId) (ho:o.op=.binOp .eql t x y t2) (hw:ke o (yielded ops a.tmps)=true)
  (xs ys:Array Value) (hx:a.eval x=.agg xs) (hy:a.eval y=.agg ys) (hg:P.eqGuardType P.depth t=false) (b:Bool) (he:∀ w,(KH 10000 t (.agg xs) (.agg ys)).run P w=.ok b w)
  (h:wpList P ops Q rest (a.put o.dst (.bool b)) w):wpList P ops Q (o :: rest) a w :=
 Kz hw fun _ hK=>by
  unfold KD;rw [j7M w t x y t2 ho xs ys hx hy hg b he];exact hK _ _ h
theorem JG {ops:Array Oper} {rest:List Oper} {o:Oper} {a:Act} {w:World} {Q:Exit->Act->World->Prop} (t:TypeId) (x y:Operand) (t2:TypeId) (ho:o.op=.binOp .neq t x y t2) (hw:ke o (yielded ops a.tmps)=true)
  (xs ys:Array Value) (hx:a.eval x=.agg xs) (hy:a.eval y=.agg ys) (hg:P.eqGuardType P.depth t=false) (b:Bool) (he:∀ w,(KH 10000 t (.agg xs) (.agg ys)).run P w=.ok b w)
  (h:wpList P ops Q rest (a.put o.dst (.bool (!b))) w):wpList P ops Q (o :: rest) a w :=
 Kz hw fun _ hK=>by
  unfold KD;rw [j4r w t x y t2 ho xs ys hx hy hg b he];exact hK _ _ h
theorem jae {D:Nat->World->Prop} {ns:List Nat} {ops:Array Oper} {Q:Act->Prop} {k:Nat} {a:Act} {o:Oper} {rest:List Oper} (t:TypeId) (x y:Operand) (t2:TypeId) (ho:o.op=.binOp .neq t x y t2) (hk:ns.idxOf? k=none) (hw:ke o (yielded ops a.tmps)=true)
  (xs ys:Array Value) (hx:a.eval x=.agg xs) (hy:a.eval y=.agg ys) (hg:P.eqGuardType P.depth t=false) (b:Bool) (he:∀ w,(KH 10000 t (.agg xs) (.agg ys)).run P w=.ok b w)
  (h:Ph.j2p P ops D ns Q (k+1) rest (a.put o.dst (.bool (!b)))):Ph.j2p P ops D ns Q k (o :: rest) a:=by
 refine Ph.j26 hk fun K hK=>?_;rw [if_pos hw];refine ⟨_,fun p=>?_,hK _ h⟩;rw [j4r p.world t x y t2 ho xs ys hx hy hg b he];exact ⟨rfl,rfl⟩
theorem j1L (w:World) (g o:Nat) (t ty:TypeId) (cur cells:Array Value) (hg:w.heap[g]?=some (.cells cur t (0,0))) (hi:(P.info? ty).map (·.size)=some cells.size) (hl:o+cells.size<=cur.size) (h1:cells.all (·.oneCell')=true) :
  (qW ty (.pointer (some ⟨g,o,none⟩)) (.agg cells)).run P w=.ok () (w.setRow g (cur.toList.take o++cells.toList++cur.toList.drop (o+cells.size)).toArray):=by
 have:=run_storeCells_at P g o t cells.toList 0 cur w hg (by simpa using hl) (fun v hv=>(Ko.1 h1) v (by simpa using hv));cases hq:P.info? ty with
 | none=>simp [hq] at hi
 | some i =>
  have hs:cells.size=i.size:=by simp [hq] at hi;omega
  simp only [q0,kO] at this;simp [qW,KG,storeVar,sizeOf,typeInfo,hq,Value.cells,hs];rw [<-hs];simpa using this
abbrev Old (w:World):Nat->World->Prop:=fun _ w'=>Below w.heap.size w w'
theorem Old.call {w:World} {f:FuncId} {args:Array Value} {v:Value} {p:Ph.S (Old w)} (h:Calls P f args p.world fun e w''=>e=.returned v/\Below p.world.heap.size p.world w'') :
  Calls P f args p.world fun e w''=>e=.returned v/\Old w p.ph w'' :=
 h.mono fun _ _ ⟨he,hb⟩=>⟨he,Below.trans p.is (hb.mono p.is.size)⟩
theorem Old.pure {w:World} {f:FuncId} {args:Array Value} {v:Value} {p:Ph.S (Old w)} (h:Calls P f args p.world fun e w''=>e=.returned v/\p.world=w'') :
  Calls P f args p.world fun e w''=>e=.returned v/\Old w p.ph w'' :=
 h.mono fun _ _ ⟨he,hb⟩=>⟨he,hb ▸ p.is⟩
theorem Old.drew (w:World):Old w 0 w.drew:=(ka _ _).drew
end
end Row
namespace Held
open Go Go.RowKit
open Tab
section
variable {P:Program} {ops:Array Oper} {Q:Exit->Act->World->Prop} {md:kw} {S:World->Prop}
theorem take {i:Nat} {oi:Oper} (d0:Option Tmp) (hd0:oi.dst=d0) {fuel:Nat} {listed:Array Bool} {a:Act} {w:World} {v:Value} (hi:ops[i]?=some oi) (hs:kA ops=true) (hf:Ka md ops listed i=true) (hr:(kk md ops listed).contains i=true)
  (hQ:∀ c a w,Q (.panic c) (a.put d0 v) w->Q (.panic c) a w) (hy:YieldsIf P ops S oi v a) (hS:S w)
  (h:wpAnyH P md ops Q S fuel (listed.setIfInBounds i true) (a.put d0 v) w):wpAnyH P md ops Q S (fuel+1) listed a w :=
 by
 subst hd0;exact Qw hi hs hf hr hQ hy hS h
theorem j0J {i:Nat} {oi:Oper} (d0:Option Tmp) (hd0:oi.dst=d0) {fuel:Nat} {listed:Array Bool} {a:Act} {w:World} (ty:TypeId) (x:Operand) (y:Addr) (cs:List Value) (d:TypeDesc) (hi:ops[i]?=some oi) (ho:oi.op=.load ty x) (hs:kA ops=true) (hf:Ka md ops listed i=true) (hr:(kk md ops listed).contains i=true)
  (hQ:∀ c a w,Q (.panic c) (a.put d0 (.agg cs.toArray)) w->Q (.panic c) a w) (hw:ke oi (yielded ops a.tmps)=true) (hS:S w) (hx:a.eval x=.pointer (some y)) (hc:∀ w,S w->jl w y cs) (hu:P.underlying ty=some d) (hd:d.isRow=true) (hz:(P.info? ty).map (·.size)=some cs.length)
  (h:wpAnyH P md ops Q S fuel (listed.setIfInBounds i true) (a.put d0 (.agg cs.toArray)) w):wpAnyH P md ops Q S (fuel+1) listed a w :=
 by
 subst hd0
 exact Qw hi hs hf hr hQ (.inl ⟨hw,fun w' hw'=>by
  unfold execOp;simp only [ho,hx,qw,KG,kY,Ke,kM,Row.JO w' y ty cs d (hc w' hw') hu hd hz]⟩) hS h
theorem j0h {i:Nat} {oi:Oper} (d0:Option Tmp) (hd0:oi.dst=d0) {fuel:Nat} {listed:Array Bool} {a:Act} {w:World} (t:TypeId) (parts:Array (Nat × Operand)) (cells:Array Value) (hi:ops[i]?=some oi) (ho:oi.op=.build t parts) (hs:kA ops=true) (hf:Ka md ops listed i=true) (hr:(kk md ops listed).contains i=true)
  (hQ:∀ c a w,Q (.panic c) (a.put d0 (.agg cells)) w->Q (.panic c) a w) (hw:ke oi (yielded ops a.tmps)=true) (hS:S w) (hb:P.built t (parts.map fun (i,x)=>(i,a.eval x)).toList=some cells)
  (h:wpAnyH P md ops Q S fuel (listed.setIfInBounds i true) (a.put d0 (.agg cells)) w):wpAnyH P md ops Q S (fuel+1) listed a w :=
 by
 subst hd0
 exact Qw hi hs hf hr hQ (.inl ⟨hw,fun w' _=>by
  unfold execOp;simp only [ho,kY,run_build w' t _ _ hb,kM,Ke]⟩) hS h
theorem j5i {rest:List Oper} {o:Oper} {a:Act} {w:World} (hgd:o.guard=none) (t:TypeId) (k:Nat) (x:Operand) (ho:o.op=.build t #[(k,x)]) (v:Value) (hv:a.eval x=v) (cells:Array Value) (hb:P.built t [(k,v)]=some cells)
  (h:wpList P ops Q rest (a.put o.dst (.agg cells)) w):wpList P ops Q (o :: rest) a w :=
 Qu hgd fun _ hK=>by
  subst hv;unfold KD execOp;have hb':P.built t ((#[(k,x)]:Array (Nat × Operand)).map fun (i,x)=>(i,a.eval x)).toList=some cells:=by simpa using hb
  simp only [ho,kY,run_build w t _ _ hb',kM,Ke];exact hK _ _ h
end
end Held
namespace Pw
open Go Go.RowKit
open Tab
structure W (P:Program) (ops:Array Oper) (D:Nat->World->Prop) (cs:List Nat) (Q:Act->Prop) (k:Nat) (l:List Oper) (a:Act):Prop where
 out:Ph.j2p P ops D cs Q k l a
section
variable {P:Program} {D:Nat->World->Prop} {ns:List Nat} {ops:Array Oper} {Q:Act->Prop} {k:Nat} {a:Act} {o:Oper} {rest:List Oper}
theorem region {id:Nat} {Q:Exit->Act->World->Prop} {a:Act} {w:World} {l:List Oper} (D:Nat->World->Prop) (cs:List Nat) (hm:P.follows .mixedOrders=true) (hB:Ph.okB .any l.toArray cs=true) (hD:D 0 w.drew)
  (h:W P l.toArray D cs (fun a'=>∀ w',D cs.length w'->Q .normal a' w') 0 l a):(Ky id l.toArray true).wp P Q a w:=Ph.j2K D cs hm hB hD h.out
theorem nil (h:Q a):W P ops D ns Q k [] a:=⟨h⟩
theorem calm (hk:ns.idxOf? k=none) (h:∀ K:Act->Prop,(∀ a,W P ops D ns Q (k+1) rest a->K a)->if ke o (yielded ops a.tmps) then Ph.Oper.calm P o a D K else K (a.put o.dst undef)):W P ops D ns Q k (o :: rest) a :=
 ⟨Ph.j26 hk fun K hK=>h K fun a ha=>hK a ha.out⟩
def j5R (ns:List Nat) (ops:Array Oper):Nat->Nat->List Oper->Act->Bool
 | 0,_,_,_=>true
 | _+1,_,[],_=>false
 | n+1,k,o :: l,a=>(ns.idxOf? k).isNone && !(ke o (yielded ops a.tmps)) && j5R ns ops n (k+1) l (a.put o.dst undef)
def Jc:List Oper->Act->Act
 | [],a=>a
 | o :: l,a=>Jc l (a.put o.dst undef)
theorem JH:∀ (n:Nat) {k:Nat} {l:List Oper} {a:Act},j5R ns ops n k l a=true->W P ops D ns Q (k+n) (l.drop n) (Jc (l.take n) a)->W P ops D ns Q k l a
 | 0,_,_,_,_,h=>h
 | n+1,_,[],_,h,_=>by simp [j5R] at h
 | n+1,k,o :: l,a,h,hr=>by
  simp only [j5R,kC,Option.isNone_iff_eq_none,Bool.not_eq_true'] at h;refine calm h.1.1 fun K hK=>?_;rw [if_neg (by rw [h.1.2];simp)];refine hK _ (JH n h.2 ?_);rw [show k+1+n=k+(n+1) by omega];exact hr
theorem load (hk:ns.idxOf? k=none) (hw:ke o (yielded ops a.tmps)=true)
  (ty:TypeId) (x:Operand) (ho:o.op=.load ty x) (y:Addr) (hx:a.eval x=.pointer (some y)) (cs:List Value) (d:TypeDesc) (hc:∀ p:Ph.S D,jl p.world y cs) (hu:P.underlying ty=some d) (hd:d.isRow=true) (hi:(P.info? ty).map (·.size)=some cs.length)
  (h:W P ops D ns Q (k+1) rest (a.put o.dst (.agg cs.toArray))):W P ops D ns Q k (o :: rest) a:=⟨Row.j99 hk hw ty x ho y hx cs d hc hu hd hi h.out⟩
theorem neq (t:TypeId) (x y:Operand) (t2:TypeId) (ho:o.op=.binOp .neq t x y t2) (hk:ns.idxOf? k=none) (hw:ke o (yielded ops a.tmps)=true)
  (xs ys:Array Value) (hx:a.eval x=.agg xs) (hy:a.eval y=.agg ys) (hg:P.eqGuardType P.depth t=false) (b:Bool) (he:∀ w,(KH 10000 t (.agg xs) (.agg ys)).run P w=.ok b w)
  (h:W P ops D ns Q (k+1) rest (a.put o.dst (.bool (!b)))):W P ops D ns Q k (o :: rest) a:=⟨Row.jae t x y t2 ho hk hw xs ys hx hy hg b he h.out⟩
end
end Pw
namespace Zip
open Go Go.RowKit
open Tab
theorem zA {α : Type} (l : List α) (i : Nat) (x : α) : l.toArray.setIfInBounds i x = (l.set i x).toArray := ko ..
theorem zB {α : Type} (a : α) (l : List α) (x : α) : (a :: l).set 0 x = x :: l := rfl
theorem zC {α : Type} (a : α) (l : List α) (i : Nat) (x : α) : (a :: l).set (i + 1) x = a :: l.set i x := rfl
section
variable {P : Program} {ops : Array Oper} {Q : Exit → Act → World → Prop} {md : kw} {S : World → Prop}
theorem tkZ (i d : Nat) (v : Value) {oi : Oper} {fuel : Nat} {listed : Array Bool} {a : Act} {w : World} (hi : ops[i]? = some oi) (hy : ∀ w, S w → (execOp a.eval oi).run P w = .ok (.value v) w) (hS : S w)
    (h : wpAnyH P md ops Q S fuel (listed.setIfInBounds i true) (a.put (some d) v) w)
    (hd : oi.dst = some d := by rfl) (hs : kA ops = true := by kernel_rfl) (hf : Ka md ops listed i = true := by kernel_rfl) (hr : (kk md ops listed).contains i = true := by kernel_rfl)
    (hQ : ∀ c a w, Q (.panic c) (a.put (some d) v) w → Q (.panic c) a w := by exact fun _ _ _ h => h) (hw : ke oi (yielded ops a.tmps) = true := by rfl) : wpAnyH P md ops Q S (fuel + 1) listed a w :=
  Held.take (some d) hd hi hs hf hr hQ (.inl ⟨hw, hy⟩) hS h
theorem tlZ (i d : Nat) (ty : TypeId) (x : Operand) (y : Addr) (cs : List Value) {oi : Oper} {fuel : Nat} {listed : Array Bool} {a : Act} {w : World} {t : TypeDesc} (hi : ops[i]? = some oi) (hS : S w) (hc : ∀ w, S w → jl w y cs) (hu : P.underlying ty = some t) (hz : (P.info? ty).map (·.size) = some cs.length)
    (h : wpAnyH P md ops Q S fuel (listed.setIfInBounds i true) (a.put (some d) (.agg cs.toArray)) w)
    (ho : oi.op = .load ty x := by rfl) (hd0 : oi.dst = some d := by rfl) (hs : kA ops = true := by kernel_rfl) (hf : Ka md ops listed i = true := by kernel_rfl) (hr : (kk md ops listed).contains i = true := by kernel_rfl)
    (hQ : ∀ c a w, Q (.panic c) (a.put (some d) (.agg cs.toArray)) w → Q (.panic c) a w := by exact fun _ _ _ h => h) (hw : ke oi (yielded ops a.tmps) = true := by rfl) (hx : a.eval x = .pointer (some y) := by rfl) (hd : t.isRow = true := by rfl) : wpAnyH P md ops Q S (fuel + 1) listed a w :=
  Held.j0J (some d) hd0 ty x y cs t hi ho hs hf hr hQ hw hS hx hc hu hd hz h
theorem rdZ (i : Nat) {o : Oper} {fuel : Nat} {listed : Array Bool} {a : Act} {w : World} (ho : ops[i]? = some o)
    (h : ∀ K' : Act → World → Prop, Shut (∀ a w, S w → (S w → wpAnyH P md ops Q S fuel (listed.setIfInBounds i true) a w) → K' a w) → if ke o (yielded ops a.tmps) = true then KD P o a w K' Q else K' (a.put o.dst undef) w)
    (hr : kk md ops listed = [i] := by kernel_rfl) : wpAnyH P md ops Q S (fuel + 1) listed a w :=
  Qz (rs := [i]) hr (by simp) (qb ho h qX)
theorem tqZ (i d : Nat) (v : Value) {oi : Oper} {fuel : Nat} {listed : Array Bool} {a : Act} {w : World} (hi : ops[i]? = some oi) (hQ : ∀ c a w, Q (.panic c) (a.put (some d) v) w → Q (.panic c) a w) (hy : ∀ w, S w → (execOp a.eval oi).run P w = .ok (.value v) w) (hS : S w)
    (h : wpAnyH P md ops Q S fuel (listed.setIfInBounds i true) (a.put (some d) v) w)
    (hd : oi.dst = some d := by rfl) (hs : kA ops = true := by kernel_rfl) (hf : Ka md ops listed i = true := by kernel_rfl) (hr : (kk md ops listed).contains i = true := by kernel_rfl)
    (hw : ke oi (yielded ops a.tmps) = true := by rfl) : wpAnyH P md ops Q S (fuel + 1) listed a w :=
  Held.take (some d) hd hi hs hf hr hQ (.inl ⟨hw, hy⟩) hS h
theorem j1d (i j : Nat) {o o2 : Oper} {fuel : Nat} {listed : Array Bool} {a : Act} {w : World} (ho : ops[i]? = some o) (ho2 : ops[j]? = some o2)
    (h : ∀ K' : Act → World → Prop, Shut (∀ a w, S w → (S w → wpAnyH P md ops Q S fuel (listed.setIfInBounds i true) a w) → K' a w) → if ke o (yielded ops a.tmps) = true then KD P o a w K' Q else K' (a.put o.dst undef) w)
    (h2 : ∀ K' : Act → World → Prop, Shut (∀ a w, S w → (S w → wpAnyH P md ops Q S fuel (listed.setIfInBounds j true) a w) → K' a w) → if ke o2 (yielded ops a.tmps) = true then KD P o2 a w K' Q else K' (a.put o2.dst undef) w)
    (hr : kk md ops listed = [i, j] := by kernel_rfl) : wpAnyH P md ops Q S (fuel + 1) listed a w :=
  Qz (rs := [i, j]) hr (by simp) (qb ho h (qb ho2 h2 qX))
theorem lgZ {rest : List Oper} {op : Oper} {a : Act} {w : World} (ty : TypeId) (y : Addr) (cs : List Value) {x : Operand} {d : TypeDesc} (ho : op.op = .load ty x) (hc : jl w y cs) (hu : P.underlying ty = some d) (hi : (P.info? ty).map (·.size) = some cs.length) (h : wpList P ops Q rest (a.put op.dst (.agg cs.toArray)) w)
    (hw : ke op (yielded ops a.tmps) = true := by first | rfl | go_simp) (hx : a.eval x = .pointer (some y) := by rfl) (hd : d.isRow = true := by rfl) : wpList P ops Q (op :: rest) a w :=
  Row.j7 ty x ho hw y hx cs d hc hu hd hi h
end
theorem hJJ {p : Prop} (h : p) : Hid p := Lib.hid h
end Zip
namespace Po
open Zip
open Go Go.RowKit
open Tab
abbrev Flt:Type:=Int × Int
structure PP where
 σ:Type
 num:σ->Int->Int->Int->Except Flt (Int × σ)
 flt:σ->Bool->Nat->Except Flt (Nat × σ)
 flg:σ->Bool->Except Flt (Bool × σ)
inductive Sp where
 | num (size most:Int) (j:Nat)
 | flt (lv:Bool) (j:Nat)
 | flg (j:Nat)
def Sp.run (P:PP) (l:List Value) (s:P.σ):Sp->Except Flt (List Value × P.σ)
 | .num size most j=>match l[j]? with
  | some (.int .i64 x)=>match P.num s size most x with
   | .ok (y,s')=>.ok (l.set j (I y),s')
   | .error f=>.error f
  | _=>.ok (l,s)
 | .flt lv j=>match l[j]? with
  | some (.float .f64 x)=>match P.flt s lv x with
   | .ok (y,s')=>.ok (l.set j (.float .f64 y),s')
   | .error f=>.error f
  | _=>.ok (l,s)
 | .flg j=>match l[j]? with
  | some (.bool x)=>match P.flg s x with
   | .ok (y,s')=>.ok (l.set j (.bool y),s')
   | .error f=>.error f
  | _=>.ok (l,s)
def runs (P:PP):List Sp->List Value->P.σ->Except Flt (List Value × P.σ)
 | [],l,s=>.ok (l,s)
 | c :: cs,l,s=>match c.run P l s with
  | .ok (l',s')=>runs P cs l' s'
  | .error f=>.error f
theorem J2 (P:PP):∀ (a b:List Sp) (l:List Value) (s:P.σ),runs P (a++b) l s=match runs P a l s with
  | .ok (l',s')=>runs P b l' s'
  | .error f=>.error f
 | [],b,l,s=>rfl
 | c :: a,b,l,s=>by
  rw [qH,runs,runs];cases c.run P l s with
  | ok r=>exact J2 P a b r.1 r.2
  | error f=>rfl
theorem j5S (P:PP) (c:Sp) {l:List Value} {s:P.σ} {l':List Value} {s':P.σ} (h:c.run P l s=.ok (l',s')):l'.length=l.length:=by
 cases c <;> simp only [Sp.run] at h <;> split at h <;> (try split at h) <;> (try cases h) <;> simp
theorem Jv (P:PP):∀ (cs:List Sp) {l:List Value} {s:P.σ} {l':List Value} {s':P.σ},runs P cs l s=.ok (l',s')->l'.length=l.length
 | [],l,s,l',s',h=>by cases h;rfl
 | c :: cs,l,s,l',s',h=>by
  rw [runs] at h;cases hc:c.run P l s with
  | ok r=>rw [hc] at h;rw [Jv P cs h,j5S P c hc]
  | error f=>rw [hc] at h;cases h
def kind:Value->Nat
 | .int .i64 _=>0
 | .bool _=>1
 | .float .f64 _=>2
 | _=>3
theorem J3 {v:Value} (h:kind v=0):∃ x,v=I x:=by unfold kind at h;split at h <;> first | exact ⟨_,rfl⟩ | cases h
theorem j5r {v:Value} (h:kind v=1):∃ x,v=.bool x:=by unfold kind at h;split at h <;> first | exact ⟨_,rfl⟩ | cases h
theorem j4s {v:Value} (h:kind v=2):∃ x,v=.float .f64 x:=by unfold kind at h;split at h <;> first | exact ⟨_,rfl⟩ | cases h
theorem j5T {l:List Value} {ks:List Nat} (h:l.map kind=ks) {j k:Nat} (hk:ks[j]?=some k):∃ v,l[j]?=some v/\kind v=k:=by
 rw [<-h,kF] at hk;exact Option.map_eq_some_iff.1 hk
theorem j0i {l:List Value} {ks:List Nat} (h:l.map kind=ks) {j:Nat} (hk:ks[j]?=some 0):∃ x,l[j]?=some (I x):=by
 obtain ⟨v,h1,h2⟩:=j5T h hk;obtain ⟨x,rfl⟩:=J3 h2;exact ⟨x,h1⟩
theorem j5U {l:List Value} {ks:List Nat} (h:l.map kind=ks) {j:Nat} (hk:ks[j]?=some 1):∃ x,l[j]?=some (.bool x):=by
 obtain ⟨v,h1,h2⟩:=j5T h hk;obtain ⟨x,rfl⟩:=j5r h2;exact ⟨x,h1⟩
theorem j5V {l:List Value} {ks:List Nat} (h:l.map kind=ks) {j:Nat} (hk:ks[j]?=some 2):∃ x,l[j]?=some (.float .f64 x):=by
 obtain ⟨v,h1,h2⟩:=j5T h hk;obtain ⟨x,rfl⟩:=j4s h2;exact ⟨x,h1⟩
theorem map_set {l:List Value} {j:Nat} {v u:Value} (hv:l[j]?=some v) (h:kind u=kind v):(l.set j u).map kind=l.map kind:=by
 apply KN;intro i;rw [kF,kF,qx];split
 ·rename_i e;subst e;rw [if_pos (kg.1 hv).1,hv];simp [h]
 rfl
theorem jaf (P:PP) (c:Sp) {l:List Value} {s:P.σ} {l':List Value} {s':P.σ} (h:c.run P l s=.ok (l',s')):l'.map kind=l.map kind:=by
 cases c <;> simp only [Sp.run] at h <;> split at h
 all_goals first
  | (rename_i hv;split at h <;> first | (cases h;exact map_set hv rfl) | cases h)
  | (cases h;rfl)
theorem Jn (P:PP):∀ (cs:List Sp) {l:List Value} {s:P.σ} {l':List Value} {s':P.σ},runs P cs l s=.ok (l',s')->l'.map kind=l.map kind
 | [],l,s,l',s',h=>by cases h;rfl
 | c :: cs,l,s,l',s',h=>by
  rw [runs] at h;cases hc:c.run P l s with
  | ok r=>rw [hc] at h;rw [Jn P cs h,jaf P c hc]
  | error f=>rw [hc] at h;cases h
theorem jD (P:PP) (c:Sp) (l:List Value) (s:P.σ):runs P [c] l s=c.run P l s:=by
 rw [runs];cases c.run P l s with
 | ok r=>rfl
 | error f=>rfl
def wrt (cs:Array Value) (o:Nat) (l:List Value):Array Value:=(cs.toList.take o++l++cs.toList.drop (o+l.length)).toArray
theorem j2v {cs:Array Value} {o:Nat} {l:List Value} (h:o+l.length<=cs.size) {j:Nat} (hj:j < l.length):(wrt cs o l)[o+j]?=l[j]?:=by
 have hcs:cs.toList.length=cs.size:=kO;unfold wrt;rw [List.getElem?_toArray,k8,List.getElem?_append_right (by rw [kv,hcs];omega),kv,hcs,kW (by omega),show o+j - o=j by omega,List.getElem?_append_left hj]
theorem jc1 {cs:Array Value} {o:Nat} {l:List Value} (h:o+l.length<=cs.size) {j:Nat} (hj:j < l.length) (v:Value):(wrt cs o l).setIfInBounds (o+j) v=wrt cs o (l.set j v):=by
 have hcs:cs.toList.length=cs.size:=kO;unfold wrt;rw [ko,k8,List.set_append_right _ _ (by rw [kv,hcs];omega),kv,hcs,kW (by omega),show o+j - o=j by omega,List.set_append_left _ _ hj,List.length_set,k8]
theorem JV {cs:Array Value} {o:Nat} {l:List Value} (h:o+l.length<=cs.size) (hl:∀ j,j < l.length->cs[o+j]?=l[j]?):wrt cs o l=cs:=by
 have hcs:cs.toList.length=cs.size:=kO;apply Qa;apply KN;intro i;unfold wrt;simp only;rw [k8,qc];split
 ·rename_i hi;rw [kv,hcs] at hi;rw [KI,if_pos (by omega)]
 rename_i hi;rw [kv,hcs,kW (by omega)] at hi |-;rw [qc];split
 ·rename_i h2;rw [<-hl _ h2,kx,show o+(i - o)=i by omega]
 rename_i h2;rw [K6,show o+l.length+(i - o - l.length)=i by omega]
def Pt (t:TypeId):Prop:=t=5\/t=92\/t=95
instance (t:TypeId):Decidable (Pt t):=by unfold Pt;infer_instance
structure Mv (B b:Nat) (W W':World):Prop where
 low:Below B W W'
 other:∀ (j:Nat) (cs:Array Value) (t:TypeId) (fr:Nat × Nat),W.heap[j]?=some (.cells cs t fr)->¬ Pt t->j ≠ b->W'.heap[j]?=W.heap[j]?
theorem Mv.refl (B b:Nat) (W:World):Mv B b W W:=⟨ka _ _,fun _ _ _ _ _ _ _=>rfl⟩
theorem Mv.trans {B b:Nat} {W V U:World} (h:Mv B b W V) (k:Mv B b V U):Mv B b W U :=
 ⟨h.low.trans k.low,fun j cs t fr hj ht hb=>(k.other j cs t fr ((h.other j cs t fr hj ht hb).trans hj) ht hb).trans (h.other j cs t fr hj ht hb)⟩
theorem Mv.of {B b:Nat} {W V:World} (h:Below W.heap.size W V) (hB:B<=W.heap.size):Mv B b W V :=
 ⟨h.mono hB,fun j cs t fr hj _ _=>h.block j (k3.1 hj).1⟩
abbrev fault (f:Flt):Value:=.iface 36 (.agg #[I f.1,I f.2])
def Ends (P:PP) (R:P.σ->World->Prop) (B b o:Nat) (cs:Array Value) (t:TypeId) (fr:Nat × Nat) (r:Except Flt (List Value × P.σ)) (W:World) (e:Ending) (W':World):Prop:=match r with
 | .ok (l',s')=>e=.returned (.tuple #[])/\R s' W'/\Mv B b W W'/\W'.heap[b]?=some (.cells (wrt cs o l') t fr)
 | .error f=>e=.panicked [{ v:=fault f,recovered:=false }]/\Below B W W'
def mark:Flt:=(-1,-1)
def Fit {α:Type} (r:Except Flt α):Prop:=r ≠ .error mark
structure Port (P:PP) (R:P.σ->World->Prop) (B:Nat) (ok:Nat->Nat × Nat->Prop) (ti:TypeId) (v rv:Value) (FN FF FG:FuncId):Prop where
 mn:∀ n w,(method (n+1) ti v "crossbuck/code.number").run Tryz.prog w=.ok (FN,rv) w
 mf:∀ n w,(method (n+1) ti v "crossbuck/code.float").run Tryz.prog w=.ok (FF,rv) w
 mg:∀ n w,(method (n+1) ti v "crossbuck/code.flag").run Tryz.prog w=.ok (FG,rv) w
 nn:∀ n w,(nilAhead (n+1) ti v "crossbuck/code.number").run Tryz.prog w=.ok (some false) w
 nf:∀ n w,(nilAhead (n+1) ti v "crossbuck/code.float").run Tryz.prog w=.ok (some false) w
 ng:∀ n w,(nilAhead (n+1) ti v "crossbuck/code.flag").run Tryz.prog w=.ok (some false) w
 en:∀ (args:Array Value) (w:World),(callFunc FN args).run Tryz.prog w=.ok (.enter FN args) w
 ef:∀ (args:Array Value) (w:World),(callFunc FF args).run Tryz.prog w=.ok (.enter FF args) w
 eg:∀ (args:Array Value) (w:World),(callFunc FG args).run Tryz.prog w=.ok (.enter FG args) w
 stay:∀ s W W',R s W->W.heap.size<=W'.heap.size->(∀ (j:Nat) (cs:Array Value) (t:TypeId) (fr:Nat × Nat),W.heap[j]?=some (.cells cs t fr)->Pt t->W'.heap[j]?=W.heap[j]?)->R s W'
 new:∀ b,B<=b->ok b (0,0)
 num:∀ (s:P.σ) (W:World) (b o:Nat) (cs:Array Value) (t:TypeId) (fr:Nat × Nat) (l:List Value) (size most:Int) (j:Nat) (x:Int),R s W->B<=W.heap.size->ok b fr->b < B\/¬ Pt t->o+l.length<=cs.size->W.heap[b]?=some (.cells (wrt cs o l) t fr)->l[j]?=some (I x)->Fit (Sp.run P l s (.num size most j)) ->
  Calls Tryz.prog FN #[rv,.int .i64 size,.int .i64 most,.pointer (some ⟨b,o+j,none⟩)] W (Ends P R B b o cs t fr (Sp.run P l s (.num size most j)) W)
 flt:∀ (s:P.σ) (W:World) (b o:Nat) (cs:Array Value) (t:TypeId) (fr:Nat × Nat) (l:List Value) (lv:Bool) (j x:Nat),R s W->B<=W.heap.size->ok b fr->b < B\/¬ Pt t->o+l.length<=cs.size->W.heap[b]?=some (.cells (wrt cs o l) t fr)->l[j]?=some (.float .f64 x)->Fit (Sp.run P l s (.flt lv j)) ->
  Calls Tryz.prog FF #[rv,.pointer (some ⟨b,o+j,none⟩),.func (.func (if lv=true then 95 else 96)) #[] #[]] W (Ends P R B b o cs t fr (Sp.run P l s (.flt lv j)) W)
 flg:∀ (s:P.σ) (W:World) (b o:Nat) (cs:Array Value) (t:TypeId) (fr:Nat × Nat) (l:List Value) (j:Nat) (x:Bool),R s W->B<=W.heap.size->ok b fr->b < B\/¬ Pt t->o+l.length<=cs.size->W.heap[b]?=some (.cells (wrt cs o l) t fr)->l[j]?=some (.bool x)->Fit (Sp.run P l s (.flg j)) ->
  Calls Tryz.prog FG #[rv,.pointer (some ⟨b,o+j,none⟩)] W (Ends P R B b o cs t fr (Sp.run P l s (.flg j)) W)
section
variable {P:PP} {R:P.σ->World->Prop} {B:Nat} {ok:Nat->Nat × Nat->Prop} {ti:TypeId} {v rv:Value} {FN FF FG:FuncId}
theorem j0K (PT:Port P R B ok ti v rv FN FF FG) {s:P.σ} {W:World} {b o:Nat} {cs:Array Value} {t:TypeId} {fr:Nat × Nat} {l:List Value} {j:Nat} {x:Int} (hR:R s W) (hB:B<=W.heap.size) (hok:ok b fr) (ht:b < B\/¬ Pt t) (hl:o+l.length<=cs.size) (hb:W.heap[b]?=some (.cells (wrt cs o l) t fr)) (hx:l[j]?=some (I x)) (hfit:Fit (Sp.run P l s (.num 1 7 j))) :
  Calls Tryz.prog 93 #[.iface ti v,.pointer (some ⟨b,o+j,none⟩)] W (Ends P R B b o cs t fr (Sp.run P l s (.num 1 7 j)) W):=by
 have hm:=PT.mn;have en:=PT.en;have hc:=hJJ (PT.num s W b o cs t fr l 1 7 j x hR hB hok ht hl hb hx hfit);generalize Sp.run P l s (.num 1 7 j)=r at hc |-;clear PT hR hB hok ht hl hb hx hfit;go_enter Tryz.func93,Tryz.ntmps93
 go_wp2_with fail
 refine hc.out.mono ?_;intro e W' he;cases r with
 | error f =>
  obtain ⟨rfl,h2⟩:=he;exact ⟨rfl,rfl,h2⟩
 | ok y =>
  obtain ⟨rfl,h2⟩:=he;go_wp2
  go_end0
  exact ⟨rfl,h2⟩
def j40 (js:List Nat) (l:List Value):Prop:=∀ j ∈ js,∃ x,l[j]?=some (I x)
theorem j40.set {js:List Nat} {l:List Value} (h:j40 js l) (k:Nat) (y:Int):j40 js (l.set k (I y)):=fun j hj=>by
 obtain ⟨x,hx⟩:=h j hj;have hl:j < l.length:=(kg.1 hx).1;rw [qx];split
 ·rename_i e;subst e;exact ⟨y,by rw [if_pos hl]⟩
 exact ⟨x,hx⟩
theorem j40.run {P:PP} {js:List Nat} {l:List Value} (h:j40 js l) {s:P.σ} {size most:Int} {k:Nat} {l':List Value} {s':P.σ} (hr:Sp.run P l s (.num size most k)=.ok (l',s')):j40 js l':=by
 simp only [Sp.run] at hr;split at hr
 ·split at hr
  ·cases hr;exact h.set _ _
  cases hr
 cases hr;exact h
def j2w (b o:Nat) (js:List Nat):List Value:=js.map fun j=>.pointer (some ⟨b,o+j,none⟩)
theorem j1M (PT:Port P R B ok ti v rv FN FF FG) {s:P.σ} {W:World} {b o:Nat} {cs:Array Value} {t:TypeId} {fr fr2:Nat × Nat} {l:List Value} {lb cap n:Nat} (js:List Nat) (hn:js.length=n) (hn2:n<=1000) (size most:Int) (hR:R s W) (hB:B<=W.heap.size) (hok:ok b fr) (ht:b < B\/¬ Pt t) (hl:o+l.length<=cs.size) (hb:W.heap[b]?=some (.cells (wrt cs o l) t fr)) (hx:j40 js l)
  (hlb:W.heap[lb]?=some (.cells (j2w b o js).toArray 105 fr2)) (hne:lb ≠ b) (hcap:n<=cap) (hfit:Fit (runs P (js.map (.num size most)) l s)) :
  Calls Tryz.prog 94 #[.iface ti v,.int .i64 size,.int .i64 most,.slice (some ⟨lb,0,none⟩) n cap] W (Ends P R B b o cs t fr (runs P (js.map (.num size most)) l s) W):=by
 have hm:=PT.mn;have en:=PT.en;have PN:=hJJ PT.num;have hX:=hJJ hx;have hN:=hJJ hn;have hR0:=hJJ hR;have hb0:=hJJ hb;have hL:=hJJ hlb;have hO:=hJJ hok;have hT:=hJJ ht;have hl0:=hJJ hl;have HFIT:=hJJ hfit;clear PT hx hn hR hb hlb hok ht hl hfit;go_enter Tryz.func94,Tryz.ntmps94
 go_wp2_with fail
 go_loopw [12] (fun i wr=>∃ (q:Nat) (l':List Value) (s':P.σ),q<=n/\i=.int .i64 (q:Int)/\runs P ((js.take q).map (.num size most)) l s=.ok (l',s')/\R s' wr/\Mv B b W wr/\wr.heap[b]?=some (.cells (wrt cs o l') t fr)/\j40 js l') (fun i _=>n - (intOf i).toNat)
 case atStart=>exact ⟨0,l,s,by omega,rfl,rfl,hR0.out,Mv.refl _ _ _,hb0.out,hX.out⟩
 case round =>
  obtain ⟨q,l',s',hq,rfl,hrun,hr,hmv,hb1,hx1⟩:=hrel;have HR:=hJJ hrun;have HS:=hJJ hr;have HM:=hJJ hmv;have HB1:=hJJ hb1;have HX:=hJJ hx1;clear hrun hr hmv hb1 hx1;by_cases hlt:q < n
  ·obtain ⟨j,hj⟩:∃ j,js[q]?=some j:=⟨_,k4 (by rw [hN.out];exact hlt)⟩
   have kp:wr.cell? ⟨lb,q,none⟩=some (.pointer (some ⟨b,o+j,none⟩)):=by
    rw [Qc _ _ _ _ _ _ ((HM.out.other lb _ _ _ hL.out (by decide) hne).trans hL.out)];simp [j2w,hj]
   obtain ⟨x,hxj⟩:=HX.out j (Kw hj);have hll:=Jv P _ HR.out
   have HJ:Hid (runs P ((js.take (q+1)).map (.num size most)) l s=match Sp.run P l' s' (.num size most j) with
     | .ok (l2,s2)=>.ok (l2,s2)
     | .error f=>.error f):=hJJ (by
    rw [qy,hj,KA,J2,HR.out];show runs P [.num size most j] l' s'=_;rw [runs];cases Sp.run P l' s' (.num size most j) with
    | ok r=>rfl
    | error f=>rfl)
   have HE:Hid (∀ f,Sp.run P l' s' (.num size most j)=.error f->runs P (js.map (.num size most)) l s=.error f):=hJJ (fun f hf=>by
    have e:js.map (Sp.num size most)=(js.take (q+1)).map (Sp.num size most)++(js.drop (q+1)).map (Sp.num size most):=by rw [<-KA,List.take_append_drop]
    rw [e,J2,HJ.out,hf])
   have hc:=hJJ (PN.out s' wr b o cs t fr l' size most j x HS.out (kb hB HM.out.low.size) hO.out hT.out (by rw [hll];exact hl0.out) HB1.out hxj (fun h=>HFIT.out (HE.out _ h)));have HX2:Hid (∀ l2 s2,Sp.run P l' s' (.num size most j)=.ok (l2,s2)->j40 js l2):=hJJ (fun l2 s2 h=>HX.out.run h);clear hll hxj hj HX;generalize Sp.run P l' s' (.num size most j)=r at hc HJ HE HX2;go_wp2_with fail
   refine hc.out.mono ?_;intro e W' he;cases r with
   | error f =>
    obtain ⟨rfl,h2⟩:=he;refine ⟨rfl,?_⟩;rw [HE.out f rfl];exact ⟨rfl,HM.out.low.trans h2⟩
   | ok y =>
    obtain ⟨l2,s2⟩:=y;obtain ⟨rfl,h2,h3,h4⟩:=he;have H2:=hJJ h2;have H3:=hJJ (HM.out.trans h3);have H4:=hJJ h4;clear h2 h3 h4;go_wp2;go_roundw;case rel=>exact ⟨q+1,l2,s2,by omega,by go_num,HJ.out,H2.out,H3.out,H4.out,HX2.out _ _ rfl⟩
    case measure=>simp [intOf];omega
  obtain rfl:n=q:=by omega
  have HF:Hid (runs P (js.map (.num size most)) l s=.ok (l',s')):=hJJ (by have:=HR.out;rwa [Kp (by rw [hN.out];omega)] at this);go_wp2
  go_end0
  rw [HF.out];exact ⟨rfl,HS.out,HM.out,HB1.out⟩
end
end Po
namespace QB
open Go.RowKit
structure By (B:Nat) (w:World) where
 world:World
 below:Below B w world
instance {B:Nat} {w:World}:Inhabited (By B w):=⟨⟨w,ka _ _⟩⟩
theorem J8 {P:Program} {id:Nat} {Q:Exit->Act->World->Prop} {a:Act} {w:World} {l:List Oper} (B:Nat) (hm:P.follows .mixedOrders=true) (hB:Region.lexB .any l.toArray=true)
  (h:wpQuiet P l.toArray (fun w'=>∃ p:By B w,w'=p.world) (fun a'=>∀ w',(∃ p:By B w,w'=p.world)->Q .normal a' w') l a):(Ky id l.toArray true).wp P Q a w :=
 wp_region_quiet (C:=fun w'=>∃ p:By B w,w'=p.world) hm hB ⟨⟨w.drew,(ka _ _).drew⟩,rfl⟩ (by simpa using h)
theorem j8q {P:Program} {f:FuncId} {args:Array Value} {B:Nat} {w:World} {p:By B w} {v:Value} (hB:B<=w.heap.size)
  (h:Below B w p.world->Calls P f args p.world fun e w'=>e=.returned v/\Below p.world.heap.size p.world w') :
  Calls P f args p.world fun e w''=>e=.returned v/\∃ q:By B w,w''=q.world :=
 (h p.below).mono fun _ w'' ⟨he,hb⟩=>⟨he,⟨w'',p.below.trans (hb.mono (kb hB p.below.size))⟩,rfl⟩
theorem jo {P:Program} {w:World} {id:Nat} {Q:Exit->Act->World->Prop} {a:Act} {l:List Oper} (n:Nat) (hm:P.follows .mixedOrders=true) (hB:Region.lexTailB .any l.toArray n=true)
  (h:wpStill P l.toArray w.drew (fun a'=>wpList P l.toArray Q (l.drop n) a' w.drew) (l.take n) a):(Ky id l.toArray true).wp P Q a w :=
 wp_region_still_tail n hm hB h
end QB
namespace QT
open Go Go.RowKit
section
variable {P:Program} {ops:Array Oper} {md:kw} {C:World->Prop} {m n:Nat}
def sinks (md:kw) (ops:Array Oper) (m n:Nat):Bool:=(km n).all fun i=>decide (i < m) || (km (n+1)).any fun j=>decide (i < j) && qO md ops j i
def shut (md:kw) (ops:Array Oper) (m:Nat):Bool:=(km m).all fun j=>match ops[j]? with | some o=>o.after.all fun e=>!Region.binds md e || decide (e.on < m) | none=>true
def begun (ops:Array Oper) (m:Nat):Array Bool:=kN m true++kN (ops.size - m) false
structure Inv (md:kw) (ops:Array Oper) (m n:Nat) (L:Array Bool):Prop where
 size:L.size=ops.size
 first:∀ j,j < m->L.getD j false=true
 back:∀ j o,ops[j]?=some o->L.getD j false=true->∀ e ∈ o.after,Kl md e=true->L.getD e.on false=true
 rest:∀ t,n<=t->t < ops.size->L.getD t true=false
theorem Inv.set {i:Nat} {L:Array Bool} (h:Inv md ops m n L) (hi:i ∈ kk md ops L) (hn:i < n):Inv md ops m n (L.setIfInBounds i true):=by
 obtain ⟨_,oi,hoi,hall⟩:=Qh.1 hi;refine ⟨by simp [h.size],fun j hj=>Qs (h.first j hj),fun j o hj hl e he hb=>?_,fun t h1 h2=>(Qi true (by omega)).trans (h.rest t h1 h2)⟩;rcases qI i j with hij | hij
 ·rw [Qi false hij] at hl;exact Qs (h.back j o hj hl e he hb)
 subst hij;obtain rfl:o=oi:=kz (hj.symm.trans hoi);exact Qs (hall e he hb)
theorem j8r {L:Array Bool} (hs:sinks md ops m n=true) (hc:KS md ops n=true) (hn:n < ops.size) (h:Inv md ops m n L) :
  ∀ (d i:Nat),n - i<=d->i < n->L.getD i true=false->∀ t ∈ kk md ops L,t < n
 | 0,i,hd,hi,_,_,_=>by omega
 | d+1,i,hd,hi,hun,t,ht=>by
  rcases qu t n with hlt | hge
  ·exact hlt
  exfalso;obtain ⟨_,ot,hot,hall⟩:=Qh.1 ht;have htl:t < ops.size:=(k3.1 hot).1;rcases qq hge with rfl | hgt
  ·have h1:=Kd.1 hs i (Km.2 hi);have hm:¬ i < m:=fun hm=>by have:=Qp hun;rw [h.first i hm] at this;cases this
   rw [decide_eq_false hm,qY] at h1;obtain ⟨j,hj,hj2⟩:=List.any_eq_true.1 h1;simp only [kC,decide_eq_true_eq] at hj2;obtain ⟨oj,hoj,e,he,hb,hon⟩:=Kx hj2.2;have hjl:=Km.1 hj;have hno:L.getD e.on false=false:=by rw [hon];exact Qp hun
   by_cases hjt:j=n
   ·subst hjt;obtain rfl:oj=ot:=kz (hoj.symm.trans hot);rw [hall e he hb] at hno;cases hno
   cases hl:L.getD j false with
   | true=>rw [h.back j oj hoj hl e he hb] at hno;cases hno
   | false=>exact absurd (j8r hs hc hn h d j (by omega) (by omega) (getD_in (by rw [h.size];omega) hl) n ht) (by omega)
  have h1:=Kd.1 hc t (Km.2 htl);simp only [qP,decide_eq_true_eq] at h1;obtain ⟨o',ho',e,he,hb,hon⟩:=Kx (h1.resolve_left (by omega));obtain rfl:o'=ot:=kz (ho'.symm.trans hot);have h2:=hall e he hb;rw [hon,Qp (h.rest (t - 1) (by omega) (by omega))] at h2;cases h2
def jag (P:Program) (md:kw) (ops:Array Oper) (C:World->Prop) (n:Nat) (E:Array Bool->Act->Prop):Nat->Array Bool->Act->Prop
 | 0,L,a=>E L a
 | f+1,L,a=>kk md ops L ≠ []/\∀ i ∈ kk md ops L,i < n/\qOp P ops C i (jag P md ops C n E f (L.setIfInBounds i true)) a
theorem j6F {g:Nat} {E:Array Bool->Act->Prop} {Q:Exit->Act->World->Prop} (hE:∀ L a w,C w->E L a->wpAny P md ops Q g L a w):∀ (f:Nat) (L:Array Bool) (a:Act) (w:World),C w->jag P md ops C n E f L a->wpAny P md ops Q (f+g) L a w
 | 0,L,a,w,hw,h=>by rw [kE];exact hE _ _ _ hw h
 | f+1,L,a,w,hw,h=>by
  rw [qr];exact ⟨fun h0=>absurd h0 h.1,fun i hi=>wpOp_of_qOp hw (fun a' w' hw' h'=>j6F hE f _ a' w' hw' h') (h.2 i hi).2⟩
theorem one {i:Nat} {oi:Oper} {v:Value} {E:Array Bool->Act->Prop} (hi:ops[i]?=some oi) (hsel:∀ (j:Nat) (o:Oper) cs b,ops[j]?=some o->o.op ≠ .select cs b)
  (hs:sinks md ops m n=true) (hc:KS md ops n=true) (hn:n < ops.size) (hin:i < n) (hE:∀ L a,E L a->∀ j ∈ kk md ops L,n<=j):∀ (f:Nat) (L:Array Bool) (a:Act),Inv md ops m n L ->
   (∀ j oj,ops[j]?=some oj->j ≠ i->L.getD j true=false->(∀ e ∈ oj.after,Kl md e=true->e.on ≠ i)->oi.apart ops oj=true) ->
   i ∈ kk md ops L->YieldsIn P ops C oi v a->jag P md ops C n E f (L.setIfInBounds i true) (a.put oi.dst v)->jag P md ops C n E (f+1) L a:=by
 intro f
 induction f with
 | zero =>
  intro L a inv _ hr hy H;refine ⟨qs hr,fun j hj=>?_⟩;have hjn:=j8r hs hc hn inv _ i (k5 _) hin (Qh.1 hr).1 j hj;refine ⟨hjn,?_⟩;rcases qI j i with hji | rfl
  ·exact absurd (hE _ _ H j (Qk hj hji)) (by omega)
  exact hy.qOp hi H
 | succ f ih =>
  intro L a inv hfree hr hy H;refine ⟨qs hr,fun j hj=>?_⟩;have hjn:=j8r hs hc hn inv _ i (k5 _) hin (Qh.1 hr).1 j hj;refine ⟨hjn,?_⟩;rcases qI j i with hji | rfl
  ·obtain ⟨hjun,oj,hoj,hall⟩:=Qh.1 hj
   have hno:∀ e ∈ oj.after,Kl md e=true->e.on ≠ i:=fun e he hb heq=>by
    have h1:=hall e he hb;rw [heq,Qp (Qh.1 hr).1] at h1;cases h1
   refine qOp_mono (fun a' h3=>ih (L.setIfInBounds j true) a' (inv.set hj hjn) (fun k ok hk hki hun hnk=>?_) (Qk hr (Ne.symm hji)) h3.1 ?_)
    (qOp_put hoj (hfree j oj hoj hji hjun hno) (fun cs b=>hsel i oi cs b hi) (fun cs b=>hsel j oj cs b hoj) hy (H.2 j (Qk hj hji)).2)
   ·refine hfree k ok hk hki ?_ hnk;rcases qI j k with hjk | rfl
    ·rwa [Qi true hjk] at hun
    exact hjun
   rw [KR _ _ hji];exact h3.2
  exact hy.qOp hi H
theorem lex {g:Nat} {E:Act->Prop} (hsel:kA ops=true) (hs:sinks md ops m n=true) (hc:KS md ops n=true) (hn:n < ops.size):∀ (l:List Oper) (k:Nat) (L:Array Bool) (a:Act),(∀ j,j < l.length->l[j]?=ops[k+j]?)->k+l.length=n->Inv md ops m n L ->
  qd md ops g l.length k L=true->wpQuiet P ops C E l a->jag P md ops C n (fun L' a'=>Region.seqB md ops g n L'=true/\E a') l.length L a
 | [],k,L,a,_,hk,_,hB,h=>by
  obtain rfl:k=n:=hk;exact ⟨hB,h⟩
 | o :: l,k,L,a,hl,hk,inv,hB,h=>by
  have h0:ops[k]?=some o:=(hl 0 (Nat.zero_lt_succ _)).symm;simp only [kR,qd,kC] at hB hk;obtain ⟨⟨hr,hf⟩,hB'⟩:=hB;have hr':k ∈ kk md ops L:=List.contains_iff_mem.1 hr;have hst:qOp P ops C k (wpQuiet P ops C E l) a:=by unfold qOp;rw [h0];exact h
  obtain ⟨v,hy,hK⟩:=yieldsIn_of_qOp h0 hst;refine one h0 (qa hsel) hs hc hn (by omega) (fun L' a' hL=>seqB_ready hL.1) l.length L a inv (qG h0 hf) hr' hy (lex hsel hs hc hn l (k+1) _ _ (fun j hj=>?_) (by omega) (inv.set hr' (by omega)) hB' hK);have:=hl (j+1) (Nat.succ_lt_succ hj)
  rwa [show k+(j+1)=k+1+j by omega] at this
theorem j1o {m j:Nat} (hm:m<=ops.size) (d:Bool) (hj:j < ops.size):(begun ops m).getD j d=decide (j < m):=by
 have hsz:(begun ops m).size=ops.size:=by simp [begun];omega
 have h1:(begun ops m)[j]?=some (decide (j < m)):=by
  unfold begun;rw [Array.getElem?_append];split <;> rename_i h
  ·simp at h;simp [h]
  simp at h;have hr:(kN (ops.size - m) false)[j - m]?=some false:=by rw [Array.getElem?_replicate];simp;omega
  simp only [Array.size_replicate];rw [hr];simp;omega
 rw [Array.getD_eq_getD_getElem?,h1];rfl
theorem j9a (hm:m<=n) (hn:n < ops.size) (hh:shut md ops m=true):Inv md ops m n (begun ops m):=by
 have hsz:(begun ops m).size=ops.size:=by simp [begun];omega
 refine ⟨hsz,fun j hj=>by rw [j1o (by omega) _ (by omega)];simpa using hj,fun j o hj hl e he hb=>?_,fun t h1 h2=>by rw [j1o (by omega) _ h2];simp;omega⟩;have hjs:j < ops.size:=(k3.1 hj).1;rw [j1o (by omega) _ hjs,decide_eq_true_eq] at hl;have h1:=Kd.1 hh j (Km.2 hl);simp only [hj] at h1;have h2:=Ko.1 h1 e he;simp only [hb,Bool.not_true,qY,decide_eq_true_eq] at h2;rw [j1o (by omega) _ (by omega)];simpa using h2
def okB (md:kw) (ops:Array Oper) (m n:Nat):Bool :=
 kA ops && decide (n < ops.size) && decide (m<=n) && shut md ops m && sinks md ops m n && KS md ops n && qd md ops (ops.size - n) (n - m) m (begun ops m)
theorem behind {Q:Exit->Act->World->Prop} {a:Act} {w:World} {l:List Oper} (hB:okB md l.toArray m n=true) (hC:C w)
  (h:wpQuiet P l.toArray C (fun a'=>∀ w',C w'->wpList P l.toArray Q (l.drop n) a' w') ((l.take n).drop m) a):wpAny P md l.toArray Q (l.length - m) (begun l.toArray m) a w:=by
 simp only [okB,kC,decide_eq_true_eq] at hB;obtain ⟨⟨⟨⟨⟨⟨hsel,hn⟩,hm⟩,hh⟩,hs⟩,hc⟩,hlex⟩:=hB;have hn':n < l.length:=by simpa using hn
 have htl:((l.take n).drop m).length=n - m:=by simp;omega
 have hdl:(l.drop n).length=l.toArray.size - n:=by simp
 have H:=lex (md:=md) (g:=l.toArray.size - n) hsel hs hc hn ((l.take n).drop m) m _ a (fun j hj=>by
  rw [htl] at hj;rw [K6,KI,if_pos (by omega)];simp) (by rw [htl];omega) (j9a hm hn hh) (by rw [htl];exact hlex) h
 have:=j6F (Q:=Q) (g:=l.toArray.size - n) (fun L a' w' hw' hL=>by
  have:=wpAny_of_seq (md:=md) (Q':=Q) (l.drop n) n L a' w' (fun j=>by simp [K6]) (by rw [hdl];exact hL.1) (hL.2 w' hw')
  rwa [hdl] at this) _ _ _ _ hC H
 rwa [htl,show n - m+(l.toArray.size - n)=l.length - m by simp;omega] at this
theorem region {id:Nat} {Q:Exit->Act->World->Prop} {a:Act} {w:World} {l:List Oper} (B n:Nat) (hm:P.follows .mixedOrders=true) (hB:okB .any l.toArray 0 n=true)
  (h:wpQuiet P l.toArray (fun w'=>∃ p:QB.By B w,w'=p.world) (fun a'=>∀ w',(∃ p:QB.By B w,w'=p.world)->wpList P l.toArray Q (l.drop n) a' w') (l.take n) a):(Ky id l.toArray true).wp P Q a w:=by
 have:=behind (C:=fun w'=>∃ p:QB.By B w,w'=p.world) (w:=w.drew) (md:=.any) (Q:=Q) hB ⟨⟨w.drew,(ka _ _).drew⟩,rfl⟩ (by simpa using h);refine Qr hm ?_;simpa [begun] using this
theorem j0q {id:Nat} {Q:Exit->Act->World->Prop} {a:Act} {w:World} {o:Oper} {l:List Oper} {v:Value} (B n:Nat) (hm:P.follows .mixedOrders=true) (hB:okB .any (o :: l).toArray 1 n=true) (hf:Ka .any (o :: l).toArray (kN (l.length+1) false) 0=true)
  (hr:(kk .any (o :: l).toArray (kN (l.length+1) false)).contains 0=true) (hQ:∀ c a w,Q (.panic c) (a.put o.dst v) w->Q (.panic c) a w) (hy:Yields P (o :: l).toArray o v a)
  (h:wpQuiet P (o :: l).toArray (fun w'=>∃ p:QB.By B w,w'=p.world) (fun a'=>∀ w',(∃ p:QB.By B w,w'=p.world)->wpList P (o :: l).toArray Q ((o :: l).drop n) a' w') (((o :: l).take n).drop 1) (a.put o.dst v)):(Ky id (o :: l).toArray true).wp P Q a w:=by
 have hs:kA (o :: l).toArray=true:=by
  simp only [okB,kC] at hB;exact hB.1.1.1.1.1.1
 have:=behind (C:=fun w'=>∃ p:QB.By B w,w'=p.world) (w:=w.drew) (md:=.any) (Q:=Q) hB ⟨⟨w.drew,(ka _ _).drew⟩,rfl⟩ h;refine Qr hm ?_
 have e1:(kN (l.length+1) false).setIfInBounds 0 true=begun (o :: l).toArray 1:=by
  apply Qa;simp [begun,List.replicate_succ]
 simp only [KO,kR];exact wpAny_take (i:=0) (by simp) hs hf hr hQ hy (by rw [e1];simpa using this)
end
end QT
namespace Po
open Zip
open Go Go.RowKit
open Tab
section
variable {P:PP} {R:P.σ->World->Prop} {B:Nat} {ok:Nat->Nat × Nat->Prop} {ti:TypeId} {v rv:Value} {FN FF FG:FuncId}
variable {s:P.σ} {W:World} {b o:Nat} {cs:Array Value} {t:TypeId} {fr fr2:Nat × Nat} {l:List Value}
structure At (P:PP) (R:P.σ->World->Prop) (B b o:Nat) (cs:Array Value) (t:TypeId) (fr:Nat × Nat) (l:List Value) (s:P.σ) (W:World) (a:List Sp) (l1:List Value) (s1:P.σ) (W1:World):Prop where
 run:runs P a l s=.ok (l1,s1)
 st:R s1 W1
 mv:Mv B b W W1
 blk:W1.heap[b]?=some (.cells (wrt cs o l1) t fr)
 kd:l1.map kind=l.map kind
theorem At.start (hR:R s W) (hb:W.heap[b]?=some (.cells (wrt cs o l) t fr)):At P R B b o cs t fr l s W [] l s W:=⟨rfl,hR,Mv.refl _ _ _,hb,rfl⟩
theorem At.len {a:List Sp} {l1:List Value} {s1:P.σ} {W1:World} (h:At P R B b o cs t fr l s W a l1 s1 W1):l1.length=l.length:=Jv P a h.run
theorem At.step (PT:Port P R B ok ti v rv FN FF FG) {a:List Sp} {l1:List Value} {s1:P.σ} {W1 W2:World} (h:At P R B b o cs t fr l s W a l1 s1 W1) (hB:B<=W.heap.size) (hb:Below W1.heap.size W1 W2):At P R B b o cs t fr l s W a l1 s1 W2 :=
 ⟨h.run,PT.stay _ _ _ h.st hb.size (fun j cs t fr hj _=>hb.block j (k3.1 hj).1),h.mv.trans (Mv.of hb (kb hB h.mv.low.size)),(hb.block b (k3.1 h.blk).1).trans h.blk,h.kd⟩
theorem At.next {a c:List Sp} {l1:List Value} {s1:P.σ} {W1 W2:World} {e:Ending} {y:List Value × P.σ} (h:At P R B b o cs t fr l s W a l1 s1 W1) (hr:runs P c l1 s1=.ok y) (he:Ends P R B b o cs t fr (.ok y) W1 e W2):e=.returned (.tuple #[])/\At P R B b o cs t fr l s W (a++c) y.1 y.2 W2:=by
 obtain ⟨l2,s2⟩:=y;obtain ⟨h1,h2,h3,h4⟩:=he;exact ⟨h1,by rw [J2,h.run];exact hr,h2,h.mv.trans h3,h4,by rw [Jn P c hr,h.kd]⟩
theorem At.fail {a c d:List Sp} {l1:List Value} {s1:P.σ} {W1 W2:World} {e:Ending} {f:Flt} (h:At P R B b o cs t fr l s W a l1 s1 W1) (hr:runs P c l1 s1=.error f) (he:Ends P R B b o cs t fr (.error f) W1 e W2):e=.panicked [{ v:=fault f,recovered:=false }]/\Ends P R B b o cs t fr (runs P (a++c++d) l s) W (.panicked [{ v:=fault f,recovered:=false }]) W2:=by
 refine ⟨he.1,?_⟩;rw [J2,show runs P (a++c) l s=.error f from by rw [J2,h.run];exact hr];exact ⟨rfl,h.mv.low.trans he.2⟩
theorem Fit.head {c d:List Sp} {l1:List Value} {s1:P.σ} (h:Fit (runs P (c++d) l1 s1)):Fit (runs P c l1 s1):=fun hr=>h (by rw [J2,hr])
theorem Fit.tail {c d:List Sp} {l1:List Value} {s1:P.σ} {y:List Value × P.σ} (h:Fit (runs P (c++d) l1 s1)) (hr:runs P c l1 s1=.ok y):Fit (runs P d y.1 y.2):=by
 rw [J2,hr] at h;exact h
theorem At.fin {a:List Sp} {l1:List Value} {s1:P.σ} {W1:World} (h:At P R B b o cs t fr l s W a l1 s1 W1):Ends P R B b o cs t fr (runs P a l s) W (.returned (.tuple #[])) W1:=by
 rw [h.run];exact ⟨rfl,h.st,h.mv,h.blk⟩
theorem j2L (PT:Port P R B ok ti v rv FN FF FG) {lb cap n:Nat} (js:List Nat) (hn:js.length=n) (hn2:n<=1000) (hR:R s W) (hB:B<=W.heap.size) (hok:ok b fr) (ht:b < B\/¬ Pt t) (hl:o+l.length<=cs.size) (hb:W.heap[b]?=some (.cells (wrt cs o l) t fr)) (hx:j40 js l)
  (hlb:W.heap[lb]?=some (.cells (j2w b o js).toArray 105 fr2)) (hne:lb ≠ b) (hcap:n<=cap) (hfit:Fit (runs P (js.map (.num 1 255)) l s)) :
  Calls Tryz.prog 50 #[.iface ti v,.slice (some ⟨lb,0,none⟩) n cap] W (Ends P R B b o cs t fr (runs P (js.map (.num 1 255)) l s) W):=by
 have hc:=hJJ (j1M PT js hn hn2 1 255 hR hB hok ht hl hb hx hlb hne hcap hfit);generalize runs P (js.map (.num 1 255)) l s=r at hc |-;clear PT hR hB hok ht hl hb hx hlb hne hcap hn hn2 hfit;go_enter Tryz.func50,Tryz.ntmps50
 go_wp2_with fail
 refine hc.out.mono ?_;intro e W' he;cases r with
 | error f =>
  obtain ⟨rfl,h2⟩:=he;exact ⟨rfl,rfl,h2⟩
 | ok y =>
  obtain ⟨rfl,h2⟩:=he;go_wp2
  go_end0
  exact ⟨rfl,h2⟩
theorem j0L (PT:Port P R B ok ti v rv FN FF FG) {lb cap n:Nat} (js:List Nat) (hn:js.length=n) (hn2:n<=1000) (hR:R s W) (hB:B<=W.heap.size) (hok:ok b fr) (ht:b < B\/¬ Pt t) (hl:o+l.length<=cs.size) (hb:W.heap[b]?=some (.cells (wrt cs o l) t fr)) (hx:j40 js l)
  (hlb:W.heap[lb]?=some (.cells (j2w b o js).toArray 105 fr2)) (hne:lb ≠ b) (hcap:n<=cap) (hfit:Fit (runs P (js.map (.num 2 9999)) l s)) :
  Calls Tryz.prog 57 #[.iface ti v,.slice (some ⟨lb,0,none⟩) n cap] W (Ends P R B b o cs t fr (runs P (js.map (.num 2 9999)) l s) W):=by
 have hc:=hJJ (j1M PT js hn hn2 2 9999 hR hB hok ht hl hb hx hlb hne hcap hfit);generalize runs P (js.map (.num 2 9999)) l s=r at hc |-;clear PT hR hB hok ht hl hb hx hlb hne hcap hn hn2 hfit;go_enter Tryz.func57,Tryz.ntmps57
 go_wp2_with fail
 refine hc.out.mono ?_;intro e W' he;cases r with
 | error f =>
  obtain ⟨rfl,h2⟩:=he;exact ⟨rfl,rfl,h2⟩
 | ok y =>
  obtain ⟨rfl,h2⟩:=he;go_wp2
  go_end0
  exact ⟨rfl,h2⟩
theorem j3d (PT:Port P R B ok ti v rv FN FF FG) {lb cap n:Nat} (js:List Nat) (hn:js.length=n) (hn2:n<=1000) (hR:R s W) (hB:B<=W.heap.size) (hok:ok b fr) (ht:b < B\/¬ Pt t) (hl:o+l.length<=cs.size) (hb:W.heap[b]?=some (.cells (wrt cs o l) t fr)) (hx:j40 js l)
  (hlb:W.heap[lb]?=some (.cells (j2w b o js).toArray 105 fr2)) (hne:lb ≠ b) (hcap:n<=cap) (hfit:Fit (runs P (js.map (.num 4 2147483647)) l s)) :
  Calls Tryz.prog 58 #[.iface ti v,.slice (some ⟨lb,0,none⟩) n cap] W (Ends P R B b o cs t fr (runs P (js.map (.num 4 2147483647)) l s) W):=by
 have hc:=hJJ (j1M PT js hn hn2 4 2147483647 hR hB hok ht hl hb hx hlb hne hcap hfit);generalize runs P (js.map (.num 4 2147483647)) l s=r at hc |-;clear PT hR hB hok ht hl hb hx hlb hne hcap hn hn2 hfit;go_enter Tryz.func58,Tryz.ntmps58
 go_wp2_with fail
 refine hc.out.mono ?_;intro e W' he;cases r with
 | error f =>
  obtain ⟨rfl,h2⟩:=he;exact ⟨rfl,rfl,h2⟩
 | ok y =>
  obtain ⟨rfl,h2⟩:=he;go_wp2
  go_end0
  exact ⟨rfl,h2⟩
theorem j27 (PT:Port P R B ok ti v rv FN FF FG) (hk:l.map kind=[1,0,0,0,0,0,0,0,0,0,0,1,1]) (hR:R s W) (hB:B<=W.heap.size) (hok:ok b fr) (ht:b < B\/¬ Pt t) (hl:o+l.length<=cs.size) (hb:W.heap[b]?=some (.cells (wrt cs o l) t fr)) (hfit:Fit (runs P (([]:List Sp)++([.flg 0])++(([1,2,3,4,5,6,7,8,9]:List Nat).map (.num 2 9999))++([.num 1 3 10])++([.flg 11])++([.flg 12])) l s)) :
  Calls Tryz.prog 47 #[.iface ti v,.pointer (some ⟨b,o,none⟩)] W (Ends P R B b o cs t fr (runs P (([]:List Sp)++([.flg 0])++(([1,2,3,4,5,6,7,8,9]:List Nat).map (.num 2 9999))++([.num 1 3 10])++([.flg 11])++([.flg 12])) l s) W):=by
 have hm:=PT.mn;have hm2:=PT.mg;have hm3:=PT.mf;have na:=PT.nn;have na2:=PT.ng;have na3:=PT.nf;have en:=PT.en;have eg:=PT.eg;have ef:=PT.ef;have HK:=hJJ hk;have HOK:=hJJ hok;have HT:=hJJ ht;have HLN:=hJJ hl;have AT0:Hid (At P R B b o cs t fr l s W [] l s W):=hJJ (At.start hR hb);have hmf:∀ (nm:String) (w:World),(Kq (.method nm) #[.iface ti v] #[]).run Tryz.prog w=.ok (.func (.method nm) #[.iface ti v] #[]) w:=fun _ _=>rfl;have HFIT0:Hid (Fit (runs P (([.flg 0])++((([1,2,3,4,5,6,7,8,9]:List Nat).map (.num 2 9999))++(([.num 1 3 10])++(([.flg 11])++(([.flg 12])++([])))))) l s)):=hJJ (by simpa only [k8,K8,kX] using hfit);clear hk hok ht hl hR hb hfit;obtain ⟨l1,hl1⟩:∃ x,x=l:=⟨_,rfl⟩;obtain ⟨s1,hs1⟩:∃ x,x=s:=⟨_,rfl⟩;have AT:Hid (At P R B b o cs t fr l s W [] l1 s1 W):=by subst hl1 hs1;exact AT0
 have HFIT:Hid (Fit (runs P (([.flg 0])++((([1,2,3,4,5,6,7,8,9]:List Nat).map (.num 2 9999))++(([.num 1 3 10])++(([.flg 11])++(([.flg 12])++([])))))) l1 s1)):=by subst hl1 hs1;exact HFIT0
 clear hl1 hs1 AT0 HFIT0;obtain ⟨ALL,hALL⟩:∃ x,x=([]:List Sp)++([.flg 0])++(([1,2,3,4,5,6,7,8,9]:List Nat).map (.num 2 9999))++([.num 1 3 10])++([.flg 11])++([.flg 12]):=⟨_,rfl⟩;rw [<-hALL];have HALL:=hJJ hALL;clear hALL;go_enter Tryz.func47,Tryz.ntmps47
 go_upto_region 0 with fail
 refine QB.jo 7 (by kernel_rfl) (by kernel_rfl) ?_;have AD:=hJJ (AT.out.step PT hB ((ka _ _).drew:Below W.heap.size W W.drew));clear AT;have AT:=AD;clear AD;generalize W.drew=V at AT |-;simp only [ki,kq,k7,kh];repeat still_step
 refine Qg ?_;have hft:=Fit.head (c:=[.flg 0]) HFIT.out;rw [jD] at hft;obtain ⟨x,hx⟩:=j5U (j:=0) (AT.out.kd.trans HK.out) rfl;have hc:=hJJ (PT.flg s1 _ b o cs t fr l1 0 x AT.out.st (kb hB AT.out.mv.low.size) HOK.out HT.out (by rw [AT.out.len];exact HLN.out) AT.out.blk hx hft);rw [<-jD] at hc;clear hx hft;go_wp2_with fail
 refine hc.out.mono ?_;intro e W1 he;generalize hrn:runs P ([.flg 0]) l1 s1=r at he;clear hc;cases r with
 | error f =>
  obtain ⟨rfl,h2⟩:=AT.out.fail (d:=(([1,2,3,4,5,6,7,8,9]:List Nat).map (.num 2 9999))++([.num 1 3 10])++([.flg 11])++([.flg 12])) hrn he;exact ⟨rfl,by rw [HALL.out];exact h2⟩
 | ok y =>
 obtain ⟨rfl,h2⟩:=AT.out.next hrn he;have HFIT2:=hJJ (Fit.tail HFIT.out hrn);clear AT he hrn HFIT;obtain ⟨l1,s1⟩:=y;have HFIT:Hid (Fit (runs P ((([1,2,3,4,5,6,7,8,9]:List Nat).map (.num 2 9999))++(([.num 1 3 10])++(([.flg 11])++(([.flg 12])++([]))))) l1 s1)):=HFIT2;clear HFIT2;have AT:=hJJ h2;clear h2;go_upto_region 1 with fail
 refine QT.j0q W1.heap.size 28 (by kernel_rfl) (by kernel_rfl) (by kernel_rfl) (by kernel_rfl) (v:=.iface ti v) (fun _ _ _ h=>h) (qT ⟨by rfl,fun w'=>by go_simp;try rfl⟩) ?_;dsimp only [kf];simp only [ko,kT,kU,ki,kq,k7,kh];repeat (quiet_step (fail))
 refine Qe ?_;intro _ hw';obtain ⟨p,rfl⟩:=hw';have AD:=hJJ (AT.out.step PT hB p.below);clear AT;have AT:=AD;clear AD;generalize p.world=V at AT |-
 (try simp only [k7,kh])
 have hbl:Below V.heap.size V (V.alloc (.cells (j2w b o [1,2,3,4,5,6,7,8,9]).toArray 105)):=(ka _ _).alloc (k5 _) _
 have hc:=hJJ (j0L PT (lb:=V.heap.size) (cap:=9) [1,2,3,4,5,6,7,8,9] rfl (by decide) (AT.out.step PT hB hbl).st (kb hB (AT.out.step PT hB hbl).mv.low.size) HOK.out HT.out (by rw [AT.out.len];exact HLN.out) (AT.out.step PT hB hbl).blk (fun j hj=>by
  simp only [kQ,kK,or_false] at hj;rcases hj with rfl | rfl | rfl | rfl | rfl | rfl | rfl | rfl | rfl <;> exact j0i (AT.out.kd.trans HK.out) rfl) (Qb V _) (by have:=(k3.1 AT.out.blk).1;omega) (k5 _) (Fit.head (c:=([1,2,3,4,5,6,7,8,9]:List Nat).map (.num 2 9999)) HFIT.out))
 have AD:=hJJ (AT.out.step PT hB hbl);clear AT hbl;have AT:=AD;clear AD;go_wp2_with fail
 refine hc.out.mono ?_;intro e W2 he;generalize hrn:runs P (([1,2,3,4,5,6,7,8,9]:List Nat).map (.num 2 9999)) l1 s1=r at he;clear hc;cases r with
 | error f =>
  obtain ⟨rfl,h2⟩:=AT.out.fail (d:=([.num 1 3 10])++([.flg 11])++([.flg 12])) hrn he;exact ⟨rfl,by rw [HALL.out];exact h2⟩
 | ok y =>
 obtain ⟨rfl,h2⟩:=AT.out.next hrn he;have HFIT2:=hJJ (Fit.tail HFIT.out hrn);clear AT he hrn HFIT;obtain ⟨l1,s1⟩:=y;have HFIT:Hid (Fit (runs P (([.num 1 3 10])++(([.flg 11])++(([.flg 12])++([])))) l1 s1)):=HFIT2;clear HFIT2;have AT:=hJJ h2;clear h2;go_upto_region 2 with fail
 refine QB.jo 7 (by kernel_rfl) (by kernel_rfl) ?_;have AD:=hJJ (AT.out.step PT hB ((ka _ _).drew:Below W2.heap.size W2 W2.drew));clear AT;have AT:=AD;clear AD;generalize W2.drew=V at AT |-;simp only [ki,kq,k7,kh];repeat still_step
 refine Qg ?_;have hft:=Fit.head (c:=[.num 1 3 10]) HFIT.out;rw [jD] at hft;obtain ⟨x,hx⟩:=j0i (j:=10) (AT.out.kd.trans HK.out) rfl;have hc:=hJJ (PT.num s1 _ b o cs t fr l1 1 3 10 x AT.out.st (kb hB AT.out.mv.low.size) HOK.out HT.out (by rw [AT.out.len];exact HLN.out) AT.out.blk hx hft);rw [<-jD] at hc;clear hx hft;go_wp2_with fail
 refine hc.out.mono ?_;intro e W3 he;generalize hrn:runs P ([.num 1 3 10]) l1 s1=r at he;clear hc;cases r with
 | error f =>
  obtain ⟨rfl,h2⟩:=AT.out.fail (d:=([.flg 11])++([.flg 12])) hrn he;exact ⟨rfl,by rw [HALL.out];exact h2⟩
 | ok y =>
 obtain ⟨rfl,h2⟩:=AT.out.next hrn he;have HFIT2:=hJJ (Fit.tail HFIT.out hrn);clear AT he hrn HFIT;obtain ⟨l1,s1⟩:=y;have HFIT:Hid (Fit (runs P (([.flg 11])++(([.flg 12])++([]))) l1 s1)):=HFIT2;clear HFIT2;have AT:=hJJ h2;clear h2;go_upto_region 3 with fail
 refine QB.jo 7 (by kernel_rfl) (by kernel_rfl) ?_;have AD:=hJJ (AT.out.step PT hB ((ka _ _).drew:Below W3.heap.size W3 W3.drew));clear AT;have AT:=AD;clear AD;generalize W3.drew=V at AT |-;simp only [ki,kq,k7,kh];repeat still_step
 refine Qg ?_;have hft:=Fit.head (c:=[.flg 11]) HFIT.out;rw [jD] at hft;obtain ⟨x,hx⟩:=j5U (j:=11) (AT.out.kd.trans HK.out) rfl;have hc:=hJJ (PT.flg s1 _ b o cs t fr l1 11 x AT.out.st (kb hB AT.out.mv.low.size) HOK.out HT.out (by rw [AT.out.len];exact HLN.out) AT.out.blk hx hft);rw [<-jD] at hc;clear hx hft;go_wp2_with fail
 refine hc.out.mono ?_;intro e W4 he;generalize hrn:runs P ([.flg 11]) l1 s1=r at he;clear hc;cases r with
 | error f =>
  obtain ⟨rfl,h2⟩:=AT.out.fail (d:=([.flg 12])) hrn he;exact ⟨rfl,by rw [HALL.out];exact h2⟩
 | ok y =>
 obtain ⟨rfl,h2⟩:=AT.out.next hrn he;have HFIT2:=hJJ (Fit.tail HFIT.out hrn);clear AT he hrn HFIT;obtain ⟨l1,s1⟩:=y;have HFIT:Hid (Fit (runs P (([.flg 12])++([])) l1 s1)):=HFIT2;clear HFIT2;have AT:=hJJ h2;clear h2;go_upto_region 4 with fail
 refine QB.jo 7 (by kernel_rfl) (by kernel_rfl) ?_;have AD:=hJJ (AT.out.step PT hB ((ka _ _).drew:Below W4.heap.size W4 W4.drew));clear AT;have AT:=AD;clear AD;generalize W4.drew=V at AT |-;simp only [ki,kq,k7,kh];repeat still_step
 refine Qg ?_;have hft:=Fit.head (c:=[.flg 12]) HFIT.out;rw [jD] at hft;obtain ⟨x,hx⟩:=j5U (j:=12) (AT.out.kd.trans HK.out) rfl;have hc:=hJJ (PT.flg s1 _ b o cs t fr l1 12 x AT.out.st (kb hB AT.out.mv.low.size) HOK.out HT.out (by rw [AT.out.len];exact HLN.out) AT.out.blk hx hft);rw [<-jD] at hc;clear hx hft;go_wp2_with fail
 refine hc.out.mono ?_;intro e W5 he;generalize hrn:runs P ([.flg 12]) l1 s1=r at he;clear hc;cases r with
 | error f =>
  obtain ⟨rfl,h2⟩:=AT.out.fail (d:=[]) hrn he;exact ⟨rfl,by rw [HALL.out];exact h2⟩
 | ok y =>
 obtain ⟨rfl,h2⟩:=AT.out.next hrn he;have HFIT2:=hJJ (Fit.tail HFIT.out hrn);clear AT he hrn HFIT;obtain ⟨l1,s1⟩:=y;have HFIT:Hid (Fit (runs P ([]) l1 s1)):=HFIT2;clear HFIT2;have AT:=hJJ h2;clear h2;go_wp2
 go_end0
 rw [HALL.out];exact AT.out.fin
theorem j2M (PT:Port P R B ok ti v rv FN FF FG) (hk:l.map kind=[0,0,0,0,0,0,0,0,0,0,0]) (hR:R s W) (hB:B<=W.heap.size) (hok:ok b fr) (ht:b < B\/¬ Pt t) (hl:o+l.length<=cs.size) (hb:W.heap[b]?=some (.cells (wrt cs o l) t fr)) (hfit:Fit (runs P (([]:List Sp)++(([0,1,2,3]:List Nat).map (.num 1 255))++(([4,5,6,7,8,9]:List Nat).map (.num 2 9999))++(([10]:List Nat).map (.num 4 2147483647))) l s)) :
  Calls Tryz.prog 54 #[.iface ti v,.pointer (some ⟨b,o,none⟩)] W (Ends P R B b o cs t fr (runs P (([]:List Sp)++(([0,1,2,3]:List Nat).map (.num 1 255))++(([4,5,6,7,8,9]:List Nat).map (.num 2 9999))++(([10]:List Nat).map (.num 4 2147483647))) l s) W):=by
 have hm:=PT.mn;have hm2:=PT.mg;have hm3:=PT.mf;have na:=PT.nn;have na2:=PT.ng;have na3:=PT.nf;have en:=PT.en;have eg:=PT.eg;have ef:=PT.ef;have HK:=hJJ hk;have HOK:=hJJ hok;have HT:=hJJ ht;have HLN:=hJJ hl;have AT0:Hid (At P R B b o cs t fr l s W [] l s W):=hJJ (At.start hR hb);have hmf:∀ (nm:String) (w:World),(Kq (.method nm) #[.iface ti v] #[]).run Tryz.prog w=.ok (.func (.method nm) #[.iface ti v] #[]) w:=fun _ _=>rfl;have HFIT0:Hid (Fit (runs P ((([0,1,2,3]:List Nat).map (.num 1 255))++((([4,5,6,7,8,9]:List Nat).map (.num 2 9999))++((([10]:List Nat).map (.num 4 2147483647))++([])))) l s)):=hJJ (by simpa only [k8,K8,kX] using hfit);clear hk hok ht hl hR hb hfit;obtain ⟨l1,hl1⟩:∃ x,x=l:=⟨_,rfl⟩;obtain ⟨s1,hs1⟩:∃ x,x=s:=⟨_,rfl⟩;have AT:Hid (At P R B b o cs t fr l s W [] l1 s1 W):=by subst hl1 hs1;exact AT0
 have HFIT:Hid (Fit (runs P ((([0,1,2,3]:List Nat).map (.num 1 255))++((([4,5,6,7,8,9]:List Nat).map (.num 2 9999))++((([10]:List Nat).map (.num 4 2147483647))++([])))) l1 s1)):=by subst hl1 hs1;exact HFIT0
 clear hl1 hs1 AT0 HFIT0;obtain ⟨ALL,hALL⟩:∃ x,x=([]:List Sp)++(([0,1,2,3]:List Nat).map (.num 1 255))++(([4,5,6,7,8,9]:List Nat).map (.num 2 9999))++(([10]:List Nat).map (.num 4 2147483647)):=⟨_,rfl⟩;rw [<-hALL];have HALL:=hJJ hALL;clear hALL;go_enter Tryz.func54,Tryz.ntmps54
 go_upto_region 0 with fail
 refine QT.j0q W.heap.size 13 (by kernel_rfl) (by kernel_rfl) (by kernel_rfl) (by kernel_rfl) (v:=.iface ti v) (fun _ _ _ h=>h) (qT ⟨by rfl,fun w'=>by go_simp;try rfl⟩) ?_;dsimp only [kf];simp only [ko,kT,kU,ki,kq,k7,kh];repeat (quiet_step (fail))
 refine Qe ?_;intro _ hw';obtain ⟨p,rfl⟩:=hw';have AD:=hJJ (AT.out.step PT hB p.below);clear AT;have AT:=AD;clear AD;generalize p.world=V at AT |-
 (try simp only [k7,kh])
 have hbl:Below V.heap.size V (V.alloc (.cells (j2w b o [0,1,2,3]).toArray 105)):=(ka _ _).alloc (k5 _) _
 have hc:=hJJ (j2L PT (lb:=V.heap.size) (cap:=4) [0,1,2,3] rfl (by decide) (AT.out.step PT hB hbl).st (kb hB (AT.out.step PT hB hbl).mv.low.size) HOK.out HT.out (by rw [AT.out.len];exact HLN.out) (AT.out.step PT hB hbl).blk (fun j hj=>by
  simp only [kQ,kK,or_false] at hj;rcases hj with rfl | rfl | rfl | rfl <;> exact j0i (AT.out.kd.trans HK.out) rfl) (Qb V _) (by have:=(k3.1 AT.out.blk).1;omega) (k5 _) (Fit.head (c:=([0,1,2,3]:List Nat).map (.num 1 255)) HFIT.out))
 have AD:=hJJ (AT.out.step PT hB hbl);clear AT hbl;have AT:=AD;clear AD;go_wp2_with fail
 refine hc.out.mono ?_;intro e W1 he;generalize hrn:runs P (([0,1,2,3]:List Nat).map (.num 1 255)) l1 s1=r at he;clear hc;cases r with
 | error f =>
  obtain ⟨rfl,h2⟩:=AT.out.fail (d:=(([4,5,6,7,8,9]:List Nat).map (.num 2 9999))++(([10]:List Nat).map (.num 4 2147483647))) hrn he;exact ⟨rfl,by rw [HALL.out];exact h2⟩
 | ok y =>
 obtain ⟨rfl,h2⟩:=AT.out.next hrn he;have HFIT2:=hJJ (Fit.tail HFIT.out hrn);clear AT he hrn HFIT;obtain ⟨l1,s1⟩:=y;have HFIT:Hid (Fit (runs P ((([4,5,6,7,8,9]:List Nat).map (.num 2 9999))++((([10]:List Nat).map (.num 4 2147483647))++([]))) l1 s1)):=HFIT2;clear HFIT2;have AT:=hJJ h2;clear h2;go_upto_region 1 with fail
 refine QT.j0q W1.heap.size 19 (by kernel_rfl) (by kernel_rfl) (by kernel_rfl) (by kernel_rfl) (v:=.iface ti v) (fun _ _ _ h=>h) (qT ⟨by rfl,fun w'=>by go_simp;try rfl⟩) ?_;dsimp only [kf];simp only [ko,kT,kU,ki,kq,k7,kh];repeat (quiet_step (fail))
 refine Qe ?_;intro _ hw';obtain ⟨p,rfl⟩:=hw';have AD:=hJJ (AT.out.step PT hB p.below);clear AT;have AT:=AD;clear AD;generalize p.world=V at AT |-
 (try simp only [k7,kh])
 have hbl:Below V.heap.size V (V.alloc (.cells (j2w b o [4,5,6,7,8,9]).toArray 105)):=(ka _ _).alloc (k5 _) _
 have hc:=hJJ (j0L PT (lb:=V.heap.size) (cap:=6) [4,5,6,7,8,9] rfl (by decide) (AT.out.step PT hB hbl).st (kb hB (AT.out.step PT hB hbl).mv.low.size) HOK.out HT.out (by rw [AT.out.len];exact HLN.out) (AT.out.step PT hB hbl).blk (fun j hj=>by
  simp only [kQ,kK,or_false] at hj;rcases hj with rfl | rfl | rfl | rfl | rfl | rfl <;> exact j0i (AT.out.kd.trans HK.out) rfl) (Qb V _) (by have:=(k3.1 AT.out.blk).1;omega) (k5 _) (Fit.head (c:=([4,5,6,7,8,9]:List Nat).map (.num 2 9999)) HFIT.out))
 have AD:=hJJ (AT.out.step PT hB hbl);clear AT hbl;have AT:=AD;clear AD;go_wp2_with fail
 refine hc.out.mono ?_;intro e W2 he;generalize hrn:runs P (([4,5,6,7,8,9]:List Nat).map (.num 2 9999)) l1 s1=r at he;clear hc;cases r with
 | error f =>
  obtain ⟨rfl,h2⟩:=AT.out.fail (d:=(([10]:List Nat).map (.num 4 2147483647))) hrn he;exact ⟨rfl,by rw [HALL.out];exact h2⟩
 | ok y =>
 obtain ⟨rfl,h2⟩:=AT.out.next hrn he;have HFIT2:=hJJ (Fit.tail HFIT.out hrn);clear AT he hrn HFIT;obtain ⟨l1,s1⟩:=y;have HFIT:Hid (Fit (runs P ((([10]:List Nat).map (.num 4 2147483647))++([])) l1 s1)):=HFIT2;clear HFIT2;have AT:=hJJ h2;clear h2;have V_:True:=trivial;have hbl:Below W2.heap.size W2 (W2.alloc (.cells (j2w b o [10]).toArray 105)):=(ka _ _).alloc (k5 _) _
 have hc:=hJJ (j3d PT (lb:=W2.heap.size) (cap:=1) [10] rfl (by decide) (AT.out.step PT hB hbl).st (kb hB (AT.out.step PT hB hbl).mv.low.size) HOK.out HT.out (by rw [AT.out.len];exact HLN.out) (AT.out.step PT hB hbl).blk (fun j hj=>by
  simp only [kQ,kK,or_false] at hj;rcases hj with rfl <;> exact j0i (AT.out.kd.trans HK.out) rfl) (Qb W2 _) (by have:=(k3.1 AT.out.blk).1;omega) (k5 _) (Fit.head (c:=([10]:List Nat).map (.num 4 2147483647)) HFIT.out))
 have AD:=hJJ (AT.out.step PT hB hbl);clear AT hbl;have AT:=AD;clear AD;go_wp2_with fail
 refine hc.out.mono ?_;intro e W3 he;generalize hrn:runs P (([10]:List Nat).map (.num 4 2147483647)) l1 s1=r at he;clear hc;cases r with
 | error f =>
  obtain ⟨rfl,h2⟩:=AT.out.fail (d:=[]) hrn he;exact ⟨rfl,by rw [HALL.out];exact h2⟩
 | ok y =>
 obtain ⟨rfl,h2⟩:=AT.out.next hrn he;have HFIT2:=hJJ (Fit.tail HFIT.out hrn);clear AT he hrn HFIT;obtain ⟨l1,s1⟩:=y;have HFIT:Hid (Fit (runs P ([]) l1 s1)):=HFIT2;clear HFIT2;have AT:=hJJ h2;clear h2;go_wp2
 go_end0
 rw [HALL.out];exact AT.out.fin
theorem j8s (PT:Port P R B ok ti v rv FN FF FG) (hk:l.map kind=[0,0]) (hR:R s W) (hB:B<=W.heap.size) (hok:ok b fr) (ht:b < B\/¬ Pt t) (hl:o+l.length<=cs.size) (hb:W.heap[b]?=some (.cells (wrt cs o l) t fr)) (hfit:Fit (runs P (([]:List Sp)++(([0]:List Nat).map (.num 1 255))++(([1]:List Nat).map (.num 2 9999))) l s)) :
  Calls Tryz.prog 56 #[.iface ti v,.pointer (some ⟨b,o,none⟩)] W (Ends P R B b o cs t fr (runs P (([]:List Sp)++(([0]:List Nat).map (.num 1 255))++(([1]:List Nat).map (.num 2 9999))) l s) W):=by
 have hm:=PT.mn;have hm2:=PT.mg;have hm3:=PT.mf;have na:=PT.nn;have na2:=PT.ng;have na3:=PT.nf;have en:=PT.en;have eg:=PT.eg;have ef:=PT.ef;have HK:=hJJ hk;have HOK:=hJJ hok;have HT:=hJJ ht;have HLN:=hJJ hl;have AT0:Hid (At P R B b o cs t fr l s W [] l s W):=hJJ (At.start hR hb);have hmf:∀ (nm:String) (w:World),(Kq (.method nm) #[.iface ti v] #[]).run Tryz.prog w=.ok (.func (.method nm) #[.iface ti v] #[]) w:=fun _ _=>rfl;have HFIT0:Hid (Fit (runs P ((([0]:List Nat).map (.num 1 255))++((([1]:List Nat).map (.num 2 9999))++([]))) l s)):=hJJ (by simpa only [k8,K8,kX] using hfit);clear hk hok ht hl hR hb hfit;obtain ⟨l1,hl1⟩:∃ x,x=l:=⟨_,rfl⟩;obtain ⟨s1,hs1⟩:∃ x,x=s:=⟨_,rfl⟩;have AT:Hid (At P R B b o cs t fr l s W [] l1 s1 W):=by subst hl1 hs1;exact AT0
 have HFIT:Hid (Fit (runs P ((([0]:List Nat).map (.num 1 255))++((([1]:List Nat).map (.num 2 9999))++([]))) l1 s1)):=by subst hl1 hs1;exact HFIT0
 clear hl1 hs1 AT0 HFIT0;obtain ⟨ALL,hALL⟩:∃ x,x=([]:List Sp)++(([0]:List Nat).map (.num 1 255))++(([1]:List Nat).map (.num 2 9999)):=⟨_,rfl⟩;rw [<-hALL];have HALL:=hJJ hALL;clear hALL;go_enter Tryz.func56,Tryz.ntmps56
 have V_:True:=trivial;have hbl:Below W.heap.size W (W.alloc (.cells (j2w b o [0]).toArray 105)):=(ka _ _).alloc (k5 _) _
 have hc:=hJJ (j2L PT (lb:=W.heap.size) (cap:=1) [0] rfl (by decide) (AT.out.step PT hB hbl).st (kb hB (AT.out.step PT hB hbl).mv.low.size) HOK.out HT.out (by rw [AT.out.len];exact HLN.out) (AT.out.step PT hB hbl).blk (fun j hj=>by
  simp only [kQ,kK,or_false] at hj;rcases hj with rfl <;> exact j0i (AT.out.kd.trans HK.out) rfl) (Qb W _) (by have:=(k3.1 AT.out.blk).1;omega) (k5 _) (Fit.head (c:=([0]:List Nat).map (.num 1 255)) HFIT.out))
 have AD:=hJJ (AT.out.step PT hB hbl);clear AT hbl;have AT:=AD;clear AD;go_wp2_with fail
 refine hc.out.mono ?_;intro e W1 he;generalize hrn:runs P (([0]:List Nat).map (.num 1 255)) l1 s1=r at he;clear hc;cases r with
 | error f =>
  obtain ⟨rfl,h2⟩:=AT.out.fail (d:=(([1]:List Nat).map (.num 2 9999))) hrn he;exact ⟨rfl,by rw [HALL.out];exact h2⟩
 | ok y =>
 obtain ⟨rfl,h2⟩:=AT.out.next hrn he;have HFIT2:=hJJ (Fit.tail HFIT.out hrn);clear AT he hrn HFIT;obtain ⟨l1,s1⟩:=y;have HFIT:Hid (Fit (runs P ((([1]:List Nat).map (.num 2 9999))++([])) l1 s1)):=HFIT2;clear HFIT2;have AT:=hJJ h2;clear h2;have V_:True:=trivial;have hbl:Below W1.heap.size W1 (W1.alloc (.cells (j2w b o [1]).toArray 105)):=(ka _ _).alloc (k5 _) _
 have hc:=hJJ (j0L PT (lb:=W1.heap.size) (cap:=1) [1] rfl (by decide) (AT.out.step PT hB hbl).st (kb hB (AT.out.step PT hB hbl).mv.low.size) HOK.out HT.out (by rw [AT.out.len];exact HLN.out) (AT.out.step PT hB hbl).blk (fun j hj=>by
  simp only [kQ,kK,or_false] at hj;rcases hj with rfl <;> exact j0i (AT.out.kd.trans HK.out) rfl) (Qb W1 _) (by have:=(k3.1 AT.out.blk).1;omega) (k5 _) (Fit.head (c:=([1]:List Nat).map (.num 2 9999)) HFIT.out))
 have AD:=hJJ (AT.out.step PT hB hbl);clear AT hbl;have AT:=AD;clear AD;go_wp2_with fail
 refine hc.out.mono ?_;intro e W2 he;generalize hrn:runs P (([1]:List Nat).map (.num 2 9999)) l1 s1=r at he;clear hc;cases r with
 | error f =>
  obtain ⟨rfl,h2⟩:=AT.out.fail (d:=[]) hrn he;exact ⟨rfl,by rw [HALL.out];exact h2⟩
 | ok y =>
 obtain ⟨rfl,h2⟩:=AT.out.next hrn he;have HFIT2:=hJJ (Fit.tail HFIT.out hrn);clear AT he hrn HFIT;obtain ⟨l1,s1⟩:=y;have HFIT:Hid (Fit (runs P ([]) l1 s1)):=HFIT2;clear HFIT2;have AT:=hJJ h2;clear h2;go_wp2
 go_end0
 rw [HALL.out];exact AT.out.fin
theorem j0c (PT:Port P R B ok ti v rv FN FF FG) (hk:l.map kind=[0,2,2,2,2,0,0]) (hR:R s W) (hB:B<=W.heap.size) (hok:ok b fr) (ht:b < B\/¬ Pt t) (hl:o+l.length<=cs.size) (hb:W.heap[b]?=some (.cells (wrt cs o l) t fr)) (hfit:Fit (runs P (([]:List Sp)++([.num 1 7 0])++([.flt true 1])++([.flt true 2])++([.flt false 3])++([.flt false 4])++(([5,6]:List Nat).map (.num 2 9999))) l s)) :
  Calls Tryz.prog 52 #[.iface ti v,.pointer (some ⟨b,o,none⟩)] W (Ends P R B b o cs t fr (runs P (([]:List Sp)++([.num 1 7 0])++([.flt true 1])++([.flt true 2])++([.flt false 3])++([.flt false 4])++(([5,6]:List Nat).map (.num 2 9999))) l s) W):=by
 have hm:=PT.mn;have hm2:=PT.mg;have hm3:=PT.mf;have na:=PT.nn;have na2:=PT.ng;have na3:=PT.nf;have en:=PT.en;have eg:=PT.eg;have ef:=PT.ef;have HK:=hJJ hk;have HOK:=hJJ hok;have HT:=hJJ ht;have HLN:=hJJ hl;have AT0:Hid (At P R B b o cs t fr l s W [] l s W):=hJJ (At.start hR hb);have hmf:∀ (nm:String) (w:World),(Kq (.method nm) #[.iface ti v] #[]).run Tryz.prog w=.ok (.func (.method nm) #[.iface ti v] #[]) w:=fun _ _=>rfl;have HFIT0:Hid (Fit (runs P (([.num 1 7 0])++(([.flt true 1])++(([.flt true 2])++(([.flt false 3])++(([.flt false 4])++((([5,6]:List Nat).map (.num 2 9999))++([]))))))) l s)):=hJJ (by simpa only [k8,K8,kX] using hfit);clear hk hok ht hl hR hb hfit;obtain ⟨l1,hl1⟩:∃ x,x=l:=⟨_,rfl⟩;obtain ⟨s1,hs1⟩:∃ x,x=s:=⟨_,rfl⟩;have AT:Hid (At P R B b o cs t fr l s W [] l1 s1 W):=by subst hl1 hs1;exact AT0
 have HFIT:Hid (Fit (runs P (([.num 1 7 0])++(([.flt true 1])++(([.flt true 2])++(([.flt false 3])++(([.flt false 4])++((([5,6]:List Nat).map (.num 2 9999))++([]))))))) l1 s1)):=by subst hl1 hs1;exact HFIT0
 clear hl1 hs1 AT0 HFIT0;obtain ⟨ALL,hALL⟩:∃ x,x=([]:List Sp)++([.num 1 7 0])++([.flt true 1])++([.flt true 2])++([.flt false 3])++([.flt false 4])++(([5,6]:List Nat).map (.num 2 9999)):=⟨_,rfl⟩;rw [<-hALL];have HALL:=hJJ hALL;clear hALL;go_enter Tryz.func52,Tryz.ntmps52
 have hft:=Fit.head (c:=[.num 1 7 0]) HFIT.out;rw [jD] at hft;obtain ⟨x,hx⟩:=j0i (j:=0) (AT.out.kd.trans HK.out) rfl;have hc:=hJJ (j0K PT (j:=0) AT.out.st (kb hB AT.out.mv.low.size) HOK.out HT.out (by rw [AT.out.len];exact HLN.out) AT.out.blk hx hft);rw [<-jD] at hc;clear hx hft;go_wp2_with fail
 refine hc.out.mono ?_;intro e W1 he;generalize hrn:runs P ([.num 1 7 0]) l1 s1=r at he;clear hc;cases r with
 | error f =>
  obtain ⟨rfl,h2⟩:=AT.out.fail (d:=([.flt true 1])++([.flt true 2])++([.flt false 3])++([.flt false 4])++(([5,6]:List Nat).map (.num 2 9999))) hrn he;exact ⟨rfl,by rw [HALL.out];exact h2⟩
 | ok y =>
 obtain ⟨rfl,h2⟩:=AT.out.next hrn he;have HFIT2:=hJJ (Fit.tail HFIT.out hrn);clear AT he hrn HFIT;obtain ⟨l1,s1⟩:=y;have HFIT:Hid (Fit (runs P (([.flt true 1])++(([.flt true 2])++(([.flt false 3])++(([.flt false 4])++((([5,6]:List Nat).map (.num 2 9999))++([])))))) l1 s1)):=HFIT2;clear HFIT2;have AT:=hJJ h2;clear h2;go_upto_region 1 with fail
 refine QB.jo 7 (by kernel_rfl) (by kernel_rfl) ?_;have AD:=hJJ (AT.out.step PT hB ((ka _ _).drew:Below W1.heap.size W1 W1.drew));clear AT;have AT:=AD;clear AD;generalize W1.drew=V at AT |-;simp only [ki,kq,k7,kh];repeat still_step
 refine Qg ?_;have hft:=Fit.head (c:=[.flt true 1]) HFIT.out;rw [jD] at hft;obtain ⟨x,hx⟩:=j5V (j:=1) (AT.out.kd.trans HK.out) rfl;have hc:=PT.flt s1 _ b o cs t fr l1 true 1 x AT.out.st (kb hB AT.out.mv.low.size) HOK.out HT.out (by rw [AT.out.len];exact HLN.out) AT.out.blk hx hft;rw [<-jD,if_pos rfl] at hc;have hc:=hJJ hc;clear hx hft;go_wp2_with fail
 refine hc.out.mono ?_;intro e W2 he;generalize hrn:runs P ([.flt true 1]) l1 s1=r at he;clear hc;cases r with
 | error f =>
  obtain ⟨rfl,h2⟩:=AT.out.fail (d:=([.flt true 2])++([.flt false 3])++([.flt false 4])++(([5,6]:List Nat).map (.num 2 9999))) hrn he;exact ⟨rfl,by rw [HALL.out];exact h2⟩
 | ok y =>
 obtain ⟨rfl,h2⟩:=AT.out.next hrn he;have HFIT2:=hJJ (Fit.tail HFIT.out hrn);clear AT he hrn HFIT;obtain ⟨l1,s1⟩:=y;have HFIT:Hid (Fit (runs P (([.flt true 2])++(([.flt false 3])++(([.flt false 4])++((([5,6]:List Nat).map (.num 2 9999))++([]))))) l1 s1)):=HFIT2;clear HFIT2;have AT:=hJJ h2;clear h2;go_upto_region 2 with fail
 refine QB.jo 7 (by kernel_rfl) (by kernel_rfl) ?_;have AD:=hJJ (AT.out.step PT hB ((ka _ _).drew:Below W2.heap.size W2 W2.drew));clear AT;have AT:=AD;clear AD;generalize W2.drew=V at AT |-;simp only [ki,kq,k7,kh];repeat still_step
 refine Qg ?_;have hft:=Fit.head (c:=[.flt true 2]) HFIT.out;rw [jD] at hft;obtain ⟨x,hx⟩:=j5V (j:=2) (AT.out.kd.trans HK.out) rfl;have hc:=PT.flt s1 _ b o cs t fr l1 true 2 x AT.out.st (kb hB AT.out.mv.low.size) HOK.out HT.out (by rw [AT.out.len];exact HLN.out) AT.out.blk hx hft;rw [<-jD,if_pos rfl] at hc;have hc:=hJJ hc;clear hx hft;go_wp2_with fail
 refine hc.out.mono ?_;intro e W3 he;generalize hrn:runs P ([.flt true 2]) l1 s1=r at he;clear hc;cases r with
 | error f =>
  obtain ⟨rfl,h2⟩:=AT.out.fail (d:=([.flt false 3])++([.flt false 4])++(([5,6]:List Nat).map (.num 2 9999))) hrn he;exact ⟨rfl,by rw [HALL.out];exact h2⟩
 | ok y =>
 obtain ⟨rfl,h2⟩:=AT.out.next hrn he;have HFIT2:=hJJ (Fit.tail HFIT.out hrn);clear AT he hrn HFIT;obtain ⟨l1,s1⟩:=y;have HFIT:Hid (Fit (runs P (([.flt false 3])++(([.flt false 4])++((([5,6]:List Nat).map (.num 2 9999))++([])))) l1 s1)):=HFIT2;clear HFIT2;have AT:=hJJ h2;clear h2;go_upto_region 3 with fail
 refine QB.jo 7 (by kernel_rfl) (by kernel_rfl) ?_;have AD:=hJJ (AT.out.step PT hB ((ka _ _).drew:Below W3.heap.size W3 W3.drew));clear AT;have AT:=AD;clear AD;generalize W3.drew=V at AT |-;simp only [ki,kq,k7,kh];repeat still_step
 refine Qg ?_;have hft:=Fit.head (c:=[.flt false 3]) HFIT.out;rw [jD] at hft;obtain ⟨x,hx⟩:=j5V (j:=3) (AT.out.kd.trans HK.out) rfl;have hc:=PT.flt s1 _ b o cs t fr l1 false 3 x AT.out.st (kb hB AT.out.mv.low.size) HOK.out HT.out (by rw [AT.out.len];exact HLN.out) AT.out.blk hx hft;rw [<-jD,if_neg (by decide)] at hc;have hc:=hJJ hc;clear hx hft;go_wp2_with fail
 refine hc.out.mono ?_;intro e W4 he;generalize hrn:runs P ([.flt false 3]) l1 s1=r at he;clear hc;cases r with
 | error f =>
  obtain ⟨rfl,h2⟩:=AT.out.fail (d:=([.flt false 4])++(([5,6]:List Nat).map (.num 2 9999))) hrn he;exact ⟨rfl,by rw [HALL.out];exact h2⟩
 | ok y =>
 obtain ⟨rfl,h2⟩:=AT.out.next hrn he;have HFIT2:=hJJ (Fit.tail HFIT.out hrn);clear AT he hrn HFIT;obtain ⟨l1,s1⟩:=y;have HFIT:Hid (Fit (runs P (([.flt false 4])++((([5,6]:List Nat).map (.num 2 9999))++([]))) l1 s1)):=HFIT2;clear HFIT2;have AT:=hJJ h2;clear h2;go_upto_region 4 with fail
 refine QB.jo 7 (by kernel_rfl) (by kernel_rfl) ?_;have AD:=hJJ (AT.out.step PT hB ((ka _ _).drew:Below W4.heap.size W4 W4.drew));clear AT;have AT:=AD;clear AD;generalize W4.drew=V at AT |-;simp only [ki,kq,k7,kh];repeat still_step
 refine Qg ?_;have hft:=Fit.head (c:=[.flt false 4]) HFIT.out;rw [jD] at hft;obtain ⟨x,hx⟩:=j5V (j:=4) (AT.out.kd.trans HK.out) rfl;have hc:=PT.flt s1 _ b o cs t fr l1 false 4 x AT.out.st (kb hB AT.out.mv.low.size) HOK.out HT.out (by rw [AT.out.len];exact HLN.out) AT.out.blk hx hft;rw [<-jD,if_neg (by decide)] at hc;have hc:=hJJ hc;clear hx hft;go_wp2_with fail
 refine hc.out.mono ?_;intro e W5 he;generalize hrn:runs P ([.flt false 4]) l1 s1=r at he;clear hc;cases r with
 | error f =>
  obtain ⟨rfl,h2⟩:=AT.out.fail (d:=(([5,6]:List Nat).map (.num 2 9999))) hrn he;exact ⟨rfl,by rw [HALL.out];exact h2⟩
 | ok y =>
 obtain ⟨rfl,h2⟩:=AT.out.next hrn he;have HFIT2:=hJJ (Fit.tail HFIT.out hrn);clear AT he hrn HFIT;obtain ⟨l1,s1⟩:=y;have HFIT:Hid (Fit (runs P ((([5,6]:List Nat).map (.num 2 9999))++([])) l1 s1)):=HFIT2;clear HFIT2;have AT:=hJJ h2;clear h2;go_upto_region 5 with fail
 refine QT.j0q W5.heap.size 7 (by kernel_rfl) (by kernel_rfl) (by kernel_rfl) (by kernel_rfl) (v:=.iface ti v) (fun _ _ _ h=>h) (qT ⟨by rfl,fun w'=>by go_simp;try rfl⟩) ?_;dsimp only [kf];simp only [ko,kT,kU,ki,kq,k7,kh];repeat (quiet_step (fail))
 refine Qe ?_;intro _ hw';obtain ⟨p,rfl⟩:=hw';have AD:=hJJ (AT.out.step PT hB p.below);clear AT;have AT:=AD;clear AD;generalize p.world=V at AT |-
 (try simp only [k7,kh])
 have hbl:Below V.heap.size V (V.alloc (.cells (j2w b o [5,6]).toArray 105)):=(ka _ _).alloc (k5 _) _
 have hc:=hJJ (j0L PT (lb:=V.heap.size) (cap:=2) [5,6] rfl (by decide) (AT.out.step PT hB hbl).st (kb hB (AT.out.step PT hB hbl).mv.low.size) HOK.out HT.out (by rw [AT.out.len];exact HLN.out) (AT.out.step PT hB hbl).blk (fun j hj=>by
  simp only [kQ,kK,or_false] at hj;rcases hj with rfl | rfl <;> exact j0i (AT.out.kd.trans HK.out) rfl) (Qb V _) (by have:=(k3.1 AT.out.blk).1;omega) (k5 _) (Fit.head (c:=([5,6]:List Nat).map (.num 2 9999)) HFIT.out))
 have AD:=hJJ (AT.out.step PT hB hbl);clear AT hbl;have AT:=AD;clear AD;go_wp2_with fail
 refine hc.out.mono ?_;intro e W6 he;generalize hrn:runs P (([5,6]:List Nat).map (.num 2 9999)) l1 s1=r at he;clear hc;cases r with
 | error f =>
  obtain ⟨rfl,h2⟩:=AT.out.fail (d:=[]) hrn he;exact ⟨rfl,by rw [HALL.out];exact h2⟩
 | ok y =>
 obtain ⟨rfl,h2⟩:=AT.out.next hrn he;have HFIT2:=hJJ (Fit.tail HFIT.out hrn);clear AT he hrn HFIT;obtain ⟨l1,s1⟩:=y;have HFIT:Hid (Fit (runs P ([]) l1 s1)):=HFIT2;clear HFIT2;have AT:=hJJ h2;clear h2;go_wp2
 go_end0
 rw [HALL.out];exact AT.out.fin
end
end Po
namespace Po
open Zip
open Go Go.RowKit
open Tab
def jf (P:PP) (st:List Sp):List (List Value)->P.σ->Except Flt (List (List Value) × P.σ)
 | [],s=>.ok ([],s)
 | x :: xs,s=>match runs P st x s with
  | .error f=>.error f
  | .ok (x',s')=>match jf P st xs s' with
   | .error f=>.error f
   | .ok (ys,s2)=>.ok (x' :: ys,s2)
theorem jx (P:PP) (st:List Sp):∀ (a c:List (List Value)) (s:P.σ),jf P st (a++c) s=match jf P st a s with
  | .error f=>.error f
  | .ok (ys,s')=>match jf P st c s' with
   | .error f=>.error f
   | .ok (zs,s2)=>.ok (ys++zs,s2)
 | [],c,s=>by
  rw [K8,show jf P st [] s=.ok ([],s) from rfl]
  (try dsimp only)
  cases h:jf P st c s with
  | error f=>rfl
  | ok r=>rfl
 | x :: a,c,s=>by
  rw [qH,jf,jf];cases runs P st x s with
  | error f=>rfl
  | ok r =>
   (try dsimp only)
   rw [jx P st a c r.2];cases jf P st a r.2 with
   | error f=>rfl
   | ok r2 =>
    dsimp only;cases jf P st c r2.2 with
    | error f=>rfl
    | ok r3=>rfl
theorem Jy (P:PP) (st:List Sp) (x:List Value) (s:P.σ):jf P st [x] s=match runs P st x s with
  | .error f=>.error f
  | .ok (x',s')=>.ok ([x'],s'):=by
 rw [jf];cases runs P st x s with
 | error f=>rfl
 | ok r=>rfl
theorem Jz (P:PP) (st:List Sp):∀ {xs:List (List Value)} {s:P.σ} {ys:List (List Value)} {s':P.σ},jf P st xs s=.ok (ys,s')->ys.map qe=xs.map qe
 | [],s,ys,s',h=>by cases h;rfl
 | x :: xs,s,ys,s',h=>by
  rw [jf] at h;cases hr:runs P st x s with
  | error f=>rw [hr] at h;cases h
  | ok r =>
   rw [hr] at h;cases he:jf P st xs r.2 with
   | error f=>simp only [he] at h;cases h
   | ok r2 =>
    simp only [he] at h;cases h;rw [KQ,KQ,Jv P st (l':=r.1) (s':=r.2) hr,Jz P st (ys:=r2.1) (s':=r2.2) he]
theorem j2N {cs:Array Value} {o:Nat} {l:List Value} (h:o+l.length<=cs.size):(wrt cs o l).size=cs.size:=by
 have hcs:cs.toList.length=cs.size:=kO;unfold wrt;rw [KO,k9,k9,kv,KW,hcs];omega
theorem jc2 {cs:Array Value} {o:Nat} {a x c y:List Value} (h:o+(a++(x++c)).length<=cs.size) (hy:y.length=x.length):wrt (wrt cs o (a++(x++c))) (o+a.length) y=wrt cs o (a++(y++c)):=by
 have hcs:cs.toList.length=cs.size:=kO;have h0:(cs.toList.take o).length=o:=by rw [kv,hcs];omega
 unfold wrt;simp only;rw [show cs.toList.take o++(a++(x++c))++cs.toList.drop (o+(a++(x++c)).length)=(cs.toList.take o++a)++(x++(c++cs.toList.drop (o+(a++(x++c)).length))) by simp only [k8]];rw [List.take_left' (by rw [k9,h0])];rw [show (cs.toList.take o++a)++(x++(c++cs.toList.drop (o+(a++(x++c)).length)))=((cs.toList.take o++a)++x)++(c++cs.toList.drop (o+(a++(x++c)).length)) by simp only [k8]];rw [List.drop_left' (by rw [k9,k9,h0,hy])];rw [show (a++(y++c)).length=(a++(x++c)).length by simp [hy]];congr 1;simp only [k8]
section
variable {P:PP} {R:P.σ->World->Prop} {B:Nat} {ok:Nat->Nat × Nat->Prop} {ti:TypeId} {v rv:Value} {FN FF FG:FuncId}
theorem j0t {cs:Array Value} {o k:Nat} {a x c y:List Value} (hk:a.length=k) (h:o+(a++(x++c)).length<=cs.size) (hy:y.length=x.length):wrt (wrt cs o (a++(x++c))) (o+k) y=wrt cs o (a++(y++c)):=by subst hk;exact jc2 h hy
theorem Mv.Ju {b j:Nat} {W W':World} {cs:Array Value} {t:TypeId} {fr:Nat × Nat} (h:Mv B b W W') (hj:W.heap[j]?=some (.cells cs t fr)) (ht:j < B\/¬ Pt t) (hb:j ≠ b):W'.heap[j]?=some (.cells cs t fr):=by
 rcases ht with ht | ht
 ·exact (h.low.block j ht).trans hj
 exact (h.other j cs t fr hj ht hb).trans hj
end
end Po
namespace B
open Zip
open Go.ChangeShapes Go.WideShapes Go.ChangeAt Go.RowKit
theorem jn {k:IntKind} {a b:Int} (h:a=b):qQ (.int k a)=.returned (.int k b):=by rw [h]
theorem chain {a b c:World} (h:Below a.heap.size a b) (k:Below b.heap.size b c):Below a.heap.size a c:=h.trans (k.mono h.size)
theorem add_zero (x:Addr):x.add 0=x:=by cases x;simp [KV]
def Row (w:World) (a:Option Addr) (l:List Nat):Prop:=l.length<=maxLen/\(∀ x ∈ l,x < 256)/\(l=[]\/∃ x,a=some x/\∀ i,i < l.length->w.cell? (x.add i)=some (.int .u8 (l.getD i 0:Nat)))
theorem Row.cells {w:World} {a:Option Addr} {l:List Nat} (h:Row w a l) {k:Nat} (hk:k < l.length):∃ x,a=some x/\∀ i,i < l.length->w.cell? (x.add i)=some (.int .u8 (l.getD i 0:Nat)):=by
 rcases h.2.2 with rfl | h
 ·simp at hk
 exact h
theorem Row.below {w w':World} {a:Option Addr} {l:List Nat} (h:Row w a l) (hb:Below w.heap.size w w'):Row w' a l:=by
 refine ⟨h.1,h.2.1,?_⟩;rcases h.2.2 with h | ⟨x,hx,hc⟩
 ·exact .inl h
 exact .inr ⟨x,hx,fun i hi=>(hb.cell (k6 w _ (hc i hi))).trans (hc i hi)⟩
theorem Row.lt {w:World} {a:Option Addr} {l:List Nat} (h:Row w a l) (k:Nat) (hk:k < l.length):l.getD k 0 < 256:=by
 rw [kl,k4 hk];exact h.2.1 _ (Ku hk)
theorem jc3 {w:World} {a:Option Addr} {len cap:Nat} {zs:List Int} (h:(a=none/\len=0/\cap=0/\zs=[]) \/
  ∃ x,a=some x/\len<=cap/\cap<=maxLen/\zs.length=cap/\(∀ i,i < zs.length->w.cell? (x.add i)=some (.int .u8 (zs.getD i 0)))/\∀ n ∈ zs,(Lit.int .u8 n).wf=true) :
  ∃ l:List Nat,l.length=len/\Row w a l/\len<=cap/\cap<=maxLen/\(a=none->cap=0):=by
 rcases h with ⟨rfl,rfl,rfl,rfl⟩ | ⟨x,rfl,h1,h2,h3,h4,h5⟩
 ·exact ⟨[],rfl,⟨K4 _,by simp,.inl rfl⟩,k5 _,K4 _,fun _=>rfl⟩
 have hl:((zs.take len).map Int.toNat).length=len:=by rw [kI,kv];omega
 refine ⟨(zs.take len).map Int.toNat,hl,⟨by omega,fun y hy=>?_,.inr ⟨x,rfl,fun i hi=>?_⟩⟩,h1,h2,fun e=>by cases e⟩
 ·obtain ⟨z,hz,rfl⟩:=Kf.1 hy;have:=bounds_u8 (h5 z (qf hz));omega
 rw [hl] at hi;have hi2:i < zs.length:=by omega
 rw [h4 i hi2];have hz:=bounds_u8 (h5 _ (Ku hi2));rw [kl,kl,kF,KT hi,k4 hi2];simp only [qF,KB];congr 2;omega
def j0u (l:List Nat):List Value:=l.map fun n:Nat=>.int .u8 (n:Int)
theorem j0N (l:List Nat):(j0u l).length=l.length:=kI ..
theorem j28 (l:List Nat) (i:Nat) (h:i < l.length):(j0u l)[i]?=some (.int .u8 (l.getD i 0:Nat)):=by
 unfold j0u;rw [kF,kl,k4 h];rfl
def Own (B:Nat) (w:World) (v:Value) (l:List Nat):Prop:=w.ownsRow B 5 1 v l.length (j0u l)
theorem j6G:(Tryz.prog.info? 5).map (fun i=>(i.zero,i.size,i.bytes))=some (some (.int .u8 0),1,1):=by kernel_rfl
theorem jY {B:Nat} {w:World} {v:Value} {l:List Nat} (h:Own B w v l) (hl:∀ x ∈ l,x < 256):∃ a cap,v=.slice a l.length cap/\Row w a l:=by
 rcases h.2 with ⟨rfl,h0⟩ | ⟨g,cap,cur,rfl,h1,h2,h3,h4,h5,h6⟩
 ·have:l=[]:=KX.1 h0;subst this;exact ⟨none,0,rfl,K4 _,hl,.inl rfl⟩
 refine ⟨_,cap,rfl,by omega,hl,.inr ⟨_,rfl,fun i hi=>?_⟩⟩;exact h.cells (g:=g) rfl i _ (j28 l i hi)
theorem j47 (B:Nat) (w:World):Own B w (.slice none 0 0) []:=qz _ _ _ _
theorem jA {B:Nat} {w w':World} {v:Value} {l:List Nat} (h:Own B w v l) (hb:Below w.heap.size w w'):Own B w' v l :=
 h.kept (row:=none) ⟨hb.os,hb.tape,hb.output,hb.size,fun j hj _=>hb.block j hj⟩ (by cases hv:v.ownBlock <;> simp)
theorem j5W {B:Nat} {w:World} {v:Value} {l:List Nat} (h:Own B w v l):∀ k,v.ownBlock=some k->B<=k:=fun k hk=>(h.lt k hk).1
section
variable {ops:Array Oper} {rest:List Oper} {o:Oper} {a:Act} {w:World} {Q:Exit->Act->World->Prop}
theorem j0W (hgd:o.guard=none) (s x:Operand) (ho:o.op=.call { callee:=.builtin .append,args:=#[s,x],argTypes:=#[22,22] })
  (B:Nat) (v:Value) (l:List Nat) (hs:a.eval s=v) (hown:Own B w v l) (ad:Addr) (cap:Nat) (m:List Nat) (hx:a.eval x=.slice (some ad) m.length cap) (hr:Row w (some ad) m)
  (hB:B<=w.heap.size) (hlen:l.length+m.length<=100000) (h:∀ v' w',Own B w' v' (l++m)->Below B w w'->wpList Tryz.prog ops Q rest (a.put o.dst v') w'):wpList Tryz.prog ops Q (o :: rest) a w:=by
 obtain ⟨i0,hi,hz0,hz1,hz2⟩:=Qt j6G;refine wpList_append_own w hgd s x 22 ho B 5 i0 (.int .u8 0) 1 1 Tryz.underlying22 hi hz0 hz1 hz2 rfl (by decide) v l.length (j0u l) hs hown ad m.length cap (j0u m) hx (by rw [j0N,kP]) ?_ ?_ (by unfold maxLen;omega) (by omega) hB ?_
 ·intro j u hj;have hjl:j < m.length:=by rw [<-j0N m];exact (kg.1 hj).1
  rw [j28 m j hjl] at hj;obtain ⟨y,hy,hc⟩:=hr.cells hjl;cases hy;rw [hc j hjl];exact hj
 ·intro u hu;obtain ⟨n,_,rfl⟩:=Kf.1 hu;rfl
 intro v' w' hown' hg _;refine h v' w' ?_ ((ka _ _).grown hg hB (j5W hown));unfold Own;rw [k9,show j0u (l++m)=j0u l++j0u m from KA ..];exact hown'
theorem j6H (hgd:o.guard=none) (s x:Operand) (ho:o.op=.call { callee:=.builtin .append,args:=#[s,x],argTypes:=#[22,22] })
  (hs:a.eval s=.slice none 0 0) (ad:Option Addr) (cap:Nat) (l:List Nat) (hx:a.eval x=.slice ad l.length cap) (hr:Row w ad l) (hnil:ad=none->cap=0) (hlen:l.length<=100000)
  (h:∀ v' w',Own w.heap.size w' v' l->Below w.heap.size w w'->wpList Tryz.prog ops Q rest (a.put o.dst v') w'):wpList Tryz.prog ops Q (o :: rest) a w:=by
 cases ad with
 | none =>
  have hl:l=[]:=by
   rcases hr.2.2 with h | ⟨x,hx,_⟩
   ·exact h
   cases hx
  subst hl;obtain ⟨i0,hi,hz0,hz1,hz2⟩:=Qt j6G;rw [hnil rfl] at hx;exact wpList_append_own_none hgd s x 22 ho w.heap.size 5 i0 1 Tryz.underlying22 hi _ 0 [] hs (qz _ _ _ _) hx (h _ _ (j47 _ _) (ka _ _))
 | some ad=>exact j0W hgd s x ho w.heap.size _ [] hs (j47 _ _) ad cap l hx hr (k5 _) (by simp;omega) h
end
theorem below_drewN {B:Nat} {a w:World} (h:Below B a w) (n:Nat):Below B a (w.drewN n):=h.trans ⟨rfl,rfl,rfl,k5 _,fun _ _=>rfl⟩
theorem j6I (x:Addr) (p i:Nat):(x.add p).add i=x.add (p+i):=by
 unfold KV;by_cases hp:p=0
 ·subst hp;simp
 by_cases hi:i=0
 ·subst hi;simp
 simp [hp,hi,show ¬ (p+i=0) by omega,ku]
theorem j48 (w:World) (a:Option Addr) (l:List Nat) (h:l.length=0):Row w a l:=by
 rw [KX.1 h];exact ⟨K4 _,by simp,.inl rfl⟩
theorem jah {w:World} {a:Option Addr} {l:List Nat} (h:Row w a l) (p q:Nat):Row w (a.map fun x=>x.add p) ((l.drop p).take q):=by
 have hlen:((l.drop p).take q).length<=l.length:=by rw [kv,KW];omega
 refine ⟨kb hlen h.1,fun x hx=>h.2.1 x (List.mem_of_mem_drop (qf hx)),?_⟩;rcases h.2.2 with rfl | ⟨x,rfl,hc⟩
 ·exact .inl (by simp)
 refine .inr ⟨_,rfl,fun i hi=>?_⟩;rw [kv,KW] at hi;rw [j6I,hc (p+i) (by omega),kl,kl,KT (by omega),K6]
theorem j6J {w:World} {a:Option Addr} {l:List Nat} (h:Row w a l) (k:Nat):Row w a (l.take k):=by
 have h1:=jah h 0 k;rw [kh] at h1;cases a with
 | none=>exact h1
 | some x=>rw [KB,add_zero] at h1;exact h1
theorem made (n:Nat):(madeCells (Value.int .u8 0).cells (n*1)).toList=j0u (qU n 0):=by
 rw [kP,show (Value.int .u8 0).cells=#[.int .u8 0] from rfl,Qn,j0u,List.map_replicate];rfl
theorem j5X {ops:Array Oper} {rest:List Oper} {o:Oper} {a:Act} {w:World} {Q:Exit->Act->World->Prop} (hg:o.guard=none) (l c:Operand) (hop:o.op=Op.makeSlice 22 l c)
  (B n m:Nat) (L C:Int) (hl:a.eval l=.int .i64 L) (hc:a.eval c=.int .i64 C) (hL:L=(n:Int)) (hC:C=(m:Int)) (hn:n<=m) (hm:m<=100000) (hB:B<=w.heap.size)
  (h:∀ w',w'.heap[w.heap.size]?=some (.cells (qU m (.int .u8 0)).toArray 5 (0,0))->Below B w w'->w.heap.size < w'.heap.size->wpList Tryz.prog ops Q rest (a.put o.dst (.slice (some ⟨w.heap.size,0,none⟩) n m)) w'):wpList Tryz.prog ops Q (o :: rest) a w:=by
 obtain ⟨i0,hi,hz0,hz1,hz2⟩:=Qt j6G;refine Qu hg fun K hK=>?_;have hrun:=run_make (P:=Tryz.prog) w 22 5 i0 (.int .u8 0) Tryz.underlying22 hi hz0 .i64 .i64 (n:Int) (m:Int) (by omega) (by omega) (by rw [hz2];omega) (by omega);subst hL hC;unfold KD;simp [execOp,hop,hl,hc,hrun,KJ];refine hK _ _ (h _ ?_ ((ka _ _).alloc hB _) (by simp));rw [Qb,hz1,kP];congr 2;rw [<-Qn];rfl
theorem j5j {ops:Array Oper} {rest:List Oper} {o:Oper} {a:Act} {w:World} {Q:Exit->Act->World->Prop} (hgd:o.guard=none) (d s:Operand)
  (ho:o.op=.call { callee:=.builtin .copy,args:=#[d,s],argTypes:=#[22,22] }) (B g n m:Nat) (hd:a.eval d=.slice (some ⟨g,0,none⟩) n m)
  (ad:Option Addr) (cap:Nat) (l:List Nat) (hs:a.eval s=.slice ad n cap) (hn:l.length=n) (hr:Row w ad l) (hm:n<=m) (hm2:m<=100000)
  (cur:List Value) (hg:w.heap[g]?=some (.cells cur.toArray 5 (0,0))) (hcur:cur.length=m) (hB:B<=g)
  (h:∀ w',Own B w' (.slice (some ⟨g,0,none⟩) n m) l->Below B w w'->wpList Tryz.prog ops Q rest (a.put o.dst (goInt n)) w'):wpList Tryz.prog ops Q (o :: rest) a w:=by
 have hvl:=j0N l;refine wpList_copy_splice hgd d s 22 22 ho 5 Tryz.underlying22 (by kernel_rfl) (some ⟨g,0,none⟩) ad n m n cap hd hs g 0 cur 5 hg (j0u l) (by rw [hvl,hn];exact (Nat.min_self n).symm) ?_ (by rw [hvl];omega) ?_ B w (ka _ _) hB ?_
 ·intro hpos;rw [hvl] at hpos;refine ⟨rfl,?_⟩;obtain ⟨y,hy,hc⟩:=hr.cells hpos;refine ⟨y,hy,fun j v hj=>?_⟩;have hjl:j < l.length:=by rw [<-hvl];exact (kg.1 hj).1
  rw [j28 l j hjl] at hj;rw [hc j hjl];exact hj
 ·intro u hu;obtain ⟨q,_,rfl⟩:=Kf.1 hu;rfl
 intro w' hg' hb;rw [hvl,hn];refine h w' ⟨by rw [hvl,kP],.inr ⟨g,m,_,by rw [hn],hB,hg'.out,by omega,by unfold maxLen;omega,?_,?_⟩⟩ hb
 ·rw [KO,length_splice _ _ _ (by rw [hvl];omega),hcur,kP]
 rw [kP];simp only [splice,kq,K8];rw [List.take_append_of_le_length (by rw [hvl];omega),Kp (by rw [hvl];omega)]
theorem jai (a b:Option Addr) (cap cap':Nat) (l:List Nat) (w:World) (ha:Row w a l) (hb:Row w b l) :
  Calls Tryz.prog 14 #[.slice a l.length cap,.slice b l.length cap'] w fun e w'=>e=.returned (.bool true)/\Below w.heap.size w w':=by
 have h1:=ha.1;unfold maxLen at h1;have Ha:=hJJ ha;have Hb:=hJJ hb;clear ha hb;go_enter Tryz.func14,Tryz.ntmps14
 go_wp2;go_loopw [5] (fun i wr=>∃ k:Nat,k<=l.length/\i=.int .i64 k/\Below w.heap.size w wr) (fun i _=>l.length - (intOf i).toNat)
 case atStart=>exact ⟨0,K4 _,rfl,ka _ _⟩
 case round =>
  obtain ⟨k,hk,rfl,hbel⟩:=hrel;by_cases hlt:k < l.length
  ·obtain ⟨x,rfl,hc⟩:=(Ha.out.below hbel).cells hlt;obtain ⟨y,rfl,hd⟩:=(Hb.out.below hbel).cells hlt;have hcell:=hc k hlt;have hdell:=hd k hlt;clear hc hd;generalize l.getD k 0=z at hcell hdell;go_wp2
   go_quiet (fail)
   go_wp2;go_roundw;case rel=>exact ⟨k+1,by omega,by go_num,below_drewN hbel _⟩
   case measure=>simp [intOf];omega
  go_wp2;go_ret;exact ⟨rfl,hbel⟩
end B
namespace Put
open Zip
open Go.ChangeShapes Go.WideShapes Go.ChangeAt Go.RowKit
open B
def low:Nat->Int->List Nat
 | 0,_=>[]
 | k+1,n=>((n / 2 ^ (8*k)) % 256).toNat :: low k n
theorem jE (k:Nat) (n:Int):(low k n).length=k:=by
 induction k with
 | zero=>rfl
 | succ k ih=>rw [low,kR,ih]
theorem Jk (k:Nat) (n:Int):∀ x ∈ low k n,x < 256:=by
 induction k with
 | zero=>simp [low]
 | succ k ih =>
  intro x hx;rw [low,kQ] at hx;rcases hx with rfl | h
  ·omega
  exact ih x h
def lim (n:Int) (m:Nat):Nat:=min n.toNat m
theorem JI (n:Int) (m:Nat):lim n m<=m:=Nat.min_le_right _ _
theorem j04 (n:Int) (m:Nat) (w:World):Calls Tryz.prog 89 #[.int .i64 n,.int .i64 (m:Int)] w fun e w'=>e=.returned (.int .i64 (lim n m:Nat))/\w=w':=by
 by_cases h0:n < 0
 ·have e:((lim n m:Nat):Int)=0:=by unfold lim;omega
  have h1:¬ ((m:Int) < 0):=by omega
  have HE:=hJJ e;clear e;go_enter Tryz.func89,Tryz.ntmps89
  go_wp2;go_ret;exact ⟨jn (by rw [HE.out]),rfl⟩
 by_cases h1:(m:Int) < n
 ·have e:((lim n m:Nat):Int)=m:=by unfold lim;omega
  have HE:=hJJ e;clear e;go_enter Tryz.func89,Tryz.ntmps89
  go_wp2;go_ret;exact ⟨jn (by rw [HE.out]),rfl⟩
 have e:((lim n m:Nat):Int)=n:=by unfold lim;omega
 have HE:=hJJ e;clear e;go_enter Tryz.func89,Tryz.ntmps89
 go_wp2;go_ret;exact ⟨jn (by rw [HE.out]),rfl⟩
theorem j2O (n:Int) (m:Nat) (w:World):Calls Tryz.prog 66 #[.int .i64 n,.int .i64 0,.int .i64 (m:Int)] w fun e w'=>e=.returned (.int .i64 (lim n m:Nat))/\w=w':=by
 by_cases h0:n < 0
 ·have e:((lim n m:Nat):Int)=0:=by unfold lim;omega
  have HE:=hJJ e;clear e;go_enter Tryz.func66,Tryz.ntmps66
  go_wp2;go_ret;exact ⟨jn (by rw [HE.out]),rfl⟩
 by_cases h1:(m:Int) < n
 ·have e:((lim n m:Nat):Int)=m:=by unfold lim;omega
  have HE:=hJJ e;clear e;go_enter Tryz.func66,Tryz.ntmps66
  go_wp2;go_ret;exact ⟨jn (by rw [HE.out]),rfl⟩
 have e:((lim n m:Nat):Int)=n:=by unfold lim;omega
 have HE:=hJJ e;clear e;go_enter Tryz.func66,Tryz.ntmps66
 go_wp2;go_ret;exact ⟨jn (by rw [HE.out]),rfl⟩
theorem j8t (w:World) (x:Nat) (hx:x < 256):Row (w.alloc (.cells #[.int .u8 (x:Int)] 5)) (some ⟨w.heap.size,0,none⟩) [x]:=by
 refine ⟨by unfold maxLen;simp,fun y hy=>?_,.inr ⟨_,rfl,fun i hi=>?_⟩⟩
 ·simp only [kQ,kK,or_false] at hy;omega
 obtain rfl:i=0:=by simp at hi;omega
 rw [add_zero];simp
theorem j49 (ad:Option Addr) (cap:Nat) (l:List Nat) (size n:Int) (w:World) (hr:Row w ad l) (hl:l.length<=10000) :
  Calls Tryz.prog 43 #[.slice ad l.length cap,.int .i64 size,.int .i64 n] w fun e w'=>∃ v,e=.returned v/\Own w.heap.size w' v (l++low (lim size 8) n)/\Below w.heap.size w w':=by
 have Hr:=hJJ hr;clear hr;go_enter Tryz.func43,Tryz.ntmps43
 go_wp2_with fail
 refine (j04 _ 8 _).mono ?_;rintro e w' ⟨rfl,rfl⟩;have hk:=JI size 8;generalize hkk:lim size 8=k at hk |-;have HK:=hJJ hkk;clear hkk;go_wp2_with (at_make;refine j5X rfl _ _ rfl w.heap.size l.length (l.length+k) _ _ rfl rfl rfl (Int.natCast_add _ _).symm (by omega) (by omega) (k5 _) ?_)
 intro w1 hg1 b1 hs1;go_wp2_with (refine j5j rfl _ _ rfl w.heap.size w.heap.size l.length (l.length+k) rfl ad cap l rfl rfl (Hr.out.below b1) (by omega) (by omega) _ hg1 (by simp) (k5 _) ?_)
 intro w2 hown b2;have hb2:Below w.heap.size w w2:=b1.trans b2;have hs2:=b2.size;clear hg1 b1 b2;generalize Value.slice (some ⟨w.heap.size,0,none⟩) l.length (l.length+k)=v0 at hown |-;have Hown:=hJJ hown;have Hb2:=hJJ hb2;clear hown hb2;go_wp2;go_loopw [7,8] (fun o i wr=>∃ z:Int,-1<=z/\z < k/\i=.int .i64 z/\(∃ m,Own w.heap.size wr o (l++m)/\m++low (z+1).toNat n=low k n)/\Below w.heap.size w wr/\w.heap.size<=wr.heap.size) (fun _ i _=>(intOf i+1).toNat)
 case atStart =>
  refine ⟨k - 1,by omega,by omega,by go_num,⟨[],by rw [kX];exact Hown.out,?_⟩,Hb2.out,by omega⟩;rw [show ((k:Int) - 1+1).toNat=k by omega];rfl
 case round =>
  obtain ⟨z,hz1,hz2,rfl,⟨m,hm,hml⟩,hbel,hsz⟩:=hrel;have Hm:=hJJ hm;have Hml:=hJJ hml;clear hm hml;by_cases h0:0<=z
  ·obtain ⟨q,rfl⟩:∃ q:Nat,z=q:=⟨z.toNat,by omega⟩;obtain ⟨x,hx⟩:∃ x:Nat,n / 2 ^ (8*q) % 256=x:=⟨_,(ql (by omega)).symm⟩;have hx2:x < 256:=by omega
   have HL:Hid (m++[x]++low q n=low k n):=by
    have h:=Hml.out;rw [show ((q:Int)+1).toNat=q+1 by omega,low,hx,qA] at h;show _=_;rw [<-h];simp
   have Hlen:Hid (m.length<=8):=by
    have h:=congrArg qe Hml.out;rw [k9,jE,jE] at h;show _<=_;omega
   go_wp2_with (at_builtin;refine j0W rfl _ _ rfl w.heap.size _ (l++m) rfl (jA Hm.out ((ka _ _).alloc (k5 _) _)) _ _ [x] rfl ?row ?hB ?len ?_)
   case row=>exact j8t wr x hx2
   case hB=>simp;omega
   case len =>
    have:=Hlen.out;simp only [k9,Kt];omega
   intro v' w' hown' hb';have hgo:Below w.heap.size w w':=(hbel.alloc hsz _).trans hb';have hsz':w.heap.size<=w'.heap.size:=hgo.size;have Hown':=hJJ hown';clear hown' hb';go_wp2;go_roundw;case rel=>exact ⟨q - 1,by omega,by omega,by go_num,⟨m++[x],by first | exact Hown'.out | (rw [<-k8];exact Hown'.out),by rw [show ((q:Int) - 1+1).toNat=q by omega];exact HL.out⟩,hgo,hsz'⟩
   case measure=>first | (simp [intOf];done) | (simp [intOf];omega)
  obtain rfl:z = -1:=by omega
  have e:l++m=l++low k n:=by rw [<-Hml.out];simp [low]
  have Hm2:=Hm.out;rw [e] at Hm2;replace Hm2:=hJJ Hm2;clear e;go_wp2;go_ret;refine ⟨_,rfl,?_,hbel⟩;rw [HK.out];first | exact Hm2.out | (simp;exact Hm2.out)
theorem j0X (ad:Option Addr) (cap:Nat) (l:List Nat) (size n:Int) (w:World) (hr:Row w ad l) (hl:l.length<=10000) (hnil:ad=none->cap=0) :
  Calls Tryz.prog 27 #[.slice ad l.length cap,.int .i64 size,.int .i64 n] w fun e w'=>∃ v,e=.returned v/\Own w.heap.size w' v (l++low (lim size 8) n)/\Below w.heap.size w w':=by
 have Hr:=hJJ hr;have Hn:=hJJ hnil;clear hr hnil;go_enter Tryz.func27,Tryz.ntmps27
 go_wp2_with (at_builtin;refine j6H rfl _ _ rfl rfl ad cap l rfl Hr.out Hn.out (by omega) ?_)
 intro v0 w2 hown hb2;have hs2:=hb2.size;have Hown:=hJJ hown;have Hb2:=hJJ hb2;clear hown hb2;go_wp2_with fail
 refine (j2O _ 8 _).mono ?_;rintro e w' ⟨rfl,rfl⟩;have hk:=JI size 8;generalize hkk:lim size 8=k at hk |-;have HK:=hJJ hkk;clear hkk;go_wp2;go_loopw [7,8] (fun o i wr=>∃ z:Int,-1<=z/\z < k/\i=.int .i64 z/\(∃ m,Own w.heap.size wr o (l++m)/\m++low (z+1).toNat n=low k n)/\Below w.heap.size w wr/\w.heap.size<=wr.heap.size) (fun _ i _=>(intOf i+1).toNat)
 case atStart =>
  refine ⟨k - 1,by omega,by omega,by go_num,⟨[],by rw [kX];exact Hown.out,?_⟩,Hb2.out,by omega⟩;rw [show ((k:Int) - 1+1).toNat=k by omega];rfl
 case round =>
  obtain ⟨z,hz1,hz2,rfl,⟨m,hm,hml⟩,hbel,hsz⟩:=hrel;have Hm:=hJJ hm;have Hml:=hJJ hml;clear hm hml;by_cases h0:0<=z
  ·obtain ⟨q,rfl⟩:∃ q:Nat,z=q:=⟨z.toNat,by omega⟩;obtain ⟨x,hx⟩:∃ x:Nat,n / 2 ^ (8*q) % 256=x:=⟨_,(ql (by omega)).symm⟩;have hx2:x < 256:=by omega
   have HL:Hid (m++[x]++low q n=low k n):=by
    have h:=Hml.out;rw [show ((q:Int)+1).toNat=q+1 by omega,low,hx,qA] at h;show _=_;rw [<-h];simp
   have Hlen:Hid (m.length<=8):=by
    have h:=congrArg qe Hml.out;rw [k9,jE,jE] at h;show _<=_;omega
   go_wp2_with (at_builtin;refine j0W rfl _ _ rfl w.heap.size _ (l++m) rfl (jA Hm.out ((ka _ _).alloc (k5 _) _)) _ _ [x] rfl ?row ?hB ?len ?_)
   case row=>exact j8t wr x hx2
   case hB=>simp;omega
   case len =>
    have:=Hlen.out;simp only [k9,Kt];omega
   intro v' w' hown' hb';have hgo:Below w.heap.size w w':=(hbel.alloc hsz _).trans hb';have hsz':w.heap.size<=w'.heap.size:=hgo.size;have Hown':=hJJ hown';clear hown' hb';go_wp2;go_roundw;case rel=>exact ⟨q - 1,by omega,by omega,by go_num,⟨m++[x],by first | exact Hown'.out | (rw [<-k8];exact Hown'.out),by rw [show ((q:Int) - 1+1).toNat=q by omega];exact HL.out⟩,hgo,hsz'⟩
   case measure=>first | (simp [intOf];done) | (simp [intOf];omega)
  obtain rfl:z = -1:=by omega
  have e:l++m=l++low k n:=by rw [<-Hml.out];simp [low]
  have Hm2:=Hm.out;rw [e] at Hm2;replace Hm2:=hJJ Hm2;clear e;go_wp2;go_ret;refine ⟨_,rfl,?_,hbel⟩;rw [HK.out];first | exact Hm2.out | (simp;exact Hm2.out)
theorem j1e (x:Nat) (w:World):(callFunc 68 #[.float .f64 x]).run Tryz.prog w=.ok (.value (.int .u64 x)) w:=by
 rw [Qq (e:=qB) Tryz.func68 (by kernel_rfl) (by kernel_rfl) (by kernel_rfl) (by kernel_rfl)];rfl
theorem j2r (n:Int) (w:World):(callFunc 127 #[.int .u64 n]).run Tryz.prog w=.ok (.value (.float .f64 n.toNat)) w:=by
 rw [Qq (e:=qm) Tryz.func127 (by kernel_rfl) (by kernel_rfl) (by kernel_rfl) (by kernel_rfl)];rfl
theorem j5Y (a p:Int) (hp:0 < p):a / p % 256=a % (p*256) / p:=by
 have h:=Int.emod_add_mul_ediv a (p*256);have h1:=Int.emod_nonneg a (show p*256 ≠ 0 by omega);have h2:=Int.emod_lt_of_pos a (show 0 < p*256 by omega);generalize a % (p*256)=r at *;generalize a / (p*256)=q at *;have h5:a=r+p*(256*q):=by rw [<-h,Int.mul_assoc]
 rw [h5,Int.add_mul_ediv_left _ _ (by omega)];have h3:0<=r / p:=Int.ediv_nonneg h1 (by omega);have h4:r / p < 256:=Int.ediv_lt_of_lt_mul hp (by rw [Int.mul_comm];exact h2);omega
theorem j0Y (k:Nat) (a b:Int) (h:a % 2 ^ (8*k)=b % 2 ^ (8*k)):low k a=low k b:=by
 induction k with
 | zero=>rfl
 | succ k ih =>
  have hp:(2:Int) ^ (8*(k+1))=2 ^ (8*k)*256:=by rw [show 8*(k+1)=8*k+8 by omega,Int.pow_add];rfl
  have hpos:(0:Int) < 2 ^ (8*k):=Int.pow_pos (by decide);rw [hp] at h
  have h1:a / 2 ^ (8*k) % 256=b / 2 ^ (8*k) % 256:=by
   rw [j5Y a _ hpos,j5Y b _ hpos,h]
  have h2:a % 2 ^ (8*k)=b % 2 ^ (8*k):=by
   rw [<-qg a (qC (2 ^ (8*k)) 256),h,qg b (qC _ _)]
  rw [low,low,h1,ih h2]
theorem j6K (x:Nat):low (lim 8 8) (wrap64 x)=low 8 x:=j0Y 8 _ _ (by unfold wrap64;omega)
theorem jaj (ad:Option Addr) (cap:Nat) (l:List Nat) (x:Nat) (w:World) (hr:Row w ad l) (hl:l.length<=10000) :
  Calls Tryz.prog 159 #[.slice ad l.length cap,.float .f64 x] w fun e w'=>∃ v,e=.returned v/\Own w.heap.size w' v (l++low 8 x)/\Below w.heap.size w w':=by
 have Hr:=hJJ hr;clear hr;have hb:=j1e x;go_enter Tryz.func159,Tryz.ntmps159
 go_wp2_with fail
 refine (j49 ad cap l 8 _ _ Hr.out hl).mono ?_;rintro e w' ⟨v,rfl,hown,hbel⟩;rw [j6K] at hown;have Hown:=hJJ hown;clear hown;go_wp2;go_ret;refine ⟨_,rfl,?_,hbel⟩;exact Hown.out
theorem j5Z (ad:Option Addr) (cap:Nat) (l:List Nat) (x:Nat) (w:World) (hr:Row w ad l) (hl:l.length<=10000) (hnil:ad=none->cap=0) :
  Calls Tryz.prog 32 #[.slice ad l.length cap,.float .f64 x] w fun e w'=>∃ v,e=.returned v/\Own w.heap.size w' v (l++low 8 x)/\Below w.heap.size w w':=by
 have Hr:=hJJ hr;have Hn:=hJJ hnil;clear hnil;clear hr;have hb:=j1e x;go_enter Tryz.func32,Tryz.ntmps32
 go_wp2_with fail
 refine (j0X ad cap l 8 _ _ Hr.out hl Hn.out).mono ?_;rintro e w' ⟨v,rfl,hown,hbel⟩;rw [j6K] at hown;have Hown:=hJJ hown;clear hown;go_wp2;go_ret;refine ⟨_,rfl,?_,hbel⟩;exact Hown.out
end Put
namespace Po
open Go Go.RowKit
open Tab
def jdF (s:List Nat × Nat) (m:List Nat):Except Flt (List Nat × Nat):=match s.2 with
 | 0=>.error mark
 | k+1=>.ok (s.1++m,k)
def WP:PP where
 σ:=List Nat × Nat
 num s size _ x:=match jdF s (Put.low (Put.lim size 8) x) with | .ok s'=>.ok (x,s') | .error f=>.error f
 flt s _ x:=match jdF s (Put.low 8 x) with | .ok s'=>.ok (x,s') | .error f=>.error f
 flg s x:=match jdF s [if x then 1 else 0] with | .ok s'=>.ok (x,s') | .error f=>.error f
theorem jc4 {P:PP} {c:Sp} {cs:List Sp} {l l1:List Value} {s s1:P.σ} {r:Except Flt (List Value × P.σ)} (h:Sp.run P l s c=.ok (l1,s1)) (h2:runs P cs l1 s1=r):runs P (c :: cs) l s=r:=by
 rw [runs,h];exact h2
def WR (B wb:Nat) (s:List Nat × Nat) (W:World):Prop:=s.1.length+8*s.2<=50000/\B<=wb/\∃ v,W.heap[wb]?=some (.cells #[v] 92 (0,0))/\Go.Proofs.YtonpphjleapafaaGreat.B.Own B W v s.1
theorem WR.stay {B wb:Nat} {s:List Nat × Nat} {W W':World} (h:WR B wb s W) (hk:∀ (j:Nat) (cs:Array Value) (t:TypeId) (fr:Nat × Nat),W.heap[j]?=some (.cells cs t fr)->Pt t->W'.heap[j]?=W.heap[j]?):WR B wb s W':=by
 obtain ⟨h1,h2,v,h3,h4⟩:=h;refine ⟨h1,h2,v,(hk wb _ _ _ h3 (by decide)).trans h3,h4.1,?_⟩;rcases h4.2 with h5 | ⟨g,cap,cur,h5,h6,h7,h8⟩
 ·exact .inl h5
 exact .inr ⟨g,cap,cur,h5,h6,(hk g _ _ _ h7 (by decide)).trans h7,h8⟩
end Po
namespace Po
open Zip
open Go Go.RowKit
open Tab
open Go.Proofs.YtonpphjleapafaaGreat.B (Own j0u j0N j28 jY j47 j6G)
theorem j29 {o:Oper} {a:Act} {w:World} {K:Act->World->Prop} {Q:Exit->Act->World->Prop} (s x:Operand) (ho:o.op=.call { callee:=.builtin .append,args:=#[s,x],argTypes:=#[22,22] })
  (B B2:Nat) (v v2:Value) (l m:List Nat) (hs:a.eval s=v) (hown:Own B w v l) (hx:a.eval x=v2) (hm:Own B2 w v2 m) (hm8:∀ y ∈ m,y < 256)
  (hB:B<=w.heap.size) (hlen:l.length+m.length<=100000) (h:∀ v' w',Own B w' v' (l++m)->w.grownBy w' v.ownBlock->K (a.put o.dst v') w'):o.wp Tryz.prog a w K Q:=by
 obtain ⟨i0,hi,hz0,hz1,hz2⟩:=Qt j6G;rcases hm.2 with ⟨rfl,h0⟩ | ⟨g,cap,cur,rfl,h1,h2,h3,h4,h5,h6⟩
 ·have hm0:m=[]:=List.eq_nil_of_length_eq_zero h0;subst hm0;have hrun:=run_append_owned_none (P:=Tryz.prog) (w:=w) B 22 o.type 5 i0 1 Tryz.underlying22 hi v l.length (j0u l) hown;unfold KD;simp [execOp,ho,resolve,invoke,builtin,hs,hx,hrun,KJ];refine h v w ?_ ⟨rfl,rfl,rfl,k5 _,fun _ _ _=>rfl⟩;rw [kX];exact hown
 refine wp_append_own w s x 22 ho B 5 i0 (.int .u8 0) 1 1 Tryz.underlying22 hi hz0 hz1 hz2 rfl (by decide) v l.length (j0u l) hs hown ⟨g,0,none⟩ m.length cap (j0u m) hx (by rw [j0N,kP]) ?_ ?_ (by unfold maxLen;omega) (by omega) hB ?_
 ·intro j u hj;exact hm.cells (g:=g) rfl j u hj
 ·intro u hu;obtain ⟨n,_,rfl⟩:=Kf.1 hu;rfl
 intro v' w' hown' hg _;refine h v' w' ?_ hg;unfold Own;rw [k9,show j0u (l++m)=j0u l++j0u m from KA ..];exact hown'
theorem j9b {B wb b k:Nat} {l m:List Nat} {val v':Value} {W v w':World} (h1:Below W.heap.size W v) (hB:B<=W.heap.size) (hwb:B<=wb) (hv:v.heap[wb]?=some (.cells #[val] 92 (0,0))) (ho:Own B v val l)
  (hg:v.grownBy w' val.ownBlock) (ho':Own B w' v' (l++m)) (hlen:(l++m).length+8*k<=50000) :
  w'.heap[wb]?=some (.cells #[val] 92 (0,0))/\WR B wb (l++m,k) (w'.setRow wb #[v'])/\Mv B b W (w'.setRow wb #[v']) /\
   ∀ (j:Nat) (cs:Array Value) (t:TypeId) (fr:Nat × Nat),W.heap[j]?=some (.cells cs t fr)->j < B\/¬ Pt t->(w'.setRow wb #[v']).heap[j]?=some (.cells cs t fr):=by
 have hne:some wb ≠ val.ownBlock:=by
  intro e;rcases ho.2 with ⟨rfl,_⟩ | ⟨g,cap,cur,rfl,_,h3,_⟩
  ·cases e
  cases e;rw [hv] at h3;cases h3
 have hw:=(hg.block wb (k3.1 hv).1 hne).trans hv
 have Ju:∀ (j:Nat) (cs:Array Value) (t:TypeId) (fr:Nat × Nat),W.heap[j]?=some (.cells cs t fr)->j < B\/¬ Pt t->(w'.setRow wb #[v']).heap[j]?=some (.cells cs t fr):=by
  intro j cs t fr hj ht;have hj1:=(h1.block j (k3.1 hj).1).trans hj
  have hjb:some j ≠ val.ownBlock:=by
   intro e;rcases ho.2 with ⟨rfl,_⟩ | ⟨g,cap,cur,rfl,h2,h3,_⟩
   ·cases e
   obtain rfl:j=g:=by simpa [Value.ownBlock] using e
   rw [hj1] at h3;cases h3;rcases ht with ht | ht
   ·omega
   exact ht (.inl rfl)
  have hjw:j ≠ wb:=by
   intro e;subst e;rw [hj1] at hv;cases hv;rcases ht with ht | ht
   ·omega
   exact ht (by decide)
  rw [QA _ _ _ _ hjw];exact (hg.block j (k3.1 hj1).1 hjb).trans hj1
 have hbl:Below B W w':=(h1.mono hB).grown hg (kb hB h1.size) (fun q hq=>(ho.lt q hq).1);refine ⟨hw,⟨hlen,hwb,v',Qo _ _ _ _ _ _ hw,?_⟩,⟨below_setRow hbl hwb _,fun j cs t fr hj ht _=>(Ju j cs t fr hj (.inr ht)).trans hj.symm⟩,Ju⟩;refine ⟨ho'.1,?_⟩;rcases ho'.2 with h5 | ⟨g,cap,cur,h5,h6,h7,h8⟩
 ·exact .inl h5
 refine .inr ⟨g,cap,cur,h5,h6,?_,h8⟩;rw [QA _ _ _ _ (fun e=>by subst e;rw [hw] at h7;cases h7)];exact h7
theorem j2P {l:List Value} {j:Nat} {v:Value} (h:l[j]?=some v):l.set j v=l:=by
 obtain ⟨h1,h2⟩:=kg.1 h;rw [show v=l[j] from h2.symm,List.set_getElem_self]
theorem j8u {B wb:Nat} (s:List Nat × Nat) (W:World) (b o:Nat) (cs:Array Value) (t:TypeId) (fr:Nat × Nat) (l:List Value) (size most:Int) (j:Nat) (x:Int) (hR:WR B wb s W) (hB:B<=W.heap.size) (ht:b < B\/¬ Pt t) (hl:o+l.length<=cs.size) (hb:W.heap[b]?=some (.cells (wrt cs o l) t fr)) (hx:l[j]?=some (I x)) (hfit:Fit (Sp.run WP l s (.num size most j))) :
  Calls Tryz.prog 158 #[.pointer (some ⟨wb,0,none⟩),.int .i64 size,.int .i64 most,.pointer (some ⟨b,o+j,none⟩)] W (Ends WP (WR B wb) B b o cs t fr (Sp.run WP l s (.num size most j)) W):=by
 obtain ⟨bs,k0⟩:=s;obtain ⟨h1,h2,val,h3,h4⟩:=hR;cases k0 with
 | zero=>exact absurd (show Sp.run WP l (bs,0) (.num size most j)=.error mark by simp only [Sp.run,hx];rfl) hfit
 | succ k =>
 have hrun:Sp.run WP l (bs,k+1) (.num size most j)=.ok (l,(bs++Put.low (Put.lim size 8) x,k)):=by
  simp only [Sp.run,hx];exact congrArg (fun z=>Kh (z,(bs++Put.low (Put.lim size 8) x,k))) (j2P hx)
 have HRUN:=hJJ hrun;have hj:j < l.length:=(kg.1 hx).1;have cn:W.cell? ⟨b,o+j,none⟩=some (I x):=by rw [Qc _ _ _ _ _ _ hb,j2v hl hj];exact hx
 have cw:W.cell? ⟨wb,0,none⟩=some val:=by rw [Qc _ _ _ _ _ _ h3];rfl
 have HW:=hJJ h3;have HO:=hJJ h4;have HB:=hJJ hb;have HT:=hJJ ht;have ML:Hid ((Put.low (Put.lim size 8) x).length<=8/\∀ y ∈ Put.low (Put.lim size 8) x,y < 256):=hJJ ⟨by rw [Put.jE];exact Put.JI _ _,fun y hy=>Put.Jk _ _ y hy⟩;have HL:Hid (bs.length+8*(k+1)<=50000):=hJJ h1;have CL:Hid (∀ V,Calls Tryz.prog 43 #[.slice none 0 0,.int .i64 size,.int .i64 x] V fun e w'=>∃ v2,e=.returned v2/\Own V.heap.size w' v2 (Put.low (Put.lim size 8) x)/\Below V.heap.size V w'):=hJJ (fun V=>by have:=Put.j49 none 0 [] size x V (Go.Proofs.YtonpphjleapafaaGreat.B.j48 _ _ _ rfl) (by simp);exact this);have CN:Hid (∀ V,Below W.heap.size W V->V.cell? ⟨b,o+j,none⟩=some (I x)):=hJJ (fun V hv=>(hv.cell (k6 W _ cn)).trans cn);have CW:Hid (∀ V,Below W.heap.size W V->V.cell? ⟨wb,0,none⟩=some val):=hJJ (fun V hv=>(hv.cell (k6 W _ cw)).trans cw);generalize Put.low (Put.lim size 8) x=m at ML CL HRUN;generalize hres:Sp.run WP l (bs,k+1) (.num size most j)=res at HRUN |-;clear hres hrun h1 h3 h4 hb ht hx hfit hl hj cn cw;go_enter Tryz.func158,Tryz.ntmps158
 refine Qy (S:=fun _=>True) (by kernel_rfl) ?_;have hS:True:=trivial;have hv:Below W.heap.size W { W with drawn:=W.drawn+1 }:=(ka _ _).drew;generalize ({ W with drawn:=W.drawn+1 }:World)=v at hv |-;refine tkZ 0 8 ?_ rfl ?_ hS ?_;rotate_left
 ·intro w' hw';go_simp
  try with_reducible rfl
 (try dsimp only [kf]);(try simp only [zA,zB,zC])
 refine tkZ 1 9 ?_ rfl ?_ hS ?_;rotate_left
 ·intro w' hw';go_simp
  try with_reducible rfl
 (try dsimp only [kf]);(try simp only [zA,zB,zC])
 refine tkZ 2 10 ?_ rfl ?_ hS ?_;rotate_left
 ·intro w' hw';go_simp
  try with_reducible rfl
 (try dsimp only [kf]);(try simp only [zA,zB,zC])
 refine tkZ 3 11 ?_ rfl ?_ hS ?_;rotate_left
 ·intro w' hw';go_simp
  try with_reducible rfl
 (try dsimp only [kf]);(try simp only [zA,zB,zC])
 refine tkZ 5 13 ?_ rfl ?_ hS ?_;rotate_left
 ·intro w' hw';go_simp
  try with_reducible rfl
 (try dsimp only [kf]);(try simp only [zA,zB,zC])
 refine tkZ 6 14 ?_ rfl ?_ hS ?_;rotate_left
 ·intro w' hw';go_simp
  try with_reducible rfl
 (try dsimp only [kf]);(try simp only [zA,zB,zC])
 refine tkZ 7 15 ?_ rfl ?_ hS ?_;rotate_left
 ·intro w' hw';go_simp
  try with_reducible rfl
 (try dsimp only [kf]);(try simp only [zA,zB,zC])
 refine j1d 4 8 rfl rfl (fun K hK=>?_) (fun K hK=>?_)
 ·have c4:=CW.out v hv;go_simp
  refine hK.out _ _ trivial (fun _=>?_);clear hK K
  (try dsimp only [kf]);(try simp only [zA,zB,zC])
  clear c4;refine rdZ 8 rfl (fun K hK=>?_);have c8:=CN.out v hv;go_simp
  refine hK.out _ _ trivial (fun _=>?_);clear hK K
  (try dsimp only [kf]);(try simp only [zA,zB,zC])
  clear c8;refine rdZ 9 rfl (fun K hK=>?_);go_simp
  refine (CL.out v).mono ?_;rintro e v1 ⟨v2,rfl,hm,hb⟩;have hv1:=hv.trans (hb.mono hv.size);have hm2:Hid (∀ V,Below v1.heap.size v1 V->Own v.heap.size V v2 m):=hJJ (fun V hV=>Go.Proofs.YtonpphjleapafaaGreat.B.jA hm hV);have HM:=hJJ hm;clear hv hb hm hm2;rename World=>v
  have hv:=hv1;clear hv1;go_simp
  refine hK.out _ _ trivial (fun _=>?_);clear hK K
  (try dsimp only [kf]);(try simp only [zA,zB,zC])
  refine rdZ 10 rfl (fun K hK=>?_);rw [if_pos (by rfl)];have how:Own B v val bs:=Go.Proofs.YtonpphjleapafaaGreat.B.jA HO.out hv;refine j29 _ _ rfl B _ val _ bs m rfl how rfl HM.out ML.out.2 (kb hB hv.size) (by have:=HL.out;have:=ML.out.1;omega) ?_;intro v' w' ho' hg;obtain ⟨sa,sn,sc,rfl⟩:∃ a n c,v'=.slice a n c:=by rcases ho'.2 with ⟨rfl,_⟩ | ⟨g,cap,cur,rfl,_⟩ <;> exact ⟨_,_,_,rfl⟩
  obtain ⟨f1,f2,f3,f4⟩:=j9b (b:=b) (k:=k) hv hB h2 ((hv.block wb (k3.1 HW.out).1).trans HW.out) how hg ho' (by rw [k9];have:=HL.out;have:=ML.out.1;omega);have F1:=hJJ f1;have F2:=hJJ f2;have F3:=hJJ f3;have F4:=hJJ (f4 b _ _ _ HB.out HT.out);clear f1 f2 f3 f4 how ho' hg;refine hK.out _ _ trivial (fun _=>?_);clear hK K
  (try dsimp only [kf]);(try simp only [zA,zB,zC])
  have hS:True:=trivial;refine tkZ 11 19 ?_ rfl ?_ hS ?_;rotate_left
  ·intro w' hw';go_simp
   try with_reducible rfl
  (try dsimp only [kf]);(try simp only [zA,zB,zC])
  refine tkZ 12 20 ?_ rfl ?_ hS ?_;rotate_left
  ·intro w' hw';go_simp
   try with_reducible rfl
  (try dsimp only [kf]);(try simp only [zA,zB,zC])
  refine rdZ 13 rfl (fun K hK=>?_);have c5:w'.cell? ⟨wb,0,none⟩=some val:=by rw [Qc _ _ _ _ _ _ F1.out];rfl
  have f5:w'.frozen? ⟨wb,0,none⟩=false:=Qf _ _ _ _ _ F1.out;go_simp
  refine hK.out _ _ trivial (fun _=>?_);clear hK K
  (try dsimp only [kf]);(try simp only [zA,zB,zC])
  rw [Qd w' wb 0 #[val] 92 (0,0) _ F1.out];refine Qj (by kernel_rfl) ?_ _
  (try simp only [kL,kG,kH])
  go_wp2
  go_end0
  rw [HRUN.out];exact ⟨rfl,F2.out,F3.out,F4.out⟩
 have c8:=CN.out v hv;go_simp
 refine hK.out _ _ trivial (fun _=>?_);clear hK K
 (try dsimp only [kf]);(try simp only [zA,zB,zC])
 clear c8;refine j1d 4 9 rfl rfl (fun K hK=>?_) (fun K hK=>?_)
 ·have c4:=CW.out v hv;go_simp
  refine hK.out _ _ trivial (fun _=>?_);clear hK K
  (try dsimp only [kf]);(try simp only [zA,zB,zC])
  clear c4;refine rdZ 9 rfl (fun K hK=>?_);go_simp
  refine (CL.out v).mono ?_;rintro e v1 ⟨v2,rfl,hm,hb⟩;have hv1:=hv.trans (hb.mono hv.size);have hm2:Hid (∀ V,Below v1.heap.size v1 V->Own v.heap.size V v2 m):=hJJ (fun V hV=>Go.Proofs.YtonpphjleapafaaGreat.B.jA hm hV);have HM:=hJJ hm;clear hv hb hm hm2;rename World=>v
  have hv:=hv1;clear hv1;go_simp
  refine hK.out _ _ trivial (fun _=>?_);clear hK K
  (try dsimp only [kf]);(try simp only [zA,zB,zC])
  refine rdZ 10 rfl (fun K hK=>?_);rw [if_pos (by rfl)];have how:Own B v val bs:=Go.Proofs.YtonpphjleapafaaGreat.B.jA HO.out hv;refine j29 _ _ rfl B _ val _ bs m rfl how rfl HM.out ML.out.2 (kb hB hv.size) (by have:=HL.out;have:=ML.out.1;omega) ?_;intro v' w' ho' hg;obtain ⟨sa,sn,sc,rfl⟩:∃ a n c,v'=.slice a n c:=by rcases ho'.2 with ⟨rfl,_⟩ | ⟨g,cap,cur,rfl,_⟩ <;> exact ⟨_,_,_,rfl⟩
  obtain ⟨f1,f2,f3,f4⟩:=j9b (b:=b) (k:=k) hv hB h2 ((hv.block wb (k3.1 HW.out).1).trans HW.out) how hg ho' (by rw [k9];have:=HL.out;have:=ML.out.1;omega);have F1:=hJJ f1;have F2:=hJJ f2;have F3:=hJJ f3;have F4:=hJJ (f4 b _ _ _ HB.out HT.out);clear f1 f2 f3 f4 how ho' hg;refine hK.out _ _ trivial (fun _=>?_);clear hK K
  (try dsimp only [kf]);(try simp only [zA,zB,zC])
  have hS:True:=trivial;refine tkZ 11 19 ?_ rfl ?_ hS ?_;rotate_left
  ·intro w' hw';go_simp
   try with_reducible rfl
  (try dsimp only [kf]);(try simp only [zA,zB,zC])
  refine tkZ 12 20 ?_ rfl ?_ hS ?_;rotate_left
  ·intro w' hw';go_simp
   try with_reducible rfl
  (try dsimp only [kf]);(try simp only [zA,zB,zC])
  refine rdZ 13 rfl (fun K hK=>?_);have c5:w'.cell? ⟨wb,0,none⟩=some val:=by rw [Qc _ _ _ _ _ _ F1.out];rfl
  have f5:w'.frozen? ⟨wb,0,none⟩=false:=Qf _ _ _ _ _ F1.out;go_simp
  refine hK.out _ _ trivial (fun _=>?_);clear hK K
  (try dsimp only [kf]);(try simp only [zA,zB,zC])
  rw [Qd w' wb 0 #[val] 92 (0,0) _ F1.out];refine Qj (by kernel_rfl) ?_ _
  (try simp only [kL,kG,kH])
  go_wp2
  go_end0
  rw [HRUN.out];exact ⟨rfl,F2.out,F3.out,F4.out⟩
 go_simp
 refine (CL.out v).mono ?_;rintro e v1 ⟨v2,rfl,hm,hb⟩;have hv1:=hv.trans (hb.mono hv.size);have hm2:Hid (∀ V,Below v1.heap.size v1 V->Own v.heap.size V v2 m):=hJJ (fun V hV=>Go.Proofs.YtonpphjleapafaaGreat.B.jA hm hV);have HM:=hJJ hm;clear hv hb hm hm2;rename World=>v
 have hv:=hv1;clear hv1;go_simp
 refine hK.out _ _ trivial (fun _=>?_);clear hK K
 (try dsimp only [kf]);(try simp only [zA,zB,zC])
 refine rdZ 4 rfl (fun K hK=>?_);have c4:=CW.out v hv;go_simp
 refine hK.out _ _ trivial (fun _=>?_);clear hK K
 (try dsimp only [kf]);(try simp only [zA,zB,zC])
 clear c4;refine rdZ 10 rfl (fun K hK=>?_);rw [if_pos (by rfl)];have how:Own B v val bs:=Go.Proofs.YtonpphjleapafaaGreat.B.jA HO.out hv;refine j29 _ _ rfl B _ val _ bs m rfl how rfl HM.out ML.out.2 (kb hB hv.size) (by have:=HL.out;have:=ML.out.1;omega) ?_;intro v' w' ho' hg;obtain ⟨sa,sn,sc,rfl⟩:∃ a n c,v'=.slice a n c:=by rcases ho'.2 with ⟨rfl,_⟩ | ⟨g,cap,cur,rfl,_⟩ <;> exact ⟨_,_,_,rfl⟩
 obtain ⟨f1,f2,f3,f4⟩:=j9b (b:=b) (k:=k) hv hB h2 ((hv.block wb (k3.1 HW.out).1).trans HW.out) how hg ho' (by rw [k9];have:=HL.out;have:=ML.out.1;omega);have F1:=hJJ f1;have F2:=hJJ f2;have F3:=hJJ f3;have F4:=hJJ (f4 b _ _ _ HB.out HT.out);clear f1 f2 f3 f4 how ho' hg;refine hK.out _ _ trivial (fun _=>?_);clear hK K
 (try dsimp only [kf]);(try simp only [zA,zB,zC])
 have hS:True:=trivial;refine tkZ 11 19 ?_ rfl ?_ hS ?_;rotate_left
 ·intro w' hw';go_simp
  try with_reducible rfl
 (try dsimp only [kf]);(try simp only [zA,zB,zC])
 refine tkZ 12 20 ?_ rfl ?_ hS ?_;rotate_left
 ·intro w' hw';go_simp
  try with_reducible rfl
 (try dsimp only [kf]);(try simp only [zA,zB,zC])
 refine rdZ 13 rfl (fun K hK=>?_);have c5:w'.cell? ⟨wb,0,none⟩=some val:=by rw [Qc _ _ _ _ _ _ F1.out];rfl
 have f5:w'.frozen? ⟨wb,0,none⟩=false:=Qf _ _ _ _ _ F1.out;go_simp
 refine hK.out _ _ trivial (fun _=>?_);clear hK K
 (try dsimp only [kf]);(try simp only [zA,zB,zC])
 rw [Qd w' wb 0 #[val] 92 (0,0) _ F1.out];refine Qj (by kernel_rfl) ?_ _
 (try simp only [kL,kG,kH])
 go_wp2
 go_end0
 rw [HRUN.out];exact ⟨rfl,F2.out,F3.out,F4.out⟩
theorem jdG {B wb:Nat} (s:List Nat × Nat) (W:World) (b o:Nat) (cs:Array Value) (t:TypeId) (fr:Nat × Nat) (l:List Value) (lv:Bool) (j x:Nat) (fv:Value) (hR:WR B wb s W) (hB:B<=W.heap.size) (ht:b < B\/¬ Pt t) (hl:o+l.length<=cs.size) (hb:W.heap[b]?=some (.cells (wrt cs o l) t fr)) (hx:l[j]?=some (.float .f64 x)) (hfit:Fit (Sp.run WP l s (.flt lv j))) :
  Calls Tryz.prog 157 #[.pointer (some ⟨wb,0,none⟩),.pointer (some ⟨b,o+j,none⟩),fv] W (Ends WP (WR B wb) B b o cs t fr (Sp.run WP l s (.flt lv j)) W):=by
 obtain ⟨bs,k0⟩:=s;obtain ⟨h1,h2,val,h3,h4⟩:=hR;cases k0 with
 | zero=>exact absurd (show Sp.run WP l (bs,0) (.flt lv j)=.error mark by simp only [Sp.run,hx];rfl) hfit
 | succ k =>
 have hrun:Sp.run WP l (bs,k+1) (.flt lv j)=.ok (l,(bs++Put.low 8 x,k)):=by
  simp only [Sp.run,hx];exact congrArg (fun z=>Kh (z,(bs++Put.low 8 x,k))) (j2P hx)
 have HRUN:=hJJ hrun;have hj:j < l.length:=(kg.1 hx).1;have cn:W.cell? ⟨b,o+j,none⟩=some (.float .f64 x):=by rw [Qc _ _ _ _ _ _ hb,j2v hl hj];exact hx
 have cw:W.cell? ⟨wb,0,none⟩=some val:=by rw [Qc _ _ _ _ _ _ h3];rfl
 have HW:=hJJ h3;have HO:=hJJ h4;have HB:=hJJ hb;have HT:=hJJ ht;have ML:Hid ((Put.low 8 x).length<=8/\∀ y ∈ Put.low 8 x,y < 256):=hJJ ⟨by rw [Put.jE];exact k5 _,fun y hy=>Put.Jk _ _ y hy⟩;have HL:Hid (bs.length+8*(k+1)<=50000):=hJJ h1;have CL:Hid (∀ V,Calls Tryz.prog 159 #[.slice none 0 0,.float .f64 x] V fun e w'=>∃ v2,e=.returned v2/\Own V.heap.size w' v2 (Put.low 8 x)/\Below V.heap.size V w'):=hJJ (fun V=>by have:=Put.jaj none 0 [] x V (Go.Proofs.YtonpphjleapafaaGreat.B.j48 _ _ _ rfl) (by simp);exact this);have CN:Hid (∀ V,Below W.heap.size W V->V.cell? ⟨b,o+j,none⟩=some (.float .f64 x)):=hJJ (fun V hv=>(hv.cell (k6 W _ cn)).trans cn);have CW:Hid (∀ V,Below W.heap.size W V->V.cell? ⟨wb,0,none⟩=some val):=hJJ (fun V hv=>(hv.cell (k6 W _ cw)).trans cw);generalize Put.low 8 x=m at ML CL HRUN;generalize hres:Sp.run WP l (bs,k+1) (.flt lv j)=res at HRUN |-;clear hres hrun h1 h3 h4 hb ht hx hfit hl hj cn cw;go_enter Tryz.func157,Tryz.ntmps157
 refine Qy (S:=fun _=>True) (by kernel_rfl) ?_;have hS:True:=trivial;have hv:Below W.heap.size W { W with drawn:=W.drawn+1 }:=(ka _ _).drew;generalize ({ W with drawn:=W.drawn+1 }:World)=v at hv |-;refine tkZ 0 6 ?_ rfl ?_ hS ?_;rotate_left
 ·intro w' hw';go_simp
  try with_reducible rfl
 (try dsimp only [kf]);(try simp only [zA,zB,zC])
 refine tkZ 1 7 ?_ rfl ?_ hS ?_;rotate_left
 ·intro w' hw';go_simp
  try with_reducible rfl
 (try dsimp only [kf]);(try simp only [zA,zB,zC])
 refine tkZ 2 8 ?_ rfl ?_ hS ?_;rotate_left
 ·intro w' hw';go_simp
  try with_reducible rfl
 (try dsimp only [kf]);(try simp only [zA,zB,zC])
 refine tkZ 3 9 ?_ rfl ?_ hS ?_;rotate_left
 ·intro w' hw';go_simp
  try with_reducible rfl
 (try dsimp only [kf]);(try simp only [zA,zB,zC])
 refine tkZ 5 11 ?_ rfl ?_ hS ?_;rotate_left
 ·intro w' hw';go_simp
  try with_reducible rfl
 (try dsimp only [kf]);(try simp only [zA,zB,zC])
 refine tkZ 6 12 ?_ rfl ?_ hS ?_;rotate_left
 ·intro w' hw';go_simp
  try with_reducible rfl
 (try dsimp only [kf]);(try simp only [zA,zB,zC])
 refine j1d 4 7 rfl rfl (fun K hK=>?_) (fun K hK=>?_)
 ·have c4:=CW.out v hv;go_simp
  refine hK.out _ _ trivial (fun _=>?_);clear hK K
  (try dsimp only [kf]);(try simp only [zA,zB,zC])
  clear c4;refine rdZ 7 rfl (fun K hK=>?_);have c8:=CN.out v hv;go_simp
  refine hK.out _ _ trivial (fun _=>?_);clear hK K
  (try dsimp only [kf]);(try simp only [zA,zB,zC])
  clear c8;refine rdZ 8 rfl (fun K hK=>?_);go_simp
  refine (CL.out v).mono ?_;rintro e v1 ⟨v2,rfl,hm,hb⟩;have hv1:=hv.trans (hb.mono hv.size);have hm2:Hid (∀ V,Below v1.heap.size v1 V->Own v.heap.size V v2 m):=hJJ (fun V hV=>Go.Proofs.YtonpphjleapafaaGreat.B.jA hm hV);have HM:=hJJ hm;clear hv hb hm hm2;rename World=>v
  have hv:=hv1;clear hv1;go_simp
  refine hK.out _ _ trivial (fun _=>?_);clear hK K
  (try dsimp only [kf]);(try simp only [zA,zB,zC])
  refine rdZ 9 rfl (fun K hK=>?_);rw [if_pos (by rfl)];have how:Own B v val bs:=Go.Proofs.YtonpphjleapafaaGreat.B.jA HO.out hv;refine j29 _ _ rfl B _ val _ bs m rfl how rfl HM.out ML.out.2 (kb hB hv.size) (by have:=HL.out;have:=ML.out.1;omega) ?_;intro v' w' ho' hg;obtain ⟨sa,sn,sc,rfl⟩:∃ a n c,v'=.slice a n c:=by rcases ho'.2 with ⟨rfl,_⟩ | ⟨g,cap,cur,rfl,_⟩ <;> exact ⟨_,_,_,rfl⟩
  obtain ⟨f1,f2,f3,f4⟩:=j9b (b:=b) (k:=k) hv hB h2 ((hv.block wb (k3.1 HW.out).1).trans HW.out) how hg ho' (by rw [k9];have:=HL.out;have:=ML.out.1;omega);have F1:=hJJ f1;have F2:=hJJ f2;have F3:=hJJ f3;have F4:=hJJ (f4 b _ _ _ HB.out HT.out);clear f1 f2 f3 f4 how ho' hg;refine hK.out _ _ trivial (fun _=>?_);clear hK K
  (try dsimp only [kf]);(try simp only [zA,zB,zC])
  have hS:True:=trivial;refine tkZ 10 16 ?_ rfl ?_ hS ?_;rotate_left
  ·intro w' hw';go_simp
   try with_reducible rfl
  (try dsimp only [kf]);(try simp only [zA,zB,zC])
  refine tkZ 11 17 ?_ rfl ?_ hS ?_;rotate_left
  ·intro w' hw';go_simp
   try with_reducible rfl
  (try dsimp only [kf]);(try simp only [zA,zB,zC])
  refine rdZ 12 rfl (fun K hK=>?_);have c5:w'.cell? ⟨wb,0,none⟩=some val:=by rw [Qc _ _ _ _ _ _ F1.out];rfl
  have f5:w'.frozen? ⟨wb,0,none⟩=false:=Qf _ _ _ _ _ F1.out;go_simp
  refine hK.out _ _ trivial (fun _=>?_);clear hK K
  (try dsimp only [kf]);(try simp only [zA,zB,zC])
  rw [Qd w' wb 0 #[val] 92 (0,0) _ F1.out];refine Qj (by kernel_rfl) ?_ _
  (try simp only [kL,kG,kH])
  go_wp2
  go_end0
  rw [HRUN.out];exact ⟨rfl,F2.out,F3.out,F4.out⟩
 have c8:=CN.out v hv;go_simp
 refine hK.out _ _ trivial (fun _=>?_);clear hK K
 (try dsimp only [kf]);(try simp only [zA,zB,zC])
 clear c8;refine j1d 4 8 rfl rfl (fun K hK=>?_) (fun K hK=>?_)
 ·have c4:=CW.out v hv;go_simp
  refine hK.out _ _ trivial (fun _=>?_);clear hK K
  (try dsimp only [kf]);(try simp only [zA,zB,zC])
  clear c4;refine rdZ 8 rfl (fun K hK=>?_);go_simp
  refine (CL.out v).mono ?_;rintro e v1 ⟨v2,rfl,hm,hb⟩;have hv1:=hv.trans (hb.mono hv.size);have hm2:Hid (∀ V,Below v1.heap.size v1 V->Own v.heap.size V v2 m):=hJJ (fun V hV=>Go.Proofs.YtonpphjleapafaaGreat.B.jA hm hV);have HM:=hJJ hm;clear hv hb hm hm2;rename World=>v
  have hv:=hv1;clear hv1;go_simp
  refine hK.out _ _ trivial (fun _=>?_);clear hK K
  (try dsimp only [kf]);(try simp only [zA,zB,zC])
  refine rdZ 9 rfl (fun K hK=>?_);rw [if_pos (by rfl)];have how:Own B v val bs:=Go.Proofs.YtonpphjleapafaaGreat.B.jA HO.out hv;refine j29 _ _ rfl B _ val _ bs m rfl how rfl HM.out ML.out.2 (kb hB hv.size) (by have:=HL.out;have:=ML.out.1;omega) ?_;intro v' w' ho' hg;obtain ⟨sa,sn,sc,rfl⟩:∃ a n c,v'=.slice a n c:=by rcases ho'.2 with ⟨rfl,_⟩ | ⟨g,cap,cur,rfl,_⟩ <;> exact ⟨_,_,_,rfl⟩
  obtain ⟨f1,f2,f3,f4⟩:=j9b (b:=b) (k:=k) hv hB h2 ((hv.block wb (k3.1 HW.out).1).trans HW.out) how hg ho' (by rw [k9];have:=HL.out;have:=ML.out.1;omega);have F1:=hJJ f1;have F2:=hJJ f2;have F3:=hJJ f3;have F4:=hJJ (f4 b _ _ _ HB.out HT.out);clear f1 f2 f3 f4 how ho' hg;refine hK.out _ _ trivial (fun _=>?_);clear hK K
  (try dsimp only [kf]);(try simp only [zA,zB,zC])
  have hS:True:=trivial;refine tkZ 10 16 ?_ rfl ?_ hS ?_;rotate_left
  ·intro w' hw';go_simp
   try with_reducible rfl
  (try dsimp only [kf]);(try simp only [zA,zB,zC])
  refine tkZ 11 17 ?_ rfl ?_ hS ?_;rotate_left
  ·intro w' hw';go_simp
   try with_reducible rfl
  (try dsimp only [kf]);(try simp only [zA,zB,zC])
  refine rdZ 12 rfl (fun K hK=>?_);have c5:w'.cell? ⟨wb,0,none⟩=some val:=by rw [Qc _ _ _ _ _ _ F1.out];rfl
  have f5:w'.frozen? ⟨wb,0,none⟩=false:=Qf _ _ _ _ _ F1.out;go_simp
  refine hK.out _ _ trivial (fun _=>?_);clear hK K
  (try dsimp only [kf]);(try simp only [zA,zB,zC])
  rw [Qd w' wb 0 #[val] 92 (0,0) _ F1.out];refine Qj (by kernel_rfl) ?_ _
  (try simp only [kL,kG,kH])
  go_wp2
  go_end0
  rw [HRUN.out];exact ⟨rfl,F2.out,F3.out,F4.out⟩
 go_simp
 refine (CL.out v).mono ?_;rintro e v1 ⟨v2,rfl,hm,hb⟩;have hv1:=hv.trans (hb.mono hv.size);have hm2:Hid (∀ V,Below v1.heap.size v1 V->Own v.heap.size V v2 m):=hJJ (fun V hV=>Go.Proofs.YtonpphjleapafaaGreat.B.jA hm hV);have HM:=hJJ hm;clear hv hb hm hm2;rename World=>v
 have hv:=hv1;clear hv1;go_simp
 refine hK.out _ _ trivial (fun _=>?_);clear hK K
 (try dsimp only [kf]);(try simp only [zA,zB,zC])
 refine rdZ 4 rfl (fun K hK=>?_);have c4:=CW.out v hv;go_simp
 refine hK.out _ _ trivial (fun _=>?_);clear hK K
 (try dsimp only [kf]);(try simp only [zA,zB,zC])
 clear c4;refine rdZ 9 rfl (fun K hK=>?_);rw [if_pos (by rfl)];have how:Own B v val bs:=Go.Proofs.YtonpphjleapafaaGreat.B.jA HO.out hv;refine j29 _ _ rfl B _ val _ bs m rfl how rfl HM.out ML.out.2 (kb hB hv.size) (by have:=HL.out;have:=ML.out.1;omega) ?_;intro v' w' ho' hg;obtain ⟨sa,sn,sc,rfl⟩:∃ a n c,v'=.slice a n c:=by rcases ho'.2 with ⟨rfl,_⟩ | ⟨g,cap,cur,rfl,_⟩ <;> exact ⟨_,_,_,rfl⟩
 obtain ⟨f1,f2,f3,f4⟩:=j9b (b:=b) (k:=k) hv hB h2 ((hv.block wb (k3.1 HW.out).1).trans HW.out) how hg ho' (by rw [k9];have:=HL.out;have:=ML.out.1;omega);have F1:=hJJ f1;have F2:=hJJ f2;have F3:=hJJ f3;have F4:=hJJ (f4 b _ _ _ HB.out HT.out);clear f1 f2 f3 f4 how ho' hg;refine hK.out _ _ trivial (fun _=>?_);clear hK K
 (try dsimp only [kf]);(try simp only [zA,zB,zC])
 have hS:True:=trivial;refine tkZ 10 16 ?_ rfl ?_ hS ?_;rotate_left
 ·intro w' hw';go_simp
  try with_reducible rfl
 (try dsimp only [kf]);(try simp only [zA,zB,zC])
 refine tkZ 11 17 ?_ rfl ?_ hS ?_;rotate_left
 ·intro w' hw';go_simp
  try with_reducible rfl
 (try dsimp only [kf]);(try simp only [zA,zB,zC])
 refine rdZ 12 rfl (fun K hK=>?_);have c5:w'.cell? ⟨wb,0,none⟩=some val:=by rw [Qc _ _ _ _ _ _ F1.out];rfl
 have f5:w'.frozen? ⟨wb,0,none⟩=false:=Qf _ _ _ _ _ F1.out;go_simp
 refine hK.out _ _ trivial (fun _=>?_);clear hK K
 (try dsimp only [kf]);(try simp only [zA,zB,zC])
 rw [Qd w' wb 0 #[val] 92 (0,0) _ F1.out];refine Qj (by kernel_rfl) ?_ _
 (try simp only [kL,kG,kH])
 go_wp2
 go_end0
 rw [HRUN.out];exact ⟨rfl,F2.out,F3.out,F4.out⟩
end Po
namespace Po
open Zip
open Go Go.RowKit
open Tab
theorem jak (x:Bool):Put.low (Put.lim 1 8) (if x=true then 1 else 0)=[if x=true then 1 else 0]:=by cases x <;> decide +kernel
theorem jeO {B wb:Nat} (s:List Nat × Nat) (W:World) (b o:Nat) (cs:Array Value) (t:TypeId) (fr:Nat × Nat) (l:List Value) (j:Nat) (x:Bool) (hR:WR B wb s W) (hB:B<=W.heap.size) (ht:b < B\/¬ Pt t) (hl:o+l.length<=cs.size) (hb:W.heap[b]?=some (.cells (wrt cs o l) t fr)) (hx:l[j]?=some (.bool x)) (hfit:Fit (Sp.run WP l s (.flg j))) :
  Calls Tryz.prog 156 #[.pointer (some ⟨wb,0,none⟩),.pointer (some ⟨b,o+j,none⟩)] W (Ends WP (WR B wb) B b o cs t fr (Sp.run WP l s (.flg j)) W):=by
 obtain ⟨bs,k0⟩:=s;cases k0 with
 | zero=>exact absurd (show Sp.run WP l (bs,0) (.flg j)=.error mark by simp only [Sp.run,hx];rfl) hfit
 | succ k =>
 have hrun:Sp.run WP l (bs,k+1) (.flg j)=.ok (l,(bs++[if x=true then 1 else 0],k)):=by
  simp only [Sp.run,hx];exact congrArg (fun z=>Kh (z,(bs++[if x=true then 1 else 0],k))) (j2P hx)
 have HRUN:=hJJ hrun;have hj:j < l.length:=(kg.1 hx).1;have cn:W.cell? ⟨b,o+j,none⟩=some (.bool x):=by rw [Qc _ _ _ _ _ _ hb,j2v hl hj];exact hx
 have hbl:=(k3.1 hb).1
 have NB:Hid (∀ (z:Int) (W1:World),(z=if x=true then 1 else 0)->Below W.heap.size W W1->W1.heap[W.heap.size]?=some (.cells #[I z] 3 (0,0))->Calls Tryz.prog 158 #[.pointer (some ⟨wb,0,none⟩),.int .i64 1,.int .i64 1,.pointer (some ⟨W.heap.size,0,none⟩)] W1 fun e W'=>e=.returned (.tuple #[])/\WR B wb (bs++[if x=true then 1 else 0],k) W'/\Mv B b W W'/\W'.heap[b]?=some (.cells (wrt cs o l) t fr)):=hJJ (fun z W1 hz h1 hn=>by
  have hst:WR B wb (bs,k+1) W1:=hR.stay (fun j cs t fr hj _=>h1.block j (k3.1 hj).1)
  have hr1:Sp.run WP [I z] (bs,k+1) (.num 1 1 0)=.ok ([I z],(bs++[if x=true then 1 else 0],k)):=by
   show Kh _=_;rw [hz,jak];rfl
  have hw:wrt #[I z] 0 [I z]=#[I z]:=JV (by simp) (by intro j hj;match j,hj with | 0,_=>rfl);have hc:=j8u (B:=B) (wb:=wb) (bs,k+1) W1 W.heap.size 0 #[I z] 3 (0,0) [I z] 1 1 0 z hst (kb hB h1.size) (.inr (by decide)) (by simp) (by rw [hw];exact hn) rfl (by rw [hr1];intro h;cases h);rw [hr1] at hc;refine hc.mono ?_;intro e W' he;obtain ⟨he1,he2,he3,he4⟩:=he;refine ⟨he1,he2,⟨(h1.mono hB).trans he3.low,fun j cs2 t2 fr2 hj2 ht2 hb2=>?_⟩,?_⟩
  ·have hjl:=(k3.1 hj2).1;have h2:=(h1.block j hjl).trans hj2;exact (he3.other j cs2 t2 fr2 h2 ht2 (by omega)).trans (h1.block j hjl)
  exact he3.Ju ((h1.block b hbl).trans hb) ht (by omega))
 have hb1:∀ z:Int,Below W.heap.size W (W.alloc (.cells #[I z] 3)):=fun z=>(ka _ _).alloc (k5 _) _;have hn1:∀ z:Int,(W.alloc (.cells #[I z] 3)).heap[W.heap.size]?=some (.cells #[I z] 3 (0,0)):=fun z=>Qb W _;have B0:=hJJ (hb1 0);have N0:=hJJ (hn1 0);clear hb1 hn1 hR hB ht hl hb hx hfit hrun hj;go_enter Tryz.func156,Tryz.ntmps156
 go_upto_region 1 with fail
 generalize Kb W _=W1 at B0 N0 |-;have cx:W1.cell? ⟨b,o+j,none⟩=some (.bool x):=(B0.out.cell (k6 W _ cn)).trans cn;have c0:W1.cell? ⟨W.heap.size,0,none⟩=some (I 0):=by rw [Qc _ _ _ _ _ _ N0.out];rfl
 have f0:W1.frozen? ⟨W.heap.size,0,none⟩=false:=Qf _ _ _ _ _ N0.out;cases x with
 | false =>
  have hc:=hJJ (NB.out 0 W1 rfl B0.out N0.out);clear NB cn c0 f0;generalize W.heap.size=nb at hc |-;go_wp2_with fail
  refine hc.out.mono ?_;rintro e W' ⟨rfl,h2⟩;have H2:=hJJ h2;clear h2;go_wp2
  go_end0
  rw [HRUN.out];exact ⟨rfl,H2.out⟩
 | true =>
  have hb2:Below W.heap.size W (W1.setCell ⟨W.heap.size,0,none⟩ (I 1)):=B0.out.setCell (k5 _) _
  have hn2:(W1.setCell ⟨W.heap.size,0,none⟩ (I 1)).heap[W.heap.size]?=some (.cells #[I 1] 3 (0,0)):=by
   rw [Qd W1 W.heap.size 0 #[I 0] 3 (0,0) (I 1) N0.out];exact Qo _ _ _ _ _ _ N0.out
  have hc:=hJJ (NB.out 1 _ rfl hb2 hn2);clear NB cn hb2 hn2;generalize W.heap.size=nb at hc c0 f0 |-;go_upto_region 3 with fail
  generalize World.setCell W1 _ _=W2 at hc |-;go_wp2_with fail
  refine hc.out.mono ?_;rintro e W' ⟨rfl,h2⟩;have H2:=hJJ h2;clear h2;go_wp2
  go_end0
  rw [HRUN.out];exact ⟨rfl,H2.out⟩
theorem JJ {B wb:Nat}:Port WP (WR B wb) B (fun _ _=>True) 90 (.pointer (some ⟨wb,0,none⟩)) (.pointer (some ⟨wb,0,none⟩)) 158 157 156 where
 mn:=fun n w=>by rfl
 mf:=fun n w=>by rfl
 mg:=fun n w=>by rfl
 nn:=fun n w=>by rfl
 nf:=fun n w=>by rfl
 ng:=fun n w=>by rfl
 en:=fun args w=>by rfl
 ef:=fun args w=>by rfl
 eg:=fun args w=>by rfl
 stay:=fun s W W' h hs hk=>h.stay hk
 new:=fun b hb=>trivial
 num:=fun s W b o cs t fr l size most j x hR hB _ ht hl hb hx hfit=>j8u s W b o cs t fr l size most j x hR hB ht hl hb hx hfit
 flt:=fun s W b o cs t fr l lv j x hR hB _ ht hl hb hx hfit=>jdG s W b o cs t fr l lv j x _ hR hB ht hl hb hx hfit
 flg:=fun s W b o cs t fr l j x hR hB _ ht hl hb hx hfit=>jeO s W b o cs t fr l j x hR hB ht hl hb hx hfit
end Po
namespace CrcM
def dbl (c:Nat):Nat:=(2*c % 65536) ^^^ (if c / 32768 % 2=1 then 4129 else 0)
def j5k (c:Nat):Nat:=dbl (dbl (dbl (dbl (dbl (dbl (dbl (dbl c)))))))
def tab (i:Nat):Nat:=j5k (256*i)
def step (c x:Nat):Nat:=(256*c % 65536) ^^^ tab (c / 256 ^^^ x)
def crc (c:Nat) (l:List Nat):Nat:=l.foldl step c
def JP (c b:Nat):Nat:=if c / 32768 ≠ b then (2*c % 65536) ^^^ 4129 else 2*c % 65536
theorem jal (c:Nat):dbl c < 65536:=by
 unfold dbl;refine KK (n:=16) (K1 _ (by decide)) ?_;split <;> decide
theorem j7O (i:Nat):tab i < 65536:=jal _
theorem jc5 (c x:Nat):step c x < 65536:=KK (n:=16) (K1 _ (by decide)) (j7O _)
theorem j3e (c:Nat) (l:List Nat) (h:c < 65536):crc c l < 65536:=by
 induction l generalizing c with
 | nil=>exact h
 | cons x l ih=>exact ih _ (jc5 c x)
theorem j8v (a b n:Nat):2 ^ n*(a ^^^ b)=2 ^ n*a ^^^ 2 ^ n*b:=by
 rw [K7,K7 _ a,K7 _ b,<-kD,<-kD,<-kD,Nat.shiftLeft_xor_distrib]
theorem x4 (a b c d:Nat):(a ^^^ b) ^^^ (c ^^^ d)=(a ^^^ c) ^^^ (b ^^^ d):=by
 rw [K9,K9,<-K9 b,Q2 b c,K9 c]
theorem j8w (a b:Nat):dbl (a ^^^ b)=dbl a ^^^ dbl b:=by
 have h1:2*(a ^^^ b) % 65536=(2*a % 65536) ^^^ (2*b % 65536):=by
  have e:=j8v a b 1;rw [Nat.pow_one] at e;rw [e];exact Nat.xor_mod_two_pow (n:=16)
 have h2:(a ^^^ b) / 32768=a / 32768 ^^^ b / 32768:=Nat.xor_div_two_pow (n:=15);unfold dbl;rw [h1,h2,x4];congr 1;have h3:=@Nat.xor_mod_two_eq_one (a / 32768) (b / 32768);by_cases p:a / 32768 % 2=1 <;> by_cases q:b / 32768 % 2=1 <;> simp [h3,p,q]
theorem j6L (a b:Nat):j5k (a ^^^ b)=j5k a ^^^ j5k b:=by
 unfold j5k;simp only [j8w]
theorem jc6 (i j:Nat):tab (i ^^^ j)=tab i ^^^ tab j:=by
 unfold tab;rw [show 256=2 ^ 8 from rfl,j8v,j6L]
theorem jam:tab 0=0:=by decide +kernel
theorem j6M:∀ i,i < 256->tab i=if i % 2=1 then dbl (tab (i / 2)) ^^^ 4129 else dbl (tab (i / 2)):=by decide +kernel
theorem jc7 (i:Nat) (h:i < 256) (ho:i % 2=1):tab i=dbl (tab (i / 2)) ^^^ 4129:=by rw [j6M i h,if_pos ho]
theorem jan (i:Nat) (h:i < 256) (ho:¬ i % 2=1):tab i=dbl (tab (i / 2)):=by rw [j6M i h,if_neg ho]
theorem jc8 (c:Nat):c=256*(c / 256) ^^^ c % 256:=by
 have h1:=Nat.two_pow_add_eq_or_of_lt (i:=8) (b:=c % 256) (K1 _ (by decide)) (c / 256)
 have h2:256*(c / 256) &&& c % 256=0:=by
  apply qh;intro i;rw [qR,show 256*(c / 256)=2 ^ 8*(c / 256) from rfl,Nat.testBit_two_pow_mul,show c % 256=c % 2 ^ 8 from rfl,Nat.testBit_mod_two_pow];rw [qJ];by_cases h:8<=i
  ·rw [decide_eq_false (show ¬ i < 8 by omega),qi,qV]
  rw [decide_eq_false h,qi,qi]
 have h3:=Kg c 256;apply qh;intro i;rw [Nat.testBit_xor]
 have h4:c.testBit i=(256*(c / 256) ||| c % 256).testBit i:=by
  rw [<-show 2 ^ 8*(c / 256)+c % 256=256*(c / 256) ||| c % 256 from h1,show 2 ^ 8*(c / 256)+c % 256=c from h3]
 have h5:(256*(c / 256) &&& c % 256).testBit i=false:=by rw [h2];exact qJ i
 rw [h4,Nat.testBit_or];rw [qR] at h5;clear h4 h1 h2 h3;generalize (256*(c / 256)).testBit i=p at h5 |-;generalize (c % 256).testBit i=q at h5 |-;cases p <;> cases q <;> simp at h5 |-
theorem jft:∀ i,i < 256->j5k i=256*i:=by decide +kernel
theorem jc9 (c:Nat) (h:c < 65536):j5k c=tab (c / 256) ^^^ 256*(c % 256):=by
 have h1:=jc8 c;rw [show j5k c=j5k (256*(c / 256) ^^^ c % 256) by rw [<-h1],j6L,jft _ (K1 _ (by decide))];rfl
theorem step_eq (c x:Nat) (h:c < 65536):step c x=j5k c ^^^ tab x:=by
 rw [jc9 c h];unfold step;rw [jc6,Q2 (tab _) (256*_),K9,show 256*c % 65536=256*(c % 256) by omega]
theorem jao (c b:Nat) (h:c < 65536) (hb:b < 2):JP c b=dbl c ^^^ (if b=1 then 4129 else 0):=by
 unfold JP dbl;have h1:c / 32768=0\/c / 32768=1:=by omega
 have h2:b=0\/b=1:=by omega
 rcases h1 with h1 | h1 <;> rcases h2 with rfl | rfl <;> simp [h1,K9]
def j0E (c x:Nat):Nat->Nat
 | 0=>c
 | n+1=>JP (j0E c x n) (x / 2 ^ (7 - n) % 2)
theorem j60 (c b:Nat):JP c b < 65536:=by
 unfold JP;have:2*c % 65536 < 65536:=K1 _ (by decide);split
 ·exact KK (n:=16) this (by decide)
 exact this
theorem j4t (c x n:Nat) (h:c < 65536):j0E c x n < 65536:=by
 cases n with
 | zero=>exact h
 | succ n=>exact j60 _ _
def jdH (c:Nat):Nat->Nat
 | 0=>c
 | n+1=>dbl (jdH c n)
theorem j9c (c x n:Nat) (h:c < 65536):j0E c x n=jdH c n ^^^ j0E 0 x n:=by
 induction n with
 | zero=>simp [j0E,jdH]
 | succ n ih =>
  show JP _ _=dbl _ ^^^ JP _ _;rw [jao _ _ (j4t c x n h) (K1 _ (by decide)),jao _ _ (j4t 0 x n (by decide)) (K1 _ (by decide)),ih,j8w,K9]
theorem j9d:∀ x,x < 256->j0E 0 x 8=tab x:=by decide +kernel
theorem j7P (c x:Nat) (h:c < 65536) (hx:x < 256):j0E c x 8=step c x:=by
 rw [j9c c x 8 h,j9d x hx,step_eq c x h];rfl
theorem j7Q (c:Nat) (l m:List Nat):crc c (l++m)=crc (crc c l) m:=List.foldl_append
theorem j6N (c:Nat) (l:List Nat) (x:Nat):crc c (l++[x])=step (crc c l) x:=by rw [j7Q];rfl
def over (a b c:List Nat):Nat->List Nat
 | 0=>[]
 | n+1=>over a b c n++[a.getD n 0 ^^^ b.getD n 0 ^^^ c.getD n 0]
theorem j5s (l:List Nat) (k:Nat) (h:k < l.length):l.take (k+1)=l.take k++[l.getD k 0]:=by
 rw [List.take_succ_eq_append_getElem h,kl,k4 h];rfl
def par (n:Nat):Bool:=((((n.testBit 0 ^^ n.testBit 1) ^^ (n.testBit 2 ^^ n.testBit 3)) ^^ ((n.testBit 4 ^^ n.testBit 5) ^^ (n.testBit 6 ^^ n.testBit 7))) ^^ (((n.testBit 8 ^^ n.testBit 9) ^^ (n.testBit 10 ^^ n.testBit 11)) ^^ ((n.testBit 12 ^^ n.testBit 13) ^^ (n.testBit 14 ^^ n.testBit 15))))
def jfu (l:List Nat):Bool:=l.foldl (fun s x=>s ^^ par x) false
end CrcM
namespace Cd
open Go Tab
open Put (low jE Jk)
open CrcM (crc)
def one (b:Bool):Int:=if b then 1 else 0
def ji (k:Nat) (l:List Int):List Nat:=l.flatMap (low k)
def phB (p:Ph):List Nat:=ji 1 [one p.on]++(ji 2 [p.min,p.gap,p.max,p.top,p.step,p.yellow,p.red,p.walk,p.blinks]++ji 1 [p.J4,one p.lock,one p.rest])
def j0v (l:List Int):List Nat:=low 1 l.length++ji 1 l
def grB (y:List Int × List Int):List Nat:=j0v y.1++j0v y.2
def JE (d:Det):List Nat:=low 1 d.phase++(low 8 (d.on:Int)++(low 8 (d.off:Int)++(low 8 (d.delay:Int)++(low 8 (d.extend:Int)++ji 2 [d.maxOn,d.maxOff]))))
def rlB (r:Rl):List Nat:=ji 1 [r.bars,r.clear,r.dwell,r.exit]++(ji 2 [r.delay,r.green,r.foot,r.hold,r.stay,r.most]++ji 4 [r.limit])
def bsB (b:Bs):List Nat:=ji 1 [b.set]++ji 2 [b.lock]
def J5 {α:Type} (f:α->List Nat) (l:List α):List Nat:=low 1 l.length++l.flatMap f
def JK (T:Tab):List Nat:=T.phases.flatMap phB++(J5 grB T.groups++(ji 1 T.conflict++(J5 JE T.dets++(J5 rlB T.rails++(J5 bsB T.buses++(ji 2 [T.extend,T.budget,T.start,T.revert,T.least]++(ji 1 T.flash++ji 4 [T.window,T.share])))))))
def J0 (T:Tab):List Nat:=[88,66,1]++JK T
def jP (b:List Nat):List Nat:=b++low 2 (crc 65535 b:Nat)
theorem Jw (k:Nat):∀ l:List Int,(ji k l).length=l.length*k
 | []=>by simp [ji]
 | x :: l=>by
  show (low k x++ji k l).length=_;rw [k9,jE,Jw k l,kR,K5];omega
theorem j3E (k:Nat) (l m:List Int):ji k (l++m)=ji k l++ji k m:=by unfold ji;rw [kt]
theorem jca (k:Nat) (l:List Int):∀ x ∈ ji k l,x < 256:=fun x hx=>by
 obtain ⟨n,_,h⟩:=List.mem_flatMap.1 hx;exact Jk k n x h
theorem j8x (p:Ph):(phB p).length=22:=by simp [phB,Jw]
theorem j6O (d:Det):(JE d).length=37:=by simp [JE,Jw,jE]
theorem j8y (r:Rl):(rlB r).length=20:=by simp [rlB,Jw]
theorem j8z (b:Bs):(bsB b).length=3:=by simp [bsB,Jw]
theorem j2Q (l:List Int):(j0v l).length=1+l.length:=by simp [j0v,Jw,jE]
theorem j1f {α:Type} {f:α->List Nat} {n:Nat}:∀ l:List α,(∀ x ∈ l,(f x).length<=n)->(l.flatMap f).length<=l.length*n
 | [],_=>by simp
 | x :: l,h=>by
  rw [Kk,k9,kR,K5];have:=h x (by simp);have:=j1f l (fun y hy=>h y (by simp [hy]));omega
theorem j05 {α:Type} {f:α->List Nat} {n:Nat} (l:List α) (h:∀ x ∈ l,(f x).length<=n):(J5 f l).length<=1+l.length*n:=by
 unfold J5;rw [k9,jE];have:=j1f l h;omega
end Cd
namespace Po
open Go Go.RowKit
open Tab
open Cd (ji phB JE rlB bsB j0v grB J5)
open Put (low lim)
abbrev wrv (wb:Nat):Value:=.pointer (some ⟨wb,0,none⟩)
abbrev wif (wb:Nat):Value:=.iface 90 (wrv wb)
structure Wp (w0 V0:World) (wb tb:Nat) (c:Array Value) (l:List Nat) (k:Nat) (W:World):Prop where
 st:WR w0.heap.size wb (l,k) W
 low:Below w0.heap.size w0 W
 box:W.heap[tb]?=some (.cells c 33 (0,0))
 Ju:∀ (j:Nat) (cs:Array Value) (t:TypeId) (fr:Nat × Nat),V0.heap[j]?=some (.cells cs t fr)->¬ Pt t->W.heap[j]?=some (.cells cs t fr)
section
variable {w0 V0:World} {wb tb:Nat} {c:Array Value} {l:List Nat} {k:Nat} {W W':World}
theorem Wp.mem (h:Wp w0 V0 wb tb c l k W) (hb:Below W.heap.size W W'):Wp w0 V0 wb tb c l k W' :=
 ⟨h.st.stay (fun j cs t fr hj _=>hb.block j (k3.1 hj).1),h.low.trans (hb.mono h.low.size),(hb.block tb (k3.1 h.box).1).trans h.box,fun j cs t fr hj ht=>(hb.block j (k3.1 (h.Ju j cs t fr hj ht)).1).trans (h.Ju j cs t fr hj ht)⟩
theorem Wp.less (h:Wp w0 V0 wb tb c l k W) {k':Nat} (hk:k'<=k):Wp w0 V0 wb tb c l k' W :=
 ⟨⟨by have:=h.st.1;simp only at this |-;omega,h.st.2⟩,h.low,h.box,h.Ju⟩
theorem Wp.j0r {b o:Nat} {cs:Array Value} {t:TypeId} {fr:Nat × Nat} {l':List Value} {l2:List Nat} {k2:Nat} {e:Ending} (h:Wp w0 V0 wb tb c l k W)
  (he:Ends WP (WR w0.heap.size wb) w0.heap.size b o cs t fr (.ok (l',(l2,k2))) W e W') (hs:W.heap[b]?=some (.cells (wrt cs o l') t fr)):e=.returned (.tuple #[])/\Wp w0 V0 wb tb c l2 k2 W':=by
 obtain ⟨h1,h2,h3,h4⟩:=he
 have hk:∀ (j:Nat) (cs:Array Value) (t:TypeId) (fr:Nat × Nat),W.heap[j]?=some (.cells cs t fr)->¬ Pt t->W'.heap[j]?=some (.cells cs t fr):=fun j cs2 t2 fr2 hj ht=>by
  by_cases hb:j=b
  ·subst hb;rw [h4,<-hs];exact hj
  exact h3.Ju hj (.inr ht) hb
 exact ⟨h1,h2,h.low.trans h3.low,hk tb _ _ _ h.box (by decide),fun j cs t fr hj ht=>hk j cs t fr (h.Ju j cs t fr hj ht) ht⟩
theorem Wp.size (h:Wp w0 V0 wb tb c l k W):w0.heap.size<=W.heap.size:=h.low.size
theorem j17 {α:Type} {r:Except Flt α} {y:α} (h:r=.ok y):Fit r:=by rw [h];intro e;cases e
theorem j2R {L:List Value} {size most x:Int} {j:Nat} (h:L[j]?=some (I x)) (l:List Nat) (k:Nat):Sp.run WP L (l,k+1) (.num size most j)=.ok (L,(l++low (lim size 8) x,k)):=by
 simp only [Sp.run,h];exact congrArg (fun z=>Kh (z,(l++low (lim size 8) x,k))) (j2P h)
theorem j2a {L:List Value} {size most:Int}:∀ (ps:List (Nat × Int)) (l:List Nat) (k:Nat),(∀ p ∈ ps,L[p.1]?=some (I p.2))->runs WP (ps.map fun p=>.num size most p.1) L (l,k+ps.length)=.ok (L,(l++ji (lim size 8) (ps.map (·.2)),k))
 | [],l,k,_=>by simp [runs,ji]
 | p :: ps,l,k,h=>by
  have h1:=j2R (size:=size) (most:=most) (h p (by simp)) l (k+ps.length);have h2:=j2a (L:=L) (size:=size) (most:=most) ps (l++low (lim size 8) p.2) k (fun q hq=>h q (by simp [hq]));rw [KQ];have h3:=jc4 h1 h2;rw [show k+(p :: ps).length=k+ps.length+1 by simp;omega];rw [h3];simp [ji]
theorem j0Z (b:Bool):low 1 (Cd.one b)=[if b=true then 1 else 0]:=by cases b <;> decide +kernel
abbrev phS:List Sp:=(([]:List Sp)++([.flg 0])++(([1,2,3,4,5,6,7,8,9]:List Nat).map (.num 2 9999))++([.num 1 3 10])++([.flg 11])++([.flg 12]))
theorem j8A (p:Ph) (l:List Nat) (k:Nat):runs WP phS p.cells (l,k+13)=.ok (p.cells,(l++phB p,k)):=by
 have h:runs WP phS p.cells (l,k+13)=.ok (p.cells,(l++[if p.on=true then 1 else 0]++low 2 p.min++low 2 p.gap++low 2 p.max++low 2 p.top++low 2 p.step++low 2 p.yellow++low 2 p.red++low 2 p.walk++low 2 p.blinks++low 1 p.J4++[if p.lock=true then 1 else 0]++[if p.rest=true then 1 else 0],k)):=rfl;rw [h];refine congrArg (fun z=>Kh (p.cells,(z,k))) ?_;simp [phB,ji,j0Z]
abbrev rlS:List Sp:=(([]:List Sp)++(([0,1,2,3]:List Nat).map (.num 1 255))++(([4,5,6,7,8,9]:List Nat).map (.num 2 9999))++(([10]:List Nat).map (.num 4 2147483647)))
theorem j8B (p:Rl) (l:List Nat) (k:Nat):runs WP rlS p.cells (l,k+11)=.ok (p.cells,(l++rlB p,k)):=by
 have h:runs WP rlS p.cells (l,k+11)=.ok (p.cells,(l++low 1 p.bars++low 1 p.clear++low 1 p.dwell++low 1 p.exit++low 2 p.delay++low 2 p.green++low 2 p.foot++low 2 p.hold++low 2 p.stay++low 2 p.most++low 4 p.limit,k)):=rfl;rw [h];refine congrArg (fun z=>Kh (p.cells,(z,k))) ?_;simp [rlB,ji,j0Z]
abbrev bsS:List Sp:=(([]:List Sp)++(([0]:List Nat).map (.num 1 255))++(([1]:List Nat).map (.num 2 9999)))
theorem j8C (p:Bs) (l:List Nat) (k:Nat):runs WP bsS p.cells (l,k+2)=.ok (p.cells,(l++bsB p,k)):=by
 have h:runs WP bsS p.cells (l,k+2)=.ok (p.cells,(l++low 1 p.set++low 2 p.lock,k)):=rfl;rw [h];refine congrArg (fun z=>Kh (p.cells,(z,k))) ?_;simp [bsB,ji,j0Z]
abbrev jdI:List Sp:=(([]:List Sp)++([.num 1 7 0])++([.flt true 1])++([.flt true 2])++([.flt false 3])++([.flt false 4])++(([5,6]:List Nat).map (.num 2 9999)))
theorem j6P (p:Det) (l:List Nat) (k:Nat):runs WP jdI p.cells (l,k+7)=.ok (p.cells,(l++JE p,k)):=by
 have h:runs WP jdI p.cells (l,k+7)=.ok (p.cells,(l++low 1 p.phase++low 8 (p.on:Int)++low 8 (p.off:Int)++low 8 (p.delay:Int)++low 8 (p.extend:Int)++low 2 p.maxOn++low 2 p.maxOff,k)):=rfl;rw [h];refine congrArg (fun z=>Kh (p.cells,(z,k))) ?_;simp [JE,ji,j0Z]
theorem jdJ (h:Wp w0 V0 wb tb c l (k+13) W) (p:Ph) {o:Nat} (hs:wrt c o p.cells=c) (ho:o+p.cells.length<=c.size) :
  Calls Tryz.prog 47 #[wif wb,.pointer (some ⟨tb,o,none⟩)] W fun e W'=>e=.returned (.tuple #[])/\Wp w0 V0 wb tb c (l++phB p) k W' :=
 (j27 JJ (l:=p.cells) (cs:=c) (o:=o) (b:=tb) (t:=33) (fr:=(0,0)) (s:=(l,k+13)) rfl h.st h.size trivial (.inr (by decide)) ho (by rw [hs];exact h.box) (j17 (j8A p l k))).mono fun e W' he=>by
  rw [show runs WP phS p.cells (l,k+13)=_ from j8A p l k] at he;exact h.j0r he (by rw [hs];exact h.box)
theorem j10 (c:Array Value):wrt c 0 c.toList=c:=JV (by simp) (by intro j hj;simp)
theorem jfv (h:Wp w0 V0 wb tb c l (k+1) W) (size most:Int) {j:Nat} {x:Int} (hx:c[j]?=some (I x)) :
  Calls Tryz.prog 158 #[wrv wb,.int .i64 size,.int .i64 most,.pointer (some ⟨tb,j,none⟩)] W fun e W'=>e=.returned (.tuple #[])/\Wp w0 V0 wb tb c (l++low (lim size 8) x) k W':=by
 have hx':c.toList[j]?=some (I x):=by rw [kx];exact hx
 have hr:=j2R (size:=size) (most:=most) hx' l k;have hc:=JJ.num (l,k+1) W tb 0 c 33 (0,0) c.toList size most j x h.st h.size trivial (.inr (by decide)) (by simp) (by rw [j10];exact h.box) hx' (j17 hr);rw [kE] at hc;refine hc.mono fun e W' he=>?_;rw [hr] at he;exact h.j0r he (by rw [j10];exact h.box)
theorem jeP {n:Nat} (h:Wp w0 V0 wb tb c l (k+n) W) {lb cap:Nat} {fr2:Nat × Nat} (ps:List (Nat × Int)) (hn:ps.length=n) (hn2:n<=1000) (hx:∀ p ∈ ps,c[p.1]?=some (I p.2))
  (hlb:W.heap[lb]?=some (.cells (ps.map fun p=>qo (some ⟨tb,p.1,none⟩)).toArray 105 fr2)) (hcap:n<=cap) :
  Calls Tryz.prog 50 #[wif wb,.slice (some ⟨lb,0,none⟩) n cap] W fun e W'=>e=.returned (.tuple #[])/\Wp w0 V0 wb tb c (l++ji 1 (ps.map (·.2))) k W':=by
 subst hn;have hx':∀ p ∈ ps,c.toList[p.1]?=some (I p.2):=fun p hp=>by rw [kx];exact hx p hp
 have hr:runs WP ((ps.map (·.1)).map (.num 1 255)) c.toList (l,k+ps.length)=.ok (c.toList,(l++ji 1 (ps.map (·.2)),k)):=by rw [Kr];exact j2a ps l k hx'
 have hne:lb ≠ tb:=fun e=>by subst e;rw [h.box] at hlb;cases hlb
 refine (j2L JJ (b:=tb) (o:=0) (cs:=c) (t:=33) (fr:=(0,0)) (fr2:=fr2) (lb:=lb) (cap:=cap) (l:=c.toList) (s:=(l,k+ps.length)) (ps.map (·.1)) (kI _) hn2 h.st h.size trivial (.inr (by decide)) (by simp) (by rw [j10];exact h.box) (fun j hj=>by
  obtain ⟨p,hp,rfl⟩:=Kf.1 hj;exact ⟨p.2,hx' p hp⟩) (by rw [hlb];unfold j2w;rw [Kr];simp only [KP,kE]) hne hcap (j17 hr)).mono fun e W' he=>?_
 rw [hr] at he;exact h.j0r he (by rw [j10];exact h.box)
theorem jdK {n:Nat} (h:Wp w0 V0 wb tb c l (k+n) W) {lb cap:Nat} {fr2:Nat × Nat} (ps:List (Nat × Int)) (hn:ps.length=n) (hn2:n<=1000) (hx:∀ p ∈ ps,c[p.1]?=some (I p.2))
  (hlb:W.heap[lb]?=some (.cells (ps.map fun p=>qo (some ⟨tb,p.1,none⟩)).toArray 105 fr2)) (hcap:n<=cap) :
  Calls Tryz.prog 57 #[wif wb,.slice (some ⟨lb,0,none⟩) n cap] W fun e W'=>e=.returned (.tuple #[])/\Wp w0 V0 wb tb c (l++ji 2 (ps.map (·.2))) k W':=by
 subst hn;have hx':∀ p ∈ ps,c.toList[p.1]?=some (I p.2):=fun p hp=>by rw [kx];exact hx p hp
 have hr:runs WP ((ps.map (·.1)).map (.num 2 9999)) c.toList (l,k+ps.length)=.ok (c.toList,(l++ji 2 (ps.map (·.2)),k)):=by rw [Kr];exact j2a ps l k hx'
 have hne:lb ≠ tb:=fun e=>by subst e;rw [h.box] at hlb;cases hlb
 refine (j0L JJ (b:=tb) (o:=0) (cs:=c) (t:=33) (fr:=(0,0)) (fr2:=fr2) (lb:=lb) (cap:=cap) (l:=c.toList) (s:=(l,k+ps.length)) (ps.map (·.1)) (kI _) hn2 h.st h.size trivial (.inr (by decide)) (by simp) (by rw [j10];exact h.box) (fun j hj=>by
  obtain ⟨p,hp,rfl⟩:=Kf.1 hj;exact ⟨p.2,hx' p hp⟩) (by rw [hlb];unfold j2w;rw [Kr];simp only [KP,kE]) hne hcap (j17 hr)).mono fun e W' he=>?_
 rw [hr] at he;exact h.j0r he (by rw [j10];exact h.box)
theorem jdL {n:Nat} (h:Wp w0 V0 wb tb c l (k+n) W) {lb cap:Nat} {fr2:Nat × Nat} (ps:List (Nat × Int)) (hn:ps.length=n) (hn2:n<=1000) (hx:∀ p ∈ ps,c[p.1]?=some (I p.2))
  (hlb:W.heap[lb]?=some (.cells (ps.map fun p=>qo (some ⟨tb,p.1,none⟩)).toArray 105 fr2)) (hcap:n<=cap) :
  Calls Tryz.prog 58 #[wif wb,.slice (some ⟨lb,0,none⟩) n cap] W fun e W'=>e=.returned (.tuple #[])/\Wp w0 V0 wb tb c (l++ji 4 (ps.map (·.2))) k W':=by
 subst hn;have hx':∀ p ∈ ps,c.toList[p.1]?=some (I p.2):=fun p hp=>by rw [kx];exact hx p hp
 have hr:runs WP ((ps.map (·.1)).map (.num 4 2147483647)) c.toList (l,k+ps.length)=.ok (c.toList,(l++ji 4 (ps.map (·.2)),k)):=by rw [Kr];exact j2a ps l k hx'
 have hne:lb ≠ tb:=fun e=>by subst e;rw [h.box] at hlb;cases hlb
 refine (j3d JJ (b:=tb) (o:=0) (cs:=c) (t:=33) (fr:=(0,0)) (fr2:=fr2) (lb:=lb) (cap:=cap) (l:=c.toList) (s:=(l,k+ps.length)) (ps.map (·.1)) (kI _) hn2 h.st h.size trivial (.inr (by decide)) (by simp) (by rw [j10];exact h.box) (fun j hj=>by
  obtain ⟨p,hp,rfl⟩:=Kf.1 hj;exact ⟨p.2,hx' p hp⟩) (by rw [hlb];unfold j2w;rw [Kr];simp only [KP,kE]) hne hcap (j17 hr)).mono fun e W' he=>?_
 rw [hr] at he;exact h.j0r he (by rw [j10];exact h.box)
end
end Po
namespace Po
open Zip
open Go Go.RowKit
open Tab
open Cd (ji phB JE rlB bsB j0v grB J5)
open Put (low lim)
section
variable {w0 V0:World} {wb tb:Nat} {c:Array Value} {l:List Nat} {k:Nat} {W W':World}
theorem j1N (h:Wp w0 V0 wb tb c l (k+1) W) (size most:Int) {nb:Nat} {x:Int} (hn:W.heap[nb]?=some (.cells #[I x] 3 (0,0))) :
  Calls Tryz.prog 158 #[wrv wb,.int .i64 size,.int .i64 most,.pointer (some ⟨nb,0,none⟩)] W fun e W'=>e=.returned (.tuple #[])/\Wp w0 V0 wb tb c (l++low (lim size 8) x) k W'/\W'.heap[nb]?=some (.cells #[I x] 3 (0,0)):=by
 have hr:=j2R (L:=[I x]) (size:=size) (most:=most) (j:=0) rfl l k;have hw:wrt #[I x] 0 [I x]=#[I x]:=JV (by simp) (by intro j hj;match j,hj with | 0,_=>rfl);have hc:=JJ.num (l,k+1) W nb 0 #[I x] 3 (0,0) [I x] size most 0 x h.st h.size trivial (.inr (by decide)) (by simp) (by rw [hw];exact hn) rfl (j17 hr);refine hc.mono fun e W' he=>?_;rw [hr] at he;have hne:nb ≠ tb:=fun e=>by subst e;rw [h.box] at hn;cases hn
 obtain ⟨h1,h2⟩:=h.j0r he (by rw [hw];exact hn);exact ⟨h1,h2,by have:=he.2.2.2;rwa [hw] at this⟩
theorem wlI {F:FuncId} (en':∀ (args:Array Value) (w:World),(callFunc F args).run Tryz.prog w=.ok (.enter F args) w) {E:Nat} {gy:Nat->List Nat} {n cap cb oc:Nat} {a:Option Addr} {b o:Nat} (most:Int)
  (h:Wp w0 V0 wb tb c l (k+(1+n*E)) W) (hn:n<=1000) (HC:Hid (∀ l k V,Wp w0 V0 wb tb c l k V->V.cell? ⟨cb,oc,none⟩=some (.slice a n cap))) (HA:Hid (0 < n->a=some ⟨b,o,none⟩))
  (EF:Hid (∀ q,q < n->∀ l k V,Wp w0 V0 wb tb c l (k+E) V->Calls Tryz.prog F #[wif wb,.pointer (some ⟨b,o+q,none⟩)] V fun e V'=>e=.returned (.tuple #[])/\Wp w0 V0 wb tb c (l++gy q) k V')) :
  Calls Tryz.prog 92 #[wif wb,.int .i64 most,.pointer (some ⟨cb,oc,none⟩),.func (.func F) #[] #[]] W fun e W'=>e=.returned (.tuple #[])/\Wp w0 V0 wb tb c (l++(low 1 n++(km n).flatMap gy)) k W':=by
 have hm:=(JJ (B:=0) (wb:=wb)).mn;have en:=(JJ (B:=0) (wb:=wb)).en;have k1:=HC.out _ _ _ h;have hb1:Below W.heap.size W (W.alloc (.cells #[I (n:Int)] 3)):=(ka _ _).alloc (k5 _) _;have hc:=hJJ (j1N (k:=k+n*E) ((show Wp w0 V0 wb tb c l (k+n*E+1) W from by rw [ku,Kn (n*E)];exact h).mem hb1) 1 most (Qb W _));clear hb1 h;go_enter Tryz.func92,Tryz.ntmps92
 go_upto_region 1 with fail
 generalize Kb W _=W1 at hc |-;generalize W.heap.size=nb at hc |-;go_wp2_with fail
 refine hc.out.mono ?_;rintro e W2 ⟨rfl,h2,hn2⟩;clear k1 hc;have kn:W2.cell? ⟨nb,0,none⟩=some (I (n:Int)):=by rw [Qc _ _ _ _ _ _ hn2];rfl
 have k1:=HC.out _ _ _ h2;have H2:=hJJ h2;clear h2 hn2;go_upto_region 2 with fail
 have q1:∀ p:QB.By W2.heap.size W2,p.world.cell? ⟨nb,0,none⟩=some (I (n:Int)):=fun p=>(p.below.cell (k6 W2 _ kn)).trans kn;have q2:∀ p:QB.By W2.heap.size W2,p.world.cell? ⟨cb,oc,none⟩=some (.slice a n cap):=fun p=>(p.below.cell (k6 W2 _ k1)).trans k1;have hne:((n:Int) != (n:Int))=false:=by simp
 refine QB.J8 W2.heap.size (by kernel_rfl) (by kernel_rfl) ?_;repeat (quiet_step (fail))
 refine Qe ?_;intro _ hw';obtain ⟨p,rfl⟩:=hw';have k2:=q2 p;have HV:=hJJ (H2.out.mem p.below);clear q1 q2 kn k1 H2 hne;generalize p.world=V at k2 HV |-;go_wp2_with fail
 go_loopw [31] (fun i wr=>∃ q:Nat,q<=n/\i=.int .i64 (q:Int)/\Wp w0 V0 wb tb c (l++(low 1 n++(km q).flatMap gy)) (k+(n - q)*E) wr) (fun i _=>n - (intOf i).toNat)
 case atStart=>exact ⟨0,by omega,rfl,by have:Wp w0 V0 wb tb c (l++low 1 (n:Int)) (k+n*E) V:=HV.out;rw [Ks];simpa using this⟩
 case round =>
  obtain ⟨q,hq,rfl,hw⟩:=hrel;have HW:=hJJ hw;clear hw k2;by_cases hlt:q < n
  ·obtain rfl:=HA.out (by omega);have kc:=HC.out _ _ _ HW.out
   have hcall:=hJJ (EF.out q hlt _ (k+(n - (q+1))*E) wr (by
    have:=HW.out;rw [show n - q=n - (q+1)+1 by omega,K5,Ki,<-ku] at this;exact this))
   clear HV;go_wp2_with fail
   refine hcall.out.mono ?_;rintro e W' ⟨rfl,h3⟩;have H3:=hJJ h3;clear h3 kc;go_wp2;go_roundw;case rel=>exact ⟨q+1,by omega,by go_num,by have:=H3.out;rw [kJ,kt,kr];simpa only [k8] using this⟩
   case measure=>simp [intOf];omega
  obtain rfl:n=q:=by omega
  go_wp2
  go_end0
  exact ⟨rfl,HW.out.less (by omega)⟩
theorem wlG {F:FuncId} (en':∀ (args:Array Value) (w:World),(callFunc F args).run Tryz.prog w=.ok (.enter F args) w) {E:Nat} {gy:Nat->List Nat} {n cap cb oc:Nat} {a:Option Addr} {b o:Nat} (most:Int)
  (h:Wp w0 V0 wb tb c l (k+(1+n*E)) W) (hn:n<=1000) (HC:Hid (∀ l k V,Wp w0 V0 wb tb c l k V->V.cell? ⟨cb,oc,none⟩=some (.slice a n cap))) (HA:Hid (0 < n->a=some ⟨b,o,none⟩))
  (EF:Hid (∀ q,q < n->∀ l k V,Wp w0 V0 wb tb c l (k+E) V->Calls Tryz.prog F #[wif wb,.pointer (some ⟨b,o+q*2,none⟩)] V fun e V'=>e=.returned (.tuple #[])/\Wp w0 V0 wb tb c (l++gy q) k V')) :
  Calls Tryz.prog 48 #[wif wb,.int .i64 most,.pointer (some ⟨cb,oc,none⟩),.func (.func F) #[] #[]] W fun e W'=>e=.returned (.tuple #[])/\Wp w0 V0 wb tb c (l++(low 1 n++(km n).flatMap gy)) k W':=by
 have hm:=(JJ (B:=0) (wb:=wb)).mn;have en:=(JJ (B:=0) (wb:=wb)).en;have k1:=HC.out _ _ _ h;have hb1:Below W.heap.size W (W.alloc (.cells #[I (n:Int)] 3)):=(ka _ _).alloc (k5 _) _;have hc:=hJJ (j1N (k:=k+n*E) ((show Wp w0 V0 wb tb c l (k+n*E+1) W from by rw [ku,Kn (n*E)];exact h).mem hb1) 1 most (Qb W _));clear hb1 h;go_enter Tryz.func48,Tryz.ntmps48
 go_upto_region 1 with fail
 generalize Kb W _=W1 at hc |-;generalize W.heap.size=nb at hc |-;go_wp2_with fail
 refine hc.out.mono ?_;rintro e W2 ⟨rfl,h2,hn2⟩;clear k1 hc;have kn:W2.cell? ⟨nb,0,none⟩=some (I (n:Int)):=by rw [Qc _ _ _ _ _ _ hn2];rfl
 have k1:=HC.out _ _ _ h2;have H2:=hJJ h2;clear h2 hn2;go_upto_region 2 with fail
 have q1:∀ p:QB.By W2.heap.size W2,p.world.cell? ⟨nb,0,none⟩=some (I (n:Int)):=fun p=>(p.below.cell (k6 W2 _ kn)).trans kn;have q2:∀ p:QB.By W2.heap.size W2,p.world.cell? ⟨cb,oc,none⟩=some (.slice a n cap):=fun p=>(p.below.cell (k6 W2 _ k1)).trans k1;have hne:((n:Int) != (n:Int))=false:=by simp
 refine QB.J8 W2.heap.size (by kernel_rfl) (by kernel_rfl) ?_;repeat (quiet_step (fail))
 refine Qe ?_;intro _ hw';obtain ⟨p,rfl⟩:=hw';have k2:=q2 p;have HV:=hJJ (H2.out.mem p.below);clear q1 q2 kn k1 H2 hne;generalize p.world=V at k2 HV |-;go_wp2_with fail
 go_loopw [31] (fun i wr=>∃ q:Nat,q<=n/\i=.int .i64 (q:Int)/\Wp w0 V0 wb tb c (l++(low 1 n++(km q).flatMap gy)) (k+(n - q)*E) wr) (fun i _=>n - (intOf i).toNat)
 case atStart=>exact ⟨0,by omega,rfl,by have:Wp w0 V0 wb tb c (l++low 1 (n:Int)) (k+n*E) V:=HV.out;rw [Ks];simpa using this⟩
 case round =>
  obtain ⟨q,hq,rfl,hw⟩:=hrel;have HW:=hJJ hw;clear hw k2;by_cases hlt:q < n
  ·obtain rfl:=HA.out (by omega);have kc:=HC.out _ _ _ HW.out
   have hcall:=hJJ (EF.out q hlt _ (k+(n - (q+1))*E) wr (by
    have:=HW.out;rw [show n - q=n - (q+1)+1 by omega,K5,Ki,<-ku] at this;exact this))
   clear HV;go_wp2_with fail
   refine hcall.out.mono ?_;rintro e W' ⟨rfl,h3⟩;have H3:=hJJ h3;clear h3 kc;go_wp2;go_roundw;case rel=>exact ⟨q+1,by omega,by go_num,by have:=H3.out;rw [kJ,kt,kr];simpa only [k8] using this⟩
   case measure=>simp [intOf];omega
  obtain rfl:n=q:=by omega
  go_wp2
  go_end0
  exact ⟨rfl,HW.out.less (by omega)⟩
theorem wlD {F:FuncId} (en':∀ (args:Array Value) (w:World),(callFunc F args).run Tryz.prog w=.ok (.enter F args) w) {E:Nat} {gy:Nat->List Nat} {n cap cb oc:Nat} {a:Option Addr} {b o:Nat} (most:Int)
  (h:Wp w0 V0 wb tb c l (k+(1+n*E)) W) (hn:n<=1000) (HC:Hid (∀ l k V,Wp w0 V0 wb tb c l k V->V.cell? ⟨cb,oc,none⟩=some (.slice a n cap))) (HA:Hid (0 < n->a=some ⟨b,o,none⟩))
  (EF:Hid (∀ q,q < n->∀ l k V,Wp w0 V0 wb tb c l (k+E) V->Calls Tryz.prog F #[wif wb,.pointer (some ⟨b,o+q*7,none⟩)] V fun e V'=>e=.returned (.tuple #[])/\Wp w0 V0 wb tb c (l++gy q) k V')) :
  Calls Tryz.prog 51 #[wif wb,.int .i64 most,.pointer (some ⟨cb,oc,none⟩),.func (.func F) #[] #[]] W fun e W'=>e=.returned (.tuple #[])/\Wp w0 V0 wb tb c (l++(low 1 n++(km n).flatMap gy)) k W':=by
 have hm:=(JJ (B:=0) (wb:=wb)).mn;have en:=(JJ (B:=0) (wb:=wb)).en;have k1:=HC.out _ _ _ h;have hb1:Below W.heap.size W (W.alloc (.cells #[I (n:Int)] 3)):=(ka _ _).alloc (k5 _) _;have hc:=hJJ (j1N (k:=k+n*E) ((show Wp w0 V0 wb tb c l (k+n*E+1) W from by rw [ku,Kn (n*E)];exact h).mem hb1) 1 most (Qb W _));clear hb1 h;go_enter Tryz.func51,Tryz.ntmps51
 go_upto_region 1 with fail
 generalize Kb W _=W1 at hc |-;generalize W.heap.size=nb at hc |-;go_wp2_with fail
 refine hc.out.mono ?_;rintro e W2 ⟨rfl,h2,hn2⟩;clear k1 hc;have kn:W2.cell? ⟨nb,0,none⟩=some (I (n:Int)):=by rw [Qc _ _ _ _ _ _ hn2];rfl
 have k1:=HC.out _ _ _ h2;have H2:=hJJ h2;clear h2 hn2;go_upto_region 2 with fail
 have q1:∀ p:QB.By W2.heap.size W2,p.world.cell? ⟨nb,0,none⟩=some (I (n:Int)):=fun p=>(p.below.cell (k6 W2 _ kn)).trans kn;have q2:∀ p:QB.By W2.heap.size W2,p.world.cell? ⟨cb,oc,none⟩=some (.slice a n cap):=fun p=>(p.below.cell (k6 W2 _ k1)).trans k1;have hne:((n:Int) != (n:Int))=false:=by simp
 refine QB.J8 W2.heap.size (by kernel_rfl) (by kernel_rfl) ?_;repeat (quiet_step (fail))
 refine Qe ?_;intro _ hw';obtain ⟨p,rfl⟩:=hw';have k2:=q2 p;have HV:=hJJ (H2.out.mem p.below);clear q1 q2 kn k1 H2 hne;generalize p.world=V at k2 HV |-;go_wp2_with fail
 go_loopw [31] (fun i wr=>∃ q:Nat,q<=n/\i=.int .i64 (q:Int)/\Wp w0 V0 wb tb c (l++(low 1 n++(km q).flatMap gy)) (k+(n - q)*E) wr) (fun i _=>n - (intOf i).toNat)
 case atStart=>exact ⟨0,by omega,rfl,by have:Wp w0 V0 wb tb c (l++low 1 (n:Int)) (k+n*E) V:=HV.out;rw [Ks];simpa using this⟩
 case round =>
  obtain ⟨q,hq,rfl,hw⟩:=hrel;have HW:=hJJ hw;clear hw k2;by_cases hlt:q < n
  ·obtain rfl:=HA.out (by omega);have kc:=HC.out _ _ _ HW.out
   have hcall:=hJJ (EF.out q hlt _ (k+(n - (q+1))*E) wr (by
    have:=HW.out;rw [show n - q=n - (q+1)+1 by omega,K5,Ki,<-ku] at this;exact this))
   clear HV;go_wp2_with fail
   refine hcall.out.mono ?_;rintro e W' ⟨rfl,h3⟩;have H3:=hJJ h3;clear h3 kc;go_wp2;go_roundw;case rel=>exact ⟨q+1,by omega,by go_num,by have:=H3.out;rw [kJ,kt,kr];simpa only [k8] using this⟩
   case measure=>simp [intOf];omega
  obtain rfl:n=q:=by omega
  go_wp2
  go_end0
  exact ⟨rfl,HW.out.less (by omega)⟩
theorem wlR {F:FuncId} (en':∀ (args:Array Value) (w:World),(callFunc F args).run Tryz.prog w=.ok (.enter F args) w) {E:Nat} {gy:Nat->List Nat} {n cap cb oc:Nat} {a:Option Addr} {b o:Nat} (most:Int)
  (h:Wp w0 V0 wb tb c l (k+(1+n*E)) W) (hn:n<=1000) (HC:Hid (∀ l k V,Wp w0 V0 wb tb c l k V->V.cell? ⟨cb,oc,none⟩=some (.slice a n cap))) (HA:Hid (0 < n->a=some ⟨b,o,none⟩))
  (EF:Hid (∀ q,q < n->∀ l k V,Wp w0 V0 wb tb c l (k+E) V->Calls Tryz.prog F #[wif wb,.pointer (some ⟨b,o+q*11,none⟩)] V fun e V'=>e=.returned (.tuple #[])/\Wp w0 V0 wb tb c (l++gy q) k V')) :
  Calls Tryz.prog 53 #[wif wb,.int .i64 most,.pointer (some ⟨cb,oc,none⟩),.func (.func F) #[] #[]] W fun e W'=>e=.returned (.tuple #[])/\Wp w0 V0 wb tb c (l++(low 1 n++(km n).flatMap gy)) k W':=by
 have hm:=(JJ (B:=0) (wb:=wb)).mn;have en:=(JJ (B:=0) (wb:=wb)).en;have k1:=HC.out _ _ _ h;have hb1:Below W.heap.size W (W.alloc (.cells #[I (n:Int)] 3)):=(ka _ _).alloc (k5 _) _;have hc:=hJJ (j1N (k:=k+n*E) ((show Wp w0 V0 wb tb c l (k+n*E+1) W from by rw [ku,Kn (n*E)];exact h).mem hb1) 1 most (Qb W _));clear hb1 h;go_enter Tryz.func53,Tryz.ntmps53
 go_upto_region 1 with fail
 generalize Kb W _=W1 at hc |-;generalize W.heap.size=nb at hc |-;go_wp2_with fail
 refine hc.out.mono ?_;rintro e W2 ⟨rfl,h2,hn2⟩;clear k1 hc;have kn:W2.cell? ⟨nb,0,none⟩=some (I (n:Int)):=by rw [Qc _ _ _ _ _ _ hn2];rfl
 have k1:=HC.out _ _ _ h2;have H2:=hJJ h2;clear h2 hn2;go_upto_region 2 with fail
 have q1:∀ p:QB.By W2.heap.size W2,p.world.cell? ⟨nb,0,none⟩=some (I (n:Int)):=fun p=>(p.below.cell (k6 W2 _ kn)).trans kn;have q2:∀ p:QB.By W2.heap.size W2,p.world.cell? ⟨cb,oc,none⟩=some (.slice a n cap):=fun p=>(p.below.cell (k6 W2 _ k1)).trans k1;have hne:((n:Int) != (n:Int))=false:=by simp
 refine QB.J8 W2.heap.size (by kernel_rfl) (by kernel_rfl) ?_;repeat (quiet_step (fail))
 refine Qe ?_;intro _ hw';obtain ⟨p,rfl⟩:=hw';have k2:=q2 p;have HV:=hJJ (H2.out.mem p.below);clear q1 q2 kn k1 H2 hne;generalize p.world=V at k2 HV |-;go_wp2_with fail
 go_loopw [31] (fun i wr=>∃ q:Nat,q<=n/\i=.int .i64 (q:Int)/\Wp w0 V0 wb tb c (l++(low 1 n++(km q).flatMap gy)) (k+(n - q)*E) wr) (fun i _=>n - (intOf i).toNat)
 case atStart=>exact ⟨0,by omega,rfl,by have:Wp w0 V0 wb tb c (l++low 1 (n:Int)) (k+n*E) V:=HV.out;rw [Ks];simpa using this⟩
 case round =>
  obtain ⟨q,hq,rfl,hw⟩:=hrel;have HW:=hJJ hw;clear hw k2;by_cases hlt:q < n
  ·obtain rfl:=HA.out (by omega);have kc:=HC.out _ _ _ HW.out
   have hcall:=hJJ (EF.out q hlt _ (k+(n - (q+1))*E) wr (by
    have:=HW.out;rw [show n - q=n - (q+1)+1 by omega,K5,Ki,<-ku] at this;exact this))
   clear HV;go_wp2_with fail
   refine hcall.out.mono ?_;rintro e W' ⟨rfl,h3⟩;have H3:=hJJ h3;clear h3 kc;go_wp2;go_roundw;case rel=>exact ⟨q+1,by omega,by go_num,by have:=H3.out;rw [kJ,kt,kr];simpa only [k8] using this⟩
   case measure=>simp [intOf];omega
  obtain rfl:n=q:=by omega
  go_wp2
  go_end0
  exact ⟨rfl,HW.out.less (by omega)⟩
theorem wlS {F:FuncId} (en':∀ (args:Array Value) (w:World),(callFunc F args).run Tryz.prog w=.ok (.enter F args) w) {E:Nat} {gy:Nat->List Nat} {n cap cb oc:Nat} {a:Option Addr} {b o:Nat} (most:Int)
  (h:Wp w0 V0 wb tb c l (k+(1+n*E)) W) (hn:n<=1000) (HC:Hid (∀ l k V,Wp w0 V0 wb tb c l k V->V.cell? ⟨cb,oc,none⟩=some (.slice a n cap))) (HA:Hid (0 < n->a=some ⟨b,o,none⟩))
  (EF:Hid (∀ q,q < n->∀ l k V,Wp w0 V0 wb tb c l (k+E) V->Calls Tryz.prog F #[wif wb,.pointer (some ⟨b,o+q*2,none⟩)] V fun e V'=>e=.returned (.tuple #[])/\Wp w0 V0 wb tb c (l++gy q) k V')) :
  Calls Tryz.prog 55 #[wif wb,.int .i64 most,.pointer (some ⟨cb,oc,none⟩),.func (.func F) #[] #[]] W fun e W'=>e=.returned (.tuple #[])/\Wp w0 V0 wb tb c (l++(low 1 n++(km n).flatMap gy)) k W':=by
 have hm:=(JJ (B:=0) (wb:=wb)).mn;have en:=(JJ (B:=0) (wb:=wb)).en;have k1:=HC.out _ _ _ h;have hb1:Below W.heap.size W (W.alloc (.cells #[I (n:Int)] 3)):=(ka _ _).alloc (k5 _) _;have hc:=hJJ (j1N (k:=k+n*E) ((show Wp w0 V0 wb tb c l (k+n*E+1) W from by rw [ku,Kn (n*E)];exact h).mem hb1) 1 most (Qb W _));clear hb1 h;go_enter Tryz.func55,Tryz.ntmps55
 go_upto_region 1 with fail
 generalize Kb W _=W1 at hc |-;generalize W.heap.size=nb at hc |-;go_wp2_with fail
 refine hc.out.mono ?_;rintro e W2 ⟨rfl,h2,hn2⟩;clear k1 hc;have kn:W2.cell? ⟨nb,0,none⟩=some (I (n:Int)):=by rw [Qc _ _ _ _ _ _ hn2];rfl
 have k1:=HC.out _ _ _ h2;have H2:=hJJ h2;clear h2 hn2;go_upto_region 2 with fail
 have q1:∀ p:QB.By W2.heap.size W2,p.world.cell? ⟨nb,0,none⟩=some (I (n:Int)):=fun p=>(p.below.cell (k6 W2 _ kn)).trans kn;have q2:∀ p:QB.By W2.heap.size W2,p.world.cell? ⟨cb,oc,none⟩=some (.slice a n cap):=fun p=>(p.below.cell (k6 W2 _ k1)).trans k1;have hne:((n:Int) != (n:Int))=false:=by simp
 refine QB.J8 W2.heap.size (by kernel_rfl) (by kernel_rfl) ?_;repeat (quiet_step (fail))
 refine Qe ?_;intro _ hw';obtain ⟨p,rfl⟩:=hw';have k2:=q2 p;have HV:=hJJ (H2.out.mem p.below);clear q1 q2 kn k1 H2 hne;generalize p.world=V at k2 HV |-;go_wp2_with fail
 go_loopw [31] (fun i wr=>∃ q:Nat,q<=n/\i=.int .i64 (q:Int)/\Wp w0 V0 wb tb c (l++(low 1 n++(km q).flatMap gy)) (k+(n - q)*E) wr) (fun i _=>n - (intOf i).toNat)
 case atStart=>exact ⟨0,by omega,rfl,by have:Wp w0 V0 wb tb c (l++low 1 (n:Int)) (k+n*E) V:=HV.out;rw [Ks];simpa using this⟩
 case round =>
  obtain ⟨q,hq,rfl,hw⟩:=hrel;have HW:=hJJ hw;clear hw k2;by_cases hlt:q < n
  ·obtain rfl:=HA.out (by omega);have kc:=HC.out _ _ _ HW.out
   have hcall:=hJJ (EF.out q hlt _ (k+(n - (q+1))*E) wr (by
    have:=HW.out;rw [show n - q=n - (q+1)+1 by omega,K5,Ki,<-ku] at this;exact this))
   clear HV;go_wp2_with fail
   refine hcall.out.mono ?_;rintro e W' ⟨rfl,h3⟩;have H3:=hJJ h3;clear h3 kc;go_wp2;go_roundw;case rel=>exact ⟨q+1,by omega,by go_num,by have:=H3.out;rw [kJ,kt,kr];simpa only [k8] using this⟩
   case measure=>simp [intOf];omega
  obtain rfl:n=q:=by omega
  go_wp2
  go_end0
  exact ⟨rfl,HW.out.less (by omega)⟩
end
end Po
namespace Po
open Zip
open Go Go.RowKit
open Tab
open Cd (ji phB JE rlB bsB j0v grB J5)
open Put (low lim)
section
variable {w0 V0:World} {wb tb:Nat} {c:Array Value} {l:List Nat} {k:Nat} {W W':World}
theorem j0O {w:World} {y:Addr} {xs:List Value} (h:jl w y xs) (hl:0 < xs.length) :
  ∃ (cs:Array Value) (t:TypeId) (fr:Nat × Nat),y.spot=none/\w.heap[y.block]?=some (.cells cs t fr)/\y.off+xs.length<=cs.size/\wrt cs y.off xs=cs:=by
 obtain ⟨b,o,sp⟩:=y;obtain ⟨u0,hu0⟩:∃ u,xs[0]?=some u:=⟨_,k4 hl⟩;have h0:=h 0 u0 hu0;rw [add_zero] at h0;unfold World.cell? at h0;split at h0
 case h_2=>cases h0
 rename_i cs t fr hb;split at h0
 ·cases h0
 rename_i hsp;obtain rfl:sp=none:=by cases sp <;> simp_all
 have hc:∀ j u,xs[j]?=some u->cs[o+j]?=some u:=fun j u hu=>by
  have:=h j u hu;rw [show (⟨b,o,none⟩:Addr).add j=⟨b,o+j,none⟩ by unfold KV;split <;> simp_all] at this
  rwa [Qc _ _ _ _ _ _ hb] at this
 have hsz:o+xs.length<=cs.size:=by
  obtain ⟨m,hm⟩:∃ m,xs.length=m+1:=⟨xs.length - 1,by omega⟩;obtain ⟨u,hu⟩:∃ u,xs[m]?=some u:=⟨_,k4 (by omega)⟩;have:=(k3.1 (hc m u hu)).1;omega
 exact ⟨cs,t,fr,rfl,hb,hsz,JV hsz (fun j hj=>by
  obtain ⟨u,hu⟩:∃ u,xs[j]?=some u:=⟨_,k4 hj⟩;rw [hc j u hu,hu])⟩
theorem j0G {w:World} {y:Addr} {xs:List Value} (h:jl w y xs) (hl:0 < xs.length):y=⟨y.block,y.off,none⟩:=by
 obtain ⟨_,_,_,h1,_⟩:=j0O h hl;cases y;simp_all
theorem Jg (b o n:Nat):(⟨b,o,none⟩:Addr).add n=⟨b,o+n,none⟩:=by unfold KV;split <;> simp_all
theorem J1 {α:Type} (g:α->List Nat) (d:α):∀ xs:List α,(km xs.length).flatMap (fun q=>g (xs.getD q d))=xs.flatMap g:=fun xs=>by
 have:(km xs.length).map (fun q=>xs.getD q d)=xs:=by
  apply KN;intro i;rw [kF];by_cases hi:i < xs.length
  ·rw [List.getElem?_range hi,k4 hi];simp [Kj,k4 hi]
  rw [q5 (by simpa using hi),q5 (by omega)];rfl
 conv=>rhs;rw [<-this]
 rw [qK]
theorem jfw (h:Wp w0 V0 wb tb c l (k+7) W) (htb:w0.heap.size<=tb) {b o:Nat} {p:Det} (hl:jl w0 ⟨b,o,none⟩ p.cells) :
  Calls Tryz.prog 52 #[wif wb,.pointer (some ⟨b,o,none⟩)] W fun e W'=>e=.returned (.tuple #[])/\Wp w0 V0 wb tb c (l++JE p) k W':=by
 obtain ⟨cs,t,fr,_,hb,hsz,hw⟩:=j0O hl (by show 0 < 7;omega);have hlt:=(k3.1 hb).1;refine (j0c JJ (l:=p.cells) (cs:=cs) (o:=o) (b:=b) (t:=t) (fr:=fr) (s:=(l,k+7)) rfl h.st h.size trivial (.inl hlt) hsz (by rw [hw,h.low.block b hlt];exact hb) (j17 (j6P p l k))).mono fun e W' he=>?_;rw [show runs WP jdI p.cells (l,k+7)=_ from j6P p l k] at he;exact h.j0r he (by rw [hw,h.low.block b hlt];exact hb)
theorem jeQ (h:Wp w0 V0 wb tb c l (k+11) W) (htb:w0.heap.size<=tb) {b o:Nat} {p:Rl} (hl:jl w0 ⟨b,o,none⟩ p.cells) :
  Calls Tryz.prog 54 #[wif wb,.pointer (some ⟨b,o,none⟩)] W fun e W'=>e=.returned (.tuple #[])/\Wp w0 V0 wb tb c (l++rlB p) k W':=by
 obtain ⟨cs,t,fr,_,hb,hsz,hw⟩:=j0O hl (by show 0 < 11;omega);have hlt:=(k3.1 hb).1;refine (j2M JJ (l:=p.cells) (cs:=cs) (o:=o) (b:=b) (t:=t) (fr:=fr) (s:=(l,k+11)) rfl h.st h.size trivial (.inl hlt) hsz (by rw [hw,h.low.block b hlt];exact hb) (j17 (j8B p l k))).mono fun e W' he=>?_;rw [show runs WP rlS p.cells (l,k+11)=_ from j8B p l k] at he;exact h.j0r he (by rw [hw,h.low.block b hlt];exact hb)
theorem jfx (h:Wp w0 V0 wb tb c l (k+2) W) (htb:w0.heap.size<=tb) {b o:Nat} {p:Bs} (hl:jl w0 ⟨b,o,none⟩ p.cells) :
  Calls Tryz.prog 56 #[wif wb,.pointer (some ⟨b,o,none⟩)] W fun e W'=>e=.returned (.tuple #[])/\Wp w0 V0 wb tb c (l++bsB p) k W':=by
 obtain ⟨cs,t,fr,_,hb,hsz,hw⟩:=j0O hl (by show 0 < 2;omega);have hlt:=(k3.1 hb).1;refine (j8s JJ (l:=p.cells) (cs:=cs) (o:=o) (b:=b) (t:=t) (fr:=fr) (s:=(l,k+2)) rfl h.st h.size trivial (.inl hlt) hsz (by rw [hw,h.low.block b hlt];exact hb) (j17 (j8C p l k))).mono fun e W' he=>?_;rw [show runs WP bsS p.cells (l,k+2)=_ from j8C p l k] at he;exact h.j0r he (by rw [hw,h.low.block b hlt];exact hb)
theorem jdM (h:Wp w0 V0 wb tb c l (k+1) W) (htb:w0.heap.size<=tb) {b o:Nat} {x:Int} (hl:jl w0 ⟨b,o,none⟩ [I x]) :
  Calls Tryz.prog 93 #[wif wb,.pointer (some ⟨b,o,none⟩)] W fun e W'=>e=.returned (.tuple #[])/\Wp w0 V0 wb tb c (l++low 1 x) k W':=by
 obtain ⟨cs,t,fr,_,hb,hsz,hw⟩:=j0O hl (by simp);have hlt:=(k3.1 hb).1;have hr:=j2R (L:=[I x]) (size:=1) (most:=7) (j:=0) rfl l k;have:=j0K JJ (l:=[I x]) (cs:=cs) (o:=o) (b:=b) (j:=0) (t:=t) (fr:=fr) (s:=(l,k+1)) h.st h.size trivial (.inl hlt) hsz (by rw [hw,h.low.block b hlt];exact hb) rfl (j17 hr);refine this.mono fun e W' he=>?_;rw [hr] at he;exact h.j0r he (by rw [hw,h.low.block b hlt];exact hb)
theorem jeR {s:Sl} {xs:List Det} {n cb oc:Nat} (most:Int) (hn:xs.length=n) (h:Wp w0 V0 wb tb c l (k+(1+n*7)) W) (htb:w0.heap.size<=tb) (hr:ju 7 Det.cells w0 s xs) (hx:n<=1000)
  (HC:Hid (∀ l k V,Wp w0 V0 wb tb c l k V->V.cell? ⟨cb,oc,none⟩=some (.slice s.a n s.cap))) :
  Calls Tryz.prog 51 #[wif wb,.int .i64 most,.pointer (some ⟨cb,oc,none⟩),.func (.func 52) #[] #[]] W fun e W'=>e=.returned (.tuple #[])/\Wp w0 V0 wb tb c (l++J5 JE xs) k W':=by
 subst hn
 obtain ⟨b,o,hbo⟩:∃ b o,0 < xs.length->s.a=some ⟨b,o,none⟩:=by
  by_cases h0:0 < xs.length
  ·obtain ⟨x,hx,hl⟩:=hr.at (k4 h0);rw [kZ,add_zero] at hl;exact ⟨x.block,x.off,fun _=>by rw [hx,<-j0G hl (by simp [Det.cells])]⟩
  exact ⟨0,0,fun h1=>absurd h1 h0⟩
 have:=wlD (F:=52) (fun _ _=>rfl) (E:=7) (gy:=fun q=>JE (xs.getD q default)) (n:=xs.length) (cap:=s.cap) (cb:=cb) (oc:=oc) (a:=s.a) (b:=b) (o:=o) most h hx HC (hJJ hbo) (hJJ (fun q hq l k V hV=>by
  obtain ⟨x,hx,hl⟩:=hr.at (k4 hq);rw [hbo (by omega)] at hx;obtain rfl:=kz hx;rw [Jg] at hl;rw [show xs.getD q default=xs[q] by simp [Kj,k4 hq]];exact jfw hV htb (by first | exact hl | simpa using hl)))
 refine this.mono fun e W' he=>?_;rw [J1 JE default xs] at he;exact he
theorem jdN {s:Sl} {xs:List Rl} {n cb oc:Nat} (most:Int) (hn:xs.length=n) (h:Wp w0 V0 wb tb c l (k+(1+n*11)) W) (htb:w0.heap.size<=tb) (hr:ju 11 Rl.cells w0 s xs) (hx:n<=1000)
  (HC:Hid (∀ l k V,Wp w0 V0 wb tb c l k V->V.cell? ⟨cb,oc,none⟩=some (.slice s.a n s.cap))) :
  Calls Tryz.prog 53 #[wif wb,.int .i64 most,.pointer (some ⟨cb,oc,none⟩),.func (.func 54) #[] #[]] W fun e W'=>e=.returned (.tuple #[])/\Wp w0 V0 wb tb c (l++J5 rlB xs) k W':=by
 subst hn
 obtain ⟨b,o,hbo⟩:∃ b o,0 < xs.length->s.a=some ⟨b,o,none⟩:=by
  by_cases h0:0 < xs.length
  ·obtain ⟨x,hx,hl⟩:=hr.at (k4 h0);rw [kZ,add_zero] at hl;exact ⟨x.block,x.off,fun _=>by rw [hx,<-j0G hl (by simp [Rl.cells])]⟩
  exact ⟨0,0,fun h1=>absurd h1 h0⟩
 have:=wlR (F:=54) (fun _ _=>rfl) (E:=11) (gy:=fun q=>rlB (xs.getD q default)) (n:=xs.length) (cap:=s.cap) (cb:=cb) (oc:=oc) (a:=s.a) (b:=b) (o:=o) most h hx HC (hJJ hbo) (hJJ (fun q hq l k V hV=>by
  obtain ⟨x,hx,hl⟩:=hr.at (k4 hq);rw [hbo (by omega)] at hx;obtain rfl:=kz hx;rw [Jg] at hl;rw [show xs.getD q default=xs[q] by simp [Kj,k4 hq]];exact jeQ hV htb (by first | exact hl | simpa using hl)))
 refine this.mono fun e W' he=>?_;rw [J1 rlB default xs] at he;exact he
theorem jdO {s:Sl} {xs:List Bs} {n cb oc:Nat} (most:Int) (hn:xs.length=n) (h:Wp w0 V0 wb tb c l (k+(1+n*2)) W) (htb:w0.heap.size<=tb) (hr:ju 2 Bs.cells w0 s xs) (hx:n<=1000)
  (HC:Hid (∀ l k V,Wp w0 V0 wb tb c l k V->V.cell? ⟨cb,oc,none⟩=some (.slice s.a n s.cap))) :
  Calls Tryz.prog 55 #[wif wb,.int .i64 most,.pointer (some ⟨cb,oc,none⟩),.func (.func 56) #[] #[]] W fun e W'=>e=.returned (.tuple #[])/\Wp w0 V0 wb tb c (l++J5 bsB xs) k W':=by
 subst hn
 obtain ⟨b,o,hbo⟩:∃ b o,0 < xs.length->s.a=some ⟨b,o,none⟩:=by
  by_cases h0:0 < xs.length
  ·obtain ⟨x,hx,hl⟩:=hr.at (k4 h0);rw [kZ,add_zero] at hl;exact ⟨x.block,x.off,fun _=>by rw [hx,<-j0G hl (by simp [Bs.cells])]⟩
  exact ⟨0,0,fun h1=>absurd h1 h0⟩
 have:=wlS (F:=56) (fun _ _=>rfl) (E:=2) (gy:=fun q=>bsB (xs.getD q default)) (n:=xs.length) (cap:=s.cap) (cb:=cb) (oc:=oc) (a:=s.a) (b:=b) (o:=o) most h hx HC (hJJ hbo) (hJJ (fun q hq l k V hV=>by
  obtain ⟨x,hx,hl⟩:=hr.at (k4 hq);rw [hbo (by omega)] at hx;obtain rfl:=kz hx;rw [Jg] at hl;rw [show xs.getD q default=xs[q] by simp [Kj,k4 hq]];exact jfx hV htb (by first | exact hl | simpa using hl)))
 refine this.mono fun e W' he=>?_;rw [J1 bsB default xs] at he;exact he
theorem jdr {s:Sl} {xs:List Int} {n cb oc:Nat} (most:Int) (hn:xs.length=n) (h:Wp w0 V0 wb tb c l (k+(1+n*1)) W) (htb:w0.heap.size<=tb) (hr:ju 1 (fun n=>[I n]) w0 s xs) (hx:n<=1000)
  (HC:Hid (∀ l k V,Wp w0 V0 wb tb c l k V->V.cell? ⟨cb,oc,none⟩=some (.slice s.a n s.cap))) :
  Calls Tryz.prog 92 #[wif wb,.int .i64 most,.pointer (some ⟨cb,oc,none⟩),.func (.func 93) #[] #[]] W fun e W'=>e=.returned (.tuple #[])/\Wp w0 V0 wb tb c (l++j0v xs) k W':=by
 subst hn
 obtain ⟨b,o,hbo⟩:∃ b o,0 < xs.length->s.a=some ⟨b,o,none⟩:=by
  by_cases h0:0 < xs.length
  ·obtain ⟨x,hx,hl⟩:=hr.at (k4 h0);rw [kZ,add_zero] at hl;exact ⟨x.block,x.off,fun _=>by rw [hx,<-j0G hl (by simp [Kt])]⟩
  exact ⟨0,0,fun h1=>absurd h1 h0⟩
 have:=wlI (F:=93) (fun _ _=>rfl) (E:=1) (gy:=fun q=>(low 1) (xs.getD q 0)) (n:=xs.length) (cap:=s.cap) (cb:=cb) (oc:=oc) (a:=s.a) (b:=b) (o:=o) most h hx HC (hJJ hbo) (hJJ (fun q hq l k V hV=>by
  obtain ⟨x,hx,hl⟩:=hr.at (k4 hq);rw [hbo (by omega)] at hx;obtain rfl:=kz hx;rw [Jg] at hl;rw [show xs.getD q 0=xs[q] by simp [Kj,k4 hq]];exact jdM hV htb (by first | exact hl | simpa using hl)))
 refine this.mono fun e W' he=>?_;rw [J1 (low 1) 0 xs] at he;exact he
end
end Po
namespace Po
open Zip
open Go Go.RowKit
open Tab
open Cd (ji phB JE rlB bsB j0v grB J5)
open Put (low lim)
section
variable {w0 V0:World} {wb tb:Nat} {c:Array Value} {l:List Nat} {k:Nat} {W W':World}
def zGr:Gr:=⟨[],[],⟨none,0⟩,⟨none,0⟩⟩
def j41 (g:Gr) (q:Nat):List Int:=if q=0 then g.r0 else g.r1
theorem jdP (h:Wp w0 V0 wb tb c l (k+18) W) (htb:w0.heap.size<=tb) {b o:Nat} {g:Gr} (hl:jl w0 ⟨b,o,none⟩ g.cells) (hok:g.ok w0) (h0:g.r0.length<=8) (h1:g.r1.length<=8) :
  Calls Tryz.prog 49 #[wif wb,.pointer (some ⟨b,o,none⟩)] W fun e W'=>e=.returned (.tuple #[])/\Wp w0 V0 wb tb c (l++grB g.data) k W':=by
 have RC:Hid (∀ q:Nat,q < 2->∀ l k V,Wp w0 V0 wb tb c l (k+9) V->Calls Tryz.prog 92 #[wif wb,.int .i64 8,.pointer (some ⟨b,o+q,none⟩),.func (.func 93) #[] #[]] V fun e V'=>e=.returned (.tuple #[])/\Wp w0 V0 wb tb c (l++j0v (j41 g q)) k V'):=hJJ (fun q hq l k V hV=>by
  have hcell:∀ (s:Sl) (n:Nat),g.cells[q]?=some (s.val n)->∀ l k V,Wp w0 V0 wb tb c l k V->V.cell? ⟨b,o+q,none⟩=some (.slice s.a n s.cap):=fun s n hs l k V hV=>by
   have hc:=hl q _ hs;rw [Jg] at hc;exact (hV.low.cell (k6 w0 _ hc)).trans hc
  rcases (show q=0\/q=1 by omega) with rfl | rfl
  ·have:=jdr 8 rfl (hV.less (k':=k+(1+g.r0.length*1)) (by omega)) htb hok.1 (by omega) (hJJ (hcell g.s0 g.r0.length rfl));exact this
  have:=jdr 8 rfl (hV.less (k':=k+(1+g.r1.length*1)) (by omega)) htb hok.2 (by omega) (hJJ (hcell g.s1 g.r1.length rfl));exact this)
 have H:=hJJ h;clear h hl hok h0 h1;go_enter Tryz.func49,Tryz.ntmps49
 go_wp2_with fail
 go_loopw [5] (fun i wr=>∃ q:Nat,q<=2/\i=.int .i64 (q:Int)/\Wp w0 V0 wb tb c (l++(km q).flatMap (fun q=>j0v (j41 g q))) (k+(2 - q)*9) wr) (fun i _=>2 - (intOf i).toNat)
 case atStart=>exact ⟨0,by omega,rfl,by have:=H.out;simpa using this⟩
 case round =>
  obtain ⟨q,hq,rfl,hw⟩:=hrel;have HW:=hJJ hw;clear hw H;by_cases hlt:q < 2
  ·have hcall:=hJJ (RC.out q hlt _ (k+(2 - (q+1))*9) wr (by
    have:=HW.out;rw [show 2 - q=2 - (q+1)+1 by omega,K5,Ki,<-ku] at this;exact this))
   go_wp2_with fail
   refine hcall.out.mono ?_;rintro e W' ⟨rfl,h3⟩;have H3:=hJJ h3;clear h3;go_wp2;go_roundw;case rel=>exact ⟨q+1,by omega,by go_num,by have:=H3.out;rw [kJ,kt,kr];simpa only [k8] using this⟩
   case measure=>simp [intOf];omega
  obtain rfl:q=2:=by omega
  go_wp2
  go_end0
  exact ⟨rfl,by have:=HW.out.less (k':=k) (by omega);rw [show (km 2).flatMap (fun q=>j0v (j41 g q))=grB g.data from by simp [show km 2=[0,1] from rfl,grB,j41,Gr.data]] at this;exact this⟩
theorem jcb {s:Sl} {gs:List Gr} {n cb oc:Nat} (most:Int) (hn:gs.length=n) (h:Wp w0 V0 wb tb c l (k+(1+n*18)) W) (htb:w0.heap.size<=tb) (hr:j0g w0 s gs) (h8:∀ g ∈ gs,g.r0.length<=8/\g.r1.length<=8) (hx:n<=1000)
  (HC:Hid (∀ l k V,Wp w0 V0 wb tb c l k V->V.cell? ⟨cb,oc,none⟩=some (.slice s.a n s.cap))) :
  Calls Tryz.prog 48 #[wif wb,.int .i64 most,.pointer (some ⟨cb,oc,none⟩),.func (.func 49) #[] #[]] W fun e W'=>e=.returned (.tuple #[])/\Wp w0 V0 wb tb c (l++J5 grB (gs.map Gr.data)) k W':=by
 subst hn
 obtain ⟨b,o,hbo⟩:∃ b o,0 < gs.length->s.a=some ⟨b,o,none⟩:=by
  by_cases h0:0 < gs.length
  ·obtain ⟨x,hx,hl⟩:=hr.1.at (k4 h0);rw [kZ,add_zero] at hl;exact ⟨x.block,x.off,fun _=>by rw [hx,<-j0G hl (by simp [Gr.cells])]⟩
  exact ⟨0,0,fun h1=>absurd h1 h0⟩
 have:=wlG (F:=49) (fun _ _=>rfl) (E:=18) (gy:=fun q=>grB (gs.getD q zGr).data) (n:=gs.length) (cap:=s.cap) (cb:=cb) (oc:=oc) (a:=s.a) (b:=b) (o:=o) most h hx HC (hJJ hbo) (hJJ (fun q hq l k V hV=>by
  obtain ⟨x,hx,hl⟩:=hr.1.at (k4 hq);rw [hbo (by omega)] at hx;obtain rfl:=kz hx;rw [Jg] at hl;rw [show gs.getD q zGr=gs[q] by simp [Kj,k4 hq]];have hm:=Ku hq;exact jdP hV htb hl (hr.2 _ hm) (h8 _ hm).1 (h8 _ hm).2))
 refine this.mono fun e W' he=>?_;rw [J1 (fun g:Gr=>grB g.data) zGr gs] at he;unfold J5;rw [kI,qK];exact he
end
end Po
namespace Po
open Zip
open Go Go.RowKit
open Tab
open Cd (ji phB JE rlB bsB j0v grB J5)
open Put (low lim)
section
variable {w0 V0:World} {wb tb:Nat} {c:Array Value} {l:List Nat} {k:Nat} {W W':World}
def j3f (T:Tab):Nat:=8*13+((1+T.groups.length*18)+(8+((1+T.dets.length*7)+((1+T.rails.length*11)+((1+T.buses.length*2)+(5+(8+2)))))))
structure jds (T:Tab):Prop where
 g:T.groups.length<=1000
 d:T.dets.length<=1000
 r:T.rails.length<=1000
 b:T.buses.length<=1000
 row:∀ y ∈ T.groups,y.1.length<=8/\y.2.length<=8
theorem j4a {xs ys:List Value} {n o:Nat} (h:(xs.drop o).take n=ys) (hl:ys.length=n) {j:Nat} (hj:j < n):xs[o+j]?=ys[j]?:=by
 rw [<-h,KI,if_pos hj,K6]
theorem jeS {T:Tab} {hd:Hd} (ht:jy w0 hd T) (lt:jds T) (h:Wp w0 V0 wb tb (T.cells hd).toArray l (k+j3f T) W) (htb:w0.heap.size<=tb) :
  Calls Tryz.prog 20 #[wif wb,.pointer (some ⟨tb,0,none⟩)] W fun e W'=>e=.returned (.tuple #[])/\Wp w0 V0 wb tb (T.cells hd).toArray (l++Cd.JK T) k W':=by
 have C:=j9 ht;have hsz:=C.size;generalize hcc:(T.cells hd).toArray=c at C h hsz |-;obtain ⟨gs,hgd,hgl⟩:=ht.groups;have hgn:gs.length=T.groups.length:=by rw [<-hgd,kI]
 have PHC:Hid (∀ q:Nat,q < 8->∀ l k V,Wp w0 V0 wb tb c l (k+13) V->Calls Tryz.prog 47 #[wif wb,.pointer (some ⟨tb,q*13,none⟩)] V fun e V'=>e=.returned (.tuple #[])/\Wp w0 V0 wb tb c (l++phB (T.phases.getD q default)) k V'):=hJJ (fun q hq l k V hV=>by
  have hp:=C.phase q _ (k4 (by rw [ht.ph];exact hq));rw [K7] at hp;rw [show T.phases.getD q default=T.phases[q]'(by rw [ht.ph];exact hq) by simp [Kj,k4 (show q < T.phases.length by rw [ht.ph];exact hq)]];refine jdJ hV _ (JV (by show q*13+13<=_;omega) (fun j hj=>?_)) (by show q*13+13<=_;omega);rw [<-kx];exact j4a hp rfl hj)
 have CELL:∀ (oc:Nat) (s:Sl) (n:Nat),c[oc]?=some (s.val n)->Hid (∀ l k V,Wp w0 V0 wb tb c l k V->V.cell? ⟨tb,oc,none⟩=some (.slice s.a n s.cap)):=fun oc s n hs=>hJJ (fun l k V hV=>by rw [Qc _ _ _ _ _ _ hV.box];exact hs)
 have GRC:Hid (∀ l k V,Wp w0 V0 wb tb c l (k+(1+T.groups.length*18)) V->Calls Tryz.prog 48 #[wif wb,.int .i64 4,.pointer (some ⟨tb,104,none⟩),.func (.func 49) #[] #[]] V fun e V'=>e=.returned (.tuple #[])/\Wp w0 V0 wb tb c (l++J5 grB T.groups) k V'):=hJJ (fun l k V hV=>by
  have:=jcb 4 hgn hV htb hgl (fun g hg=>lt.row g.data (by rw [<-hgd];exact List.mem_map_of_mem hg)) lt.g (CELL 104 hd.g T.groups.length C.g)
  rwa [hgd] at this)
 have DTC:Hid (∀ l k V,Wp w0 V0 wb tb c l (k+(1+T.dets.length*7)) V->Calls Tryz.prog 51 #[wif wb,.int .i64 16,.pointer (some ⟨tb,113,none⟩),.func (.func 52) #[] #[]] V fun e V'=>e=.returned (.tuple #[])/\Wp w0 V0 wb tb c (l++J5 JE T.dets) k V'):=hJJ (fun l k V hV=>jeR 16 rfl hV htb ht.dets lt.d (CELL 113 hd.d T.dets.length C.d));have RLC:Hid (∀ l k V,Wp w0 V0 wb tb c l (k+(1+T.rails.length*11)) V->Calls Tryz.prog 53 #[wif wb,.int .i64 4,.pointer (some ⟨tb,114,none⟩),.func (.func 54) #[] #[]] V fun e V'=>e=.returned (.tuple #[])/\Wp w0 V0 wb tb c (l++J5 rlB T.rails) k V'):=hJJ (fun l k V hV=>jdN 4 rfl hV htb ht.rails lt.r (CELL 114 hd.r T.rails.length C.r));have BSC:Hid (∀ l k V,Wp w0 V0 wb tb c l (k+(1+T.buses.length*2)) V->Calls Tryz.prog 55 #[wif wb,.int .i64 4,.pointer (some ⟨tb,115,none⟩),.func (.func 56) #[] #[]] V fun e V'=>e=.returned (.tuple #[])/\Wp w0 V0 wb tb c (l++J5 bsB T.buses) k V'):=hJJ (fun l k V hV=>jdO 4 rfl hV htb ht.buses lt.b (CELL 115 hd.b T.buses.length C.b))
 have SEC:Hid (∀ q:Nat,q < 8->∀ l k V,Wp w0 V0 wb tb c l (k+1) V->Calls Tryz.prog 50 #[wif wb,.slice (some ⟨V.heap.size,0,none⟩) 1 1] (V.alloc (.cells #[.pointer (some ⟨tb,105+q,none⟩)] 105)) fun e V'=>e=.returned (.tuple #[])/\Wp w0 V0 wb tb c (l++ji 1 [T.conflict.getD q 0]) k V'):=hJJ (fun q hq l k V hV=>by
  have hx:c[105+q]?=some (I (T.conflict.getD q 0)):=by
   rw [<-kx,j4a C.conflict (by rw [kI,ht.cf]) hq,kF,k4 (by rw [ht.cf];exact hq)];simp [Kj,k4 (show q < T.conflict.length by rw [ht.cf];exact hq)]
  exact jeP (hV.mem ((ka _ _).alloc (k5 _) _)) [(105+q,T.conflict.getD q 0)] rfl (by omega) (by simpa using hx) (Qb V _) (k5 _))
 have FLC:Hid (∀ q:Nat,q < 8->∀ l k V,Wp w0 V0 wb tb c l (k+1) V->Calls Tryz.prog 158 #[wrv wb,.int .i64 1,.int .i64 2,.pointer (some ⟨tb,121+q,none⟩)] V fun e V'=>e=.returned (.tuple #[])/\Wp w0 V0 wb tb c (l++ji 1 [T.flash.getD q 0]) k V'):=hJJ (fun q hq l k V hV=>by
  have hx:c[121+q]?=some (I (T.flash.getD q 0)):=by
   rw [<-kx,j4a C.flash (by rw [kI,ht.fl]) hq,kF,k4 (by rw [ht.fl];exact hq)];simp [Kj,k4 (show q < T.flash.length by rw [ht.fl];exact hq)]
  have:=jfv hV 1 2 hx;refine this.mono fun e W' he=>⟨he.1,?_⟩;rw [show ji 1 [T.flash.getD q 0]=low (lim 1 8) (T.flash.getD q 0) by simp [ji,show lim 1 8=1 from rfl]];exact he.2)
 have TMC:Hid (∀ l k V,Wp w0 V0 wb tb c l (k+5) V->Calls Tryz.prog 57 #[wif wb,.slice (some ⟨V.heap.size,0,none⟩) 5 5] (V.alloc (.cells #[.pointer (some ⟨tb,116,none⟩),.pointer (some ⟨tb,117,none⟩),.pointer (some ⟨tb,118,none⟩),.pointer (some ⟨tb,119,none⟩),.pointer (some ⟨tb,120,none⟩)] 105)) fun e V'=>e=.returned (.tuple #[])/\Wp w0 V0 wb tb c (l++ji 2 [T.extend,T.budget,T.start,T.revert,T.least]) k V'):=hJJ (fun l k V hV =>
  jdK (hV.mem ((ka _ _).alloc (k5 _) _)) [(116,T.extend),(117,T.budget),(118,T.start),(119,T.revert),(120,T.least)] rfl (by omega) (by simp [C.extend,C.budget,C.start,C.revert,C.least]) (Qb V _) (k5 _))
 have TKC:Hid (∀ l k V,Wp w0 V0 wb tb c l (k+2) V->Calls Tryz.prog 58 #[wif wb,.slice (some ⟨V.heap.size,0,none⟩) 2 2] (V.alloc (.cells #[.pointer (some ⟨tb,129,none⟩),.pointer (some ⟨tb,130,none⟩)] 105)) fun e V'=>e=.returned (.tuple #[])/\Wp w0 V0 wb tb c (l++ji 4 [T.window,T.share]) k V'):=hJJ (fun l k V hV =>
  jdL (hV.mem ((ka _ _).alloc (k5 _) _)) [(129,T.window),(130,T.share)] rfl (by omega) (by simp [C.window,C.share]) (Qb V _) (k5 _))
 have hm:=(JJ (B:=0) (wb:=wb)).mn;have na:=(JJ (B:=0) (wb:=wb)).nn;have en:=(JJ (B:=0) (wb:=wb)).en;have hmf:∀ (nm:String) (w:World),(Kq (.method nm) #[wif wb] #[]).run Tryz.prog w=.ok (.func (.method nm) #[wif wb] #[]) w:=fun _ _=>rfl;have PL8:Hid (T.phases.length=8):=hJJ ht.ph;have CL8:Hid (T.conflict.length=8):=hJJ ht.cf;have FL8:Hid (T.flash.length=8):=hJJ ht.fl;have RES:Hid (Cd.JK T=T.phases.flatMap phB++(J5 grB T.groups++(ji 1 T.conflict++(J5 JE T.dets++(J5 rlB T.rails++(J5 bsB T.buses++(ji 2 [T.extend,T.budget,T.start,T.revert,T.least]++(ji 1 T.flash++ji 4 [T.window,T.share])))))))):=hJJ rfl;unfold j3f at h;generalize Cd.JK T=res at RES |-;generalize 1+T.groups.length*18=nG at GRC h;generalize 1+T.dets.length*7=nD at DTC h;generalize 1+T.rails.length*11=nR at RLC h;generalize 1+T.buses.length*2=nS at BSC h;have H:=hJJ h;clear h C hsz hgl hgd hgn lt ht CELL;go_enter Tryz.func20,Tryz.ntmps20
 go_wp2_with fail
 go_loopw [7] (fun i wr=>∃ q:Nat,q<=8/\i=.int .i64 (q:Int)/\Wp w0 V0 wb tb c (l++(km q).flatMap (fun q=>phB (T.phases.getD q default))) (k+((8 - q)*13+(nG+(8+(nD+(nR+(nS+(5+(8+2)))))))) ) wr) (fun i _=>8 - (intOf i).toNat)
 case atStart=>exact ⟨0,by omega,rfl,by have:=H.out;simpa using this⟩
 case round =>
  obtain ⟨q,hq,rfl,hw⟩:=hrel;have HW:=hJJ hw;clear hw H;by_cases hlt:q < 8
  ·have hcall:=hJJ (PHC.out q hlt _ (k+((8 - (q+1))*13+(nG+(8+(nD+(nR+(nS+(5+(8+2))))))))) wr (by
    have:=HW.out;rw [show 8 - q=8 - (q+1)+1 by omega] at this;refine this.less (by omega)))
   go_wp2_with fail
   refine hcall.out.mono ?_;rintro e W' ⟨rfl,h3⟩;have H3:=hJJ h3;clear h3;go_wp2;go_roundw;case rel=>exact ⟨q+1,by omega,by go_num,by have:=H3.out;rw [kJ,kt,kr];simpa only [k8] using this⟩
   case measure=>simp [intOf];omega
  obtain rfl:q=8:=by omega
  have H1:Hid (Wp w0 V0 wb tb c (l++T.phases.flatMap phB) (k+(8+(nD+(nR+(nS+(5+(8+2))))))+nG) wr):=hJJ (by
   have:=HW.out;rw [show (km 8).flatMap (fun q=>phB (T.phases.getD q default))=T.phases.flatMap phB from by rw [<-PL8.out];exact J1 phB default T.phases] at this;exact this.less (by omega))
  clear HW PHC;have hcall:=hJJ (GRC.out _ _ wr H1.out);go_wp2_with fail
  refine hcall.out.mono ?_;rintro e W1 ⟨rfl,h3⟩;obtain ⟨L2,hL2⟩:∃ x,x=l++T.phases.flatMap phB++J5 grB T.groups:=⟨_,rfl⟩;rw [<-hL2] at h3;have H2:=hJJ h3;have EL2:=hJJ hL2;clear h3 hcall H1 GRC hL2;go_wp2_with fail
  go_loopw [23] (fun i wr=>∃ q:Nat,q<=8/\i=.int .i64 (q:Int)/\Wp w0 V0 wb tb c (L2++(km q).flatMap (fun q=>ji 1 [T.conflict.getD q 0])) (k+((8 - q)*1+(nD+(nR+(nS+(5+(8+2))))))) wr) (fun i _=>8 - (intOf i).toNat)
  case atStart=>exact ⟨0,by omega,rfl,by have:=H2.out.less (k':=k+(8+(nD+(nR+(nS+(5+(8+2))))))) (by omega);simpa using this⟩
  case round =>
   obtain ⟨q,hq,rfl,hw⟩:=hrel;have HW:=hJJ hw;clear hw H2;by_cases hlt:q < 8
   ·have hcall:=hJJ (SEC.out q hlt _ (k+((8 - (q+1))*1+(nD+(nR+(nS+(5+(8+2))))))) wr (by
     have:=HW.out;rw [show 8 - q=8 - (q+1)+1 by omega] at this;refine this.less (by omega)))
    go_wp2_with fail
    refine hcall.out.mono ?_;rintro e W' ⟨rfl,h3⟩;have H3:=hJJ h3;clear h3;go_wp2;go_roundw;case rel=>exact ⟨q+1,by omega,by go_num,by have:=H3.out;rw [kJ,kt,kr];simpa only [k8] using this⟩
    case measure=>simp [intOf];omega
   obtain rfl:q=8:=by omega
   obtain ⟨L3,hL3⟩:∃ x,x=L2++ji 1 T.conflict:=⟨_,rfl⟩
   have H3:Hid (Wp w0 V0 wb tb c L3 (k+(nR+(nS+(5+(8+2))))+nD) wr):=hJJ (by
    have:=HW.out;rw [show (km 8).flatMap (fun q=>ji 1 [T.conflict.getD q 0])=ji 1 T.conflict from by rw [<-CL8.out,J1 (fun x:Int=>ji 1 [x]) 0 T.conflict];simp [ji]] at this;rw [hL3];exact this.less (by omega))
   have EL3:=hJJ hL3;clear HW SEC hL3;have hcall:=hJJ (DTC.out _ _ wr H3.out);go_wp2_with fail
   refine hcall.out.mono ?_;rintro e W1 ⟨rfl,h3⟩;obtain ⟨L4,hL4⟩:∃ x,x=L3++J5 JE T.dets:=⟨_,rfl⟩;rw [<-hL4] at h3;have EL4:=hJJ hL4;have hcall2:=hJJ (RLC.out _ (k+(nS+(5+(8+2)))) W1 (h3.less (by omega)));clear h3 hcall H3 DTC hL4;go_wp2_with fail
   refine hcall2.out.mono ?_;rintro e W2 ⟨rfl,h3⟩;obtain ⟨L5,hL5⟩:∃ x,x=L4++J5 rlB T.rails:=⟨_,rfl⟩;rw [<-hL5] at h3;have EL5:=hJJ hL5;have hcall3:=hJJ (BSC.out _ (k+(5+(8+2))) W2 (h3.less (by omega)));clear h3 hcall2 RLC hL5;go_wp2_with fail
   refine hcall3.out.mono ?_;rintro e W3 ⟨rfl,h3⟩;obtain ⟨L6,hL6⟩:∃ x,x=L5++J5 bsB T.buses:=⟨_,rfl⟩;rw [<-hL6] at h3;have EL6:=hJJ hL6;have H6:=hJJ h3;clear h3 hcall3 BSC hL6;go_upto_region 14 with fail
   refine QT.j0q W3.heap.size 16 (by kernel_rfl) (by kernel_rfl) (by kernel_rfl) (by kernel_rfl) (v:=wif wb) (fun _ _ _ h=>h) (qT ⟨by rfl,fun w'=>by go_simp;try rfl⟩) ?_;dsimp only [kf];simp only [ko,kT,kU,ki,kq,k7,kh];repeat (quiet_step (fail))
   refine Qe ?_;intro _ hw';obtain ⟨p,rfl⟩:=hw';have HV:=hJJ (H6.out.mem p.below);clear H6;generalize p.world=V at HV |-
   (try simp only [k7,kh])
   have hcall:=hJJ (TMC.out _ (k+(8+2)) V (HV.out.less (by omega)));clear HV;go_wp2_with fail
   refine hcall.out.mono ?_;rintro e W4 ⟨rfl,h3⟩;obtain ⟨L7,hL7⟩:∃ x,x=L6++ji 2 [T.extend,T.budget,T.start,T.revert,T.least]:=⟨_,rfl⟩;rw [<-hL7] at h3;have EL7:=hJJ hL7;have H7:=hJJ h3;clear h3 hcall TMC hL7;go_wp2_with fail
   go_loopw [68] (fun i wr=>∃ q:Nat,q<=8/\i=.int .i64 (q:Int)/\Wp w0 V0 wb tb c (L7++(km q).flatMap (fun q=>ji 1 [T.flash.getD q 0])) (k+((8 - q)*1+2)) wr) (fun i _=>8 - (intOf i).toNat)
   case atStart=>exact ⟨0,by omega,rfl,by have:=H7.out.less (k':=k+(8+2)) (by omega);simpa using this⟩
   case round =>
    obtain ⟨q,hq,rfl,hw⟩:=hrel;have HW:=hJJ hw;clear hw H7;by_cases hlt:q < 8
    ·go_upto_region 18 with fail
     refine QB.jo 9 (by kernel_rfl) (by kernel_rfl) ?_
     have hcall:=hJJ (FLC.out q hlt _ (k+((8 - (q+1))*1+2)) wr.drew (by
      have:=HW.out.mem ((ka _ _).drew:Below wr.heap.size wr wr.drew);rw [show 8 - q=8 - (q+1)+1 by omega] at this;refine this.less (by omega)))
     generalize wr.drew=V at hcall |-;simp only [ki,kq,k7,kh];repeat still_step
     refine Qg ?_;go_wp2_with fail
     refine hcall.out.mono ?_;rintro e W' ⟨rfl,h3⟩;have H3:=hJJ h3;clear h3;go_wp2;go_roundw;case rel=>exact ⟨q+1,by omega,by go_num,by have:=H3.out;rw [kJ,kt,kr];simpa only [k8] using this⟩
     case measure=>simp [intOf];omega
    obtain rfl:q=8:=by omega
    obtain ⟨L8,hL8⟩:∃ x,x=L7++ji 1 T.flash:=⟨_,rfl⟩
    have H8:Hid (Wp w0 V0 wb tb c L8 (k+2) wr):=hJJ (by
     have:=HW.out;rw [show (km 8).flatMap (fun q=>ji 1 [T.flash.getD q 0])=ji 1 T.flash from by rw [<-FL8.out,J1 (fun x:Int=>ji 1 [x]) 0 T.flash];simp [ji]] at this;rw [hL8];exact this.less (by omega))
    have EL8:=hJJ hL8;clear HW FLC hL8;go_upto_region 20 with fail
    refine QT.j0q wr.heap.size 7 (by kernel_rfl) (by kernel_rfl) (by kernel_rfl) (by kernel_rfl) (v:=wif wb) (fun _ _ _ h=>h) (qT ⟨by rfl,fun w'=>by go_simp;try rfl⟩) ?_;dsimp only [kf];simp only [ko,kT,kU,ki,kq,k7,kh];repeat (quiet_step (fail))
    refine Qe ?_;intro _ hw';obtain ⟨p,rfl⟩:=hw';have HV:=hJJ (H8.out.mem p.below);clear H8;generalize p.world=V at HV |-
    (try simp only [k7,kh])
    have hcall:=hJJ (TKC.out _ k V HV.out);clear HV;go_wp2_with fail
    refine hcall.out.mono ?_;rintro e W9 ⟨rfl,h3⟩;have H9:=hJJ h3;clear h3 hcall TKC;go_wp2
    go_end0
    refine ⟨rfl,?_⟩;have:=H9.out;rw [EL8.out,EL7.out,EL6.out,EL5.out,EL4.out,EL3.out,EL2.out] at this;rw [RES.out];simpa only [k8] using this
end
end Po
namespace Po
open Zip
open Go Go.RowKit Go.ChangeShapes
open Tab
open Put (low lim)
theorem jcc (v:Value) (w:World):(qL (.iface 36 v) 20 36 false).run Tryz.prog w=.ok v w:=by
 simp [qL,Qm Tryz.underlying36,go_sem,KJ]
theorem jW:(Tryz.prog.info? 36).map (·.size)=some 2:=by kernel_rfl
theorem j4u (w:World):Calls Tryz.prog 16 #[.nilIface] w fun e w'=>e=.returned (.agg #[I 0,I 0])/\Below w.heap.size w w':=by
 have hb:=(ka w.heap.size w).alloc (k5 _) (.cells #[I 0,I 0] 36);have hg:=Qb w (.cells #[I 0,I 0] 36);have HB:=hJJ hb;have HG:=hJJ hg;clear hb hg;go_enter Tryz.func16,Tryz.ntmps16
 go_upto_region 1 with fail
 generalize Kb w _=v at HB HG |-;go_wp2_with (refine Ql rfl 36 _ _ rfl w.heap.size #[I 0,I 0] rfl rfl 36 _ HG.out jW rfl (by simp [kS]) ?_)
 have h2:=Qo _ _ _ #[I 0,I 0] _ _ HG.out;have h3:=below_setRow HB.out (k5 _) #[I 0,I 0];generalize Q3 v _ _=v2 at h2 h3 |-;have H2:=hJJ h2;have H3:=hJJ h3;clear h2 h3;go_wp2_with fail
 (try simp only [Q4,Exit.then])
 refine QC (v:=.agg #[I 0,I 0]) ?_ rfl ⟨rfl,H3.out⟩;exact Qv rfl _ _ w.heap.size 36 _ (0,0) _ rfl H2.out Tryz.underlying36 rfl jW
theorem j2S (x y:Int) (w:World):Calls Tryz.prog 16 #[fault (x,y)] w fun e w'=>e=.returned (.agg #[I x,I y])/\Below w.heap.size w w':=by
 have hb:=(ka w.heap.size w).alloc (k5 _) (.cells #[I 0,I 0] 36);have hg:=Qb w (.cells #[I 0,I 0] 36);have HB:=hJJ hb;have HG:=hJJ hg;have ha:=jcc;clear hb hg;go_enter Tryz.func16,Tryz.ntmps16
 go_upto_region 1 with fail
 generalize Kb w _=v at HB HG |-;go_wp2_with (refine Ql rfl 36 _ _ rfl w.heap.size #[I x,I y] rfl rfl 36 _ HG.out jW rfl (by simp [kS]) ?_)
 have h2:=Qo _ _ _ #[I x,I y] _ _ HG.out;have h3:=below_setRow HB.out (k5 _) #[I x,I y];generalize Q3 v _ _=v2 at h2 h3 |-;have H2:=hJJ h2;have H3:=hJJ h3;clear h2 h3;go_wp2_with fail
 (try simp only [Q4,Exit.then])
 refine QC (v:=.agg #[I x,I y]) ?_ rfl ⟨rfl,H3.out⟩;exact Qv rfl _ _ w.heap.size 36 _ (0,0) _ rfl H2.out Tryz.underlying36 rfl jW
theorem j1O (x y:Int) (w:World):Calls Tryz.prog 17 #[I x,I y] w fun e w'=>e=.panicked [{ v:=fault (x,y),recovered:=false }]/\w=w':=by
 have hpan:∀ (u:TypeId) (v:Value) (w:World),(Instr.panic (.iface u v)).run Tryz.prog w=.halt (.panic (.iface u v)) w:=fun _ _ _=>rfl;go_enter Tryz.func17,Tryz.ntmps17
 go_wp2;exact ⟨rfl,rfl,rfl⟩
theorem jdQ (x y:Int) (w:World):(Q7 36 (.agg #[I x,I y]) 0).run Tryz.prog w=.ok (I x) w:=by
 first | rfl | simp [Q7,Qm Tryz.underlying36,go_sem,KJ]
theorem jap (b:Nat) (z:Int) (w:World) (hc:w.heap[b]?=some (.cells #[I z] 34 (0,0))) :
  CallsD Tryz.prog 41 #[.pointer (some ⟨b,0,none⟩)] .returning w fun e u' w'=>e=.returned (.tuple #[])/\u'=.returning/\∃ w1,Below w.heap.size w w1/\w'=w1.setRow b #[I 0]:=by
 refine callsD_of_wpS Tryz.func41 rfl fun c₀ cs hu=>?_;apply wpS_region;simp [wpOpsS,go_sem,recoverD,hu];refine (j4u _).mono ?_;rintro e w' ⟨rfl,hb⟩;have hc1:=(hb.block b (k3.1 hc).1).trans hc;have c1:w'.cell? ⟨b,0,none⟩=some (I z):=by rw [Qc _ _ _ _ _ _ hc1];rfl
 have f1:w'.frozen? ⟨b,0,none⟩=false:=Qf _ _ _ _ _ hc1;have hs:=Qd w' b 0 #[I z] 34 (0,0) (I 0) hc1;have hf:=jdQ 0 0;simp [wpOpsS,go_sem,hf,c1,f1,bodyPostS,results,Tryz.results41];cases c₀;simp_all
 exact ⟨w',hb,rfl⟩
end Po
namespace May
open Zip
open Go.ChangeShapes Go.WideShapes Go.ChangeAt Go.RowKit
open Tab
theorem j3 {a b:Bool} (h:a=b):qQ (.bool a)=.returned (.bool b):=by rw [h]
def inB (m:Int) (n:Int):Bool:=decide (0<=n) && decide (n<=m)
def jq (m:Int) (l:List Int):Bool:=l.all (inB m)
theorem jL {α:Type} (l:List α) (k:Nat) (v:α) (h:l[k]?=some v):l.take (k+1)=l.take k++[v]:=by
 rw [qy,h];rfl
theorem j0w {α:Type} {f:α->Bool} {l:List α} {k:Nat} {v:α} (h:l[k]?=some v) (hk:(l.take k).all f=true) (hv:f v=true):(l.take (k+1)).all f=true:=by
 rw [jL l k v h,List.all_append,hk];simp [hv]
theorem j0j {α:Type} {f:α->Bool} {l:List α} {k:Nat} {v:α} (h:l[k]?=some v) (hv:f v=false):l.all f=false:=by
 rw [List.all_eq_false];exact ⟨v,Kw h,by simp [hv]⟩
theorem j2b {α:Type} {f:α->Bool} {l:List α} {k:Nat} (hk:(l.take k).all f=true) (h:¬ k < l.length):l.all f=true:=by
 rwa [Kp (by omega)] at hk
theorem J6 (m:Int) (a:Option Addr) (cap:Nat) (l:List Int) (w:World) (h:jc w ⟨a,cap⟩ l) :
  Calls Tryz.prog 82 #[.int .i64 m,.slice a l.length cap] w fun e w'=>e=.returned (.bool (jq m l))/\w=w':=by
 have h1:=h.len;unfold maxLen at h1;have Hr:=hJJ h;clear h;go_enter Tryz.func82,Tryz.ntmps82
 go_wp2
 go_loop [9] (fun i=>∃ k:Nat,k<=l.length/\i=.int .i64 k/\(l.take k).all (inB m)=true) (fun i=>l.length - (intOf i).toNat)
 case atStart=>exact ⟨0,K4 _,rfl,rfl⟩
 case round =>
  obtain ⟨k,hk,rfl,hall⟩:=hrel;have Hall:=hJJ hall;clear hall;by_cases hlt:k < l.length
  ·have hv:=k4 hlt;generalize l[k]=v at hv;obtain ⟨x,hx,hcell⟩:=Hr.out.at hv;obtain rfl:a=some x:=hx;have HV:=hJJ hv;clear hv;by_cases h0:v < 0
   ·go_wp2;go_ret;exact ⟨j3 (j0j HV.out (by unfold inB;rw [decide_eq_false (by omega)];rfl)).symm,rfl⟩
   by_cases hm:m < v
   ·go_wp2;go_ret;exact ⟨j3 (j0j HV.out (by unfold inB;rw [decide_eq_false (p:=v<=m) (by omega),qV])).symm,rfl⟩
   go_wp2
   go_round
   case rel=>exact ⟨k+1,by omega,by go_num,j0w HV.out Hall.out (by unfold inB;rw [decide_eq_true (by omega),decide_eq_true (by omega)];rfl)⟩
   case measure=>simp [intOf];omega
  go_wp2;go_ret;exact ⟨j3 (j2b Hall.out hlt).symm,rfl⟩
end May
end Go.Proofs.YtonpphjleapafaaGreat
namespace Go.Proofs.Fl
open Ieee
abbrev D:Format:=Ieee.double
theorem lp_eq:D.leastPlace = -1074:=by decide
theorem binade_eq:D.binade=4503599627370496:=by decide
theorem inf_eq:D.infRung=9218868437227405312:=by decide
theorem sw_eq:D.signWeight=9223372036854775808:=by decide
theorem fb_eq:D.fractionBits=52:=rfl
def rhe (v d:Nat):Nat:=v / 2 ^ d+(decide (2 ^ d < 2*(v % 2 ^ d)) || (2 ^ d == 2*(v % 2 ^ d) && v / 2 ^ d % 2 == 1)).toNat
theorem bt_le (b:Bool):b.toNat<=1:=by cases b <;> decide
theorem rhe_lo (v d:Nat):v / 2 ^ d<=rhe v d:=Nat.le_add_right _ _
theorem rhe_hi (v d:Nat):rhe v d<=v / 2 ^ d+1:=KC (bt_le _) _
theorem rhe_zero (v:Nat):rhe v 0=v:=by
 unfold rhe;simp [Nat.mod_one]
theorem rhe_exact (v d:Nat) (h:v % 2 ^ d=0):rhe v d=v / 2 ^ d:=by
 have hp:0 < 2 ^ d:=kj d;unfold rhe;rw [h];simp
theorem rhe_mono (v v' d:Nat) (h:v<=v'):rhe v d<=rhe v' d:=by
 have hp:0 < 2 ^ d:=kj d;have hq:v / 2 ^ d<=v' / 2 ^ d:=qj h;by_cases e:v / 2 ^ d=v' / 2 ^ d
 ·have h1:=Kg v (2 ^ d);have h2:=Kg v' (2 ^ d);have hr:v % 2 ^ d<=v' % 2 ^ d:=by rw [e] at h1;omega
  unfold rhe;rw [e];refine KC ?_ _;generalize v % 2 ^ d=r at *;generalize v' % 2 ^ d=r' at *;generalize 2 ^ d=g at *;by_cases c1:g < 2*r'
  ·rw [decide_eq_true c1];simp;exact bt_le _
  have c2:¬ g < 2*r:=by omega
  rw [decide_eq_false c1,decide_eq_false c2];by_cases c3:g=2*r
  ·have c4:g=2*r':=by omega
   have:r=r':=by omega
   subst this;exact k5 _
  have c4:(g == 2*r)=false:=beq_eq_false_iff_ne.2 c3;rw [c4];simp
 exact kb (rhe_hi v d) (kb (by omega) (rhe_lo v' d))
theorem rhe_scale (v d k:Nat):rhe (v*2 ^ k) (d+k)=rhe v d:=by
 have hk:0 < 2 ^ k:=kj k;unfold rhe;rw [kB,q6 _ _ hk,q7]
 have e1:decide (2 ^ d*2 ^ k < 2*(v % 2 ^ d*2 ^ k))=decide (2 ^ d < 2*(v % 2 ^ d)):=by
  rw [<-K2];exact decide_eq_decide.2 (K0 hk)
 have e2:(2 ^ d*2 ^ k == 2*(v % 2 ^ d*2 ^ k))=(2 ^ d == 2*(v % 2 ^ d)):=by
  rw [<-K2,q4,beq_iff_eq,beq_iff_eq];exact ⟨fun h=>Nat.eq_of_mul_eq_mul_right hk h,fun h=>congrArg (·*2 ^ k) h⟩
 rw [e1,e2]
theorem cut_even (neg:Bool) (n drop:Nat):Toward.even.cut neg n drop=rhe n drop:=by
 have key:∀ g,g=drop\/(g<=drop/\n.log2+2<=g)->rhe n g=rhe n drop:=by
  intro g hg;rcases hg with rfl | ⟨h1,h2⟩
  ·rfl
  have small:∀ e,n.log2+2<=e->rhe n e=0:=by
   intro e he;have hn:n < 2 ^ (n.log2+1):=K3;have hpe:2 ^ (n.log2+2)<=2 ^ e:=ky (by decide) he;have hs:2 ^ (n.log2+2)=2 ^ (n.log2+1)*2:=qD ..;unfold rhe;rw [KY (by omega),Nat.mod_eq_of_lt (by omega)];have c1:¬ 2 ^ e < 2*n:=by omega
   have c2:¬ 2 ^ e=2*n:=by omega
   simp [c1]
  rw [small g h2,small drop (by omega)]
 have h:=key (min drop (n.log2+2)) (by omega);rw [<-h];unfold Toward.cut rhe;simp only [qE]
theorem cut_zero (neg:Bool) (n drop:Nat):Toward.zero.cut neg n drop=n / 2 ^ drop:=by
 unfold Toward.cut;simp only [qE,Bool.toNat_false,q0];by_cases h:drop<=n.log2+2
 ·rw [kW h]
 rw [Nat.min_eq_right (by omega)];have hn:n < 2 ^ (n.log2+1):=K3;have p1:2 ^ (n.log2+1)<=2 ^ (n.log2+2):=ky (by decide) (by omega);have p2:2 ^ (n.log2+2)<=2 ^ drop:=ky (by decide) (by omega);rw [KY (by omega),KY (by omega)]
def rungV (E v:Nat):Nat:=(max (v.log2 - 52) E - E)*4503599627370496+rhe v (max (v.log2 - 52) E)
theorem log2_mul_pow (m P:Nat) (h:m ≠ 0):(m*2 ^ P).log2=m.log2+P:=by
 have hp:m*2 ^ P ≠ 0:=Nat.mul_ne_zero h (by have:=kj P;omega);rw [Nat.log2_eq_iff hp];have h1:=Kv h;have h2:m < 2 ^ (m.log2+1):=K3;have hP:=kj P;rw [qr,kB,kB 2 (m.log2+1)];exact ⟨Kc _ h1,(K0 hP).2 h2⟩
theorem nearest_eq (neg:Bool) (m:Nat) (p:Int) (P E:Nat) (h:p+1074+E=P):D.nearest neg m p=D.word neg (min (rungV E (m*2 ^ P)) D.infRung):=by
 unfold Format.nearest;by_cases hm:m=0
 ·subst hm;rw [if_pos rfl,kZ]
  have:rungV E 0=0:=by
   unfold rungV rhe;have e:max (Nat.log2 0 - 52) E=E:=by rw [KU];omega
   rw [e,Q5,Nat.zero_mod];simp
  rw [this];rfl
 rw [if_neg hm];dsimp only;rw [lp_eq,binade_eq,fb_eq];refine congrArg (fun t=>D.word neg (min t D.infRung)) ?_;have hl:(m*2 ^ P).log2=m.log2+P:=log2_mul_pow m P hm
 have hlast:max (p+(m.log2:Int) - ((52:Nat):Int)) (-1074)=((max ((m*2 ^ P).log2 - 52) E:Nat):Int) - 1074 - E:=by
  rw [hl];omega
 rw [hlast,cut_even];unfold rungV;generalize max ((m*2 ^ P).log2 - 52) E=L at *;have a1:((L:Int) - 1074 - (E:Int) - -1074).toNat=L - E:=by omega
 rw [a1];congr 1;rw [kD];by_cases hPL:L<=P
 ·have a2:(p - ((L:Int) - 1074 - E)).toNat=P - L:=by omega
  have a3:((L:Int) - 1074 - E - p).toNat=0:=by omega
  rw [a2,a3,rhe_zero];have hx:m*2 ^ P=m*2 ^ (P - L)*2 ^ L:=by rw [K2,<-kB];congr 2;omega
  rw [hx];have:=rhe_scale (m*2 ^ (P - L)) 0 L;rw [kE] at this;rw [this,rhe_zero]
 have a2:(p - ((L:Int) - 1074 - E)).toNat=0:=by omega
 have a3:((L:Int) - 1074 - E - p).toNat=L - P:=by omega
 rw [a2,a3,KE,kP];have:=rhe_scale m (L - P) P;rw [show L - P+P=L by omega] at this;exact this.symm
theorem log2_mono {a b:Nat} (h:a<=b):a.log2<=b.log2:=by
 by_cases ha:a=0
 ·subst ha;rw [KU];exact K4 _
 exact (Nat.le_log2 (by omega)).2 (kb (Kv ha) h)
theorem rungV_mono (E:Nat) {v v':Nat} (h:v<=v'):rungV E v<=rungV E v':=by
 have hl:=log2_mono h;unfold rungV;by_cases e:max (v.log2 - 52) E=max (v'.log2 - 52) E
 ·rw [e];exact KC (rhe_mono _ _ _ h) _
 ·
  have hlt:max (v.log2 - 52) E < max (v'.log2 - 52) E:=by omega
  have e':max (v'.log2 - 52) E=v'.log2 - 52:=by omega
  have h52:52 < v'.log2:=by omega
  rw [e'];have hv0:v' ≠ 0:=by intro h0;subst h0;rw [KU] at h52;omega
  have k':4503599627370496<=rhe v' (v'.log2 - 52):=by
   refine kb ?_ (rhe_lo _ _);rw [q8 (kj _)];have:=Kv hv0;rw [show (4503599627370496:Nat)=2 ^ 52 by decide,<-kB,show 52+(v'.log2 - 52)=v'.log2 by omega];exact this
  have k:rhe v (max (v.log2 - 52) E)<=9007199254740992:=by
   have hv:v < 2 ^ (v.log2+1):=K3
   have:v / 2 ^ max (v.log2 - 52) E < 9007199254740992:=by
    rw [q9 (kj _)];refine KL hv ?_;rw [show (9007199254740992:Nat)=2 ^ 53 by decide,<-kB];exact ky (by decide) (by omega)
   have:=rhe_hi v (max (v.log2 - 52) E);omega
  have g1:E<=max (v.log2 - 52) E:=by omega
  have g2:max (v.log2 - 52) E < v'.log2 - 52:=by omega
  clear hlt e' e;generalize max (v.log2 - 52) E=L at *;generalize v'.log2 - 52=L' at *;have hm:(L - E+1)*4503599627370496<=(L' - E)*4503599627370496:=Kc _ (by omega);rw [K5] at hm;omega
def val (r:Nat):Nat:=if r < 4503599627370496 then r else (4503599627370496+r % 4503599627370496)*2 ^ (r / 4503599627370496 - 1)
theorem val_lt {r r':Nat} (h:r < r'):val r < val r':=by
 unfold val;by_cases h1:r < 4503599627370496
 ·rw [if_pos h1];by_cases h2:r' < 4503599627370496
  ·rw [if_pos h2];exact h
  rw [if_neg h2];have:=kj (r' / 4503599627370496 - 1);have:(4503599627370496+r' % 4503599627370496)*1<=(4503599627370496+r' % 4503599627370496)*2 ^ (r' / 4503599627370496 - 1):=qn _ this;omega
 have h2:¬ r' < 4503599627370496:=by omega
 rw [if_neg h1,if_neg h2];have hq:r / 4503599627370496<=r' / 4503599627370496:=qj (by omega);by_cases e:r / 4503599627370496=r' / 4503599627370496
 ·rw [e];exact (K0 (kj _)).2 (by omega)
 have hm:r % 4503599627370496 < 4503599627370496:=K1 _ (by decide);have hm':r' % 4503599627370496 < 4503599627370496:=K1 _ (by decide);have p1:2 ^ (r / 4503599627370496)<=2 ^ (r' / 4503599627370496 - 1):=ky (by decide) (by omega)
 have p0:2 ^ (r / 4503599627370496)=2 ^ (r / 4503599627370496 - 1)*2:=by
  rw [<-qD];congr 1;omega
 have hpos:=kj (r / 4503599627370496 - 1);have s1:(4503599627370496+r % 4503599627370496)*2 ^ (r / 4503599627370496 - 1) < 9007199254740992*2 ^ (r / 4503599627370496 - 1):=(K0 hpos).2 (by omega);have s2:4503599627370496*2 ^ (r' / 4503599627370496 - 1)<=(4503599627370496+r' % 4503599627370496)*2 ^ (r' / 4503599627370496 - 1):=Kc _ (by omega);omega
theorem val_le {r r':Nat} (h:r<=r'):val r<=val r':=by
 rcases qq h with rfl | h
 ·exact k5 _
 exact Nat.le_of_lt (val_lt h)
theorem val_rungV (v:Nat) (h:v % 2 ^ (v.log2 - 52)=0):val (rungV 0 v)=v:=by
 unfold rungV;rw [show max (v.log2 - 52) 0=v.log2 - 52 by omega,Ks,rhe_exact _ _ h];have hdm:=Kg v (2 ^ (v.log2 - 52));rw [h,q0] at hdm;by_cases h52:v.log2<=52
 ·rw [show v.log2 - 52=0 by omega] at hdm |-;simp only [KE,Nat.div_one,kZ,kE];have hv:v < 2 ^ (v.log2+1):=K3;have:2 ^ (v.log2+1)<=2 ^ 53:=ky (by decide) (by omega);have e53:(2:Nat) ^ 53=9007199254740992:=by decide
  unfold val;split
  ·rfl
  rw [show v / 4503599627370496=1 by omega];simp;omega
 have hv0:v ≠ 0:=by intro h0;subst h0;rw [KU] at h52;omega
 have hlo:=Kv hv0;have hhi:v < 2 ^ (v.log2+1):=K3
 have c1:4503599627370496<=v / 2 ^ (v.log2 - 52):=by
  rw [q8 (kj _),show (4503599627370496:Nat)=2 ^ 52 by decide,<-kB,show 52+(v.log2 - 52)=v.log2 by omega];exact hlo
 have c2:v / 2 ^ (v.log2 - 52) < 9007199254740992:=by
  rw [q9 (kj _),show (9007199254740992:Nat)=2 ^ 53 by decide,<-kB,show 53+(v.log2 - 52)=v.log2+1 by omega];exact hhi
 generalize hL:v.log2 - 52=L at *;generalize hc:v / 2 ^ L=c at *;unfold val;rw [if_neg (by have:1*4503599627370496<=L*4503599627370496:=Kc _ (by omega);omega)];have e1:(L*4503599627370496+c) / 4503599627370496=L+1:=by omega
 have e2:(L*4503599627370496+c) % 4503599627370496=c - 4503599627370496:=by omega
 rw [e1,e2,show 4503599627370496+(c - 4503599627370496)=c by omega,show L+1 - 1=L by omega,K7];exact hdm
theorem thin (c e:Nat) (h:c < 9007199254740992):(c*2 ^ e) % 2 ^ ((c*2 ^ e).log2 - 52)=0:=by
 by_cases hc:c=0
 ·subst hc;simp
 rw [log2_mul_pow c e hc];have hl:c.log2 < 53:=(Nat.log2_lt hc).2 (by rw [show (2:Nat) ^ 53=9007199254740992 by decide];exact h);have hd:2 ^ (c.log2+e - 52) ∣ 2 ^ e:=qS 2 (by omega);exact q3 (qZ hd (qM _ _))
def rung (x:Nat):Nat:=x % 9223372036854775808
def sg (x:Nat):Bool:=x / 9223372036854775808 % 2 == 1
def isn (x:Nat):Bool:=decide (9218868437227405312 < rung x)
def key (x:Nat):Int:=if sg x then -(rung x:Int) else rung x
def sval (x:Nat):Int:=if sg x then -(val (rung x):Int) else val (rung x)
def fin (x:Nat):Prop:=rung x < 9218868437227405312
theorem read_nan (x:Nat) (h:isn x=true):D.read x=.nan (sg x) (rung x - 9218868437227405312):=by
 have h':9218868437227405312 < rung x:=of_decide_eq_true h;unfold Format.read;dsimp only;rw [sw_eq,binade_eq,inf_eq];show (if rung x < _ then _ else _)=_;rw [if_neg (by omega)];show (if rung x < _ then _ else _)=_;rw [if_neg (by omega)];show (if rung x=_ then _ else _)=_;rw [if_neg (by omega)];rfl
theorem read_inf (x:Nat) (h:rung x=9218868437227405312):D.read x=.infinity (sg x):=by
 unfold Format.read;dsimp only;rw [sw_eq,binade_eq,inf_eq];show (if rung x < _ then _ else _)=_;rw [if_neg (by omega)];show (if rung x < _ then _ else _)=_;rw [if_neg (by omega)];show (if rung x=_ then _ else _)=_;rw [if_pos h];rfl
theorem read_fin (x:Nat) (h:fin x):∃ (m:Nat) (i:Int) (P:Nat),D.read x=.number (sg x) m i/\i+1074=P/\m*2 ^ P=val (rung x)/\m < 9007199254740992:=by
 unfold fin at h;unfold Format.read;dsimp only;rw [sw_eq,binade_eq,inf_eq,lp_eq];by_cases h1:rung x < 4503599627370496
 ·refine ⟨rung x,-1074,0,?_,by omega,?_,by omega⟩
  ·show (if rung x < _ then _ else _)=_;rw [if_pos h1];rfl
  unfold val;rw [if_pos h1];simp
 refine ⟨4503599627370496+rung x % 4503599627370496,-1074+((rung x / 4503599627370496 - 1:Nat):Int),rung x / 4503599627370496 - 1,?_,by omega,?_,by omega⟩
 ·show (if rung x < _ then _ else _)=_;rw [if_neg h1];show (if rung x < _ then _ else _)=_;rw [if_pos h];rfl
 unfold val;rw [if_neg h1]
theorem signed_scale (s:Bool) (m a k:Nat):signed s m a*(2 ^ k:Nat)=signed s m (a+k):=by
 have e:((m <<< a:Nat):Int)*(2 ^ k:Nat)=((m <<< (a+k):Nat):Int):=by
  rw [kD,kD,kB,<-K2];simp
 unfold signed;split
 ·rw [Int.neg_mul,e]
 exact e
theorem signed_sval (x:Nat) {m P:Nat} (h:m*2 ^ P=val (rung x)):signed (sg x) m P=sval x:=by
 unfold signed sval;rw [kD,h]
theorem cmp_congr {a b c d:Int} (h1:a < b ↔ c < d) (h2:b < a ↔ d < c):compare a b=compare c d:=by
 rw [kV,kV];simp only [h1,h2]
theorem cmp_lt {a b:Int} (h:a < b):compare a b=.lt:=by rw [kV,if_pos h]
theorem cmp_gt {a b:Int} (h:b < a):compare a b=.gt:=by rw [kV,if_neg (by omega),if_pos h]
theorem cmp_scale (a b:Int) (k:Nat) (hk:0 < k):compare (a*k) (b*k)=compare a b:=by
 have hk':(0:Int) < k:=by omega
 exact cmp_congr ⟨fun h=>KM h (by omega),fun h=>KF h hk'⟩ ⟨fun h=>KM h (by omega),fun h=>KF h hk'⟩
theorem sval_cmp (x y:Nat):compare (sval x) (sval y)=compare (key x) (key y):=by
 have h0:val 0=0:=by decide
 have pos:∀ r,0 < r->0 < val r:=fun r h=>by have:=val_lt h;omega
 have lt:∀ r r',r < r'->val r < val r':=fun r r' h=>val_lt h;have hiff:∀ r r',val r < val r' ↔ r < r':=fun r r'=>⟨fun h=>KZ fun hh=>by have:=val_le hh;omega,fun h=>val_lt h⟩;have hz:∀ r,val r=0 ↔ r=0:=fun r=>⟨fun h=>by by_cases hr:r=0;exact hr;have:=pos r (by omega);omega,fun h=>by subst h;exact h0⟩;have a1:=hiff (rung x) (rung y);have a2:=hiff (rung y) (rung x);have a3:=hz (rung x);have a4:=hz (rung y);apply cmp_congr
 ·unfold sval key;split <;> split <;> omega
 unfold sval key;split <;> split <;> omega
theorem order_nan (x y:Nat) (h:isn x=true\/isn y=true):D.order x y=none:=by
 unfold Format.order;rcases h with h | h
 ·rw [read_nan x h];rfl
 rw [read_nan y h];cases D.read x <;> rfl
theorem order_key (x y:Nat) (hx:isn x=false) (hy:isn y=false):D.order x y=some (compare (key x) (key y)):=by
 have hx':=of_decide_eq_false hx;have hy':=of_decide_eq_false hy;unfold Format.order;by_cases fx:fin x
 ·obtain ⟨m,i,P,rx,hP,vx,-⟩:=read_fin x fx;by_cases fy:fin y
  ·obtain ⟨n,j,Q,ry,hQ,vy,-⟩:=read_fin y fy;rw [rx,ry];unfold Datum.order;dsimp only;congr 1;rw [<-sval_cmp,<-signed_sval x vx,<-signed_sval y vy];obtain ⟨B,hB⟩:∃ B:Nat,min i j+1074=B:=⟨(min i j+1074).toNat,by omega⟩;rw [<-cmp_scale _ _ (2 ^ B) (kj B),signed_scale,signed_scale];rw [show (i - min i j).toNat+B=P by omega,show (j - min i j).toNat+B=Q by omega]
  have hy2:rung y=9218868437227405312:=by unfold fin at fy;omega
  rw [rx,read_inf y hy2];unfold fin at fx;unfold Datum.order;dsimp only;congr 1;unfold key;rw [hy2];cases sg y
  ·rw [cmp_lt (by cases sg x <;> simp <;> omega)];rfl
  rw [cmp_gt (by cases sg x <;> simp <;> omega)];rfl
 have hx2:rung x=9218868437227405312:=by unfold fin at fx;omega
 by_cases fy:fin y
 ·obtain ⟨n,j,Q,ry,hQ,vy,-⟩:=read_fin y fy;rw [ry,read_inf x hx2];unfold fin at fy;unfold Datum.order;dsimp only;congr 1;unfold key;rw [hx2];cases sg x
  ·rw [cmp_gt (by cases sg y <;> simp <;> omega)];rfl
  rw [cmp_lt (by cases sg y <;> simp <;> omega)];rfl
 have hy2:rung y=9218868437227405312:=by unfold fin at fy;omega
 rw [read_inf x hx2,read_inf y hy2];unfold Datum.order key;dsimp only;congr 1;rw [hx2,hy2];cases sg x <;> cases sg y <;> decide
theorem o_eq {x y:Nat} (hx:isn x=false) (hy:isn y=false):(D.order x y == some .eq)=decide (key x=key y):=by
 rw [order_key x y hx hy,kV,q4];by_cases h:key x < key y
 ·simp [h];omega
 by_cases h':key y < key x
 ·simp [h,h'];omega
 simp [h,h'];omega
def T:Nat:=1074
theorem T_eq:T=1074:=rfl
theorem sum_fin (x y:Nat) (neg':Bool) {n:Nat} {j:Int} {Q:Nat} (t:Int) (hx:fin x) (hQ:j+1074=Q) (ht:signed neg' n Q=t) :
  ∃ s:Bool,((D.read x).sum (.number neg' n j)).map D.write=some (D.word s (min (rungV 0 (sval x+t).natAbs) D.infRung))/\(sval x+t ≠ 0->s=decide (sval x+t < 0)):=by
 obtain ⟨m,i,P,rx,hP,vx,-⟩:=read_fin x hx;rw [rx];unfold Datum.sum;dsimp only [KB];obtain ⟨B,hB⟩:∃ B:Nat,min i j+1074=B:=⟨(min i j+1074).toNat,by omega⟩
 have e:(signed (sg x) m (i - min i j).toNat+signed neg' n (j - min i j).toNat)*(2 ^ B:Nat)=sval x+t:=by
  rw [Int.add_mul,signed_scale,signed_scale,show (i - min i j).toNat+B=P by omega,show (j - min i j).toNat+B=Q by omega,signed_sval x vx,ht]
 have hp:(0:Int) < (2 ^ B:Nat):=by have:=kj B;omega
 generalize signed (sg x) m (i - min i j).toNat+signed neg' n (j - min i j).toNat=tot at *;refine ⟨if tot=0 then sg x && neg' else decide (tot < 0),?_,?_⟩
 ·unfold Format.write;dsimp only;congr 1;rw [nearest_eq _ _ _ B 0 (by omega)];have:tot.natAbs*2 ^ B=(sval x+t).natAbs:=by rw [<-e,Int.natAbs_mul];simp
  rw [this]
 intro h0;have h1:tot ≠ 0:=by intro h;rw [h,Int.zero_mul] at e;exact h0 e.symm
 rw [if_neg h1,<-e];apply decide_eq_decide.2;constructor
 ·intro h;exact Int.mul_neg_of_neg_of_pos h hp
 intro h;by_cases hn:tot < 0
 ·exact hn
 have:=Int.mul_nonneg (show 0<=tot by omega) (show (0:Int)<=(2 ^ B:Nat) by omega);omega
theorem sub_fin (x y:Nat) (hx:fin x) (hy:fin y) :
  ∃ s:Bool,D.sub x y=some (D.word s (min (rungV 0 (sval x - sval y).natAbs) D.infRung))/\(sval x - sval y ≠ 0->s=decide (sval x - sval y < 0)):=by
 obtain ⟨n,j,Q,ry,hQ,vy,-⟩:=read_fin y hy;unfold Format.sub;rw [ry]
 have hs:signed (!sg y) n Q = -sval y:=by
  rw [<-signed_sval y vy];unfold signed;cases sg y <;> simp
 have:=sum_fin x y (!sg y) (-sval y) hx hQ hs;rw [<-Int.sub_eq_add_neg] at this;exact this
theorem word_rung (s:Bool) (r:Nat) (h:r < 9223372036854775808):rung (D.word s r)=r:=by
 unfold rung Format.word;rw [sw_eq];split <;> omega
theorem word_sg (s:Bool) (r:Nat) (h:r < 9223372036854775808):sg (D.word s r)=s:=by
 unfold sg Format.word;rw [sw_eq];cases s
 ·simp;omega
 simp;omega
theorem toInt_zero (x:Nat) (hx:fin x) (hs:sg x=false):(D.read x).toInt .zero=some ((val (rung x) / 2 ^ T:Nat):Int):=by
 obtain ⟨m,i,P,rx,hP,vx,-⟩:=read_fin x hx;rw [rx,hs,<-vx];unfold Datum.toInt Datum.integral;dsimp only;rw [cut_zero];unfold signed;simp only [qp,if_false,Nat.shiftLeft_zero];congr 2;rw [kD];by_cases h0:0<=i
 ·rw [show (-i).toNat=0 by omega,KE,Nat.div_one,show P=i.toNat+T by rw [T_eq];omega,kB,<-K2,qt _ (kj T)]
 rw [show i.toNat=0 by omega,KE,kP,show T=P+(-i).toNat by rw [T_eq];omega,kB,K7 (2 ^ P),q6 _ _ (kj P)]
theorem integral_even (x:Nat) (hx:fin x):(D.read x).integral .even=.number (sg x) (rhe (val (rung x)) T) 0:=by
 obtain ⟨m,i,P,rx,hP,vx,-⟩:=read_fin x hx;rw [rx,<-vx];unfold Datum.integral;dsimp only;rw [cut_even,kD];refine congrArg (fun t=>Datum.number (sg x) t 0) ?_;by_cases h0:0<=i
 ·rw [show (-i).toNat=0 by omega,rhe_zero,show P=i.toNat+T by rw [T_eq];omega,kB,<-K2];have:=rhe_scale (m*2 ^ i.toNat) 0 T;rw [kE] at this;rw [this,rhe_zero]
 rw [show i.toNat=0 by omega,KE,kP,show T=(-i).toNat+P by rw [T_eq];omega,rhe_scale]
theorem lt_val_inf (v:Nat) (h:v < 2 ^ (53+T)):v < val 9218868437227405312:=by
 unfold val;rw [if_neg (by omega)];generalize he:9218868437227405312 / 4503599627370496 - 1=e;have h52:(4503599627370496+9218868437227405312 % 4503599627370496)=2 ^ 52:=by decide
 rw [h52,<-kB];exact KL h (ky (by decide) (by rw [T_eq];omega))
def irung (n:Nat):Nat:=rungV 0 (n*2 ^ T)
theorem val_irung (n:Nat) (h:n < 9007199254740992):val (irung n)=n*2 ^ T:=val_rungV _ (thin n T h)
theorem irung_lt (n:Nat) (h:n < 9007199254740992):irung n < 9218868437227405312:=by
 have hv:=val_irung n h
 have:n*2 ^ T < val 9218868437227405312:=by
  apply lt_val_inf;rw [kB];exact (K0 (kj T)).2 (by rw [show (2:Nat) ^ 53=9007199254740992 by decide];exact h)
 rw [<-hv] at this;exact KZ fun hh=>by have:=val_le hh;omega
theorem write_int (s:Bool) (n:Nat) (h:n < 9007199254740992):D.write (.number s n 0)=D.word s (irung n):=by
 unfold Format.write;dsimp only;rw [nearest_eq s n 0 T 0 (by rw [T_eq];omega),inf_eq];have:=irung_lt n h;rw [kW (by unfold irung at this;omega)];rfl
theorem irung_toInt (s:Bool) (n:Nat) (h:n < 9007199254740992) (hs:s=false):(D.read (D.word s (irung n))).toInt .zero=some (n:Int):=by
 have h1:=irung_lt n h;have h2:=word_rung s (irung n) (by omega);rw [toInt_zero _ (by unfold fin;omega) (by rw [word_sg _ _ (by omega),hs]),h2,val_irung n h,qt _ (kj T)]
end Go.Proofs.Fl
namespace Go.Proofs.YtonpphjleapafaaGreat
end Go.Proofs.YtonpphjleapafaaGreat
namespace Go.Proofs.Fl
open Ieee
abbrev ten:Nat:=4621819117588971520
abbrev half:Nat:=4602678819172646912
def ok (s:Nat):Bool:=!isn s && decide (0<=key s) && decide (key s<=4652006429231887155)
theorem ok_iff (s:Nat):ok s=true ↔ isn s=false/\0<=key s/\key s<=4652006429231887155:=by
 unfold ok;simp [and_assoc]
theorem ok_fin {s:Nat} (h:ok s=true):fin s:=by
 obtain ⟨h1,h2,h3⟩:=(ok_iff s).1 h;have:=of_decide_eq_false h1;unfold fin;unfold key at h2 h3;split at h2 <;> simp_all <;> omega
theorem ok_rung {s:Nat} (h:ok s=true):rung s<=4652006429231887155/\(sg s=true->rung s=0):=by
 obtain ⟨h1,h2,h3⟩:=(ok_iff s).1 h;unfold key at h2 h3;cases hs:sg s <;> simp [hs] at h2 h3 |- <;> omega
def tr (s:Nat):Nat:=rungV 49 (5629499534213120*val (rung s))
theorem mul_ten (s:Nat) (h:fin s):D.mul ten s=some (D.word (sg s) (min (tr s) D.infRung)):=by
 obtain ⟨m,i,P,rx,hP,vx,-⟩:=read_fin s h;unfold Format.mul;rw [show D.read ten=.number false 5629499534213120 (-49) by decide,rx];unfold Datum.product;dsimp only [KB];unfold Format.write;dsimp only;rw [nearest_eq _ _ _ P 49 (by omega),K2,vx,Bool.false_xor];rfl
theorem ten_mul (s:Nat) (h:fin s):D.mul s ten=some (D.word (sg s) (min (tr s) D.infRung)):=by
 rw [<-mul_ten s h];obtain ⟨m,i,P,rx,hP,vx,-⟩:=read_fin s h;unfold Format.mul;rw [show D.read ten=.number false 5629499534213120 (-49) by decide,rx];unfold Datum.product;dsimp only;rw [K7,Int.add_comm,Bool.xor_comm]
theorem tr_top:tr 4652006429231887155=4666722622711529472:=by decide +kernel
theorem tr_mono {s t:Nat} (h:rung s<=rung t):tr s<=tr t:=rungV_mono 49 (qn _ (val_le h))
theorem tr_hi {s:Nat} (h:ok s=true):tr s<=4666722622711529472:=by
 rw [<-tr_top];exact tr_mono (ok_rung h).1
def xw (s:Nat):Nat:=D.word (sg s) (tr s)
theorem mul_ok {s:Nat} (h:ok s=true):D.mul ten s=some (xw s)/\D.mul s ten=some (xw s):=by
 have e:min (tr s) D.infRung=tr s:=kW (by have:=tr_hi h;rw [inf_eq];omega);rw [mul_ten s (ok_fin h),ten_mul s (ok_fin h),e];exact ⟨rfl,rfl⟩
theorem xw_rung {s:Nat} (h:ok s=true):rung (xw s)=tr s:=word_rung _ _ (by have:=tr_hi h;omega)
theorem xw_sg {s:Nat} (h:ok s=true):sg (xw s)=sg s:=word_sg _ _ (by have:=tr_hi h;omega)
theorem xw_fin {s:Nat} (h:ok s=true):fin (xw s):=by unfold fin;rw [xw_rung h];have:=tr_hi h;omega
def tk (s:Nat):Nat:=rhe (val (tr s)) T
theorem val_9999:val 4666722622711529472=9999*2 ^ T:=by
 have:irung 9999=4666722622711529472:=by
  unfold irung;rw [T_eq];decide +kernel
 rw [<-this,val_irung 9999 (by omega)]
theorem tk_hi {s:Nat} (h:ok s=true):tk s<=9999:=by
 have h1:tk s<=rhe (9999*2 ^ T) T:=rhe_mono _ _ _ (by rw [<-val_9999];exact val_le (tr_hi h))
 have h2:rhe (9999*2 ^ T) T=9999:=by
  have:=rhe_scale 9999 0 T;rw [kE,rhe_zero] at this;exact this
 omega
def rw' (s:Nat):Nat:=D.word (sg s) (irung (tk s))
theorem round_ok {s:Nat} (h:ok s=true):D.write ((D.read (xw s)).integral .even)=rw' s:=by
 have hh:=tk_hi h;rw [integral_even _ (xw_fin h),xw_rung h,xw_sg h];rw [write_int _ _ (by unfold tk at hh;omega)];rfl
theorem tr_zero {s:Nat} (h:rung s=0):tr s=0:=by unfold tr;rw [h];decide
theorem tk_zero {s:Nat} (h:rung s=0):tk s=0:=by
 unfold tk;rw [tr_zero h];have:=rhe_scale 0 0 T;rw [kE,rhe_zero,kZ] at this;exact this
theorem int_ok {s:Nat} (h:ok s=true):floatToIntVal .f64 (rw' s) .i64=some (tk s:Int):=by
 have hh:=tk_hi h
 have e:(D.read (rw' s)).toInt .zero=some (tk s:Int):=by
  by_cases hs:sg s=true
  ·have h0:=tk_zero ((ok_rung h).2 hs);unfold rw';rw [hs,h0];have:irung 0=0:=by unfold irung;rw [kZ];decide
   rw [this];decide
  exact irung_toInt _ _ (by omega) (by simpa using hs)
 unfold floatToIntVal;have e':(qN .f64 (rw' s)).toInt .zero=some (tk s:Int):=e;rw [e'];simp only;rw [if_pos];rw [show Q8 .i64 = -9223372036854775808 by decide,show Q9 .i64=9223372036854775807 by decide];omega
def qk (s:Nat):Nat:=val (tr s) / 2 ^ T
theorem cut_ok {s:Nat} (h:ok s=true):floatToIntVal .f64 (xw s) .i64=some (qk s:Int):=by
 have hh:qk s<=tk s:=rhe_lo _ _;have hh':=tk_hi h
 have e:(D.read (xw s)).toInt .zero=some (qk s:Int):=by
  by_cases hs:sg s=true
  ·have h0:=tr_zero ((ok_rung h).2 hs);unfold xw qk;rw [hs,h0];rw [show val 0=0 by decide,Q5];decide
  rw [toInt_zero _ (xw_fin h) (by rw [xw_sg h];simpa using hs),xw_rung h];rfl
 unfold floatToIntVal;have e':(qN .f64 (xw s)).toInt .zero=some (qk s:Int):=e;rw [e'];simp only;rw [if_pos];rw [show Q8 .i64 = -9223372036854775808 by decide,show Q9 .i64=9223372036854775807 by decide];omega
theorem float_of (n:Nat) (h:n < 9007199254740992):floatOfInt .f64 (n:Int)=irung n:=by
 show D.write (.number (decide ((n:Int) < 0)) (n:Int).natAbs 0)=_;rw [show (n:Int).natAbs=n by omega,write_int _ n h,decide_eq_false (by omega)];rfl
def lw (s:Nat):Nat:=(D.sub (xw s) (irung (qk s))).getD 0
theorem val_half:val half*2=2 ^ T:=by
 have h1:val 4607182418800017408=1*2 ^ T:=by
  have:irung 1=4607182418800017408:=by unfold irung;rw [T_eq];decide +kernel
  rw [<-this,val_irung 1 (by omega)]
 rw [Ki] at h1;rw [<-h1];unfold val
 rw [if_neg (by decide),if_neg (by decide),show (half % 4503599627370496)=0 by decide,show (4607182418800017408 % 4503599627370496)=0 by decide,
  show 4607182418800017408 / 4503599627370496 - 1=(half / 4503599627370496 - 1)+1 by decide,qD,K2]
theorem rest_ok {s:Nat} (h:ok s=true):D.sub (xw s) (irung (qk s))=some (lw s)/\isn (lw s)=false
  /\ (decide (key half < key (lw s))=decide (2 ^ T < 2*(val (tr s) % 2 ^ T)))/\(decide (key (lw s)=key half)=(2 ^ T == 2*(val (tr s) % 2 ^ T))):=by
 have hq:qk s<=9999:=kb (rhe_lo _ _) (tk_hi h);have hi:=irung_lt (qk s) (by omega);have ri:rung (irung (qk s))=irung (qk s):=by unfold rung;omega
 have si:sg (irung (qk s))=false:=by unfold sg;simp;omega
 obtain ⟨sn,he,hneg⟩:=sub_fin (xw s) (irung (qk s)) (xw_fin h) (by unfold fin;rw [ri];exact hi)
 have hv2:sval (irung (qk s))=((qk s*2 ^ T:Nat):Int):=by
  unfold sval;rw [si,ri,val_irung _ (by omega)];rfl
 have hv1:sval (xw s)=(val (tr s):Int):=by
  unfold sval;rw [xw_sg h,xw_rung h];by_cases hs:sg s=true
  ·rw [tr_zero ((ok_rung h).2 hs),hs];decide
  simp [hs]
 have hdm:=Kg (val (tr s)) (2 ^ T)
 have hd:sval (xw s) - sval (irung (qk s))=((val (tr s) % 2 ^ T:Nat):Int):=by
  rw [hv1,hv2];unfold qk;rw [K7 (val (tr s) / 2 ^ T)];omega
 rw [hd] at he hneg;rw [show ((val (tr s) % 2 ^ T:Nat):Int).natAbs=val (tr s) % 2 ^ T by omega] at he
 have thinF:(val (tr s) % 2 ^ T) % 2 ^ ((val (tr s) % 2 ^ T).log2 - 52)=0:=by
  have e:∃ c e,c < 9007199254740992/\val (tr s)=c*2 ^ e:=by
   unfold val;split
   ·exact ⟨tr s,0,by omega,by simp⟩
   exact ⟨_,_,by have:=K1 (tr s) (show 0 < 4503599627370496 by decide);omega,rfl⟩
  obtain ⟨c,e,hc,he⟩:=e;rw [he];by_cases hT:T<=e
  ·have:c*2 ^ e % 2 ^ T=0:=q3 (qZ (qS 2 hT) (qM _ _));rw [this];rfl
  rw [show T=(T - e)+e by omega,kB,q7];exact thin _ e (Nat.lt_of_le_of_lt (Nat.mod_le _ _) hc)
 have hval:=val_rungV _ thinF;have hmod:val (tr s) % 2 ^ T < 2 ^ T:=K1 _ (kj T)
 have hlt:rungV 0 (val (tr s) % 2 ^ T) < 9218868437227405312:=by
  refine KZ fun hh=>?_;have h1:=val_le hh;rw [hval] at h1;have h2:=lt_val_inf (val (tr s) % 2 ^ T) (KL hmod (ky (by decide) (by omega)));omega
 rw [kW (by rw [inf_eq];omega)] at he;have hlw:lw s=D.word sn (rungV 0 (val (tr s) % 2 ^ T)):=by unfold lw;rw [he];rfl
 have hr:rung (lw s)=rungV 0 (val (tr s) % 2 ^ T):=by rw [hlw];exact word_rung _ _ (by omega)
 have hs2:sg (lw s)=sn:=by rw [hlw];exact word_sg _ _ (by omega)
 have hkey:key (lw s)=(rungV 0 (val (tr s) % 2 ^ T):Int):=by
  unfold key;rw [hr,hs2];by_cases h0:val (tr s) % 2 ^ T=0
  ·rw [h0,show rungV 0 0=0 by decide];simp
  have:=hneg (by omega);rw [decide_eq_false (by omega)] at this;rw [this];rfl
 have hkh:key half=4602678819172646912:=by decide
 have hvh:=val_half;refine ⟨by rw [he,hlw],?_,?_,?_⟩
 ·unfold isn;rw [hr];exact decide_eq_false (by omega)
 ·rw [hkey,hkh];apply decide_eq_decide.2;constructor
  ·intro hh;have:val half < val (rungV 0 (val (tr s) % 2 ^ T)):=val_lt (by unfold half;omega);rw [hval] at this;omega
  intro hh
  have:¬ rungV 0 (val (tr s) % 2 ^ T)<=half:=fun hle=>by
   have:=val_le hle;rw [hval] at this;omega
  unfold half at this;omega
 rw [hkey,hkh,q4,decide_eq_true_iff,beq_iff_eq];constructor
 ·intro hh;have:rungV 0 (val (tr s) % 2 ^ T)=half:=by unfold half;omega
  rw [this] at hval;omega
 intro hh;have h1:val (rungV 0 (val (tr s) % 2 ^ T))=val half:=by rw [hval];omega
 rcases qv (rungV 0 (val (tr s) % 2 ^ T)) half with hl | hl | hl
 ·have:=val_lt hl;omega
 ·unfold half at hl;omega
 have:=val_lt hl;omega
theorem tk_qk (s:Nat):tk s=qk s+(decide (2 ^ T < 2*(val (tr s) % 2 ^ T)) || (2 ^ T == 2*(val (tr s) % 2 ^ T) && qk s % 2 == 1)).toNat:=rfl
def ofB (n:Nat):Nat:=(D.div (floatOfInt .f64 (n:Int)) ten).getD 0
end Go.Proofs.Fl
namespace Go.Proofs.YtonpphjleapafaaGreat
end Go.Proofs.YtonpphjleapafaaGreat
