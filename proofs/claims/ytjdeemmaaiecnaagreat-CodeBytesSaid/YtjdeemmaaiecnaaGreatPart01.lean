/- 9 texts in one file, in build order. -/
import Derived.Deep.MidRow
import Derived.Below
import Derived.Test.YtjdeemmaaiecnaaGreatRows
import Derived.WalkKit
import Derived.ProofKit
import Derived.LoopTactic
import Derived.Lib.Hide
import Derived.Laws.Rows
import Derived.Deep.Cut
import Derived.Deep.QuietTactic
import Derived.StillTail
import Derived.StillTailTactics
import Derived.BigQuiet
import Derived.IntWalk
import Derived.Deep.WholeRow
import Derived.Laws.BitsAllLaws
import Derived.Lib.SlBytesConst
import Derived.OpenShut
import Derived.Laws.AppendOwnNone
import Derived.Laws.CopyOwn
import Derived.OwnWalk
import Derived.Laws.ShiftsVarLaws
set_option linter.unusedVariables false
set_option linter.unusedSimpArgs false
set_option linter.unusedSectionVars false
set_option maxHeartbeats 8000000
set_option maxRecDepth 100000
namespace Go.Proofs.YtjdeemmaaiecnaaGreat
namespace Tab
open Go Go.RowKit
abbrev I (n:Int):Value:=.int .i64 n
abbrev F (n:Nat):Value:=.float .f64 n
structure Ph where
 on:Bool
 min:Int
 gap:Int
 max:Int
 top:Int
 step:Int
 yellow:Int
 red:Int
 walk:Int
 blinks:Int
 recall:Int
 lock:Bool
 rest:Bool
 deriving DecidableEq,Inhabited
structure Det where
 phase:Int
 on:Nat
 off:Nat
 delay:Nat
 extend:Nat
 maxOn:Int
 maxOff:Int
 deriving DecidableEq,Inhabited
structure Rl where
 bars:Int
 clear:Int
 dwell:Int
 exit:Int
 delay:Int
 green:Int
 foot:Int
 hold:Int
 stay:Int
 most:Int
 limit:Int
 deriving DecidableEq,Inhabited
structure Bs where
 set:Int
 lock:Int
 deriving DecidableEq,Inhabited
structure Tab where
 phases:List Ph
 groups:List (List Int × List Int)
 conflict:List Int
 dets:List Det
 rails:List Rl
 buses:List Bs
 extend:Int
 budget:Int
 start:Int
 revert:Int
 least:Int
 flash:List Int
 window:Int
 share:Int
 deriving DecidableEq,Inhabited
def Ph.cells (p:Ph):List Value:=[.bool p.on,I p.min,I p.gap,I p.max,I p.top,I p.step,I p.yellow,I p.red,I p.walk,I p.blinks,I p.recall,.bool p.lock,.bool p.rest]
def Det.cells (d:Det):List Value:=[I d.phase,F d.on,F d.off,F d.delay,F d.extend,I d.maxOn,I d.maxOff]
def Rl.cells (r:Rl):List Value:=[I r.bars,I r.clear,I r.dwell,I r.exit,I r.delay,I r.green,I r.foot,I r.hold,I r.stay,I r.most,I r.limit]
def Bs.cells (b:Bs):List Value:=[I b.set,I b.lock]
structure Sl where
 a:Option Addr
 cap:Nat
abbrev Sl.val (s:Sl) (n:Nat):Value:=.slice s.a n s.cap
def Lies (w:World) (x:Addr) (cs:List Value):Prop:=∀ j v,cs[j]?=some v→w.cell? (x.add j)=some v
def RowOf {α:Type} (n:Nat) (enc:α→List Value) (w:World) (s:Sl) (l:List α):Prop :=
 (s.a=none∧s.cap=0∧l=[])∨∃ x,s.a=some x∧l.length≤s.cap∧s.cap≤maxLen∧∀ i v,l[i]?=some v→Lies w (x.add (i*n)) (enc v)
abbrev IntRow (w:World) (s:Sl) (l:List Int):Prop:=RowOf 1 (fun n=>[I n]) w s l
theorem add_zero (x:Addr):x.add 0=x:=by cases x;simp [Addr.add]
theorem add_one (y:Addr):y.add 1=⟨y.block,y.off+1,none⟩:=by simp [Addr.add]
theorem add_two (x:Addr) (p i:Nat):(x.add p).add i=x.add (p+i):=by
 unfold Addr.add
 by_cases hp:p=0
 ·subst hp;simp
 ·by_cases hi:i=0
  ·subst hi;simp
  ·simp [hp,hi,show ¬ (p+i=0) by omega,Nat.add_assoc]
theorem Lies.below {w w':World} {x:Addr} {cs:List Value} (h:Lies w x cs) (hb:Below w.heap.size w w'):Lies w' x cs:=fun j v hv =>
 (hb.cell (World.block_lt_of_cell? w _ (h j v hv))).trans (h j v hv)
section
variable {α:Type} {n:Nat} {enc:α→List Value} {w w':World} {s:Sl} {l:List α}
theorem RowOf.below (h:RowOf n enc w s l) (hb:Below w.heap.size w w'):RowOf n enc w' s l:=by
 rcases h with h | ⟨x,h1,h2,h3,h4⟩
 ·exact .inl h
 ·exact .inr ⟨x,h1,h2,h3,fun i v hv=>(h4 i v hv).below hb⟩
theorem RowOf.len (h:RowOf n enc w s l):l.length≤s.cap∧s.cap≤maxLen:=by
 rcases h with ⟨_,h1,rfl⟩ | ⟨x,h1,h2,h3,h4⟩
 ·rw [h1];exact ⟨Nat.le_refl _,Nat.zero_le _⟩
 ·exact ⟨h2,h3⟩
theorem RowOf.at (h:RowOf n enc w s l) {i:Nat} {v:α} (hv:l[i]?=some v):∃ x,s.a=some x∧Lies w (x.add (i*n)) (enc v):=by
 rcases h with ⟨_,_,rfl⟩ | ⟨x,h1,h2,h3,h4⟩
 ·simp at hv
 ·exact ⟨x,h1,h4 i v hv⟩
theorem RowOf.nil (w:World):RowOf n enc w ⟨none,0⟩ []:=.inl ⟨rfl,rfl,rfl⟩
theorem IntRow.at {s:Sl} {l:List Int} (h:IntRow w s l) {i:Nat} {v:Int} (hv:l[i]?=some v):∃ x,s.a=some x∧w.cell? (x.add i)=some (I v):=by
 obtain ⟨x,hx,hl⟩:=RowOf.at h hv
 have:=hl 0 _ rfl
 rw [Nat.mul_one,add_two,Nat.add_zero] at this
 exact ⟨x,hx,this⟩
end
structure Gr where
 r0:List Int
 r1:List Int
 s0:Sl
 s1:Sl
def Gr.cells (g:Gr):List Value:=[g.s0.val g.r0.length,g.s1.val g.r1.length]
def Gr.ok (w:World) (g:Gr):Prop:=IntRow w g.s0 g.r0∧IntRow w g.s1 g.r1
def Gr.data (g:Gr):List Int × List Int:=(g.r0,g.r1)
def GroupsLie (w:World) (s:Sl) (gs:List Gr):Prop:=RowOf 2 Gr.cells w s gs∧∀ g ∈ gs,g.ok w
theorem Gr.ok.below {w w':World} {g:Gr} (h:g.ok w) (hb:Below w.heap.size w w'):g.ok w':=⟨h.1.below hb,h.2.below hb⟩
theorem GroupsLie.below {w w':World} {s:Sl} {gs:List Gr} (h:GroupsLie w s gs) (hb:Below w.heap.size w w'):GroupsLie w' s gs:=⟨h.1.below hb,fun g hg=>(h.2 g hg).below hb⟩
theorem Ph.one (p:Ph):p.cells.toArray.all (·.oneCell')=true:=by simp [Ph.cells,Value.oneCell']
theorem Det.one (d:Det):d.cells.toArray.all (·.oneCell')=true:=by simp [Det.cells,Value.oneCell']
theorem Rl.one (r:Rl):r.cells.toArray.all (·.oneCell')=true:=by simp [Rl.cells,Value.oneCell']
theorem Bs.one (b:Bs):b.cells.toArray.all (·.oneCell')=true:=by simp [Bs.cells,Value.oneCell']
theorem Gr.one (g:Gr):g.cells.toArray.all (·.oneCell')=true:=by simp [Gr.cells,Value.oneCell']
structure Hd where
 g:Sl
 d:Sl
 r:Sl
 b:Sl
def Tab.cells (T:Tab) (h:Hd):List Value :=
 T.phases.flatMap Ph.cells++(h.g.val T.groups.length :: (T.conflict.map I++(h.d.val T.dets.length :: h.r.val T.rails.length :: h.b.val T.buses.length :: I T.extend :: I T.budget :: I T.start :: I T.revert :: I T.least ::
  (T.flash.map I++[I T.window,I T.share]))))
structure IsTab (w:World) (h:Hd) (T:Tab):Prop where
 ph:T.phases.length=8
 cf:T.conflict.length=8
 fl:T.flash.length=8
 groups:∃ gs:List Gr,gs.map Gr.data=T.groups∧GroupsLie w h.g gs
 dets:RowOf 7 Det.cells w h.d T.dets
 rails:RowOf 11 Rl.cells w h.r T.rails
 buses:RowOf 2 Bs.cells w h.b T.buses
theorem IsTab.below {w w':World} {h:Hd} {T:Tab} (k:IsTab w h T) (hb:Below w.heap.size w w'):IsTab w' h T :=
 ⟨k.ph,k.cf,k.fl,let ⟨gs,h1,h2⟩:=k.groups;⟨gs,h1,h2.below hb⟩,k.dets.below hb,k.rails.below hb,k.buses.below hb⟩
theorem eight {α:Type} {l:List α} (h:l.length=8):∃ a0 a1 a2 a3 a4 a5 a6 a7,l=[a0,a1,a2,a3,a4,a5,a6,a7]:=by
 match l,h with
 | [a0,a1,a2,a3,a4,a5,a6,a7],_=>exact ⟨a0,a1,a2,a3,a4,a5,a6,a7,rfl⟩
structure CellsOk (T:Tab) (h:Hd) (cs:Array Value):Prop where
 size:cs.size=131
 one:cs.all (·.oneCell')=true
 g:cs[104]?=some (h.g.val T.groups.length)
 d:cs[113]?=some (h.d.val T.dets.length)
 r:cs[114]?=some (h.r.val T.rails.length)
 b:cs[115]?=some (h.b.val T.buses.length)
 extend:cs[116]?=some (I T.extend)
 budget:cs[117]?=some (I T.budget)
 start:cs[118]?=some (I T.start)
 revert:cs[119]?=some (I T.revert)
 least:cs[120]?=some (I T.least)
 window:cs[129]?=some (I T.window)
 share:cs[130]?=some (I T.share)
 phases:cs.toList.take 104=T.phases.flatMap Ph.cells
 conflict:(cs.toList.drop 105).take 8=T.conflict.map I
 flash:(cs.toList.drop 121).take 8=T.flash.map I
 phase:∀ i p,T.phases[i]?=some p→(cs.toList.drop (13*i)).take 13=p.cells
theorem cells_ok {w:World} {h:Hd} {T:Tab} (k:IsTab w h T):CellsOk T h (T.cells h).toArray:=by
 obtain ⟨p0,p1,p2,p3,p4,p5,p6,p7,hp⟩:=eight k.ph
 obtain ⟨c0,c1,c2,c3,c4,c5,c6,c7,hc⟩:=eight k.cf
 obtain ⟨f0,f1,f2,f3,f4,f5,f6,f7,hf⟩:=eight k.fl
 clear k
 obtain ⟨phases,groups,conflict,dets,rails,buses,extend,budget,start,revert,least,flash,window,share⟩:=T
 simp only at hp hc hf
 subst hp hc hf
 constructor
 all_goals try rfl
 case one=>simp [Tab.cells,Ph.cells,Value.oneCell']
 intro i p hp
 match i,hp with
 | 0,hp | 1,hp | 2,hp | 3,hp | 4,hp | 5,hp | 6,hp | 7,hp=>
  obtain rfl:=Option.some.inj hp
  rfl
 | i+8,hp=>cases hp
theorem phases_len {l:List Ph}:(l.flatMap Ph.cells).length=13*l.length:=by
 induction l with
 | nil=>rfl
 | cons p l ih=>rw [List.flatMap_cons,List.length_append,ih,List.length_cons];simp [Ph.cells];omega
theorem phases_inj:∀ {l m:List Ph},l.flatMap Ph.cells=m.flatMap Ph.cells→l=m
 | [],[],_=>rfl
 | [],q :: m,h=>by simp [Ph.cells] at h
 | p :: l,[],h=>by simp [Ph.cells] at h
 | p :: l,q :: m,h=>by
  rw [List.flatMap_cons,List.flatMap_cons] at h
  obtain ⟨h1,h2⟩:=List.append_inj h (by simp [Ph.cells])
  rw [phases_inj h2]
  obtain ⟨⟩:=p
  obtain ⟨⟩:=q
  simp [Ph.cells] at h1
  simp [h1]
theorem ints_inj:∀ {l m:List Int},l.map I=m.map I→l=m
 | [],[],_=>rfl
 | [],_ :: _,h=>by simp at h
 | _ :: _,[],h=>by simp at h
 | a :: l,b :: m,h=>by
  simp only [List.map_cons,List.cons.injEq,Value.int.injEq,true_and] at h
  rw [h.1,ints_inj h.2]
theorem range_of {w:World} {b:Nat} {C:Array Value} {t:TypeId} {fr:Nat × Nat} (hb:w.heap[b]?=some (.cells C t fr)) (o n:Nat) (cs:List Value) (h:(C.toList.drop o).take n=cs):w.rangeAt b o cs:=by
 subst h
 have h1:=World.rangeAt_of_block hb o n
 rwa [Array.toList_extract,List.extract,Nat.add_sub_cancel_left] at h1
end Tab
namespace Po
open Go Go.RowKit
open Tab
abbrev Flt:Type:=Int × Int
structure PP where
 σ:Type
 num:σ→Int→Int→Int→Except Flt (Int × σ)
 flt:σ→Bool→Nat→Except Flt (Nat × σ)
 flg:σ→Bool→Except Flt (Bool × σ)
inductive Sp where
 | num (size most:Int) (j:Nat)
 | flt (lv:Bool) (j:Nat)
 | flg (j:Nat)
def Sp.run (P:PP) (l:List Value) (s:P.σ):Sp→Except Flt (List Value × P.σ)
 | .num size most j=>match l[j]? with
  | some (.int .i64 x)=>match P.num s size most x with
   | .ok (y,s')=>.ok (l.set j (I y),s')
   | .error f=>.error f
  | _=>.ok (l,s)
 | .flt lv j=>match l[j]? with
  | some (.float .f64 x)=>match P.flt s lv x with
   | .ok (y,s')=>.ok (l.set j (.float .f64 y),s')
   | .error f=>.error f
  | _=>.ok (l,s)
 | .flg j=>match l[j]? with
  | some (.bool x)=>match P.flg s x with
   | .ok (y,s')=>.ok (l.set j (.bool y),s')
   | .error f=>.error f
  | _=>.ok (l,s)
def runs (P:PP):List Sp→List Value→P.σ→Except Flt (List Value × P.σ)
 | [],l,s=>.ok (l,s)
 | c :: cs,l,s=>match c.run P l s with
  | .ok (l',s')=>runs P cs l' s'
  | .error f=>.error f
theorem runs_append (P:PP):∀ (a b:List Sp) (l:List Value) (s:P.σ),runs P (a++b) l s=match runs P a l s with
  | .ok (l',s')=>runs P b l' s'
  | .error f=>.error f
 | [],b,l,s=>rfl
 | c :: a,b,l,s=>by
  rw [List.cons_append,runs,runs]
  cases c.run P l s with
  | ok r=>exact runs_append P a b r.1 r.2
  | error f=>rfl
theorem run_len (P:PP) (c:Sp) {l:List Value} {s:P.σ} {l':List Value} {s':P.σ} (h:c.run P l s=.ok (l',s')):l'.length=l.length:=by
 cases c <;> simp only [Sp.run] at h <;> split at h <;> (try split at h) <;> (try cases h) <;> simp
theorem runs_len (P:PP):∀ (cs:List Sp) {l:List Value} {s:P.σ} {l':List Value} {s':P.σ},runs P cs l s=.ok (l',s')→l'.length=l.length
 | [],l,s,l',s',h=>by cases h;rfl
 | c :: cs,l,s,l',s',h=>by
  rw [runs] at h
  cases hc:c.run P l s with
  | ok r=>rw [hc] at h;rw [runs_len P cs h,run_len P c hc]
  | error f=>rw [hc] at h;cases h
def kind:Value→Nat
 | .int .i64 _=>0
 | .bool _=>1
 | .float .f64 _=>2
 | _=>3
theorem kind0 {v:Value} (h:kind v=0):∃ x,v=I x:=by unfold kind at h;split at h <;> first | exact ⟨_,rfl⟩ | cases h
theorem kind1 {v:Value} (h:kind v=1):∃ x,v=.bool x:=by unfold kind at h;split at h <;> first | exact ⟨_,rfl⟩ | cases h
theorem kind2 {v:Value} (h:kind v=2):∃ x,v=.float .f64 x:=by unfold kind at h;split at h <;> first | exact ⟨_,rfl⟩ | cases h
theorem kind_at {l:List Value} {ks:List Nat} (h:l.map kind=ks) {j k:Nat} (hk:ks[j]?=some k):∃ v,l[j]?=some v∧kind v=k:=by
 rw [← h,List.getElem?_map] at hk
 exact Option.map_eq_some_iff.1 hk
theorem int_at {l:List Value} {ks:List Nat} (h:l.map kind=ks) {j:Nat} (hk:ks[j]?=some 0):∃ x,l[j]?=some (I x):=by
 obtain ⟨v,h1,h2⟩:=kind_at h hk
 obtain ⟨x,rfl⟩:=kind0 h2
 exact ⟨x,h1⟩
theorem bool_at {l:List Value} {ks:List Nat} (h:l.map kind=ks) {j:Nat} (hk:ks[j]?=some 1):∃ x,l[j]?=some (.bool x):=by
 obtain ⟨v,h1,h2⟩:=kind_at h hk
 obtain ⟨x,rfl⟩:=kind1 h2
 exact ⟨x,h1⟩
theorem flt_at {l:List Value} {ks:List Nat} (h:l.map kind=ks) {j:Nat} (hk:ks[j]?=some 2):∃ x,l[j]?=some (.float .f64 x):=by
 obtain ⟨v,h1,h2⟩:=kind_at h hk
 obtain ⟨x,rfl⟩:=kind2 h2
 exact ⟨x,h1⟩
theorem map_set {l:List Value} {j:Nat} {v u:Value} (hv:l[j]?=some v) (h:kind u=kind v):(l.set j u).map kind=l.map kind:=by
 apply List.ext_getElem?
 intro i
 rw [List.getElem?_map,List.getElem?_map,List.getElem?_set]
 split
 ·rename_i e
  subst e
  rw [if_pos (List.getElem?_eq_some_iff.1 hv).1,hv]
  simp [h]
 ·rfl
theorem run_kind (P:PP) (c:Sp) {l:List Value} {s:P.σ} {l':List Value} {s':P.σ} (h:c.run P l s=.ok (l',s')):l'.map kind=l.map kind:=by
 cases c <;> simp only [Sp.run] at h <;> split at h
 all_goals first
  | (rename_i hv;split at h <;> first | (cases h;exact map_set hv rfl) | cases h)
  | (cases h;rfl)
theorem runs_kind (P:PP):∀ (cs:List Sp) {l:List Value} {s:P.σ} {l':List Value} {s':P.σ},runs P cs l s=.ok (l',s')→l'.map kind=l.map kind
 | [],l,s,l',s',h=>by cases h;rfl
 | c :: cs,l,s,l',s',h=>by
  rw [runs] at h
  cases hc:c.run P l s with
  | ok r=>rw [hc] at h;rw [runs_kind P cs h,run_kind P c hc]
  | error f=>rw [hc] at h;cases h
theorem runs_one (P:PP) (c:Sp) (l:List Value) (s:P.σ):runs P [c] l s=c.run P l s:=by
 rw [runs]
 cases c.run P l s with
 | ok r=>rfl
 | error f=>rfl
def wrt (cs:Array Value) (o:Nat) (l:List Value):Array Value:=(cs.toList.take o++l++cs.toList.drop (o+l.length)).toArray
theorem wrt_at {cs:Array Value} {o:Nat} {l:List Value} (h:o+l.length≤cs.size) {j:Nat} (hj:j < l.length):(wrt cs o l)[o+j]?=l[j]?:=by
 have hcs:cs.toList.length=cs.size:=Array.length_toList
 unfold wrt
 rw [List.getElem?_toArray,List.append_assoc,List.getElem?_append_right (by rw [List.length_take,hcs];omega),List.length_take,hcs,Nat.min_eq_left (by omega),show o+j - o=j by omega,List.getElem?_append_left hj]
theorem wrt_set {cs:Array Value} {o:Nat} {l:List Value} (h:o+l.length≤cs.size) {j:Nat} (hj:j < l.length) (v:Value):(wrt cs o l).setIfInBounds (o+j) v=wrt cs o (l.set j v):=by
 have hcs:cs.toList.length=cs.size:=Array.length_toList
 unfold wrt
 rw [List.setIfInBounds_toArray,List.append_assoc,List.set_append_right _ _ (by rw [List.length_take,hcs];omega),List.length_take,hcs,Nat.min_eq_left (by omega),show o+j - o=j by omega,List.set_append_left _ _ hj,List.length_set,List.append_assoc]
theorem wrt_same {cs:Array Value} {o:Nat} {l:List Value} (h:o+l.length≤cs.size) (hl:∀ j,j < l.length→cs[o+j]?=l[j]?):wrt cs o l=cs:=by
 have hcs:cs.toList.length=cs.size:=Array.length_toList
 apply Array.ext'
 apply List.ext_getElem?
 intro i
 unfold wrt
 simp only
 rw [List.append_assoc,List.getElem?_append]
 split
 ·rename_i hi
  rw [List.length_take,hcs] at hi
  rw [List.getElem?_take,if_pos (by omega)]
 ·rename_i hi
  rw [List.length_take,hcs,Nat.min_eq_left (by omega)] at hi ⊢
  rw [List.getElem?_append]
  split
  ·rename_i h2
   rw [← hl _ h2,Array.getElem?_toList,show o+(i - o)=i by omega]
  ·rename_i h2
   rw [List.getElem?_drop,show o+l.length+(i - o - l.length)=i by omega]
def Pt (t:TypeId):Prop:=t=5∨t=92∨t=95
instance (t:TypeId):Decidable (Pt t):=by unfold Pt;infer_instance
structure Mv (B b:Nat) (W W':World):Prop where
 low:Below B W W'
 other:∀ (j:Nat) (cs:Array Value) (t:TypeId) (fr:Nat × Nat),W.heap[j]?=some (.cells cs t fr)→¬ Pt t→j ≠ b→W'.heap[j]?=W.heap[j]?
theorem Mv.refl (B b:Nat) (W:World):Mv B b W W:=⟨Below.refl _ _,fun _ _ _ _ _ _ _=>rfl⟩
theorem Mv.trans {B b:Nat} {W V U:World} (h:Mv B b W V) (k:Mv B b V U):Mv B b W U :=
 ⟨h.low.trans k.low,fun j cs t fr hj ht hb=>(k.other j cs t fr ((h.other j cs t fr hj ht hb).trans hj) ht hb).trans (h.other j cs t fr hj ht hb)⟩
theorem Mv.of {B b:Nat} {W V:World} (h:Below W.heap.size W V) (hB:B≤W.heap.size):Mv B b W V :=
 ⟨h.mono hB,fun j cs t fr hj _ _=>h.block j (Array.getElem?_eq_some_iff.1 hj).1⟩
abbrev fault (f:Flt):Value:=.iface 36 (.agg #[I f.1,I f.2])
def Ends (P:PP) (R:P.σ→World→Prop) (B b o:Nat) (cs:Array Value) (t:TypeId) (fr:Nat × Nat) (r:Except Flt (List Value × P.σ)) (W:World) (e:Ending) (W':World):Prop:=match r with
 | .ok (l',s')=>e=.returned (.tuple #[])∧R s' W'∧Mv B b W W'∧W'.heap[b]?=some (.cells (wrt cs o l') t fr)
 | .error f=>e=.panicked [{ v:=fault f,recovered:=false }]∧Below B W W'
def mark:Flt:=(-1,-1)
def Fit {α:Type} (r:Except Flt α):Prop:=r ≠ .error mark
structure Port (P:PP) (R:P.σ→World→Prop) (B:Nat) (ok:Nat→Nat × Nat→Prop) (ti:TypeId) (v rv:Value) (FN FF FG:FuncId):Prop where
 mn:∀ n w,(method (n+1) ti v "crossbuck/code.number").run Tryz.prog w=.ok (FN,rv) w
 mf:∀ n w,(method (n+1) ti v "crossbuck/code.float").run Tryz.prog w=.ok (FF,rv) w
 mg:∀ n w,(method (n+1) ti v "crossbuck/code.flag").run Tryz.prog w=.ok (FG,rv) w
 nn:∀ n w,(nilAhead (n+1) ti v "crossbuck/code.number").run Tryz.prog w=.ok (some false) w
 nf:∀ n w,(nilAhead (n+1) ti v "crossbuck/code.float").run Tryz.prog w=.ok (some false) w
 ng:∀ n w,(nilAhead (n+1) ti v "crossbuck/code.flag").run Tryz.prog w=.ok (some false) w
 en:∀ (args:Array Value) (w:World),(callFunc FN args).run Tryz.prog w=.ok (.enter FN args) w
 ef:∀ (args:Array Value) (w:World),(callFunc FF args).run Tryz.prog w=.ok (.enter FF args) w
 eg:∀ (args:Array Value) (w:World),(callFunc FG args).run Tryz.prog w=.ok (.enter FG args) w
 stay:∀ s W W',R s W→W.heap.size≤W'.heap.size→(∀ (j:Nat) (cs:Array Value) (t:TypeId) (fr:Nat × Nat),W.heap[j]?=some (.cells cs t fr)→Pt t→W'.heap[j]?=W.heap[j]?)→R s W'
 new:∀ b,B≤b→ok b (0,0)
 num:∀ (s:P.σ) (W:World) (b o:Nat) (cs:Array Value) (t:TypeId) (fr:Nat × Nat) (l:List Value) (size most:Int) (j:Nat) (x:Int),R s W→B≤W.heap.size→ok b fr→b < B∨¬ Pt t→o+l.length≤cs.size→W.heap[b]?=some (.cells (wrt cs o l) t fr)→l[j]?=some (I x)→Fit (Sp.run P l s (.num size most j)) →
  Calls Tryz.prog FN #[rv,.int .i64 size,.int .i64 most,.pointer (some ⟨b,o+j,none⟩)] W (Ends P R B b o cs t fr (Sp.run P l s (.num size most j)) W)
 flt:∀ (s:P.σ) (W:World) (b o:Nat) (cs:Array Value) (t:TypeId) (fr:Nat × Nat) (l:List Value) (lv:Bool) (j x:Nat),R s W→B≤W.heap.size→ok b fr→b < B∨¬ Pt t→o+l.length≤cs.size→W.heap[b]?=some (.cells (wrt cs o l) t fr)→l[j]?=some (.float .f64 x)→Fit (Sp.run P l s (.flt lv j)) →
  Calls Tryz.prog FF #[rv,.pointer (some ⟨b,o+j,none⟩),.func (.func (if lv=true then 95 else 96)) #[] #[]] W (Ends P R B b o cs t fr (Sp.run P l s (.flt lv j)) W)
 flg:∀ (s:P.σ) (W:World) (b o:Nat) (cs:Array Value) (t:TypeId) (fr:Nat × Nat) (l:List Value) (j:Nat) (x:Bool),R s W→B≤W.heap.size→ok b fr→b < B∨¬ Pt t→o+l.length≤cs.size→W.heap[b]?=some (.cells (wrt cs o l) t fr)→l[j]?=some (.bool x)→Fit (Sp.run P l s (.flg j)) →
  Calls Tryz.prog FG #[rv,.pointer (some ⟨b,o+j,none⟩)] W (Ends P R B b o cs t fr (Sp.run P l s (.flg j)) W)
section
variable {P:PP} {R:P.σ→World→Prop} {B:Nat} {ok:Nat→Nat × Nat→Prop} {ti:TypeId} {v rv:Value} {FN FF FG:FuncId}
theorem place_any (PT:Port P R B ok ti v rv FN FF FG) {s:P.σ} {W:World} {b o:Nat} {cs:Array Value} {t:TypeId} {fr:Nat × Nat} {l:List Value} {j:Nat} {x:Int} (hR:R s W) (hB:B≤W.heap.size) (hok:ok b fr) (ht:b < B∨¬ Pt t) (hl:o+l.length≤cs.size) (hb:W.heap[b]?=some (.cells (wrt cs o l) t fr)) (hx:l[j]?=some (I x)) (hfit:Fit (Sp.run P l s (.num 1 7 j))) :
  Calls Tryz.prog 93 #[.iface ti v,.pointer (some ⟨b,o+j,none⟩)] W (Ends P R B b o cs t fr (Sp.run P l s (.num 1 7 j)) W):=by
 have hm:=PT.mn
 have en:=PT.en
 have hc:=Lib.hid (PT.num s W b o cs t fr l 1 7 j x hR hB hok ht hl hb hx hfit)
 generalize Sp.run P l s (.num 1 7 j)=r at hc ⊢
 clear PT hR hB hok ht hl hb hx hfit
 go_enter Tryz.func93,Tryz.ntmps93
 go_wp2_with fail
 refine hc.out.mono ?_
 intro e W' he
 cases r with
 | error f =>
  obtain ⟨rfl,h2⟩:=he
  exact ⟨rfl,rfl,h2⟩
 | ok y =>
  obtain ⟨rfl,h2⟩:=he
  go_wp2
  go_end0
  exact ⟨rfl,h2⟩
def Ints (js:List Nat) (l:List Value):Prop:=∀ j ∈ js,∃ x,l[j]?=some (I x)
theorem Ints.set {js:List Nat} {l:List Value} (h:Ints js l) (k:Nat) (y:Int):Ints js (l.set k (I y)):=fun j hj=>by
 obtain ⟨x,hx⟩:=h j hj
 have hl:j < l.length:=(List.getElem?_eq_some_iff.1 hx).1
 rw [List.getElem?_set]
 split
 ·rename_i e
  subst e
  exact ⟨y,by rw [if_pos hl]⟩
 ·exact ⟨x,hx⟩
theorem Ints.run {P:PP} {js:List Nat} {l:List Value} (h:Ints js l) {s:P.σ} {size most:Int} {k:Nat} {l':List Value} {s':P.σ} (hr:Sp.run P l s (.num size most k)=.ok (l',s')):Ints js l':=by
 simp only [Sp.run] at hr
 split at hr
 ·split at hr
  ·cases hr;exact h.set _ _
  ·cases hr
 ·cases hr;exact h
def ptrs (b o:Nat) (js:List Nat):List Value:=js.map fun j=>.pointer (some ⟨b,o+j,none⟩)
theorem numbers_any (PT:Port P R B ok ti v rv FN FF FG) {s:P.σ} {W:World} {b o:Nat} {cs:Array Value} {t:TypeId} {fr fr2:Nat × Nat} {l:List Value} {lb cap n:Nat} (js:List Nat) (hn:js.length=n) (hn2:n≤1000) (size most:Int) (hR:R s W) (hB:B≤W.heap.size) (hok:ok b fr) (ht:b < B∨¬ Pt t) (hl:o+l.length≤cs.size) (hb:W.heap[b]?=some (.cells (wrt cs o l) t fr)) (hx:Ints js l)
  (hlb:W.heap[lb]?=some (.cells (ptrs b o js).toArray 105 fr2)) (hne:lb ≠ b) (hcap:n≤cap) (hfit:Fit (runs P (js.map (.num size most)) l s)) :
  Calls Tryz.prog 94 #[.iface ti v,.int .i64 size,.int .i64 most,.slice (some ⟨lb,0,none⟩) n cap] W (Ends P R B b o cs t fr (runs P (js.map (.num size most)) l s) W):=by
 have hm:=PT.mn
 have en:=PT.en
 have PN:=Lib.hid PT.num
 have hX:=Lib.hid hx
 have hN:=Lib.hid hn
 have hR0:=Lib.hid hR
 have hb0:=Lib.hid hb
 have hL:=Lib.hid hlb
 have hO:=Lib.hid hok
 have hT:=Lib.hid ht
 have hl0:=Lib.hid hl
 have HFIT:=Lib.hid hfit
 clear PT hx hn hR hb hlb hok ht hl hfit
 go_enter Tryz.func94,Tryz.ntmps94
 go_wp2_with fail
 go_loopw [12] (fun i wr=>∃ (q:Nat) (l':List Value) (s':P.σ),q≤n∧i=.int .i64 (q:Int)∧runs P ((js.take q).map (.num size most)) l s=.ok (l',s')∧R s' wr∧Mv B b W wr∧wr.heap[b]?=some (.cells (wrt cs o l') t fr)∧Ints js l') (fun i _=>n - (intOf i).toNat)
 case atStart=>exact ⟨0,l,s,by omega,rfl,rfl,hR0.out,Mv.refl _ _ _,hb0.out,hX.out⟩
 case round =>
  obtain ⟨q,l',s',hq,rfl,hrun,hr,hmv,hb1,hx1⟩:=hrel
  have HR:=Lib.hid hrun
  have HS:=Lib.hid hr
  have HM:=Lib.hid hmv
  have HB1:=Lib.hid hb1
  have HX:=Lib.hid hx1
  clear hrun hr hmv hb1 hx1
  by_cases hlt:q < n
  ·obtain ⟨j,hj⟩:∃ j,js[q]?=some j:=⟨_,List.getElem?_eq_getElem (by rw [hN.out];exact hlt)⟩
   have kp:wr.cell? ⟨lb,q,none⟩=some (.pointer (some ⟨b,o+j,none⟩)):=by
    rw [cell_of_row _ _ _ _ _ _ ((HM.out.other lb _ _ _ hL.out (by decide) hne).trans hL.out)]
    simp [ptrs,hj]
   obtain ⟨x,hxj⟩:=HX.out j (List.mem_of_getElem? hj)
   have hll:=runs_len P _ HR.out
   have HJ:Hid (runs P ((js.take (q+1)).map (.num size most)) l s=match Sp.run P l' s' (.num size most j) with
     | .ok (l2,s2)=>.ok (l2,s2)
     | .error f=>.error f):=Lib.hid (by
    rw [List.take_add_one,hj,List.map_append,runs_append,HR.out]
    show runs P [.num size most j] l' s'=_
    rw [runs]
    cases Sp.run P l' s' (.num size most j) with
    | ok r=>rfl
    | error f=>rfl)
   have HE:Hid (∀ f,Sp.run P l' s' (.num size most j)=.error f→runs P (js.map (.num size most)) l s=.error f):=Lib.hid (fun f hf=>by
    have e:js.map (Sp.num size most)=(js.take (q+1)).map (Sp.num size most)++(js.drop (q+1)).map (Sp.num size most):=by rw [← List.map_append,List.take_append_drop]
    rw [e,runs_append,HJ.out,hf])
   have hc:=Lib.hid (PN.out s' wr b o cs t fr l' size most j x HS.out (Nat.le_trans hB HM.out.low.size) hO.out hT.out (by rw [hll];exact hl0.out) HB1.out hxj (fun h=>HFIT.out (HE.out _ h)))
   have HX2:Hid (∀ l2 s2,Sp.run P l' s' (.num size most j)=.ok (l2,s2)→Ints js l2):=Lib.hid (fun l2 s2 h=>HX.out.run h)
   clear hll hxj hj HX
   generalize Sp.run P l' s' (.num size most j)=r at hc HJ HE HX2
   go_wp2_with fail
   refine hc.out.mono ?_
   intro e W' he
   cases r with
   | error f =>
    obtain ⟨rfl,h2⟩:=he
    refine ⟨rfl,?_⟩
    rw [HE.out f rfl]
    exact ⟨rfl,HM.out.low.trans h2⟩
   | ok y =>
    obtain ⟨l2,s2⟩:=y
    obtain ⟨rfl,h2,h3,h4⟩:=he
    have H2:=Lib.hid h2
    have H3:=Lib.hid (HM.out.trans h3)
    have H4:=Lib.hid h4
    clear h2 h3 h4
    go_wp2
    go_roundw
    case rel=>exact ⟨q+1,l2,s2,by omega,by go_num,HJ.out,H2.out,H3.out,H4.out,HX2.out _ _ rfl⟩
    case measure=>simp [intOf];omega
  ·obtain rfl:n=q:=by omega
   have HF:Hid (runs P (js.map (.num size most)) l s=.ok (l',s')):=Lib.hid (by have:=HR.out;rwa [List.take_of_length_le (by rw [hN.out];omega)] at this)
   go_wp2
   go_end0
   rw [HF.out]
   exact ⟨rfl,HS.out,HM.out,HB1.out⟩
end
end Po
namespace QB
open Go.RowKit
structure By (B:Nat) (w:World) where
 world:World
 below:Below B w world
instance {B:Nat} {w:World}:Inhabited (By B w):=⟨⟨w,Below.refl _ _⟩⟩
theorem region_below {P:Program} {id:Nat} {Q:Exit→Act→World→Prop} {a:Act} {w:World} {l:List Oper} (B:Nat) (hm:P.follows .mixedOrders=true) (hB:Region.lexB .any l.toArray=true)
  (h:wpQuiet P l.toArray (fun w'=>∃ p:By B w,w'=p.world) (fun a'=>∀ w',(∃ p:By B w,w'=p.world)→Q .normal a' w') l a):(Code.region id l.toArray true).wp P Q a w :=
 wp_region_quiet (C:=fun w'=>∃ p:By B w,w'=p.world) hm hB ⟨⟨w.drew,(Below.refl _ _).drew⟩,rfl⟩ (by simpa using h)
theorem call_of {P:Program} {f:FuncId} {args:Array Value} {B:Nat} {w:World} {p:By B w} {v:Value} (hB:B≤w.heap.size)
  (h:Below B w p.world→Calls P f args p.world fun e w'=>e=.returned v∧Below p.world.heap.size p.world w') :
  Calls P f args p.world fun e w''=>e=.returned v∧∃ q:By B w,w''=q.world :=
 (h p.below).mono fun _ w'' ⟨he,hb⟩=>⟨he,⟨w'',p.below.trans (hb.mono (Nat.le_trans hB p.below.size))⟩,rfl⟩
theorem region_tail {P:Program} {w:World} {id:Nat} {Q:Exit→Act→World→Prop} {a:Act} {l:List Oper} (n:Nat) (hm:P.follows .mixedOrders=true) (hB:Region.lexTailB .any l.toArray n=true)
  (h:wpStill P l.toArray w.drew (fun a'=>wpList P l.toArray Q (l.drop n) a' w.drew) (l.take n) a):(Code.region id l.toArray true).wp P Q a w :=
 wp_region_still_tail n hm hB h
end QB
namespace QT
open Go Go.RowKit
section
variable {P:Program} {ops:Array Oper} {md:Region.Mode} {C:World→Prop} {m n:Nat}
def sinks (md:Region.Mode) (ops:Array Oper) (m n:Nat):Bool:=(List.range n).all fun i=>decide (i < m) || (List.range (n+1)).any fun j=>decide (i < j) && Region.waitsFor md ops j i
def shut (md:Region.Mode) (ops:Array Oper) (m:Nat):Bool:=(List.range m).all fun j=>match ops[j]? with | some o=>o.after.all fun e=>!Region.binds md e || decide (e.on < m) | none=>true
def begun (ops:Array Oper) (m:Nat):Array Bool:=Array.replicate m true++Array.replicate (ops.size - m) false
structure Inv (md:Region.Mode) (ops:Array Oper) (m n:Nat) (L:Array Bool):Prop where
 size:L.size=ops.size
 first:∀ j,j < m→L.getD j false=true
 back:∀ j o,ops[j]?=some o→L.getD j false=true→∀ e ∈ o.after,Region.binds md e=true→L.getD e.on false=true
 rest:∀ t,n≤t→t < ops.size→L.getD t true=false
theorem Inv.set {i:Nat} {L:Array Bool} (h:Inv md ops m n L) (hi:i ∈ Region.ready md ops L) (hn:i < n):Inv md ops m n (L.setIfInBounds i true):=by
 obtain ⟨_,oi,hoi,hall⟩:=mem_ready.1 hi
 refine ⟨by simp [h.size],fun j hj=>getD_set_true (h.first j hj),fun j o hj hl e he hb=>?_,fun t h1 h2=>(getD_set_ne true (by omega)).trans (h.rest t h1 h2)⟩
 rcases Nat.decEq i j with hij | hij
 ·rw [getD_set_ne false hij] at hl
  exact getD_set_true (h.back j o hj hl e he hb)
 ·subst hij
  obtain rfl:o=oi:=Option.some.inj (hj.symm.trans hoi)
  exact getD_set_true (hall e he hb)
theorem later {L:Array Bool} (hs:sinks md ops m n=true) (hc:Region.chainB md ops n=true) (hn:n < ops.size) (h:Inv md ops m n L) :
  ∀ (d i:Nat),n - i≤d→i < n→L.getD i true=false→∀ t ∈ Region.ready md ops L,t < n
 | 0,i,hd,hi,_,_,_=>by omega
 | d+1,i,hd,hi,hun,t,ht=>by
  rcases Nat.lt_or_ge t n with hlt | hge
  ·exact hlt
  exfalso
  obtain ⟨_,ot,hot,hall⟩:=mem_ready.1 ht
  have htl:t < ops.size:=(Array.getElem?_eq_some_iff.1 hot).1
  rcases Nat.eq_or_lt_of_le hge with rfl | hgt
  ·have h1:=List.all_eq_true.1 hs i (List.mem_range.2 hi)
   have hm:¬ i < m:=fun hm=>by have:=getD_both hun;rw [h.first i hm] at this;cases this
   rw [decide_eq_false hm,Bool.false_or] at h1
   obtain ⟨j,hj,hj2⟩:=List.any_eq_true.1 h1
   simp only [Bool.and_eq_true,decide_eq_true_eq] at hj2
   obtain ⟨oj,hoj,e,he,hb,hon⟩:=Region.waitsFor_spec hj2.2
   have hjl:=List.mem_range.1 hj
   have hno:L.getD e.on false=false:=by rw [hon];exact getD_both hun
   by_cases hjt:j=n
   ·subst hjt
    obtain rfl:oj=ot:=Option.some.inj (hoj.symm.trans hot)
    rw [hall e he hb] at hno
    cases hno
   ·cases hl:L.getD j false with
    | true=>rw [h.back j oj hoj hl e he hb] at hno;cases hno
    | false=>exact absurd (later hs hc hn h d j (by omega) (by omega) (getD_in (by rw [h.size];omega) hl) n ht) (by omega)
  ·have h1:=List.all_eq_true.1 hc t (List.mem_range.2 htl)
   simp only [Bool.or_eq_true,decide_eq_true_eq] at h1
   obtain ⟨o',ho',e,he,hb,hon⟩:=Region.waitsFor_spec (h1.resolve_left (by omega))
   obtain rfl:o'=ot:=Option.some.inj (ho'.symm.trans hot)
   have h2:=hall e he hb
   rw [hon,getD_both (h.rest (t - 1) (by omega) (by omega))] at h2
   cases h2
def anyT (P:Program) (md:Region.Mode) (ops:Array Oper) (C:World→Prop) (n:Nat) (E:Array Bool→Act→Prop):Nat→Array Bool→Act→Prop
 | 0,L,a=>E L a
 | f+1,L,a=>Region.ready md ops L ≠ []∧∀ i ∈ Region.ready md ops L,i < n∧qOp P ops C i (anyT P md ops C n E f (L.setIfInBounds i true)) a
theorem wpAny_of {g:Nat} {E:Array Bool→Act→Prop} {Q:Exit→Act→World→Prop} (hE:∀ L a w,C w→E L a→wpAny P md ops Q g L a w):∀ (f:Nat) (L:Array Bool) (a:Act) (w:World),C w→anyT P md ops C n E f L a→wpAny P md ops Q (f+g) L a w
 | 0,L,a,w,hw,h=>by rw [Nat.zero_add];exact hE _ _ _ hw h
 | f+1,L,a,w,hw,h=>by
  rw [Nat.add_right_comm]
  exact ⟨fun h0=>absurd h0 h.1,fun i hi=>wpOp_of_qOp hw (fun a' w' hw' h'=>wpAny_of hE f _ a' w' hw' h') (h.2 i hi).2⟩
theorem one {i:Nat} {oi:Oper} {v:Value} {E:Array Bool→Act→Prop} (hi:ops[i]?=some oi) (hsel:∀ (j:Nat) (o:Oper) cs b,ops[j]?=some o→o.op ≠ .select cs b)
  (hs:sinks md ops m n=true) (hc:Region.chainB md ops n=true) (hn:n < ops.size) (hin:i < n) (hE:∀ L a,E L a→∀ j ∈ Region.ready md ops L,n≤j):∀ (f:Nat) (L:Array Bool) (a:Act),Inv md ops m n L →
   (∀ j oj,ops[j]?=some oj→j ≠ i→L.getD j true=false→(∀ e ∈ oj.after,Region.binds md e=true→e.on ≠ i)→oi.apart ops oj=true) →
   i ∈ Region.ready md ops L→YieldsIn P ops C oi v a→anyT P md ops C n E f (L.setIfInBounds i true) (a.put oi.dst v)→anyT P md ops C n E (f+1) L a:=by
 intro f
 induction f with
 | zero =>
  intro L a inv _ hr hy H
  refine ⟨List.ne_nil_of_mem hr,fun j hj=>?_⟩
  have hjn:=later hs hc hn inv _ i (Nat.le_refl _) hin (mem_ready.1 hr).1 j hj
  refine ⟨hjn,?_⟩
  rcases Nat.decEq j i with hji | rfl
  ·exact absurd (hE _ _ H j (ready_mono hj hji)) (by omega)
  ·exact hy.qOp hi H
 | succ f ih =>
  intro L a inv hfree hr hy H
  refine ⟨List.ne_nil_of_mem hr,fun j hj=>?_⟩
  have hjn:=later hs hc hn inv _ i (Nat.le_refl _) hin (mem_ready.1 hr).1 j hj
  refine ⟨hjn,?_⟩
  rcases Nat.decEq j i with hji | rfl
  ·obtain ⟨hjun,oj,hoj,hall⟩:=mem_ready.1 hj
   have hno:∀ e ∈ oj.after,Region.binds md e=true→e.on ≠ i:=fun e he hb heq=>by
    have h1:=hall e he hb
    rw [heq,getD_both (mem_ready.1 hr).1] at h1
    cases h1
   refine qOp_mono (fun a' h3=>ih (L.setIfInBounds j true) a' (inv.set hj hjn) (fun k ok hk hki hun hnk=>?_) (ready_mono hr (Ne.symm hji)) h3.1 ?_)
    (qOp_put hoj (hfree j oj hoj hji hjun hno) (fun cs b=>hsel i oi cs b hi) (fun cs b=>hsel j oj cs b hoj) hy (H.2 j (ready_mono hj hji)).2)
   ·refine hfree k ok hk hki ?_ hnk
    rcases Nat.decEq j k with hjk | rfl
    ·rwa [getD_set_ne true hjk] at hun
    ·exact hjun
   ·rw [Array.setIfInBounds_comm _ _ hji]
    exact h3.2
  ·exact hy.qOp hi H
theorem lex {g:Nat} {E:Act→Prop} (hsel:Region.noSelect ops=true) (hs:sinks md ops m n=true) (hc:Region.chainB md ops n=true) (hn:n < ops.size):∀ (l:List Oper) (k:Nat) (L:Array Bool) (a:Act),(∀ j,j < l.length→l[j]?=ops[k+j]?)→k+l.length=n→Inv md ops m n L →
  Region.lexHead md ops g l.length k L=true→wpQuiet P ops C E l a→anyT P md ops C n (fun L' a'=>Region.seqB md ops g n L'=true∧E a') l.length L a
 | [],k,L,a,_,hk,_,hB,h=>by
  obtain rfl:k=n:=hk
  exact ⟨hB,h⟩
 | o :: l,k,L,a,hl,hk,inv,hB,h=>by
  have h0:ops[k]?=some o:=(hl 0 (Nat.zero_lt_succ _)).symm
  simp only [List.length_cons,Region.lexHead,Bool.and_eq_true] at hB hk
  obtain ⟨⟨hr,hf⟩,hB'⟩:=hB
  have hr':k ∈ Region.ready md ops L:=List.contains_iff_mem.1 hr
  have hst:qOp P ops C k (wpQuiet P ops C E l) a:=by unfold qOp;rw [h0];exact h
  obtain ⟨v,hy,hK⟩:=yieldsIn_of_qOp h0 hst
  refine one h0 (Region.noSelect_spec hsel) hs hc hn (by omega) (fun L' a' hL=>seqB_ready hL.1) l.length L a inv (Region.free_spec h0 hf) hr' hy (lex hsel hs hc hn l (k+1) _ _ (fun j hj=>?_) (by omega) (inv.set hr' (by omega)) hB' hK)
  have:=hl (j+1) (Nat.succ_lt_succ hj)
  rwa [show k+(j+1)=k+1+j by omega] at this
theorem getD_begun {m j:Nat} (hm:m≤ops.size) (d:Bool) (hj:j < ops.size):(begun ops m).getD j d=decide (j < m):=by
 have hsz:(begun ops m).size=ops.size:=by simp [begun];omega
 have h1:(begun ops m)[j]?=some (decide (j < m)):=by
  unfold begun
  rw [Array.getElem?_append]
  split <;> rename_i h
  ·simp at h;simp [h]
  ·simp at h
   have hr:(Array.replicate (ops.size - m) false)[j - m]?=some false:=by rw [Array.getElem?_replicate];simp;omega
   simp only [Array.size_replicate]
   rw [hr]
   simp;omega
 rw [Array.getD_eq_getD_getElem?,h1]
 rfl
theorem inv_begun (hm:m≤n) (hn:n < ops.size) (hh:shut md ops m=true):Inv md ops m n (begun ops m):=by
 have hsz:(begun ops m).size=ops.size:=by simp [begun];omega
 refine ⟨hsz,fun j hj=>by rw [getD_begun (by omega) _ (by omega)];simpa using hj,fun j o hj hl e he hb=>?_,fun t h1 h2=>by rw [getD_begun (by omega) _ h2];simp;omega⟩
 have hjs:j < ops.size:=(Array.getElem?_eq_some_iff.1 hj).1
 rw [getD_begun (by omega) _ hjs,decide_eq_true_eq] at hl
 have h1:=List.all_eq_true.1 hh j (List.mem_range.2 hl)
 simp only [hj] at h1
 have h2:=Array.all_eq_true_iff_forall_mem.1 h1 e he
 simp only [hb,Bool.not_true,Bool.false_or,decide_eq_true_eq] at h2
 rw [getD_begun (by omega) _ (by omega)]
 simpa using h2
def okB (md:Region.Mode) (ops:Array Oper) (m n:Nat):Bool :=
 Region.noSelect ops && decide (n < ops.size) && decide (m≤n) && shut md ops m && sinks md ops m n && Region.chainB md ops n && Region.lexHead md ops (ops.size - n) (n - m) m (begun ops m)
theorem behind {Q:Exit→Act→World→Prop} {a:Act} {w:World} {l:List Oper} (hB:okB md l.toArray m n=true) (hC:C w)
  (h:wpQuiet P l.toArray C (fun a'=>∀ w',C w'→wpList P l.toArray Q (l.drop n) a' w') ((l.take n).drop m) a):wpAny P md l.toArray Q (l.length - m) (begun l.toArray m) a w:=by
 simp only [okB,Bool.and_eq_true,decide_eq_true_eq] at hB
 obtain ⟨⟨⟨⟨⟨⟨hsel,hn⟩,hm⟩,hh⟩,hs⟩,hc⟩,hlex⟩:=hB
 have hn':n < l.length:=by simpa using hn
 have htl:((l.take n).drop m).length=n - m:=by simp;omega
 have hdl:(l.drop n).length=l.toArray.size - n:=by simp
 have H:=lex (md:=md) (g:=l.toArray.size - n) hsel hs hc hn ((l.take n).drop m) m _ a (fun j hj=>by
  rw [htl] at hj
  rw [List.getElem?_drop,List.getElem?_take,if_pos (by omega)]
  simp) (by rw [htl];omega) (inv_begun hm hn hh) (by rw [htl];exact hlex) h
 have:=wpAny_of (Q:=Q) (g:=l.toArray.size - n) (fun L a' w' hw' hL=>by
  have:=wpAny_of_seq (md:=md) (Q':=Q) (l.drop n) n L a' w' (fun j=>by simp [List.getElem?_drop]) (by rw [hdl];exact hL.1) (hL.2 w' hw')
  rwa [hdl] at this) _ _ _ _ hC H
 rwa [htl,show n - m+(l.toArray.size - n)=l.length - m by simp;omega] at this
theorem region {id:Nat} {Q:Exit→Act→World→Prop} {a:Act} {w:World} {l:List Oper} (B n:Nat) (hm:P.follows .mixedOrders=true) (hB:okB .any l.toArray 0 n=true)
  (h:wpQuiet P l.toArray (fun w'=>∃ p:QB.By B w,w'=p.world) (fun a'=>∀ w',(∃ p:QB.By B w,w'=p.world)→wpList P l.toArray Q (l.drop n) a' w') (l.take n) a):(Code.region id l.toArray true).wp P Q a w:=by
 have:=behind (C:=fun w'=>∃ p:QB.By B w,w'=p.world) (w:=w.drew) (md:=.any) (Q:=Q) hB ⟨⟨w.drew,(Below.refl _ _).drew⟩,rfl⟩ (by simpa using h)
 refine wp_region_any hm ?_
 simpa [begun] using this
theorem region1 {id:Nat} {Q:Exit→Act→World→Prop} {a:Act} {w:World} {o:Oper} {l:List Oper} {v:Value} (B n:Nat) (hm:P.follows .mixedOrders=true) (hB:okB .any (o :: l).toArray 1 n=true) (hf:Region.free .any (o :: l).toArray (Array.replicate (l.length+1) false) 0=true)
  (hr:(Region.ready .any (o :: l).toArray (Array.replicate (l.length+1) false)).contains 0=true) (hQ:∀ c a w,Q (.panic c) (a.put o.dst v) w→Q (.panic c) a w) (hy:Yields P (o :: l).toArray o v a)
  (h:wpQuiet P (o :: l).toArray (fun w'=>∃ p:QB.By B w,w'=p.world) (fun a'=>∀ w',(∃ p:QB.By B w,w'=p.world)→wpList P (o :: l).toArray Q ((o :: l).drop n) a' w') (((o :: l).take n).drop 1) (a.put o.dst v)):(Code.region id (o :: l).toArray true).wp P Q a w:=by
 have hs:Region.noSelect (o :: l).toArray=true:=by
  simp only [okB,Bool.and_eq_true] at hB
  exact hB.1.1.1.1.1.1
 have:=behind (C:=fun w'=>∃ p:QB.By B w,w'=p.world) (w:=w.drew) (md:=.any) (Q:=Q) hB ⟨⟨w.drew,(Below.refl _ _).drew⟩,rfl⟩ h
 refine wp_region_any hm ?_
 have e1:(Array.replicate (l.length+1) false).setIfInBounds 0 true=begun (o :: l).toArray 1:=by
  apply Array.ext'
  simp [begun,List.replicate_succ]
 simp only [List.size_toArray,List.length_cons]
 exact wpAny_take (i:=0) (by simp) hs hf hr hQ hy (by rw [e1];simpa using this)
end
end QT
namespace Po
open Go Go.RowKit
open Tab
section
variable {P:PP} {R:P.σ→World→Prop} {B:Nat} {ok:Nat→Nat × Nat→Prop} {ti:TypeId} {v rv:Value} {FN FF FG:FuncId}
variable {s:P.σ} {W:World} {b o:Nat} {cs:Array Value} {t:TypeId} {fr fr2:Nat × Nat} {l:List Value}
structure At (P:PP) (R:P.σ→World→Prop) (B b o:Nat) (cs:Array Value) (t:TypeId) (fr:Nat × Nat) (l:List Value) (s:P.σ) (W:World) (a:List Sp) (l1:List Value) (s1:P.σ) (W1:World):Prop where
 run:runs P a l s=.ok (l1,s1)
 st:R s1 W1
 mv:Mv B b W W1
 blk:W1.heap[b]?=some (.cells (wrt cs o l1) t fr)
 kd:l1.map kind=l.map kind
theorem At.start (hR:R s W) (hb:W.heap[b]?=some (.cells (wrt cs o l) t fr)):At P R B b o cs t fr l s W [] l s W:=⟨rfl,hR,Mv.refl _ _ _,hb,rfl⟩
theorem At.len {a:List Sp} {l1:List Value} {s1:P.σ} {W1:World} (h:At P R B b o cs t fr l s W a l1 s1 W1):l1.length=l.length:=runs_len P a h.run
theorem At.step (PT:Port P R B ok ti v rv FN FF FG) {a:List Sp} {l1:List Value} {s1:P.σ} {W1 W2:World} (h:At P R B b o cs t fr l s W a l1 s1 W1) (hB:B≤W.heap.size) (hb:Below W1.heap.size W1 W2):At P R B b o cs t fr l s W a l1 s1 W2 :=
 ⟨h.run,PT.stay _ _ _ h.st hb.size (fun j cs t fr hj _=>hb.block j (Array.getElem?_eq_some_iff.1 hj).1),h.mv.trans (Mv.of hb (Nat.le_trans hB h.mv.low.size)),(hb.block b (Array.getElem?_eq_some_iff.1 h.blk).1).trans h.blk,h.kd⟩
theorem At.next {a c:List Sp} {l1:List Value} {s1:P.σ} {W1 W2:World} {e:Ending} {y:List Value × P.σ} (h:At P R B b o cs t fr l s W a l1 s1 W1) (hr:runs P c l1 s1=.ok y) (he:Ends P R B b o cs t fr (.ok y) W1 e W2):e=.returned (.tuple #[])∧At P R B b o cs t fr l s W (a++c) y.1 y.2 W2:=by
 obtain ⟨l2,s2⟩:=y
 obtain ⟨h1,h2,h3,h4⟩:=he
 exact ⟨h1,by rw [runs_append,h.run];exact hr,h2,h.mv.trans h3,h4,by rw [runs_kind P c hr,h.kd]⟩
theorem At.fail {a c d:List Sp} {l1:List Value} {s1:P.σ} {W1 W2:World} {e:Ending} {f:Flt} (h:At P R B b o cs t fr l s W a l1 s1 W1) (hr:runs P c l1 s1=.error f) (he:Ends P R B b o cs t fr (.error f) W1 e W2):e=.panicked [{ v:=fault f,recovered:=false }]∧Ends P R B b o cs t fr (runs P (a++c++d) l s) W (.panicked [{ v:=fault f,recovered:=false }]) W2:=by
 refine ⟨he.1,?_⟩
 rw [runs_append,show runs P (a++c) l s=.error f from by rw [runs_append,h.run];exact hr]
 exact ⟨rfl,h.mv.low.trans he.2⟩
theorem Fit.head {c d:List Sp} {l1:List Value} {s1:P.σ} (h:Fit (runs P (c++d) l1 s1)):Fit (runs P c l1 s1):=fun hr=>h (by rw [runs_append,hr])
theorem Fit.tail {c d:List Sp} {l1:List Value} {s1:P.σ} {y:List Value × P.σ} (h:Fit (runs P (c++d) l1 s1)) (hr:runs P c l1 s1=.ok y):Fit (runs P d y.1 y.2):=by
 rw [runs_append,hr] at h
 exact h
theorem At.fin {a:List Sp} {l1:List Value} {s1:P.σ} {W1:World} (h:At P R B b o cs t fr l s W a l1 s1 W1):Ends P R B b o cs t fr (runs P a l s) W (.returned (.tuple #[])) W1:=by
 rw [h.run]
 exact ⟨rfl,h.st,h.mv,h.blk⟩
theorem sets_any (PT:Port P R B ok ti v rv FN FF FG) {lb cap n:Nat} (js:List Nat) (hn:js.length=n) (hn2:n≤1000) (hR:R s W) (hB:B≤W.heap.size) (hok:ok b fr) (ht:b < B∨¬ Pt t) (hl:o+l.length≤cs.size) (hb:W.heap[b]?=some (.cells (wrt cs o l) t fr)) (hx:Ints js l)
  (hlb:W.heap[lb]?=some (.cells (ptrs b o js).toArray 105 fr2)) (hne:lb ≠ b) (hcap:n≤cap) (hfit:Fit (runs P (js.map (.num 1 255)) l s)) :
  Calls Tryz.prog 50 #[.iface ti v,.slice (some ⟨lb,0,none⟩) n cap] W (Ends P R B b o cs t fr (runs P (js.map (.num 1 255)) l s) W):=by
 have hc:=Lib.hid (numbers_any PT js hn hn2 1 255 hR hB hok ht hl hb hx hlb hne hcap hfit)
 generalize runs P (js.map (.num 1 255)) l s=r at hc ⊢
 clear PT hR hB hok ht hl hb hx hlb hne hcap hn hn2 hfit
 go_enter Tryz.func50,Tryz.ntmps50
 go_wp2_with fail
 refine hc.out.mono ?_
 intro e W' he
 cases r with
 | error f =>
  obtain ⟨rfl,h2⟩:=he
  exact ⟨rfl,rfl,h2⟩
 | ok y =>
  obtain ⟨rfl,h2⟩:=he
  go_wp2
  go_end0
  exact ⟨rfl,h2⟩
theorem times_any (PT:Port P R B ok ti v rv FN FF FG) {lb cap n:Nat} (js:List Nat) (hn:js.length=n) (hn2:n≤1000) (hR:R s W) (hB:B≤W.heap.size) (hok:ok b fr) (ht:b < B∨¬ Pt t) (hl:o+l.length≤cs.size) (hb:W.heap[b]?=some (.cells (wrt cs o l) t fr)) (hx:Ints js l)
  (hlb:W.heap[lb]?=some (.cells (ptrs b o js).toArray 105 fr2)) (hne:lb ≠ b) (hcap:n≤cap) (hfit:Fit (runs P (js.map (.num 2 9999)) l s)) :
  Calls Tryz.prog 57 #[.iface ti v,.slice (some ⟨lb,0,none⟩) n cap] W (Ends P R B b o cs t fr (runs P (js.map (.num 2 9999)) l s) W):=by
 have hc:=Lib.hid (numbers_any PT js hn hn2 2 9999 hR hB hok ht hl hb hx hlb hne hcap hfit)
 generalize runs P (js.map (.num 2 9999)) l s=r at hc ⊢
 clear PT hR hB hok ht hl hb hx hlb hne hcap hn hn2 hfit
 go_enter Tryz.func57,Tryz.ntmps57
 go_wp2_with fail
 refine hc.out.mono ?_
 intro e W' he
 cases r with
 | error f =>
  obtain ⟨rfl,h2⟩:=he
  exact ⟨rfl,rfl,h2⟩
 | ok y =>
  obtain ⟨rfl,h2⟩:=he
  go_wp2
  go_end0
  exact ⟨rfl,h2⟩
theorem ticks_any (PT:Port P R B ok ti v rv FN FF FG) {lb cap n:Nat} (js:List Nat) (hn:js.length=n) (hn2:n≤1000) (hR:R s W) (hB:B≤W.heap.size) (hok:ok b fr) (ht:b < B∨¬ Pt t) (hl:o+l.length≤cs.size) (hb:W.heap[b]?=some (.cells (wrt cs o l) t fr)) (hx:Ints js l)
  (hlb:W.heap[lb]?=some (.cells (ptrs b o js).toArray 105 fr2)) (hne:lb ≠ b) (hcap:n≤cap) (hfit:Fit (runs P (js.map (.num 4 2147483647)) l s)) :
  Calls Tryz.prog 58 #[.iface ti v,.slice (some ⟨lb,0,none⟩) n cap] W (Ends P R B b o cs t fr (runs P (js.map (.num 4 2147483647)) l s) W):=by
 have hc:=Lib.hid (numbers_any PT js hn hn2 4 2147483647 hR hB hok ht hl hb hx hlb hne hcap hfit)
 generalize runs P (js.map (.num 4 2147483647)) l s=r at hc ⊢
 clear PT hR hB hok ht hl hb hx hlb hne hcap hn hn2 hfit
 go_enter Tryz.func58,Tryz.ntmps58
 go_wp2_with fail
 refine hc.out.mono ?_
 intro e W' he
 cases r with
 | error f =>
  obtain ⟨rfl,h2⟩:=he
  exact ⟨rfl,rfl,h2⟩
 | ok y =>
  obtain ⟨rfl,h2⟩:=he
  go_wp2
  go_end0
  exact ⟨rfl,h2⟩
theorem phase_any (PT:Port P R B ok ti v rv FN FF FG) (hk:l.map kind=[1,0,0,0,0,0,0,0,0,0,0,1,1]) (hR:R s W) (hB:B≤W.heap.size) (hok:ok b fr) (ht:b < B∨¬ Pt t) (hl:o+l.length≤cs.size) (hb:W.heap[b]?=some (.cells (wrt cs o l) t fr)) (hfit:Fit (runs P (([]:List Sp)++([.flg 0])++(([1,2,3,4,5,6,7,8,9]:List Nat).map (.num 2 9999))++([.num 1 3 10])++([.flg 11])++([.flg 12])) l s)) :
  Calls Tryz.prog 47 #[.iface ti v,.pointer (some ⟨b,o,none⟩)] W (Ends P R B b o cs t fr (runs P (([]:List Sp)++([.flg 0])++(([1,2,3,4,5,6,7,8,9]:List Nat).map (.num 2 9999))++([.num 1 3 10])++([.flg 11])++([.flg 12])) l s) W):=by
 have hm:=PT.mn
 have hm2:=PT.mg
 have hm3:=PT.mf
 have na:=PT.nn
 have na2:=PT.ng
 have na3:=PT.nf
 have en:=PT.en
 have eg:=PT.eg
 have ef:=PT.ef
 have HK:=Lib.hid hk
 have HOK:=Lib.hid hok
 have HT:=Lib.hid ht
 have HLN:=Lib.hid hl
 have AT0:Hid (At P R B b o cs t fr l s W [] l s W):=Lib.hid (At.start hR hb)
 have hmf:∀ (nm:String) (w:World),(Instr.makeFunc (.method nm) #[.iface ti v] #[]).run Tryz.prog w=.ok (.func (.method nm) #[.iface ti v] #[]) w:=fun _ _=>rfl
 have HFIT0:Hid (Fit (runs P (([.flg 0])++((([1,2,3,4,5,6,7,8,9]:List Nat).map (.num 2 9999))++(([.num 1 3 10])++(([.flg 11])++(([.flg 12])++([])))))) l s)):=Lib.hid (by simpa only [List.append_assoc,List.nil_append,List.append_nil] using hfit)
 clear hk hok ht hl hR hb hfit
 obtain ⟨l1,hl1⟩:∃ x,x=l:=⟨_,rfl⟩
 obtain ⟨s1,hs1⟩:∃ x,x=s:=⟨_,rfl⟩
 have AT:Hid (At P R B b o cs t fr l s W [] l1 s1 W):=by subst hl1 hs1;exact AT0
 have HFIT:Hid (Fit (runs P (([.flg 0])++((([1,2,3,4,5,6,7,8,9]:List Nat).map (.num 2 9999))++(([.num 1 3 10])++(([.flg 11])++(([.flg 12])++([])))))) l1 s1)):=by subst hl1 hs1;exact HFIT0
 clear hl1 hs1 AT0 HFIT0
 obtain ⟨ALL,hALL⟩:∃ x,x=([]:List Sp)++([.flg 0])++(([1,2,3,4,5,6,7,8,9]:List Nat).map (.num 2 9999))++([.num 1 3 10])++([.flg 11])++([.flg 12]):=⟨_,rfl⟩
 rw [← hALL]
 have HALL:=Lib.hid hALL
 clear hALL
 go_enter Tryz.func47,Tryz.ntmps47
 go_upto_region 0 with fail
 refine QB.region_tail 7 (by kernel_rfl) (by kernel_rfl) ?_
 have AD:=Lib.hid (AT.out.step PT hB ((Below.refl _ _).drew:Below W.heap.size W W.drew))
 clear AT
 have AT:=AD
 clear AD
 generalize W.drew=V at AT ⊢
 simp only [List.take_succ_cons,List.take_zero,List.drop_succ_cons,List.drop_zero]
 repeat still_step
 refine wpStill_nil ?_
 have hft:=Fit.head (c:=[.flg 0]) HFIT.out
 rw [runs_one] at hft
 obtain ⟨x,hx⟩:=bool_at (j:=0) (AT.out.kd.trans HK.out) rfl
 have hc:=Lib.hid (PT.flg s1 _ b o cs t fr l1 0 x AT.out.st (Nat.le_trans hB AT.out.mv.low.size) HOK.out HT.out (by rw [AT.out.len];exact HLN.out) AT.out.blk hx hft)
 rw [← runs_one] at hc
 clear hx hft
 go_wp2_with fail
 refine hc.out.mono ?_
 intro e W1 he
 generalize hrn:runs P ([.flg 0]) l1 s1=r at he
 clear hc
 cases r with
 | error f =>
  obtain ⟨rfl,h2⟩:=AT.out.fail (d:=(([1,2,3,4,5,6,7,8,9]:List Nat).map (.num 2 9999))++([.num 1 3 10])++([.flg 11])++([.flg 12])) hrn he
  exact ⟨rfl,by rw [HALL.out];exact h2⟩
 | ok y =>
 obtain ⟨rfl,h2⟩:=AT.out.next hrn he
 have HFIT2:=Lib.hid (Fit.tail HFIT.out hrn)
 clear AT he hrn HFIT
 obtain ⟨l1,s1⟩:=y
 have HFIT:Hid (Fit (runs P ((([1,2,3,4,5,6,7,8,9]:List Nat).map (.num 2 9999))++(([.num 1 3 10])++(([.flg 11])++(([.flg 12])++([]))))) l1 s1)):=HFIT2
 clear HFIT2
 have AT:=Lib.hid h2
 clear h2
 go_upto_region 1 with fail
 refine QT.region1 W1.heap.size 28 (by kernel_rfl) (by kernel_rfl) (by kernel_rfl) (by kernel_rfl) (v:=.iface ti v) (fun _ _ _ h=>h) (Or.inl ⟨by rfl,fun w'=>by go_simp;try rfl⟩) ?_
 dsimp only [Act.put]
 simp only [List.setIfInBounds_toArray,List.set_cons_zero,List.set_cons_succ,List.take_succ_cons,List.take_zero,List.drop_succ_cons,List.drop_zero]
 repeat (quiet_step (fail))
 refine wpQuiet_nil ?_
 intro _ hw'
 obtain ⟨p,rfl⟩:=hw'
 have AD:=Lib.hid (AT.out.step PT hB p.below)
 clear AT
 have AT:=AD
 clear AD
 generalize p.world=V at AT ⊢
 (try simp only [List.drop_succ_cons,List.drop_zero])
 have hbl:Below V.heap.size V (V.alloc (.cells (ptrs b o [1,2,3,4,5,6,7,8,9]).toArray 105)):=(Below.refl _ _).alloc (Nat.le_refl _) _
 have hc:=Lib.hid (times_any PT (lb:=V.heap.size) (cap:=9) [1,2,3,4,5,6,7,8,9] rfl (by decide) (AT.out.step PT hB hbl).st (Nat.le_trans hB (AT.out.step PT hB hbl).mv.low.size) HOK.out HT.out (by rw [AT.out.len];exact HLN.out) (AT.out.step PT hB hbl).blk (fun j hj=>by
  simp only [List.mem_cons,List.not_mem_nil,or_false] at hj
  rcases hj with rfl | rfl | rfl | rfl | rfl | rfl | rfl | rfl | rfl <;> exact int_at (AT.out.kd.trans HK.out) rfl) (heap_alloc_new V _) (by have:=(Array.getElem?_eq_some_iff.1 AT.out.blk).1;omega) (Nat.le_refl _) (Fit.head (c:=([1,2,3,4,5,6,7,8,9]:List Nat).map (.num 2 9999)) HFIT.out))
 have AD:=Lib.hid (AT.out.step PT hB hbl)
 clear AT hbl
 have AT:=AD
 clear AD
 go_wp2_with fail
 refine hc.out.mono ?_
 intro e W2 he
 generalize hrn:runs P (([1,2,3,4,5,6,7,8,9]:List Nat).map (.num 2 9999)) l1 s1=r at he
 clear hc
 cases r with
 | error f =>
  obtain ⟨rfl,h2⟩:=AT.out.fail (d:=([.num 1 3 10])++([.flg 11])++([.flg 12])) hrn he
  exact ⟨rfl,by rw [HALL.out];exact h2⟩
 | ok y =>
 obtain ⟨rfl,h2⟩:=AT.out.next hrn he
 have HFIT2:=Lib.hid (Fit.tail HFIT.out hrn)
 clear AT he hrn HFIT
 obtain ⟨l1,s1⟩:=y
 have HFIT:Hid (Fit (runs P (([.num 1 3 10])++(([.flg 11])++(([.flg 12])++([])))) l1 s1)):=HFIT2
 clear HFIT2
 have AT:=Lib.hid h2
 clear h2
 go_upto_region 2 with fail
 refine QB.region_tail 7 (by kernel_rfl) (by kernel_rfl) ?_
 have AD:=Lib.hid (AT.out.step PT hB ((Below.refl _ _).drew:Below W2.heap.size W2 W2.drew))
 clear AT
 have AT:=AD
 clear AD
 generalize W2.drew=V at AT ⊢
 simp only [List.take_succ_cons,List.take_zero,List.drop_succ_cons,List.drop_zero]
 repeat still_step
 refine wpStill_nil ?_
 have hft:=Fit.head (c:=[.num 1 3 10]) HFIT.out
 rw [runs_one] at hft
 obtain ⟨x,hx⟩:=int_at (j:=10) (AT.out.kd.trans HK.out) rfl
 have hc:=Lib.hid (PT.num s1 _ b o cs t fr l1 1 3 10 x AT.out.st (Nat.le_trans hB AT.out.mv.low.size) HOK.out HT.out (by rw [AT.out.len];exact HLN.out) AT.out.blk hx hft)
 rw [← runs_one] at hc
 clear hx hft
 go_wp2_with fail
 refine hc.out.mono ?_
 intro e W3 he
 generalize hrn:runs P ([.num 1 3 10]) l1 s1=r at he
 clear hc
 cases r with
 | error f =>
  obtain ⟨rfl,h2⟩:=AT.out.fail (d:=([.flg 11])++([.flg 12])) hrn he
  exact ⟨rfl,by rw [HALL.out];exact h2⟩
 | ok y =>
 obtain ⟨rfl,h2⟩:=AT.out.next hrn he
 have HFIT2:=Lib.hid (Fit.tail HFIT.out hrn)
 clear AT he hrn HFIT
 obtain ⟨l1,s1⟩:=y
 have HFIT:Hid (Fit (runs P (([.flg 11])++(([.flg 12])++([]))) l1 s1)):=HFIT2
 clear HFIT2
 have AT:=Lib.hid h2
 clear h2
 go_upto_region 3 with fail
 refine QB.region_tail 7 (by kernel_rfl) (by kernel_rfl) ?_
 have AD:=Lib.hid (AT.out.step PT hB ((Below.refl _ _).drew:Below W3.heap.size W3 W3.drew))
 clear AT
 have AT:=AD
 clear AD
 generalize W3.drew=V at AT ⊢
 simp only [List.take_succ_cons,List.take_zero,List.drop_succ_cons,List.drop_zero]
 repeat still_step
 refine wpStill_nil ?_
 have hft:=Fit.head (c:=[.flg 11]) HFIT.out
 rw [runs_one] at hft
 obtain ⟨x,hx⟩:=bool_at (j:=11) (AT.out.kd.trans HK.out) rfl
 have hc:=Lib.hid (PT.flg s1 _ b o cs t fr l1 11 x AT.out.st (Nat.le_trans hB AT.out.mv.low.size) HOK.out HT.out (by rw [AT.out.len];exact HLN.out) AT.out.blk hx hft)
 rw [← runs_one] at hc
 clear hx hft
 go_wp2_with fail
 refine hc.out.mono ?_
 intro e W4 he
 generalize hrn:runs P ([.flg 11]) l1 s1=r at he
 clear hc
 cases r with
 | error f =>
  obtain ⟨rfl,h2⟩:=AT.out.fail (d:=([.flg 12])) hrn he
  exact ⟨rfl,by rw [HALL.out];exact h2⟩
 | ok y =>
 obtain ⟨rfl,h2⟩:=AT.out.next hrn he
 have HFIT2:=Lib.hid (Fit.tail HFIT.out hrn)
 clear AT he hrn HFIT
 obtain ⟨l1,s1⟩:=y
 have HFIT:Hid (Fit (runs P (([.flg 12])++([])) l1 s1)):=HFIT2
 clear HFIT2
 have AT:=Lib.hid h2
 clear h2
 go_upto_region 4 with fail
 refine QB.region_tail 7 (by kernel_rfl) (by kernel_rfl) ?_
 have AD:=Lib.hid (AT.out.step PT hB ((Below.refl _ _).drew:Below W4.heap.size W4 W4.drew))
 clear AT
 have AT:=AD
 clear AD
 generalize W4.drew=V at AT ⊢
 simp only [List.take_succ_cons,List.take_zero,List.drop_succ_cons,List.drop_zero]
 repeat still_step
 refine wpStill_nil ?_
 have hft:=Fit.head (c:=[.flg 12]) HFIT.out
 rw [runs_one] at hft
 obtain ⟨x,hx⟩:=bool_at (j:=12) (AT.out.kd.trans HK.out) rfl
 have hc:=Lib.hid (PT.flg s1 _ b o cs t fr l1 12 x AT.out.st (Nat.le_trans hB AT.out.mv.low.size) HOK.out HT.out (by rw [AT.out.len];exact HLN.out) AT.out.blk hx hft)
 rw [← runs_one] at hc
 clear hx hft
 go_wp2_with fail
 refine hc.out.mono ?_
 intro e W5 he
 generalize hrn:runs P ([.flg 12]) l1 s1=r at he
 clear hc
 cases r with
 | error f =>
  obtain ⟨rfl,h2⟩:=AT.out.fail (d:=[]) hrn he
  exact ⟨rfl,by rw [HALL.out];exact h2⟩
 | ok y =>
 obtain ⟨rfl,h2⟩:=AT.out.next hrn he
 have HFIT2:=Lib.hid (Fit.tail HFIT.out hrn)
 clear AT he hrn HFIT
 obtain ⟨l1,s1⟩:=y
 have HFIT:Hid (Fit (runs P ([]) l1 s1)):=HFIT2
 clear HFIT2
 have AT:=Lib.hid h2
 clear h2
 go_wp2
 go_end0
 rw [HALL.out]
 exact AT.out.fin
theorem rail_any (PT:Port P R B ok ti v rv FN FF FG) (hk:l.map kind=[0,0,0,0,0,0,0,0,0,0,0]) (hR:R s W) (hB:B≤W.heap.size) (hok:ok b fr) (ht:b < B∨¬ Pt t) (hl:o+l.length≤cs.size) (hb:W.heap[b]?=some (.cells (wrt cs o l) t fr)) (hfit:Fit (runs P (([]:List Sp)++(([0,1,2,3]:List Nat).map (.num 1 255))++(([4,5,6,7,8,9]:List Nat).map (.num 2 9999))++(([10]:List Nat).map (.num 4 2147483647))) l s)) :
  Calls Tryz.prog 54 #[.iface ti v,.pointer (some ⟨b,o,none⟩)] W (Ends P R B b o cs t fr (runs P (([]:List Sp)++(([0,1,2,3]:List Nat).map (.num 1 255))++(([4,5,6,7,8,9]:List Nat).map (.num 2 9999))++(([10]:List Nat).map (.num 4 2147483647))) l s) W):=by
 have hm:=PT.mn
 have hm2:=PT.mg
 have hm3:=PT.mf
 have na:=PT.nn
 have na2:=PT.ng
 have na3:=PT.nf
 have en:=PT.en
 have eg:=PT.eg
 have ef:=PT.ef
 have HK:=Lib.hid hk
 have HOK:=Lib.hid hok
 have HT:=Lib.hid ht
 have HLN:=Lib.hid hl
 have AT0:Hid (At P R B b o cs t fr l s W [] l s W):=Lib.hid (At.start hR hb)
 have hmf:∀ (nm:String) (w:World),(Instr.makeFunc (.method nm) #[.iface ti v] #[]).run Tryz.prog w=.ok (.func (.method nm) #[.iface ti v] #[]) w:=fun _ _=>rfl
 have HFIT0:Hid (Fit (runs P ((([0,1,2,3]:List Nat).map (.num 1 255))++((([4,5,6,7,8,9]:List Nat).map (.num 2 9999))++((([10]:List Nat).map (.num 4 2147483647))++([])))) l s)):=Lib.hid (by simpa only [List.append_assoc,List.nil_append,List.append_nil] using hfit)
 clear hk hok ht hl hR hb hfit
 obtain ⟨l1,hl1⟩:∃ x,x=l:=⟨_,rfl⟩
 obtain ⟨s1,hs1⟩:∃ x,x=s:=⟨_,rfl⟩
 have AT:Hid (At P R B b o cs t fr l s W [] l1 s1 W):=by subst hl1 hs1;exact AT0
 have HFIT:Hid (Fit (runs P ((([0,1,2,3]:List Nat).map (.num 1 255))++((([4,5,6,7,8,9]:List Nat).map (.num 2 9999))++((([10]:List Nat).map (.num 4 2147483647))++([])))) l1 s1)):=by subst hl1 hs1;exact HFIT0
 clear hl1 hs1 AT0 HFIT0
 obtain ⟨ALL,hALL⟩:∃ x,x=([]:List Sp)++(([0,1,2,3]:List Nat).map (.num 1 255))++(([4,5,6,7,8,9]:List Nat).map (.num 2 9999))++(([10]:List Nat).map (.num 4 2147483647)):=⟨_,rfl⟩
 rw [← hALL]
 have HALL:=Lib.hid hALL
 clear hALL
 go_enter Tryz.func54,Tryz.ntmps54
 go_upto_region 0 with fail
 refine QT.region1 W.heap.size 13 (by kernel_rfl) (by kernel_rfl) (by kernel_rfl) (by kernel_rfl) (v:=.iface ti v) (fun _ _ _ h=>h) (Or.inl ⟨by rfl,fun w'=>by go_simp;try rfl⟩) ?_
 dsimp only [Act.put]
 simp only [List.setIfInBounds_toArray,List.set_cons_zero,List.set_cons_succ,List.take_succ_cons,List.take_zero,List.drop_succ_cons,List.drop_zero]
 repeat (quiet_step (fail))
 refine wpQuiet_nil ?_
 intro _ hw'
 obtain ⟨p,rfl⟩:=hw'
 have AD:=Lib.hid (AT.out.step PT hB p.below)
 clear AT
 have AT:=AD
 clear AD
 generalize p.world=V at AT ⊢
 (try simp only [List.drop_succ_cons,List.drop_zero])
 have hbl:Below V.heap.size V (V.alloc (.cells (ptrs b o [0,1,2,3]).toArray 105)):=(Below.refl _ _).alloc (Nat.le_refl _) _
 have hc:=Lib.hid (sets_any PT (lb:=V.heap.size) (cap:=4) [0,1,2,3] rfl (by decide) (AT.out.step PT hB hbl).st (Nat.le_trans hB (AT.out.step PT hB hbl).mv.low.size) HOK.out HT.out (by rw [AT.out.len];exact HLN.out) (AT.out.step PT hB hbl).blk (fun j hj=>by
  simp only [List.mem_cons,List.not_mem_nil,or_false] at hj
  rcases hj with rfl | rfl | rfl | rfl <;> exact int_at (AT.out.kd.trans HK.out) rfl) (heap_alloc_new V _) (by have:=(Array.getElem?_eq_some_iff.1 AT.out.blk).1;omega) (Nat.le_refl _) (Fit.head (c:=([0,1,2,3]:List Nat).map (.num 1 255)) HFIT.out))
 have AD:=Lib.hid (AT.out.step PT hB hbl)
 clear AT hbl
 have AT:=AD
 clear AD
 go_wp2_with fail
 refine hc.out.mono ?_
 intro e W1 he
 generalize hrn:runs P (([0,1,2,3]:List Nat).map (.num 1 255)) l1 s1=r at he
 clear hc
 cases r with
 | error f =>
  obtain ⟨rfl,h2⟩:=AT.out.fail (d:=(([4,5,6,7,8,9]:List Nat).map (.num 2 9999))++(([10]:List Nat).map (.num 4 2147483647))) hrn he
  exact ⟨rfl,by rw [HALL.out];exact h2⟩
 | ok y =>
 obtain ⟨rfl,h2⟩:=AT.out.next hrn he
 have HFIT2:=Lib.hid (Fit.tail HFIT.out hrn)
 clear AT he hrn HFIT
 obtain ⟨l1,s1⟩:=y
 have HFIT:Hid (Fit (runs P ((([4,5,6,7,8,9]:List Nat).map (.num 2 9999))++((([10]:List Nat).map (.num 4 2147483647))++([]))) l1 s1)):=HFIT2
 clear HFIT2
 have AT:=Lib.hid h2
 clear h2
 go_upto_region 1 with fail
 refine QT.region1 W1.heap.size 19 (by kernel_rfl) (by kernel_rfl) (by kernel_rfl) (by kernel_rfl) (v:=.iface ti v) (fun _ _ _ h=>h) (Or.inl ⟨by rfl,fun w'=>by go_simp;try rfl⟩) ?_
 dsimp only [Act.put]
 simp only [List.setIfInBounds_toArray,List.set_cons_zero,List.set_cons_succ,List.take_succ_cons,List.take_zero,List.drop_succ_cons,List.drop_zero]
 repeat (quiet_step (fail))
 refine wpQuiet_nil ?_
 intro _ hw'
 obtain ⟨p,rfl⟩:=hw'
 have AD:=Lib.hid (AT.out.step PT hB p.below)
 clear AT
 have AT:=AD
 clear AD
 generalize p.world=V at AT ⊢
 (try simp only [List.drop_succ_cons,List.drop_zero])
 have hbl:Below V.heap.size V (V.alloc (.cells (ptrs b o [4,5,6,7,8,9]).toArray 105)):=(Below.refl _ _).alloc (Nat.le_refl _) _
 have hc:=Lib.hid (times_any PT (lb:=V.heap.size) (cap:=6) [4,5,6,7,8,9] rfl (by decide) (AT.out.step PT hB hbl).st (Nat.le_trans hB (AT.out.step PT hB hbl).mv.low.size) HOK.out HT.out (by rw [AT.out.len];exact HLN.out) (AT.out.step PT hB hbl).blk (fun j hj=>by
  simp only [List.mem_cons,List.not_mem_nil,or_false] at hj
  rcases hj with rfl | rfl | rfl | rfl | rfl | rfl <;> exact int_at (AT.out.kd.trans HK.out) rfl) (heap_alloc_new V _) (by have:=(Array.getElem?_eq_some_iff.1 AT.out.blk).1;omega) (Nat.le_refl _) (Fit.head (c:=([4,5,6,7,8,9]:List Nat).map (.num 2 9999)) HFIT.out))
 have AD:=Lib.hid (AT.out.step PT hB hbl)
 clear AT hbl
 have AT:=AD
 clear AD
 go_wp2_with fail
 refine hc.out.mono ?_
 intro e W2 he
 generalize hrn:runs P (([4,5,6,7,8,9]:List Nat).map (.num 2 9999)) l1 s1=r at he
 clear hc
 cases r with
 | error f =>
  obtain ⟨rfl,h2⟩:=AT.out.fail (d:=(([10]:List Nat).map (.num 4 2147483647))) hrn he
  exact ⟨rfl,by rw [HALL.out];exact h2⟩
 | ok y =>
 obtain ⟨rfl,h2⟩:=AT.out.next hrn he
 have HFIT2:=Lib.hid (Fit.tail HFIT.out hrn)
 clear AT he hrn HFIT
 obtain ⟨l1,s1⟩:=y
 have HFIT:Hid (Fit (runs P ((([10]:List Nat).map (.num 4 2147483647))++([])) l1 s1)):=HFIT2
 clear HFIT2
 have AT:=Lib.hid h2
 clear h2
 have V_:True:=trivial
 have hbl:Below W2.heap.size W2 (W2.alloc (.cells (ptrs b o [10]).toArray 105)):=(Below.refl _ _).alloc (Nat.le_refl _) _
 have hc:=Lib.hid (ticks_any PT (lb:=W2.heap.size) (cap:=1) [10] rfl (by decide) (AT.out.step PT hB hbl).st (Nat.le_trans hB (AT.out.step PT hB hbl).mv.low.size) HOK.out HT.out (by rw [AT.out.len];exact HLN.out) (AT.out.step PT hB hbl).blk (fun j hj=>by
  simp only [List.mem_cons,List.not_mem_nil,or_false] at hj
  rcases hj with rfl <;> exact int_at (AT.out.kd.trans HK.out) rfl) (heap_alloc_new W2 _) (by have:=(Array.getElem?_eq_some_iff.1 AT.out.blk).1;omega) (Nat.le_refl _) (Fit.head (c:=([10]:List Nat).map (.num 4 2147483647)) HFIT.out))
 have AD:=Lib.hid (AT.out.step PT hB hbl)
 clear AT hbl
 have AT:=AD
 clear AD
 go_wp2_with fail
 refine hc.out.mono ?_
 intro e W3 he
 generalize hrn:runs P (([10]:List Nat).map (.num 4 2147483647)) l1 s1=r at he
 clear hc
 cases r with
 | error f =>
  obtain ⟨rfl,h2⟩:=AT.out.fail (d:=[]) hrn he
  exact ⟨rfl,by rw [HALL.out];exact h2⟩
 | ok y =>
 obtain ⟨rfl,h2⟩:=AT.out.next hrn he
 have HFIT2:=Lib.hid (Fit.tail HFIT.out hrn)
 clear AT he hrn HFIT
 obtain ⟨l1,s1⟩:=y
 have HFIT:Hid (Fit (runs P ([]) l1 s1)):=HFIT2
 clear HFIT2
 have AT:=Lib.hid h2
 clear h2
 go_wp2
 go_end0
 rw [HALL.out]
 exact AT.out.fin
theorem bus_any (PT:Port P R B ok ti v rv FN FF FG) (hk:l.map kind=[0,0]) (hR:R s W) (hB:B≤W.heap.size) (hok:ok b fr) (ht:b < B∨¬ Pt t) (hl:o+l.length≤cs.size) (hb:W.heap[b]?=some (.cells (wrt cs o l) t fr)) (hfit:Fit (runs P (([]:List Sp)++(([0]:List Nat).map (.num 1 255))++(([1]:List Nat).map (.num 2 9999))) l s)) :
  Calls Tryz.prog 56 #[.iface ti v,.pointer (some ⟨b,o,none⟩)] W (Ends P R B b o cs t fr (runs P (([]:List Sp)++(([0]:List Nat).map (.num 1 255))++(([1]:List Nat).map (.num 2 9999))) l s) W):=by
 have hm:=PT.mn
 have hm2:=PT.mg
 have hm3:=PT.mf
 have na:=PT.nn
 have na2:=PT.ng
 have na3:=PT.nf
 have en:=PT.en
 have eg:=PT.eg
 have ef:=PT.ef
 have HK:=Lib.hid hk
 have HOK:=Lib.hid hok
 have HT:=Lib.hid ht
 have HLN:=Lib.hid hl
 have AT0:Hid (At P R B b o cs t fr l s W [] l s W):=Lib.hid (At.start hR hb)
 have hmf:∀ (nm:String) (w:World),(Instr.makeFunc (.method nm) #[.iface ti v] #[]).run Tryz.prog w=.ok (.func (.method nm) #[.iface ti v] #[]) w:=fun _ _=>rfl
 have HFIT0:Hid (Fit (runs P ((([0]:List Nat).map (.num 1 255))++((([1]:List Nat).map (.num 2 9999))++([]))) l s)):=Lib.hid (by simpa only [List.append_assoc,List.nil_append,List.append_nil] using hfit)
 clear hk hok ht hl hR hb hfit
 obtain ⟨l1,hl1⟩:∃ x,x=l:=⟨_,rfl⟩
 obtain ⟨s1,hs1⟩:∃ x,x=s:=⟨_,rfl⟩
 have AT:Hid (At P R B b o cs t fr l s W [] l1 s1 W):=by subst hl1 hs1;exact AT0
 have HFIT:Hid (Fit (runs P ((([0]:List Nat).map (.num 1 255))++((([1]:List Nat).map (.num 2 9999))++([]))) l1 s1)):=by subst hl1 hs1;exact HFIT0
 clear hl1 hs1 AT0 HFIT0
 obtain ⟨ALL,hALL⟩:∃ x,x=([]:List Sp)++(([0]:List Nat).map (.num 1 255))++(([1]:List Nat).map (.num 2 9999)):=⟨_,rfl⟩
 rw [← hALL]
 have HALL:=Lib.hid hALL
 clear hALL
 go_enter Tryz.func56,Tryz.ntmps56
 have V_:True:=trivial
 have hbl:Below W.heap.size W (W.alloc (.cells (ptrs b o [0]).toArray 105)):=(Below.refl _ _).alloc (Nat.le_refl _) _
 have hc:=Lib.hid (sets_any PT (lb:=W.heap.size) (cap:=1) [0] rfl (by decide) (AT.out.step PT hB hbl).st (Nat.le_trans hB (AT.out.step PT hB hbl).mv.low.size) HOK.out HT.out (by rw [AT.out.len];exact HLN.out) (AT.out.step PT hB hbl).blk (fun j hj=>by
  simp only [List.mem_cons,List.not_mem_nil,or_false] at hj
  rcases hj with rfl <;> exact int_at (AT.out.kd.trans HK.out) rfl) (heap_alloc_new W _) (by have:=(Array.getElem?_eq_some_iff.1 AT.out.blk).1;omega) (Nat.le_refl _) (Fit.head (c:=([0]:List Nat).map (.num 1 255)) HFIT.out))
 have AD:=Lib.hid (AT.out.step PT hB hbl)
 clear AT hbl
 have AT:=AD
 clear AD
 go_wp2_with fail
 refine hc.out.mono ?_
 intro e W1 he
 generalize hrn:runs P (([0]:List Nat).map (.num 1 255)) l1 s1=r at he
 clear hc
 cases r with
 | error f =>
  obtain ⟨rfl,h2⟩:=AT.out.fail (d:=(([1]:List Nat).map (.num 2 9999))) hrn he
  exact ⟨rfl,by rw [HALL.out];exact h2⟩
 | ok y =>
 obtain ⟨rfl,h2⟩:=AT.out.next hrn he
 have HFIT2:=Lib.hid (Fit.tail HFIT.out hrn)
 clear AT he hrn HFIT
 obtain ⟨l1,s1⟩:=y
 have HFIT:Hid (Fit (runs P ((([1]:List Nat).map (.num 2 9999))++([])) l1 s1)):=HFIT2
 clear HFIT2
 have AT:=Lib.hid h2
 clear h2
 have V_:True:=trivial
 have hbl:Below W1.heap.size W1 (W1.alloc (.cells (ptrs b o [1]).toArray 105)):=(Below.refl _ _).alloc (Nat.le_refl _) _
 have hc:=Lib.hid (times_any PT (lb:=W1.heap.size) (cap:=1) [1] rfl (by decide) (AT.out.step PT hB hbl).st (Nat.le_trans hB (AT.out.step PT hB hbl).mv.low.size) HOK.out HT.out (by rw [AT.out.len];exact HLN.out) (AT.out.step PT hB hbl).blk (fun j hj=>by
  simp only [List.mem_cons,List.not_mem_nil,or_false] at hj
  rcases hj with rfl <;> exact int_at (AT.out.kd.trans HK.out) rfl) (heap_alloc_new W1 _) (by have:=(Array.getElem?_eq_some_iff.1 AT.out.blk).1;omega) (Nat.le_refl _) (Fit.head (c:=([1]:List Nat).map (.num 2 9999)) HFIT.out))
 have AD:=Lib.hid (AT.out.step PT hB hbl)
 clear AT hbl
 have AT:=AD
 clear AD
 go_wp2_with fail
 refine hc.out.mono ?_
 intro e W2 he
 generalize hrn:runs P (([1]:List Nat).map (.num 2 9999)) l1 s1=r at he
 clear hc
 cases r with
 | error f =>
  obtain ⟨rfl,h2⟩:=AT.out.fail (d:=[]) hrn he
  exact ⟨rfl,by rw [HALL.out];exact h2⟩
 | ok y =>
 obtain ⟨rfl,h2⟩:=AT.out.next hrn he
 have HFIT2:=Lib.hid (Fit.tail HFIT.out hrn)
 clear AT he hrn HFIT
 obtain ⟨l1,s1⟩:=y
 have HFIT:Hid (Fit (runs P ([]) l1 s1)):=HFIT2
 clear HFIT2
 have AT:=Lib.hid h2
 clear h2
 go_wp2
 go_end0
 rw [HALL.out]
 exact AT.out.fin
theorem detector_any (PT:Port P R B ok ti v rv FN FF FG) (hk:l.map kind=[0,2,2,2,2,0,0]) (hR:R s W) (hB:B≤W.heap.size) (hok:ok b fr) (ht:b < B∨¬ Pt t) (hl:o+l.length≤cs.size) (hb:W.heap[b]?=some (.cells (wrt cs o l) t fr)) (hfit:Fit (runs P (([]:List Sp)++([.num 1 7 0])++([.flt true 1])++([.flt true 2])++([.flt false 3])++([.flt false 4])++(([5,6]:List Nat).map (.num 2 9999))) l s)) :
  Calls Tryz.prog 52 #[.iface ti v,.pointer (some ⟨b,o,none⟩)] W (Ends P R B b o cs t fr (runs P (([]:List Sp)++([.num 1 7 0])++([.flt true 1])++([.flt true 2])++([.flt false 3])++([.flt false 4])++(([5,6]:List Nat).map (.num 2 9999))) l s) W):=by
 have hm:=PT.mn
 have hm2:=PT.mg
 have hm3:=PT.mf
 have na:=PT.nn
 have na2:=PT.ng
 have na3:=PT.nf
 have en:=PT.en
 have eg:=PT.eg
 have ef:=PT.ef
 have HK:=Lib.hid hk
 have HOK:=Lib.hid hok
 have HT:=Lib.hid ht
 have HLN:=Lib.hid hl
 have AT0:Hid (At P R B b o cs t fr l s W [] l s W):=Lib.hid (At.start hR hb)
 have hmf:∀ (nm:String) (w:World),(Instr.makeFunc (.method nm) #[.iface ti v] #[]).run Tryz.prog w=.ok (.func (.method nm) #[.iface ti v] #[]) w:=fun _ _=>rfl
 have HFIT0:Hid (Fit (runs P (([.num 1 7 0])++(([.flt true 1])++(([.flt true 2])++(([.flt false 3])++(([.flt false 4])++((([5,6]:List Nat).map (.num 2 9999))++([]))))))) l s)):=Lib.hid (by simpa only [List.append_assoc,List.nil_append,List.append_nil] using hfit)
 clear hk hok ht hl hR hb hfit
 obtain ⟨l1,hl1⟩:∃ x,x=l:=⟨_,rfl⟩
 obtain ⟨s1,hs1⟩:∃ x,x=s:=⟨_,rfl⟩
 have AT:Hid (At P R B b o cs t fr l s W [] l1 s1 W):=by subst hl1 hs1;exact AT0
 have HFIT:Hid (Fit (runs P (([.num 1 7 0])++(([.flt true 1])++(([.flt true 2])++(([.flt false 3])++(([.flt false 4])++((([5,6]:List Nat).map (.num 2 9999))++([]))))))) l1 s1)):=by subst hl1 hs1;exact HFIT0
 clear hl1 hs1 AT0 HFIT0
 obtain ⟨ALL,hALL⟩:∃ x,x=([]:List Sp)++([.num 1 7 0])++([.flt true 1])++([.flt true 2])++([.flt false 3])++([.flt false 4])++(([5,6]:List Nat).map (.num 2 9999)):=⟨_,rfl⟩
 rw [← hALL]
 have HALL:=Lib.hid hALL
 clear hALL
 go_enter Tryz.func52,Tryz.ntmps52
 have hft:=Fit.head (c:=[.num 1 7 0]) HFIT.out
 rw [runs_one] at hft
 obtain ⟨x,hx⟩:=int_at (j:=0) (AT.out.kd.trans HK.out) rfl
 have hc:=Lib.hid (place_any PT (j:=0) AT.out.st (Nat.le_trans hB AT.out.mv.low.size) HOK.out HT.out (by rw [AT.out.len];exact HLN.out) AT.out.blk hx hft)
 rw [← runs_one] at hc
 clear hx hft
 go_wp2_with fail
 refine hc.out.mono ?_
 intro e W1 he
 generalize hrn:runs P ([.num 1 7 0]) l1 s1=r at he
 clear hc
 cases r with
 | error f =>
  obtain ⟨rfl,h2⟩:=AT.out.fail (d:=([.flt true 1])++([.flt true 2])++([.flt false 3])++([.flt false 4])++(([5,6]:List Nat).map (.num 2 9999))) hrn he
  exact ⟨rfl,by rw [HALL.out];exact h2⟩
 | ok y =>
 obtain ⟨rfl,h2⟩:=AT.out.next hrn he
 have HFIT2:=Lib.hid (Fit.tail HFIT.out hrn)
 clear AT he hrn HFIT
 obtain ⟨l1,s1⟩:=y
 have HFIT:Hid (Fit (runs P (([.flt true 1])++(([.flt true 2])++(([.flt false 3])++(([.flt false 4])++((([5,6]:List Nat).map (.num 2 9999))++([])))))) l1 s1)):=HFIT2
 clear HFIT2
 have AT:=Lib.hid h2
 clear h2
 go_upto_region 1 with fail
 refine QB.region_tail 7 (by kernel_rfl) (by kernel_rfl) ?_
 have AD:=Lib.hid (AT.out.step PT hB ((Below.refl _ _).drew:Below W1.heap.size W1 W1.drew))
 clear AT
 have AT:=AD
 clear AD
 generalize W1.drew=V at AT ⊢
 simp only [List.take_succ_cons,List.take_zero,List.drop_succ_cons,List.drop_zero]
 repeat still_step
 refine wpStill_nil ?_
 have hft:=Fit.head (c:=[.flt true 1]) HFIT.out
 rw [runs_one] at hft
 obtain ⟨x,hx⟩:=flt_at (j:=1) (AT.out.kd.trans HK.out) rfl
 have hc:=PT.flt s1 _ b o cs t fr l1 true 1 x AT.out.st (Nat.le_trans hB AT.out.mv.low.size) HOK.out HT.out (by rw [AT.out.len];exact HLN.out) AT.out.blk hx hft
 rw [← runs_one,if_pos rfl] at hc
 have hc:=Lib.hid hc
 clear hx hft
 go_wp2_with fail
 refine hc.out.mono ?_
 intro e W2 he
 generalize hrn:runs P ([.flt true 1]) l1 s1=r at he
 clear hc
 cases r with
 | error f =>
  obtain ⟨rfl,h2⟩:=AT.out.fail (d:=([.flt true 2])++([.flt false 3])++([.flt false 4])++(([5,6]:List Nat).map (.num 2 9999))) hrn he
  exact ⟨rfl,by rw [HALL.out];exact h2⟩
 | ok y =>
 obtain ⟨rfl,h2⟩:=AT.out.next hrn he
 have HFIT2:=Lib.hid (Fit.tail HFIT.out hrn)
 clear AT he hrn HFIT
 obtain ⟨l1,s1⟩:=y
 have HFIT:Hid (Fit (runs P (([.flt true 2])++(([.flt false 3])++(([.flt false 4])++((([5,6]:List Nat).map (.num 2 9999))++([]))))) l1 s1)):=HFIT2
 clear HFIT2
 have AT:=Lib.hid h2
 clear h2
 go_upto_region 2 with fail
 refine QB.region_tail 7 (by kernel_rfl) (by kernel_rfl) ?_
 have AD:=Lib.hid (AT.out.step PT hB ((Below.refl _ _).drew:Below W2.heap.size W2 W2.drew))
 clear AT
 have AT:=AD
 clear AD
 generalize W2.drew=V at AT ⊢
 simp only [List.take_succ_cons,List.take_zero,List.drop_succ_cons,List.drop_zero]
 repeat still_step
 refine wpStill_nil ?_
 have hft:=Fit.head (c:=[.flt true 2]) HFIT.out
 rw [runs_one] at hft
 obtain ⟨x,hx⟩:=flt_at (j:=2) (AT.out.kd.trans HK.out) rfl
 have hc:=PT.flt s1 _ b o cs t fr l1 true 2 x AT.out.st (Nat.le_trans hB AT.out.mv.low.size) HOK.out HT.out (by rw [AT.out.len];exact HLN.out) AT.out.blk hx hft
 rw [← runs_one,if_pos rfl] at hc
 have hc:=Lib.hid hc
 clear hx hft
 go_wp2_with fail
 refine hc.out.mono ?_
 intro e W3 he
 generalize hrn:runs P ([.flt true 2]) l1 s1=r at he
 clear hc
 cases r with
 | error f =>
  obtain ⟨rfl,h2⟩:=AT.out.fail (d:=([.flt false 3])++([.flt false 4])++(([5,6]:List Nat).map (.num 2 9999))) hrn he
  exact ⟨rfl,by rw [HALL.out];exact h2⟩
 | ok y =>
 obtain ⟨rfl,h2⟩:=AT.out.next hrn he
 have HFIT2:=Lib.hid (Fit.tail HFIT.out hrn)
 clear AT he hrn HFIT
 obtain ⟨l1,s1⟩:=y
 have HFIT:Hid (Fit (runs P (([.flt false 3])++(([.flt false 4])++((([5,6]:List Nat).map (.num 2 9999))++([])))) l1 s1)):=HFIT2
 clear HFIT2
 have AT:=Lib.hid h2
 clear h2
 go_upto_region 3 with fail
 refine QB.region_tail 7 (by kernel_rfl) (by kernel_rfl) ?_
 have AD:=Lib.hid (AT.out.step PT hB ((Below.refl _ _).drew:Below W3.heap.size W3 W3.drew))
 clear AT
 have AT:=AD
 clear AD
 generalize W3.drew=V at AT ⊢
 simp only [List.take_succ_cons,List.take_zero,List.drop_succ_cons,List.drop_zero]
 repeat still_step
 refine wpStill_nil ?_
 have hft:=Fit.head (c:=[.flt false 3]) HFIT.out
 rw [runs_one] at hft
 obtain ⟨x,hx⟩:=flt_at (j:=3) (AT.out.kd.trans HK.out) rfl
 have hc:=PT.flt s1 _ b o cs t fr l1 false 3 x AT.out.st (Nat.le_trans hB AT.out.mv.low.size) HOK.out HT.out (by rw [AT.out.len];exact HLN.out) AT.out.blk hx hft
 rw [← runs_one,if_neg (by decide)] at hc
 have hc:=Lib.hid hc
 clear hx hft
 go_wp2_with fail
 refine hc.out.mono ?_
 intro e W4 he
 generalize hrn:runs P ([.flt false 3]) l1 s1=r at he
 clear hc
 cases r with
 | error f =>
  obtain ⟨rfl,h2⟩:=AT.out.fail (d:=([.flt false 4])++(([5,6]:List Nat).map (.num 2 9999))) hrn he
  exact ⟨rfl,by rw [HALL.out];exact h2⟩
 | ok y =>
 obtain ⟨rfl,h2⟩:=AT.out.next hrn he
 have HFIT2:=Lib.hid (Fit.tail HFIT.out hrn)
 clear AT he hrn HFIT
 obtain ⟨l1,s1⟩:=y
 have HFIT:Hid (Fit (runs P (([.flt false 4])++((([5,6]:List Nat).map (.num 2 9999))++([]))) l1 s1)):=HFIT2
 clear HFIT2
 have AT:=Lib.hid h2
 clear h2
 go_upto_region 4 with fail
 refine QB.region_tail 7 (by kernel_rfl) (by kernel_rfl) ?_
 have AD:=Lib.hid (AT.out.step PT hB ((Below.refl _ _).drew:Below W4.heap.size W4 W4.drew))
 clear AT
 have AT:=AD
 clear AD
 generalize W4.drew=V at AT ⊢
 simp only [List.take_succ_cons,List.take_zero,List.drop_succ_cons,List.drop_zero]
 repeat still_step
 refine wpStill_nil ?_
 have hft:=Fit.head (c:=[.flt false 4]) HFIT.out
 rw [runs_one] at hft
 obtain ⟨x,hx⟩:=flt_at (j:=4) (AT.out.kd.trans HK.out) rfl
 have hc:=PT.flt s1 _ b o cs t fr l1 false 4 x AT.out.st (Nat.le_trans hB AT.out.mv.low.size) HOK.out HT.out (by rw [AT.out.len];exact HLN.out) AT.out.blk hx hft
 rw [← runs_one,if_neg (by decide)] at hc
 have hc:=Lib.hid hc
 clear hx hft
 go_wp2_with fail
 refine hc.out.mono ?_
 intro e W5 he
 generalize hrn:runs P ([.flt false 4]) l1 s1=r at he
 clear hc
 cases r with
 | error f =>
  obtain ⟨rfl,h2⟩:=AT.out.fail (d:=(([5,6]:List Nat).map (.num 2 9999))) hrn he
  exact ⟨rfl,by rw [HALL.out];exact h2⟩
 | ok y =>
 obtain ⟨rfl,h2⟩:=AT.out.next hrn he
 have HFIT2:=Lib.hid (Fit.tail HFIT.out hrn)
 clear AT he hrn HFIT
 obtain ⟨l1,s1⟩:=y
 have HFIT:Hid (Fit (runs P ((([5,6]:List Nat).map (.num 2 9999))++([])) l1 s1)):=HFIT2
 clear HFIT2
 have AT:=Lib.hid h2
 clear h2
 go_upto_region 5 with fail
 refine QT.region1 W5.heap.size 7 (by kernel_rfl) (by kernel_rfl) (by kernel_rfl) (by kernel_rfl) (v:=.iface ti v) (fun _ _ _ h=>h) (Or.inl ⟨by rfl,fun w'=>by go_simp;try rfl⟩) ?_
 dsimp only [Act.put]
 simp only [List.setIfInBounds_toArray,List.set_cons_zero,List.set_cons_succ,List.take_succ_cons,List.take_zero,List.drop_succ_cons,List.drop_zero]
 repeat (quiet_step (fail))
 refine wpQuiet_nil ?_
 intro _ hw'
 obtain ⟨p,rfl⟩:=hw'
 have AD:=Lib.hid (AT.out.step PT hB p.below)
 clear AT
 have AT:=AD
 clear AD
 generalize p.world=V at AT ⊢
 (try simp only [List.drop_succ_cons,List.drop_zero])
 have hbl:Below V.heap.size V (V.alloc (.cells (ptrs b o [5,6]).toArray 105)):=(Below.refl _ _).alloc (Nat.le_refl _) _
 have hc:=Lib.hid (times_any PT (lb:=V.heap.size) (cap:=2) [5,6] rfl (by decide) (AT.out.step PT hB hbl).st (Nat.le_trans hB (AT.out.step PT hB hbl).mv.low.size) HOK.out HT.out (by rw [AT.out.len];exact HLN.out) (AT.out.step PT hB hbl).blk (fun j hj=>by
  simp only [List.mem_cons,List.not_mem_nil,or_false] at hj
  rcases hj with rfl | rfl <;> exact int_at (AT.out.kd.trans HK.out) rfl) (heap_alloc_new V _) (by have:=(Array.getElem?_eq_some_iff.1 AT.out.blk).1;omega) (Nat.le_refl _) (Fit.head (c:=([5,6]:List Nat).map (.num 2 9999)) HFIT.out))
 have AD:=Lib.hid (AT.out.step PT hB hbl)
 clear AT hbl
 have AT:=AD
 clear AD
 go_wp2_with fail
 refine hc.out.mono ?_
 intro e W6 he
 generalize hrn:runs P (([5,6]:List Nat).map (.num 2 9999)) l1 s1=r at he
 clear hc
 cases r with
 | error f =>
  obtain ⟨rfl,h2⟩:=AT.out.fail (d:=[]) hrn he
  exact ⟨rfl,by rw [HALL.out];exact h2⟩
 | ok y =>
 obtain ⟨rfl,h2⟩:=AT.out.next hrn he
 have HFIT2:=Lib.hid (Fit.tail HFIT.out hrn)
 clear AT he hrn HFIT
 obtain ⟨l1,s1⟩:=y
 have HFIT:Hid (Fit (runs P ([]) l1 s1)):=HFIT2
 clear HFIT2
 have AT:=Lib.hid h2
 clear h2
 go_wp2
 go_end0
 rw [HALL.out]
 exact AT.out.fin
end
end Po
namespace Po
open Go Go.RowKit
open Tab
def eachs (P:PP) (st:List Sp):List (List Value)→P.σ→Except Flt (List (List Value) × P.σ)
 | [],s=>.ok ([],s)
 | x :: xs,s=>match runs P st x s with
  | .error f=>.error f
  | .ok (x',s')=>match eachs P st xs s' with
   | .error f=>.error f
   | .ok (ys,s2)=>.ok (x' :: ys,s2)
theorem eachs_append (P:PP) (st:List Sp):∀ (a c:List (List Value)) (s:P.σ),eachs P st (a++c) s=match eachs P st a s with
  | .error f=>.error f
  | .ok (ys,s')=>match eachs P st c s' with
   | .error f=>.error f
   | .ok (zs,s2)=>.ok (ys++zs,s2)
 | [],c,s=>by
  rw [List.nil_append,show eachs P st [] s=.ok ([],s) from rfl]
  (try dsimp only)
  cases h:eachs P st c s with
  | error f=>rfl
  | ok r=>rfl
 | x :: a,c,s=>by
  rw [List.cons_append,eachs,eachs]
  cases runs P st x s with
  | error f=>rfl
  | ok r =>
   (try dsimp only)
   rw [eachs_append P st a c r.2]
   cases eachs P st a r.2 with
   | error f=>rfl
   | ok r2 =>
    dsimp only
    cases eachs P st c r2.2 with
    | error f=>rfl
    | ok r3=>rfl
theorem eachs_one (P:PP) (st:List Sp) (x:List Value) (s:P.σ):eachs P st [x] s=match runs P st x s with
  | .error f=>.error f
  | .ok (x',s')=>.ok ([x'],s'):=by
 rw [eachs]
 cases runs P st x s with
 | error f=>rfl
 | ok r=>rfl
theorem eachs_len (P:PP) (st:List Sp):∀ {xs:List (List Value)} {s:P.σ} {ys:List (List Value)} {s':P.σ},eachs P st xs s=.ok (ys,s')→ys.map List.length=xs.map List.length
 | [],s,ys,s',h=>by cases h;rfl
 | x :: xs,s,ys,s',h=>by
  rw [eachs] at h
  cases hr:runs P st x s with
  | error f=>rw [hr] at h;cases h
  | ok r =>
   rw [hr] at h
   cases he:eachs P st xs r.2 with
   | error f=>simp only [he] at h;cases h
   | ok r2 =>
    simp only [he] at h
    cases h
    rw [List.map_cons,List.map_cons,runs_len P st (l':=r.1) (s':=r.2) hr,eachs_len P st (ys:=r2.1) (s':=r2.2) he]
theorem wrt_size {cs:Array Value} {o:Nat} {l:List Value} (h:o+l.length≤cs.size):(wrt cs o l).size=cs.size:=by
 have hcs:cs.toList.length=cs.size:=Array.length_toList
 unfold wrt
 rw [List.size_toArray,List.length_append,List.length_append,List.length_take,List.length_drop,hcs]
 omega
theorem wrt_mid {cs:Array Value} {o:Nat} {a x c y:List Value} (h:o+(a++(x++c)).length≤cs.size) (hy:y.length=x.length):wrt (wrt cs o (a++(x++c))) (o+a.length) y=wrt cs o (a++(y++c)):=by
 have hcs:cs.toList.length=cs.size:=Array.length_toList
 have h0:(cs.toList.take o).length=o:=by rw [List.length_take,hcs];omega
 unfold wrt
 simp only
 rw [show cs.toList.take o++(a++(x++c))++cs.toList.drop (o+(a++(x++c)).length)=(cs.toList.take o++a)++(x++(c++cs.toList.drop (o+(a++(x++c)).length))) by simp only [List.append_assoc]]
 rw [List.take_left' (by rw [List.length_append,h0])]
 rw [show (cs.toList.take o++a)++(x++(c++cs.toList.drop (o+(a++(x++c)).length)))=((cs.toList.take o++a)++x)++(c++cs.toList.drop (o+(a++(x++c)).length)) by simp only [List.append_assoc]]
 rw [List.drop_left' (by rw [List.length_append,List.length_append,h0,hy])]
 rw [show (a++(y++c)).length=(a++(x++c)).length by simp [hy]]
 congr 1
 simp only [List.append_assoc]
section
variable {P:PP} {R:P.σ→World→Prop} {B:Nat} {ok:Nat→Nat × Nat→Prop} {ti:TypeId} {v rv:Value} {FN FF FG:FuncId}
theorem wrt_mid' {cs:Array Value} {o k:Nat} {a x c y:List Value} (hk:a.length=k) (h:o+(a++(x++c)).length≤cs.size) (hy:y.length=x.length):wrt (wrt cs o (a++(x++c))) (o+k) y=wrt cs o (a++(y++c)):=by subst hk;exact wrt_mid h hy
theorem Mv.keep {b j:Nat} {W W':World} {cs:Array Value} {t:TypeId} {fr:Nat × Nat} (h:Mv B b W W') (hj:W.heap[j]?=some (.cells cs t fr)) (ht:j < B∨¬ Pt t) (hb:j ≠ b):W'.heap[j]?=some (.cells cs t fr):=by
 rcases ht with ht | ht
 ·exact (h.low.block j ht).trans hj
 ·exact (h.other j cs t fr hj ht hb).trans hj
end
end Po
namespace B
open Go.ChangeShapes Go.WideShapes Go.ChangeAt Go.RowKit
theorem ret_int {k:IntKind} {a b:Int} (h:a=b):Ending.returned (.int k a)=.returned (.int k b):=by rw [h]
theorem chain {a b c:World} (h:Below a.heap.size a b) (k:Below b.heap.size b c):Below a.heap.size a c:=h.trans (k.mono h.size)
theorem add_zero (x:Addr):x.add 0=x:=by cases x;simp [Addr.add]
def Row (w:World) (a:Option Addr) (l:List Nat):Prop:=l.length≤maxLen∧(∀ x ∈ l,x < 256)∧(l=[]∨∃ x,a=some x∧∀ i,i < l.length→w.cell? (x.add i)=some (.int .u8 (l.getD i 0:Nat)))
theorem Row.cells {w:World} {a:Option Addr} {l:List Nat} (h:Row w a l) {k:Nat} (hk:k < l.length):∃ x,a=some x∧∀ i,i < l.length→w.cell? (x.add i)=some (.int .u8 (l.getD i 0:Nat)):=by
 rcases h.2.2 with rfl | h
 ·simp at hk
 ·exact h
theorem Row.below {w w':World} {a:Option Addr} {l:List Nat} (h:Row w a l) (hb:Below w.heap.size w w'):Row w' a l:=by
 refine ⟨h.1,h.2.1,?_⟩
 rcases h.2.2 with h | ⟨x,hx,hc⟩
 ·exact .inl h
 ·exact .inr ⟨x,hx,fun i hi=>(hb.cell (World.block_lt_of_cell? w _ (hc i hi))).trans (hc i hi)⟩
theorem Row.lt {w:World} {a:Option Addr} {l:List Nat} (h:Row w a l) (k:Nat) (hk:k < l.length):l.getD k 0 < 256:=by
 rw [List.getD_eq_getElem?_getD,List.getElem?_eq_getElem hk];exact h.2.1 _ (List.getElem_mem hk)
theorem row_raw {w:World} {a:Option Addr} {len cap:Nat} {zs:List Int} (h:(a=none∧len=0∧cap=0∧zs=[]) ∨
  ∃ x,a=some x∧len≤cap∧cap≤maxLen∧zs.length=cap∧(∀ i,i < zs.length→w.cell? (x.add i)=some (.int .u8 (zs.getD i 0)))∧∀ n ∈ zs,(Lit.int .u8 n).wf=true) :
  ∃ l:List Nat,l.length=len∧Row w a l∧len≤cap∧cap≤maxLen∧(a=none→cap=0):=by
 rcases h with ⟨rfl,rfl,rfl,rfl⟩ | ⟨x,rfl,h1,h2,h3,h4,h5⟩
 ·exact ⟨[],rfl,⟨Nat.zero_le _,by simp,.inl rfl⟩,Nat.le_refl _,Nat.zero_le _,fun _=>rfl⟩
 ·have hl:((zs.take len).map Int.toNat).length=len:=by rw [List.length_map,List.length_take];omega
  refine ⟨(zs.take len).map Int.toNat,hl,⟨by omega,fun y hy=>?_,.inr ⟨x,rfl,fun i hi=>?_⟩⟩,h1,h2,fun e=>by cases e⟩
  ·obtain ⟨z,hz,rfl⟩:=List.mem_map.1 hy
   have:=bounds_u8 (h5 z (List.mem_of_mem_take hz))
   omega
  ·rw [hl] at hi
   have hi2:i < zs.length:=by omega
   rw [h4 i hi2]
   have hz:=bounds_u8 (h5 _ (List.getElem_mem hi2))
   rw [List.getD_eq_getElem?_getD,List.getD_eq_getElem?_getD,List.getElem?_map,List.getElem?_take_of_lt hi,List.getElem?_eq_getElem hi2]
   simp only [Option.getD_some,Option.map_some]
   congr 2
   omega
def vals (l:List Nat):List Value:=l.map fun n:Nat=>.int .u8 (n:Int)
theorem vals_len (l:List Nat):(vals l).length=l.length:=List.length_map ..
theorem vals_at (l:List Nat) (i:Nat) (h:i < l.length):(vals l)[i]?=some (.int .u8 (l.getD i 0:Nat)):=by
 unfold vals
 rw [List.getElem?_map,List.getD_eq_getElem?_getD,List.getElem?_eq_getElem h];rfl
def Own (B:Nat) (w:World) (v:Value) (l:List Nat):Prop:=w.ownsRow B 5 1 v l.length (vals l)
theorem info5:(Tryz.prog.info? 5).map (fun i=>(i.zero,i.size,i.bytes))=some (some (.int .u8 0),1,1):=by kernel_rfl
theorem own_row {B:Nat} {w:World} {v:Value} {l:List Nat} (h:Own B w v l) (hl:∀ x ∈ l,x < 256):∃ a cap,v=.slice a l.length cap∧Row w a l:=by
 rcases h.2 with ⟨rfl,h0⟩ | ⟨g,cap,cur,rfl,h1,h2,h3,h4,h5,h6⟩
 ·have:l=[]:=List.length_eq_zero_iff.1 h0
  subst this
  exact ⟨none,0,rfl,Nat.zero_le _,hl,.inl rfl⟩
 ·refine ⟨_,cap,rfl,by omega,hl,.inr ⟨_,rfl,fun i hi=>?_⟩⟩
  exact h.cells (g:=g) rfl i _ (vals_at l i hi)
theorem own_nil (B:Nat) (w:World):Own B w (.slice none 0 0) []:=World.ownsRow_nil _ _ _ _
theorem own_below {B:Nat} {w w':World} {v:Value} {l:List Nat} (h:Own B w v l) (hb:Below w.heap.size w w'):Own B w' v l :=
 h.kept (row:=none) ⟨hb.os,hb.tape,hb.output,hb.size,fun j hj _=>hb.block j hj⟩ (by cases hv:v.ownBlock <;> simp)
theorem own_lt {B:Nat} {w:World} {v:Value} {l:List Nat} (h:Own B w v l):∀ k,v.ownBlock=some k→B≤k:=fun k hk=>(h.lt k hk).1
section
variable {ops:Array Oper} {rest:List Oper} {o:Oper} {a:Act} {w:World} {Q:Exit→Act→World→Prop}
theorem wpList_more (hgd:o.guard=none) (s x:Operand) (ho:o.op=.call { callee:=.builtin .append,args:=#[s,x],argTypes:=#[22,22] })
  (B:Nat) (v:Value) (l:List Nat) (hs:a.eval s=v) (hown:Own B w v l) (ad:Addr) (cap:Nat) (m:List Nat) (hx:a.eval x=.slice (some ad) m.length cap) (hr:Row w (some ad) m)
  (hB:B≤w.heap.size) (hlen:l.length+m.length≤100000) (h:∀ v' w',Own B w' v' (l++m)→Below B w w'→wpList Tryz.prog ops Q rest (a.put o.dst v') w'):wpList Tryz.prog ops Q (o :: rest) a w:=by
 obtain ⟨i0,hi,hz0,hz1,hz2⟩:=info_parts info5
 refine wpList_append_own w hgd s x 22 ho B 5 i0 (.int .u8 0) 1 1 Tryz.underlying22 hi hz0 hz1 hz2 rfl (by decide) v l.length (vals l) hs hown ad m.length cap (vals m) hx (by rw [vals_len,Nat.mul_one]) ?_ ?_ (by unfold maxLen;omega) (by omega) hB ?_
 ·intro j u hj
  have hjl:j < m.length:=by rw [← vals_len m];exact (List.getElem?_eq_some_iff.1 hj).1
  rw [vals_at m j hjl] at hj
  obtain ⟨y,hy,hc⟩:=hr.cells hjl
  cases hy
  rw [hc j hjl];exact hj
 ·intro u hu
  obtain ⟨n,_,rfl⟩:=List.mem_map.1 hu
  rfl
 ·intro v' w' hown' hg _
  refine h v' w' ?_ ((Below.refl _ _).grown hg hB (own_lt hown))
  unfold Own
  rw [List.length_append,show vals (l++m)=vals l++vals m from List.map_append ..]
  exact hown'
theorem wpList_copy (hgd:o.guard=none) (s x:Operand) (ho:o.op=.call { callee:=.builtin .append,args:=#[s,x],argTypes:=#[22,22] })
  (hs:a.eval s=.slice none 0 0) (ad:Option Addr) (cap:Nat) (l:List Nat) (hx:a.eval x=.slice ad l.length cap) (hr:Row w ad l) (hnil:ad=none→cap=0) (hlen:l.length≤100000)
  (h:∀ v' w',Own w.heap.size w' v' l→Below w.heap.size w w'→wpList Tryz.prog ops Q rest (a.put o.dst v') w'):wpList Tryz.prog ops Q (o :: rest) a w:=by
 cases ad with
 | none =>
  have hl:l=[]:=by
   rcases hr.2.2 with h | ⟨x,hx,_⟩
   ·exact h
   ·cases hx
  subst hl
  obtain ⟨i0,hi,hz0,hz1,hz2⟩:=info_parts info5
  rw [hnil rfl] at hx
  exact wpList_append_own_none hgd s x 22 ho w.heap.size 5 i0 1 Tryz.underlying22 hi _ 0 [] hs (World.ownsRow_nil _ _ _ _) hx (h _ _ (own_nil _ _) (Below.refl _ _))
 | some ad=>exact wpList_more hgd s x ho w.heap.size _ [] hs (own_nil _ _) ad cap l hx hr (Nat.le_refl _) (by simp;omega) h
end
theorem below_drewN {B:Nat} {a w:World} (h:Below B a w) (n:Nat):Below B a (w.drewN n):=h.trans ⟨rfl,rfl,rfl,Nat.le_refl _,fun _ _=>rfl⟩
theorem addr_add (x:Addr) (p i:Nat):(x.add p).add i=x.add (p+i):=by
 unfold Addr.add
 by_cases hp:p=0
 ·subst hp;simp
 ·by_cases hi:i=0
  ·subst hi;simp
  ·simp [hp,hi,show ¬ (p+i=0) by omega,Nat.add_assoc]
theorem row_nil (w:World) (a:Option Addr) (l:List Nat) (h:l.length=0):Row w a l:=by
 rw [List.length_eq_zero_iff.1 h];exact ⟨Nat.zero_le _,by simp,.inl rfl⟩
theorem row_part {w:World} {a:Option Addr} {l:List Nat} (h:Row w a l) (p q:Nat):Row w (a.map fun x=>x.add p) ((l.drop p).take q):=by
 have hlen:((l.drop p).take q).length≤l.length:=by rw [List.length_take,List.length_drop];omega
 refine ⟨Nat.le_trans hlen h.1,fun x hx=>h.2.1 x (List.mem_of_mem_drop (List.mem_of_mem_take hx)),?_⟩
 rcases h.2.2 with rfl | ⟨x,rfl,hc⟩
 ·exact .inl (by simp)
 ·refine .inr ⟨_,rfl,fun i hi=>?_⟩
  rw [List.length_take,List.length_drop] at hi
  rw [addr_add,hc (p+i) (by omega),List.getD_eq_getElem?_getD,List.getD_eq_getElem?_getD,List.getElem?_take_of_lt (by omega),List.getElem?_drop]
theorem row_take {w:World} {a:Option Addr} {l:List Nat} (h:Row w a l) (k:Nat):Row w a (l.take k):=by
 have h1:=row_part h 0 k
 rw [List.drop_zero] at h1
 cases a with
 | none=>exact h1
 | some x=>rw [Option.map_some,add_zero] at h1;exact h1
theorem made (n:Nat):(madeCells (Value.int .u8 0).cells (n*1)).toList=vals (List.replicate n 0):=by
 rw [Nat.mul_one,show (Value.int .u8 0).cells=#[.int .u8 0] from rfl,toList_madeCells_one,vals,List.map_replicate];rfl
theorem wpList_space {ops:Array Oper} {rest:List Oper} {o:Oper} {a:Act} {w:World} {Q:Exit→Act→World→Prop} (hg:o.guard=none) (l c:Operand) (hop:o.op=Op.makeSlice 22 l c)
  (B n m:Nat) (L C:Int) (hl:a.eval l=.int .i64 L) (hc:a.eval c=.int .i64 C) (hL:L=(n:Int)) (hC:C=(m:Int)) (hn:n≤m) (hm:m≤100000) (hB:B≤w.heap.size)
  (h:∀ w',w'.heap[w.heap.size]?=some (.cells (List.replicate m (.int .u8 0)).toArray 5 (0,0))→Below B w w'→w.heap.size < w'.heap.size→wpList Tryz.prog ops Q rest (a.put o.dst (.slice (some ⟨w.heap.size,0,none⟩) n m)) w'):wpList Tryz.prog ops Q (o :: rest) a w:=by
 obtain ⟨i0,hi,hz0,hz1,hz2⟩:=info_parts info5
 refine wpList_plain hg fun K hK=>?_
 have hrun:=run_make (P:=Tryz.prog) w 22 5 i0 (.int .u8 0) Tryz.underlying22 hi hz0 .i64 .i64 (n:Int) (m:Int) (by omega) (by omega) (by rw [hz2];omega) (by omega)
 subst hL hC
 unfold Oper.wp
 simp [execOp,hop,hl,hc,hrun,Result.andThen]
 refine hK _ _ (h _ ?_ ((Below.refl _ _).alloc hB _) (by simp))
 rw [heap_alloc_new,hz1,Nat.mul_one]
 congr 2
 rw [← toList_madeCells_one]
 rfl
theorem wpList_copied {ops:Array Oper} {rest:List Oper} {o:Oper} {a:Act} {w:World} {Q:Exit→Act→World→Prop} (hgd:o.guard=none) (d s:Operand)
  (ho:o.op=.call { callee:=.builtin .copy,args:=#[d,s],argTypes:=#[22,22] }) (B g n m:Nat) (hd:a.eval d=.slice (some ⟨g,0,none⟩) n m)
  (ad:Option Addr) (cap:Nat) (l:List Nat) (hs:a.eval s=.slice ad n cap) (hn:l.length=n) (hr:Row w ad l) (hm:n≤m) (hm2:m≤100000)
  (cur:List Value) (hg:w.heap[g]?=some (.cells cur.toArray 5 (0,0))) (hcur:cur.length=m) (hB:B≤g)
  (h:∀ w',Own B w' (.slice (some ⟨g,0,none⟩) n m) l→Below B w w'→wpList Tryz.prog ops Q rest (a.put o.dst (goInt n)) w'):wpList Tryz.prog ops Q (o :: rest) a w:=by
 have hvl:=vals_len l
 refine wpList_copy_splice hgd d s 22 22 ho 5 Tryz.underlying22 (by kernel_rfl) (some ⟨g,0,none⟩) ad n m n cap hd hs g 0 cur 5 hg (vals l) (by rw [hvl,hn];exact (Nat.min_self n).symm) ?_ (by rw [hvl];omega) ?_ B w (Below.refl _ _) hB ?_
 ·intro hpos
  rw [hvl] at hpos
  refine ⟨rfl,?_⟩
  obtain ⟨y,hy,hc⟩:=hr.cells hpos
  refine ⟨y,hy,fun j v hj=>?_⟩
  have hjl:j < l.length:=by rw [← hvl];exact (List.getElem?_eq_some_iff.1 hj).1
  rw [vals_at l j hjl] at hj
  rw [hc j hjl];exact hj
 ·intro u hu
  obtain ⟨q,_,rfl⟩:=List.mem_map.1 hu
  rfl
 ·intro w' hg' hb
  rw [hvl,hn]
  refine h w' ⟨by rw [hvl,Nat.mul_one],.inr ⟨g,m,_,by rw [hn],hB,hg'.out,by omega,by unfold maxLen;omega,?_,?_⟩⟩ hb
  ·rw [List.size_toArray,length_splice _ _ _ (by rw [hvl];omega),hcur,Nat.mul_one]
  ·rw [Nat.mul_one]
   simp only [splice,List.take_zero,List.nil_append]
   rw [List.take_append_of_le_length (by rw [hvl];omega),List.take_of_length_le (by rw [hvl];omega)]
theorem same_any (a b:Option Addr) (cap cap':Nat) (l:List Nat) (w:World) (ha:Row w a l) (hb:Row w b l) :
  Calls Tryz.prog 14 #[.slice a l.length cap,.slice b l.length cap'] w fun e w'=>e=.returned (.bool true)∧Below w.heap.size w w':=by
 have h1:=ha.1
 unfold maxLen at h1
 have Ha:=Lib.hid ha
 have Hb:=Lib.hid hb
 clear ha hb
 go_enter Tryz.func14,Tryz.ntmps14
 go_wp2
 go_loopw [5] (fun i wr=>∃ k:Nat,k≤l.length∧i=.int .i64 k∧Below w.heap.size w wr) (fun i _=>l.length - (intOf i).toNat)
 case atStart=>exact ⟨0,Nat.zero_le _,rfl,Below.refl _ _⟩
 case round =>
  obtain ⟨k,hk,rfl,hbel⟩:=hrel
  by_cases hlt:k < l.length
  ·obtain ⟨x,rfl,hc⟩:=(Ha.out.below hbel).cells hlt
   obtain ⟨y,rfl,hd⟩:=(Hb.out.below hbel).cells hlt
   have hcell:=hc k hlt
   have hdell:=hd k hlt
   clear hc hd
   generalize l.getD k 0=z at hcell hdell
   go_wp2
   go_quiet (fail)
   go_wp2
   go_roundw
   case rel=>exact ⟨k+1,by omega,by go_num,below_drewN hbel _⟩
   case measure=>simp [intOf];omega
  ·go_wp2
   go_ret
   exact ⟨rfl,hbel⟩
end B
namespace Put
open Go.ChangeShapes Go.WideShapes Go.ChangeAt Go.RowKit
open B
def low:Nat→Int→List Nat
 | 0,_=>[]
 | k+1,n=>((n / 2 ^ (8*k)) % 256).toNat :: low k n
theorem low_len (k:Nat) (n:Int):(low k n).length=k:=by
 induction k with
 | zero=>rfl
 | succ k ih=>rw [low,List.length_cons,ih]
theorem low_lt (k:Nat) (n:Int):∀ x ∈ low k n,x < 256:=by
 induction k with
 | zero=>simp [low]
 | succ k ih =>
  intro x hx
  rw [low,List.mem_cons] at hx
  rcases hx with rfl | h
  ·omega
  ·exact ih x h
def lim (n:Int) (m:Nat):Nat:=min n.toNat m
theorem lim_le (n:Int) (m:Nat):lim n m≤m:=Nat.min_le_right _ _
theorem limit_any (n:Int) (m:Nat) (w:World):Calls Tryz.prog 89 #[.int .i64 n,.int .i64 (m:Int)] w fun e w'=>e=.returned (.int .i64 (lim n m:Nat))∧w=w':=by
 by_cases h0:n < 0
 ·have e:((lim n m:Nat):Int)=0:=by unfold lim;omega
  have h1:¬ ((m:Int) < 0):=by omega
  have HE:=Lib.hid e
  clear e
  go_enter Tryz.func89,Tryz.ntmps89
  go_wp2
  go_ret
  exact ⟨ret_int (by rw [HE.out]),rfl⟩
 ·by_cases h1:(m:Int) < n
  ·have e:((lim n m:Nat):Int)=m:=by unfold lim;omega
   have HE:=Lib.hid e
   clear e
   go_enter Tryz.func89,Tryz.ntmps89
   go_wp2
   go_ret
   exact ⟨ret_int (by rw [HE.out]),rfl⟩
  ·have e:((lim n m:Nat):Int)=n:=by unfold lim;omega
   have HE:=Lib.hid e
   clear e
   go_enter Tryz.func89,Tryz.ntmps89
   go_wp2
   go_ret
   exact ⟨ret_int (by rw [HE.out]),rfl⟩
theorem cut_any (n:Int) (m:Nat) (w:World):Calls Tryz.prog 66 #[.int .i64 n,.int .i64 0,.int .i64 (m:Int)] w fun e w'=>e=.returned (.int .i64 (lim n m:Nat))∧w=w':=by
 by_cases h0:n < 0
 ·have e:((lim n m:Nat):Int)=0:=by unfold lim;omega
  have HE:=Lib.hid e
  clear e
  go_enter Tryz.func66,Tryz.ntmps66
  go_wp2
  go_ret
  exact ⟨ret_int (by rw [HE.out]),rfl⟩
 ·by_cases h1:(m:Int) < n
  ·have e:((lim n m:Nat):Int)=m:=by unfold lim;omega
   have HE:=Lib.hid e
   clear e
   go_enter Tryz.func66,Tryz.ntmps66
   go_wp2
   go_ret
   exact ⟨ret_int (by rw [HE.out]),rfl⟩
  ·have e:((lim n m:Nat):Int)=n:=by unfold lim;omega
   have HE:=Lib.hid e
   clear e
   go_enter Tryz.func66,Tryz.ntmps66
   go_wp2
   go_ret
   exact ⟨ret_int (by rw [HE.out]),rfl⟩
theorem one_row (w:World) (x:Nat) (hx:x < 256):Row (w.alloc (.cells #[.int .u8 (x:Int)] 5)) (some ⟨w.heap.size,0,none⟩) [x]:=by
 refine ⟨by unfold maxLen;simp,fun y hy=>?_,.inr ⟨_,rfl,fun i hi=>?_⟩⟩
 ·simp only [List.mem_cons,List.not_mem_nil,or_false] at hy
  omega
 ·obtain rfl:i=0:=by simp at hi;omega
  rw [add_zero]
  simp
theorem put_any (ad:Option Addr) (cap:Nat) (l:List Nat) (size n:Int) (w:World) (hr:Row w ad l) (hl:l.length≤10000) :
  Calls Tryz.prog 43 #[.slice ad l.length cap,.int .i64 size,.int .i64 n] w fun e w'=>∃ v,e=.returned v∧Own w.heap.size w' v (l++low (lim size 8) n)∧Below w.heap.size w w':=by
 have Hr:=Lib.hid hr
 clear hr
 go_enter Tryz.func43,Tryz.ntmps43
 go_wp2_with fail
 refine (limit_any _ 8 _).mono ?_
 rintro e w' ⟨rfl,rfl⟩
 have hk:=lim_le size 8
 generalize hkk:lim size 8=k at hk ⊢
 have HK:=Lib.hid hkk
 clear hkk
 go_wp2_with (at_make;refine wpList_space rfl _ _ rfl w.heap.size l.length (l.length+k) _ _ rfl rfl rfl (Int.natCast_add _ _).symm (by omega) (by omega) (Nat.le_refl _) ?_)
 intro w1 hg1 b1 hs1
 go_wp2_with (refine wpList_copied rfl _ _ rfl w.heap.size w.heap.size l.length (l.length+k) rfl ad cap l rfl rfl (Hr.out.below b1) (by omega) (by omega) _ hg1 (by simp) (Nat.le_refl _) ?_)
 intro w2 hown b2
 have hb2:Below w.heap.size w w2:=b1.trans b2
 have hs2:=b2.size
 clear hg1 b1 b2
 generalize Value.slice (some ⟨w.heap.size,0,none⟩) l.length (l.length+k)=v0 at hown ⊢
 have Hown:=Lib.hid hown
 have Hb2:=Lib.hid hb2
 clear hown hb2
 go_wp2
 go_loopw [7,8] (fun o i wr=>∃ z:Int,-1≤z∧z < k∧i=.int .i64 z∧(∃ m,Own w.heap.size wr o (l++m)∧m++low (z+1).toNat n=low k n)∧Below w.heap.size w wr∧w.heap.size≤wr.heap.size) (fun _ i _=>(intOf i+1).toNat)
 case atStart =>
  refine ⟨k - 1,by omega,by omega,by go_num,⟨[],by rw [List.append_nil];exact Hown.out,?_⟩,Hb2.out,by omega⟩
  rw [show ((k:Int) - 1+1).toNat=k by omega];rfl
 case round =>
  obtain ⟨z,hz1,hz2,rfl,⟨m,hm,hml⟩,hbel,hsz⟩:=hrel
  have Hm:=Lib.hid hm
  have Hml:=Lib.hid hml
  clear hm hml
  by_cases h0:0≤z
  ·obtain ⟨q,rfl⟩:∃ q:Nat,z=q:=⟨z.toNat,by omega⟩
   obtain ⟨x,hx⟩:∃ x:Nat,n / 2 ^ (8*q) % 256=x:=⟨_,(Int.toNat_of_nonneg (by omega)).symm⟩
   have hx2:x < 256:=by omega
   have HL:Hid (m++[x]++low q n=low k n):=by
    have h:=Hml.out
    rw [show ((q:Int)+1).toNat=q+1 by omega,low,hx,Int.toNat_natCast] at h
    show _=_
    rw [← h];simp
   have Hlen:Hid (m.length≤8):=by
    have h:=congrArg List.length Hml.out
    rw [List.length_append,low_len,low_len] at h
    show _≤_
    omega
   go_wp2_with (at_builtin;refine wpList_more rfl _ _ rfl w.heap.size _ (l++m) rfl (own_below Hm.out ((Below.refl _ _).alloc (Nat.le_refl _) _)) _ _ [x] rfl ?row ?hB ?len ?_)
   case row=>exact one_row wr x hx2
   case hB=>simp;omega
   case len =>
    have:=Hlen.out
    simp only [List.length_append,List.length_singleton];omega
   intro v' w' hown' hb'
   have hgo:Below w.heap.size w w':=(hbel.alloc hsz _).trans hb'
   have hsz':w.heap.size≤w'.heap.size:=hgo.size
   have Hown':=Lib.hid hown'
   clear hown' hb'
   go_wp2
   go_roundw
   case rel=>exact ⟨q - 1,by omega,by omega,by go_num,⟨m++[x],by first | exact Hown'.out | (rw [← List.append_assoc];exact Hown'.out),by rw [show ((q:Int) - 1+1).toNat=q by omega];exact HL.out⟩,hgo,hsz'⟩
   case measure=>first | (simp [intOf];done) | (simp [intOf];omega)
  ·obtain rfl:z = -1:=by omega
   have e:l++m=l++low k n:=by rw [← Hml.out];simp [low]
   have Hm2:=Hm.out
   rw [e] at Hm2
   replace Hm2:=Lib.hid Hm2
   clear e
   go_wp2
   go_ret
   refine ⟨_,rfl,?_,hbel⟩
   rw [HK.out]
   first | exact Hm2.out | (simp;exact Hm2.out)
theorem ref_put_any (ad:Option Addr) (cap:Nat) (l:List Nat) (size n:Int) (w:World) (hr:Row w ad l) (hl:l.length≤10000) (hnil:ad=none→cap=0) :
  Calls Tryz.prog 27 #[.slice ad l.length cap,.int .i64 size,.int .i64 n] w fun e w'=>∃ v,e=.returned v∧Own w.heap.size w' v (l++low (lim size 8) n)∧Below w.heap.size w w':=by
 have Hr:=Lib.hid hr
 have Hn:=Lib.hid hnil
 clear hr hnil
 go_enter Tryz.func27,Tryz.ntmps27
 go_wp2_with (at_builtin;refine wpList_copy rfl _ _ rfl rfl ad cap l rfl Hr.out Hn.out (by omega) ?_)
 intro v0 w2 hown hb2
 have hs2:=hb2.size
 have Hown:=Lib.hid hown
 have Hb2:=Lib.hid hb2
 clear hown hb2
 go_wp2_with fail
 refine (cut_any _ 8 _).mono ?_
 rintro e w' ⟨rfl,rfl⟩
 have hk:=lim_le size 8
 generalize hkk:lim size 8=k at hk ⊢
 have HK:=Lib.hid hkk
 clear hkk
 go_wp2
 go_loopw [7,8] (fun o i wr=>∃ z:Int,-1≤z∧z < k∧i=.int .i64 z∧(∃ m,Own w.heap.size wr o (l++m)∧m++low (z+1).toNat n=low k n)∧Below w.heap.size w wr∧w.heap.size≤wr.heap.size) (fun _ i _=>(intOf i+1).toNat)
 case atStart =>
  refine ⟨k - 1,by omega,by omega,by go_num,⟨[],by rw [List.append_nil];exact Hown.out,?_⟩,Hb2.out,by omega⟩
  rw [show ((k:Int) - 1+1).toNat=k by omega];rfl
 case round =>
  obtain ⟨z,hz1,hz2,rfl,⟨m,hm,hml⟩,hbel,hsz⟩:=hrel
  have Hm:=Lib.hid hm
  have Hml:=Lib.hid hml
  clear hm hml
  by_cases h0:0≤z
  ·obtain ⟨q,rfl⟩:∃ q:Nat,z=q:=⟨z.toNat,by omega⟩
   obtain ⟨x,hx⟩:∃ x:Nat,n / 2 ^ (8*q) % 256=x:=⟨_,(Int.toNat_of_nonneg (by omega)).symm⟩
   have hx2:x < 256:=by omega
   have HL:Hid (m++[x]++low q n=low k n):=by
    have h:=Hml.out
    rw [show ((q:Int)+1).toNat=q+1 by omega,low,hx,Int.toNat_natCast] at h
    show _=_
    rw [← h];simp
   have Hlen:Hid (m.length≤8):=by
    have h:=congrArg List.length Hml.out
    rw [List.length_append,low_len,low_len] at h
    show _≤_
    omega
   go_wp2_with (at_builtin;refine wpList_more rfl _ _ rfl w.heap.size _ (l++m) rfl (own_below Hm.out ((Below.refl _ _).alloc (Nat.le_refl _) _)) _ _ [x] rfl ?row ?hB ?len ?_)
   case row=>exact one_row wr x hx2
   case hB=>simp;omega
   case len =>
    have:=Hlen.out
    simp only [List.length_append,List.length_singleton];omega
   intro v' w' hown' hb'
   have hgo:Below w.heap.size w w':=(hbel.alloc hsz _).trans hb'
   have hsz':w.heap.size≤w'.heap.size:=hgo.size
   have Hown':=Lib.hid hown'
   clear hown' hb'
   go_wp2
   go_roundw
   case rel=>exact ⟨q - 1,by omega,by omega,by go_num,⟨m++[x],by first | exact Hown'.out | (rw [← List.append_assoc];exact Hown'.out),by rw [show ((q:Int) - 1+1).toNat=q by omega];exact HL.out⟩,hgo,hsz'⟩
   case measure=>first | (simp [intOf];done) | (simp [intOf];omega)
  ·obtain rfl:z = -1:=by omega
   have e:l++m=l++low k n:=by rw [← Hml.out];simp [low]
   have Hm2:=Hm.out
   rw [e] at Hm2
   replace Hm2:=Lib.hid Hm2
   clear e
   go_wp2
   go_ret
   refine ⟨_,rfl,?_,hbel⟩
   rw [HK.out]
   first | exact Hm2.out | (simp;exact Hm2.out)
theorem bits_call (x:Nat) (w:World):(callFunc 68 #[.float .f64 x]).run Tryz.prog w=.ok (.value (.int .u64 x)) w:=by
 rw [run_callFunc_extern (e:=Extern.MathFloatBits.float64bits) Tryz.func68 (by kernel_rfl) (by kernel_rfl) (by kernel_rfl) (by kernel_rfl)]
 rfl
theorem frombits_call (n:Int) (w:World):(callFunc 127 #[.int .u64 n]).run Tryz.prog w=.ok (.value (.float .f64 n.toNat)) w:=by
 rw [run_callFunc_extern (e:=Extern.MathFloatBits.float64frombits) Tryz.func127 (by kernel_rfl) (by kernel_rfl) (by kernel_rfl) (by kernel_rfl)]
 rfl
theorem div_mod (a p:Int) (hp:0 < p):a / p % 256=a % (p*256) / p:=by
 have h:=Int.emod_add_mul_ediv a (p*256)
 have h1:=Int.emod_nonneg a (show p*256 ≠ 0 by omega)
 have h2:=Int.emod_lt_of_pos a (show 0 < p*256 by omega)
 generalize a % (p*256)=r at *
 generalize a / (p*256)=q at *
 have h5:a=r+p*(256*q):=by rw [← h,Int.mul_assoc]
 rw [h5,Int.add_mul_ediv_left _ _ (by omega)]
 have h3:0≤r / p:=Int.ediv_nonneg h1 (by omega)
 have h4:r / p < 256:=Int.ediv_lt_of_lt_mul hp (by rw [Int.mul_comm];exact h2)
 omega
theorem low_mod (k:Nat) (a b:Int) (h:a % 2 ^ (8*k)=b % 2 ^ (8*k)):low k a=low k b:=by
 induction k with
 | zero=>rfl
 | succ k ih =>
  have hp:(2:Int) ^ (8*(k+1))=2 ^ (8*k)*256:=by rw [show 8*(k+1)=8*k+8 by omega,Int.pow_add];rfl
  have hpos:(0:Int) < 2 ^ (8*k):=Int.pow_pos (by decide)
  rw [hp] at h
  have h1:a / 2 ^ (8*k) % 256=b / 2 ^ (8*k) % 256:=by
   rw [div_mod a _ hpos,div_mod b _ hpos,h]
  have h2:a % 2 ^ (8*k)=b % 2 ^ (8*k):=by
   rw [← Int.emod_emod_of_dvd a (Int.dvd_mul_right (2 ^ (8*k)) 256),h,Int.emod_emod_of_dvd b (Int.dvd_mul_right _ _)]
  rw [low,low,h1,ih h2]
theorem low_wrap (x:Nat):low (lim 8 8) (wrap64 x)=low 8 x:=low_mod 8 _ _ (by unfold wrap64;omega)
theorem putf_any (ad:Option Addr) (cap:Nat) (l:List Nat) (x:Nat) (w:World) (hr:Row w ad l) (hl:l.length≤10000) :
  Calls Tryz.prog 159 #[.slice ad l.length cap,.float .f64 x] w fun e w'=>∃ v,e=.returned v∧Own w.heap.size w' v (l++low 8 x)∧Below w.heap.size w w':=by
 have Hr:=Lib.hid hr
 clear hr
 have hb:=bits_call x
 go_enter Tryz.func159,Tryz.ntmps159
 go_wp2_with fail
 refine (put_any ad cap l 8 _ _ Hr.out hl).mono ?_
 rintro e w' ⟨v,rfl,hown,hbel⟩
 rw [low_wrap] at hown
 have Hown:=Lib.hid hown
 clear hown
 go_wp2
 go_ret
 refine ⟨_,rfl,?_,hbel⟩
 exact Hown.out
theorem ref_putf_any (ad:Option Addr) (cap:Nat) (l:List Nat) (x:Nat) (w:World) (hr:Row w ad l) (hl:l.length≤10000) (hnil:ad=none→cap=0) :
  Calls Tryz.prog 32 #[.slice ad l.length cap,.float .f64 x] w fun e w'=>∃ v,e=.returned v∧Own w.heap.size w' v (l++low 8 x)∧Below w.heap.size w w':=by
 have Hr:=Lib.hid hr
 have Hn:=Lib.hid hnil
 clear hnil
 clear hr
 have hb:=bits_call x
 go_enter Tryz.func32,Tryz.ntmps32
 go_wp2_with fail
 refine (ref_put_any ad cap l 8 _ _ Hr.out hl Hn.out).mono ?_
 rintro e w' ⟨v,rfl,hown,hbel⟩
 rw [low_wrap] at hown
 have Hown:=Lib.hid hown
 clear hown
 go_wp2
 go_ret
 refine ⟨_,rfl,?_,hbel⟩
 exact Hown.out
end Put
namespace Po
open Go Go.RowKit
open Tab
def wput (s:List Nat × Nat) (m:List Nat):Except Flt (List Nat × Nat):=match s.2 with
 | 0=>.error mark
 | k+1=>.ok (s.1++m,k)
def WP:PP where
 σ:=List Nat × Nat
 num s size _ x:=match wput s (Put.low (Put.lim size 8) x) with | .ok s'=>.ok (x,s') | .error f=>.error f
 flt s _ x:=match wput s (Put.low 8 x) with | .ok s'=>.ok (x,s') | .error f=>.error f
 flg s x:=match wput s [if x then 1 else 0] with | .ok s'=>.ok (x,s') | .error f=>.error f
theorem runs_ok {P:PP} {c:Sp} {cs:List Sp} {l l1:List Value} {s s1:P.σ} {r:Except Flt (List Value × P.σ)} (h:Sp.run P l s c=.ok (l1,s1)) (h2:runs P cs l1 s1=r):runs P (c :: cs) l s=r:=by
 rw [runs,h]
 exact h2
def WR (B wb:Nat) (s:List Nat × Nat) (W:World):Prop:=s.1.length+8*s.2≤50000∧B≤wb∧∃ v,W.heap[wb]?=some (.cells #[v] 92 (0,0))∧Go.Proofs.YtjdeemmaaiecnaaGreat.B.Own B W v s.1
theorem WR.stay {B wb:Nat} {s:List Nat × Nat} {W W':World} (h:WR B wb s W) (hk:∀ (j:Nat) (cs:Array Value) (t:TypeId) (fr:Nat × Nat),W.heap[j]?=some (.cells cs t fr)→Pt t→W'.heap[j]?=W.heap[j]?):WR B wb s W':=by
 obtain ⟨h1,h2,v,h3,h4⟩:=h
 refine ⟨h1,h2,v,(hk wb _ _ _ h3 (by decide)).trans h3,h4.1,?_⟩
 rcases h4.2 with h5 | ⟨g,cap,cur,h5,h6,h7,h8⟩
 ·exact .inl h5
 ·exact .inr ⟨g,cap,cur,h5,h6,(hk g _ _ _ h7 (by decide)).trans h7,h8⟩
end Po
end Go.Proofs.YtjdeemmaaiecnaaGreat
