/- 8 texts in one file, in build order. -/
import Derived.Test.YtjdeemmaaiecnaaGreatPart02
import Derived.Test.YtjdeemmaaiecnaaGreatPart01
import Derived.BigQuiet
import Derived.Test.YtjdeemmaaiecnaaGreatRows
import Derived.Test.YtjdeemmaaiecnaaGreatPart03
import Derived.Test.YtjdeemmaaiecnaaGreatPart04
import Derived.StillTailTactics
set_option linter.unusedVariables false
set_option linter.unusedSimpArgs false
set_option linter.unusedSectionVars false
set_option maxHeartbeats 8000000
set_option maxRecDepth 100000
namespace Go.Proofs.YtjdeemmaaiecnaaGreat
namespace QL
open Go Go.RowKit
open Tab
theorem wpQuiet_load {P:Program} {C:World→Prop} {ops:Array Oper} {Q:Act→Prop} {a:Act} {o:Oper} {rest:List Oper} (hw:Region.wanted o (yielded ops a.tmps)=true) (ty:TypeId) (x:Operand) (ho:o.op=.load ty x) (y:Addr) (hx:a.eval x=.pointer (some y))
  (cs:List Value) (d:TypeDesc) (hc:∀ w,C w→Lies w y cs) (hu:P.underlying ty=some d) (hd:d.isRow=true) (hi:(P.info? ty).map (·.size)=some cs.length) (h:wpQuiet P ops C Q rest (a.put o.dst (.agg cs.toArray))):wpQuiet P ops C Q (o :: rest) a :=
 wpQuiet_step fun K hK=>by
  rw [if_pos hw]
  refine ⟨_,fun w hw'=>?_,hK _ h⟩
  unfold Oper.quietAt execOp
  simp only [ho,hx,Instr.loadAt,Instr.sureAddr,Sem.run_bind,Sem.run_pure,Result.andThen_ok,Row.run_loadVar_lies w y ty cs d (hc w hw') hu hd hi]
  exact ⟨rfl,rfl⟩
theorem wpList_store_mid {P:Program} {ops:Array Oper} {rest:List Oper} {o:Oper} {a:Act} {w:World} {Q:Exit→Act→World→Prop} (hgd:o.guard=none) (ty:TypeId) (x y:Operand) (ho:o.op=.store ty x y) (g off:Nat) (cells:Array Value) (hx:a.eval x=.pointer (some ⟨g,off,none⟩)) (hy:a.eval y=.agg cells)
  (t:TypeId) (cur:Array Value) (hg:w.heap[g]?=some (.cells cur t (0,0))) (hi:(P.info? ty).map (·.size)=some cells.size) (hl:off+cells.size≤cur.size) (h1:cells.all (·.oneCell')=true)
  (h:wpList P ops Q rest (a.put o.dst undef) (w.setRow g (cur.toList.take off++cells.toList++cur.toList.drop (off+cells.size)).toArray)):wpList P ops Q (o :: rest) a w :=
 wpList_plain hgd fun _ hK=>by
  unfold Oper.wp execOp
  simp only [ho,hx,hy,Sem.run_bind,Row.run_storeAt_at w g off t ty cur cells hg hi hl h1,Result.andThen_ok,Sem.run_pure]
  exact hK _ _ h
end QL
namespace Rr
open Go Go.RowKit Go.ChangeShapes
open Tab
open Po (fault infoF)
open Rd (Rd But)
open Put (lim)
theorem wpQuiet_run {P:Program} {C:World→Prop} {ops:Array Oper} {Q:Act→Prop} {a:Act} {o:Oper} {rest:List Oper} (hw:Region.wanted o (yielded ops a.tmps)=true) (v:Value)
  (hr:∀ w,(execOp a.eval o).run P w=.ok (.value v) w) (h:wpQuiet P ops C Q rest (a.put o.dst v)):wpQuiet P ops C Q (o :: rest) a :=
 wpQuiet_step fun K hK=>by
  rw [if_pos hw]
  refine ⟨_,fun w _=>?_,hK _ h⟩
  unfold Oper.quietAt
  rw [hr w]
  exact ⟨rfl,rfl⟩
theorem flF:Flat.flat Tryz.prog 5 36=some [34,3]:=by kernel_rfl
theorem fault_eqs (a b c d:Int):Same.Eqs 36 [I a,I b] [I c,I d] (decide (a=c∧b=d)):=by
 refine Same.eqs_of flF (by decide) (by kernel_rfl) [(I a,I c),(I b,I d)] ⟨Same.lint _ _,Same.lint _ _,trivial⟩ rfl rfl ?_
 simp
theorem guardF:Tryz.prog.eqGuardType Tryz.prog.depth 36=false:=by kernel_rfl
theorem infoRd:(Tryz.prog.info? 55).map (·.size)=some 1:=by kernel_rfl
abbrev rdr (g:Nat):Value:=.agg #[.pointer (some ⟨g,0,none⟩)]
theorem want_bad (g:Nat) (ad:Option Addr) (cap:Nat) (l:List Nat) (k:Nat) (code fat:Int) (w:World) (h:Rd w g ad cap l k code fat) (hne:code ≠ 0) :
  Calls Tryz.prog 113 #[rdr g] w fun e w'=>e=.panicked [{ v:=fault (code,fat),recovered:=false }]∧Below w.heap.size w w':=by
 have hpan:∀ (u:TypeId) (v:Value) (w:World),(Instr.panic (.iface u v)).run Tryz.prog w=.halt (.panic (.iface u v)) w:=fun _ _ _=>rfl
 have hb:=(Below.refl w.heap.size w).alloc (Nat.le_refl _) (.cells #[.pointer (some ⟨g,0,none⟩)] 55)
 have hg:=heap_alloc_new w (.cells #[.pointer (some ⟨g,0,none⟩)] 55)
 have HR:=Lib.hid (h.below hb)
 have HB:=Lib.hid hb
 have HE:Hid (Same.Eqs 36 [I code,I fat] [I 0,I 0] false):=Lib.hid (by have:=fault_eqs code fat 0 0;rwa [decide_eq_false (by simp [hne])] at this)
 clear h hb hne
 go_enter Tryz.func113,Tryz.ntmps113
 go_upto_region 1 with fail
 generalize World.alloc w _=v at HR HB hg ⊢
 have k0:v.cell? ⟨w.heap.size,0,none⟩=some (.pointer (some ⟨g,0,none⟩)):=by rw [cell_of_row _ _ _ _ _ _ hg];rfl
 go_wp2_with fail
 refine (Rd.fault_any g ad cap l k code fat v HR.out).mono ?_
 rintro e v1 ⟨rfl,hb1⟩
 go_upto_region 2 with fail
 have hb2:=hb1.alloc hb1.size (.cells #[I code,I fat] 36)
 have hg2:=heap_alloc_new v1 (.cells #[I code,I fat] 36)
 generalize World.alloc v1 _=v2 at hb2 hg2 ⊢
 generalize v1.heap.size=nb at hg2 ⊢
 have HB2:Hid (Below w.heap.size w v2):=Lib.hid (HB.out.trans (hb2.mono HB.out.size))
 have HG:=Lib.hid hg2
 clear hb1 hb2 hg2 k0 hg
 have LF:Hid (Lies v2 ⟨nb,0,none⟩ [I code,I fat]):=Lib.hid (by have:=Row.lies_of_block HG.out;simpa using this)
 go_wp2_with (first | (refine Row.wpList_load_g 36 _ rfl (by first | rfl | go_simp) ⟨nb,0,none⟩ rfl [I code,I fat] _ LF.out Tryz.underlying36 rfl infoF ?_) | (refine Row.wpList_neq 36 _ _ _ rfl rfl #[I code,I fat] #[I 0,I 0] rfl rfl guardF false HE.out ?_))
 exact ⟨rfl,rfl,HB2.out⟩
theorem number_nil {B g nb:Nat} (ad:Option Addr) (cap:Nat) (m:Int) (w:World) (h:Rd w g ad cap [] 0 0 0) (hn:w.heap[nb]?=some (.cells #[I 0] 3 (0,0))) (hne:nb ≠ g) (hB:B≤w.heap.size) (hg:B≤g) (hnb:B≤nb) :
  Calls Tryz.prog 91 #[rdr g,.int .i64 3,.int .i64 m,.pointer (some ⟨nb,0,none⟩)] w fun e w'=>e=.panicked [{ v:=fault (2,0),recovered:=false }]∧Below B w w':=by
 have hb:=(Below.refl w.heap.size w).alloc (Nat.le_refl _) (.cells #[.pointer (some ⟨g,0,none⟩)] 55)
 have hgg:=heap_alloc_new w (.cells #[.pointer (some ⟨g,0,none⟩)] 55)
 have hR:=h.below hb
 have hn1:=(hb.block nb (Array.getElem?_eq_some_iff.1 hn).1).trans hn
 have HR:=Lib.hid hR
 have HB:=Lib.hid hb
 have HN:=Lib.hid hn1
 have hgl:=h.lt
 have hnl:=(Array.getElem?_eq_some_iff.1 hn).1
 clear h hb hn hR hn1
 go_enter Tryz.func91,Tryz.ntmps91
 go_upto_region 1 with fail
 generalize World.alloc w _=v at HR HB hgg HN ⊢
 generalize hrb:w.heap.size=rb at hgg ⊢
 have k0:v.cell? ⟨rb,0,none⟩=some (.pointer (some ⟨g,0,none⟩)):=by rw [cell_of_row _ _ _ _ _ _ hgg];rfl
 go_wp2_with fail
 refine (Nm.num_end g ad cap [] 0 3 0 m v HR.out (by decide) (by decide) (by decide)).mono ?_
 rintro e v1 ⟨rfl,hr1,hb1⟩
 have hn2:=(hb1.block nb (Array.getElem?_eq_some_iff.1 HN.out).1 hne).trans HN.out
 have hg2:=(hb1.block rb (Array.getElem?_eq_some_iff.1 hgg).1 (by omega)).trans hgg
 have c1:v1.cell? ⟨nb,0,none⟩=some (I 0):=by rw [cell_of_row _ _ _ _ _ _ hn2];rfl
 have f1:v1.frozen? ⟨nb,0,none⟩=false:=frozen_of_row _ _ _ _ _ hn2
 have hst:v1.setCell ⟨nb,0,none⟩ (I 0)=v1.setRow nb #[I 0]:=setCell_eq_setRow v1 nb 0 #[I 0] 3 (0,0) (I 0) hn2
 have HB1:Hid (Below B w v1):=Lib.hid ((HB.out.mono hB).trans (hb1.below (Nat.le_trans hB HB.out.size) hg))
 have HR1:=Lib.hid hr1
 have HG2:=Lib.hid hg2
 clear k0 hr1 hb1 hg2 hgg
 go_upto_region 2 with fail
 have hb2:But nb v1 (v1.setCell ⟨nb,0,none⟩ (I 0)):=But.set nb 0 v1 _
 have hB2:Below B w (v1.setCell ⟨nb,0,none⟩ (I 0)):=HB1.out.setCell hnb _
 have hR2:=HR1.out.but hb2 (Ne.symm hne) (fun h=>absurd rfl h)
 have hG2:=(hb2.block rb (Array.getElem?_eq_some_iff.1 HG2.out).1 (by omega)).trans HG2.out
 rw [hst] at hb2 hB2 hR2 hG2
 generalize v1.setRow nb #[I 0]=v2 at hB2 hR2 hG2 ⊢
 have HB3:=Lib.hid hB2
 have LR:Hid (Lies v2 ⟨rb,0,none⟩ [.pointer (some ⟨g,0,none⟩)]):=Lib.hid (by have:=Row.lies_of_block hG2;simpa using this)
 have hwb:=Lib.hid (want_bad g ad cap [] 0 2 (0:Nat) v2 hR2 (by decide))
 clear hst hb2 hB2 hR2 hG2 c1 f1
 go_wp2_with (refine Row.wpList_load_g 55 _ rfl (by first | rfl | go_simp) ⟨rb,0,none⟩ rfl [.pointer (some ⟨g,0,none⟩)] _ LR.out Tryz.underlying55 rfl infoRd ?_)
 refine hwb.out.mono ?_
 rintro e v3 ⟨rfl,hb3⟩
 exact ⟨rfl,rfl,HB3.out.trans (hb3.mono (Nat.le_trans hB HB3.out.size))⟩
theorem raw_nil {g:Nat} (ad:Option Addr) (cap:Nat) (w0 w:World) (h:Rd w g ad cap [] 0 0 0) (hw:Below w0.heap.size w0 w) (hg:w0.heap.size≤g) :
  Calls Tryz.prog 46 #[rdr g,.int .i64 3] w fun e w'=>e=.panicked [{ v:=fault (2,0),recovered:=false }]∧Below w0.heap.size w0 w':=by
 have hb:=(Below.refl w.heap.size w).alloc (Nat.le_refl _) (.cells #[.pointer (some ⟨g,0,none⟩)] 55)
 have hb2:=hb.alloc hb.size (.cells #[I 0] 3)
 have hg1:=heap_alloc_new w (.cells #[.pointer (some ⟨g,0,none⟩)] 55)
 have hg2:=heap_alloc_new (w.alloc (.cells #[.pointer (some ⟨g,0,none⟩)] 55)) (.cells #[I 0] 3)
 have hs1:(w.alloc (.cells #[.pointer (some ⟨g,0,none⟩)] 55)).heap.size=w.heap.size+1:=by simp
 rw [hs1] at hg2
 have hg3:((w.alloc (.cells #[.pointer (some ⟨g,0,none⟩)] 55)).alloc (.cells #[I 0] 3)).heap[w.heap.size]?=some (.cells #[.pointer (some ⟨g,0,none⟩)] 55 (0,0)):=by
  rw [Below.heap_alloc _ _ _ (by rw [hs1];omega)];exact hg1
 have HR:=Lib.hid (h.below hb2)
 have hgl:=h.lt
 have HW:Hid (Below w0.heap.size w0 ((w.alloc (.cells #[.pointer (some ⟨g,0,none⟩)] 55)).alloc (.cells #[I 0] 3))):=Lib.hid (hw.trans (hb2.mono hw.size))
 have hws:=hw.size
 clear h hb hg1 hs1 hw hb2
 go_enter Tryz.func46,Tryz.ntmps46
 go_upto_region 2 with fail
 generalize World.alloc (World.alloc w _) _=v at HR HW hg2 hg3 ⊢
 generalize hnb:w.heap.size+1=nb at hg2 ⊢
 generalize hrb:w.heap.size=rb at hg3 ⊢
 have LR:Hid (∀ W,Below v.heap.size v W→Lies W ⟨rb,0,none⟩ [.pointer (some ⟨g,0,none⟩)]):=Lib.hid (fun W hb=>by have:=Row.lies_of_block ((hb.block rb (Array.getElem?_eq_some_iff.1 hg3).1).trans hg3);simpa using this)
 have HG2:=Lib.hid hg2
 clear hg2 hg3
 refine QT.region v.heap.size 6 (by kernel_rfl) (by kernel_rfl) ?_
 simp only [List.take_succ_cons,List.take_zero]
 repeat first
  | (refine QL.wpQuiet_load rfl 55 _ rfl ⟨rb,0,none⟩ rfl [.pointer (some ⟨g,0,none⟩)] _ (fun w' ⟨p,e⟩=>by rw [e];exact LR.out _ p.below) Tryz.underlying55 rfl infoRd ?_
     dsimp only [Act.put]
     simp only [List.setIfInBounds_toArray,List.set_cons_zero,List.set_cons_succ])
  | (quiet_step (fail))
  | (refine wpQuiet_run rfl (I 16777216) (fun w=>rfl) ?_
     dsimp only [Act.put]
     simp only [List.setIfInBounds_toArray,List.set_cons_zero,List.set_cons_succ])
 refine wpQuiet_nil ?_
 intro _ hw'
 obtain ⟨p,rfl⟩:=hw'
 have HR2:=Lib.hid (HR.out.below p.below)
 have HN2:=Lib.hid ((p.below.block nb (Array.getElem?_eq_some_iff.1 HG2.out).1).trans HG2.out)
 have HWD:Hid (Below w0.heap.size w0 p.world):=Lib.hid (HW.out.trans (p.below.mono HW.out.size))
 generalize p.world=vd at HR2 HN2 HWD ⊢
 simp only [List.drop_succ_cons,List.drop_zero]
 go_wp2_with fail
 refine (number_nil (B:=w0.heap.size) ad cap _ vd HR2.out HN2.out (by omega) HWD.out.size hg (by omega)).mono ?_
 rintro e v3 ⟨rfl,hb3⟩
 exact ⟨rfl,rfl,HWD.out.trans hb3⟩
theorem head_nil {g:Nat} (ad:Option Addr) (cap:Nat) (w0 w:World) (h:Rd w g ad cap [] 0 0 0) (hw:Below w0.heap.size w0 w) (hg:w0.heap.size≤g) :
  Calls Tryz.prog 19 #[rdr g] w fun e w'=>e=.panicked [{ v:=fault (2,0),recovered:=false }]∧Below w0.heap.size w0 w':=by
 have hb:=(Below.refl w.heap.size w).alloc (Nat.le_refl _) (.cells #[.pointer (some ⟨g,0,none⟩)] 55)
 have hg1:=heap_alloc_new w (.cells #[.pointer (some ⟨g,0,none⟩)] 55)
 have hw2:=hw.trans (hb.mono hw.size)
 have HC:=Lib.hid (raw_nil ad cap w0 _ (h.below hb) hw2 hg)
 clear h hb hw hw2
 go_enter Tryz.func19,Tryz.ntmps19
 go_upto_region 1 with fail
 generalize World.alloc w _=v at HC hg1 ⊢
 have LR:Hid (Lies v ⟨w.heap.size,0,none⟩ [.pointer (some ⟨g,0,none⟩)]):=Lib.hid (by have:=Row.lies_of_block hg1;simpa using this)
 go_wp2_with (refine Row.wpList_load_g 55 _ rfl (by first | rfl | go_simp) ⟨w.heap.size,0,none⟩ rfl [.pointer (some ⟨g,0,none⟩)] _ LR.out Tryz.underlying55 rfl infoRd ?_)
 refine HC.out.mono ?_
 rintro e v3 ⟨rfl,hb3⟩
 exact ⟨rfl,rfl,hb3⟩
end Rr
namespace Rr
open Go Go.RowKit Go.ChangeShapes
open Tab
open Po (fault infoF caught_fault)
open Rd (Rd But)
open Clone (zTab zHd info31 z_is)
theorem results_two {P:Program} {fn:Func} {p q:Tmp} {t1 t2:TypeId} (h:fn.results=#[.cell p t1,.cell q t2]) (tmps:Array Value) (w:World) (g1 g2:Nat) (s1 s2:TypeId) (c1 c2:Array Value) (d1 d2:TypeDesc)
  (hp:tmps.getD p undef=.pointer (some ⟨g1,0,none⟩)) (hq:tmps.getD q undef=.pointer (some ⟨g2,0,none⟩)) (hg1:w.heap[g1]?=some (.cells c1 s1 (0,0))) (hg2:w.heap[g2]?=some (.cells c2 s2 (0,0)))
  (hu1:P.underlying t1=some d1) (hd1:(match d1 with | .struct _ | .array _ _=>true | _=>false)=true) (hi1:(P.info? t1).map (·.size)=some c1.size)
  (hu2:P.underlying t2=some d2) (hd2:(match d2 with | .struct _ | .array _ _=>true | _=>false)=true) (hi2:(P.info? t2).map (·.size)=some c2.size) :
  (results fn tmps).run P w=.ok (.tuple #[.agg c1,.agg c2]) w:=by
 have hp':tmps[p]?.getD undef=.pointer (some ⟨g1,0,none⟩):=by simpa using hp
 have hq':tmps[q]?.getD undef=.pointer (some ⟨g2,0,none⟩):=by simpa using hq
 simp [results,h,hp',hq',asAddr,Sem.run_bind,Result.andThen,run_loadVar_row w g1 s1 t1 c1 _ d1 hg1 hu1 hd1 hi1,run_loadVar_row w g2 s2 t2 c2 _ d2 hg2 hu2 hd2 hi2]
theorem dclo_panic (b:Nat) (z0 z1 x y:Int) (w:World) (hc:w.heap[b]?=some (.cells #[I z0,I z1] 36 (0,0))) :
  CallsD Tryz.prog 15 #[.pointer (some ⟨b,0,none⟩)] (.panicking [{ v:=fault (x,y),recovered:=false }]) w fun e u' w'=>e=.returned (.tuple #[])∧u'=.panicking [{ v:=fault (x,y),recovered:=true }]∧But b w w'∧w'.heap[b]?=some (.cells #[I x,I y] 36 (0,0)):=by
 refine callsD_of_wpS Tryz.func15 rfl fun c₀ cs hu=>?_
 apply wpS_region
 simp [wpOpsS,go_sem,recoverD,hu]
 refine (caught_fault x y _).mono ?_
 rintro e w' ⟨rfl,hb⟩
 have hc1:=(hb.block b (Array.getElem?_eq_some_iff.1 hc).1).trans hc
 have c0:w'.cell? ⟨b,0,none⟩=some (I z0):=by rw [cell_of_row _ _ _ _ _ _ hc1];rfl
 have c1:w'.cell? ⟨b,1,none⟩=some (I z1):=by rw [cell_of_row _ _ _ _ _ _ hc1];rfl
 have f0:w'.frozen? ⟨b,0,none⟩=false:=frozen_of_row _ _ _ _ _ hc1
 have f1:w'.frozen? ⟨b,1,none⟩=false:=frozen_of_row _ _ _ _ _ hc1
 have hs1:w'.setCell ⟨b,0,none⟩ (I x)=w'.setRow b #[I x,I z1]:=setCell_eq_setRow w' b 0 #[I z0,I z1] 36 (0,0) (I x) hc1
 have hr1:=setRow_heap w' b _ #[I x,I z1] _ _ hc1
 have hs2:(w'.setRow b #[I x,I z1]).setCell ⟨b,1,none⟩ (I y)=(w'.setRow b #[I x,I z1]).setRow b #[I x,I y]:=setCell_eq_setRow _ b 1 #[I x,I z1] 36 (0,0) (I y) hr1
 have hr2:=setRow_heap _ b _ #[I x,I y] _ _ hr1
 rw [← hs2,← hs1] at hr2
 have hbut:But b w ((w'.setCell ⟨b,0,none⟩ (I x)).setCell ⟨b,1,none⟩ (I y)):=((But.of hb).trans (But.set b 0 w' _)).trans (But.set b 1 _ _)
 clear hs1 hs2 hr1
 simp [wpOpsS,go_sem,c0,f0,c1,f1,World.cell?_setCell_other,bodyPostS,results,Tryz.results15]
 exact ⟨hbut,hr2⟩
theorem dec_nil (w:World):Calls Tryz.prog 6 #[.slice none 0 0] w fun e w'=>e=.returned (.tuple #[.agg (zTab.cells zHd).toArray,.agg #[I 2,I 0]])∧Below w.heap.size w w':=by
 have hmf:∀ (fn:Fn) (first cap:Array Value) (w:World),(Instr.makeFunc fn first cap).run Tryz.prog w=.ok (.func fn first cap) w:=fun _ _ _ _=>rfl
 have hz:=(zero_of_info info31).1
 have ZS:(zTab.cells zHd).toArray.size=131:=(cells_ok (z_is w)).size
 have ZI:(Tryz.prog.info? 33).map (·.size)=some (zTab.cells zHd).toArray.size:=by rw [ZS];kernel_rfl
 obtain ⟨Z,hZ⟩:∃ Z,(zTab.cells zHd).toArray=Z:=⟨_,rfl⟩
 rw [hZ] at hz ZI
 have EZ:=Lib.hid hZ
 have hb1:=(Below.refl w.heap.size w).alloc (Nat.le_refl _) (.cells Z 33)
 have hb2:=hb1.alloc hb1.size (.cells #[I 0,I 0] 36)
 have hg1:=heap_alloc_new w (.cells Z 33)
 have hg2:=heap_alloc_new (w.alloc (.cells Z 33)) (.cells #[I 0,I 0] 36)
 have hs1:(w.alloc (.cells Z 33)).heap.size=w.heap.size+1:=by simp
 rw [hs1] at hg2
 have hg3:((w.alloc (.cells Z 33)).alloc (.cells #[I 0,I 0] 36)).heap[w.heap.size]?=some (.cells Z 33 (0,0)):=by
  rw [Below.heap_alloc _ _ _ (by rw [hs1];omega)];exact hg1
 clear hZ ZS hb1 hg1 hs1
 go_enter_defers Tryz.func6,Tryz.ntmps6
 go_upto_region 2 with fail
 generalize World.alloc (World.alloc w _) _=v at hb2 hg2 hg3 ⊢
 generalize hfb:w.heap.size+1=fb at hg2 ⊢
 generalize htb:w.heap.size=tb at hg3 ⊢
 have HB:=Lib.hid hb2
 have HF:=Lib.hid hg2
 have HT:=Lib.hid hg3
 clear hb2 hg2 hg3
 go_wp2_with fail
 refine (Rd.new_any none 0 [] v (Go.Proofs.YtjdeemmaaiecnaaGreat.B.row_nil _ _ _ rfl) (by decide) (fun _=>rfl)).mono ?_
 rintro e v1 ⟨g,ad,cap,rfl,hg,_,hrd,hb⟩
 go_upto_region 5 with fail
 have hb3:=hb.alloc hb.size (.cells #[.pointer (some ⟨g,0,none⟩)] 55)
 have hr3:=heap_alloc_new v1 (.cells #[.pointer (some ⟨g,0,none⟩)] 55)
 have hrd3:=hrd.below ((Below.refl v1.heap.size v1).alloc (Nat.le_refl _) (.cells #[.pointer (some ⟨g,0,none⟩)] 55))
 generalize World.alloc v1 _=v2 at hb3 hr3 hrd3 ⊢
 generalize v1.heap.size=rb at hr3 ⊢
 have LR:Hid (Lies v2 ⟨rb,0,none⟩ [.pointer (some ⟨g,0,none⟩)]):=Lib.hid (by have:=Row.lies_of_block hr3;simpa using this)
 have HH:=Lib.hid (head_nil ad cap v v2 hrd3 hb3 hg)
 clear hb hb3 hr3 hrd hrd3 hg
 go_wp2_with (refine Row.wpList_load_g 55 _ rfl (by first | rfl | go_simp) ⟨rb,0,none⟩ rfl [.pointer (some ⟨g,0,none⟩)] _ LR.out Tryz.underlying55 rfl infoRd ?_)
 refine HH.out.mono ?_
 rintro e v3 ⟨rfl,hb3⟩
 have hF3:=(hb3.block fb (Array.getElem?_eq_some_iff.1 HF.out).1).trans HF.out
 have hT3:=(hb3.block tb (Array.getElem?_eq_some_iff.1 HT.out).1).trans HT.out
 go_wp2
 refine leaves_cons (f:=15) (args:=#[.pointer (some ⟨fb,0,none⟩)]) (by simp) (by simp [go_sem]) ?_
 refine (dclo_panic fb 0 0 2 0 v3 hF3).mono ?_
 rintro e u' w'' ⟨rfl,rfl,hbut,hF4⟩
 have hT4:=(hbut.block tb (Array.getElem?_eq_some_iff.1 hT3).1 (by omega)).trans hT3
 have hBB:Below w.heap.size w w'':=(HB.out.trans (hb3.mono HB.out.size)).trans (hbut.below (Nat.le_trans HB.out.size hb3.size) (by omega))
 exact ⟨_,results_two rfl _ w'' tb fb 33 36 Z #[I 2,I 0] _ _ rfl rfl hT4 hF4 Tryz.underlying33 rfl ZI Tryz.underlying36 rfl infoF,by rw [EZ.out],hBB⟩
end Rr
namespace Rr
open Go Go.RowKit Go.ChangeShapes
open Tab
open Po (infoF)
open Clone (zTab zHd info31 z_is)
theorem wpList_build0 {P:Program} {ops:Array Oper} {Q:Exit→Act→World→Prop} {rest:List Oper} {o:Oper} {a:Act} {w:World} (hgd:o.guard=none) (t:TypeId) (ho:o.op=.build t #[]) (cells:Array Value) (hb:P.built t []=some cells)
  (h:wpList P ops Q rest (a.put o.dst (.agg cells)) w):wpList P ops Q (o :: rest) a w :=
 wpList_plain hgd fun _ hK=>by
  unfold Oper.wp execOp
  have hb':P.built t ((#[]:Array (Nat × Operand)).map fun (i,x)=>(i,a.eval x)).toList=some cells:=by simpa using hb
  simp only [ho,Sem.run_bind,run_build w t _ _ hb',Result.andThen_ok,Sem.run_pure]
  exact hK _ _ h
theorem builtZ:Tryz.prog.built 33 []=some (zTab.cells zHd).toArray:=by kernel_rfl
theorem may_z:May.tabMay zTab=true:=by decide +kernel
theorem awake_any (w:World):Calls Tryz.prog 5 #[] w fun e w'=>e=.returned (.bool true)∧Below w.heap.size w w':=by
 have hz:=(zero_of_info info31).1
 have ZS:(zTab.cells zHd).toArray.size=131:=(cells_ok (z_is w)).size
 have ZO:=(cells_ok (z_is w)).one
 have ZI:(Tryz.prog.info? 33).map (·.size)=some (zTab.cells zHd).toArray.size:=by rw [ZS];kernel_rfl
 have DN:Hid (∀ W,Calls Tryz.prog 6 #[.slice none 0 0] W fun e w'=>e=.returned (.tuple #[.agg (zTab.cells zHd).toArray,.agg #[I 2,I 0]])∧Below W.heap.size W w'):=Lib.hid (fun W=>dec_nil W)
 have EN:Hid (∀ W,Calls Tryz.prog 13 #[.agg (zTab.cells zHd).toArray] W fun e w'=>∃ v,e=.returned (.tuple #[v,I 0])∧B.Own W.heap.size w' v (Cd.sealB (Cd.bodyB zTab))∧Below W.heap.size W w'):=Lib.hid (fun W=>Po.enc_good (z_is W) may_z)
 have BZ:=Lib.hid builtZ
 have L8:Hid (∀ x ∈ Cd.sealB (Cd.bodyB zTab),x < 256):=Lib.hid ((Cd.B8.body _).app (Cd.B8.low _ _))
 have LL:Hid (3 < (Cd.sealB (Cd.bodyB zTab)).length∧(Cd.sealB (Cd.bodyB zTab)).getD 0 0=88):=Lib.hid ⟨by unfold Cd.sealB;rw [List.length_append,Put.low_len];show 3 < (3+(Cd.itemsB zTab).length)+2 ;omega,rfl⟩
 generalize (zTab.cells zHd).toArray=Z at hz ZS ZO ZI DN EN BZ
 generalize Cd.sealB (Cd.bodyB zTab)=L at EN L8 LL
 go_enter Tryz.func5,Tryz.ntmps5
 go_wp2_with fail
 refine (DN.out w).mono ?_
 rintro e v1 ⟨rfl,hb1⟩
 have HB1:=Lib.hid hb1
 have hs1:(v1.alloc (.cells Z 33)).heap.size=v1.heap.size+1:=by simp
 have kb0:((v1.alloc (.cells Z 33)).alloc (.cells #[I 0,I 0] 36)).heap[v1.heap.size]?=some (.cells Z 33 (0,0)):=by
  rw [Below.heap_alloc _ _ _ (by rw [hs1];omega)];exact heap_alloc_new v1 _
 have kf0:((v1.alloc (.cells Z 33)).alloc (.cells #[I 0,I 0] 36)).heap[v1.heap.size+1]?=some (.cells #[I 0,I 0] 36 (0,0)):=by
  have:=heap_alloc_new (v1.alloc (.cells Z 33)) (.cells #[I 0,I 0] 36)
  rwa [hs1] at this
 have kf1:(((v1.alloc (.cells Z 33)).alloc (.cells #[I 0,I 0] 36)).setRow v1.heap.size Z).heap[v1.heap.size+1]?=some (.cells #[I 0,I 0] 36 (0,0)):=(setRow_other _ _ _ _ (by omega)).trans kf0
 have kf2:=setRow_heap _ (v1.heap.size+1) _ #[I 2,I 0] _ _ kf1
 have hb2:Below v1.heap.size v1 ((((v1.alloc (.cells Z 33)).alloc (.cells #[I 0,I 0] 36)).setRow v1.heap.size Z).setRow (v1.heap.size+1) #[I 2,I 0]) :=
  below_setRow (below_setRow (((Below.refl _ _).alloc (Nat.le_refl _) _).alloc (by rw [hs1];omega) _) (Nat.le_refl _) Z) (by omega) _
 have KB:=Lib.hid kb0
 have KF:=Lib.hid kf1
 have KF2:=Lib.hid kf2
 have HB2:=Lib.hid (hb1.trans (hb2.mono hb1.size))
 clear kb0 kf0 kf1 kf2 hb2 hs1 hb1
 go_upto_region 2 with (first | (refine wpList_store_row rfl 33 _ _ rfl v1.heap.size Z rfl rfl 33 _ KB.out ZI rfl ZO ?_) | (refine wpList_store_row rfl 36 _ _ rfl (v1.heap.size+1) #[I 2,I 0] rfl rfl 36 _ KF.out infoF rfl (by simp [Value.oneCell']) ?_))
 generalize ((((v1.alloc (.cells Z 33)).alloc (.cells #[I 0,I 0] 36)).setRow v1.heap.size Z).setRow (v1.heap.size+1) #[I 2,I 0])=v2 at KF2 HB2 ⊢
 generalize v1.heap.size+1=fb at KF2 ⊢
 clear KB KF
 go_wp2_with (refine wpList_build0 rfl 33 rfl Z BZ.out ?_)
 refine (EN.out v2).mono ?_
 rintro e v3 ⟨bv,rfl,hown,hb3⟩
 obtain ⟨a,cap,rfl,hr⟩:=B.own_row hown L8.out
 obtain ⟨n,hn⟩:∃ n,n=L.length:=⟨_,rfl⟩
 have hn3:3 < n:=by rw [hn];exact LL.out.1
 obtain ⟨x,rfl,hc⟩:=hr.cells (k:=0) (by omega)
 have hc0:=hc 0 (by omega)
 rw [LL.out.2,Tab.add_zero] at hc0
 have hF3:=(hb3.block fb (Array.getElem?_eq_some_iff.1 KF2.out).1).trans KF2.out
 have k0:v3.cell? ⟨fb,0,none⟩=some (I 2):=by rw [cell_of_row _ _ _ _ _ _ hF3];rfl
 have k1:v3.cell? ⟨fb,1,none⟩=some (I 0):=by rw [cell_of_row _ _ _ _ _ _ hF3];rfl
 have HB3:=Lib.hid (HB2.out.trans (hb3.mono HB2.out.size))
 rw [← hn]
 clear hown hr hc hF3 hb3 hn
 go_wp2
 go_ret
 exact ⟨rfl,HB3.out⟩
end Rr
namespace Rf
open Go.ChangeShapes Go.WideShapes Go.ChangeAt Go.RowKit
open B Put Rd Nx Num Nm
theorem ok_any (g:Nat) (ad:Option Addr) (cap:Nat) (l:List Nat) (k:Nat) (code fat:Int) (w:World) (h:Rd w g ad cap l k code fat) :
  Calls Tryz.prog 25 #[.pointer (some ⟨g,0,none⟩)] w fun e w'=>e=.returned (.bool (decide (code=0)))∧w=w':=by
 have h2:=h.c2
 clear h
 go_enter Tryz.func25,Tryz.ntmps25
 go_wp2
 go_ret
 exact ⟨rfl,rfl⟩
theorem bits_end (g:Nat) (ad:Option Addr) (cap:Nat) (l:List Nat) (k s:Nat) (w:World) (h:Rd w g ad cap l k 0 0) (hl:l.length≤10000) (hk:k≤l.length) (hs:l.length < k+s) (h8:s≤8) :
  Calls Tryz.prog 67 #[.pointer (some ⟨g,0,none⟩),.int .i64 s] w fun e w'=>e=.returned (.int .u64 0)∧Rd w' g ad cap l k 2 l.length∧But g w w':=by
 have h0:=h.c0
 have h1:=h.c1
 have h2:=h.c2
 have h3:=h.c3
 have h4:=h.fz 2
 have h5:=h.fz 3
 have HR:=Lib.hid h
 have ht:((l.length:Int) - (k:Int) < (s:Int)):=by omega
 clear h
 go_enter Tryz.func67,Tryz.ntmps67
 go_wp2
 go_quiet (fail)
 have hdr:Below w.heap.size w (w.drewN nq):=below_drewN (Below.refl _ _) nq
 have HR2:=Lib.hid (HR.out.below hdr)
 have hset:But g (w.drewN nq) (((w.drewN nq).setCell ⟨g,2,none⟩ (.int .i64 2)).setCell ⟨g,3,none⟩ (.int .i64 l.length)):=(But.set g 2 _ _).trans (But.set g 3 _ _)
 have hgo:But g w (((w.drewN nq).setCell ⟨g,2,none⟩ (.int .i64 2)).setCell ⟨g,3,none⟩ (.int .i64 l.length)):=(But.of hdr).trans hset
 have hk:=Rd.keeps HR2.out 2 l.length
 go_wp2
 go_ret
 exact ⟨rfl,hk,hgo⟩
theorem bits_ok (g:Nat) (ad:Option Addr) (cap:Nat) (l:List Nat) (k s:Nat) (w:World) (h:Rd w g ad cap l k 0 0) (hl:l.length≤10000) (hs:k+s≤l.length) (h8:s≤8) :
  Calls Tryz.prog 67 #[.pointer (some ⟨g,0,none⟩),.int .i64 s] w fun e w'=>e=.returned (.int .u64 (val l k s:Nat))∧∃ n,w'=w.drewN n:=by
 have h0:=h.c0
 have h1:=h.c1
 have HR:=Lib.hid h
 have ht:¬ ((l.length:Int) - (k:Int) < (s:Int)):=by omega
 clear h
 go_enter Tryz.func67,Tryz.ntmps67
 go_wp2
 go_quiet (fail)
 go_wp2
 go_loopw [5,6] (fun t i wr=>∃ q:Nat,q≤s∧i=.int .i64 q∧t=.int .u64 (val l k q:Nat)∧∃ n,wr=w.drewN n) (fun _ i _=>s - (intOf i).toNat)
 case atStart=>exact ⟨0,Nat.zero_le _,rfl,rfl,_,rfl⟩
 case round =>
  obtain ⟨q,hq,rfl,rfl,n,rfl⟩:=hrel
  by_cases hlt:q < s
  ·obtain ⟨x,rfl,hcl⟩:=HR.out.row.cells (k:=k+q) (by omega)
   have hcell:w.cell? (x.add (k+q))=some (.int .u8 (l.getD (k+q) 0:Nat)):=hcl _ (by omega)
   clear hcl
   have hy:l.getD (k+q) 0 < 256:=HR.out.row.lt _ (by omega)
   have hv:=val_step l k q (by omega) (by omega) HR.out.row.2.1
   have hqk:k+q < l.length:=by omega
   generalize l.getD (k+q) 0=y at hcell hv hy
   generalize hv1:val l k (q+1)=v1 at hv
   have Hv1:=Lib.hid hv1
   clear hv1
   generalize val l k q=v0 at hv
   go_wp2
   go_quiet (fail)
   go_wp2
   go_roundw
   case rel=>exact ⟨q+1,by omega,by go_num,by rw [Hv1.out],n+nq,by simp [World.drewN]⟩
   case measure=>simp [intOf];omega
  ·obtain rfl:q=s:=by omega
   go_wp2
   go_ret
   exact ⟨rfl,_,rfl⟩
theorem num_dead (g:Nat) (ad:Option Addr) (cap:Nat) (l:List Nat) (k:Nat) (code fat:Int) (size low high:Int) (w:World) (h:Rd w g ad cap l k code fat) (hne:code ≠ 0) :
  Calls Tryz.prog 24 #[.pointer (some ⟨g,0,none⟩),.int .i64 size,.int .i64 low,.int .i64 high] w fun e w'=>e=.returned (.int .i64 0)∧Rd w' g ad cap l k code fat∧But g w w':=by
 have HR:=Lib.hid h
 clear h
 go_enter Tryz.func24,Tryz.ntmps24
 go_wp2_with fail
 refine (ok_any g ad cap l k code fat (_) HR.out).mono ?_
 rintro e w' ⟨rfl,rfl⟩
 rw [show decide (code=0)=false from decide_eq_false hne]
 go_wp2
 go_ret
 exact ⟨rfl,HR.out,But.refl _ _⟩
theorem num_end (g:Nat) (ad:Option Addr) (cap:Nat) (l:List Nat) (k:Nat) (size low high:Int) (w:World) (h:Rd w g ad cap l k 0 0) (hl:l.length≤10000) (hk:k≤l.length) (hs:l.length < k+(lim size 7)) :
  Calls Tryz.prog 24 #[.pointer (some ⟨g,0,none⟩),.int .i64 size,.int .i64 low,.int .i64 high] w fun e w'=>e=.returned (.int .i64 0)∧Rd w' g ad cap l k 2 l.length∧But g w w':=by
 have HR:=Lib.hid h
 clear h
 go_enter Tryz.func24,Tryz.ntmps24
 go_wp2_with fail
 refine (ok_any g ad cap l k 0 0 (_) HR.out).mono ?_
 rintro e w' ⟨rfl,rfl⟩
 rw [show decide ((0:Int)=0)=true from rfl]
 go_wp2_with fail
 refine (cut_any size 7 _).mono ?_
 rintro e w' ⟨rfl,rfl⟩
 have hs7:=lim_le size 7
 generalize hsz:lim size 7=sz at hs hs7 ⊢
 have HSZ:=Lib.hid hsz
 clear hsz
 go_wp2_with fail
 refine (bits_end g ad cap l k sz _ HR.out hl hk hs (by omega)).mono ?_
 rintro e w1 ⟨rfl,hr1,hb1⟩
 have HR1:=Lib.hid hr1
 clear hr1
 have hw:wrap64 0=0:=by unfold wrap64;omega
 go_wp2_with fail
 refine (ok_any g ad cap l k 2 l.length (_) HR1.out).mono ?_
 rintro e w' ⟨rfl,rfl⟩
 rw [show decide ((2:Int)=0)=false from decide_eq_false (by decide)]
 go_wp2_with fail
 refine (ok_any g ad cap l k 2 l.length (_) HR1.out).mono ?_
 rintro e w' ⟨rfl,rfl⟩
 rw [show decide ((2:Int)=0)=false from decide_eq_false (by decide)]
 go_wp2
 go_ret
 exact ⟨rfl,HR1.out,hb1⟩
theorem num_below (g:Nat) (ad:Option Addr) (cap:Nat) (l:List Nat) (k:Nat) (size low high:Int) (w:World) (h:Rd w g ad cap l k 0 0) (hl:l.length≤10000) (hs:k+lim size 7≤l.length) (hlow:(val l k (lim size 7):Int) < low) :
  Calls Tryz.prog 24 #[.pointer (some ⟨g,0,none⟩),.int .i64 size,.int .i64 low,.int .i64 high] w fun e w'=>e=.returned (.int .i64 0)∧Rd w' g ad cap l k 4 k∧But g w w':=by
 have HR:=Lib.hid h
 clear h
 go_enter Tryz.func24,Tryz.ntmps24
 go_wp2_with fail
 refine (ok_any g ad cap l k 0 0 (_) HR.out).mono ?_
 rintro e w' ⟨rfl,rfl⟩
 rw [show decide ((0:Int)=0)=true from rfl]
 go_wp2_with fail
 refine (cut_any size 7 _).mono ?_
 rintro e w' ⟨rfl,rfl⟩
 have hs7:=lim_le size 7
 generalize hsz:lim size 7=sz at hs hs7 hlow ⊢
 have HSZ:=Lib.hid hsz
 clear hsz
 go_wp2_with fail
 refine (bits_ok g ad cap l k sz _ HR.out hl hs (by omega)).mono ?_
 rintro e w' ⟨rfl,n,rfl⟩
 have hv56:val l k sz < 72057594037927936:=val_small l k sz HR.out.row.2.1 (by omega)
 generalize hval:val l k sz=v at hv56 hlow ⊢
 have HV:=Lib.hid hval
 clear hval
 have hw:wrap64 (v:Int)=v:=by unfold wrap64;omega
 have hw2:IntKind.i64.wrap (v:Int)=v:=by rw [IntKind.wrap_i64];omega
 have hlo:decide ((v:Int) < low)=true:=decide_eq_true (by omega)
 have hdr:Below w.heap.size w (w.drewN n):=below_drewN (Below.refl _ _) n
 have HR2:=Lib.hid (HR.out.below hdr)
 go_wp2_with fail
 refine (ok_any g ad cap l k 0 0 (_) HR2.out).mono ?_
 rintro e w' ⟨rfl,rfl⟩
 rw [show decide ((0:Int)=0)=true from rfl]
 have h1:=HR2.out.c1
 have h2:=HR2.out.c2
 have h3:=HR2.out.c3
 have h4:=HR2.out.fz 2
 have h5:=HR2.out.fz 3
 have hset:But g (w.drewN n) (((w.drewN n).setCell ⟨g,2,none⟩ (.int .i64 4)).setCell ⟨g,3,none⟩ (.int .i64 k)):=(But.set g 2 _ _).trans (But.set g 3 _ _)
 have Hgo:=Lib.hid ((But.of hdr).trans hset)
 have Hk:=Lib.hid (Rd.keeps HR2.out 4 k)
 clear hset
 go_wp2_with fail
 refine (ok_any g ad cap l k 4 k (_) Hk.out).mono ?_
 rintro e w' ⟨rfl,rfl⟩
 rw [show decide ((4:Int)=0)=false from decide_eq_false (by decide)]
 go_wp2
 go_ret
 exact ⟨rfl,Hk.out,Hgo.out⟩
theorem num_above (g:Nat) (ad:Option Addr) (cap:Nat) (l:List Nat) (k:Nat) (size low high:Int) (w:World) (h:Rd w g ad cap l k 0 0) (hl:l.length≤10000) (hs:k+lim size 7≤l.length) (hlow:¬ (val l k (lim size 7):Int) < low) (hhigh:high < (val l k (lim size 7):Int)) :
  Calls Tryz.prog 24 #[.pointer (some ⟨g,0,none⟩),.int .i64 size,.int .i64 low,.int .i64 high] w fun e w'=>e=.returned (.int .i64 0)∧Rd w' g ad cap l k 4 k∧But g w w':=by
 have HR:=Lib.hid h
 clear h
 go_enter Tryz.func24,Tryz.ntmps24
 go_wp2_with fail
 refine (ok_any g ad cap l k 0 0 (_) HR.out).mono ?_
 rintro e w' ⟨rfl,rfl⟩
 rw [show decide ((0:Int)=0)=true from rfl]
 go_wp2_with fail
 refine (cut_any size 7 _).mono ?_
 rintro e w' ⟨rfl,rfl⟩
 have hs7:=lim_le size 7
 generalize hsz:lim size 7=sz at hs hs7 hlow hhigh ⊢
 have HSZ:=Lib.hid hsz
 clear hsz
 go_wp2_with fail
 refine (bits_ok g ad cap l k sz _ HR.out hl hs (by omega)).mono ?_
 rintro e w' ⟨rfl,n,rfl⟩
 have hv56:val l k sz < 72057594037927936:=val_small l k sz HR.out.row.2.1 (by omega)
 generalize hval:val l k sz=v at hv56 hlow hhigh ⊢
 have HV:=Lib.hid hval
 clear hval
 have hw:wrap64 (v:Int)=v:=by unfold wrap64;omega
 have hw2:IntKind.i64.wrap (v:Int)=v:=by rw [IntKind.wrap_i64];omega
 have hlo:decide ((v:Int) < low)=false:=decide_eq_false (by omega)
 have hhi:decide ((v:Int) > high)=true:=decide_eq_true (by omega)
 have hdr:Below w.heap.size w (w.drewN n):=below_drewN (Below.refl _ _) n
 have HR2:=Lib.hid (HR.out.below hdr)
 go_wp2_with fail
 refine (ok_any g ad cap l k 0 0 (_) HR2.out).mono ?_
 rintro e w' ⟨rfl,rfl⟩
 rw [show decide ((0:Int)=0)=true from rfl]
 have h1:=HR2.out.c1
 have h2:=HR2.out.c2
 have h3:=HR2.out.c3
 have h4:=HR2.out.fz 2
 have h5:=HR2.out.fz 3
 have hset:But g (w.drewN n) (((w.drewN n).setCell ⟨g,2,none⟩ (.int .i64 4)).setCell ⟨g,3,none⟩ (.int .i64 k)):=(But.set g 2 _ _).trans (But.set g 3 _ _)
 have Hgo:=Lib.hid ((But.of hdr).trans hset)
 have Hk:=Lib.hid (Rd.keeps HR2.out 4 k)
 clear hset
 go_wp2_with fail
 refine (ok_any g ad cap l k 4 k (_) Hk.out).mono ?_
 rintro e w' ⟨rfl,rfl⟩
 rw [show decide ((4:Int)=0)=false from decide_eq_false (by decide)]
 go_wp2
 go_ret
 exact ⟨rfl,Hk.out,Hgo.out⟩
theorem num_ok (g:Nat) (ad:Option Addr) (cap:Nat) (l:List Nat) (k:Nat) (size low high:Int) (w:World) (h:Rd w g ad cap l k 0 0) (hl:l.length≤10000) (hs:k+(lim size 7)≤l.length) (hlow:¬ (val l k (lim size 7):Int) < low) (hhigh:¬ high < (val l k (lim size 7):Int)) :
  Calls Tryz.prog 24 #[.pointer (some ⟨g,0,none⟩),.int .i64 size,.int .i64 low,.int .i64 high] w fun e w'=>e=.returned (.int .i64 (val l k (lim size 7):Nat))∧Rd w' g ad cap l (k+lim size 7) 0 0∧But g w w':=by
 have HR:=Lib.hid h
 clear h
 go_enter Tryz.func24,Tryz.ntmps24
 go_wp2_with fail
 refine (ok_any g ad cap l k 0 0 (_) HR.out).mono ?_
 rintro e w' ⟨rfl,rfl⟩
 rw [show decide ((0:Int)=0)=true from rfl]
 go_wp2_with fail
 refine (cut_any size 7 _).mono ?_
 rintro e w' ⟨rfl,rfl⟩
 have hs7:=lim_le size 7
 generalize hsz:lim size 7=sz at hs hs7 hlow hhigh ⊢
 have HSZ:=Lib.hid hsz
 clear hsz
 go_wp2_with fail
 refine (bits_ok g ad cap l k sz _ HR.out hl hs (by omega)).mono ?_
 rintro e w' ⟨rfl,n,rfl⟩
 have hv56:val l k sz < 72057594037927936:=val_small l k sz HR.out.row.2.1 (by omega)
 generalize hval:val l k sz=v at hv56 hlow hhigh ⊢
 have HV:=Lib.hid hval
 clear hval
 have hw:wrap64 (v:Int)=v:=by unfold wrap64;omega
 have hw2:IntKind.i64.wrap (v:Int)=v:=by rw [IntKind.wrap_i64];omega
 have hlo:decide ((v:Int) < low)=false:=decide_eq_false (by omega)
 have hhi:decide ((v:Int) > high)=false:=decide_eq_false (by omega)
 have hdr:Below w.heap.size w (w.drewN n):=below_drewN (Below.refl _ _) n
 have HR2:=Lib.hid (HR.out.below hdr)
 go_wp2_with fail
 refine (ok_any g ad cap l k 0 0 (_) HR2.out).mono ?_
 rintro e w' ⟨rfl,rfl⟩
 rw [show decide ((0:Int)=0)=true from rfl]
 go_wp2_with fail
 refine (ok_any g ad cap l k 0 0 (_) HR2.out).mono ?_
 rintro e w' ⟨rfl,rfl⟩
 rw [show decide ((0:Int)=0)=true from rfl]
 have h1:=HR2.out.c1
 have h4:=HR2.out.fz 1
 have hset:But g (w.drewN n) ((w.drewN n).setCell ⟨g,1,none⟩ (.int .i64 ((k:Int)+sz))):=But.set g 1 _ _
 have Hgo:=Lib.hid ((But.of hdr).trans hset)
 have hmv:Rd ((w.drewN n).setCell ⟨g,1,none⟩ (.int .i64 ((k:Int)+sz))) g ad cap l (k+sz) 0 0:=by
  have h:=Rd.moves HR2.out (k+sz)
  rw [Int.natCast_add] at h;exact h
 have Hmv:=Lib.hid hmv
 clear hset hmv
 go_wp2
 go_ret
 try rw [HSZ.out]
 exact ⟨HV.out.symm ▸ rfl,Hmv.out,Hgo.out⟩
theorem float_dead (g:Nat) (ad:Option Addr) (cap:Nat) (l:List Nat) (k:Nat) (code fat:Int) (w:World) (h:Rd w g ad cap l k code fat) (hne:code ≠ 0) :
  Calls Tryz.prog 115 #[.pointer (some ⟨g,0,none⟩)] w fun e w'=>e=.returned (.float .f64 0)∧Rd w' g ad cap l k code fat∧But g w w':=by
 have HR:=Lib.hid h
 clear h
 go_enter Tryz.func115,Tryz.ntmps115
 go_wp2_with fail
 refine (ok_any g ad cap l k code fat (_) HR.out).mono ?_
 rintro e w' ⟨rfl,rfl⟩
 rw [show decide (code=0)=false from decide_eq_false hne]
 go_wp2
 go_ret
 exact ⟨rfl,HR.out,But.refl _ _⟩
theorem float_end (g:Nat) (ad:Option Addr) (cap:Nat) (l:List Nat) (k:Nat) (w:World) (h:Rd w g ad cap l k 0 0) (hl:l.length≤10000) (hk:k≤l.length) (hs:l.length < k+8) :
  Calls Tryz.prog 115 #[.pointer (some ⟨g,0,none⟩)] w fun e w'=>e=.returned (.float .f64 0)∧Rd w' g ad cap l k 2 l.length∧But g w w':=by
 have HR:=Lib.hid h
 clear h
 go_enter Tryz.func115,Tryz.ntmps115
 go_wp2_with fail
 refine (ok_any g ad cap l k 0 0 (_) HR.out).mono ?_
 rintro e w' ⟨rfl,rfl⟩
 rw [show decide ((0:Int)=0)=true from rfl]
 go_wp2_with fail
 refine (bits_end g ad cap l k 8 _ HR.out hl hk hs (by omega)).mono ?_
 rintro e w1 ⟨rfl,hr1,hb1⟩
 have HR1:=Lib.hid hr1
 clear hr1
 have hw:wrap64 0=0:=by unfold wrap64;omega
 go_wp2_with fail
 refine (ok_any g ad cap l k 2 l.length (_) HR1.out).mono ?_
 rintro e w' ⟨rfl,rfl⟩
 rw [show decide ((2:Int)=0)=false from decide_eq_false (by decide)]
 go_wp2
 go_ret
 exact ⟨rfl,HR1.out,hb1⟩
theorem float_ok (g:Nat) (ad:Option Addr) (cap:Nat) (l:List Nat) (k:Nat) (w:World) (h:Rd w g ad cap l k 0 0) (hl:l.length≤10000) (hs:k+8≤l.length) :
  Calls Tryz.prog 115 #[.pointer (some ⟨g,0,none⟩)] w fun e w'=>e=.returned (.float .f64 (val l k 8))∧Rd w' g ad cap l (k+8) 0 0∧But g w w':=by
 have HR:=Lib.hid h
 clear h
 have hfb:=frombits_call
 go_enter Tryz.func115,Tryz.ntmps115
 go_wp2_with fail
 refine (ok_any g ad cap l k 0 0 (_) HR.out).mono ?_
 rintro e w' ⟨rfl,rfl⟩
 rw [show decide ((0:Int)=0)=true from rfl]
 go_wp2_with fail
 refine (bits_ok g ad cap l k 8 _ HR.out hl hs (by omega)).mono ?_
 rintro e w' ⟨rfl,n,rfl⟩
 generalize hval:val l k 8=v
 have HV:=Lib.hid hval
 clear hval
 have hdr:Below w.heap.size w (w.drewN n):=below_drewN (Below.refl _ _) n
 have HR2:=Lib.hid (HR.out.below hdr)
 go_wp2_with fail
 refine (ok_any g ad cap l k 0 0 (_) HR2.out).mono ?_
 rintro e w' ⟨rfl,rfl⟩
 rw [show decide ((0:Int)=0)=true from rfl]
 have h1:=HR2.out.c1
 have h4:=HR2.out.fz 1
 have hset:But g (w.drewN n) ((w.drewN n).setCell ⟨g,1,none⟩ (.int .i64 ((k:Int)+8))):=But.set g 1 _ _
 have Hgo:=Lib.hid ((But.of hdr).trans hset)
 have hmv:Rd ((w.drewN n).setCell ⟨g,1,none⟩ (.int .i64 ((k:Int)+8))) g ad cap l (k+8) 0 0:=by
  have h:=Rd.moves HR2.out (k+8)
  rw [Int.natCast_add] at h;exact h
 have Hmv:=Lib.hid hmv
 clear hset hmv
 go_wp2
 go_ret
 try rw [HSZ.out]
 exact ⟨HV.out.symm ▸ rfl,Hmv.out,Hgo.out⟩
theorem num_any (g:Nat) (ad:Option Addr) (cap:Nat) (l:List Nat) (s:St) (size low high:Int) (w:World) (h:Rs w g ad cap l s) (hl:l.length≤10000) (hg:Nm.Good l s) :
  Calls Tryz.prog 24 #[.pointer (some ⟨g,0,none⟩),.int .i64 size,.int .i64 low,.int .i64 high] w fun e w' =>
   e=.returned (.int .i64 (num l s (lim size 7) low high).1)∧Rs w' g ad cap l (num l s (lim size 7) low high).2∧But g w w':=by
 obtain ⟨k,code,fat⟩:=s
 unfold num
 by_cases h0:code ≠ 0
 ·rw [if_pos h0];exact num_dead g ad cap l k code fat size low high w h h0
 ·rw [if_neg h0]
  obtain rfl:code=0:=by omega
  obtain rfl:fat=0:=hg.2 rfl
  by_cases h1:l.length < k+lim size 7
  ·rw [if_pos h1];exact num_end g ad cap l k size low high w h hl hg.1 h1
  ·rw [if_neg h1]
   by_cases h2:(val l k (lim size 7):Int) < low
   ·rw [if_pos (.inl h2)];exact num_below g ad cap l k size low high w h hl (by omega) h2
   ·by_cases h3:high < (val l k (lim size 7):Int)
    ·rw [if_pos (.inr h3)];exact num_above g ad cap l k size low high w h hl (by omega) h2 h3
    ·rw [if_neg (by rintro (h | h) <;> contradiction)];exact num_ok g ad cap l k size low high w h hl (by omega) h2 h3
theorem float_any (g:Nat) (ad:Option Addr) (cap:Nat) (l:List Nat) (s:St) (w:World) (h:Rs w g ad cap l s) (hl:l.length≤10000) (hg:Nm.Good l s) :
  Calls Tryz.prog 115 #[.pointer (some ⟨g,0,none⟩)] w fun e w' =>
   e=.returned (.float .f64 (flt l s).1)∧Rs w' g ad cap l (flt l s).2∧But g w w':=by
 obtain ⟨k,code,fat⟩:=s
 unfold flt
 by_cases h0:code ≠ 0
 ·rw [if_pos h0];exact float_dead g ad cap l k code fat w h h0
 ·rw [if_neg h0]
  obtain rfl:code=0:=by omega
  obtain rfl:fat=0:=hg.2 rfl
  by_cases h1:l.length < k+8
  ·rw [if_pos h1];exact float_end g ad cap l k w h hl hg.1 h1
  ·rw [if_neg h1];exact float_ok g ad cap l k w h hl (by omega)
theorem bool_any (g:Nat) (ad:Option Addr) (cap:Nat) (l:List Nat) (s:St) (w:World) (h:Rs w g ad cap l s) (hl:l.length≤10000) (hg:Nm.Good l s) :
  Calls Tryz.prog 97 #[.pointer (some ⟨g,0,none⟩)] w fun e w' =>
   e=.returned (.bool (decide ((num l s 1 0 1).1=1)))∧Rs w' g ad cap l (num l s 1 0 1).2∧But g w w':=by
 have h1:=num_any g ad cap l s 1 0 1 w h hl hg
 rw [show lim 1 7=1 from rfl] at h1
 generalize num l s 1 0 1=r at h1
 clear h hg
 go_enter Tryz.func97,Tryz.ntmps97
 go_wp2_with fail
 refine h1.mono ?_
 rintro e w' ⟨rfl,hr,hb⟩
 have HR:=Lib.hid hr
 clear hr h1
 go_wp2
 go_ret
 exact ⟨rfl,HR.out,hb⟩
end Rf
namespace Copy
open Go Go.RowKit
open Tab
theorem made_zero {z:Array Value} (n:Nat):madeCells z (n*z.size)=(List.replicate n z.toList).flatten.toArray:=by
 apply Array.ext'
 apply List.ext_getElem?
 intro i
 have hlen:(List.replicate n z.toList).flatten.length=n*z.size:=by
  rw [List.length_flatten,List.map_replicate,List.sum_replicate_nat,Array.length_toList]
 by_cases hi:i < n*z.size
 ·have hz:0 < z.size:=by
   rcases Nat.eq_zero_or_pos z.size with h | h
   ·rw [h] at hi;omega
   ·exact h
  have hq:i / z.size < n:=(Nat.div_lt_iff_lt_mul hz).2 hi
  have hr:i % z.size < z.size:=Nat.mod_lt _ hz
  have h1:=flat_at (enc:=fun _:Unit=>z.toList) (n:=z.size) (fun _=>Array.length_toList) (List.replicate n ()) (i / z.size) () (i % z.size) z[i % z.size] (by rw [List.getElem?_replicate,if_pos hq]) (by rw [Array.getElem?_toList];exact Array.getElem?_eq_getElem hr)
  rw [show i / z.size*z.size+i % z.size=i by rw [Nat.mul_comm];exact Nat.div_add_mod i z.size] at h1
  rw [show (List.replicate n ()).flatMap (fun _=>z.toList)=(List.replicate n z.toList).flatten by rw [List.flatMap_def,List.map_replicate]] at h1
  show _=(List.replicate n z.toList).flatten[i]?
  rw [h1,Array.getElem?_toList]
  unfold madeCells
  rw [Array.getElem?_map,Array.getElem?_range,if_pos (by show i < n*z.size;exact hi),Option.map_some,getElem!_pos z _ hr]
 ·rw [List.getElem?_eq_none (by rw [Array.length_toList,size_madeCells];omega),List.getElem?_eq_none (by show (List.replicate n z.toList).flatten.length≤i;omega)]
section
variable {P:Program}
theorem wpList_make_zero {ops:Array Oper} {rest:List Oper} {o:Oper} {a:Act} {w:World} {Q:Exit→Act→World→Prop} (hg:o.guard=none) (l c:Operand) (t e:TypeId) (hop:o.op=Op.makeSlice t l c) (hu:P.underlying t=some (.slice e))
  (z:Value) (size bytes:Nat) (hi:(P.info? e).map (fun i=>(i.zero,i.size,i.bytes))=some (some z,size,bytes)) (hz:z.cells.size=size) (n:Nat) (hl:a.eval l=.int .i64 (n:Int)) (hc:a.eval c=.int .i64 (n:Int)) (hn:n≤1000) (hb:bytes≤100000)
  (h:∀ w',w'.heap[w.heap.size]?=some (.cells (List.replicate n z.cells.toList).flatten.toArray e (0,0))→Below w.heap.size w w'→w'.heap.size=w.heap.size+1→wpList P ops Q rest (a.put o.dst (.slice (some ⟨w.heap.size,0,none⟩) n n)) w'):wpList P ops Q (o :: rest) a w:=by
 obtain ⟨i,hi0,hz0,hs,hby⟩:=info_parts hi
 refine wpList_plain hg fun K hK=>?_
 have hle:(i.bytes:Int)*(n:Int)≤281474976710656:=by
  have h1:i.bytes*n≤100000*1000:=Nat.mul_le_mul (by omega) hn
  have h2:(i.bytes:Int)*(n:Int)=((i.bytes*n:Nat):Int):=by simp
  omega
 have hrun:=run_make (P:=P) w t e i z hu hi0 hz0 .i64 .i64 (n:Int) (n:Int) (by omega) (by omega) hle (by omega)
 unfold Oper.wp
 simp only [execOp,hop,hl,hc,Sem.run_bind,hrun,Result.andThen_ok]
 refine hK _ _ (h _ ?_ ((Below.refl _ _).alloc (Nat.le_refl _) _) (by simp))
 have:=heap_alloc_new w (.cells (madeCells z.cells (n*z.cells.size)) e)
 rw [made_zero] at this
 rw [hs,← hz,Int.toNat_natCast,made_zero]
 exact this
end
end Copy
namespace Po
open Go Go.RowKit Go.ChangeShapes
open Tab
def listN (P:PP) (most:Int) (st:List Sp) (zr:List Value) (s:P.σ):Except Flt (List (List Value) × P.σ):=match P.num s 1 most 0 with
 | .error f=>.error f
 | .ok (y,s1)=>eachs P st (List.replicate y.toNat zr) s1
def EndsN (P:PP) (R:P.σ→World→Prop) (B c oc:Nat) (ccs:Array Value) (ct:TypeId) (T:TypeId) (r:Except Flt (List (List Value) × P.σ)) (W:World) (e:Ending) (W':World):Prop:=match r with
 | .ok (xs',s')=>e=.returned (.tuple #[])∧R s' W'∧Mv B c W W'∧∃ (a:Option Addr),W'.heap[c]?=some (.cells (ccs.setIfInBounds oc (.slice a xs'.length xs'.length)) ct (0,0))∧(xs' ≠ []→∃ b,W.heap.size≤b∧a=some ⟨b,0,none⟩∧W'.heap[b]?=some (.cells xs'.flatten.toArray T (0,0)))
 | .error f=>e=.panicked [{ v:=fault f,recovered:=false }]∧Below B W W'
theorem wrt_full {cs:Array Value} {l:List Value} (h:cs.size=l.length):wrt cs 0 l=l.toArray:=by
 unfold wrt
 rw [List.take_zero,List.nil_append,Nat.zero_add,List.drop_of_length_le (by rw [Array.length_toList];omega),List.append_nil]
theorem put_same {cs:Array Value} {i:Nat} {v:Value} (h:cs[i]?=some v):cs.setIfInBounds i v=cs:=by
 apply Array.ext_getElem?
 intro j
 rw [Array.getElem?_setIfInBounds]
 split
 ·rename_i e
  subst e
  rw [if_pos (Array.getElem?_eq_some_iff.1 h).1,h]
 ·rfl
theorem Mv.off {B b c:Nat} {W V U:World} (h:Mv B c W V) (k:Mv B b V U) (hb:W.heap.size≤b):Mv B c W U :=
 ⟨h.low.trans k.low,fun j cs t fr hj ht hc=>by
  have h1:=h.other j cs t fr hj ht hc
  have hl:=(Array.getElem?_eq_some_iff.1 hj).1
  exact (k.other j cs t fr (h1.trans hj) ht (by omega)).trans h1⟩
section
variable {P:PP} {R:P.σ→World→Prop} {B:Nat} {ok:Nat→Nat × Nat→Prop} {ti:TypeId} {v rv:Value} {FN FF FG:FuncId}
theorem newI_any (PT:Port P R B ok ti v rv FN FF FG) {F:FuncId} {st:List Sp} {ks:List Nat} (en':∀ (args:Array Value) (w:World),(callFunc F args).run Tryz.prog w=.ok (.enter F args) w)
  (EF:Hid (∀ (W:World) (s:P.σ) (l:List Value) (b o:Nat) (cs:Array Value) (t:TypeId) (fr:Nat × Nat),l.map kind=ks→R s W→B≤W.heap.size→ok b fr→(b < B∨¬ Pt t)→o+l.length≤cs.size→W.heap[b]?=some (.cells (wrt cs o l) t fr)→Fit (runs P st l s)→Calls Tryz.prog F #[.iface ti v,.pointer (some ⟨b,o,none⟩)] W (Ends P R B b o cs t fr (runs P st l s) W)))
  {s:P.σ} {W:World} {most:Int} (hks:([I 0]:List Value).map kind=ks) (hR:R s W) (hB:B≤W.heap.size) (few:∀ y s1,P.num s 1 most 0=.ok (y,s1)→∃ n:Nat,y=n∧n≤1000)
  {c oc:Nat} {ccs:Array Value} {ct:TypeId} (hc:W.heap[c]?=some (.cells ccs ct (0,0))) (hct:¬ Pt ct) (hcB:B≤c) (hca:ccs[oc]?=some (.slice none 0 0)) (hfit:Fit (listN P most st [I 0] s)) :
  Calls Tryz.prog 92 #[.iface ti v,.int .i64 most,.pointer (some ⟨c,oc,none⟩),.func (.func F) #[] #[]] W (EndsN P R B c oc ccs ct 3 (listN P most st [I 0] s) W):=by
 have hm:=PT.mn
 have en:=PT.en
 have HKS:=Lib.hid hks
 have HCT:=Lib.hid hct
 have HC:=Lib.hid hc
 have FW:=Lib.hid few
 have HR:=Lib.hid hR
 have HCA:=Lib.hid hca
 have k1:W.cell? ⟨c,oc,none⟩=some (.slice none 0 0):=by rw [cell_of_row _ _ _ _ _ _ hc];exact hca
 have hcl:=(Array.getElem?_eq_some_iff.1 hc).1
 have hb1:Below W.heap.size W (W.alloc (.cells #[I 0] 3)):=(Below.refl _ _).alloc (Nat.le_refl _) _
 have hst:=PT.stay s W _ hR hb1.size (fun j cs t fr hj _=>hb1.block j (Array.getElem?_eq_some_iff.1 hj).1)
 have hfn:Fit (Sp.run P [I 0] s (.num 1 most 0)):=fun h=>by
  simp only [Sp.run,List.getElem?_cons_zero] at h
  cases hp:P.num s 1 most 0 with
  | ok y=>rw [hp] at h;cases h
  | error f=>rw [hp] at h;cases h;exact hfit (by unfold listN;rw [hp])
 have HFIT:=Lib.hid hfit
 clear hfit
 have hnum:=Lib.hid (PT.num s (W.alloc (.cells #[I 0] 3)) W.heap.size 0 #[I 0] 3 (0,0) [I 0] 1 most 0 0 hst (Nat.le_trans hB hb1.size) (PT.new _ hB) (.inr (by decide)) (by simp) (by rw [wrt_same (by simp) (by intro j hj;match j,hj with | 0,_=>rfl)];exact heap_alloc_new W _) rfl hfn)
 clear hks hct hc few hR hca hst hfn
 obtain ⟨zr,hzr⟩:∃ zr:List Value,zr=[I 0]:=⟨_,rfl⟩
 have hzl:zr.length=1:=by rw [hzr];rfl
 rw [← hzr] at HKS HFIT ⊢
 have HZR:=Lib.hid hzr
 have HZL:=Lib.hid hzl
 clear hzr hzl
 have HLP:Hid (listN P most st zr s=match P.num s 1 most 0 with
   | .error f=>.error f
   | .ok (y,s1)=>eachs P st (List.replicate y.toNat zr) s1):=Lib.hid rfl
 generalize listN P most st zr s=r0 at HLP HFIT ⊢
 go_enter Tryz.func92,Tryz.ntmps92
 go_upto_region 1 with fail
 generalize World.alloc W _=W1 at hb1 hnum ⊢
 generalize hnb:W.heap.size=nb at hb1 hnum ⊢
 have HB1:=Lib.hid hb1
 clear hb1
 go_wp2_with fail
 refine hnum.out.mono ?_
 intro e W2 he
 simp only [Sp.run,List.getElem?_cons_zero] at he
 cases hr:P.num s 1 most 0 with
 | error f =>
  rw [hr] at he HLP
  obtain ⟨rfl,h2⟩:=he
  refine ⟨rfl,?_⟩
  rw [HLP.out]
  exact ⟨rfl,(HB1.out.mono (by omega)).trans h2⟩
 | ok y =>
 obtain ⟨y,s1⟩:=y
 obtain ⟨n,rfl,hn2⟩:=FW.out _ _ hr
 rw [hr] at he HLP
 obtain ⟨xs,hxs⟩:∃ xs,xs=List.replicate n zr:=⟨_,rfl⟩
 have hn:xs.length=n:=by rw [hxs,List.length_replicate]
 have hk:∀ x ∈ xs,x.map kind=ks∧x.length=1:=fun x hx=>by
  rw [hxs] at hx
  obtain rfl:=List.eq_of_mem_replicate hx
  exact ⟨HKS.out,HZL.out⟩
 have HN:=Lib.hid hn
 have HK:=Lib.hid hk
 have HXS:=Lib.hid hxs
 dsimp only at HLP
 rw [Int.toNat_natCast,← hxs] at HLP
 clear hn hk hxs
 have HFE:Hid (Fit (eachs P st xs s1)):=Lib.hid (by have:=HFIT.out;rw [HLP.out] at this;exact this)
 clear HFIT FW
 obtain ⟨rfl,h2,h3,h4⟩:=he
 have hwn:wrt #[I 0] 0 ([I 0].set 0 (I (n:Int)))=#[I (n:Int)]:=wrt_full rfl
 rw [hwn] at h4
 clear hwn
 have hC2:=h3.keep ((HB1.out.block c (by rw [← hnb];exact hcl)).trans HC.out) (.inr HCT.out) (by omega)
 have kn:W2.cell? ⟨nb,0,none⟩=some (I (n:Int)):=by rw [cell_of_row _ _ _ _ _ _ h4];rfl
 have k1:W2.cell? ⟨c,oc,none⟩=some (.slice none 0 0):=by rw [cell_of_row _ _ _ _ _ _ hC2];exact HCA.out
 have HM:Hid (Mv B c W W2):=Lib.hid ⟨(HB1.out.mono (by omega)).trans h3.low,fun j cs t fr hj hjt hjb=>by
  have hjl:=(Array.getElem?_eq_some_iff.1 hj).1
  have h1:=(HB1.out.block j (by omega)).trans hj
  exact (h3.other j cs t fr h1 hjt (by omega)).trans (HB1.out.block j (by omega))⟩
 have HR2:=Lib.hid h2
 have HC2:=Lib.hid hC2
 have HNB:=Lib.hid h4
 have HBS:Hid (B≤W2.heap.size):=Lib.hid (Nat.le_trans (Nat.le_trans hB HB1.out.size) h3.low.size)
 clear h2 h3 h4 hC2 hnum hr HC HB1 HR
 go_upto_region 2 with fail
 have q1:∀ p:QB.By W2.heap.size W2,p.world.cell? ⟨nb,0,none⟩=some (I (n:Int)):=fun p=>(p.below.cell (World.block_lt_of_cell? W2 _ kn)).trans kn
 have q2:∀ p:QB.By W2.heap.size W2,p.world.cell? ⟨c,oc,none⟩=some (.slice none 0 0):=fun p=>(p.below.cell (World.block_lt_of_cell? W2 _ k1)).trans k1
 refine QB.region_below W2.heap.size (by kernel_rfl) (by kernel_rfl) ?_
 repeat (quiet_step (fail))
 refine wpQuiet_nil ?_
 intro _ hw'
 obtain ⟨p,rfl⟩:=hw'
 have k2:=q2 p
 have kn2:=q1 p
 have HRV:=Lib.hid (PT.stay s1 W2 p.world HR2.out p.below.size (fun j cs t fr hj _=>p.below.block j (Array.getElem?_eq_some_iff.1 hj).1))
 have HMV:=Lib.hid (HM.out.trans (Mv.of p.below HBS.out))
 have HCV:Hid (p.world.heap[c]?=some (.cells ccs ct (0,0))):=Lib.hid ((p.below.block c (Array.getElem?_eq_some_iff.1 HC2.out).1).trans HC2.out)
 have HBV:Hid (B≤p.world.heap.size):=Lib.hid (Nat.le_trans HBS.out p.below.size)
 have HNV:Hid (p.world.heap[nb]?=some (.cells #[I (n:Int)] 3 (0,0))):=Lib.hid ((p.below.block nb (Array.getElem?_eq_some_iff.1 HNB.out).1).trans HNB.out)
 clear q1 q2 kn k1 HM HR2 HC2 HBS HNB
 generalize p.world=V at k2 kn2 HRV HMV HCV HBV HNV ⊢
 rcases Nat.eq_zero_or_pos n with h0 | h0
 ·subst h0
  obtain rfl:=List.eq_nil_of_length_eq_zero HN.out
  have hne:((((0:Nat):Int)) != 0)=false:=by decide
  go_wp2_with fail
  refine wp_loop_rounds 1 ?_
  rw [rounds_succ]
  go_wp2
  go_end0
  rw [HLP.out]
  exact ⟨rfl,HRV.out,HMV.out,none,by rw [List.length_nil,put_same HCA.out];exact HCV.out,fun h=>absurd rfl h⟩
 have hne:((n:Int) != 0)=true:=by simp;omega
 go_wp2_with (at_make;refine Copy.wpList_make_zero rfl _ _ 42 3 rfl Tryz.underlying42 _ _ _ Clone.zI (by rfl) n (by first | rfl | go_simp) (by first | rfl | go_simp) hn2 (by decide) ?_)
 intro V2 hg2 hb2 hs2
 generalize hbb:V.heap.size=b at hg2 ⊢
 have hC3:=(hb2.block c (Array.getElem?_eq_some_iff.1 HCV.out).1).trans HCV.out
 have c1:V2.cell? ⟨c,oc,none⟩=some (.slice none 0 0):=by rw [cell_of_row _ _ _ _ _ _ hC3];exact HCA.out
 have f1:V2.frozen? ⟨c,oc,none⟩=false:=frozen_of_row _ _ _ _ _ hC3
 go_wp2_with fail
 rw [setCell_eq_setRow _ _ _ _ _ _ _ hC3]
 have hC4:=setRow_heap V2 c _ (ccs.setIfInBounds oc (.slice (some ⟨b,0,none⟩) n n)) ct (0,0) hC3
 have hbut:Rd.But c V2 (V2.setRow c (ccs.setIfInBounds oc (.slice (some ⟨b,0,none⟩) n n))):=by
  rw [← setCell_eq_setRow _ _ _ _ _ _ _ hC3]
  exact Rd.But.set c _ V2 _
 have hst:∀ k,k ≠ c→(V2.setRow c (ccs.setIfInBounds oc (.slice (some ⟨b,0,none⟩) n n))).heap[k]?=V2.heap[k]?:=fun k hk=>setRow_other _ _ _ _ hk
 generalize V2.setRow c _=V3 at hC4 hbut hst ⊢
 have hoc:oc < ccs.size:=(Array.getElem?_eq_some_iff.1 HCA.out).1
 have HCC:Hid ((ccs.setIfInBounds oc (.slice (some ⟨b,0,none⟩) n n))[oc]?=some (.slice (some ⟨b,0,none⟩) n n)):=Lib.hid (by rw [Array.getElem?_setIfInBounds,if_pos rfl,if_pos hoc])
 have hcV:=(Array.getElem?_eq_some_iff.1 HCV.out).1
 have HRW:Hid (R s1 V3):=Lib.hid (PT.stay s1 V V3 HRV.out (Nat.le_trans hb2.size hbut.size) (fun j cs t fr hj hp=>by
  have hjc:j ≠ c:=fun e=>by
   subst e
   have h1:=HCV.out
   rw [hj] at h1
   cases h1
   exact HCT.out hp
  exact (hst j hjc).trans (hb2.block j (Array.getElem?_eq_some_iff.1 hj).1)))
 have HMW:Hid (Mv B c W V3):=Lib.hid (HMV.out.trans ((Mv.of hb2 HBV.out).trans ⟨hbut.below (Nat.le_trans HBV.out hb2.size) hcB,fun j cs t fr hj hp hjc=>hst j hjc⟩))
 have HZF:Hid (xs.flatten=(List.replicate n zr).flatten):=Lib.hid (by rw [HXS.out])
 have HB0:Hid (V3.heap[b]?=some (.cells (wrt xs.flatten.toArray 0 xs.flatten) 3 (0,0))):=Lib.hid (by
  rw [wrt_full (by simp),hst b (by omega),hg2,HZF.out,HZR.out] <;> simp)
 have HCW0:=Lib.hid hC4
 have HNW:Hid (W.heap.size≤b):=Lib.hid (by rw [← hbb];exact HMV.out.low.size)
 have HBb:Hid (B≤b):=Lib.hid (by rw [← hbb];exact HBV.out)
 have hcb:c ≠ b:=by omega
 clear hC3 hC4 hbut hst c1 f1 hg2 hb2 hs2 k2 kn2 HRV HMV HCV HBV HNV hbb HXS HZF HCA hoc
 obtain ⟨cc2,hcc⟩:∃ cc2,cc2=ccs.setIfInBounds oc (.slice (some ⟨b,0,none⟩) n n):=⟨_,rfl⟩
 rw [← hcc] at HCC HCW0
 have HQ:=Lib.hid hcc
 clear hcc
 have HXL:Hid (∀ q,(xs.take q).flatten.length=min q n*1):=Lib.hid (fun q=>by
  rw [List.length_flatten,show (xs.take q).map List.length=List.replicate (min q n) 1 from List.eq_replicate_iff.2 ⟨by rw [List.length_map,List.length_take,HN.out],fun m hm=>by
   obtain ⟨x,hx,rfl⟩:=List.mem_map.1 hm
   exact (HK.out x (List.mem_of_mem_take hx)).2⟩,List.sum_replicate_nat])
 have HCS:Hid (xs.flatten.toArray.size=n*1):=Lib.hid (by
  have h3:=HXL.out n
  rw [List.take_of_length_le (by rw [HN.out];omega),Nat.min_self] at h3
  rw [List.size_toArray,h3])
 obtain ⟨cs,hcs⟩:∃ cs,cs=xs.flatten.toArray:=⟨_,rfl⟩
 rw [← hcs] at HCS HB0
 clear hcs
 go_loopw [31] (fun i wr=>∃ (q:Nat) (ys:List (List Value)) (s':P.σ),q≤n∧i=.int .i64 (q:Int)∧eachs P st (xs.take q) s1=.ok (ys,s')∧R s' wr∧Mv B c W wr∧wr.heap[c]?=some (.cells cc2 ct (0,0))∧wr.heap[b]?=some (.cells (wrt cs 0 (ys.flatten++(xs.drop q).flatten)) 3 (0,0))) (fun i _=>n - (intOf i).toNat)
 case atStart=>exact ⟨0,[],s1,by omega,rfl,rfl,HRW.out,HMW.out,HCW0.out,HB0.out⟩
 case round =>
  obtain ⟨q,ys,s',hq,rfl,hrun,hr,hmv,hcv,hbv⟩:=hrel
  have HE:=Lib.hid hrun
  have HS:=Lib.hid hr
  have HM:=Lib.hid hmv
  have HCW:=Lib.hid hcv
  have HBW:=Lib.hid hbv
  clear hrun hr hmv hcv hbv
  have hyl:ys.flatten.length=q:=by
   have h1:=eachs_len P st HE.out
   have h2:=HXL.out q
   rw [List.length_flatten] at h2 ⊢
   rw [h1,h2,Nat.min_eq_left hq,Nat.mul_one]
  by_cases hlt:q < n
  ·obtain ⟨x,hx⟩:∃ x,xs[q]?=some x:=⟨_,List.getElem?_eq_getElem (by rw [HN.out];exact hlt)⟩
   have hdrop:xs.drop q=x :: xs.drop (q+1):=by
    have hq':q < xs.length:=by rw [HN.out];exact hlt
    rw [List.drop_eq_getElem_cons hq']
    congr 1
    exact (List.getElem?_eq_some_iff.1 hx).2
   obtain ⟨hxk,hxl⟩:=HK.out x (List.mem_of_getElem? hx)
   have htot:0+(ys.flatten++(x++(xs.drop (q+1)).flatten)).length≤cs.size:=by
    have h1:(xs.drop (q+1)).flatten.length+(xs.take (q+1)).flatten.length=xs.flatten.length:=by
     have:=congrArg List.length (show (xs.take (q+1)++xs.drop (q+1)).flatten=xs.flatten by rw [List.take_append_drop])
     rw [List.flatten_append,List.length_append] at this
     omega
    have h2:=HXL.out (q+1)
    have h3:=HXL.out n
    rw [List.take_of_length_le (by rw [HN.out];omega)] at h3
    have h4:=HCS.out
    rw [Nat.min_eq_left (by omega)] at h2 h3
    rw [List.length_append,List.length_append,hyl,hxl]
    omega
   have hseg:=HBW.out
   rw [hdrop,List.flatten_cons] at hseg
   have hseg2:=hseg
   rw [← wrt_mid' (y:=x) hyl htot rfl,Nat.zero_add] at hseg2
   have kc:wr.cell? ⟨c,oc,none⟩=some (.slice (some ⟨b,0,none⟩) n n):=by rw [cell_of_row _ _ _ _ _ _ HCW.out];exact HCC.out
   have HXQ:=Lib.hid hx
   have HER:Hid (∀ f,runs P st x s'=.error f→eachs P st xs s1=.error f):=Lib.hid (fun f h=>by
    have e:xs=xs.take q++([x]++xs.drop (q+1)):=by
     rw [List.singleton_append,← hdrop,List.take_append_drop]
    rw [e,eachs_append,HE.out]
    (try dsimp only)
    rw [eachs_append,eachs_one,h])
   have hcall:=Lib.hid (EF.out wr s' x b (q) (wrt cs 0 (ys.flatten++(x++(xs.drop (q+1)).flatten))) 3 (0,0) hxk HS.out (Nat.le_trans hB HM.out.low.size) (PT.new _ HBb.out) (.inr (by decide)) (by rw [wrt_size htot,hxl];rw [List.length_append,List.length_append,hyl,hxl] at htot;omega) hseg2 (fun h=>HFE.out (HER.out _ h)))
   have HT1:=Lib.hid htot
   have HYL:=Lib.hid hyl
   have HXX:=Lib.hid hxl
   clear hseg hseg2 htot hyl hxl hx hxk hdrop
   have HA:Hid (∀ zs s2,eachs P st [x] s'=.ok (zs,s2)→eachs P st (xs.take (q+1)) s1=.ok (ys++zs,s2)):=Lib.hid (fun zs s2 h=>by
    rw [List.take_add_one,HXQ.out]
    show eachs P st (xs.take q++[x]) s1=_
    rw [eachs_append,HE.out]
    (try dsimp only)
    rw [h])
   go_wp2_with fail
   refine hcall.out.mono ?_
   intro e W' he
   cases hrx:runs P st x s' with
   | error f =>
    rw [hrx] at he
    obtain ⟨rfl,h2⟩:=he
    refine ⟨rfl,?_⟩
    rw [HLP.out]
    (try dsimp only)
    rw [HER.out f hrx]
    exact ⟨rfl,HM.out.low.trans h2⟩
   | ok y =>
    obtain ⟨x',s2⟩:=y
    rw [hrx] at he
    obtain ⟨rfl,h2,h3,h4⟩:=he
    have hxl':=runs_len P st hrx
    have hwm:=wrt_mid' HYL.out HT1.out hxl'
    rw [Nat.zero_add] at hwm
    rw [hwm] at h4
    have H2:=Lib.hid h2
    have H3:=Lib.hid (HM.out.off h3 HNW.out)
    have H4:=Lib.hid h4
    have HC4:=Lib.hid (h3.keep HCW.out (.inr HCT.out) hcb)
    have HEN:=Lib.hid (HA.out [x'] s2 (by rw [eachs_one,hrx]))
    clear h2 h3 h4 kc hxl' hrx hwm
    go_wp2
    go_roundw
    case rel=>exact ⟨q+1,ys++[x'],s2,by omega,by go_num,HEN.out,H2.out,H3.out,HC4.out,by rw [List.flatten_append,List.flatten_singleton,List.append_assoc];exact H4.out⟩
    case measure=>simp [intOf];omega
  ·obtain rfl:n=q:=by omega
   have HF:Hid (eachs P st xs s1=.ok (ys,s')):=Lib.hid (by have:=HE.out;rwa [List.take_of_length_le (by rw [HN.out];omega)] at this)
   have HYN:Hid (ys.length=n):=Lib.hid (by
    have:=congrArg List.length (eachs_len P st HF.out)
    rwa [List.length_map,List.length_map,HN.out] at this)
   have HYL:=Lib.hid hyl
   clear hyl
   go_wp2
   go_end0
   rw [HLP.out]
   (try dsimp only)
   rw [HF.out]
   refine ⟨rfl,HS.out,HM.out,some ⟨b,0,none⟩,by rw [HYN.out,← HQ.out];exact HCW.out,fun _=>⟨b,HNW.out,rfl,?_⟩⟩
   have:=HBW.out
   rwa [List.drop_of_length_le (by rw [HN.out];omega),List.flatten_nil,List.append_nil,wrt_full (by rw [HYL.out,HCS.out];omega)] at this
theorem newD_any (PT:Port P R B ok ti v rv FN FF FG) {F:FuncId} {st:List Sp} {ks:List Nat} (en':∀ (args:Array Value) (w:World),(callFunc F args).run Tryz.prog w=.ok (.enter F args) w)
  (EF:Hid (∀ (W:World) (s:P.σ) (l:List Value) (b o:Nat) (cs:Array Value) (t:TypeId) (fr:Nat × Nat),l.map kind=ks→R s W→B≤W.heap.size→ok b fr→(b < B∨¬ Pt t)→o+l.length≤cs.size→W.heap[b]?=some (.cells (wrt cs o l) t fr)→Fit (runs P st l s)→Calls Tryz.prog F #[.iface ti v,.pointer (some ⟨b,o,none⟩)] W (Ends P R B b o cs t fr (runs P st l s) W)))
  {s:P.σ} {W:World} {most:Int} (hks:([I 0,.float .f64 0,.float .f64 0,.float .f64 0,.float .f64 0,I 0,I 0]:List Value).map kind=ks) (hR:R s W) (hB:B≤W.heap.size) (few:∀ y s1,P.num s 1 most 0=.ok (y,s1)→∃ n:Nat,y=n∧n≤1000)
  {c oc:Nat} {ccs:Array Value} {ct:TypeId} (hc:W.heap[c]?=some (.cells ccs ct (0,0))) (hct:¬ Pt ct) (hcB:B≤c) (hca:ccs[oc]?=some (.slice none 0 0)) (hfit:Fit (listN P most st [I 0,.float .f64 0,.float .f64 0,.float .f64 0,.float .f64 0,I 0,I 0] s)) :
  Calls Tryz.prog 51 #[.iface ti v,.int .i64 most,.pointer (some ⟨c,oc,none⟩),.func (.func F) #[] #[]] W (EndsN P R B c oc ccs ct 71 (listN P most st [I 0,.float .f64 0,.float .f64 0,.float .f64 0,.float .f64 0,I 0,I 0] s) W):=by
 have hm:=PT.mn
 have en:=PT.en
 have HKS:=Lib.hid hks
 have HCT:=Lib.hid hct
 have HC:=Lib.hid hc
 have FW:=Lib.hid few
 have HR:=Lib.hid hR
 have HCA:=Lib.hid hca
 have k1:W.cell? ⟨c,oc,none⟩=some (.slice none 0 0):=by rw [cell_of_row _ _ _ _ _ _ hc];exact hca
 have hcl:=(Array.getElem?_eq_some_iff.1 hc).1
 have hb1:Below W.heap.size W (W.alloc (.cells #[I 0] 3)):=(Below.refl _ _).alloc (Nat.le_refl _) _
 have hst:=PT.stay s W _ hR hb1.size (fun j cs t fr hj _=>hb1.block j (Array.getElem?_eq_some_iff.1 hj).1)
 have hfn:Fit (Sp.run P [I 0] s (.num 1 most 0)):=fun h=>by
  simp only [Sp.run,List.getElem?_cons_zero] at h
  cases hp:P.num s 1 most 0 with
  | ok y=>rw [hp] at h;cases h
  | error f=>rw [hp] at h;cases h;exact hfit (by unfold listN;rw [hp])
 have HFIT:=Lib.hid hfit
 clear hfit
 have hnum:=Lib.hid (PT.num s (W.alloc (.cells #[I 0] 3)) W.heap.size 0 #[I 0] 3 (0,0) [I 0] 1 most 0 0 hst (Nat.le_trans hB hb1.size) (PT.new _ hB) (.inr (by decide)) (by simp) (by rw [wrt_same (by simp) (by intro j hj;match j,hj with | 0,_=>rfl)];exact heap_alloc_new W _) rfl hfn)
 clear hks hct hc few hR hca hst hfn
 obtain ⟨zr,hzr⟩:∃ zr:List Value,zr=[I 0,.float .f64 0,.float .f64 0,.float .f64 0,.float .f64 0,I 0,I 0]:=⟨_,rfl⟩
 have hzl:zr.length=7:=by rw [hzr];rfl
 rw [← hzr] at HKS HFIT ⊢
 have HZR:=Lib.hid hzr
 have HZL:=Lib.hid hzl
 clear hzr hzl
 have HLP:Hid (listN P most st zr s=match P.num s 1 most 0 with
   | .error f=>.error f
   | .ok (y,s1)=>eachs P st (List.replicate y.toNat zr) s1):=Lib.hid rfl
 generalize listN P most st zr s=r0 at HLP HFIT ⊢
 go_enter Tryz.func51,Tryz.ntmps51
 go_upto_region 1 with fail
 generalize World.alloc W _=W1 at hb1 hnum ⊢
 generalize hnb:W.heap.size=nb at hb1 hnum ⊢
 have HB1:=Lib.hid hb1
 clear hb1
 go_wp2_with fail
 refine hnum.out.mono ?_
 intro e W2 he
 simp only [Sp.run,List.getElem?_cons_zero] at he
 cases hr:P.num s 1 most 0 with
 | error f =>
  rw [hr] at he HLP
  obtain ⟨rfl,h2⟩:=he
  refine ⟨rfl,?_⟩
  rw [HLP.out]
  exact ⟨rfl,(HB1.out.mono (by omega)).trans h2⟩
 | ok y =>
 obtain ⟨y,s1⟩:=y
 obtain ⟨n,rfl,hn2⟩:=FW.out _ _ hr
 rw [hr] at he HLP
 obtain ⟨xs,hxs⟩:∃ xs,xs=List.replicate n zr:=⟨_,rfl⟩
 have hn:xs.length=n:=by rw [hxs,List.length_replicate]
 have hk:∀ x ∈ xs,x.map kind=ks∧x.length=7:=fun x hx=>by
  rw [hxs] at hx
  obtain rfl:=List.eq_of_mem_replicate hx
  exact ⟨HKS.out,HZL.out⟩
 have HN:=Lib.hid hn
 have HK:=Lib.hid hk
 have HXS:=Lib.hid hxs
 dsimp only at HLP
 rw [Int.toNat_natCast,← hxs] at HLP
 clear hn hk hxs
 have HFE:Hid (Fit (eachs P st xs s1)):=Lib.hid (by have:=HFIT.out;rw [HLP.out] at this;exact this)
 clear HFIT FW
 obtain ⟨rfl,h2,h3,h4⟩:=he
 have hwn:wrt #[I 0] 0 ([I 0].set 0 (I (n:Int)))=#[I (n:Int)]:=wrt_full rfl
 rw [hwn] at h4
 clear hwn
 have hC2:=h3.keep ((HB1.out.block c (by rw [← hnb];exact hcl)).trans HC.out) (.inr HCT.out) (by omega)
 have kn:W2.cell? ⟨nb,0,none⟩=some (I (n:Int)):=by rw [cell_of_row _ _ _ _ _ _ h4];rfl
 have k1:W2.cell? ⟨c,oc,none⟩=some (.slice none 0 0):=by rw [cell_of_row _ _ _ _ _ _ hC2];exact HCA.out
 have HM:Hid (Mv B c W W2):=Lib.hid ⟨(HB1.out.mono (by omega)).trans h3.low,fun j cs t fr hj hjt hjb=>by
  have hjl:=(Array.getElem?_eq_some_iff.1 hj).1
  have h1:=(HB1.out.block j (by omega)).trans hj
  exact (h3.other j cs t fr h1 hjt (by omega)).trans (HB1.out.block j (by omega))⟩
 have HR2:=Lib.hid h2
 have HC2:=Lib.hid hC2
 have HNB:=Lib.hid h4
 have HBS:Hid (B≤W2.heap.size):=Lib.hid (Nat.le_trans (Nat.le_trans hB HB1.out.size) h3.low.size)
 clear h2 h3 h4 hC2 hnum hr HC HB1 HR
 go_upto_region 2 with fail
 have q1:∀ p:QB.By W2.heap.size W2,p.world.cell? ⟨nb,0,none⟩=some (I (n:Int)):=fun p=>(p.below.cell (World.block_lt_of_cell? W2 _ kn)).trans kn
 have q2:∀ p:QB.By W2.heap.size W2,p.world.cell? ⟨c,oc,none⟩=some (.slice none 0 0):=fun p=>(p.below.cell (World.block_lt_of_cell? W2 _ k1)).trans k1
 refine QB.region_below W2.heap.size (by kernel_rfl) (by kernel_rfl) ?_
 repeat (quiet_step (fail))
 refine wpQuiet_nil ?_
 intro _ hw'
 obtain ⟨p,rfl⟩:=hw'
 have k2:=q2 p
 have kn2:=q1 p
 have HRV:=Lib.hid (PT.stay s1 W2 p.world HR2.out p.below.size (fun j cs t fr hj _=>p.below.block j (Array.getElem?_eq_some_iff.1 hj).1))
 have HMV:=Lib.hid (HM.out.trans (Mv.of p.below HBS.out))
 have HCV:Hid (p.world.heap[c]?=some (.cells ccs ct (0,0))):=Lib.hid ((p.below.block c (Array.getElem?_eq_some_iff.1 HC2.out).1).trans HC2.out)
 have HBV:Hid (B≤p.world.heap.size):=Lib.hid (Nat.le_trans HBS.out p.below.size)
 have HNV:Hid (p.world.heap[nb]?=some (.cells #[I (n:Int)] 3 (0,0))):=Lib.hid ((p.below.block nb (Array.getElem?_eq_some_iff.1 HNB.out).1).trans HNB.out)
 clear q1 q2 kn k1 HM HR2 HC2 HBS HNB
 generalize p.world=V at k2 kn2 HRV HMV HCV HBV HNV ⊢
 rcases Nat.eq_zero_or_pos n with h0 | h0
 ·subst h0
  obtain rfl:=List.eq_nil_of_length_eq_zero HN.out
  have hne:((((0:Nat):Int)) != 0)=false:=by decide
  go_wp2_with fail
  refine wp_loop_rounds 1 ?_
  rw [rounds_succ]
  go_wp2
  go_end0
  rw [HLP.out]
  exact ⟨rfl,HRV.out,HMV.out,none,by rw [List.length_nil,put_same HCA.out];exact HCV.out,fun h=>absurd rfl h⟩
 have hne:((n:Int) != 0)=true:=by simp;omega
 go_wp2_with (at_make;refine Copy.wpList_make_zero rfl _ _ 29 71 rfl Tryz.underlying29 _ _ _ Clone.zD (by rfl) n (by first | rfl | go_simp) (by first | rfl | go_simp) hn2 (by decide) ?_)
 intro V2 hg2 hb2 hs2
 generalize hbb:V.heap.size=b at hg2 ⊢
 have hC3:=(hb2.block c (Array.getElem?_eq_some_iff.1 HCV.out).1).trans HCV.out
 have c1:V2.cell? ⟨c,oc,none⟩=some (.slice none 0 0):=by rw [cell_of_row _ _ _ _ _ _ hC3];exact HCA.out
 have f1:V2.frozen? ⟨c,oc,none⟩=false:=frozen_of_row _ _ _ _ _ hC3
 go_wp2_with fail
 rw [setCell_eq_setRow _ _ _ _ _ _ _ hC3]
 have hC4:=setRow_heap V2 c _ (ccs.setIfInBounds oc (.slice (some ⟨b,0,none⟩) n n)) ct (0,0) hC3
 have hbut:Rd.But c V2 (V2.setRow c (ccs.setIfInBounds oc (.slice (some ⟨b,0,none⟩) n n))):=by
  rw [← setCell_eq_setRow _ _ _ _ _ _ _ hC3]
  exact Rd.But.set c _ V2 _
 have hst:∀ k,k ≠ c→(V2.setRow c (ccs.setIfInBounds oc (.slice (some ⟨b,0,none⟩) n n))).heap[k]?=V2.heap[k]?:=fun k hk=>setRow_other _ _ _ _ hk
 generalize V2.setRow c _=V3 at hC4 hbut hst ⊢
 have hoc:oc < ccs.size:=(Array.getElem?_eq_some_iff.1 HCA.out).1
 have HCC:Hid ((ccs.setIfInBounds oc (.slice (some ⟨b,0,none⟩) n n))[oc]?=some (.slice (some ⟨b,0,none⟩) n n)):=Lib.hid (by rw [Array.getElem?_setIfInBounds,if_pos rfl,if_pos hoc])
 have hcV:=(Array.getElem?_eq_some_iff.1 HCV.out).1
 have HRW:Hid (R s1 V3):=Lib.hid (PT.stay s1 V V3 HRV.out (Nat.le_trans hb2.size hbut.size) (fun j cs t fr hj hp=>by
  have hjc:j ≠ c:=fun e=>by
   subst e
   have h1:=HCV.out
   rw [hj] at h1
   cases h1
   exact HCT.out hp
  exact (hst j hjc).trans (hb2.block j (Array.getElem?_eq_some_iff.1 hj).1)))
 have HMW:Hid (Mv B c W V3):=Lib.hid (HMV.out.trans ((Mv.of hb2 HBV.out).trans ⟨hbut.below (Nat.le_trans HBV.out hb2.size) hcB,fun j cs t fr hj hp hjc=>hst j hjc⟩))
 have HZF:Hid (xs.flatten=(List.replicate n zr).flatten):=Lib.hid (by rw [HXS.out])
 have HB0:Hid (V3.heap[b]?=some (.cells (wrt xs.flatten.toArray 0 xs.flatten) 71 (0,0))):=Lib.hid (by
  rw [wrt_full (by simp),hst b (by omega),hg2,HZF.out,HZR.out] <;> simp)
 have HCW0:=Lib.hid hC4
 have HNW:Hid (W.heap.size≤b):=Lib.hid (by rw [← hbb];exact HMV.out.low.size)
 have HBb:Hid (B≤b):=Lib.hid (by rw [← hbb];exact HBV.out)
 have hcb:c ≠ b:=by omega
 clear hC3 hC4 hbut hst c1 f1 hg2 hb2 hs2 k2 kn2 HRV HMV HCV HBV HNV hbb HXS HZF HCA hoc
 obtain ⟨cc2,hcc⟩:∃ cc2,cc2=ccs.setIfInBounds oc (.slice (some ⟨b,0,none⟩) n n):=⟨_,rfl⟩
 rw [← hcc] at HCC HCW0
 have HQ:=Lib.hid hcc
 clear hcc
 have HXL:Hid (∀ q,(xs.take q).flatten.length=min q n*7):=Lib.hid (fun q=>by
  rw [List.length_flatten,show (xs.take q).map List.length=List.replicate (min q n) 7 from List.eq_replicate_iff.2 ⟨by rw [List.length_map,List.length_take,HN.out],fun m hm=>by
   obtain ⟨x,hx,rfl⟩:=List.mem_map.1 hm
   exact (HK.out x (List.mem_of_mem_take hx)).2⟩,List.sum_replicate_nat])
 have HCS:Hid (xs.flatten.toArray.size=n*7):=Lib.hid (by
  have h3:=HXL.out n
  rw [List.take_of_length_le (by rw [HN.out];omega),Nat.min_self] at h3
  rw [List.size_toArray,h3])
 obtain ⟨cs,hcs⟩:∃ cs,cs=xs.flatten.toArray:=⟨_,rfl⟩
 rw [← hcs] at HCS HB0
 clear hcs
 go_loopw [31] (fun i wr=>∃ (q:Nat) (ys:List (List Value)) (s':P.σ),q≤n∧i=.int .i64 (q:Int)∧eachs P st (xs.take q) s1=.ok (ys,s')∧R s' wr∧Mv B c W wr∧wr.heap[c]?=some (.cells cc2 ct (0,0))∧wr.heap[b]?=some (.cells (wrt cs 0 (ys.flatten++(xs.drop q).flatten)) 71 (0,0))) (fun i _=>n - (intOf i).toNat)
 case atStart=>exact ⟨0,[],s1,by omega,rfl,rfl,HRW.out,HMW.out,HCW0.out,HB0.out⟩
 case round =>
  obtain ⟨q,ys,s',hq,rfl,hrun,hr,hmv,hcv,hbv⟩:=hrel
  have HE:=Lib.hid hrun
  have HS:=Lib.hid hr
  have HM:=Lib.hid hmv
  have HCW:=Lib.hid hcv
  have HBW:=Lib.hid hbv
  clear hrun hr hmv hcv hbv
  have hyl:ys.flatten.length=q*7:=by
   have h1:=eachs_len P st HE.out
   have h2:=HXL.out q
   rw [List.length_flatten] at h2 ⊢
   rw [h1,h2,Nat.min_eq_left hq]
  by_cases hlt:q < n
  ·obtain ⟨x,hx⟩:∃ x,xs[q]?=some x:=⟨_,List.getElem?_eq_getElem (by rw [HN.out];exact hlt)⟩
   have hdrop:xs.drop q=x :: xs.drop (q+1):=by
    have hq':q < xs.length:=by rw [HN.out];exact hlt
    rw [List.drop_eq_getElem_cons hq']
    congr 1
    exact (List.getElem?_eq_some_iff.1 hx).2
   obtain ⟨hxk,hxl⟩:=HK.out x (List.mem_of_getElem? hx)
   have htot:0+(ys.flatten++(x++(xs.drop (q+1)).flatten)).length≤cs.size:=by
    have h1:(xs.drop (q+1)).flatten.length+(xs.take (q+1)).flatten.length=xs.flatten.length:=by
     have:=congrArg List.length (show (xs.take (q+1)++xs.drop (q+1)).flatten=xs.flatten by rw [List.take_append_drop])
     rw [List.flatten_append,List.length_append] at this
     omega
    have h2:=HXL.out (q+1)
    have h3:=HXL.out n
    rw [List.take_of_length_le (by rw [HN.out];omega)] at h3
    have h4:=HCS.out
    rw [Nat.min_eq_left (by omega)] at h2 h3
    rw [List.length_append,List.length_append,hyl,hxl]
    omega
   have hseg:=HBW.out
   rw [hdrop,List.flatten_cons] at hseg
   have hseg2:=hseg
   rw [← wrt_mid' (y:=x) hyl htot rfl,Nat.zero_add] at hseg2
   have kc:wr.cell? ⟨c,oc,none⟩=some (.slice (some ⟨b,0,none⟩) n n):=by rw [cell_of_row _ _ _ _ _ _ HCW.out];exact HCC.out
   have HXQ:=Lib.hid hx
   have HER:Hid (∀ f,runs P st x s'=.error f→eachs P st xs s1=.error f):=Lib.hid (fun f h=>by
    have e:xs=xs.take q++([x]++xs.drop (q+1)):=by
     rw [List.singleton_append,← hdrop,List.take_append_drop]
    rw [e,eachs_append,HE.out]
    (try dsimp only)
    rw [eachs_append,eachs_one,h])
   have hcall:=Lib.hid (EF.out wr s' x b (q*7) (wrt cs 0 (ys.flatten++(x++(xs.drop (q+1)).flatten))) 71 (0,0) hxk HS.out (Nat.le_trans hB HM.out.low.size) (PT.new _ HBb.out) (.inr (by decide)) (by rw [wrt_size htot,hxl];rw [List.length_append,List.length_append,hyl,hxl] at htot;omega) hseg2 (fun h=>HFE.out (HER.out _ h)))
   have HT1:=Lib.hid htot
   have HYL:=Lib.hid hyl
   have HXX:=Lib.hid hxl
   clear hseg hseg2 htot hyl hxl hx hxk hdrop
   have HA:Hid (∀ zs s2,eachs P st [x] s'=.ok (zs,s2)→eachs P st (xs.take (q+1)) s1=.ok (ys++zs,s2)):=Lib.hid (fun zs s2 h=>by
    rw [List.take_add_one,HXQ.out]
    show eachs P st (xs.take q++[x]) s1=_
    rw [eachs_append,HE.out]
    (try dsimp only)
    rw [h])
   go_wp2_with fail
   refine hcall.out.mono ?_
   intro e W' he
   cases hrx:runs P st x s' with
   | error f =>
    rw [hrx] at he
    obtain ⟨rfl,h2⟩:=he
    refine ⟨rfl,?_⟩
    rw [HLP.out]
    (try dsimp only)
    rw [HER.out f hrx]
    exact ⟨rfl,HM.out.low.trans h2⟩
   | ok y =>
    obtain ⟨x',s2⟩:=y
    rw [hrx] at he
    obtain ⟨rfl,h2,h3,h4⟩:=he
    have hxl':=runs_len P st hrx
    have hwm:=wrt_mid' HYL.out HT1.out hxl'
    rw [Nat.zero_add] at hwm
    rw [hwm] at h4
    have H2:=Lib.hid h2
    have H3:=Lib.hid (HM.out.off h3 HNW.out)
    have H4:=Lib.hid h4
    have HC4:=Lib.hid (h3.keep HCW.out (.inr HCT.out) hcb)
    have HEN:=Lib.hid (HA.out [x'] s2 (by rw [eachs_one,hrx]))
    clear h2 h3 h4 kc hxl' hrx hwm
    go_wp2
    go_roundw
    case rel=>exact ⟨q+1,ys++[x'],s2,by omega,by go_num,HEN.out,H2.out,H3.out,HC4.out,by rw [List.flatten_append,List.flatten_singleton,List.append_assoc];exact H4.out⟩
    case measure=>simp [intOf];omega
  ·obtain rfl:n=q:=by omega
   have HF:Hid (eachs P st xs s1=.ok (ys,s')):=Lib.hid (by have:=HE.out;rwa [List.take_of_length_le (by rw [HN.out];omega)] at this)
   have HYN:Hid (ys.length=n):=Lib.hid (by
    have:=congrArg List.length (eachs_len P st HF.out)
    rwa [List.length_map,List.length_map,HN.out] at this)
   have HYL:=Lib.hid hyl
   clear hyl
   go_wp2
   go_end0
   rw [HLP.out]
   (try dsimp only)
   rw [HF.out]
   refine ⟨rfl,HS.out,HM.out,some ⟨b,0,none⟩,by rw [HYN.out,← HQ.out];exact HCW.out,fun _=>⟨b,HNW.out,rfl,?_⟩⟩
   have:=HBW.out
   rwa [List.drop_of_length_le (by rw [HN.out];omega),List.flatten_nil,List.append_nil,wrt_full (by rw [HYL.out,HCS.out])] at this
theorem newR_any (PT:Port P R B ok ti v rv FN FF FG) {F:FuncId} {st:List Sp} {ks:List Nat} (en':∀ (args:Array Value) (w:World),(callFunc F args).run Tryz.prog w=.ok (.enter F args) w)
  (EF:Hid (∀ (W:World) (s:P.σ) (l:List Value) (b o:Nat) (cs:Array Value) (t:TypeId) (fr:Nat × Nat),l.map kind=ks→R s W→B≤W.heap.size→ok b fr→(b < B∨¬ Pt t)→o+l.length≤cs.size→W.heap[b]?=some (.cells (wrt cs o l) t fr)→Fit (runs P st l s)→Calls Tryz.prog F #[.iface ti v,.pointer (some ⟨b,o,none⟩)] W (Ends P R B b o cs t fr (runs P st l s) W)))
  {s:P.σ} {W:World} {most:Int} (hks:([I 0,I 0,I 0,I 0,I 0,I 0,I 0,I 0,I 0,I 0,I 0]:List Value).map kind=ks) (hR:R s W) (hB:B≤W.heap.size) (few:∀ y s1,P.num s 1 most 0=.ok (y,s1)→∃ n:Nat,y=n∧n≤1000)
  {c oc:Nat} {ccs:Array Value} {ct:TypeId} (hc:W.heap[c]?=some (.cells ccs ct (0,0))) (hct:¬ Pt ct) (hcB:B≤c) (hca:ccs[oc]?=some (.slice none 0 0)) (hfit:Fit (listN P most st [I 0,I 0,I 0,I 0,I 0,I 0,I 0,I 0,I 0,I 0,I 0] s)) :
  Calls Tryz.prog 53 #[.iface ti v,.int .i64 most,.pointer (some ⟨c,oc,none⟩),.func (.func F) #[] #[]] W (EndsN P R B c oc ccs ct 75 (listN P most st [I 0,I 0,I 0,I 0,I 0,I 0,I 0,I 0,I 0,I 0,I 0] s) W):=by
 have hm:=PT.mn
 have en:=PT.en
 have HKS:=Lib.hid hks
 have HCT:=Lib.hid hct
 have HC:=Lib.hid hc
 have FW:=Lib.hid few
 have HR:=Lib.hid hR
 have HCA:=Lib.hid hca
 have k1:W.cell? ⟨c,oc,none⟩=some (.slice none 0 0):=by rw [cell_of_row _ _ _ _ _ _ hc];exact hca
 have hcl:=(Array.getElem?_eq_some_iff.1 hc).1
 have hb1:Below W.heap.size W (W.alloc (.cells #[I 0] 3)):=(Below.refl _ _).alloc (Nat.le_refl _) _
 have hst:=PT.stay s W _ hR hb1.size (fun j cs t fr hj _=>hb1.block j (Array.getElem?_eq_some_iff.1 hj).1)
 have hfn:Fit (Sp.run P [I 0] s (.num 1 most 0)):=fun h=>by
  simp only [Sp.run,List.getElem?_cons_zero] at h
  cases hp:P.num s 1 most 0 with
  | ok y=>rw [hp] at h;cases h
  | error f=>rw [hp] at h;cases h;exact hfit (by unfold listN;rw [hp])
 have HFIT:=Lib.hid hfit
 clear hfit
 have hnum:=Lib.hid (PT.num s (W.alloc (.cells #[I 0] 3)) W.heap.size 0 #[I 0] 3 (0,0) [I 0] 1 most 0 0 hst (Nat.le_trans hB hb1.size) (PT.new _ hB) (.inr (by decide)) (by simp) (by rw [wrt_same (by simp) (by intro j hj;match j,hj with | 0,_=>rfl)];exact heap_alloc_new W _) rfl hfn)
 clear hks hct hc few hR hca hst hfn
 obtain ⟨zr,hzr⟩:∃ zr:List Value,zr=[I 0,I 0,I 0,I 0,I 0,I 0,I 0,I 0,I 0,I 0,I 0]:=⟨_,rfl⟩
 have hzl:zr.length=11:=by rw [hzr];rfl
 rw [← hzr] at HKS HFIT ⊢
 have HZR:=Lib.hid hzr
 have HZL:=Lib.hid hzl
 clear hzr hzl
 have HLP:Hid (listN P most st zr s=match P.num s 1 most 0 with
   | .error f=>.error f
   | .ok (y,s1)=>eachs P st (List.replicate y.toNat zr) s1):=Lib.hid rfl
 generalize listN P most st zr s=r0 at HLP HFIT ⊢
 go_enter Tryz.func53,Tryz.ntmps53
 go_upto_region 1 with fail
 generalize World.alloc W _=W1 at hb1 hnum ⊢
 generalize hnb:W.heap.size=nb at hb1 hnum ⊢
 have HB1:=Lib.hid hb1
 clear hb1
 go_wp2_with fail
 refine hnum.out.mono ?_
 intro e W2 he
 simp only [Sp.run,List.getElem?_cons_zero] at he
 cases hr:P.num s 1 most 0 with
 | error f =>
  rw [hr] at he HLP
  obtain ⟨rfl,h2⟩:=he
  refine ⟨rfl,?_⟩
  rw [HLP.out]
  exact ⟨rfl,(HB1.out.mono (by omega)).trans h2⟩
 | ok y =>
 obtain ⟨y,s1⟩:=y
 obtain ⟨n,rfl,hn2⟩:=FW.out _ _ hr
 rw [hr] at he HLP
 obtain ⟨xs,hxs⟩:∃ xs,xs=List.replicate n zr:=⟨_,rfl⟩
 have hn:xs.length=n:=by rw [hxs,List.length_replicate]
 have hk:∀ x ∈ xs,x.map kind=ks∧x.length=11:=fun x hx=>by
  rw [hxs] at hx
  obtain rfl:=List.eq_of_mem_replicate hx
  exact ⟨HKS.out,HZL.out⟩
 have HN:=Lib.hid hn
 have HK:=Lib.hid hk
 have HXS:=Lib.hid hxs
 dsimp only at HLP
 rw [Int.toNat_natCast,← hxs] at HLP
 clear hn hk hxs
 have HFE:Hid (Fit (eachs P st xs s1)):=Lib.hid (by have:=HFIT.out;rw [HLP.out] at this;exact this)
 clear HFIT FW
 obtain ⟨rfl,h2,h3,h4⟩:=he
 have hwn:wrt #[I 0] 0 ([I 0].set 0 (I (n:Int)))=#[I (n:Int)]:=wrt_full rfl
 rw [hwn] at h4
 clear hwn
 have hC2:=h3.keep ((HB1.out.block c (by rw [← hnb];exact hcl)).trans HC.out) (.inr HCT.out) (by omega)
 have kn:W2.cell? ⟨nb,0,none⟩=some (I (n:Int)):=by rw [cell_of_row _ _ _ _ _ _ h4];rfl
 have k1:W2.cell? ⟨c,oc,none⟩=some (.slice none 0 0):=by rw [cell_of_row _ _ _ _ _ _ hC2];exact HCA.out
 have HM:Hid (Mv B c W W2):=Lib.hid ⟨(HB1.out.mono (by omega)).trans h3.low,fun j cs t fr hj hjt hjb=>by
  have hjl:=(Array.getElem?_eq_some_iff.1 hj).1
  have h1:=(HB1.out.block j (by omega)).trans hj
  exact (h3.other j cs t fr h1 hjt (by omega)).trans (HB1.out.block j (by omega))⟩
 have HR2:=Lib.hid h2
 have HC2:=Lib.hid hC2
 have HNB:=Lib.hid h4
 have HBS:Hid (B≤W2.heap.size):=Lib.hid (Nat.le_trans (Nat.le_trans hB HB1.out.size) h3.low.size)
 clear h2 h3 h4 hC2 hnum hr HC HB1 HR
 go_upto_region 2 with fail
 have q1:∀ p:QB.By W2.heap.size W2,p.world.cell? ⟨nb,0,none⟩=some (I (n:Int)):=fun p=>(p.below.cell (World.block_lt_of_cell? W2 _ kn)).trans kn
 have q2:∀ p:QB.By W2.heap.size W2,p.world.cell? ⟨c,oc,none⟩=some (.slice none 0 0):=fun p=>(p.below.cell (World.block_lt_of_cell? W2 _ k1)).trans k1
 refine QB.region_below W2.heap.size (by kernel_rfl) (by kernel_rfl) ?_
 repeat (quiet_step (fail))
 refine wpQuiet_nil ?_
 intro _ hw'
 obtain ⟨p,rfl⟩:=hw'
 have k2:=q2 p
 have kn2:=q1 p
 have HRV:=Lib.hid (PT.stay s1 W2 p.world HR2.out p.below.size (fun j cs t fr hj _=>p.below.block j (Array.getElem?_eq_some_iff.1 hj).1))
 have HMV:=Lib.hid (HM.out.trans (Mv.of p.below HBS.out))
 have HCV:Hid (p.world.heap[c]?=some (.cells ccs ct (0,0))):=Lib.hid ((p.below.block c (Array.getElem?_eq_some_iff.1 HC2.out).1).trans HC2.out)
 have HBV:Hid (B≤p.world.heap.size):=Lib.hid (Nat.le_trans HBS.out p.below.size)
 have HNV:Hid (p.world.heap[nb]?=some (.cells #[I (n:Int)] 3 (0,0))):=Lib.hid ((p.below.block nb (Array.getElem?_eq_some_iff.1 HNB.out).1).trans HNB.out)
 clear q1 q2 kn k1 HM HR2 HC2 HBS HNB
 generalize p.world=V at k2 kn2 HRV HMV HCV HBV HNV ⊢
 rcases Nat.eq_zero_or_pos n with h0 | h0
 ·subst h0
  obtain rfl:=List.eq_nil_of_length_eq_zero HN.out
  have hne:((((0:Nat):Int)) != 0)=false:=by decide
  go_wp2_with fail
  refine wp_loop_rounds 1 ?_
  rw [rounds_succ]
  go_wp2
  go_end0
  rw [HLP.out]
  exact ⟨rfl,HRV.out,HMV.out,none,by rw [List.length_nil,put_same HCA.out];exact HCV.out,fun h=>absurd rfl h⟩
 have hne:((n:Int) != 0)=true:=by simp;omega
 go_wp2_with (at_make;refine Copy.wpList_make_zero rfl _ _ 30 75 rfl Tryz.underlying30 _ _ _ Clone.zR (by rfl) n (by first | rfl | go_simp) (by first | rfl | go_simp) hn2 (by decide) ?_)
 intro V2 hg2 hb2 hs2
 generalize hbb:V.heap.size=b at hg2 ⊢
 have hC3:=(hb2.block c (Array.getElem?_eq_some_iff.1 HCV.out).1).trans HCV.out
 have c1:V2.cell? ⟨c,oc,none⟩=some (.slice none 0 0):=by rw [cell_of_row _ _ _ _ _ _ hC3];exact HCA.out
 have f1:V2.frozen? ⟨c,oc,none⟩=false:=frozen_of_row _ _ _ _ _ hC3
 go_wp2_with fail
 rw [setCell_eq_setRow _ _ _ _ _ _ _ hC3]
 have hC4:=setRow_heap V2 c _ (ccs.setIfInBounds oc (.slice (some ⟨b,0,none⟩) n n)) ct (0,0) hC3
 have hbut:Rd.But c V2 (V2.setRow c (ccs.setIfInBounds oc (.slice (some ⟨b,0,none⟩) n n))):=by
  rw [← setCell_eq_setRow _ _ _ _ _ _ _ hC3]
  exact Rd.But.set c _ V2 _
 have hst:∀ k,k ≠ c→(V2.setRow c (ccs.setIfInBounds oc (.slice (some ⟨b,0,none⟩) n n))).heap[k]?=V2.heap[k]?:=fun k hk=>setRow_other _ _ _ _ hk
 generalize V2.setRow c _=V3 at hC4 hbut hst ⊢
 have hoc:oc < ccs.size:=(Array.getElem?_eq_some_iff.1 HCA.out).1
 have HCC:Hid ((ccs.setIfInBounds oc (.slice (some ⟨b,0,none⟩) n n))[oc]?=some (.slice (some ⟨b,0,none⟩) n n)):=Lib.hid (by rw [Array.getElem?_setIfInBounds,if_pos rfl,if_pos hoc])
 have hcV:=(Array.getElem?_eq_some_iff.1 HCV.out).1
 have HRW:Hid (R s1 V3):=Lib.hid (PT.stay s1 V V3 HRV.out (Nat.le_trans hb2.size hbut.size) (fun j cs t fr hj hp=>by
  have hjc:j ≠ c:=fun e=>by
   subst e
   have h1:=HCV.out
   rw [hj] at h1
   cases h1
   exact HCT.out hp
  exact (hst j hjc).trans (hb2.block j (Array.getElem?_eq_some_iff.1 hj).1)))
 have HMW:Hid (Mv B c W V3):=Lib.hid (HMV.out.trans ((Mv.of hb2 HBV.out).trans ⟨hbut.below (Nat.le_trans HBV.out hb2.size) hcB,fun j cs t fr hj hp hjc=>hst j hjc⟩))
 have HZF:Hid (xs.flatten=(List.replicate n zr).flatten):=Lib.hid (by rw [HXS.out])
 have HB0:Hid (V3.heap[b]?=some (.cells (wrt xs.flatten.toArray 0 xs.flatten) 75 (0,0))):=Lib.hid (by
  rw [wrt_full (by simp),hst b (by omega),hg2,HZF.out,HZR.out] <;> simp)
 have HCW0:=Lib.hid hC4
 have HNW:Hid (W.heap.size≤b):=Lib.hid (by rw [← hbb];exact HMV.out.low.size)
 have HBb:Hid (B≤b):=Lib.hid (by rw [← hbb];exact HBV.out)
 have hcb:c ≠ b:=by omega
 clear hC3 hC4 hbut hst c1 f1 hg2 hb2 hs2 k2 kn2 HRV HMV HCV HBV HNV hbb HXS HZF HCA hoc
 obtain ⟨cc2,hcc⟩:∃ cc2,cc2=ccs.setIfInBounds oc (.slice (some ⟨b,0,none⟩) n n):=⟨_,rfl⟩
 rw [← hcc] at HCC HCW0
 have HQ:=Lib.hid hcc
 clear hcc
 have HXL:Hid (∀ q,(xs.take q).flatten.length=min q n*11):=Lib.hid (fun q=>by
  rw [List.length_flatten,show (xs.take q).map List.length=List.replicate (min q n) 11 from List.eq_replicate_iff.2 ⟨by rw [List.length_map,List.length_take,HN.out],fun m hm=>by
   obtain ⟨x,hx,rfl⟩:=List.mem_map.1 hm
   exact (HK.out x (List.mem_of_mem_take hx)).2⟩,List.sum_replicate_nat])
 have HCS:Hid (xs.flatten.toArray.size=n*11):=Lib.hid (by
  have h3:=HXL.out n
  rw [List.take_of_length_le (by rw [HN.out];omega),Nat.min_self] at h3
  rw [List.size_toArray,h3])
 obtain ⟨cs,hcs⟩:∃ cs,cs=xs.flatten.toArray:=⟨_,rfl⟩
 rw [← hcs] at HCS HB0
 clear hcs
 go_loopw [31] (fun i wr=>∃ (q:Nat) (ys:List (List Value)) (s':P.σ),q≤n∧i=.int .i64 (q:Int)∧eachs P st (xs.take q) s1=.ok (ys,s')∧R s' wr∧Mv B c W wr∧wr.heap[c]?=some (.cells cc2 ct (0,0))∧wr.heap[b]?=some (.cells (wrt cs 0 (ys.flatten++(xs.drop q).flatten)) 75 (0,0))) (fun i _=>n - (intOf i).toNat)
 case atStart=>exact ⟨0,[],s1,by omega,rfl,rfl,HRW.out,HMW.out,HCW0.out,HB0.out⟩
 case round =>
  obtain ⟨q,ys,s',hq,rfl,hrun,hr,hmv,hcv,hbv⟩:=hrel
  have HE:=Lib.hid hrun
  have HS:=Lib.hid hr
  have HM:=Lib.hid hmv
  have HCW:=Lib.hid hcv
  have HBW:=Lib.hid hbv
  clear hrun hr hmv hcv hbv
  have hyl:ys.flatten.length=q*11:=by
   have h1:=eachs_len P st HE.out
   have h2:=HXL.out q
   rw [List.length_flatten] at h2 ⊢
   rw [h1,h2,Nat.min_eq_left hq]
  by_cases hlt:q < n
  ·obtain ⟨x,hx⟩:∃ x,xs[q]?=some x:=⟨_,List.getElem?_eq_getElem (by rw [HN.out];exact hlt)⟩
   have hdrop:xs.drop q=x :: xs.drop (q+1):=by
    have hq':q < xs.length:=by rw [HN.out];exact hlt
    rw [List.drop_eq_getElem_cons hq']
    congr 1
    exact (List.getElem?_eq_some_iff.1 hx).2
   obtain ⟨hxk,hxl⟩:=HK.out x (List.mem_of_getElem? hx)
   have htot:0+(ys.flatten++(x++(xs.drop (q+1)).flatten)).length≤cs.size:=by
    have h1:(xs.drop (q+1)).flatten.length+(xs.take (q+1)).flatten.length=xs.flatten.length:=by
     have:=congrArg List.length (show (xs.take (q+1)++xs.drop (q+1)).flatten=xs.flatten by rw [List.take_append_drop])
     rw [List.flatten_append,List.length_append] at this
     omega
    have h2:=HXL.out (q+1)
    have h3:=HXL.out n
    rw [List.take_of_length_le (by rw [HN.out];omega)] at h3
    have h4:=HCS.out
    rw [Nat.min_eq_left (by omega)] at h2 h3
    rw [List.length_append,List.length_append,hyl,hxl]
    omega
   have hseg:=HBW.out
   rw [hdrop,List.flatten_cons] at hseg
   have hseg2:=hseg
   rw [← wrt_mid' (y:=x) hyl htot rfl,Nat.zero_add] at hseg2
   have kc:wr.cell? ⟨c,oc,none⟩=some (.slice (some ⟨b,0,none⟩) n n):=by rw [cell_of_row _ _ _ _ _ _ HCW.out];exact HCC.out
   have HXQ:=Lib.hid hx
   have HER:Hid (∀ f,runs P st x s'=.error f→eachs P st xs s1=.error f):=Lib.hid (fun f h=>by
    have e:xs=xs.take q++([x]++xs.drop (q+1)):=by
     rw [List.singleton_append,← hdrop,List.take_append_drop]
    rw [e,eachs_append,HE.out]
    (try dsimp only)
    rw [eachs_append,eachs_one,h])
   have hcall:=Lib.hid (EF.out wr s' x b (q*11) (wrt cs 0 (ys.flatten++(x++(xs.drop (q+1)).flatten))) 75 (0,0) hxk HS.out (Nat.le_trans hB HM.out.low.size) (PT.new _ HBb.out) (.inr (by decide)) (by rw [wrt_size htot,hxl];rw [List.length_append,List.length_append,hyl,hxl] at htot;omega) hseg2 (fun h=>HFE.out (HER.out _ h)))
   have HT1:=Lib.hid htot
   have HYL:=Lib.hid hyl
   have HXX:=Lib.hid hxl
   clear hseg hseg2 htot hyl hxl hx hxk hdrop
   have HA:Hid (∀ zs s2,eachs P st [x] s'=.ok (zs,s2)→eachs P st (xs.take (q+1)) s1=.ok (ys++zs,s2)):=Lib.hid (fun zs s2 h=>by
    rw [List.take_add_one,HXQ.out]
    show eachs P st (xs.take q++[x]) s1=_
    rw [eachs_append,HE.out]
    (try dsimp only)
    rw [h])
   go_wp2_with fail
   refine hcall.out.mono ?_
   intro e W' he
   cases hrx:runs P st x s' with
   | error f =>
    rw [hrx] at he
    obtain ⟨rfl,h2⟩:=he
    refine ⟨rfl,?_⟩
    rw [HLP.out]
    (try dsimp only)
    rw [HER.out f hrx]
    exact ⟨rfl,HM.out.low.trans h2⟩
   | ok y =>
    obtain ⟨x',s2⟩:=y
    rw [hrx] at he
    obtain ⟨rfl,h2,h3,h4⟩:=he
    have hxl':=runs_len P st hrx
    have hwm:=wrt_mid' HYL.out HT1.out hxl'
    rw [Nat.zero_add] at hwm
    rw [hwm] at h4
    have H2:=Lib.hid h2
    have H3:=Lib.hid (HM.out.off h3 HNW.out)
    have H4:=Lib.hid h4
    have HC4:=Lib.hid (h3.keep HCW.out (.inr HCT.out) hcb)
    have HEN:=Lib.hid (HA.out [x'] s2 (by rw [eachs_one,hrx]))
    clear h2 h3 h4 kc hxl' hrx hwm
    go_wp2
    go_roundw
    case rel=>exact ⟨q+1,ys++[x'],s2,by omega,by go_num,HEN.out,H2.out,H3.out,HC4.out,by rw [List.flatten_append,List.flatten_singleton,List.append_assoc];exact H4.out⟩
    case measure=>simp [intOf];omega
  ·obtain rfl:n=q:=by omega
   have HF:Hid (eachs P st xs s1=.ok (ys,s')):=Lib.hid (by have:=HE.out;rwa [List.take_of_length_le (by rw [HN.out];omega)] at this)
   have HYN:Hid (ys.length=n):=Lib.hid (by
    have:=congrArg List.length (eachs_len P st HF.out)
    rwa [List.length_map,List.length_map,HN.out] at this)
   have HYL:=Lib.hid hyl
   clear hyl
   go_wp2
   go_end0
   rw [HLP.out]
   (try dsimp only)
   rw [HF.out]
   refine ⟨rfl,HS.out,HM.out,some ⟨b,0,none⟩,by rw [HYN.out,← HQ.out];exact HCW.out,fun _=>⟨b,HNW.out,rfl,?_⟩⟩
   have:=HBW.out
   rwa [List.drop_of_length_le (by rw [HN.out];omega),List.flatten_nil,List.append_nil,wrt_full (by rw [HYL.out,HCS.out])] at this
theorem newS_any (PT:Port P R B ok ti v rv FN FF FG) {F:FuncId} {st:List Sp} {ks:List Nat} (en':∀ (args:Array Value) (w:World),(callFunc F args).run Tryz.prog w=.ok (.enter F args) w)
  (EF:Hid (∀ (W:World) (s:P.σ) (l:List Value) (b o:Nat) (cs:Array Value) (t:TypeId) (fr:Nat × Nat),l.map kind=ks→R s W→B≤W.heap.size→ok b fr→(b < B∨¬ Pt t)→o+l.length≤cs.size→W.heap[b]?=some (.cells (wrt cs o l) t fr)→Fit (runs P st l s)→Calls Tryz.prog F #[.iface ti v,.pointer (some ⟨b,o,none⟩)] W (Ends P R B b o cs t fr (runs P st l s) W)))
  {s:P.σ} {W:World} {most:Int} (hks:([I 0,I 0]:List Value).map kind=ks) (hR:R s W) (hB:B≤W.heap.size) (few:∀ y s1,P.num s 1 most 0=.ok (y,s1)→∃ n:Nat,y=n∧n≤1000)
  {c oc:Nat} {ccs:Array Value} {ct:TypeId} (hc:W.heap[c]?=some (.cells ccs ct (0,0))) (hct:¬ Pt ct) (hcB:B≤c) (hca:ccs[oc]?=some (.slice none 0 0)) (hfit:Fit (listN P most st [I 0,I 0] s)) :
  Calls Tryz.prog 55 #[.iface ti v,.int .i64 most,.pointer (some ⟨c,oc,none⟩),.func (.func F) #[] #[]] W (EndsN P R B c oc ccs ct 77 (listN P most st [I 0,I 0] s) W):=by
 have hm:=PT.mn
 have en:=PT.en
 have HKS:=Lib.hid hks
 have HCT:=Lib.hid hct
 have HC:=Lib.hid hc
 have FW:=Lib.hid few
 have HR:=Lib.hid hR
 have HCA:=Lib.hid hca
 have k1:W.cell? ⟨c,oc,none⟩=some (.slice none 0 0):=by rw [cell_of_row _ _ _ _ _ _ hc];exact hca
 have hcl:=(Array.getElem?_eq_some_iff.1 hc).1
 have hb1:Below W.heap.size W (W.alloc (.cells #[I 0] 3)):=(Below.refl _ _).alloc (Nat.le_refl _) _
 have hst:=PT.stay s W _ hR hb1.size (fun j cs t fr hj _=>hb1.block j (Array.getElem?_eq_some_iff.1 hj).1)
 have hfn:Fit (Sp.run P [I 0] s (.num 1 most 0)):=fun h=>by
  simp only [Sp.run,List.getElem?_cons_zero] at h
  cases hp:P.num s 1 most 0 with
  | ok y=>rw [hp] at h;cases h
  | error f=>rw [hp] at h;cases h;exact hfit (by unfold listN;rw [hp])
 have HFIT:=Lib.hid hfit
 clear hfit
 have hnum:=Lib.hid (PT.num s (W.alloc (.cells #[I 0] 3)) W.heap.size 0 #[I 0] 3 (0,0) [I 0] 1 most 0 0 hst (Nat.le_trans hB hb1.size) (PT.new _ hB) (.inr (by decide)) (by simp) (by rw [wrt_same (by simp) (by intro j hj;match j,hj with | 0,_=>rfl)];exact heap_alloc_new W _) rfl hfn)
 clear hks hct hc few hR hca hst hfn
 obtain ⟨zr,hzr⟩:∃ zr:List Value,zr=[I 0,I 0]:=⟨_,rfl⟩
 have hzl:zr.length=2:=by rw [hzr];rfl
 rw [← hzr] at HKS HFIT ⊢
 have HZR:=Lib.hid hzr
 have HZL:=Lib.hid hzl
 clear hzr hzl
 have HLP:Hid (listN P most st zr s=match P.num s 1 most 0 with
   | .error f=>.error f
   | .ok (y,s1)=>eachs P st (List.replicate y.toNat zr) s1):=Lib.hid rfl
 generalize listN P most st zr s=r0 at HLP HFIT ⊢
 go_enter Tryz.func55,Tryz.ntmps55
 go_upto_region 1 with fail
 generalize World.alloc W _=W1 at hb1 hnum ⊢
 generalize hnb:W.heap.size=nb at hb1 hnum ⊢
 have HB1:=Lib.hid hb1
 clear hb1
 go_wp2_with fail
 refine hnum.out.mono ?_
 intro e W2 he
 simp only [Sp.run,List.getElem?_cons_zero] at he
 cases hr:P.num s 1 most 0 with
 | error f =>
  rw [hr] at he HLP
  obtain ⟨rfl,h2⟩:=he
  refine ⟨rfl,?_⟩
  rw [HLP.out]
  exact ⟨rfl,(HB1.out.mono (by omega)).trans h2⟩
 | ok y =>
 obtain ⟨y,s1⟩:=y
 obtain ⟨n,rfl,hn2⟩:=FW.out _ _ hr
 rw [hr] at he HLP
 obtain ⟨xs,hxs⟩:∃ xs,xs=List.replicate n zr:=⟨_,rfl⟩
 have hn:xs.length=n:=by rw [hxs,List.length_replicate]
 have hk:∀ x ∈ xs,x.map kind=ks∧x.length=2:=fun x hx=>by
  rw [hxs] at hx
  obtain rfl:=List.eq_of_mem_replicate hx
  exact ⟨HKS.out,HZL.out⟩
 have HN:=Lib.hid hn
 have HK:=Lib.hid hk
 have HXS:=Lib.hid hxs
 dsimp only at HLP
 rw [Int.toNat_natCast,← hxs] at HLP
 clear hn hk hxs
 have HFE:Hid (Fit (eachs P st xs s1)):=Lib.hid (by have:=HFIT.out;rw [HLP.out] at this;exact this)
 clear HFIT FW
 obtain ⟨rfl,h2,h3,h4⟩:=he
 have hwn:wrt #[I 0] 0 ([I 0].set 0 (I (n:Int)))=#[I (n:Int)]:=wrt_full rfl
 rw [hwn] at h4
 clear hwn
 have hC2:=h3.keep ((HB1.out.block c (by rw [← hnb];exact hcl)).trans HC.out) (.inr HCT.out) (by omega)
 have kn:W2.cell? ⟨nb,0,none⟩=some (I (n:Int)):=by rw [cell_of_row _ _ _ _ _ _ h4];rfl
 have k1:W2.cell? ⟨c,oc,none⟩=some (.slice none 0 0):=by rw [cell_of_row _ _ _ _ _ _ hC2];exact HCA.out
 have HM:Hid (Mv B c W W2):=Lib.hid ⟨(HB1.out.mono (by omega)).trans h3.low,fun j cs t fr hj hjt hjb=>by
  have hjl:=(Array.getElem?_eq_some_iff.1 hj).1
  have h1:=(HB1.out.block j (by omega)).trans hj
  exact (h3.other j cs t fr h1 hjt (by omega)).trans (HB1.out.block j (by omega))⟩
 have HR2:=Lib.hid h2
 have HC2:=Lib.hid hC2
 have HNB:=Lib.hid h4
 have HBS:Hid (B≤W2.heap.size):=Lib.hid (Nat.le_trans (Nat.le_trans hB HB1.out.size) h3.low.size)
 clear h2 h3 h4 hC2 hnum hr HC HB1 HR
 go_upto_region 2 with fail
 have q1:∀ p:QB.By W2.heap.size W2,p.world.cell? ⟨nb,0,none⟩=some (I (n:Int)):=fun p=>(p.below.cell (World.block_lt_of_cell? W2 _ kn)).trans kn
 have q2:∀ p:QB.By W2.heap.size W2,p.world.cell? ⟨c,oc,none⟩=some (.slice none 0 0):=fun p=>(p.below.cell (World.block_lt_of_cell? W2 _ k1)).trans k1
 refine QB.region_below W2.heap.size (by kernel_rfl) (by kernel_rfl) ?_
 repeat (quiet_step (fail))
 refine wpQuiet_nil ?_
 intro _ hw'
 obtain ⟨p,rfl⟩:=hw'
 have k2:=q2 p
 have kn2:=q1 p
 have HRV:=Lib.hid (PT.stay s1 W2 p.world HR2.out p.below.size (fun j cs t fr hj _=>p.below.block j (Array.getElem?_eq_some_iff.1 hj).1))
 have HMV:=Lib.hid (HM.out.trans (Mv.of p.below HBS.out))
 have HCV:Hid (p.world.heap[c]?=some (.cells ccs ct (0,0))):=Lib.hid ((p.below.block c (Array.getElem?_eq_some_iff.1 HC2.out).1).trans HC2.out)
 have HBV:Hid (B≤p.world.heap.size):=Lib.hid (Nat.le_trans HBS.out p.below.size)
 have HNV:Hid (p.world.heap[nb]?=some (.cells #[I (n:Int)] 3 (0,0))):=Lib.hid ((p.below.block nb (Array.getElem?_eq_some_iff.1 HNB.out).1).trans HNB.out)
 clear q1 q2 kn k1 HM HR2 HC2 HBS HNB
 generalize p.world=V at k2 kn2 HRV HMV HCV HBV HNV ⊢
 rcases Nat.eq_zero_or_pos n with h0 | h0
 ·subst h0
  obtain rfl:=List.eq_nil_of_length_eq_zero HN.out
  have hne:((((0:Nat):Int)) != 0)=false:=by decide
  go_wp2_with fail
  refine wp_loop_rounds 1 ?_
  rw [rounds_succ]
  go_wp2
  go_end0
  rw [HLP.out]
  exact ⟨rfl,HRV.out,HMV.out,none,by rw [List.length_nil,put_same HCA.out];exact HCV.out,fun h=>absurd rfl h⟩
 have hne:((n:Int) != 0)=true:=by simp;omega
 go_wp2_with (at_make;refine Copy.wpList_make_zero rfl _ _ 31 77 rfl Tryz.underlying31 _ _ _ Clone.zB (by rfl) n (by first | rfl | go_simp) (by first | rfl | go_simp) hn2 (by decide) ?_)
 intro V2 hg2 hb2 hs2
 generalize hbb:V.heap.size=b at hg2 ⊢
 have hC3:=(hb2.block c (Array.getElem?_eq_some_iff.1 HCV.out).1).trans HCV.out
 have c1:V2.cell? ⟨c,oc,none⟩=some (.slice none 0 0):=by rw [cell_of_row _ _ _ _ _ _ hC3];exact HCA.out
 have f1:V2.frozen? ⟨c,oc,none⟩=false:=frozen_of_row _ _ _ _ _ hC3
 go_wp2_with fail
 rw [setCell_eq_setRow _ _ _ _ _ _ _ hC3]
 have hC4:=setRow_heap V2 c _ (ccs.setIfInBounds oc (.slice (some ⟨b,0,none⟩) n n)) ct (0,0) hC3
 have hbut:Rd.But c V2 (V2.setRow c (ccs.setIfInBounds oc (.slice (some ⟨b,0,none⟩) n n))):=by
  rw [← setCell_eq_setRow _ _ _ _ _ _ _ hC3]
  exact Rd.But.set c _ V2 _
 have hst:∀ k,k ≠ c→(V2.setRow c (ccs.setIfInBounds oc (.slice (some ⟨b,0,none⟩) n n))).heap[k]?=V2.heap[k]?:=fun k hk=>setRow_other _ _ _ _ hk
 generalize V2.setRow c _=V3 at hC4 hbut hst ⊢
 have hoc:oc < ccs.size:=(Array.getElem?_eq_some_iff.1 HCA.out).1
 have HCC:Hid ((ccs.setIfInBounds oc (.slice (some ⟨b,0,none⟩) n n))[oc]?=some (.slice (some ⟨b,0,none⟩) n n)):=Lib.hid (by rw [Array.getElem?_setIfInBounds,if_pos rfl,if_pos hoc])
 have hcV:=(Array.getElem?_eq_some_iff.1 HCV.out).1
 have HRW:Hid (R s1 V3):=Lib.hid (PT.stay s1 V V3 HRV.out (Nat.le_trans hb2.size hbut.size) (fun j cs t fr hj hp=>by
  have hjc:j ≠ c:=fun e=>by
   subst e
   have h1:=HCV.out
   rw [hj] at h1
   cases h1
   exact HCT.out hp
  exact (hst j hjc).trans (hb2.block j (Array.getElem?_eq_some_iff.1 hj).1)))
 have HMW:Hid (Mv B c W V3):=Lib.hid (HMV.out.trans ((Mv.of hb2 HBV.out).trans ⟨hbut.below (Nat.le_trans HBV.out hb2.size) hcB,fun j cs t fr hj hp hjc=>hst j hjc⟩))
 have HZF:Hid (xs.flatten=(List.replicate n zr).flatten):=Lib.hid (by rw [HXS.out])
 have HB0:Hid (V3.heap[b]?=some (.cells (wrt xs.flatten.toArray 0 xs.flatten) 77 (0,0))):=Lib.hid (by
  rw [wrt_full (by simp),hst b (by omega),hg2,HZF.out,HZR.out] <;> simp)
 have HCW0:=Lib.hid hC4
 have HNW:Hid (W.heap.size≤b):=Lib.hid (by rw [← hbb];exact HMV.out.low.size)
 have HBb:Hid (B≤b):=Lib.hid (by rw [← hbb];exact HBV.out)
 have hcb:c ≠ b:=by omega
 clear hC3 hC4 hbut hst c1 f1 hg2 hb2 hs2 k2 kn2 HRV HMV HCV HBV HNV hbb HXS HZF HCA hoc
 obtain ⟨cc2,hcc⟩:∃ cc2,cc2=ccs.setIfInBounds oc (.slice (some ⟨b,0,none⟩) n n):=⟨_,rfl⟩
 rw [← hcc] at HCC HCW0
 have HQ:=Lib.hid hcc
 clear hcc
 have HXL:Hid (∀ q,(xs.take q).flatten.length=min q n*2):=Lib.hid (fun q=>by
  rw [List.length_flatten,show (xs.take q).map List.length=List.replicate (min q n) 2 from List.eq_replicate_iff.2 ⟨by rw [List.length_map,List.length_take,HN.out],fun m hm=>by
   obtain ⟨x,hx,rfl⟩:=List.mem_map.1 hm
   exact (HK.out x (List.mem_of_mem_take hx)).2⟩,List.sum_replicate_nat])
 have HCS:Hid (xs.flatten.toArray.size=n*2):=Lib.hid (by
  have h3:=HXL.out n
  rw [List.take_of_length_le (by rw [HN.out];omega),Nat.min_self] at h3
  rw [List.size_toArray,h3])
 obtain ⟨cs,hcs⟩:∃ cs,cs=xs.flatten.toArray:=⟨_,rfl⟩
 rw [← hcs] at HCS HB0
 clear hcs
 go_loopw [31] (fun i wr=>∃ (q:Nat) (ys:List (List Value)) (s':P.σ),q≤n∧i=.int .i64 (q:Int)∧eachs P st (xs.take q) s1=.ok (ys,s')∧R s' wr∧Mv B c W wr∧wr.heap[c]?=some (.cells cc2 ct (0,0))∧wr.heap[b]?=some (.cells (wrt cs 0 (ys.flatten++(xs.drop q).flatten)) 77 (0,0))) (fun i _=>n - (intOf i).toNat)
 case atStart=>exact ⟨0,[],s1,by omega,rfl,rfl,HRW.out,HMW.out,HCW0.out,HB0.out⟩
 case round =>
  obtain ⟨q,ys,s',hq,rfl,hrun,hr,hmv,hcv,hbv⟩:=hrel
  have HE:=Lib.hid hrun
  have HS:=Lib.hid hr
  have HM:=Lib.hid hmv
  have HCW:=Lib.hid hcv
  have HBW:=Lib.hid hbv
  clear hrun hr hmv hcv hbv
  have hyl:ys.flatten.length=q*2:=by
   have h1:=eachs_len P st HE.out
   have h2:=HXL.out q
   rw [List.length_flatten] at h2 ⊢
   rw [h1,h2,Nat.min_eq_left hq]
  by_cases hlt:q < n
  ·obtain ⟨x,hx⟩:∃ x,xs[q]?=some x:=⟨_,List.getElem?_eq_getElem (by rw [HN.out];exact hlt)⟩
   have hdrop:xs.drop q=x :: xs.drop (q+1):=by
    have hq':q < xs.length:=by rw [HN.out];exact hlt
    rw [List.drop_eq_getElem_cons hq']
    congr 1
    exact (List.getElem?_eq_some_iff.1 hx).2
   obtain ⟨hxk,hxl⟩:=HK.out x (List.mem_of_getElem? hx)
   have htot:0+(ys.flatten++(x++(xs.drop (q+1)).flatten)).length≤cs.size:=by
    have h1:(xs.drop (q+1)).flatten.length+(xs.take (q+1)).flatten.length=xs.flatten.length:=by
     have:=congrArg List.length (show (xs.take (q+1)++xs.drop (q+1)).flatten=xs.flatten by rw [List.take_append_drop])
     rw [List.flatten_append,List.length_append] at this
     omega
    have h2:=HXL.out (q+1)
    have h3:=HXL.out n
    rw [List.take_of_length_le (by rw [HN.out];omega)] at h3
    have h4:=HCS.out
    rw [Nat.min_eq_left (by omega)] at h2 h3
    rw [List.length_append,List.length_append,hyl,hxl]
    omega
   have hseg:=HBW.out
   rw [hdrop,List.flatten_cons] at hseg
   have hseg2:=hseg
   rw [← wrt_mid' (y:=x) hyl htot rfl,Nat.zero_add] at hseg2
   have kc:wr.cell? ⟨c,oc,none⟩=some (.slice (some ⟨b,0,none⟩) n n):=by rw [cell_of_row _ _ _ _ _ _ HCW.out];exact HCC.out
   have HXQ:=Lib.hid hx
   have HER:Hid (∀ f,runs P st x s'=.error f→eachs P st xs s1=.error f):=Lib.hid (fun f h=>by
    have e:xs=xs.take q++([x]++xs.drop (q+1)):=by
     rw [List.singleton_append,← hdrop,List.take_append_drop]
    rw [e,eachs_append,HE.out]
    (try dsimp only)
    rw [eachs_append,eachs_one,h])
   have hcall:=Lib.hid (EF.out wr s' x b (q*2) (wrt cs 0 (ys.flatten++(x++(xs.drop (q+1)).flatten))) 77 (0,0) hxk HS.out (Nat.le_trans hB HM.out.low.size) (PT.new _ HBb.out) (.inr (by decide)) (by rw [wrt_size htot,hxl];rw [List.length_append,List.length_append,hyl,hxl] at htot;omega) hseg2 (fun h=>HFE.out (HER.out _ h)))
   have HT1:=Lib.hid htot
   have HYL:=Lib.hid hyl
   have HXX:=Lib.hid hxl
   clear hseg hseg2 htot hyl hxl hx hxk hdrop
   have HA:Hid (∀ zs s2,eachs P st [x] s'=.ok (zs,s2)→eachs P st (xs.take (q+1)) s1=.ok (ys++zs,s2)):=Lib.hid (fun zs s2 h=>by
    rw [List.take_add_one,HXQ.out]
    show eachs P st (xs.take q++[x]) s1=_
    rw [eachs_append,HE.out]
    (try dsimp only)
    rw [h])
   go_wp2_with fail
   refine hcall.out.mono ?_
   intro e W' he
   cases hrx:runs P st x s' with
   | error f =>
    rw [hrx] at he
    obtain ⟨rfl,h2⟩:=he
    refine ⟨rfl,?_⟩
    rw [HLP.out]
    (try dsimp only)
    rw [HER.out f hrx]
    exact ⟨rfl,HM.out.low.trans h2⟩
   | ok y =>
    obtain ⟨x',s2⟩:=y
    rw [hrx] at he
    obtain ⟨rfl,h2,h3,h4⟩:=he
    have hxl':=runs_len P st hrx
    have hwm:=wrt_mid' HYL.out HT1.out hxl'
    rw [Nat.zero_add] at hwm
    rw [hwm] at h4
    have H2:=Lib.hid h2
    have H3:=Lib.hid (HM.out.off h3 HNW.out)
    have H4:=Lib.hid h4
    have HC4:=Lib.hid (h3.keep HCW.out (.inr HCT.out) hcb)
    have HEN:=Lib.hid (HA.out [x'] s2 (by rw [eachs_one,hrx]))
    clear h2 h3 h4 kc hxl' hrx hwm
    go_wp2
    go_roundw
    case rel=>exact ⟨q+1,ys++[x'],s2,by omega,by go_num,HEN.out,H2.out,H3.out,HC4.out,by rw [List.flatten_append,List.flatten_singleton,List.append_assoc];exact H4.out⟩
    case measure=>simp [intOf];omega
  ·obtain rfl:n=q:=by omega
   have HF:Hid (eachs P st xs s1=.ok (ys,s')):=Lib.hid (by have:=HE.out;rwa [List.take_of_length_le (by rw [HN.out];omega)] at this)
   have HYN:Hid (ys.length=n):=Lib.hid (by
    have:=congrArg List.length (eachs_len P st HF.out)
    rwa [List.length_map,List.length_map,HN.out] at this)
   have HYL:=Lib.hid hyl
   clear hyl
   go_wp2
   go_end0
   rw [HLP.out]
   (try dsimp only)
   rw [HF.out]
   refine ⟨rfl,HS.out,HM.out,some ⟨b,0,none⟩,by rw [HYN.out,← HQ.out];exact HCW.out,fun _=>⟨b,HNW.out,rfl,?_⟩⟩
   have:=HBW.out
   rwa [List.drop_of_length_le (by rw [HN.out];omega),List.flatten_nil,List.append_nil,wrt_full (by rw [HYL.out,HCS.out])] at this
end
end Po
namespace Po
open Go Go.RowKit Go.ChangeShapes
open Tab
def NewRow (n0:Nat) (W:World) (a:Option Addr) (xs:List (List Value)) (T:TypeId):Prop:=xs ≠ []→∃ b,n0≤b∧a=some ⟨b,0,none⟩∧W.heap[b]?=some (.cells xs.flatten.toArray T (0,0))
theorem NewRow.keep {n0 c B:Nat} {W V:World} {a:Option Addr} {xs:List (List Value)} {T:TypeId} (h:NewRow n0 W a xs T) (k:Mv B c W V) (hc:c < n0) (hT:¬ Pt T):NewRow n0 V a xs T:=fun hx=>by
 obtain ⟨b,h1,h2,h3⟩:=h hx
 exact ⟨b,h1,h2,k.keep h3 (.inr hT) (by omega)⟩
theorem NewRow.weak {n0 n1:Nat} {W:World} {a:Option Addr} {xs:List (List Value)} {T:TypeId} (h:NewRow n0 W a xs T) (hn:n1≤n0):NewRow n1 W a xs T:=fun hx=>by
 obtain ⟨b,h1,h2,h3⟩:=h hx
 exact ⟨b,by omega,h2,h3⟩
def rowN (P:PP) (s:P.σ):Except Flt (List (List Value) × P.σ):=listN P 8 [.num 1 7 0] [I 0] s
def grpN (P:PP) (s:P.σ):Except Flt ((List (List Value) × List (List Value)) × P.σ):=match rowN P s with
 | .error f=>.error f
 | .ok (r0,s1)=>match rowN P s1 with
  | .error f=>.error f
  | .ok (r1,s2)=>.ok ((r0,r1),s2)
def slc (a:Option Addr) (xs:List (List Value)):Value:=.slice a xs.length xs.length
def EndsP (P:PP) (R:P.σ→World→Prop) (B c oc:Nat) (ccs:Array Value) (ct:TypeId) (r:Except Flt ((List (List Value) × List (List Value)) × P.σ)) (W:World) (e:Ending) (W':World):Prop:=match r with
 | .ok (g,s')=>e=.returned (.tuple #[])∧R s' W'∧Mv B c W W'∧∃ a0 a1,W'.heap[c]?=some (.cells ((ccs.setIfInBounds oc (slc a0 g.1)).setIfInBounds (oc+1) (slc a1 g.2)) ct (0,0))∧NewRow W.heap.size W' a0 g.1 3∧NewRow W.heap.size W' a1 g.2 3
 | .error f=>e=.panicked [{ v:=fault f,recovered:=false }]∧Below B W W'
section
variable {P:PP} {R:P.σ→World→Prop} {B:Nat} {ok:Nat→Nat × Nat→Prop} {ti:TypeId} {v rv:Value} {FN FF FG:FuncId}
theorem place_each (PT:Port P R B ok ti v rv FN FF FG) (W:World) (s:P.σ) (l:List Value) (b o:Nat) (cs:Array Value) (t:TypeId) (fr:Nat × Nat) (hk:l.map kind=[0]) (hR:R s W) (hB:B≤W.heap.size) (hok:ok b fr) (ht:b < B∨¬ Pt t) (hl:o+l.length≤cs.size) (hb:W.heap[b]?=some (.cells (wrt cs o l) t fr)) (hf:Fit (runs P [.num 1 7 0] l s)) :
  Calls Tryz.prog 93 #[.iface ti v,.pointer (some ⟨b,o,none⟩)] W (Ends P R B b o cs t fr (runs P [.num 1 7 0] l s) W):=by
 obtain ⟨x,hx⟩:=int_at hk (j:=0) rfl
 rw [runs_one] at hf ⊢
 exact place_any PT hR hB hok ht hl hb hx hf
theorem row_any (PT:Port P R B ok ti v rv FN FF FG) (few:∀ s y s1,P.num s 1 8 0=.ok (y,s1)→∃ n:Nat,y=n∧n≤1000) {s:P.σ} {W:World} (hR:R s W) (hB:B≤W.heap.size)
  {c oc:Nat} {ccs:Array Value} {ct:TypeId} (hc:W.heap[c]?=some (.cells ccs ct (0,0))) (hct:¬ Pt ct) (hcB:B≤c) (hca:ccs[oc]?=some (.slice none 0 0)) (hfit:Fit (rowN P s)) :
  Calls Tryz.prog 92 #[.iface ti v,.int .i64 8,.pointer (some ⟨c,oc,none⟩),.func (.func 93) #[] #[]] W (EndsN P R B c oc ccs ct 3 (rowN P s) W) :=
 newI_any PT (fun _ _=>rfl) (Lib.hid (place_each PT)) rfl hR hB (few s) hc hct hcB hca hfit
theorem grp_any (PT:Port P R B ok ti v rv FN FF FG) (few:∀ s y s1,P.num s 1 8 0=.ok (y,s1)→∃ n:Nat,y=n∧n≤1000) {s:P.σ} {W:World} (hR:R s W) (hB:B≤W.heap.size)
  {c oc:Nat} {ccs:Array Value} {ct:TypeId} (hc:W.heap[c]?=some (.cells ccs ct (0,0))) (hct:¬ Pt ct) (hcB:B≤c) (h0:ccs[oc]?=some (.slice none 0 0)) (h1:ccs[oc+1]?=some (.slice none 0 0)) (hfit:Fit (grpN P s)) :
  Calls Tryz.prog 49 #[.iface ti v,.pointer (some ⟨c,oc,none⟩)] W (EndsP P R B c oc ccs ct (grpN P s) W):=by
 have hf0:Fit (rowN P s):=fun h=>hfit (by unfold grpN;rw [h])
 have HC0:=Lib.hid (row_any PT few hR hB hc hct hcB h0 hf0)
 have hcl:=(Array.getElem?_eq_some_iff.1 hc).1
 have HSEC:Hid (∀ r0 s1 V a0,rowN P s=.ok (r0,s1)→R s1 V→Mv B c W V→V.heap[c]?=some (.cells (ccs.setIfInBounds oc (slc a0 r0)) ct (0,0))→Calls Tryz.prog 92 #[.iface ti v,.int .i64 8,.pointer (some ⟨c,oc+1,none⟩),.func (.func 93) #[] #[]] V (EndsN P R B c (oc+1) (ccs.setIfInBounds oc (slc a0 r0)) ct 3 (rowN P s1) V)):=Lib.hid (fun r0 s1 V a0 hr hR1 hm hV=>by
  refine row_any PT few hR1 (Nat.le_trans hB hm.low.size) hV hct hcB ?_ (fun h=>hfit (by unfold grpN;rw [hr];dsimp only;rw [h]))
  rw [Array.getElem?_setIfInBounds,if_neg (by omega)]
  exact h1)
 have HG:Hid (grpN P s=match rowN P s with
 | .error f=>.error f
 | .ok (r0,s1)=>match rowN P s1 with
  | .error f=>.error f
  | .ok (r1,s2)=>.ok ((r0,r1),s2)):=Lib.hid rfl
 have HCT:=Lib.hid hct
 generalize hres:grpN P s=res at HG ⊢
 clear PT few hR hc h0 h1 hfit hf0 hct hres
 go_enter Tryz.func49,Tryz.ntmps49
 go_wp2_with fail
 refine wp_loop_rounds 3 ?_
 rw [rounds_succ]
 go_wp2_with fail
 refine HC0.out.mono ?_
 intro e V he
 cases hr:rowN P s with
 | error f =>
  rw [hr] at he
  obtain ⟨rfl,h2⟩:=he
  refine ⟨rfl,?_⟩
  rw [HG.out,hr]
  exact ⟨rfl,h2⟩
 | ok y =>
 obtain ⟨r0,s1⟩:=y
 rw [hr] at he
 obtain ⟨rfl,hR1,hm1,a0,hV,hn0⟩:=he
 have HS:=Lib.hid (HSEC.out r0 s1 V a0 hr hR1 hm1 hV)
 have HM1:=Lib.hid hm1
 have HN0:Hid (NewRow W.heap.size V a0 r0 3):=Lib.hid hn0
 have HR0:=Lib.hid hr
 clear hR1 hm1 hV hn0 hr HSEC HC0
 go_wp2_with fail
 rw [rounds_succ]
 go_wp2_with fail
 refine HS.out.mono ?_
 intro e V' he
 cases hr:rowN P s1 with
 | error f =>
  rw [hr] at he
  obtain ⟨rfl,h2⟩:=he
  refine ⟨rfl,?_⟩
  rw [HG.out,HR0.out]
  dsimp only
  rw [hr]
  exact ⟨rfl,HM1.out.low.trans h2⟩
 | ok y =>
 obtain ⟨r1,s2⟩:=y
 rw [hr] at he
 obtain ⟨rfl,hR2,hm2,a1,hV2,hn1⟩:=he
 have H2:=Lib.hid hR2
 have HM2:=Lib.hid hm2
 have HV2:=Lib.hid hV2
 have HN1:Hid (NewRow V.heap.size V' a1 r1 3):=Lib.hid hn1
 have HR1:=Lib.hid hr
 clear hR2 hm2 hV2 hn1 hr HS
 go_wp2_with fail
 rw [rounds_succ]
 go_wp2
 go_end0
 rw [HG.out,HR0.out]
 dsimp only
 rw [HR1.out]
 exact ⟨rfl,H2.out,HM1.out.trans HM2.out,a0,a1,HV2.out,HN0.out.keep HM2.out hcl (by decide),HN1.out.weak HM1.out.low.size⟩
end
end Po
end Go.Proofs.YtjdeemmaaiecnaaGreat
