/- 11 texts in one file, in build order. -/
import Derived.Test.YtjdeemmaaiecnaaGreatRows
import Derived.Test.YtjdeemmaaiecnaaGreatPart02
import Derived.Test.YtjdeemmaaiecnaaGreatPart01
import Derived.StillTailTactics
import Derived.BigQuiet
import Derived.Orders
import Derived.Recover
import Derived.Laws.Tables
import Derived.WalkKit
import Derived.ProofKit
import Derived.IntWalk
import Derived.Lib.Hide
import Derived.LoopTactic
import Derived.Below
import Ieee.Arith
import Derived.Laws.FloatBits
import Derived.Laws.FloatArith
import Derived.WalkLawsBesides
set_option linter.unusedVariables false
set_option linter.unusedSimpArgs false
set_option linter.unusedSectionVars false
set_option maxHeartbeats 8000000
set_option maxRecDepth 100000
namespace Go.Proofs.YtjdeemmaaiecnaaGreat
namespace Po
open Go Go.RowKit
open Tab
open Cd (puts phB detB rlB bsB rowB grB listB)
open Put (low lim)
section
variable {w0 V0:World} {wb tb:Nat} {c:Array Value} {l:List Nat} {k:Nat} {W W':World}
theorem lies_block {w:World} {y:Addr} {xs:List Value} (h:Lies w y xs) (hl:0 < xs.length) :
  ∃ (cs:Array Value) (t:TypeId) (fr:Nat × Nat),y.spot=none∧w.heap[y.block]?=some (.cells cs t fr)∧y.off+xs.length≤cs.size∧wrt cs y.off xs=cs:=by
 obtain ⟨b,o,sp⟩:=y
 obtain ⟨u0,hu0⟩:∃ u,xs[0]?=some u:=⟨_,List.getElem?_eq_getElem hl⟩
 have h0:=h 0 u0 hu0
 rw [add_zero] at h0
 unfold World.cell? at h0
 split at h0
 case h_2=>cases h0
 rename_i cs t fr hb
 split at h0
 ·cases h0
 rename_i hsp
 obtain rfl:sp=none:=by cases sp <;> simp_all
 have hc:∀ j u,xs[j]?=some u→cs[o+j]?=some u:=fun j u hu=>by
  have:=h j u hu
  rw [show (⟨b,o,none⟩:Addr).add j=⟨b,o+j,none⟩ by unfold Addr.add;split <;> simp_all] at this
  rwa [cell_of_row _ _ _ _ _ _ hb] at this
 have hsz:o+xs.length≤cs.size:=by
  obtain ⟨m,hm⟩:∃ m,xs.length=m+1:=⟨xs.length - 1,by omega⟩
  obtain ⟨u,hu⟩:∃ u,xs[m]?=some u:=⟨_,List.getElem?_eq_getElem (by omega)⟩
  have:=(Array.getElem?_eq_some_iff.1 (hc m u hu)).1
  omega
 exact ⟨cs,t,fr,rfl,hb,hsz,wrt_same hsz (fun j hj=>by
  obtain ⟨u,hu⟩:∃ u,xs[j]?=some u:=⟨_,List.getElem?_eq_getElem hj⟩
  rw [hc j u hu,hu])⟩
theorem spot_of {w:World} {y:Addr} {xs:List Value} (h:Lies w y xs) (hl:0 < xs.length):y=⟨y.block,y.off,none⟩:=by
 obtain ⟨_,_,_,h1,_⟩:=lies_block h hl
 cases y;simp_all
theorem add_none (b o n:Nat):(⟨b,o,none⟩:Addr).add n=⟨b,o+n,none⟩:=by unfold Addr.add;split <;> simp_all
theorem range_flat {α:Type} (g:α→List Nat) (d:α):∀ xs:List α,(List.range xs.length).flatMap (fun q=>g (xs.getD q d))=xs.flatMap g:=fun xs=>by
 have:(List.range xs.length).map (fun q=>xs.getD q d)=xs:=by
  apply List.ext_getElem?
  intro i
  rw [List.getElem?_map]
  by_cases hi:i < xs.length
  ·rw [List.getElem?_range hi,List.getElem?_eq_getElem hi];simp [List.getD,List.getElem?_eq_getElem hi]
  ·rw [List.getElem?_eq_none (by simpa using hi),List.getElem?_eq_none (by omega)];rfl
 conv=>rhs;rw [← this]
 rw [List.flatMap_map]
theorem wdet (h:Wp w0 V0 wb tb c l (k+7) W) (htb:w0.heap.size≤tb) {b o:Nat} {p:Det} (hl:Lies w0 ⟨b,o,none⟩ p.cells) :
  Calls Tryz.prog 52 #[wif wb,.pointer (some ⟨b,o,none⟩)] W fun e W'=>e=.returned (.tuple #[])∧Wp w0 V0 wb tb c (l++detB p) k W':=by
 obtain ⟨cs,t,fr,_,hb,hsz,hw⟩:=lies_block hl (by show 0 < 7;omega)
 have hlt:=(Array.getElem?_eq_some_iff.1 hb).1
 refine (detector_any wport (l:=p.cells) (cs:=cs) (o:=o) (b:=b) (t:=t) (fr:=fr) (s:=(l,k+7)) rfl h.st h.size trivial (.inl hlt) hsz (by rw [hw,h.low.block b hlt];exact hb) (fit_ok (det_runs p l k))).mono fun e W' he=>?_
 rw [show runs WP detS p.cells (l,k+7)=_ from det_runs p l k] at he
 exact h.of_ends he (by rw [hw,h.low.block b hlt];exact hb)
theorem wrail (h:Wp w0 V0 wb tb c l (k+11) W) (htb:w0.heap.size≤tb) {b o:Nat} {p:Rl} (hl:Lies w0 ⟨b,o,none⟩ p.cells) :
  Calls Tryz.prog 54 #[wif wb,.pointer (some ⟨b,o,none⟩)] W fun e W'=>e=.returned (.tuple #[])∧Wp w0 V0 wb tb c (l++rlB p) k W':=by
 obtain ⟨cs,t,fr,_,hb,hsz,hw⟩:=lies_block hl (by show 0 < 11;omega)
 have hlt:=(Array.getElem?_eq_some_iff.1 hb).1
 refine (rail_any wport (l:=p.cells) (cs:=cs) (o:=o) (b:=b) (t:=t) (fr:=fr) (s:=(l,k+11)) rfl h.st h.size trivial (.inl hlt) hsz (by rw [hw,h.low.block b hlt];exact hb) (fit_ok (rl_runs p l k))).mono fun e W' he=>?_
 rw [show runs WP rlS p.cells (l,k+11)=_ from rl_runs p l k] at he
 exact h.of_ends he (by rw [hw,h.low.block b hlt];exact hb)
theorem wbus (h:Wp w0 V0 wb tb c l (k+2) W) (htb:w0.heap.size≤tb) {b o:Nat} {p:Bs} (hl:Lies w0 ⟨b,o,none⟩ p.cells) :
  Calls Tryz.prog 56 #[wif wb,.pointer (some ⟨b,o,none⟩)] W fun e W'=>e=.returned (.tuple #[])∧Wp w0 V0 wb tb c (l++bsB p) k W':=by
 obtain ⟨cs,t,fr,_,hb,hsz,hw⟩:=lies_block hl (by show 0 < 2;omega)
 have hlt:=(Array.getElem?_eq_some_iff.1 hb).1
 refine (bus_any wport (l:=p.cells) (cs:=cs) (o:=o) (b:=b) (t:=t) (fr:=fr) (s:=(l,k+2)) rfl h.st h.size trivial (.inl hlt) hsz (by rw [hw,h.low.block b hlt];exact hb) (fit_ok (bs_runs p l k))).mono fun e W' he=>?_
 rw [show runs WP bsS p.cells (l,k+2)=_ from bs_runs p l k] at he
 exact h.of_ends he (by rw [hw,h.low.block b hlt];exact hb)
theorem wplace (h:Wp w0 V0 wb tb c l (k+1) W) (htb:w0.heap.size≤tb) {b o:Nat} {x:Int} (hl:Lies w0 ⟨b,o,none⟩ [I x]) :
  Calls Tryz.prog 93 #[wif wb,.pointer (some ⟨b,o,none⟩)] W fun e W'=>e=.returned (.tuple #[])∧Wp w0 V0 wb tb c (l++low 1 x) k W':=by
 obtain ⟨cs,t,fr,_,hb,hsz,hw⟩:=lies_block hl (by simp)
 have hlt:=(Array.getElem?_eq_some_iff.1 hb).1
 have hr:=runs_num (L:=[I x]) (size:=1) (most:=7) (j:=0) rfl l k
 have:=place_any wport (l:=[I x]) (cs:=cs) (o:=o) (b:=b) (j:=0) (t:=t) (fr:=fr) (s:=(l,k+1)) h.st h.size trivial (.inl hlt) hsz (by rw [hw,h.low.block b hlt];exact hb) rfl (fit_ok hr)
 refine this.mono fun e W' he=>?_
 rw [hr] at he
 exact h.of_ends he (by rw [hw,h.low.block b hlt];exact hb)
theorem wdets {s:Sl} {xs:List Det} {n cb oc:Nat} (most:Int) (hn:xs.length=n) (h:Wp w0 V0 wb tb c l (k+(1+n*7)) W) (htb:w0.heap.size≤tb) (hr:RowOf 7 Det.cells w0 s xs) (hx:n≤1000)
  (HC:Hid (∀ l k V,Wp w0 V0 wb tb c l k V→V.cell? ⟨cb,oc,none⟩=some (.slice s.a n s.cap))) :
  Calls Tryz.prog 51 #[wif wb,.int .i64 most,.pointer (some ⟨cb,oc,none⟩),.func (.func 52) #[] #[]] W fun e W'=>e=.returned (.tuple #[])∧Wp w0 V0 wb tb c (l++listB detB xs) k W':=by
 subst hn
 obtain ⟨b,o,hbo⟩:∃ b o,0 < xs.length→s.a=some ⟨b,o,none⟩:=by
  by_cases h0:0 < xs.length
  ·obtain ⟨x,hx,hl⟩:=hr.at (List.getElem?_eq_getElem h0)
   rw [Nat.zero_mul,add_zero] at hl
   exact ⟨x.block,x.off,fun _=>by rw [hx,← spot_of hl (by simp [Det.cells])]⟩
  ·exact ⟨0,0,fun h1=>absurd h1 h0⟩
 have:=wlD (F:=52) (fun _ _=>rfl) (E:=7) (gy:=fun q=>detB (xs.getD q default)) (n:=xs.length) (cap:=s.cap) (cb:=cb) (oc:=oc) (a:=s.a) (b:=b) (o:=o) most h hx HC (Lib.hid hbo) (Lib.hid (fun q hq l k V hV=>by
  obtain ⟨x,hx,hl⟩:=hr.at (List.getElem?_eq_getElem hq)
  rw [hbo (by omega)] at hx
  obtain rfl:=Option.some.inj hx
  rw [add_none] at hl
  rw [show xs.getD q default=xs[q] by simp [List.getD,List.getElem?_eq_getElem hq]]
  exact wdet hV htb (by first | exact hl | simpa using hl)))
 refine this.mono fun e W' he=>?_
 rw [range_flat detB default xs] at he
 exact he
theorem wrails {s:Sl} {xs:List Rl} {n cb oc:Nat} (most:Int) (hn:xs.length=n) (h:Wp w0 V0 wb tb c l (k+(1+n*11)) W) (htb:w0.heap.size≤tb) (hr:RowOf 11 Rl.cells w0 s xs) (hx:n≤1000)
  (HC:Hid (∀ l k V,Wp w0 V0 wb tb c l k V→V.cell? ⟨cb,oc,none⟩=some (.slice s.a n s.cap))) :
  Calls Tryz.prog 53 #[wif wb,.int .i64 most,.pointer (some ⟨cb,oc,none⟩),.func (.func 54) #[] #[]] W fun e W'=>e=.returned (.tuple #[])∧Wp w0 V0 wb tb c (l++listB rlB xs) k W':=by
 subst hn
 obtain ⟨b,o,hbo⟩:∃ b o,0 < xs.length→s.a=some ⟨b,o,none⟩:=by
  by_cases h0:0 < xs.length
  ·obtain ⟨x,hx,hl⟩:=hr.at (List.getElem?_eq_getElem h0)
   rw [Nat.zero_mul,add_zero] at hl
   exact ⟨x.block,x.off,fun _=>by rw [hx,← spot_of hl (by simp [Rl.cells])]⟩
  ·exact ⟨0,0,fun h1=>absurd h1 h0⟩
 have:=wlR (F:=54) (fun _ _=>rfl) (E:=11) (gy:=fun q=>rlB (xs.getD q default)) (n:=xs.length) (cap:=s.cap) (cb:=cb) (oc:=oc) (a:=s.a) (b:=b) (o:=o) most h hx HC (Lib.hid hbo) (Lib.hid (fun q hq l k V hV=>by
  obtain ⟨x,hx,hl⟩:=hr.at (List.getElem?_eq_getElem hq)
  rw [hbo (by omega)] at hx
  obtain rfl:=Option.some.inj hx
  rw [add_none] at hl
  rw [show xs.getD q default=xs[q] by simp [List.getD,List.getElem?_eq_getElem hq]]
  exact wrail hV htb (by first | exact hl | simpa using hl)))
 refine this.mono fun e W' he=>?_
 rw [range_flat rlB default xs] at he
 exact he
theorem wbuses {s:Sl} {xs:List Bs} {n cb oc:Nat} (most:Int) (hn:xs.length=n) (h:Wp w0 V0 wb tb c l (k+(1+n*2)) W) (htb:w0.heap.size≤tb) (hr:RowOf 2 Bs.cells w0 s xs) (hx:n≤1000)
  (HC:Hid (∀ l k V,Wp w0 V0 wb tb c l k V→V.cell? ⟨cb,oc,none⟩=some (.slice s.a n s.cap))) :
  Calls Tryz.prog 55 #[wif wb,.int .i64 most,.pointer (some ⟨cb,oc,none⟩),.func (.func 56) #[] #[]] W fun e W'=>e=.returned (.tuple #[])∧Wp w0 V0 wb tb c (l++listB bsB xs) k W':=by
 subst hn
 obtain ⟨b,o,hbo⟩:∃ b o,0 < xs.length→s.a=some ⟨b,o,none⟩:=by
  by_cases h0:0 < xs.length
  ·obtain ⟨x,hx,hl⟩:=hr.at (List.getElem?_eq_getElem h0)
   rw [Nat.zero_mul,add_zero] at hl
   exact ⟨x.block,x.off,fun _=>by rw [hx,← spot_of hl (by simp [Bs.cells])]⟩
  ·exact ⟨0,0,fun h1=>absurd h1 h0⟩
 have:=wlS (F:=56) (fun _ _=>rfl) (E:=2) (gy:=fun q=>bsB (xs.getD q default)) (n:=xs.length) (cap:=s.cap) (cb:=cb) (oc:=oc) (a:=s.a) (b:=b) (o:=o) most h hx HC (Lib.hid hbo) (Lib.hid (fun q hq l k V hV=>by
  obtain ⟨x,hx,hl⟩:=hr.at (List.getElem?_eq_getElem hq)
  rw [hbo (by omega)] at hx
  obtain rfl:=Option.some.inj hx
  rw [add_none] at hl
  rw [show xs.getD q default=xs[q] by simp [List.getD,List.getElem?_eq_getElem hq]]
  exact wbus hV htb (by first | exact hl | simpa using hl)))
 refine this.mono fun e W' he=>?_
 rw [range_flat bsB default xs] at he
 exact he
theorem wints {s:Sl} {xs:List Int} {n cb oc:Nat} (most:Int) (hn:xs.length=n) (h:Wp w0 V0 wb tb c l (k+(1+n*1)) W) (htb:w0.heap.size≤tb) (hr:RowOf 1 (fun n=>[I n]) w0 s xs) (hx:n≤1000)
  (HC:Hid (∀ l k V,Wp w0 V0 wb tb c l k V→V.cell? ⟨cb,oc,none⟩=some (.slice s.a n s.cap))) :
  Calls Tryz.prog 92 #[wif wb,.int .i64 most,.pointer (some ⟨cb,oc,none⟩),.func (.func 93) #[] #[]] W fun e W'=>e=.returned (.tuple #[])∧Wp w0 V0 wb tb c (l++rowB xs) k W':=by
 subst hn
 obtain ⟨b,o,hbo⟩:∃ b o,0 < xs.length→s.a=some ⟨b,o,none⟩:=by
  by_cases h0:0 < xs.length
  ·obtain ⟨x,hx,hl⟩:=hr.at (List.getElem?_eq_getElem h0)
   rw [Nat.zero_mul,add_zero] at hl
   exact ⟨x.block,x.off,fun _=>by rw [hx,← spot_of hl (by simp [List.length_singleton])]⟩
  ·exact ⟨0,0,fun h1=>absurd h1 h0⟩
 have:=wlI (F:=93) (fun _ _=>rfl) (E:=1) (gy:=fun q=>(low 1) (xs.getD q 0)) (n:=xs.length) (cap:=s.cap) (cb:=cb) (oc:=oc) (a:=s.a) (b:=b) (o:=o) most h hx HC (Lib.hid hbo) (Lib.hid (fun q hq l k V hV=>by
  obtain ⟨x,hx,hl⟩:=hr.at (List.getElem?_eq_getElem hq)
  rw [hbo (by omega)] at hx
  obtain rfl:=Option.some.inj hx
  rw [add_none] at hl
  rw [show xs.getD q 0=xs[q] by simp [List.getD,List.getElem?_eq_getElem hq]]
  exact wplace hV htb (by first | exact hl | simpa using hl)))
 refine this.mono fun e W' he=>?_
 rw [range_flat (low 1) 0 xs] at he
 exact he
end
end Po
namespace Po
open Go Go.RowKit
open Tab
open Cd (puts phB detB rlB bsB rowB grB listB)
open Put (low lim)
section
variable {w0 V0:World} {wb tb:Nat} {c:Array Value} {l:List Nat} {k:Nat} {W W':World}
def zGr:Gr:=⟨[],[],⟨none,0⟩,⟨none,0⟩⟩
def gRow (g:Gr) (q:Nat):List Int:=if q=0 then g.r0 else g.r1
theorem wgroup (h:Wp w0 V0 wb tb c l (k+18) W) (htb:w0.heap.size≤tb) {b o:Nat} {g:Gr} (hl:Lies w0 ⟨b,o,none⟩ g.cells) (hok:g.ok w0) (h0:g.r0.length≤8) (h1:g.r1.length≤8) :
  Calls Tryz.prog 49 #[wif wb,.pointer (some ⟨b,o,none⟩)] W fun e W'=>e=.returned (.tuple #[])∧Wp w0 V0 wb tb c (l++grB g.data) k W':=by
 have RC:Hid (∀ q:Nat,q < 2→∀ l k V,Wp w0 V0 wb tb c l (k+9) V→Calls Tryz.prog 92 #[wif wb,.int .i64 8,.pointer (some ⟨b,o+q,none⟩),.func (.func 93) #[] #[]] V fun e V'=>e=.returned (.tuple #[])∧Wp w0 V0 wb tb c (l++rowB (gRow g q)) k V'):=Lib.hid (fun q hq l k V hV=>by
  have hcell:∀ (s:Sl) (n:Nat),g.cells[q]?=some (s.val n)→∀ l k V,Wp w0 V0 wb tb c l k V→V.cell? ⟨b,o+q,none⟩=some (.slice s.a n s.cap):=fun s n hs l k V hV=>by
   have hc:=hl q _ hs
   rw [add_none] at hc
   exact (hV.low.cell (World.block_lt_of_cell? w0 _ hc)).trans hc
  rcases (show q=0∨q=1 by omega) with rfl | rfl
  ·have:=wints 8 rfl (hV.less (k':=k+(1+g.r0.length*1)) (by omega)) htb hok.1 (by omega) (Lib.hid (hcell g.s0 g.r0.length rfl))
   exact this
  ·have:=wints 8 rfl (hV.less (k':=k+(1+g.r1.length*1)) (by omega)) htb hok.2 (by omega) (Lib.hid (hcell g.s1 g.r1.length rfl))
   exact this)
 have H:=Lib.hid h
 clear h hl hok h0 h1
 go_enter Tryz.func49,Tryz.ntmps49
 go_wp2_with fail
 go_loopw [5] (fun i wr=>∃ q:Nat,q≤2∧i=.int .i64 (q:Int)∧Wp w0 V0 wb tb c (l++(List.range q).flatMap (fun q=>rowB (gRow g q))) (k+(2 - q)*9) wr) (fun i _=>2 - (intOf i).toNat)
 case atStart=>exact ⟨0,by omega,rfl,by have:=H.out;simpa using this⟩
 case round =>
  obtain ⟨q,hq,rfl,hw⟩:=hrel
  have HW:=Lib.hid hw
  clear hw H
  by_cases hlt:q < 2
  ·have hcall:=Lib.hid (RC.out q hlt _ (k+(2 - (q+1))*9) wr (by
    have:=HW.out
    rw [show 2 - q=2 - (q+1)+1 by omega,Nat.add_mul,Nat.one_mul,← Nat.add_assoc] at this
    exact this))
   go_wp2_with fail
   refine hcall.out.mono ?_
   rintro e W' ⟨rfl,h3⟩
   have H3:=Lib.hid h3
   clear h3
   go_wp2
   go_roundw
   case rel=>exact ⟨q+1,by omega,by go_num,by have:=H3.out;rw [List.range_succ,List.flatMap_append,List.flatMap_singleton];simpa only [List.append_assoc] using this⟩
   case measure=>simp [intOf];omega
  ·obtain rfl:q=2:=by omega
   go_wp2
   go_end0
   exact ⟨rfl,by have:=HW.out.less (k':=k) (by omega);rw [show (List.range 2).flatMap (fun q=>rowB (gRow g q))=grB g.data from by simp [show List.range 2=[0,1] from rfl,grB,gRow,Gr.data]] at this;exact this⟩
theorem wgroups {s:Sl} {gs:List Gr} {n cb oc:Nat} (most:Int) (hn:gs.length=n) (h:Wp w0 V0 wb tb c l (k+(1+n*18)) W) (htb:w0.heap.size≤tb) (hr:GroupsLie w0 s gs) (h8:∀ g ∈ gs,g.r0.length≤8∧g.r1.length≤8) (hx:n≤1000)
  (HC:Hid (∀ l k V,Wp w0 V0 wb tb c l k V→V.cell? ⟨cb,oc,none⟩=some (.slice s.a n s.cap))) :
  Calls Tryz.prog 48 #[wif wb,.int .i64 most,.pointer (some ⟨cb,oc,none⟩),.func (.func 49) #[] #[]] W fun e W'=>e=.returned (.tuple #[])∧Wp w0 V0 wb tb c (l++listB grB (gs.map Gr.data)) k W':=by
 subst hn
 obtain ⟨b,o,hbo⟩:∃ b o,0 < gs.length→s.a=some ⟨b,o,none⟩:=by
  by_cases h0:0 < gs.length
  ·obtain ⟨x,hx,hl⟩:=hr.1.at (List.getElem?_eq_getElem h0)
   rw [Nat.zero_mul,add_zero] at hl
   exact ⟨x.block,x.off,fun _=>by rw [hx,← spot_of hl (by simp [Gr.cells])]⟩
  ·exact ⟨0,0,fun h1=>absurd h1 h0⟩
 have:=wlG (F:=49) (fun _ _=>rfl) (E:=18) (gy:=fun q=>grB (gs.getD q zGr).data) (n:=gs.length) (cap:=s.cap) (cb:=cb) (oc:=oc) (a:=s.a) (b:=b) (o:=o) most h hx HC (Lib.hid hbo) (Lib.hid (fun q hq l k V hV=>by
  obtain ⟨x,hx,hl⟩:=hr.1.at (List.getElem?_eq_getElem hq)
  rw [hbo (by omega)] at hx
  obtain rfl:=Option.some.inj hx
  rw [add_none] at hl
  rw [show gs.getD q zGr=gs[q] by simp [List.getD,List.getElem?_eq_getElem hq]]
  have hm:=List.getElem_mem hq
  exact wgroup hV htb hl (hr.2 _ hm) (h8 _ hm).1 (h8 _ hm).2))
 refine this.mono fun e W' he=>?_
 rw [range_flat (fun g:Gr=>grB g.data) zGr gs] at he
 unfold listB
 rw [List.length_map,List.flatMap_map]
 exact he
end
end Po
namespace Po
open Go Go.RowKit
open Tab
open Cd (puts phB detB rlB bsB rowB grB listB)
open Put (low lim)
section
variable {w0 V0:World} {wb tb:Nat} {c:Array Value} {l:List Nat} {k:Nat} {W W':World}
def stepsT (T:Tab):Nat:=8*13+((1+T.groups.length*18)+(8+((1+T.dets.length*7)+((1+T.rails.length*11)+((1+T.buses.length*2)+(5+(8+2)))))))
structure Light (T:Tab):Prop where
 g:T.groups.length≤1000
 d:T.dets.length≤1000
 r:T.rails.length≤1000
 b:T.buses.length≤1000
 row:∀ y ∈ T.groups,y.1.length≤8∧y.2.length≤8
theorem take_at {xs ys:List Value} {n o:Nat} (h:(xs.drop o).take n=ys) (hl:ys.length=n) {j:Nat} (hj:j < n):xs[o+j]?=ys[j]?:=by
 rw [← h,List.getElem?_take,if_pos hj,List.getElem?_drop]
theorem wpass {T:Tab} {hd:Hd} (ht:IsTab w0 hd T) (lt:Light T) (h:Wp w0 V0 wb tb (T.cells hd).toArray l (k+stepsT T) W) (htb:w0.heap.size≤tb) :
  Calls Tryz.prog 20 #[wif wb,.pointer (some ⟨tb,0,none⟩)] W fun e W'=>e=.returned (.tuple #[])∧Wp w0 V0 wb tb (T.cells hd).toArray (l++Cd.itemsB T) k W':=by
 have C:=cells_ok ht
 have hsz:=C.size
 generalize hcc:(T.cells hd).toArray=c at C h hsz ⊢
 obtain ⟨gs,hgd,hgl⟩:=ht.groups
 have hgn:gs.length=T.groups.length:=by rw [← hgd,List.length_map]
 have PHC:Hid (∀ q:Nat,q < 8→∀ l k V,Wp w0 V0 wb tb c l (k+13) V→Calls Tryz.prog 47 #[wif wb,.pointer (some ⟨tb,q*13,none⟩)] V fun e V'=>e=.returned (.tuple #[])∧Wp w0 V0 wb tb c (l++phB (T.phases.getD q default)) k V'):=Lib.hid (fun q hq l k V hV=>by
  have hp:=C.phase q _ (List.getElem?_eq_getElem (by rw [ht.ph];exact hq))
  rw [Nat.mul_comm] at hp
  rw [show T.phases.getD q default=T.phases[q]'(by rw [ht.ph];exact hq) by simp [List.getD,List.getElem?_eq_getElem (show q < T.phases.length by rw [ht.ph];exact hq)]]
  refine wphase hV _ (wrt_same (by show q*13+13≤_;omega) (fun j hj=>?_)) (by show q*13+13≤_;omega)
  rw [← Array.getElem?_toList]
  exact take_at hp rfl hj)
 have CELL:∀ (oc:Nat) (s:Sl) (n:Nat),c[oc]?=some (s.val n)→Hid (∀ l k V,Wp w0 V0 wb tb c l k V→V.cell? ⟨tb,oc,none⟩=some (.slice s.a n s.cap)):=fun oc s n hs=>Lib.hid (fun l k V hV=>by rw [cell_of_row _ _ _ _ _ _ hV.box];exact hs)
 have GRC:Hid (∀ l k V,Wp w0 V0 wb tb c l (k+(1+T.groups.length*18)) V→Calls Tryz.prog 48 #[wif wb,.int .i64 4,.pointer (some ⟨tb,104,none⟩),.func (.func 49) #[] #[]] V fun e V'=>e=.returned (.tuple #[])∧Wp w0 V0 wb tb c (l++listB grB T.groups) k V'):=Lib.hid (fun l k V hV=>by
  have:=wgroups 4 hgn hV htb hgl (fun g hg=>lt.row g.data (by rw [← hgd];exact List.mem_map_of_mem hg)) lt.g (CELL 104 hd.g T.groups.length C.g)
  rwa [hgd] at this)
 have DTC:Hid (∀ l k V,Wp w0 V0 wb tb c l (k+(1+T.dets.length*7)) V→Calls Tryz.prog 51 #[wif wb,.int .i64 16,.pointer (some ⟨tb,113,none⟩),.func (.func 52) #[] #[]] V fun e V'=>e=.returned (.tuple #[])∧Wp w0 V0 wb tb c (l++listB detB T.dets) k V'):=Lib.hid (fun l k V hV=>wdets 16 rfl hV htb ht.dets lt.d (CELL 113 hd.d T.dets.length C.d))
 have RLC:Hid (∀ l k V,Wp w0 V0 wb tb c l (k+(1+T.rails.length*11)) V→Calls Tryz.prog 53 #[wif wb,.int .i64 4,.pointer (some ⟨tb,114,none⟩),.func (.func 54) #[] #[]] V fun e V'=>e=.returned (.tuple #[])∧Wp w0 V0 wb tb c (l++listB rlB T.rails) k V'):=Lib.hid (fun l k V hV=>wrails 4 rfl hV htb ht.rails lt.r (CELL 114 hd.r T.rails.length C.r))
 have BSC:Hid (∀ l k V,Wp w0 V0 wb tb c l (k+(1+T.buses.length*2)) V→Calls Tryz.prog 55 #[wif wb,.int .i64 4,.pointer (some ⟨tb,115,none⟩),.func (.func 56) #[] #[]] V fun e V'=>e=.returned (.tuple #[])∧Wp w0 V0 wb tb c (l++listB bsB T.buses) k V'):=Lib.hid (fun l k V hV=>wbuses 4 rfl hV htb ht.buses lt.b (CELL 115 hd.b T.buses.length C.b))
 have SEC:Hid (∀ q:Nat,q < 8→∀ l k V,Wp w0 V0 wb tb c l (k+1) V→Calls Tryz.prog 50 #[wif wb,.slice (some ⟨V.heap.size,0,none⟩) 1 1] (V.alloc (.cells #[.pointer (some ⟨tb,105+q,none⟩)] 105)) fun e V'=>e=.returned (.tuple #[])∧Wp w0 V0 wb tb c (l++puts 1 [T.conflict.getD q 0]) k V'):=Lib.hid (fun q hq l k V hV=>by
  have hx:c[105+q]?=some (I (T.conflict.getD q 0)):=by
   rw [← Array.getElem?_toList,take_at C.conflict (by rw [List.length_map,ht.cf]) hq,List.getElem?_map,List.getElem?_eq_getElem (by rw [ht.cf];exact hq)]
   simp [List.getD,List.getElem?_eq_getElem (show q < T.conflict.length by rw [ht.cf];exact hq)]
  exact wsets (hV.mem ((Below.refl _ _).alloc (Nat.le_refl _) _)) [(105+q,T.conflict.getD q 0)] rfl (by omega) (by simpa using hx) (heap_alloc_new V _) (Nat.le_refl _))
 have FLC:Hid (∀ q:Nat,q < 8→∀ l k V,Wp w0 V0 wb tb c l (k+1) V→Calls Tryz.prog 158 #[wrv wb,.int .i64 1,.int .i64 2,.pointer (some ⟨tb,121+q,none⟩)] V fun e V'=>e=.returned (.tuple #[])∧Wp w0 V0 wb tb c (l++puts 1 [T.flash.getD q 0]) k V'):=Lib.hid (fun q hq l k V hV=>by
  have hx:c[121+q]?=some (I (T.flash.getD q 0)):=by
   rw [← Array.getElem?_toList,take_at C.flash (by rw [List.length_map,ht.fl]) hq,List.getElem?_map,List.getElem?_eq_getElem (by rw [ht.fl];exact hq)]
   simp [List.getD,List.getElem?_eq_getElem (show q < T.flash.length by rw [ht.fl];exact hq)]
  have:=wnum hV 1 2 hx
  refine this.mono fun e W' he=>⟨he.1,?_⟩
  rw [show puts 1 [T.flash.getD q 0]=low (lim 1 8) (T.flash.getD q 0) by simp [puts,show lim 1 8=1 from rfl]]
  exact he.2)
 have TMC:Hid (∀ l k V,Wp w0 V0 wb tb c l (k+5) V→Calls Tryz.prog 57 #[wif wb,.slice (some ⟨V.heap.size,0,none⟩) 5 5] (V.alloc (.cells #[.pointer (some ⟨tb,116,none⟩),.pointer (some ⟨tb,117,none⟩),.pointer (some ⟨tb,118,none⟩),.pointer (some ⟨tb,119,none⟩),.pointer (some ⟨tb,120,none⟩)] 105)) fun e V'=>e=.returned (.tuple #[])∧Wp w0 V0 wb tb c (l++puts 2 [T.extend,T.budget,T.start,T.revert,T.least]) k V'):=Lib.hid (fun l k V hV =>
  wtimes (hV.mem ((Below.refl _ _).alloc (Nat.le_refl _) _)) [(116,T.extend),(117,T.budget),(118,T.start),(119,T.revert),(120,T.least)] rfl (by omega) (by simp [C.extend,C.budget,C.start,C.revert,C.least]) (heap_alloc_new V _) (Nat.le_refl _))
 have TKC:Hid (∀ l k V,Wp w0 V0 wb tb c l (k+2) V→Calls Tryz.prog 58 #[wif wb,.slice (some ⟨V.heap.size,0,none⟩) 2 2] (V.alloc (.cells #[.pointer (some ⟨tb,129,none⟩),.pointer (some ⟨tb,130,none⟩)] 105)) fun e V'=>e=.returned (.tuple #[])∧Wp w0 V0 wb tb c (l++puts 4 [T.window,T.share]) k V'):=Lib.hid (fun l k V hV =>
  wticks (hV.mem ((Below.refl _ _).alloc (Nat.le_refl _) _)) [(129,T.window),(130,T.share)] rfl (by omega) (by simp [C.window,C.share]) (heap_alloc_new V _) (Nat.le_refl _))
 have hm:=(wport (B:=0) (wb:=wb)).mn
 have na:=(wport (B:=0) (wb:=wb)).nn
 have en:=(wport (B:=0) (wb:=wb)).en
 have hmf:∀ (nm:String) (w:World),(Instr.makeFunc (.method nm) #[wif wb] #[]).run Tryz.prog w=.ok (.func (.method nm) #[wif wb] #[]) w:=fun _ _=>rfl
 have PL8:Hid (T.phases.length=8):=Lib.hid ht.ph
 have CL8:Hid (T.conflict.length=8):=Lib.hid ht.cf
 have FL8:Hid (T.flash.length=8):=Lib.hid ht.fl
 have RES:Hid (Cd.itemsB T=T.phases.flatMap phB++(listB grB T.groups++(puts 1 T.conflict++(listB detB T.dets++(listB rlB T.rails++(listB bsB T.buses++(puts 2 [T.extend,T.budget,T.start,T.revert,T.least]++(puts 1 T.flash++puts 4 [T.window,T.share])))))))):=Lib.hid rfl
 unfold stepsT at h
 generalize Cd.itemsB T=res at RES ⊢
 generalize 1+T.groups.length*18=nG at GRC h
 generalize 1+T.dets.length*7=nD at DTC h
 generalize 1+T.rails.length*11=nR at RLC h
 generalize 1+T.buses.length*2=nS at BSC h
 have H:=Lib.hid h
 clear h C hsz hgl hgd hgn lt ht CELL
 go_enter Tryz.func20,Tryz.ntmps20
 go_wp2_with fail
 go_loopw [7] (fun i wr=>∃ q:Nat,q≤8∧i=.int .i64 (q:Int)∧Wp w0 V0 wb tb c (l++(List.range q).flatMap (fun q=>phB (T.phases.getD q default))) (k+((8 - q)*13+(nG+(8+(nD+(nR+(nS+(5+(8+2)))))))) ) wr) (fun i _=>8 - (intOf i).toNat)
 case atStart=>exact ⟨0,by omega,rfl,by have:=H.out;simpa using this⟩
 case round =>
  obtain ⟨q,hq,rfl,hw⟩:=hrel
  have HW:=Lib.hid hw
  clear hw H
  by_cases hlt:q < 8
  ·have hcall:=Lib.hid (PHC.out q hlt _ (k+((8 - (q+1))*13+(nG+(8+(nD+(nR+(nS+(5+(8+2))))))))) wr (by
    have:=HW.out
    rw [show 8 - q=8 - (q+1)+1 by omega] at this
    refine this.less (by omega)))
   go_wp2_with fail
   refine hcall.out.mono ?_
   rintro e W' ⟨rfl,h3⟩
   have H3:=Lib.hid h3
   clear h3
   go_wp2
   go_roundw
   case rel=>exact ⟨q+1,by omega,by go_num,by have:=H3.out;rw [List.range_succ,List.flatMap_append,List.flatMap_singleton];simpa only [List.append_assoc] using this⟩
   case measure=>simp [intOf];omega
  ·obtain rfl:q=8:=by omega
   have H1:Hid (Wp w0 V0 wb tb c (l++T.phases.flatMap phB) (k+(8+(nD+(nR+(nS+(5+(8+2))))))+nG) wr):=Lib.hid (by
    have:=HW.out
    rw [show (List.range 8).flatMap (fun q=>phB (T.phases.getD q default))=T.phases.flatMap phB from by rw [← PL8.out];exact range_flat phB default T.phases] at this
    exact this.less (by omega))
   clear HW PHC
   have hcall:=Lib.hid (GRC.out _ _ wr H1.out)
   go_wp2_with fail
   refine hcall.out.mono ?_
   rintro e W1 ⟨rfl,h3⟩
   obtain ⟨L2,hL2⟩:∃ x,x=l++T.phases.flatMap phB++listB grB T.groups:=⟨_,rfl⟩
   rw [← hL2] at h3
   have H2:=Lib.hid h3
   have EL2:=Lib.hid hL2
   clear h3 hcall H1 GRC hL2
   go_wp2_with fail
   go_loopw [23] (fun i wr=>∃ q:Nat,q≤8∧i=.int .i64 (q:Int)∧Wp w0 V0 wb tb c (L2++(List.range q).flatMap (fun q=>puts 1 [T.conflict.getD q 0])) (k+((8 - q)*1+(nD+(nR+(nS+(5+(8+2))))))) wr) (fun i _=>8 - (intOf i).toNat)
   case atStart=>exact ⟨0,by omega,rfl,by have:=H2.out.less (k':=k+(8+(nD+(nR+(nS+(5+(8+2))))))) (by omega);simpa using this⟩
   case round =>
    obtain ⟨q,hq,rfl,hw⟩:=hrel
    have HW:=Lib.hid hw
    clear hw H2
    by_cases hlt:q < 8
    ·have hcall:=Lib.hid (SEC.out q hlt _ (k+((8 - (q+1))*1+(nD+(nR+(nS+(5+(8+2))))))) wr (by
      have:=HW.out
      rw [show 8 - q=8 - (q+1)+1 by omega] at this
      refine this.less (by omega)))
     go_wp2_with fail
     refine hcall.out.mono ?_
     rintro e W' ⟨rfl,h3⟩
     have H3:=Lib.hid h3
     clear h3
     go_wp2
     go_roundw
     case rel=>exact ⟨q+1,by omega,by go_num,by have:=H3.out;rw [List.range_succ,List.flatMap_append,List.flatMap_singleton];simpa only [List.append_assoc] using this⟩
     case measure=>simp [intOf];omega
    ·obtain rfl:q=8:=by omega
     obtain ⟨L3,hL3⟩:∃ x,x=L2++puts 1 T.conflict:=⟨_,rfl⟩
     have H3:Hid (Wp w0 V0 wb tb c L3 (k+(nR+(nS+(5+(8+2))))+nD) wr):=Lib.hid (by
      have:=HW.out
      rw [show (List.range 8).flatMap (fun q=>puts 1 [T.conflict.getD q 0])=puts 1 T.conflict from by rw [← CL8.out,range_flat (fun x:Int=>puts 1 [x]) 0 T.conflict];simp [puts]] at this
      rw [hL3]
      exact this.less (by omega))
     have EL3:=Lib.hid hL3
     clear HW SEC hL3
     have hcall:=Lib.hid (DTC.out _ _ wr H3.out)
     go_wp2_with fail
     refine hcall.out.mono ?_
     rintro e W1 ⟨rfl,h3⟩
     obtain ⟨L4,hL4⟩:∃ x,x=L3++listB detB T.dets:=⟨_,rfl⟩
     rw [← hL4] at h3
     have EL4:=Lib.hid hL4
     have hcall2:=Lib.hid (RLC.out _ (k+(nS+(5+(8+2)))) W1 (h3.less (by omega)))
     clear h3 hcall H3 DTC hL4
     go_wp2_with fail
     refine hcall2.out.mono ?_
     rintro e W2 ⟨rfl,h3⟩
     obtain ⟨L5,hL5⟩:∃ x,x=L4++listB rlB T.rails:=⟨_,rfl⟩
     rw [← hL5] at h3
     have EL5:=Lib.hid hL5
     have hcall3:=Lib.hid (BSC.out _ (k+(5+(8+2))) W2 (h3.less (by omega)))
     clear h3 hcall2 RLC hL5
     go_wp2_with fail
     refine hcall3.out.mono ?_
     rintro e W3 ⟨rfl,h3⟩
     obtain ⟨L6,hL6⟩:∃ x,x=L5++listB bsB T.buses:=⟨_,rfl⟩
     rw [← hL6] at h3
     have EL6:=Lib.hid hL6
     have H6:=Lib.hid h3
     clear h3 hcall3 BSC hL6
     go_upto_region 14 with fail
     refine QT.region1 W3.heap.size 16 (by kernel_rfl) (by kernel_rfl) (by kernel_rfl) (by kernel_rfl) (v:=wif wb) (fun _ _ _ h=>h) (Or.inl ⟨by rfl,fun w'=>by go_simp;try rfl⟩) ?_
     dsimp only [Act.put]
     simp only [List.setIfInBounds_toArray,List.set_cons_zero,List.set_cons_succ,List.take_succ_cons,List.take_zero,List.drop_succ_cons,List.drop_zero]
     repeat (quiet_step (fail))
     refine wpQuiet_nil ?_
     intro _ hw'
     obtain ⟨p,rfl⟩:=hw'
     have HV:=Lib.hid (H6.out.mem p.below)
     clear H6
     generalize p.world=V at HV ⊢
     (try simp only [List.drop_succ_cons,List.drop_zero])
     have hcall:=Lib.hid (TMC.out _ (k+(8+2)) V (HV.out.less (by omega)))
     clear HV
     go_wp2_with fail
     refine hcall.out.mono ?_
     rintro e W4 ⟨rfl,h3⟩
     obtain ⟨L7,hL7⟩:∃ x,x=L6++puts 2 [T.extend,T.budget,T.start,T.revert,T.least]:=⟨_,rfl⟩
     rw [← hL7] at h3
     have EL7:=Lib.hid hL7
     have H7:=Lib.hid h3
     clear h3 hcall TMC hL7
     go_wp2_with fail
     go_loopw [68] (fun i wr=>∃ q:Nat,q≤8∧i=.int .i64 (q:Int)∧Wp w0 V0 wb tb c (L7++(List.range q).flatMap (fun q=>puts 1 [T.flash.getD q 0])) (k+((8 - q)*1+2)) wr) (fun i _=>8 - (intOf i).toNat)
     case atStart=>exact ⟨0,by omega,rfl,by have:=H7.out.less (k':=k+(8+2)) (by omega);simpa using this⟩
     case round =>
      obtain ⟨q,hq,rfl,hw⟩:=hrel
      have HW:=Lib.hid hw
      clear hw H7
      by_cases hlt:q < 8
      ·go_upto_region 18 with fail
       refine QB.region_tail 9 (by kernel_rfl) (by kernel_rfl) ?_
       have hcall:=Lib.hid (FLC.out q hlt _ (k+((8 - (q+1))*1+2)) wr.drew (by
        have:=HW.out.mem ((Below.refl _ _).drew:Below wr.heap.size wr wr.drew)
        rw [show 8 - q=8 - (q+1)+1 by omega] at this
        refine this.less (by omega)))
       generalize wr.drew=V at hcall ⊢
       simp only [List.take_succ_cons,List.take_zero,List.drop_succ_cons,List.drop_zero]
       repeat still_step
       refine wpStill_nil ?_
       go_wp2_with fail
       refine hcall.out.mono ?_
       rintro e W' ⟨rfl,h3⟩
       have H3:=Lib.hid h3
       clear h3
       go_wp2
       go_roundw
       case rel=>exact ⟨q+1,by omega,by go_num,by have:=H3.out;rw [List.range_succ,List.flatMap_append,List.flatMap_singleton];simpa only [List.append_assoc] using this⟩
       case measure=>simp [intOf];omega
      ·obtain rfl:q=8:=by omega
       obtain ⟨L8,hL8⟩:∃ x,x=L7++puts 1 T.flash:=⟨_,rfl⟩
       have H8:Hid (Wp w0 V0 wb tb c L8 (k+2) wr):=Lib.hid (by
        have:=HW.out
        rw [show (List.range 8).flatMap (fun q=>puts 1 [T.flash.getD q 0])=puts 1 T.flash from by rw [← FL8.out,range_flat (fun x:Int=>puts 1 [x]) 0 T.flash];simp [puts]] at this
        rw [hL8]
        exact this.less (by omega))
       have EL8:=Lib.hid hL8
       clear HW FLC hL8
       go_upto_region 20 with fail
       refine QT.region1 wr.heap.size 7 (by kernel_rfl) (by kernel_rfl) (by kernel_rfl) (by kernel_rfl) (v:=wif wb) (fun _ _ _ h=>h) (Or.inl ⟨by rfl,fun w'=>by go_simp;try rfl⟩) ?_
       dsimp only [Act.put]
       simp only [List.setIfInBounds_toArray,List.set_cons_zero,List.set_cons_succ,List.take_succ_cons,List.take_zero,List.drop_succ_cons,List.drop_zero]
       repeat (quiet_step (fail))
       refine wpQuiet_nil ?_
       intro _ hw'
       obtain ⟨p,rfl⟩:=hw'
       have HV:=Lib.hid (H8.out.mem p.below)
       clear H8
       generalize p.world=V at HV ⊢
       (try simp only [List.drop_succ_cons,List.drop_zero])
       have hcall:=Lib.hid (TKC.out _ k V HV.out)
       clear HV
       go_wp2_with fail
       refine hcall.out.mono ?_
       rintro e W9 ⟨rfl,h3⟩
       have H9:=Lib.hid h3
       clear h3 hcall TKC
       go_wp2
       go_end0
       refine ⟨rfl,?_⟩
       have:=H9.out
       rw [EL8.out,EL7.out,EL6.out,EL5.out,EL4.out,EL3.out,EL2.out] at this
       rw [RES.out]
       simpa only [List.append_assoc] using this
end
end Po
namespace Po
open Go Go.RowKit Go.ChangeShapes
open Tab
open Put (low lim)
theorem assert1 (v:Value) (w:World):(Instr.typeAssert (.iface 36 v) 20 36 false).run Tryz.prog w=.ok v w:=by
 simp [Instr.typeAssert,run_underlying Tryz.underlying36,go_sem,Result.andThen]
theorem infoF:(Tryz.prog.info? 36).map (·.size)=some 2:=by kernel_rfl
theorem caught_nil (w:World):Calls Tryz.prog 16 #[.nilIface] w fun e w'=>e=.returned (.agg #[I 0,I 0])∧Below w.heap.size w w':=by
 have hb:=(Below.refl w.heap.size w).alloc (Nat.le_refl _) (.cells #[I 0,I 0] 36)
 have hg:=heap_alloc_new w (.cells #[I 0,I 0] 36)
 have HB:=Lib.hid hb
 have HG:=Lib.hid hg
 clear hb hg
 go_enter Tryz.func16,Tryz.ntmps16
 go_upto_region 1 with fail
 generalize World.alloc w _=v at HB HG ⊢
 go_wp2_with (refine wpList_store_row rfl 36 _ _ rfl w.heap.size #[I 0,I 0] rfl rfl 36 _ HG.out infoF rfl (by simp [Value.oneCell']) ?_)
 have h2:=setRow_heap _ _ _ #[I 0,I 0] _ _ HG.out
 have h3:=below_setRow HB.out (Nat.le_refl _) #[I 0,I 0]
 generalize World.setRow v _ _=v2 at h2 h3 ⊢
 have H2:=Lib.hid h2
 have H3:=Lib.hid h3
 clear h2 h3
 go_wp2_with fail
 (try simp only [Exit.inBlock,Exit.then])
 refine bodyPost_ret (v:=.agg #[I 0,I 0]) ?_ rfl ⟨rfl,H3.out⟩
 exact results_cell_row rfl _ _ w.heap.size 36 _ (0,0) _ rfl H2.out Tryz.underlying36 rfl infoF
theorem caught_fault (x y:Int) (w:World):Calls Tryz.prog 16 #[fault (x,y)] w fun e w'=>e=.returned (.agg #[I x,I y])∧Below w.heap.size w w':=by
 have hb:=(Below.refl w.heap.size w).alloc (Nat.le_refl _) (.cells #[I 0,I 0] 36)
 have hg:=heap_alloc_new w (.cells #[I 0,I 0] 36)
 have HB:=Lib.hid hb
 have HG:=Lib.hid hg
 have ha:=assert1
 clear hb hg
 go_enter Tryz.func16,Tryz.ntmps16
 go_upto_region 1 with fail
 generalize World.alloc w _=v at HB HG ⊢
 go_wp2_with (refine wpList_store_row rfl 36 _ _ rfl w.heap.size #[I x,I y] rfl rfl 36 _ HG.out infoF rfl (by simp [Value.oneCell']) ?_)
 have h2:=setRow_heap _ _ _ #[I x,I y] _ _ HG.out
 have h3:=below_setRow HB.out (Nat.le_refl _) #[I x,I y]
 generalize World.setRow v _ _=v2 at h2 h3 ⊢
 have H2:=Lib.hid h2
 have H3:=Lib.hid h3
 clear h2 h3
 go_wp2_with fail
 (try simp only [Exit.inBlock,Exit.then])
 refine bodyPost_ret (v:=.agg #[I x,I y]) ?_ rfl ⟨rfl,H3.out⟩
 exact results_cell_row rfl _ _ w.heap.size 36 _ (0,0) _ rfl H2.out Tryz.underlying36 rfl infoF
theorem fail_any (x y:Int) (w:World):Calls Tryz.prog 17 #[I x,I y] w fun e w'=>e=.panicked [{ v:=fault (x,y),recovered:=false }]∧w=w':=by
 have hpan:∀ (u:TypeId) (v:Value) (w:World),(Instr.panic (.iface u v)).run Tryz.prog w=.halt (.panic (.iface u v)) w:=fun _ _ _=>rfl
 go_enter Tryz.func17,Tryz.ntmps17
 go_wp2
 exact ⟨rfl,rfl,rfl⟩
theorem field0 (x y:Int) (w:World):(Instr.field 36 (.agg #[I x,I y]) 0).run Tryz.prog w=.ok (I x) w:=by
 first | rfl | simp [Instr.field,run_underlying Tryz.underlying36,go_sem,Result.andThen]
theorem enc_idle (b:Nat) (z:Int) (w:World) (hc:w.heap[b]?=some (.cells #[I z] 34 (0,0))) :
  CallsD Tryz.prog 41 #[.pointer (some ⟨b,0,none⟩)] .returning w fun e u' w'=>e=.returned (.tuple #[])∧u'=.returning∧∃ w1,Below w.heap.size w w1∧w'=w1.setRow b #[I 0]:=by
 refine callsD_of_wpS Tryz.func41 rfl fun c₀ cs hu=>?_
 apply wpS_region
 simp [wpOpsS,go_sem,recoverD,hu]
 refine (caught_nil _).mono ?_
 rintro e w' ⟨rfl,hb⟩
 have hc1:=(hb.block b (Array.getElem?_eq_some_iff.1 hc).1).trans hc
 have c1:w'.cell? ⟨b,0,none⟩=some (I z):=by rw [cell_of_row _ _ _ _ _ _ hc1];rfl
 have f1:w'.frozen? ⟨b,0,none⟩=false:=frozen_of_row _ _ _ _ _ hc1
 have hs:=setCell_eq_setRow w' b 0 #[I z] 34 (0,0) (I 0) hc1
 have hf:=field0 0 0
 simp [wpOpsS,go_sem,hf,c1,f1,bodyPostS,results,Tryz.results41]
 cases c₀
 simp_all
 exact ⟨w',hb,rfl⟩
end Po
namespace May
open Go.ChangeShapes Go.WideShapes Go.ChangeAt Go.RowKit
open Tab
theorem ret_bool {a b:Bool} (h:a=b):Ending.returned (.bool a)=.returned (.bool b):=by rw [h]
def inB (m:Int) (n:Int):Bool:=decide (0≤n) && decide (n≤m)
def allIn (m:Int) (l:List Int):Bool:=l.all (inB m)
theorem take_succ' {α:Type} (l:List α) (k:Nat) (v:α) (h:l[k]?=some v):l.take (k+1)=l.take k++[v]:=by
 rw [List.take_add_one,h];rfl
theorem all_step {α:Type} {f:α→Bool} {l:List α} {k:Nat} {v:α} (h:l[k]?=some v) (hk:(l.take k).all f=true) (hv:f v=true):(l.take (k+1)).all f=true:=by
 rw [take_succ' l k v h,List.all_append,hk];simp [hv]
theorem all_break {α:Type} {f:α→Bool} {l:List α} {k:Nat} {v:α} (h:l[k]?=some v) (hv:f v=false):l.all f=false:=by
 rw [List.all_eq_false];exact ⟨v,List.mem_of_getElem? h,by simp [hv]⟩
theorem all_end {α:Type} {f:α→Bool} {l:List α} {k:Nat} (hk:(l.take k).all f=true) (h:¬ k < l.length):l.all f=true:=by
 rwa [List.take_of_length_le (by omega)] at hk
theorem within_any (m:Int) (a:Option Addr) (cap:Nat) (l:List Int) (w:World) (h:IntRow w ⟨a,cap⟩ l) :
  Calls Tryz.prog 82 #[.int .i64 m,.slice a l.length cap] w fun e w'=>e=.returned (.bool (allIn m l))∧w=w':=by
 have h1:=h.len
 unfold maxLen at h1
 have Hr:=Lib.hid h
 clear h
 go_enter Tryz.func82,Tryz.ntmps82
 go_wp2
 go_loop [9] (fun i=>∃ k:Nat,k≤l.length∧i=.int .i64 k∧(l.take k).all (inB m)=true) (fun i=>l.length - (intOf i).toNat)
 case atStart=>exact ⟨0,Nat.zero_le _,rfl,rfl⟩
 case round =>
  obtain ⟨k,hk,rfl,hall⟩:=hrel
  have Hall:=Lib.hid hall
  clear hall
  by_cases hlt:k < l.length
  ·have hv:=List.getElem?_eq_getElem hlt
   generalize l[k]=v at hv
   obtain ⟨x,hx,hcell⟩:=Hr.out.at hv
   obtain rfl:a=some x:=hx
   have HV:=Lib.hid hv
   clear hv
   by_cases h0:v < 0
   ·go_wp2
    go_ret
    exact ⟨ret_bool (all_break HV.out (by unfold inB;rw [decide_eq_false (by omega)];rfl)).symm,rfl⟩
   ·by_cases hm:m < v
    ·go_wp2
     go_ret
     exact ⟨ret_bool (all_break HV.out (by unfold inB;rw [decide_eq_false (p:=v≤m) (by omega),Bool.and_false])).symm,rfl⟩
    ·go_wp2
     go_round
     case rel=>exact ⟨k+1,by omega,by go_num,all_step HV.out Hall.out (by unfold inB;rw [decide_eq_true (by omega),decide_eq_true (by omega)];rfl)⟩
     case measure=>simp [intOf];omega
  ·go_wp2
   go_ret
   exact ⟨ret_bool (all_end Hall.out hlt).symm,rfl⟩
end May
end Go.Proofs.YtjdeemmaaiecnaaGreat
namespace Go.Proofs.Fl
open Ieee
abbrev D:Format:=Ieee.double
theorem lp_eq:D.leastPlace = -1074:=by decide
theorem binade_eq:D.binade=4503599627370496:=by decide
theorem inf_eq:D.infRung=9218868437227405312:=by decide
theorem sw_eq:D.signWeight=9223372036854775808:=by decide
theorem fb_eq:D.fractionBits=52:=rfl
def rhe (v d:Nat):Nat:=v / 2 ^ d+(decide (2 ^ d < 2*(v % 2 ^ d)) || (2 ^ d == 2*(v % 2 ^ d) && v / 2 ^ d % 2 == 1)).toNat
theorem bt_le (b:Bool):b.toNat≤1:=by cases b <;> decide
theorem rhe_lo (v d:Nat):v / 2 ^ d≤rhe v d:=Nat.le_add_right _ _
theorem rhe_hi (v d:Nat):rhe v d≤v / 2 ^ d+1:=Nat.add_le_add_left (bt_le _) _
theorem rhe_zero (v:Nat):rhe v 0=v:=by
 unfold rhe;simp [Nat.mod_one]
theorem rhe_exact (v d:Nat) (h:v % 2 ^ d=0):rhe v d=v / 2 ^ d:=by
 have hp:0 < 2 ^ d:=Nat.two_pow_pos d
 unfold rhe;rw [h]
 simp
theorem rhe_mono (v v' d:Nat) (h:v≤v'):rhe v d≤rhe v' d:=by
 have hp:0 < 2 ^ d:=Nat.two_pow_pos d
 have hq:v / 2 ^ d≤v' / 2 ^ d:=Nat.div_le_div_right h
 by_cases e:v / 2 ^ d=v' / 2 ^ d
 ·have h1:=Nat.div_add_mod v (2 ^ d)
  have h2:=Nat.div_add_mod v' (2 ^ d)
  have hr:v % 2 ^ d≤v' % 2 ^ d:=by rw [e] at h1;omega
  unfold rhe
  rw [e]
  refine Nat.add_le_add_left ?_ _
  generalize v % 2 ^ d=r at *
  generalize v' % 2 ^ d=r' at *
  generalize 2 ^ d=g at *
  by_cases c1:g < 2*r'
  ·rw [decide_eq_true c1];simp;exact bt_le _
  ·have c2:¬ g < 2*r:=by omega
   rw [decide_eq_false c1,decide_eq_false c2]
   by_cases c3:g=2*r
   ·have c4:g=2*r':=by omega
    have:r=r':=by omega
    subst this;exact Nat.le_refl _
   ·have c4:(g == 2*r)=false:=beq_eq_false_iff_ne.2 c3
    rw [c4];simp
 ·exact Nat.le_trans (rhe_hi v d) (Nat.le_trans (by omega) (rhe_lo v' d))
theorem rhe_scale (v d k:Nat):rhe (v*2 ^ k) (d+k)=rhe v d:=by
 have hk:0 < 2 ^ k:=Nat.two_pow_pos k
 unfold rhe
 rw [Nat.pow_add,Nat.mul_div_mul_right _ _ hk,Nat.mul_mod_mul_right]
 have e1:decide (2 ^ d*2 ^ k < 2*(v % 2 ^ d*2 ^ k))=decide (2 ^ d < 2*(v % 2 ^ d)):=by
  rw [← Nat.mul_assoc];exact decide_eq_decide.2 (Nat.mul_lt_mul_right hk)
 have e2:(2 ^ d*2 ^ k == 2*(v % 2 ^ d*2 ^ k))=(2 ^ d == 2*(v % 2 ^ d)):=by
  rw [← Nat.mul_assoc,Bool.eq_iff_iff,beq_iff_eq,beq_iff_eq]
  exact ⟨fun h=>Nat.eq_of_mul_eq_mul_right hk h,fun h=>congrArg (·*2 ^ k) h⟩
 rw [e1,e2]
theorem cut_even (neg:Bool) (n drop:Nat):Toward.even.cut neg n drop=rhe n drop:=by
 have key:∀ g,g=drop∨(g≤drop∧n.log2+2≤g)→rhe n g=rhe n drop:=by
  intro g hg
  rcases hg with rfl | ⟨h1,h2⟩
  ·rfl
  ·have small:∀ e,n.log2+2≤e→rhe n e=0:=by
    intro e he
    have hn:n < 2 ^ (n.log2+1):=Nat.lt_log2_self
    have hpe:2 ^ (n.log2+2)≤2 ^ e:=Nat.pow_le_pow_right (by decide) he
    have hs:2 ^ (n.log2+2)=2 ^ (n.log2+1)*2:=Nat.pow_succ ..
    unfold rhe
    rw [Nat.div_eq_of_lt (by omega),Nat.mod_eq_of_lt (by omega)]
    have c1:¬ 2 ^ e < 2*n:=by omega
    have c2:¬ 2 ^ e=2*n:=by omega
    simp [c1]
   rw [small g h2,small drop (by omega)]
 have h:=key (min drop (n.log2+2)) (by omega)
 rw [← h]
 unfold Toward.cut rhe
 simp only [Nat.one_shiftLeft]
theorem cut_zero (neg:Bool) (n drop:Nat):Toward.zero.cut neg n drop=n / 2 ^ drop:=by
 unfold Toward.cut
 simp only [Nat.one_shiftLeft,Bool.toNat_false,Nat.add_zero]
 by_cases h:drop≤n.log2+2
 ·rw [Nat.min_eq_left h]
 ·rw [Nat.min_eq_right (by omega)]
  have hn:n < 2 ^ (n.log2+1):=Nat.lt_log2_self
  have p1:2 ^ (n.log2+1)≤2 ^ (n.log2+2):=Nat.pow_le_pow_right (by decide) (by omega)
  have p2:2 ^ (n.log2+2)≤2 ^ drop:=Nat.pow_le_pow_right (by decide) (by omega)
  rw [Nat.div_eq_of_lt (by omega),Nat.div_eq_of_lt (by omega)]
def rungV (E v:Nat):Nat:=(max (v.log2 - 52) E - E)*4503599627370496+rhe v (max (v.log2 - 52) E)
theorem log2_mul_pow (m P:Nat) (h:m ≠ 0):(m*2 ^ P).log2=m.log2+P:=by
 have hp:m*2 ^ P ≠ 0:=Nat.mul_ne_zero h (by have:=Nat.two_pow_pos P;omega)
 rw [Nat.log2_eq_iff hp]
 have h1:=Nat.log2_self_le h
 have h2:m < 2 ^ (m.log2+1):=Nat.lt_log2_self
 have hP:=Nat.two_pow_pos P
 rw [Nat.add_right_comm,Nat.pow_add,Nat.pow_add 2 (m.log2+1)]
 exact ⟨Nat.mul_le_mul_right _ h1,(Nat.mul_lt_mul_right hP).2 h2⟩
theorem nearest_eq (neg:Bool) (m:Nat) (p:Int) (P E:Nat) (h:p+1074+E=P):D.nearest neg m p=D.word neg (min (rungV E (m*2 ^ P)) D.infRung):=by
 unfold Format.nearest
 by_cases hm:m=0
 ·subst hm
  rw [if_pos rfl,Nat.zero_mul]
  have:rungV E 0=0:=by
   unfold rungV rhe
   have e:max (Nat.log2 0 - 52) E=E:=by rw [Nat.log2_zero];omega
   rw [e,Nat.zero_div,Nat.zero_mod]
   simp
  rw [this];rfl
 rw [if_neg hm]
 dsimp only
 rw [lp_eq,binade_eq,fb_eq]
 refine congrArg (fun t=>D.word neg (min t D.infRung)) ?_
 have hl:(m*2 ^ P).log2=m.log2+P:=log2_mul_pow m P hm
 have hlast:max (p+(m.log2:Int) - ((52:Nat):Int)) (-1074)=((max ((m*2 ^ P).log2 - 52) E:Nat):Int) - 1074 - E:=by
  rw [hl];omega
 rw [hlast,cut_even]
 unfold rungV
 generalize max ((m*2 ^ P).log2 - 52) E=L at *
 have a1:((L:Int) - 1074 - (E:Int) - -1074).toNat=L - E:=by omega
 rw [a1]
 congr 1
 rw [Nat.shiftLeft_eq]
 by_cases hPL:L≤P
 ·have a2:(p - ((L:Int) - 1074 - E)).toNat=P - L:=by omega
  have a3:((L:Int) - 1074 - E - p).toNat=0:=by omega
  rw [a2,a3,rhe_zero]
  have hx:m*2 ^ P=m*2 ^ (P - L)*2 ^ L:=by rw [Nat.mul_assoc,← Nat.pow_add];congr 2;omega
  rw [hx]
  have:=rhe_scale (m*2 ^ (P - L)) 0 L
  rw [Nat.zero_add] at this
  rw [this,rhe_zero]
 ·have a2:(p - ((L:Int) - 1074 - E)).toNat=0:=by omega
  have a3:((L:Int) - 1074 - E - p).toNat=L - P:=by omega
  rw [a2,a3,Nat.pow_zero,Nat.mul_one]
  have:=rhe_scale m (L - P) P
  rw [show L - P+P=L by omega] at this
  exact this.symm
theorem log2_mono {a b:Nat} (h:a≤b):a.log2≤b.log2:=by
 by_cases ha:a=0
 ·subst ha;rw [Nat.log2_zero];exact Nat.zero_le _
 ·exact (Nat.le_log2 (by omega)).2 (Nat.le_trans (Nat.log2_self_le ha) h)
theorem rungV_mono (E:Nat) {v v':Nat} (h:v≤v'):rungV E v≤rungV E v':=by
 have hl:=log2_mono h
 unfold rungV
 by_cases e:max (v.log2 - 52) E=max (v'.log2 - 52) E
 ·rw [e];exact Nat.add_le_add_left (rhe_mono _ _ _ h) _
 ·
  have hlt:max (v.log2 - 52) E < max (v'.log2 - 52) E:=by omega
  have e':max (v'.log2 - 52) E=v'.log2 - 52:=by omega
  have h52:52 < v'.log2:=by omega
  rw [e']
  have hv0:v' ≠ 0:=by intro h0;subst h0;rw [Nat.log2_zero] at h52;omega
  have k':4503599627370496≤rhe v' (v'.log2 - 52):=by
   refine Nat.le_trans ?_ (rhe_lo _ _)
   rw [Nat.le_div_iff_mul_le (Nat.two_pow_pos _)]
   have:=Nat.log2_self_le hv0
   rw [show (4503599627370496:Nat)=2 ^ 52 by decide,← Nat.pow_add,show 52+(v'.log2 - 52)=v'.log2 by omega]
   exact this
  have k:rhe v (max (v.log2 - 52) E)≤9007199254740992:=by
   have hv:v < 2 ^ (v.log2+1):=Nat.lt_log2_self
   have:v / 2 ^ max (v.log2 - 52) E < 9007199254740992:=by
    rw [Nat.div_lt_iff_lt_mul (Nat.two_pow_pos _)]
    refine Nat.lt_of_lt_of_le hv ?_
    rw [show (9007199254740992:Nat)=2 ^ 53 by decide,← Nat.pow_add]
    exact Nat.pow_le_pow_right (by decide) (by omega)
   have:=rhe_hi v (max (v.log2 - 52) E)
   omega
  have g1:E≤max (v.log2 - 52) E:=by omega
  have g2:max (v.log2 - 52) E < v'.log2 - 52:=by omega
  clear hlt e' e
  generalize max (v.log2 - 52) E=L at *
  generalize v'.log2 - 52=L' at *
  have hm:(L - E+1)*4503599627370496≤(L' - E)*4503599627370496:=Nat.mul_le_mul_right _ (by omega)
  rw [Nat.add_mul] at hm
  omega
def val (r:Nat):Nat:=if r < 4503599627370496 then r else (4503599627370496+r % 4503599627370496)*2 ^ (r / 4503599627370496 - 1)
theorem val_lt {r r':Nat} (h:r < r'):val r < val r':=by
 unfold val
 by_cases h1:r < 4503599627370496
 ·rw [if_pos h1]
  by_cases h2:r' < 4503599627370496
  ·rw [if_pos h2];exact h
  ·rw [if_neg h2]
   have:=Nat.two_pow_pos (r' / 4503599627370496 - 1)
   have:(4503599627370496+r' % 4503599627370496)*1≤(4503599627370496+r' % 4503599627370496)*2 ^ (r' / 4503599627370496 - 1):=Nat.mul_le_mul_left _ this
   omega
 ·have h2:¬ r' < 4503599627370496:=by omega
  rw [if_neg h1,if_neg h2]
  have hq:r / 4503599627370496≤r' / 4503599627370496:=Nat.div_le_div_right (by omega)
  by_cases e:r / 4503599627370496=r' / 4503599627370496
  ·rw [e];exact (Nat.mul_lt_mul_right (Nat.two_pow_pos _)).2 (by omega)
  ·have hm:r % 4503599627370496 < 4503599627370496:=Nat.mod_lt _ (by decide)
   have hm':r' % 4503599627370496 < 4503599627370496:=Nat.mod_lt _ (by decide)
   have p1:2 ^ (r / 4503599627370496)≤2 ^ (r' / 4503599627370496 - 1):=Nat.pow_le_pow_right (by decide) (by omega)
   have p0:2 ^ (r / 4503599627370496)=2 ^ (r / 4503599627370496 - 1)*2:=by
    rw [← Nat.pow_succ];congr 1;omega
   have hpos:=Nat.two_pow_pos (r / 4503599627370496 - 1)
   have s1:(4503599627370496+r % 4503599627370496)*2 ^ (r / 4503599627370496 - 1) < 9007199254740992*2 ^ (r / 4503599627370496 - 1):=(Nat.mul_lt_mul_right hpos).2 (by omega)
   have s2:4503599627370496*2 ^ (r' / 4503599627370496 - 1)≤(4503599627370496+r' % 4503599627370496)*2 ^ (r' / 4503599627370496 - 1):=Nat.mul_le_mul_right _ (by omega)
   omega
theorem val_le {r r':Nat} (h:r≤r'):val r≤val r':=by
 rcases Nat.eq_or_lt_of_le h with rfl | h
 ·exact Nat.le_refl _
 ·exact Nat.le_of_lt (val_lt h)
theorem val_rungV (v:Nat) (h:v % 2 ^ (v.log2 - 52)=0):val (rungV 0 v)=v:=by
 unfold rungV
 rw [show max (v.log2 - 52) 0=v.log2 - 52 by omega,Nat.sub_zero,rhe_exact _ _ h]
 have hdm:=Nat.div_add_mod v (2 ^ (v.log2 - 52))
 rw [h,Nat.add_zero] at hdm
 by_cases h52:v.log2≤52
 ·rw [show v.log2 - 52=0 by omega] at hdm ⊢
  simp only [Nat.pow_zero,Nat.div_one,Nat.zero_mul,Nat.zero_add]
  have hv:v < 2 ^ (v.log2+1):=Nat.lt_log2_self
  have:2 ^ (v.log2+1)≤2 ^ 53:=Nat.pow_le_pow_right (by decide) (by omega)
  have e53:(2:Nat) ^ 53=9007199254740992:=by decide
  unfold val
  split
  ·rfl
  ·rw [show v / 4503599627370496=1 by omega];simp;omega
 ·have hv0:v ≠ 0:=by intro h0;subst h0;rw [Nat.log2_zero] at h52;omega
  have hlo:=Nat.log2_self_le hv0
  have hhi:v < 2 ^ (v.log2+1):=Nat.lt_log2_self
  have c1:4503599627370496≤v / 2 ^ (v.log2 - 52):=by
   rw [Nat.le_div_iff_mul_le (Nat.two_pow_pos _),show (4503599627370496:Nat)=2 ^ 52 by decide,← Nat.pow_add,show 52+(v.log2 - 52)=v.log2 by omega]
   exact hlo
  have c2:v / 2 ^ (v.log2 - 52) < 9007199254740992:=by
   rw [Nat.div_lt_iff_lt_mul (Nat.two_pow_pos _),show (9007199254740992:Nat)=2 ^ 53 by decide,← Nat.pow_add,show 53+(v.log2 - 52)=v.log2+1 by omega]
   exact hhi
  generalize hL:v.log2 - 52=L at *
  generalize hc:v / 2 ^ L=c at *
  unfold val
  rw [if_neg (by have:1*4503599627370496≤L*4503599627370496:=Nat.mul_le_mul_right _ (by omega);omega)]
  have e1:(L*4503599627370496+c) / 4503599627370496=L+1:=by omega
  have e2:(L*4503599627370496+c) % 4503599627370496=c - 4503599627370496:=by omega
  rw [e1,e2,show 4503599627370496+(c - 4503599627370496)=c by omega,show L+1 - 1=L by omega,Nat.mul_comm]
  exact hdm
theorem thin (c e:Nat) (h:c < 9007199254740992):(c*2 ^ e) % 2 ^ ((c*2 ^ e).log2 - 52)=0:=by
 by_cases hc:c=0
 ·subst hc;simp
 ·rw [log2_mul_pow c e hc]
  have hl:c.log2 < 53:=(Nat.log2_lt hc).2 (by rw [show (2:Nat) ^ 53=9007199254740992 by decide];exact h)
  have hd:2 ^ (c.log2+e - 52) ∣ 2 ^ e:=Nat.pow_dvd_pow 2 (by omega)
  exact Nat.mod_eq_zero_of_dvd (Nat.dvd_trans hd (Nat.dvd_mul_left _ _))
def rung (x:Nat):Nat:=x % 9223372036854775808
def sg (x:Nat):Bool:=x / 9223372036854775808 % 2 == 1
def isn (x:Nat):Bool:=decide (9218868437227405312 < rung x)
def key (x:Nat):Int:=if sg x then -(rung x:Int) else rung x
def sval (x:Nat):Int:=if sg x then -(val (rung x):Int) else val (rung x)
def fin (x:Nat):Prop:=rung x < 9218868437227405312
theorem read_nan (x:Nat) (h:isn x=true):D.read x=.nan (sg x) (rung x - 9218868437227405312):=by
 have h':9218868437227405312 < rung x:=of_decide_eq_true h
 unfold Format.read
 dsimp only
 rw [sw_eq,binade_eq,inf_eq]
 show (if rung x < _ then _ else _)=_
 rw [if_neg (by omega)]
 show (if rung x < _ then _ else _)=_
 rw [if_neg (by omega)]
 show (if rung x=_ then _ else _)=_
 rw [if_neg (by omega)]
 rfl
theorem read_inf (x:Nat) (h:rung x=9218868437227405312):D.read x=.infinity (sg x):=by
 unfold Format.read
 dsimp only
 rw [sw_eq,binade_eq,inf_eq]
 show (if rung x < _ then _ else _)=_
 rw [if_neg (by omega)]
 show (if rung x < _ then _ else _)=_
 rw [if_neg (by omega)]
 show (if rung x=_ then _ else _)=_
 rw [if_pos h]
 rfl
theorem read_fin (x:Nat) (h:fin x):∃ (m:Nat) (i:Int) (P:Nat),D.read x=.number (sg x) m i∧i+1074=P∧m*2 ^ P=val (rung x)∧m < 9007199254740992:=by
 unfold fin at h
 unfold Format.read
 dsimp only
 rw [sw_eq,binade_eq,inf_eq,lp_eq]
 by_cases h1:rung x < 4503599627370496
 ·refine ⟨rung x,-1074,0,?_,by omega,?_,by omega⟩
  ·show (if rung x < _ then _ else _)=_
   rw [if_pos h1];rfl
  ·unfold val;rw [if_pos h1];simp
 ·refine ⟨4503599627370496+rung x % 4503599627370496,-1074+((rung x / 4503599627370496 - 1:Nat):Int),rung x / 4503599627370496 - 1,?_,by omega,?_,by omega⟩
  ·show (if rung x < _ then _ else _)=_
   rw [if_neg h1]
   show (if rung x < _ then _ else _)=_
   rw [if_pos h];rfl
  ·unfold val;rw [if_neg h1]
theorem signed_scale (s:Bool) (m a k:Nat):signed s m a*(2 ^ k:Nat)=signed s m (a+k):=by
 have e:((m <<< a:Nat):Int)*(2 ^ k:Nat)=((m <<< (a+k):Nat):Int):=by
  rw [Nat.shiftLeft_eq,Nat.shiftLeft_eq,Nat.pow_add,← Nat.mul_assoc];simp
 unfold signed
 split
 ·rw [Int.neg_mul,e]
 ·exact e
theorem signed_sval (x:Nat) {m P:Nat} (h:m*2 ^ P=val (rung x)):signed (sg x) m P=sval x:=by
 unfold signed sval
 rw [Nat.shiftLeft_eq,h]
theorem cmp_congr {a b c d:Int} (h1:a < b ↔ c < d) (h2:b < a ↔ d < c):compare a b=compare c d:=by
 rw [Int.compare_eq_ite_lt,Int.compare_eq_ite_lt]
 simp only [h1,h2]
theorem cmp_lt {a b:Int} (h:a < b):compare a b=.lt:=by rw [Int.compare_eq_ite_lt,if_pos h]
theorem cmp_gt {a b:Int} (h:b < a):compare a b=.gt:=by rw [Int.compare_eq_ite_lt,if_neg (by omega),if_pos h]
theorem cmp_scale (a b:Int) (k:Nat) (hk:0 < k):compare (a*k) (b*k)=compare a b:=by
 have hk':(0:Int) < k:=by omega
 exact cmp_congr ⟨fun h=>Int.lt_of_mul_lt_mul_right h (by omega),fun h=>Int.mul_lt_mul_of_pos_right h hk'⟩ ⟨fun h=>Int.lt_of_mul_lt_mul_right h (by omega),fun h=>Int.mul_lt_mul_of_pos_right h hk'⟩
theorem sval_cmp (x y:Nat):compare (sval x) (sval y)=compare (key x) (key y):=by
 have h0:val 0=0:=by decide
 have pos:∀ r,0 < r→0 < val r:=fun r h=>by have:=val_lt h;omega
 have lt:∀ r r',r < r'→val r < val r':=fun r r' h=>val_lt h
 have hiff:∀ r r',val r < val r' ↔ r < r':=fun r r'=>⟨fun h=>Nat.lt_of_not_le fun hh=>by have:=val_le hh;omega,fun h=>val_lt h⟩
 have hz:∀ r,val r=0 ↔ r=0:=fun r=>⟨fun h=>by by_cases hr:r=0;exact hr;have:=pos r (by omega);omega,fun h=>by subst h;exact h0⟩
 have a1:=hiff (rung x) (rung y)
 have a2:=hiff (rung y) (rung x)
 have a3:=hz (rung x)
 have a4:=hz (rung y)
 apply cmp_congr
 ·unfold sval key;split <;> split <;> omega
 ·unfold sval key;split <;> split <;> omega
theorem order_nan (x y:Nat) (h:isn x=true∨isn y=true):D.order x y=none:=by
 unfold Format.order
 rcases h with h | h
 ·rw [read_nan x h];rfl
 ·rw [read_nan y h]
  cases D.read x <;> rfl
theorem order_key (x y:Nat) (hx:isn x=false) (hy:isn y=false):D.order x y=some (compare (key x) (key y)):=by
 have hx':=of_decide_eq_false hx
 have hy':=of_decide_eq_false hy
 unfold Format.order
 by_cases fx:fin x
 ·obtain ⟨m,i,P,rx,hP,vx,-⟩:=read_fin x fx
  by_cases fy:fin y
  ·obtain ⟨n,j,Q,ry,hQ,vy,-⟩:=read_fin y fy
   rw [rx,ry]
   unfold Datum.order
   dsimp only
   congr 1
   rw [← sval_cmp,← signed_sval x vx,← signed_sval y vy]
   obtain ⟨B,hB⟩:∃ B:Nat,min i j+1074=B:=⟨(min i j+1074).toNat,by omega⟩
   rw [← cmp_scale _ _ (2 ^ B) (Nat.two_pow_pos B),signed_scale,signed_scale]
   rw [show (i - min i j).toNat+B=P by omega,show (j - min i j).toNat+B=Q by omega]
  ·have hy2:rung y=9218868437227405312:=by unfold fin at fy;omega
   rw [rx,read_inf y hy2]
   unfold fin at fx
   unfold Datum.order
   dsimp only
   congr 1
   unfold key
   rw [hy2]
   cases sg y
   ·rw [cmp_lt (by cases sg x <;> simp <;> omega)];rfl
   ·rw [cmp_gt (by cases sg x <;> simp <;> omega)];rfl
 ·have hx2:rung x=9218868437227405312:=by unfold fin at fx;omega
  by_cases fy:fin y
  ·obtain ⟨n,j,Q,ry,hQ,vy,-⟩:=read_fin y fy
   rw [ry,read_inf x hx2]
   unfold fin at fy
   unfold Datum.order
   dsimp only
   congr 1
   unfold key
   rw [hx2]
   cases sg x
   ·rw [cmp_gt (by cases sg y <;> simp <;> omega)];rfl
   ·rw [cmp_lt (by cases sg y <;> simp <;> omega)];rfl
  ·have hy2:rung y=9218868437227405312:=by unfold fin at fy;omega
   rw [read_inf x hx2,read_inf y hy2]
   unfold Datum.order key
   dsimp only
   congr 1
   rw [hx2,hy2]
   cases sg x <;> cases sg y <;> decide
theorem o_eq {x y:Nat} (hx:isn x=false) (hy:isn y=false):(D.order x y == some .eq)=decide (key x=key y):=by
 rw [order_key x y hx hy,Int.compare_eq_ite_lt,Bool.eq_iff_iff]
 by_cases h:key x < key y
 ·simp [h];omega
 ·by_cases h':key y < key x
  ·simp [h,h'];omega
  ·simp [h,h'];omega
def T:Nat:=1074
theorem T_eq:T=1074:=rfl
theorem sum_fin (x y:Nat) (neg':Bool) {n:Nat} {j:Int} {Q:Nat} (t:Int) (hx:fin x) (hQ:j+1074=Q) (ht:signed neg' n Q=t) :
  ∃ s:Bool,((D.read x).sum (.number neg' n j)).map D.write=some (D.word s (min (rungV 0 (sval x+t).natAbs) D.infRung))∧(sval x+t ≠ 0→s=decide (sval x+t < 0)):=by
 obtain ⟨m,i,P,rx,hP,vx,-⟩:=read_fin x hx
 rw [rx]
 unfold Datum.sum
 dsimp only [Option.map_some]
 obtain ⟨B,hB⟩:∃ B:Nat,min i j+1074=B:=⟨(min i j+1074).toNat,by omega⟩
 have e:(signed (sg x) m (i - min i j).toNat+signed neg' n (j - min i j).toNat)*(2 ^ B:Nat)=sval x+t:=by
  rw [Int.add_mul,signed_scale,signed_scale,show (i - min i j).toNat+B=P by omega,show (j - min i j).toNat+B=Q by omega,signed_sval x vx,ht]
 have hp:(0:Int) < (2 ^ B:Nat):=by have:=Nat.two_pow_pos B;omega
 generalize signed (sg x) m (i - min i j).toNat+signed neg' n (j - min i j).toNat=tot at *
 refine ⟨if tot=0 then sg x && neg' else decide (tot < 0),?_,?_⟩
 ·unfold Format.write
  dsimp only
  congr 1
  rw [nearest_eq _ _ _ B 0 (by omega)]
  have:tot.natAbs*2 ^ B=(sval x+t).natAbs:=by rw [← e,Int.natAbs_mul];simp
  rw [this]
 ·intro h0
  have h1:tot ≠ 0:=by intro h;rw [h,Int.zero_mul] at e;exact h0 e.symm
  rw [if_neg h1,← e]
  apply decide_eq_decide.2
  constructor
  ·intro h;exact Int.mul_neg_of_neg_of_pos h hp
  ·intro h
   by_cases hn:tot < 0
   ·exact hn
   ·have:=Int.mul_nonneg (show 0≤tot by omega) (show (0:Int)≤(2 ^ B:Nat) by omega);omega
theorem sub_fin (x y:Nat) (hx:fin x) (hy:fin y) :
  ∃ s:Bool,D.sub x y=some (D.word s (min (rungV 0 (sval x - sval y).natAbs) D.infRung))∧(sval x - sval y ≠ 0→s=decide (sval x - sval y < 0)):=by
 obtain ⟨n,j,Q,ry,hQ,vy,-⟩:=read_fin y hy
 unfold Format.sub
 rw [ry]
 have hs:signed (!sg y) n Q = -sval y:=by
  rw [← signed_sval y vy]
  unfold signed
  cases sg y <;> simp
 have:=sum_fin x y (!sg y) (-sval y) hx hQ hs
 rw [← Int.sub_eq_add_neg] at this
 exact this
theorem word_rung (s:Bool) (r:Nat) (h:r < 9223372036854775808):rung (D.word s r)=r:=by
 unfold rung Format.word
 rw [sw_eq]
 split <;> omega
theorem word_sg (s:Bool) (r:Nat) (h:r < 9223372036854775808):sg (D.word s r)=s:=by
 unfold sg Format.word
 rw [sw_eq]
 cases s
 ·simp;omega
 ·simp;omega
theorem toInt_zero (x:Nat) (hx:fin x) (hs:sg x=false):(D.read x).toInt .zero=some ((val (rung x) / 2 ^ T:Nat):Int):=by
 obtain ⟨m,i,P,rx,hP,vx,-⟩:=read_fin x hx
 rw [rx,hs,← vx]
 unfold Datum.toInt Datum.integral
 dsimp only
 rw [cut_zero]
 unfold signed
 simp only [Bool.false_eq_true,if_false,Nat.shiftLeft_zero]
 congr 2
 rw [Nat.shiftLeft_eq]
 by_cases h0:0≤i
 ·rw [show (-i).toNat=0 by omega,Nat.pow_zero,Nat.div_one,show P=i.toNat+T by rw [T_eq];omega,Nat.pow_add,← Nat.mul_assoc,Nat.mul_div_cancel _ (Nat.two_pow_pos T)]
 ·rw [show i.toNat=0 by omega,Nat.pow_zero,Nat.mul_one,show T=P+(-i).toNat by rw [T_eq];omega,Nat.pow_add,Nat.mul_comm (2 ^ P),Nat.mul_div_mul_right _ _ (Nat.two_pow_pos P)]
theorem integral_even (x:Nat) (hx:fin x):(D.read x).integral .even=.number (sg x) (rhe (val (rung x)) T) 0:=by
 obtain ⟨m,i,P,rx,hP,vx,-⟩:=read_fin x hx
 rw [rx,← vx]
 unfold Datum.integral
 dsimp only
 rw [cut_even,Nat.shiftLeft_eq]
 refine congrArg (fun t=>Datum.number (sg x) t 0) ?_
 by_cases h0:0≤i
 ·rw [show (-i).toNat=0 by omega,rhe_zero,show P=i.toNat+T by rw [T_eq];omega,Nat.pow_add,← Nat.mul_assoc]
  have:=rhe_scale (m*2 ^ i.toNat) 0 T
  rw [Nat.zero_add] at this
  rw [this,rhe_zero]
 ·rw [show i.toNat=0 by omega,Nat.pow_zero,Nat.mul_one,show T=(-i).toNat+P by rw [T_eq];omega,rhe_scale]
theorem lt_val_inf (v:Nat) (h:v < 2 ^ (53+T)):v < val 9218868437227405312:=by
 unfold val
 rw [if_neg (by omega)]
 generalize he:9218868437227405312 / 4503599627370496 - 1=e
 have h52:(4503599627370496+9218868437227405312 % 4503599627370496)=2 ^ 52:=by decide
 rw [h52,← Nat.pow_add]
 exact Nat.lt_of_lt_of_le h (Nat.pow_le_pow_right (by decide) (by rw [T_eq];omega))
def irung (n:Nat):Nat:=rungV 0 (n*2 ^ T)
theorem val_irung (n:Nat) (h:n < 9007199254740992):val (irung n)=n*2 ^ T:=val_rungV _ (thin n T h)
theorem irung_lt (n:Nat) (h:n < 9007199254740992):irung n < 9218868437227405312:=by
 have hv:=val_irung n h
 have:n*2 ^ T < val 9218868437227405312:=by
  apply lt_val_inf
  rw [Nat.pow_add]
  exact (Nat.mul_lt_mul_right (Nat.two_pow_pos T)).2 (by rw [show (2:Nat) ^ 53=9007199254740992 by decide];exact h)
 rw [← hv] at this
 exact Nat.lt_of_not_le fun hh=>by have:=val_le hh;omega
theorem write_int (s:Bool) (n:Nat) (h:n < 9007199254740992):D.write (.number s n 0)=D.word s (irung n):=by
 unfold Format.write
 dsimp only
 rw [nearest_eq s n 0 T 0 (by rw [T_eq];omega),inf_eq]
 have:=irung_lt n h
 rw [Nat.min_eq_left (by unfold irung at this;omega)]
 rfl
theorem irung_toInt (s:Bool) (n:Nat) (h:n < 9007199254740992) (hs:s=false):(D.read (D.word s (irung n))).toInt .zero=some (n:Int):=by
 have h1:=irung_lt n h
 have h2:=word_rung s (irung n) (by omega)
 rw [toInt_zero _ (by unfold fin;omega) (by rw [word_sg _ _ (by omega),hs]),h2,val_irung n h,Nat.mul_div_cancel _ (Nat.two_pow_pos T)]
end Go.Proofs.Fl
namespace Go.Proofs.YtjdeemmaaiecnaaGreat
end Go.Proofs.YtjdeemmaaiecnaaGreat
namespace Go.Proofs.Fl
open Ieee
abbrev ten:Nat:=4621819117588971520
abbrev half:Nat:=4602678819172646912
def ok (s:Nat):Bool:=!isn s && decide (0≤key s) && decide (key s≤4652006429231887155)
theorem ok_iff (s:Nat):ok s=true ↔ isn s=false∧0≤key s∧key s≤4652006429231887155:=by
 unfold ok;simp [and_assoc]
theorem ok_fin {s:Nat} (h:ok s=true):fin s:=by
 obtain ⟨h1,h2,h3⟩:=(ok_iff s).1 h
 have:=of_decide_eq_false h1
 unfold fin;unfold key at h2 h3
 split at h2 <;> simp_all <;> omega
theorem ok_rung {s:Nat} (h:ok s=true):rung s≤4652006429231887155∧(sg s=true→rung s=0):=by
 obtain ⟨h1,h2,h3⟩:=(ok_iff s).1 h
 unfold key at h2 h3
 cases hs:sg s <;> simp [hs] at h2 h3 ⊢ <;> omega
def tr (s:Nat):Nat:=rungV 49 (5629499534213120*val (rung s))
theorem mul_ten (s:Nat) (h:fin s):D.mul ten s=some (D.word (sg s) (min (tr s) D.infRung)):=by
 obtain ⟨m,i,P,rx,hP,vx,-⟩:=read_fin s h
 unfold Format.mul
 rw [show D.read ten=.number false 5629499534213120 (-49) by decide,rx]
 unfold Datum.product
 dsimp only [Option.map_some]
 unfold Format.write
 dsimp only
 rw [nearest_eq _ _ _ P 49 (by omega),Nat.mul_assoc,vx,Bool.false_xor]
 rfl
theorem ten_mul (s:Nat) (h:fin s):D.mul s ten=some (D.word (sg s) (min (tr s) D.infRung)):=by
 rw [← mul_ten s h]
 obtain ⟨m,i,P,rx,hP,vx,-⟩:=read_fin s h
 unfold Format.mul
 rw [show D.read ten=.number false 5629499534213120 (-49) by decide,rx]
 unfold Datum.product
 dsimp only
 rw [Nat.mul_comm,Int.add_comm,Bool.xor_comm]
theorem tr_top:tr 4652006429231887155=4666722622711529472:=by decide +kernel
theorem tr_mono {s t:Nat} (h:rung s≤rung t):tr s≤tr t:=rungV_mono 49 (Nat.mul_le_mul_left _ (val_le h))
theorem tr_hi {s:Nat} (h:ok s=true):tr s≤4666722622711529472:=by
 rw [← tr_top]
 exact tr_mono (ok_rung h).1
def xw (s:Nat):Nat:=D.word (sg s) (tr s)
theorem mul_ok {s:Nat} (h:ok s=true):D.mul ten s=some (xw s)∧D.mul s ten=some (xw s):=by
 have e:min (tr s) D.infRung=tr s:=Nat.min_eq_left (by have:=tr_hi h;rw [inf_eq];omega)
 rw [mul_ten s (ok_fin h),ten_mul s (ok_fin h),e]
 exact ⟨rfl,rfl⟩
theorem xw_rung {s:Nat} (h:ok s=true):rung (xw s)=tr s:=word_rung _ _ (by have:=tr_hi h;omega)
theorem xw_sg {s:Nat} (h:ok s=true):sg (xw s)=sg s:=word_sg _ _ (by have:=tr_hi h;omega)
theorem xw_fin {s:Nat} (h:ok s=true):fin (xw s):=by unfold fin;rw [xw_rung h];have:=tr_hi h;omega
def tk (s:Nat):Nat:=rhe (val (tr s)) T
theorem val_9999:val 4666722622711529472=9999*2 ^ T:=by
 have:irung 9999=4666722622711529472:=by
  unfold irung;rw [T_eq];decide +kernel
 rw [← this,val_irung 9999 (by omega)]
theorem tk_hi {s:Nat} (h:ok s=true):tk s≤9999:=by
 have h1:tk s≤rhe (9999*2 ^ T) T:=rhe_mono _ _ _ (by rw [← val_9999];exact val_le (tr_hi h))
 have h2:rhe (9999*2 ^ T) T=9999:=by
  have:=rhe_scale 9999 0 T
  rw [Nat.zero_add,rhe_zero] at this
  exact this
 omega
def rw' (s:Nat):Nat:=D.word (sg s) (irung (tk s))
theorem round_ok {s:Nat} (h:ok s=true):D.write ((D.read (xw s)).integral .even)=rw' s:=by
 have hh:=tk_hi h
 rw [integral_even _ (xw_fin h),xw_rung h,xw_sg h]
 rw [write_int _ _ (by unfold tk at hh;omega)]
 rfl
theorem tr_zero {s:Nat} (h:rung s=0):tr s=0:=by unfold tr;rw [h];decide
theorem tk_zero {s:Nat} (h:rung s=0):tk s=0:=by
 unfold tk;rw [tr_zero h]
 have:=rhe_scale 0 0 T
 rw [Nat.zero_add,rhe_zero,Nat.zero_mul] at this
 exact this
theorem int_ok {s:Nat} (h:ok s=true):floatToIntVal .f64 (rw' s) .i64=some (tk s:Int):=by
 have hh:=tk_hi h
 have e:(D.read (rw' s)).toInt .zero=some (tk s:Int):=by
  by_cases hs:sg s=true
  ·have h0:=tk_zero ((ok_rung h).2 hs)
   unfold rw';rw [hs,h0]
   have:irung 0=0:=by unfold irung;rw [Nat.zero_mul];decide
   rw [this];decide
  ·exact irung_toInt _ _ (by omega) (by simpa using hs)
 unfold floatToIntVal
 have e':(FloatKind.decode .f64 (rw' s)).toInt .zero=some (tk s:Int):=e
 rw [e']
 simp only
 rw [if_pos]
 rw [show IntKind.min .i64 = -9223372036854775808 by decide,show IntKind.max .i64=9223372036854775807 by decide]
 omega
def qk (s:Nat):Nat:=val (tr s) / 2 ^ T
theorem cut_ok {s:Nat} (h:ok s=true):floatToIntVal .f64 (xw s) .i64=some (qk s:Int):=by
 have hh:qk s≤tk s:=rhe_lo _ _
 have hh':=tk_hi h
 have e:(D.read (xw s)).toInt .zero=some (qk s:Int):=by
  by_cases hs:sg s=true
  ·have h0:=tr_zero ((ok_rung h).2 hs)
   unfold xw qk;rw [hs,h0]
   rw [show val 0=0 by decide,Nat.zero_div]
   decide
  ·rw [toInt_zero _ (xw_fin h) (by rw [xw_sg h];simpa using hs),xw_rung h];rfl
 unfold floatToIntVal
 have e':(FloatKind.decode .f64 (xw s)).toInt .zero=some (qk s:Int):=e
 rw [e']
 simp only
 rw [if_pos]
 rw [show IntKind.min .i64 = -9223372036854775808 by decide,show IntKind.max .i64=9223372036854775807 by decide]
 omega
theorem float_of (n:Nat) (h:n < 9007199254740992):floatOfInt .f64 (n:Int)=irung n:=by
 show D.write (.number (decide ((n:Int) < 0)) (n:Int).natAbs 0)=_
 rw [show (n:Int).natAbs=n by omega,write_int _ n h,decide_eq_false (by omega)]
 rfl
def lw (s:Nat):Nat:=(D.sub (xw s) (irung (qk s))).getD 0
theorem val_half:val half*2=2 ^ T:=by
 have h1:val 4607182418800017408=1*2 ^ T:=by
  have:irung 1=4607182418800017408:=by unfold irung;rw [T_eq];decide +kernel
  rw [← this,val_irung 1 (by omega)]
 rw [Nat.one_mul] at h1
 rw [← h1]
 unfold val
 rw [if_neg (by decide),if_neg (by decide),show (half % 4503599627370496)=0 by decide,show (4607182418800017408 % 4503599627370496)=0 by decide,
  show 4607182418800017408 / 4503599627370496 - 1=(half / 4503599627370496 - 1)+1 by decide,Nat.pow_succ,Nat.mul_assoc]
theorem rest_ok {s:Nat} (h:ok s=true):D.sub (xw s) (irung (qk s))=some (lw s)∧isn (lw s)=false
  ∧ (decide (key half < key (lw s))=decide (2 ^ T < 2*(val (tr s) % 2 ^ T)))∧(decide (key (lw s)=key half)=(2 ^ T == 2*(val (tr s) % 2 ^ T))):=by
 have hq:qk s≤9999:=Nat.le_trans (rhe_lo _ _) (tk_hi h)
 have hi:=irung_lt (qk s) (by omega)
 have ri:rung (irung (qk s))=irung (qk s):=by unfold rung;omega
 have si:sg (irung (qk s))=false:=by unfold sg;simp;omega
 obtain ⟨sn,he,hneg⟩:=sub_fin (xw s) (irung (qk s)) (xw_fin h) (by unfold fin;rw [ri];exact hi)
 have hv2:sval (irung (qk s))=((qk s*2 ^ T:Nat):Int):=by
  unfold sval;rw [si,ri,val_irung _ (by omega)];rfl
 have hv1:sval (xw s)=(val (tr s):Int):=by
  unfold sval;rw [xw_sg h,xw_rung h]
  by_cases hs:sg s=true
  ·rw [tr_zero ((ok_rung h).2 hs),hs];decide
  ·simp [hs]
 have hdm:=Nat.div_add_mod (val (tr s)) (2 ^ T)
 have hd:sval (xw s) - sval (irung (qk s))=((val (tr s) % 2 ^ T:Nat):Int):=by
  rw [hv1,hv2];unfold qk;rw [Nat.mul_comm (val (tr s) / 2 ^ T)];omega
 rw [hd] at he hneg
 rw [show ((val (tr s) % 2 ^ T:Nat):Int).natAbs=val (tr s) % 2 ^ T by omega] at he
 have thinF:(val (tr s) % 2 ^ T) % 2 ^ ((val (tr s) % 2 ^ T).log2 - 52)=0:=by
  have e:∃ c e,c < 9007199254740992∧val (tr s)=c*2 ^ e:=by
   unfold val
   split
   ·exact ⟨tr s,0,by omega,by simp⟩
   ·exact ⟨_,_,by have:=Nat.mod_lt (tr s) (show 0 < 4503599627370496 by decide);omega,rfl⟩
  obtain ⟨c,e,hc,he⟩:=e
  rw [he]
  by_cases hT:T≤e
  ·have:c*2 ^ e % 2 ^ T=0:=Nat.mod_eq_zero_of_dvd (Nat.dvd_trans (Nat.pow_dvd_pow 2 hT) (Nat.dvd_mul_left _ _))
   rw [this];rfl
  ·rw [show T=(T - e)+e by omega,Nat.pow_add,Nat.mul_mod_mul_right]
   exact thin _ e (Nat.lt_of_le_of_lt (Nat.mod_le _ _) hc)
 have hval:=val_rungV _ thinF
 have hmod:val (tr s) % 2 ^ T < 2 ^ T:=Nat.mod_lt _ (Nat.two_pow_pos T)
 have hlt:rungV 0 (val (tr s) % 2 ^ T) < 9218868437227405312:=by
  refine Nat.lt_of_not_le fun hh=>?_
  have h1:=val_le hh
  rw [hval] at h1
  have h2:=lt_val_inf (val (tr s) % 2 ^ T) (Nat.lt_of_lt_of_le hmod (Nat.pow_le_pow_right (by decide) (by omega)))
  omega
 rw [Nat.min_eq_left (by rw [inf_eq];omega)] at he
 have hlw:lw s=D.word sn (rungV 0 (val (tr s) % 2 ^ T)):=by unfold lw;rw [he];rfl
 have hr:rung (lw s)=rungV 0 (val (tr s) % 2 ^ T):=by rw [hlw];exact word_rung _ _ (by omega)
 have hs2:sg (lw s)=sn:=by rw [hlw];exact word_sg _ _ (by omega)
 have hkey:key (lw s)=(rungV 0 (val (tr s) % 2 ^ T):Int):=by
  unfold key;rw [hr,hs2]
  by_cases h0:val (tr s) % 2 ^ T=0
  ·rw [h0,show rungV 0 0=0 by decide];simp
  ·have:=hneg (by omega)
   rw [decide_eq_false (by omega)] at this
   rw [this];rfl
 have hkh:key half=4602678819172646912:=by decide
 have hvh:=val_half
 refine ⟨by rw [he,hlw],?_,?_,?_⟩
 ·unfold isn;rw [hr];exact decide_eq_false (by omega)
 ·rw [hkey,hkh]
  apply decide_eq_decide.2
  constructor
  ·intro hh
   have:val half < val (rungV 0 (val (tr s) % 2 ^ T)):=val_lt (by unfold half;omega)
   rw [hval] at this;omega
  ·intro hh
   have:¬ rungV 0 (val (tr s) % 2 ^ T)≤half:=fun hle=>by
    have:=val_le hle;rw [hval] at this;omega
   unfold half at this;omega
 ·rw [hkey,hkh,Bool.eq_iff_iff,decide_eq_true_iff,beq_iff_eq]
  constructor
  ·intro hh
   have:rungV 0 (val (tr s) % 2 ^ T)=half:=by unfold half;omega
   rw [this] at hval;omega
  ·intro hh
   have h1:val (rungV 0 (val (tr s) % 2 ^ T))=val half:=by rw [hval];omega
   rcases Nat.lt_trichotomy (rungV 0 (val (tr s) % 2 ^ T)) half with hl | hl | hl
   ·have:=val_lt hl;omega
   ·unfold half at hl;omega
   ·have:=val_lt hl;omega
theorem tk_qk (s:Nat):tk s=qk s+(decide (2 ^ T < 2*(val (tr s) % 2 ^ T)) || (2 ^ T == 2*(val (tr s) % 2 ^ T) && qk s % 2 == 1)).toNat:=rfl
def ofB (n:Nat):Nat:=(D.div (floatOfInt .f64 (n:Int)) ten).getD 0
end Go.Proofs.Fl
namespace Go.Proofs.YtjdeemmaaiecnaaGreat
namespace Secs
open Go.ChangeShapes Go.WideShapes Go.ChangeAt Go.RowKit Go.Proofs.Fl
def cap (n:Int):Int:=if n < 0 then 0 else if 2147483647 < n then 2147483647 else n
theorem cap_neg {n:Int} (h:n < 0):cap n=0:=by unfold cap;rw [if_pos h]
theorem cap_big {n:Int} (h:2147483647 < n):cap n=2147483647:=by unfold cap;rw [if_neg (by omega),if_pos h]
theorem cap_in {n:Int} (h:0≤n) (h':n≤2147483647):cap n=n:=by unfold cap;rw [if_neg (by omega),if_neg (by omega)]
theorem ret_int {k:IntKind} {a b:Int} (h:a=b):Ending.returned (.int k a)=.returned (.int k b):=by rw [h]
theorem ret_tick {a b:Int} (h:a=b):Ending.returned (.tuple #[.int .i64 a,.bool true])=.returned (.tuple #[.int .i64 b,.bool true]):=by rw [h]
theorem ret_bool {a b:Bool} (h:a=b):Ending.returned (.bool a)=.returned (.bool b):=by rw [h]
theorem ret_float {k:FloatKind} {a b:Nat} (h:a=b):Ending.returned (.float k a)=.returned (.float k b):=by rw [h]
theorem limit_any (n:Int) (w:World):Calls Tryz.prog 134 #[.int .i64 n] w fun e w'=>e=.returned (.int .i64 (cap n))∧w=w':=by
 by_cases h1:n < 0
 ·go_enter Tryz.func134,Tryz.ntmps134
  go_wp2
  go_ret
  exact ⟨ret_int (cap_neg h1).symm,rfl⟩
 by_cases h2:2147483647 < n
 ·go_enter Tryz.func134,Tryz.ntmps134
  go_wp2
  go_ret
  exact ⟨ret_int (cap_big h2).symm,rfl⟩
 ·go_enter Tryz.func134,Tryz.ntmps134
  go_wp2
  go_ret
  exact ⟨ret_int (cap_in (by omega) (by omega)).symm,rfl⟩
theorem cap_any (n:Int) (w:World):Calls Tryz.prog 133 #[.int .i64 n] w fun e w'=>e=.returned (.int .i64 (cap n))∧w=w':=by
 go_enter Tryz.func133,Tryz.ntmps133
 go_wp2_with (go_at_call 134;refine (limit_any _ _).mono ?_;rintro e w' ⟨rfl,rfl⟩)
 go_ret
 exact ⟨rfl,rfl⟩
theorem o_ne_self (x:Nat):(FloatKind.f64.format.order x x != some .eq)=isn x:=by
 show (D.order x x != some .eq)=isn x
 cases h:isn x
 ·have:=o_eq h h
  rw [bne,this];simp
 ·rw [order_nan x x (.inl h)];rfl
theorem isnan_any (x:Nat) (w:World):Calls Tryz.prog 129 #[.float .f64 x] w fun e w'=>e=.returned (.bool (isn x))∧w=w':=by
 go_enter Tryz.func129,Tryz.ntmps129
 go_wp2
 go_ret
 exact ⟨ret_bool (o_ne_self x),rfl⟩
def cut (n:Int):Nat:=(if n < 0 then 0 else if 9999 < n then 9999 else n).toNat
def Quo:Prop:=∀ k:Nat,k≤9999→D.div (floatOfInt .f64 (k:Int)) ten=some (ofB k)
theorem quo_holds:Quo:=by
 intro k hk
 have hf:=float_of k (by omega)
 have hi:=irung_lt k (by omega)
 obtain ⟨m,i,P,rx,-,-,-⟩:=read_fin (irung k) (by unfold fin rung;omega)
 have:∃ s,D.div (floatOfInt .f64 (k:Int)) ten=some s:=by
  rw [hf]
  unfold Ieee.Format.div
  rw [rx,show D.read ten=.number false 5629499534213120 (-49) by decide]
  unfold Ieee.Datum.quotient
  dsimp only
  rw [if_neg (by decide)]
  exact ⟨_,rfl⟩
 obtain ⟨s,hs⟩:=this
 unfold ofB
 rw [hs]
 rfl
theorem quo_at (hQ:Quo) (k:Int) (hk0:0≤k) (hk:k≤9999):∀ t w,(binOp .quo t (.float .f64 (floatOfInt .f64 k)) (.float .f64 4621819117588971520)).run Tryz.prog w=.ok (.float .f64 (ofB k.toNat)) w:=by
 intro t w
 obtain ⟨n,rfl⟩:=Int.eq_ofNat_of_zero_le hk0
 exact run_float_arith w .quo t .f64 _ _ _ (hQ n (by omega))
theorem of_any (hQ:Quo) (n:Int) (w:World):Calls Tryz.prog 132 #[.int .i64 n] w fun e w'=>e=.returned (.float .f64 (ofB (cut n)))∧w=w':=by
 have hop:=quo_at hQ
 clear hQ
 by_cases h1:n < 0
 ·have HC:=Lib.hid (show cut n=0 by unfold cut;rw [if_pos h1];rfl)
  have hq:=hop 0 (by omega) (by omega)
  have hcap:=cap_neg h1
  clear hop
  go_enter Tryz.func132,Tryz.ntmps132
  go_wp2_with (first | (go_at_call 133;refine (cap_any _ _).mono ?_;rintro e w' ⟨rfl,rfl⟩) | simp only [hq])
  go_ret
  exact ⟨ret_float (by rw [HC.out]),rfl⟩
 by_cases h2:9999 < n
 ·have HC:=Lib.hid (show cut n=9999 by unfold cut;rw [if_neg h1,if_pos h2];rfl)
  have hq:=hop 9999 (by omega) (by omega)
  have hcap:9999 < cap n:=by unfold cap;rw [if_neg h1];split <;> omega
  clear hop
  go_enter Tryz.func132,Tryz.ntmps132
  go_wp2_with (first | (go_at_call 133;refine (cap_any _ _).mono ?_;rintro e w' ⟨rfl,rfl⟩) | simp only [hq])
  go_ret
  exact ⟨ret_float (by rw [HC.out]),rfl⟩
 ·have HC:=Lib.hid (show cut n=n.toNat by unfold cut;rw [if_neg h1,if_neg h2])
  have hq:=hop n (by omega) (by omega)
  have hcap:=cap_in (n:=n) (by omega) (by omega)
  clear hop
  go_enter Tryz.func132,Tryz.ntmps132
  go_wp2_with (first | (go_at_call 133;refine (cap_any _ _).mono ?_;rintro e w' ⟨rfl,rfl⟩) | simp only [hq])
  go_ret
  exact ⟨ret_float (by rw [HC.out]),rfl⟩
theorem of_top:ofB (cut 9999)=4652006429231887155:=by decide +kernel
theorem longest_any (hQ:Quo) (w:World):Calls Tryz.prog 130 #[] w fun e w'=>e=.returned (.float .f64 4652006429231887155)∧w=w':=by
 have HQ:=Lib.hid hQ
 clear hQ
 go_enter Tryz.func130,Tryz.ntmps130
 go_wp2_with (go_at_call 132;refine (of_any HQ.out _ _).mono ?_;rintro e w' ⟨rfl,rfl⟩)
 go_ret
 exact ⟨ret_float of_top,rfl⟩
theorem even_call {s:Nat} (h:ok s=true) (w:World):(callFunc 131 #[.float .f64 (xw s)]).run Tryz.prog w=.ok (.value (.float .f64 (rw' s))) w:=by
 rw [run_callFunc_extern (e:=Extern.MathFloor.toIntegral "math.RoundToEven" .even) Tryz.func131 (by kernel_rfl) (by kernel_rfl) (by kernel_rfl) (by kernel_rfl)]
 have hr:=round_ok h
 obtain ⟨m,i,P,rx,-,-,-⟩:=read_fin (xw s) (xw_fin h)
 have e:FloatKind.decode .f64 (xw s)=.number (sg (xw s)) m i:=rx
 have e2:FloatKind.encode .f64 (Ieee.Datum.integral .even (.number (sg (xw s)) m i))=rw' s:=by rw [← hr,← rx];rfl
 have key:Extern.MathFloor.toIntegral "math.RoundToEven" .even #[.float .f64 (xw s)]=pure (.float .f64 (rw' s)):=by
  show Extern.MathFloor.toIntegral.match_1 (fun _=>Sem Value) (FloatKind.decode .f64 (xw s)) _ _=_
  rw [e]
  show pure (Value.float .f64 (FloatKind.encode .f64 (Ieee.Datum.integral .even (.number (sg (xw s)) m i))))=_
  rw [e2]
 rw [key]
 rfl
theorem bits_call (x:Nat) (w:World):(callFunc 68 #[.float .f64 x]).run Tryz.prog w=.ok (.value (.int .u64 x)) w:=by
 rw [run_callFunc_extern (e:=Extern.MathFloatBits.float64bits) Tryz.func68 (by kernel_rfl) (by kernel_rfl) (by kernel_rfl) (by kernel_rfl)]
 rfl
theorem ord_cases (x y:Nat) (hx:isn x=false) (hy:isn y=false) :
  (key x < key y∧FloatKind.f64.format.order x y=some .lt)∨(key x=key y∧FloatKind.f64.format.order x y=some .eq)∨(key y < key x∧FloatKind.f64.format.order x y=some .gt):=by
 have h:FloatKind.f64.format.order x y=some (compare (key x) (key y)):=order_key x y hx hy
 rw [h,Int.compare_eq_ite_lt]
 rcases Int.lt_trichotomy (key x) (key y) with hl | hl | hl
 ·exact .inl ⟨hl,by rw [if_pos hl]⟩
 ·exact .inr (.inl ⟨hl,by rw [if_neg (by omega),if_neg (by omega)]⟩)
 ·exact .inr (.inr ⟨hl,by rw [if_neg (by omega),if_pos hl]⟩)
theorem ord_nan (x y:Nat) (h:isn x=true∨isn y=true):FloatKind.f64.format.order x y=none:=order_nan x y h
theorem key0:key 0=0:=by decide
theorem keyT:key 4652006429231887155=4652006429231887155:=by decide
theorem isn0:isn 0=false:=by decide
theorem isnT:isn 4652006429231887155=false:=by decide
theorem isnan_t {x:Nat} (h:isn x=true) (w:World):Calls Tryz.prog 129 #[.float .f64 x] w fun e w'=>e=.returned (.bool true)∧w=w' :=
 (isnan_any x w).mono fun _ _ ⟨a,b⟩=>⟨by rw [a,h],b⟩
theorem isnan_f {x:Nat} (h:isn x=false) (w:World):Calls Tryz.prog 129 #[.float .f64 x] w fun e w'=>e=.returned (.bool false)∧w=w' :=
 (isnan_any x w).mono fun _ _ ⟨a,b⟩=>⟨by rw [a,h],b⟩
theorem ticks_no (hQ:Quo) {s:Nat} (h:ok s=false) (w:World):Calls Tryz.prog 120 #[.float .f64 s] w fun e w'=>e=.returned (.tuple #[.int .i64 0,.bool false])∧w=w':=by
 have HQ:=Lib.hid hQ
 clear hQ
 cases hn:isn s
 ·have h0:=ord_cases s 0 hn isn0
  have hT:=ord_cases s 4652006429231887155 hn isnT
  rw [key0] at h0
  rw [keyT] at hT
  have hk:key s < 0∨0≤key s∧4652006429231887155 < key s:=by
   have:¬ ok s=true:=by rw [h];simp
   rw [ok_iff] at this
   by_cases a:key s < 0
   ·exact .inl a
   ·by_cases b:4652006429231887155 < key s
    ·exact .inr ⟨by omega,b⟩
    ·exact absurd ⟨hn,by omega,by omega⟩ this
  have HN:=Lib.hid hn
  clear hn h
  rcases hk with hk | ⟨hk0,hk⟩
  ·have ho:FloatKind.f64.format.order s 0=some .lt:=by rcases h0 with ⟨a,b⟩ | ⟨a,b⟩ | ⟨a,b⟩ <;> first | exact b | omega
   clear h0 hT
   go_enter Tryz.func120,Tryz.ntmps120
   go_wp2_with (go_at_call 129;refine (isnan_f HN.out _).mono ?_;rintro e w' ⟨rfl,rfl⟩)
   go_ret2
   exact ⟨rfl,rfl⟩
  ·have ho2:FloatKind.f64.format.order s 4652006429231887155=some .gt:=by rcases hT with ⟨a,b⟩ | ⟨a,b⟩ | ⟨a,b⟩ <;> first | exact b | omega
   clear hT
   rcases h0 with ⟨a,ho⟩ | ⟨a,ho⟩ | ⟨a,ho⟩
   ·omega
   all_goals
    clear a
    go_enter Tryz.func120,Tryz.ntmps120
    go_wp2_with (first | (go_at_call 129;refine (isnan_f HN.out _).mono ?_;rintro e w' ⟨rfl,rfl⟩) | (go_at_call 130;refine (longest_any HQ.out _).mono ?_;rintro e w' ⟨rfl,rfl⟩))
    go_ret2
    exact ⟨rfl,rfl⟩
 ·have HN:=Lib.hid hn
  clear hn h
  go_enter Tryz.func120,Tryz.ntmps120
  go_wp2_with (go_at_call 129;refine (isnan_t HN.out _).mono ?_;rintro e w' ⟨rfl,rfl⟩)
  go_ret2
  exact ⟨rfl,rfl⟩
theorem ticks_yes (hQ:Quo) {s:Nat} (h:ok s=true) (w:World):Calls Tryz.prog 120 #[.float .f64 s] w fun e w'=>e=.returned (.tuple #[.int .i64 (tk s),.bool true])∧w=w':=by
 have HQ:=Lib.hid hQ
 clear hQ
 obtain ⟨hn,hlo,hhi⟩:=(ok_iff s).1 h
 have h0:=ord_cases s 0 hn isn0
 have hT:=ord_cases s 4652006429231887155 hn isnT
 rw [key0] at h0
 rw [keyT] at hT
 have HN:=Lib.hid hn
 have hm:∀ t w,(binOp .mul t (.float .f64 4621819117588971520) (.float .f64 s)).run Tryz.prog w=.ok (.float .f64 (xw s)) w:=fun t w=>run_float_arith w .mul t .f64 _ _ _ (mul_ok h).1
 have he:=even_call h
 have hc:∀ w,(convert 69 3 (.float .f64 (rw' s))).run Tryz.prog w=.ok (.int .i64 (tk s)) w:=fun w=>run_convert_float_int w 69 3 .f64 .i64 _ _ (by rw [Tryz.underlying69];rfl) Tryz.underlying3 (int_ok h)
 clear hn h
 rcases h0 with ⟨a,ho⟩ | ⟨a,ho⟩ | ⟨a,ho⟩
 ·omega
 all_goals
  rcases hT with ⟨b,ho2⟩ | ⟨b,ho2⟩ | ⟨b,ho2⟩
  rotate_right
  ·omega
  all_goals
   clear a b hlo hhi
   go_enter Tryz.func120,Tryz.ntmps120
   go_wp2_with (first | (go_at_call 129;refine (isnan_f HN.out _).mono ?_;rintro e w' ⟨rfl,rfl⟩) | (go_at_call 130;refine (longest_any HQ.out _).mono ?_;rintro e w' ⟨rfl,rfl⟩) | simp only [hm,he,hc])
   go_ret2
   exact ⟨rfl,rfl⟩
theorem rticks_no {s:Nat} (h:ok s=false) (w:World):Calls Tryz.prog 128 #[.float .f64 s] w fun e w'=>e=.returned (.tuple #[.int .i64 0,.bool false])∧w=w':=by
 cases hn:isn s
 ·have h0:=ord_cases s 0 hn isn0
  have hT:=ord_cases s 4652006429231887155 hn isnT
  rw [key0] at h0
  rw [keyT] at hT
  have hk:key s < 0∨0≤key s∧4652006429231887155 < key s:=by
   have:¬ ok s=true:=by rw [h];simp
   rw [ok_iff] at this
   by_cases a:key s < 0
   ·exact .inl a
   ·by_cases b:4652006429231887155 < key s
    ·exact .inr ⟨by omega,b⟩
    ·exact absurd ⟨hn,by omega,by omega⟩ this
  clear hn h
  rcases hk with hk | ⟨hk0,hk⟩
  ·have ho:FloatKind.f64.format.order s 0=some .lt:=by rcases h0 with ⟨a,b⟩ | ⟨a,b⟩ | ⟨a,b⟩ <;> first | exact b | omega
   clear h0 hT
   go_enter Tryz.func128,Tryz.ntmps128
   go_wp2
   go_ret2
   exact ⟨rfl,rfl⟩
  ·have ho2:FloatKind.f64.format.order s 4652006429231887155=some .gt:=by rcases hT with ⟨a,b⟩ | ⟨a,b⟩ | ⟨a,b⟩ <;> first | exact b | omega
   clear hT
   rcases h0 with ⟨a,ho⟩ | ⟨a,ho⟩ | ⟨a,ho⟩
   ·omega
   all_goals
    clear a
    go_enter Tryz.func128,Tryz.ntmps128
    go_wp2
    go_ret2
    exact ⟨rfl,rfl⟩
 ·have ho:=ord_nan s 0 (.inl hn)
  have ho2:=ord_nan s 4652006429231887155 (.inl hn)
  clear hn h
  go_enter Tryz.func128,Tryz.ntmps128
  go_wp2
  go_ret2
  exact ⟨rfl,rfl⟩
theorem b00 (q:Nat):q+(false || (false && q % 2 == 1)).toNat=q:=rfl
theorem b01 (q:Nat) (h:q % 2=1):q+(false || (true && q % 2 == 1)).toNat=q+1:=by rw [h];rfl
theorem b02 (q:Nat) (h:q % 2=0):q+(false || (true && q % 2 == 1)).toNat=q:=by rw [h];rfl
theorem b1 (q:Nat) (b:Bool):q+(true || b).toNat=q+1:=rfl
theorem cast1 (q:Nat):(q:Int)+1=((q+1:Nat):Int):=rfl
theorem isnH:isn half=false:=by decide
theorem rticks_yes {s:Nat} (h:ok s=true) (w:World):Calls Tryz.prog 128 #[.float .f64 s] w fun e w'=>e=.returned (.tuple #[.int .i64 (tk s),.bool true])∧w=w':=by
 obtain ⟨hn,hlo,hhi⟩:=(ok_iff s).1 h
 have h0:=ord_cases s 0 hn isn0
 have hT:=ord_cases s 4652006429231887155 hn isnT
 rw [key0] at h0
 rw [keyT] at hT
 obtain ⟨hsub,hln,hgt,heq⟩:=rest_ok h
 have hH:=ord_cases (lw s) half hln isnH
 have hq:qk s≤9999:=Nat.le_trans (rhe_lo _ _) (tk_hi h)
 have htk:=tk_qk s
 rw [← hgt,← heq] at htk
 have hm:∀ t w,(binOp .mul t (.float .f64 s) (.float .f64 4621819117588971520)).run Tryz.prog w=.ok (.float .f64 (xw s)) w:=fun t w=>run_float_arith w .mul t .f64 _ _ _ (mul_ok h).2
 have hc:∀ w,(convert 69 3 (.float .f64 (xw s))).run Tryz.prog w=.ok (.int .i64 (qk s)) w:=fun w=>run_convert_float_int w 69 3 .f64 .i64 _ _ (by rw [Tryz.underlying69];rfl) Tryz.underlying3 (cut_ok h)
 have hs:∀ t w,(binOp .sub t (.float .f64 (xw s)) (.float .f64 (irung (qk s)))).run Tryz.prog w=.ok (.float .f64 (lw s)) w:=fun t w=>run_float_arith w .sub t .f64 _ _ _ hsub
 have hf:=float_of (qk s) (by omega)
 have hq0:(0:Int)≤(qk s:Int):=by omega
 have hq1:(qk s:Int)≤9999:=by omega
 have HT:=Lib.hid (show tk s=qk s+(decide (key half < key (lw s)) || (decide (key (lw s)=key half) && qk s % 2 == 1)).toNat from htk)
 clear htk hgt heq hsub hln hn h hq
 have par:qk s % 2=1∨qk s % 2=0:=by omega
 rcases h0 with ⟨a,ho⟩ | ⟨a,ho⟩ | ⟨a,ho⟩
 ·omega
 all_goals
  rcases hT with ⟨b,ho2⟩ | ⟨b,ho2⟩ | ⟨b,ho2⟩
  rotate_right
  ·omega
  all_goals
   clear a b hlo hhi
   rcases hH with ⟨c,ho3⟩ | ⟨c,ho3⟩ | ⟨c,ho3⟩
   ·have HE:=Lib.hid (show tk s=qk s from by rw [HT.out,decide_eq_false (by omega),decide_eq_false (by omega)];exact b00 _)
    clear HT par c
    go_enter Tryz.func128,Tryz.ntmps128
    go_wp2_with (simp only [hm,hc,hs,hf])
    go_ret2
    exact ⟨ret_tick (by rw [HE.out]),rfl⟩
   ·rcases par with p | p
    ·have HE:=Lib.hid (show tk s=qk s+1 from by rw [HT.out,decide_eq_false (by omega),decide_eq_true c];exact b01 _ p)
     have p':(qk s:Int) % 2=1:=by omega
     clear HT p c
     go_enter Tryz.func128,Tryz.ntmps128
     go_wp2_with (simp only [hm,hc,hs,hf])
     go_ret2
     exact ⟨ret_tick (by rw [HE.out];exact cast1 _),rfl⟩
    ·have HE:=Lib.hid (show tk s=qk s from by rw [HT.out,decide_eq_false (by omega),decide_eq_true c];exact b02 _ p)
     have p':(qk s:Int) % 2=0:=by omega
     clear HT p c
     go_enter Tryz.func128,Tryz.ntmps128
     go_wp2_with (simp only [hm,hc,hs,hf])
     go_ret2
     exact ⟨ret_tick (by rw [HE.out]),rfl⟩
   ·have HE:=Lib.hid (show tk s=qk s+1 from by rw [HT.out,decide_eq_true c];exact b1 _ _)
    clear HT par c
    go_enter Tryz.func128,Tryz.ntmps128
    go_wp2_with (simp only [hm,hc,hs,hf])
    go_ret2
    exact ⟨ret_tick (by rw [HE.out];exact cast1 _),rfl⟩
end Secs
namespace MayF
open Go.ChangeShapes Go.WideShapes Go.ChangeAt Go.RowKit Go.Proofs.Fl
open Secs
def neg (x:Nat):Bool:=decide (wrap64 (x:Int) < 0)
theorem signbit_any (x:Nat) (w:World):Calls Tryz.prog 121 #[.float .f64 x] w fun e w'=>e=.returned (.bool (neg x))∧w=w':=by
 have hb:=bits_call x
 go_enter Tryz.func121,Tryz.ntmps121
 go_wp2_with (simp only [hb])
 go_ret
 exact ⟨rfl,rfl⟩
theorem bits_any (x:Nat) (w:World):Calls Tryz.prog 29 #[.float .f64 x] w fun e w'=>e=.returned (.int .u64 x)∧w=w':=by
 have hb:=bits_call x
 go_enter Tryz.func29,Tryz.ntmps29
 go_wp2_with (simp only [hb])
 go_ret
 exact ⟨rfl,rfl⟩
def level (x:Nat):Bool:=!isn x && decide (0 < key x) && decide (key x≤4696837146684686336)
theorem keyM:key 4696837146684686336=4696837146684686336:=by decide
theorem isnM:isn 4696837146684686336=false:=by decide
theorem level_any (x:Nat) (w:World):Calls Tryz.prog 109 #[.float .f64 x] w fun e w'=>e=.returned (.bool (level x))∧w=w':=by
 cases hn:isn x
 ·have h0:=ord_cases x 0 hn isn0
  have hT:=ord_cases x 4696837146684686336 hn isnM
  rw [key0] at h0
  rw [keyM] at hT
  have HN:=Lib.hid hn
  clear hn
  rcases h0 with ⟨a,ho⟩ | ⟨a,ho⟩ | ⟨a,ho⟩
  all_goals rcases hT with ⟨b,ho2⟩ | ⟨b,ho2⟩ | ⟨b,ho2⟩
  all_goals
   have HA:=Lib.hid a
   have HB:=Lib.hid b
   clear a b
   go_enter Tryz.func109,Tryz.ntmps109
   go_wp2
   go_ret
   have a:=HA.out
   have b:=HB.out
   exact ⟨ret_bool (by unfold level;rw [HN.out];first | (rw [decide_eq_true (by omega),decide_eq_true (by omega)];rfl) | (rw [decide_eq_false (by omega)];simp) | (rw [decide_eq_false (p:=key x≤_) (by omega)];simp)),rfl⟩
 ·have ho:=ord_nan x 0 (.inl hn)
  have ho2:=ord_nan x 4696837146684686336 (.inl hn)
  have HN:=Lib.hid hn
  clear hn
  go_enter Tryz.func109,Tryz.ntmps109
  go_wp2
  go_ret
  exact ⟨ret_bool (by unfold level;rw [HN.out];rfl),rfl⟩
theorem rlevel_any (x:Nat) (w:World):Calls Tryz.prog 116 #[.float .f64 x] w fun e w'=>e=.returned (.bool (level x))∧w=w':=by
 cases hn:isn x
 ·have h0:=ord_cases x 0 hn isn0
  have hT:=ord_cases x 4696837146684686336 hn isnM
  rw [key0] at h0
  rw [keyM] at hT
  have HN:=Lib.hid hn
  clear hn
  rcases h0 with ⟨a,ho⟩ | ⟨a,ho⟩ | ⟨a,ho⟩
  all_goals rcases hT with ⟨b,ho2⟩ | ⟨b,ho2⟩ | ⟨b,ho2⟩
  all_goals
   have HA:=Lib.hid a
   have HB:=Lib.hid b
   clear a b
   go_enter Tryz.func116,Tryz.ntmps116
   go_wp2
   go_ret
   have a:=HA.out
   have b:=HB.out
   exact ⟨ret_bool (by unfold level;rw [HN.out];first | (rw [decide_eq_true (by omega),decide_eq_true (by omega)];rfl) | (rw [decide_eq_false (by omega)];simp) | (rw [decide_eq_false (p:=key x≤_) (by omega)];simp)),rfl⟩
 ·have ho:=ord_nan x 0 (.inl hn)
  have ho2:=ord_nan x 4696837146684686336 (.inl hn)
  have HN:=Lib.hid hn
  clear hn
  go_enter Tryz.func116,Tryz.ntmps116
  go_wp2
  go_ret
  exact ⟨ret_bool (by unfold level;rw [HN.out];rfl),rfl⟩
def span (x:Nat):Bool:=ok x && !neg x
theorem span_any (x:Nat) (w:World):Calls Tryz.prog 110 #[.float .f64 x] w fun e w'=>e=.returned (.bool (span x))∧w=w':=by
 cases hk:ok x
 ·have HK:=Lib.hid hk
  clear hk
  go_enter Tryz.func110,Tryz.ntmps110
  go_wp2_with (go_at_call 120;refine (ticks_no quo_holds HK.out _).mono ?_;rintro e w' ⟨rfl,rfl⟩)
  go_ret
  exact ⟨ret_bool (by unfold span;rw [HK.out,Bool.false_and]),rfl⟩
 ·have HK:=Lib.hid hk
  clear hk
  go_enter Tryz.func110,Tryz.ntmps110
  go_wp2_with (first | (go_at_call 120;refine (ticks_yes quo_holds HK.out _).mono ?_;rintro e w' ⟨rfl,rfl⟩) | (go_at_call 121;refine (signbit_any _ _).mono ?_;rintro e w' ⟨rfl,rfl⟩))
  go_ret
  exact ⟨ret_bool (by unfold span;rw [HK.out,Bool.true_and]),rfl⟩
theorem rspan_any (x:Nat) (w:World):Calls Tryz.prog 117 #[.float .f64 x] w fun e w'=>e=.returned (.bool (span x))∧w=w':=by
 cases hk:ok x
 ·have HK:=Lib.hid hk
  clear hk
  go_enter Tryz.func117,Tryz.ntmps117
  go_wp2_with (go_at_call 128;refine (rticks_no HK.out _).mono ?_;rintro e w' ⟨rfl,rfl⟩)
  go_ret
  exact ⟨ret_bool (by unfold span;rw [HK.out,Bool.false_and]),rfl⟩
 ·have HK:=Lib.hid hk
  clear hk
  go_enter Tryz.func117,Tryz.ntmps117
  go_wp2_with (first | (go_at_call 128;refine (rticks_yes HK.out _).mono ?_;rintro e w' ⟨rfl,rfl⟩) | (go_at_call 121;refine (signbit_any _ _).mono ?_;rintro e w' ⟨rfl,rfl⟩))
  go_ret
  exact ⟨ret_bool (by unfold span;rw [HK.out,Bool.true_and]),rfl⟩
end MayF
namespace May
open Go.ChangeShapes Go.WideShapes Go.ChangeAt Go.RowKit
open Tab MayF
def Ph.may (p:Ph):Bool:=allIn 9999 [p.min,p.gap,p.max,p.top,p.step,p.yellow,p.red,p.walk,p.blinks] && allIn 3 [p.recall]
def rowMay (l:List Int):Bool:=decide (l.length≤8) && allIn 7 l
def groupMay (g:List Int × List Int):Bool:=rowMay g.1 && rowMay g.2
def Det.may (d:Det):Bool:=allIn 7 [d.phase] && (level d.on && (level d.off && (span d.delay && (span d.extend && allIn 9999 [d.maxOn,d.maxOff]))))
def Rl.may (r:Rl):Bool:=allIn 255 [r.bars,r.clear,r.dwell,r.exit] && (allIn 9999 [r.delay,r.green,r.foot,r.hold,r.stay,r.most] && allIn 2147483647 [r.limit])
def Bs.may (b:Bs):Bool:=allIn 255 [b.set] && allIn 9999 [b.lock]
theorem row_new (w:World) (t:TypeId) (l:List Int) (n:Nat) (hn:l.length=n) (hm:n≤maxLen) (k:Nat) (hk:w.heap.size=k):IntRow (w.alloc (.cells (l.map I).toArray t)) ⟨some ⟨k,0,none⟩,n⟩ l:=by
 subst hn hk
 refine .inr ⟨_,rfl,Nat.le_refl _,hm,fun i v hv j u hu=>?_⟩
 cases j with
 | zero =>
  obtain rfl:=Option.some.inj hu
  rw [Nat.mul_one,add_two,Nat.add_zero,Addr.add_mid,Nat.zero_add]
  rw [cell_of_row _ _ _ _ _ _ (heap_alloc_new w _)]
  simp [hv]
 | succ j=>cases hu
theorem mayPhase_any (p:Ph) (w:World) :
  Calls Tryz.prog 79 #[.agg (Ph.cells p).toArray] w fun e w'=>e=.returned (.bool (Ph.may p))∧Below w.heap.size w w':=by
 obtain ⟨on,min,gap,max,top,step,yellow,red,walk,blinks,recall,lock,rest⟩:=p
 show Calls Tryz.prog 79 #[.agg #[.bool on,I min,I gap,I max,I top,I step,I yellow,I red,I walk,I blinks,I recall,.bool lock,.bool rest]] w _
 go_enter Tryz.func79,Tryz.ntmps79
 go_wp2_with fail
 refine (within_any 9999 _ _ [min,gap,max,top,step,yellow,red,walk,blinks] _ (row_new _ _ [min,gap,max,top,step,yellow,red,walk,blinks] 9 rfl (by decide) _ (by simp))).mono ?_
 rintro e w' ⟨rfl,rfl⟩
 generalize hb1:allIn 9999 [min,gap,max,top,step,yellow,red,walk,blinks]=b1
 have HB1:=Lib.hid hb1
 clear hb1
 cases b1
 ·go_wp2
  go_ret
  exact ⟨ret_bool (by unfold Ph.may;simp only [HB1.out,Bool.true_and,Bool.false_and,Bool.and_true,Bool.and_false]),(by repeat' first | exact Below.refl _ _ | (refine Below.alloc ?_ ?_ _) | (simp;done) | (simp;omega))⟩
 go_wp2_with fail
 refine (within_any 3 _ _ [recall] _ (row_new _ _ [recall] 1 rfl (by decide) _ (by simp))).mono ?_
 rintro e w' ⟨rfl,rfl⟩
 generalize hb2:allIn 3 [recall]=b2
 have HB2:=Lib.hid hb2
 clear hb2
 go_wp2
 go_ret
 exact ⟨ret_bool (by unfold Ph.may;simp only [HB1.out,HB2.out,Bool.true_and,Bool.false_and,Bool.and_true,Bool.and_false]),(by repeat' first | exact Below.refl _ _ | (refine Below.alloc ?_ ?_ _) | (simp;done) | (simp;omega))⟩
theorem mayDetector_any (d:Det) (w:World) :
  Calls Tryz.prog 84 #[.agg (Det.cells d).toArray] w fun e w'=>e=.returned (.bool (Det.may d))∧Below w.heap.size w w':=by
 obtain ⟨phase,on,off,delay,extend,maxOn,maxOff⟩:=d
 show Calls Tryz.prog 84 #[.agg #[I phase,F on,F off,F delay,F extend,I maxOn,I maxOff]] w _
 go_enter Tryz.func84,Tryz.ntmps84
 go_wp2_with fail
 refine (within_any 7 _ _ [phase] _ (row_new _ _ [phase] 1 rfl (by decide) _ (by simp))).mono ?_
 rintro e w' ⟨rfl,rfl⟩
 generalize hb1:allIn 7 [phase]=b1
 have HB1:=Lib.hid hb1
 clear hb1
 cases b1
 ·go_wp2
  go_ret
  exact ⟨ret_bool (by unfold Det.may;simp only [HB1.out,Bool.true_and,Bool.false_and,Bool.and_true,Bool.and_false]),(by repeat' first | exact Below.refl _ _ | (refine Below.alloc ?_ ?_ _) | (simp;done) | (simp;omega))⟩
 go_wp2_with fail
 refine (level_any on _).mono ?_
 rintro e w' ⟨rfl,rfl⟩
 generalize hb2:level on=b2
 have HB2:=Lib.hid hb2
 clear hb2
 cases b2
 ·go_wp2
  go_ret
  exact ⟨ret_bool (by unfold Det.may;simp only [HB1.out,HB2.out,Bool.true_and,Bool.false_and,Bool.and_true,Bool.and_false]),(by repeat' first | exact Below.refl _ _ | (refine Below.alloc ?_ ?_ _) | (simp;done) | (simp;omega))⟩
 go_wp2_with fail
 refine (level_any off _).mono ?_
 rintro e w' ⟨rfl,rfl⟩
 generalize hb3:level off=b3
 have HB3:=Lib.hid hb3
 clear hb3
 cases b3
 ·go_wp2
  go_ret
  exact ⟨ret_bool (by unfold Det.may;simp only [HB1.out,HB2.out,HB3.out,Bool.true_and,Bool.false_and,Bool.and_true,Bool.and_false]),(by repeat' first | exact Below.refl _ _ | (refine Below.alloc ?_ ?_ _) | (simp;done) | (simp;omega))⟩
 go_wp2_with fail
 refine (span_any delay _).mono ?_
 rintro e w' ⟨rfl,rfl⟩
 generalize hb4:span delay=b4
 have HB4:=Lib.hid hb4
 clear hb4
 cases b4
 ·go_wp2
  go_ret
  exact ⟨ret_bool (by unfold Det.may;simp only [HB1.out,HB2.out,HB3.out,HB4.out,Bool.true_and,Bool.false_and,Bool.and_true,Bool.and_false]),(by repeat' first | exact Below.refl _ _ | (refine Below.alloc ?_ ?_ _) | (simp;done) | (simp;omega))⟩
 go_wp2_with fail
 refine (span_any extend _).mono ?_
 rintro e w' ⟨rfl,rfl⟩
 generalize hb5:span extend=b5
 have HB5:=Lib.hid hb5
 clear hb5
 cases b5
 ·go_wp2
  go_ret
  exact ⟨ret_bool (by unfold Det.may;simp only [HB1.out,HB2.out,HB3.out,HB4.out,HB5.out,Bool.true_and,Bool.false_and,Bool.and_true,Bool.and_false]),(by repeat' first | exact Below.refl _ _ | (refine Below.alloc ?_ ?_ _) | (simp;done) | (simp;omega))⟩
 go_wp2_with fail
 refine (within_any 9999 _ _ [maxOn,maxOff] _ (row_new _ _ [maxOn,maxOff] 2 rfl (by decide) _ (by simp))).mono ?_
 rintro e w' ⟨rfl,rfl⟩
 generalize hb6:allIn 9999 [maxOn,maxOff]=b6
 have HB6:=Lib.hid hb6
 clear hb6
 go_wp2
 go_ret
 exact ⟨ret_bool (by unfold Det.may;simp only [HB1.out,HB2.out,HB3.out,HB4.out,HB5.out,HB6.out,Bool.true_and,Bool.false_and,Bool.and_true,Bool.and_false]),(by repeat' first | exact Below.refl _ _ | (refine Below.alloc ?_ ?_ _) | (simp;done) | (simp;omega))⟩
theorem mayRail_any (r:Rl) (w:World) :
  Calls Tryz.prog 86 #[.agg (Rl.cells r).toArray] w fun e w'=>e=.returned (.bool (Rl.may r))∧Below w.heap.size w w':=by
 obtain ⟨bars,clear,dwell,exit,delay,green,foot,hold,stay,most,limit⟩:=r
 show Calls Tryz.prog 86 #[.agg #[I bars,I clear,I dwell,I exit,I delay,I green,I foot,I hold,I stay,I most,I limit]] w _
 go_enter Tryz.func86,Tryz.ntmps86
 go_wp2_with fail
 refine (within_any 255 _ _ [bars,clear,dwell,exit] _ (row_new _ _ [bars,clear,dwell,exit] 4 rfl (by decide) _ (by simp))).mono ?_
 rintro e w' ⟨rfl,rfl⟩
 generalize hb1:allIn 255 [bars,clear,dwell,exit]=b1
 have HB1:=Lib.hid hb1
 clear hb1
 cases b1
 ·go_wp2
  go_ret
  exact ⟨ret_bool (by unfold Rl.may;simp only [HB1.out,Bool.true_and,Bool.false_and,Bool.and_true,Bool.and_false]),(by repeat' first | exact Below.refl _ _ | (refine Below.alloc ?_ ?_ _) | (simp;done) | (simp;omega))⟩
 go_wp2_with fail
 refine (within_any 9999 _ _ [delay,green,foot,hold,stay,most] _ (row_new _ _ [delay,green,foot,hold,stay,most] 6 rfl (by decide) _ (by simp))).mono ?_
 rintro e w' ⟨rfl,rfl⟩
 generalize hb2:allIn 9999 [delay,green,foot,hold,stay,most]=b2
 have HB2:=Lib.hid hb2
 clear hb2
 cases b2
 ·go_wp2
  go_ret
  exact ⟨ret_bool (by unfold Rl.may;simp only [HB1.out,HB2.out,Bool.true_and,Bool.false_and,Bool.and_true,Bool.and_false]),(by repeat' first | exact Below.refl _ _ | (refine Below.alloc ?_ ?_ _) | (simp;done) | (simp;omega))⟩
 go_wp2_with fail
 refine (within_any 2147483647 _ _ [limit] _ (row_new _ _ [limit] 1 rfl (by decide) _ (by simp))).mono ?_
 rintro e w' ⟨rfl,rfl⟩
 generalize hb3:allIn 2147483647 [limit]=b3
 have HB3:=Lib.hid hb3
 clear hb3
 go_wp2
 go_ret
 exact ⟨ret_bool (by unfold Rl.may;simp only [HB1.out,HB2.out,HB3.out,Bool.true_and,Bool.false_and,Bool.and_true,Bool.and_false]),(by repeat' first | exact Below.refl _ _ | (refine Below.alloc ?_ ?_ _) | (simp;done) | (simp;omega))⟩
theorem mayBus_any (b:Bs) (w:World) :
  Calls Tryz.prog 88 #[.agg (Bs.cells b).toArray] w fun e w'=>e=.returned (.bool (Bs.may b))∧Below w.heap.size w w':=by
 obtain ⟨set,lock⟩:=b
 show Calls Tryz.prog 88 #[.agg #[I set,I lock]] w _
 go_enter Tryz.func88,Tryz.ntmps88
 go_wp2_with fail
 refine (within_any 255 _ _ [set] _ (row_new _ _ [set] 1 rfl (by decide) _ (by simp))).mono ?_
 rintro e w' ⟨rfl,rfl⟩
 generalize hb1:allIn 255 [set]=b1
 have HB1:=Lib.hid hb1
 clear hb1
 cases b1
 ·go_wp2
  go_ret
  exact ⟨ret_bool (by unfold Bs.may;simp only [HB1.out,Bool.true_and,Bool.false_and,Bool.and_true,Bool.and_false]),(by repeat' first | exact Below.refl _ _ | (refine Below.alloc ?_ ?_ _) | (simp;done) | (simp;omega))⟩
 go_wp2_with fail
 refine (within_any 9999 _ _ [lock] _ (row_new _ _ [lock] 1 rfl (by decide) _ (by simp))).mono ?_
 rintro e w' ⟨rfl,rfl⟩
 generalize hb2:allIn 9999 [lock]=b2
 have HB2:=Lib.hid hb2
 clear hb2
 go_wp2
 go_ret
 exact ⟨ret_bool (by unfold Bs.may;simp only [HB1.out,HB2.out,Bool.true_and,Bool.false_and,Bool.and_true,Bool.and_false]),(by repeat' first | exact Below.refl _ _ | (refine Below.alloc ?_ ?_ _) | (simp;done) | (simp;omega))⟩
theorem mayRow_any (a:Option Addr) (cap:Nat) (l:List Int) (w:World) (h:IntRow w ⟨a,cap⟩ l) :
  Calls Tryz.prog 108 #[.slice a l.length cap] w fun e w'=>e=.returned (.bool (rowMay l))∧w=w':=by
 have h1:=h.len
 unfold maxLen at h1
 have Hr:=Lib.hid h
 clear h
 by_cases h8:l.length≤8
 ·go_enter Tryz.func108,Tryz.ntmps108
  go_wp2_with (go_at_call 82;refine (within_any _ _ _ _ _ Hr.out).mono ?_;rintro e w' ⟨rfl,rfl⟩)
  go_ret
  exact ⟨ret_bool (by unfold rowMay;rw [decide_eq_true h8,Bool.true_and]),rfl⟩
 ·go_enter Tryz.func108,Tryz.ntmps108
  go_wp2
  go_ret
  exact ⟨ret_bool (by unfold rowMay;rw [decide_eq_false h8,Bool.false_and]),rfl⟩
theorem mayGroup_any (g:Gr) (w:World) (h:g.ok w) :
  Calls Tryz.prog 81 #[.agg g.cells.toArray] w fun e w'=>e=.returned (.bool (groupMay g.data))∧Below w.heap.size w w':=by
 obtain ⟨l0,l1,⟨a0,cap0⟩,⟨a1,cap1⟩⟩:=g
 have H0:=Lib.hid h.1
 have H1:=Lib.hid h.2
 clear h
 show Calls Tryz.prog 81 #[.agg #[.slice a0 l0.length cap0,.slice a1 l1.length cap1]] w _
 go_enter Tryz.func81,Tryz.ntmps81
 go_wp2_with fail
 refine (mayRow_any a0 cap0 l0 _ (H0.out.below ((Below.refl _ _).alloc (Nat.le_refl _) _))).mono ?_
 rintro e w' ⟨rfl,rfl⟩
 generalize hb1:rowMay l0=b1
 have HB1:=Lib.hid hb1
 clear hb1
 cases b1
 ·go_wp2
  go_ret
  exact ⟨ret_bool (by unfold groupMay;simp only [Gr.data,HB1.out,Bool.true_and,Bool.false_and,Bool.and_true,Bool.and_false]),(by repeat' first | exact Below.refl _ _ | (refine Below.alloc ?_ ?_ _) | (simp;done) | (simp;omega))⟩
 go_wp2_with fail
 refine (mayRow_any a1 cap1 l1 _ (H1.out.below ((Below.refl _ _).alloc (Nat.le_refl _) _))).mono ?_
 rintro e w' ⟨rfl,rfl⟩
 generalize hb2:rowMay l1=b2
 have HB2:=Lib.hid hb2
 clear hb2
 go_wp2
 go_ret
 exact ⟨ret_bool (by unfold groupMay;simp only [Gr.data,HB1.out,HB2.out,Bool.true_and,Bool.false_and,Bool.and_true,Bool.and_false]),(by repeat' first | exact Below.refl _ _ | (refine Below.alloc ?_ ?_ _) | (simp;done) | (simp;omega))⟩
end May
namespace May
open Go.ChangeShapes Go.WideShapes Go.ChangeAt Go.RowKit
open Tab
theorem chain {a b c:World} (h:Below a.heap.size a b) (k:Below b.heap.size b c):Below a.heap.size a c:=h.trans (k.mono h.size)
theorem infoP:(Tryz.prog.info? 25).map (·.size)=some 13:=by kernel_rfl
theorem infoG:(Tryz.prog.info? 68).map (·.size)=some 2:=by kernel_rfl
theorem infoD:(Tryz.prog.info? 71).map (·.size)=some 7:=by kernel_rfl
theorem infoR:(Tryz.prog.info? 75).map (·.size)=some 11:=by kernel_rfl
theorem infoB:(Tryz.prog.info? 77).map (·.size)=some 2:=by kernel_rfl
theorem mayAllP_any (m:Int) (a:Option Addr) (cap:Nat) (l:List Ph) (w:World) (h:RowOf 13 Ph.cells w ⟨a,cap⟩ l) :
  Calls Tryz.prog 78 #[.slice a l.length cap,.int .i64 m,.func (.func 79) #[] #[]] w fun e w'=>e=.returned (.bool (decide ((l.length:Int)≤m) && l.all Ph.may))∧Below w.heap.size w w':=by
 have h1:=h.len
 unfold maxLen at h1
 have Hr:=Lib.hid h
 clear h
 by_cases hm:(l.length:Int)≤m
 ·have hm':decide (m < (l.length:Int))=false:=decide_eq_false (by omega)
  have Hm:=Lib.hid hm
  go_enter Tryz.func78,Tryz.ntmps78
  go_wp2
  go_loopw [15] (fun i wr=>∃ k:Nat,k≤l.length∧i=.int .i64 k∧(l.take k).all Ph.may=true∧Below w.heap.size w wr) (fun i _=>l.length - (intOf i).toNat)
  case atStart=>exact ⟨0,Nat.zero_le _,rfl,rfl,Below.refl _ _⟩
  case round =>
   obtain ⟨k,hk,rfl,hall,hbel⟩:=hrel
   have Hall:=Lib.hid hall
   have Hb:=Lib.hid hbel
   clear hall hbel
   by_cases hlt:k < l.length
   ·have hv:=List.getElem?_eq_getElem hlt
    generalize l[k]=v at hv
    obtain ⟨x,hx,hcell⟩:=(Hr.out.below Hb.out).at hv
    obtain rfl:a=some x:=hx
    have HV:=Lib.hid hv
    have HC:=Lib.hid hcell
    clear hv hcell
    go_wp2_with (first | (refine Row.wpList_load_lies rfl 25 _ rfl (x.add (k*13)) rfl v.cells _ HC.out Tryz.underlying25 rfl infoP ?_) | (refine Row.wpList_store_new rfl 25 _ _ rfl _ _ v.cells.toArray rfl rfl rfl infoP rfl v.one ?_) | (refine wpList_load_row rfl 25 _ rfl _ rfl _ _ _ _ (heap_alloc_new _ _) Tryz.underlying25 rfl infoP ?_))
    refine (mayPhase_any v _).mono ?_
    rintro e w2 ⟨rfl,hb2⟩
    have B2:=Lib.hid (chain Hb.out (chain ((Below.refl _ _).alloc (Nat.le_refl _) _) hb2))
    clear hb2
    generalize hb:Ph.may v=b
    have HB:=Lib.hid hb
    clear hb
    cases b
    ·go_wp2
     go_ret
     exact ⟨ret_bool (by rw [all_break (f:=Ph.may) HV.out HB.out,Bool.and_false]),B2.out⟩
    ·go_wp2
     go_roundw
     case rel=>exact ⟨k+1,by omega,by go_num,all_step (f:=Ph.may) HV.out Hall.out HB.out,B2.out⟩
     case measure=>simp [intOf];omega
   ·go_wp2
    go_ret
    exact ⟨ret_bool (by rw [all_end Hall.out hlt,decide_eq_true (by have:=Hm.out;omega)];rfl),Hb.out⟩
 ·have Hm:=Lib.hid hm
  go_enter Tryz.func78,Tryz.ntmps78
  go_wp2
  go_ret
  exact ⟨ret_bool (by rw [decide_eq_false (by have:=Hm.out;omega)];rfl),Below.refl _ _⟩
theorem mayAllG_any (m:Int) (a:Option Addr) (cap:Nat) (l:List Gr) (w:World) (h:RowOf 2 Gr.cells w ⟨a,cap⟩ l) (h2:∀ v ∈ l,v.ok w) :
  Calls Tryz.prog 80 #[.slice a l.length cap,.int .i64 m,.func (.func 81) #[] #[]] w fun e w'=>e=.returned (.bool (decide ((l.length:Int)≤m) && l.all (fun v=>groupMay v.data)))∧Below w.heap.size w w':=by
 have h1:=h.len
 unfold maxLen at h1
 have Hr:=Lib.hid h
 clear h
 have H2:=Lib.hid h2
 clear h2
 by_cases hm:(l.length:Int)≤m
 ·have hm':decide (m < (l.length:Int))=false:=decide_eq_false (by omega)
  have Hm:=Lib.hid hm
  go_enter Tryz.func80,Tryz.ntmps80
  go_wp2
  go_loopw [15] (fun i wr=>∃ k:Nat,k≤l.length∧i=.int .i64 k∧(l.take k).all (fun v=>groupMay v.data)=true∧Below w.heap.size w wr) (fun i _=>l.length - (intOf i).toNat)
  case atStart=>exact ⟨0,Nat.zero_le _,rfl,rfl,Below.refl _ _⟩
  case round =>
   obtain ⟨k,hk,rfl,hall,hbel⟩:=hrel
   have Hall:=Lib.hid hall
   have Hb:=Lib.hid hbel
   clear hall hbel
   by_cases hlt:k < l.length
   ·have hv:=List.getElem?_eq_getElem hlt
    generalize l[k]=v at hv
    obtain ⟨x,hx,hcell⟩:=(Hr.out.below Hb.out).at hv
    obtain rfl:a=some x:=hx
    have HV:=Lib.hid hv
    have HC:=Lib.hid hcell
    clear hv hcell
    go_wp2_with (first | (refine Row.wpList_load_lies rfl 68 _ rfl (x.add (k*2)) rfl v.cells _ HC.out Tryz.underlying68 rfl infoG ?_) | (refine Row.wpList_store_new rfl 68 _ _ rfl _ _ v.cells.toArray rfl rfl rfl infoG rfl v.one ?_) | (refine wpList_load_row rfl 68 _ rfl _ rfl _ _ _ _ (heap_alloc_new _ _) Tryz.underlying68 rfl infoG ?_))
    refine (mayGroup_any v _ (((H2.out _ (List.mem_of_getElem? HV.out)).below Hb.out).below ((Below.refl _ _).alloc (Nat.le_refl _) _))).mono ?_
    rintro e w2 ⟨rfl,hb2⟩
    have B2:=Lib.hid (chain Hb.out (chain ((Below.refl _ _).alloc (Nat.le_refl _) _) hb2))
    clear hb2
    generalize hb:groupMay v.data=b
    have HB:=Lib.hid hb
    clear hb
    cases b
    ·go_wp2
     go_ret
     exact ⟨ret_bool (by rw [all_break (f:=(fun v=>groupMay v.data)) HV.out HB.out,Bool.and_false]),B2.out⟩
    ·go_wp2
     go_roundw
     case rel=>exact ⟨k+1,by omega,by go_num,all_step (f:=(fun v=>groupMay v.data)) HV.out Hall.out HB.out,B2.out⟩
     case measure=>simp [intOf];omega
   ·go_wp2
    go_ret
    exact ⟨ret_bool (by rw [all_end Hall.out hlt,decide_eq_true (by have:=Hm.out;omega)];rfl),Hb.out⟩
 ·have Hm:=Lib.hid hm
  go_enter Tryz.func80,Tryz.ntmps80
  go_wp2
  go_ret
  exact ⟨ret_bool (by rw [decide_eq_false (by have:=Hm.out;omega)];rfl),Below.refl _ _⟩
theorem mayAllD_any (m:Int) (a:Option Addr) (cap:Nat) (l:List Det) (w:World) (h:RowOf 7 Det.cells w ⟨a,cap⟩ l) :
  Calls Tryz.prog 83 #[.slice a l.length cap,.int .i64 m,.func (.func 84) #[] #[]] w fun e w'=>e=.returned (.bool (decide ((l.length:Int)≤m) && l.all Det.may))∧Below w.heap.size w w':=by
 have h1:=h.len
 unfold maxLen at h1
 have Hr:=Lib.hid h
 clear h
 by_cases hm:(l.length:Int)≤m
 ·have hm':decide (m < (l.length:Int))=false:=decide_eq_false (by omega)
  have Hm:=Lib.hid hm
  go_enter Tryz.func83,Tryz.ntmps83
  go_wp2
  go_loopw [15] (fun i wr=>∃ k:Nat,k≤l.length∧i=.int .i64 k∧(l.take k).all Det.may=true∧Below w.heap.size w wr) (fun i _=>l.length - (intOf i).toNat)
  case atStart=>exact ⟨0,Nat.zero_le _,rfl,rfl,Below.refl _ _⟩
  case round =>
   obtain ⟨k,hk,rfl,hall,hbel⟩:=hrel
   have Hall:=Lib.hid hall
   have Hb:=Lib.hid hbel
   clear hall hbel
   by_cases hlt:k < l.length
   ·have hv:=List.getElem?_eq_getElem hlt
    generalize l[k]=v at hv
    obtain ⟨x,hx,hcell⟩:=(Hr.out.below Hb.out).at hv
    obtain rfl:a=some x:=hx
    have HV:=Lib.hid hv
    have HC:=Lib.hid hcell
    clear hv hcell
    go_wp2_with (first | (refine Row.wpList_load_lies rfl 71 _ rfl (x.add (k*7)) rfl v.cells _ HC.out Tryz.underlying71 rfl infoD ?_) | (refine Row.wpList_store_new rfl 71 _ _ rfl _ _ v.cells.toArray rfl rfl rfl infoD rfl v.one ?_) | (refine wpList_load_row rfl 71 _ rfl _ rfl _ _ _ _ (heap_alloc_new _ _) Tryz.underlying71 rfl infoD ?_))
    refine (mayDetector_any v _).mono ?_
    rintro e w2 ⟨rfl,hb2⟩
    have B2:=Lib.hid (chain Hb.out (chain ((Below.refl _ _).alloc (Nat.le_refl _) _) hb2))
    clear hb2
    generalize hb:Det.may v=b
    have HB:=Lib.hid hb
    clear hb
    cases b
    ·go_wp2
     go_ret
     exact ⟨ret_bool (by rw [all_break (f:=Det.may) HV.out HB.out,Bool.and_false]),B2.out⟩
    ·go_wp2
     go_roundw
     case rel=>exact ⟨k+1,by omega,by go_num,all_step (f:=Det.may) HV.out Hall.out HB.out,B2.out⟩
     case measure=>simp [intOf];omega
   ·go_wp2
    go_ret
    exact ⟨ret_bool (by rw [all_end Hall.out hlt,decide_eq_true (by have:=Hm.out;omega)];rfl),Hb.out⟩
 ·have Hm:=Lib.hid hm
  go_enter Tryz.func83,Tryz.ntmps83
  go_wp2
  go_ret
  exact ⟨ret_bool (by rw [decide_eq_false (by have:=Hm.out;omega)];rfl),Below.refl _ _⟩
theorem mayAllR_any (m:Int) (a:Option Addr) (cap:Nat) (l:List Rl) (w:World) (h:RowOf 11 Rl.cells w ⟨a,cap⟩ l) :
  Calls Tryz.prog 85 #[.slice a l.length cap,.int .i64 m,.func (.func 86) #[] #[]] w fun e w'=>e=.returned (.bool (decide ((l.length:Int)≤m) && l.all Rl.may))∧Below w.heap.size w w':=by
 have h1:=h.len
 unfold maxLen at h1
 have Hr:=Lib.hid h
 clear h
 by_cases hm:(l.length:Int)≤m
 ·have hm':decide (m < (l.length:Int))=false:=decide_eq_false (by omega)
  have Hm:=Lib.hid hm
  go_enter Tryz.func85,Tryz.ntmps85
  go_wp2
  go_loopw [15] (fun i wr=>∃ k:Nat,k≤l.length∧i=.int .i64 k∧(l.take k).all Rl.may=true∧Below w.heap.size w wr) (fun i _=>l.length - (intOf i).toNat)
  case atStart=>exact ⟨0,Nat.zero_le _,rfl,rfl,Below.refl _ _⟩
  case round =>
   obtain ⟨k,hk,rfl,hall,hbel⟩:=hrel
   have Hall:=Lib.hid hall
   have Hb:=Lib.hid hbel
   clear hall hbel
   by_cases hlt:k < l.length
   ·have hv:=List.getElem?_eq_getElem hlt
    generalize l[k]=v at hv
    obtain ⟨x,hx,hcell⟩:=(Hr.out.below Hb.out).at hv
    obtain rfl:a=some x:=hx
    have HV:=Lib.hid hv
    have HC:=Lib.hid hcell
    clear hv hcell
    go_wp2_with (first | (refine Row.wpList_load_lies rfl 75 _ rfl (x.add (k*11)) rfl v.cells _ HC.out Tryz.underlying75 rfl infoR ?_) | (refine Row.wpList_store_new rfl 75 _ _ rfl _ _ v.cells.toArray rfl rfl rfl infoR rfl v.one ?_) | (refine wpList_load_row rfl 75 _ rfl _ rfl _ _ _ _ (heap_alloc_new _ _) Tryz.underlying75 rfl infoR ?_))
    refine (mayRail_any v _).mono ?_
    rintro e w2 ⟨rfl,hb2⟩
    have B2:=Lib.hid (chain Hb.out (chain ((Below.refl _ _).alloc (Nat.le_refl _) _) hb2))
    clear hb2
    generalize hb:Rl.may v=b
    have HB:=Lib.hid hb
    clear hb
    cases b
    ·go_wp2
     go_ret
     exact ⟨ret_bool (by rw [all_break (f:=Rl.may) HV.out HB.out,Bool.and_false]),B2.out⟩
    ·go_wp2
     go_roundw
     case rel=>exact ⟨k+1,by omega,by go_num,all_step (f:=Rl.may) HV.out Hall.out HB.out,B2.out⟩
     case measure=>simp [intOf];omega
   ·go_wp2
    go_ret
    exact ⟨ret_bool (by rw [all_end Hall.out hlt,decide_eq_true (by have:=Hm.out;omega)];rfl),Hb.out⟩
 ·have Hm:=Lib.hid hm
  go_enter Tryz.func85,Tryz.ntmps85
  go_wp2
  go_ret
  exact ⟨ret_bool (by rw [decide_eq_false (by have:=Hm.out;omega)];rfl),Below.refl _ _⟩
theorem mayAllB_any (m:Int) (a:Option Addr) (cap:Nat) (l:List Bs) (w:World) (h:RowOf 2 Bs.cells w ⟨a,cap⟩ l) :
  Calls Tryz.prog 87 #[.slice a l.length cap,.int .i64 m,.func (.func 88) #[] #[]] w fun e w'=>e=.returned (.bool (decide ((l.length:Int)≤m) && l.all Bs.may))∧Below w.heap.size w w':=by
 have h1:=h.len
 unfold maxLen at h1
 have Hr:=Lib.hid h
 clear h
 by_cases hm:(l.length:Int)≤m
 ·have hm':decide (m < (l.length:Int))=false:=decide_eq_false (by omega)
  have Hm:=Lib.hid hm
  go_enter Tryz.func87,Tryz.ntmps87
  go_wp2
  go_loopw [15] (fun i wr=>∃ k:Nat,k≤l.length∧i=.int .i64 k∧(l.take k).all Bs.may=true∧Below w.heap.size w wr) (fun i _=>l.length - (intOf i).toNat)
  case atStart=>exact ⟨0,Nat.zero_le _,rfl,rfl,Below.refl _ _⟩
  case round =>
   obtain ⟨k,hk,rfl,hall,hbel⟩:=hrel
   have Hall:=Lib.hid hall
   have Hb:=Lib.hid hbel
   clear hall hbel
   by_cases hlt:k < l.length
   ·have hv:=List.getElem?_eq_getElem hlt
    generalize l[k]=v at hv
    obtain ⟨x,hx,hcell⟩:=(Hr.out.below Hb.out).at hv
    obtain rfl:a=some x:=hx
    have HV:=Lib.hid hv
    have HC:=Lib.hid hcell
    clear hv hcell
    go_wp2_with (first | (refine Row.wpList_load_lies rfl 77 _ rfl (x.add (k*2)) rfl v.cells _ HC.out Tryz.underlying77 rfl infoB ?_) | (refine Row.wpList_store_new rfl 77 _ _ rfl _ _ v.cells.toArray rfl rfl rfl infoB rfl v.one ?_) | (refine wpList_load_row rfl 77 _ rfl _ rfl _ _ _ _ (heap_alloc_new _ _) Tryz.underlying77 rfl infoB ?_))
    refine (mayBus_any v _).mono ?_
    rintro e w2 ⟨rfl,hb2⟩
    have B2:=Lib.hid (chain Hb.out (chain ((Below.refl _ _).alloc (Nat.le_refl _) _) hb2))
    clear hb2
    generalize hb:Bs.may v=b
    have HB:=Lib.hid hb
    clear hb
    cases b
    ·go_wp2
     go_ret
     exact ⟨ret_bool (by rw [all_break (f:=Bs.may) HV.out HB.out,Bool.and_false]),B2.out⟩
    ·go_wp2
     go_roundw
     case rel=>exact ⟨k+1,by omega,by go_num,all_step (f:=Bs.may) HV.out Hall.out HB.out,B2.out⟩
     case measure=>simp [intOf];omega
   ·go_wp2
    go_ret
    exact ⟨ret_bool (by rw [all_end Hall.out hlt,decide_eq_true (by have:=Hm.out;omega)];rfl),Hb.out⟩
 ·have Hm:=Lib.hid hm
  go_enter Tryz.func87,Tryz.ntmps87
  go_wp2
  go_ret
  exact ⟨ret_bool (by rw [decide_eq_false (by have:=Hm.out;omega)];rfl),Below.refl _ _⟩
end May
end Go.Proofs.YtjdeemmaaiecnaaGreat
