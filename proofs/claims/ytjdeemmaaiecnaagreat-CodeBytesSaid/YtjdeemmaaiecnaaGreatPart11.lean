/- 8 texts in one file, in build order. -/
import Derived.Test.YtjdeemmaaiecnaaGreatRows
import Derived.Test.YtjdeemmaaiecnaaGreatPart10
import Derived.Test.YtjdeemmaaiecnaaGreatPart02
import Derived.Test.YtjdeemmaaiecnaaGreatPart04
import Derived.Deep.Cut
import Derived.Deep.CutRange
import Derived.Test.YtjdeemmaaiecnaaGreatPart01
import Derived.Deep.Slices
import Derived.ChangeSame
import Derived.Laws.Cover2
set_option linter.unusedVariables false
set_option linter.unusedSimpArgs false
set_option linter.unusedSectionVars false
set_option maxHeartbeats 8000000
set_option maxRecDepth 100000
namespace Go.Proofs.YtjdeemmaaiecnaaGreat
namespace Same
open Go.ChangeShapes Go.WideShapes Go.ChangeAt Go.RowKit
open Tab
open May (ret_bool chain take_succ' infoP infoG infoD infoR infoB infoT row_new St)
theorem rints_any (a b:Option Addr) (ca cb:Nat) (l m:List Int) (w:World) (h:IntRow w ⟨a,ca⟩ l) (h':IntRow w ⟨b,cb⟩ m) :
  Calls Tryz.prog 28 #[.slice a l.length ca,.slice b m.length cb] w fun e w'=>e=.returned (.bool (decide (l=m)))∧Below w.heap.size w w':=by
 have h1:=h.len
 have h2:=h'.len
 unfold maxLen at h1 h2
 have Hr:=Lib.hid h
 have Hr':=Lib.hid h'
 clear h h'
 by_cases hlen:l.length=m.length
 ·have HL:=Lib.hid hlen
  have hd:((l.length:Int) != (m.length:Int))=false:=by rw [bne_eq_false_iff_eq];omega
  go_enter Tryz.func28,Tryz.ntmps28
  go_wp2
  go_loopw [5] (fun i wr=>∃ k:Nat,k≤l.length∧i=.int .i64 k∧l.take k=m.take k∧Below w.heap.size w wr) (fun i _=>l.length - (intOf i).toNat)
  case atStart=>exact ⟨0,by omega,rfl,rfl,Below.refl _ _⟩
  case round =>
   obtain ⟨k,hk,rfl,hall,hbel⟩:=hrel
   have Hall:=Lib.hid hall
   have Hb:=Lib.hid hbel
   clear hall hbel
   by_cases hlt:k < l.length
   ·have hv:=List.getElem?_eq_getElem hlt
    have hu:=List.getElem?_eq_getElem (show k < m.length by omega)
    generalize l[k]=v at hv
    generalize m[k]'(show k < m.length by omega)=u at hu
    obtain ⟨x,hx,hc⟩:=IntRow.at (Hr.out.below Hb.out) hv
    obtain rfl:a=some x:=hx
    obtain ⟨y,hy,hc'⟩:=IntRow.at (Hr'.out.below Hb.out) hu
    obtain rfl:b=some y:=hy
    have HV:=Lib.hid hv
    have HU:=Lib.hid hu
    have hkm:k < m.length:=by omega
    have hq:∀ p:Ph.S (Row.Old wr),p.world.cell? (x.add k)=some (I v):=fun p=>(p.is.cell (World.block_lt_of_cell? wr _ hc)).trans hc
    have hq':∀ p:Ph.S (Row.Old wr),p.world.cell? (y.add k)=some (I u):=fun p=>(p.is.cell (World.block_lt_of_cell? wr _ hc')).trans hc'
    have hne:Nonempty (Ph.S (Row.Old wr)):=⟨⟨0,wr,Below.refl _ _⟩⟩
    clear hv hu hc hc'
    go_wp2_with fail
    refine Ph.wp_region_ph (Row.Old wr) [] (by kernel_rfl) (by kernel_rfl) (Row.Old.drew _) ?_
    repeat
     (refine Ph.wpPh_calm rfl (fun K hK=>?_)
      go_simp
      refine hK _ ?_
      clear hK K)
    refine Ph.wpPh_nil ?_
    intro w2 hb2
    have B2:=Lib.hid (Below.trans Hb.out (Below.mono hb2 Hb.out.size))
    clear hb2 hne hq hq'
    by_cases hvu:v=u
    ·have HE:=Lib.hid hvu
     have hb:(v != u)=false:=by simpa using hvu
     clear hvu
     go_wp2
     go_roundw
     case rel=>exact ⟨k+1,by omega,by go_num,eq_step HV.out HU.out Hall.out HE.out,B2.out⟩
     case measure=>simp [intOf];omega
    ·have HE:=Lib.hid (show ¬ l=m from eq_break HV.out HU.out hvu)
     have hb:(v != u)=true:=by simpa using hvu
     clear hvu
     go_wp2
     go_ret
     exact ⟨ret_bool (decide_eq_false HE.out).symm,B2.out⟩
   ·have HE:=Lib.hid (show l=m from eq_end Hall.out HL.out hlt)
    go_wp2
    go_ret
    exact ⟨ret_bool (decide_eq_true HE.out).symm,Hb.out⟩
 ·have HL:=Lib.hid (show ¬ l=m from fun e=>hlen (by rw [e]))
  have hd:((l.length:Int) != (m.length:Int))=true:=by rw [bne_iff_ne];omega
  go_enter Tryz.func28,Tryz.ntmps28
  go_wp2
  go_ret
  exact ⟨ret_bool (decide_eq_false HL.out).symm,Below.refl _ _⟩
theorem rints_len (a b:Option Addr) (ca cb:Nat) (l m:List Int) (n n':Nat) (hn:l.length=n) (hn':m.length=n') (w:World) (h:IntRow w ⟨a,ca⟩ l) (h':IntRow w ⟨b,cb⟩ m) :
  Calls Tryz.prog 28 #[.slice a n ca,.slice b n' cb] w fun e w'=>e=.returned (.bool (decide (l=m)))∧Below w.heap.size w w':=by
 subst hn hn';exact rints_any a b ca cb l m w h h'
end Same
namespace Pw
open Go Go.RowKit
open Tab
structure W (P:Program) (ops:Array Oper) (D:Nat→World→Prop) (cs:List Nat) (Q:Act→Prop) (k:Nat) (l:List Oper) (a:Act):Prop where
 out:Ph.wpPh P ops D cs Q k l a
section
variable {P:Program} {D:Nat→World→Prop} {ns:List Nat} {ops:Array Oper} {Q:Act→Prop} {k:Nat} {a:Act} {o:Oper} {rest:List Oper}
theorem region {id:Nat} {Q:Exit→Act→World→Prop} {a:Act} {w:World} {l:List Oper} (D:Nat→World→Prop) (cs:List Nat) (hm:P.follows .mixedOrders=true) (hB:Ph.okB .any l.toArray cs=true) (hD:D 0 w.drew)
  (h:W P l.toArray D cs (fun a'=>∀ w',D cs.length w'→Q .normal a' w') 0 l a):(Code.region id l.toArray true).wp P Q a w:=Ph.wp_region_ph D cs hm hB hD h.out
theorem nil (h:Q a):W P ops D ns Q k [] a:=⟨h⟩
theorem calm (hk:ns.idxOf? k=none) (h:∀ K:Act→Prop,(∀ a,W P ops D ns Q (k+1) rest a→K a)→if Region.wanted o (yielded ops a.tmps) then Ph.Oper.calm P o a D K else K (a.put o.dst undef)):W P ops D ns Q k (o :: rest) a :=
 ⟨Ph.wpPh_calm hk fun K hK=>h K fun a ha=>hK a ha.out⟩
def skipsB (ns:List Nat) (ops:Array Oper):Nat→Nat→List Oper→Act→Bool
 | 0,_,_,_=>true
 | _+1,_,[],_=>false
 | n+1,k,o :: l,a=>(ns.idxOf? k).isNone && !(Region.wanted o (yielded ops a.tmps)) && skipsB ns ops n (k+1) l (a.put o.dst undef)
def undefs:List Oper→Act→Act
 | [],a=>a
 | o :: l,a=>undefs l (a.put o.dst undef)
theorem skips:∀ (n:Nat) {k:Nat} {l:List Oper} {a:Act},skipsB ns ops n k l a=true→W P ops D ns Q (k+n) (l.drop n) (undefs (l.take n) a)→W P ops D ns Q k l a
 | 0,_,_,_,_,h=>h
 | n+1,_,[],_,h,_=>by simp [skipsB] at h
 | n+1,k,o :: l,a,h,hr=>by
  simp only [skipsB,Bool.and_eq_true,Option.isNone_iff_eq_none,Bool.not_eq_true'] at h
  refine calm h.1.1 fun K hK=>?_
  rw [if_neg (by rw [h.1.2];simp)]
  refine hK _ (skips n h.2 ?_)
  rw [show k+1+n=k+(n+1) by omega]
  exact hr
theorem load (hk:ns.idxOf? k=none) (hw:Region.wanted o (yielded ops a.tmps)=true)
  (ty:TypeId) (x:Operand) (ho:o.op=.load ty x) (y:Addr) (hx:a.eval x=.pointer (some y)) (cs:List Value) (d:TypeDesc) (hc:∀ p:Ph.S D,Lies p.world y cs) (hu:P.underlying ty=some d) (hd:d.isRow=true) (hi:(P.info? ty).map (·.size)=some cs.length)
  (h:W P ops D ns Q (k+1) rest (a.put o.dst (.agg cs.toArray))):W P ops D ns Q k (o :: rest) a:=⟨Row.wpPh_load hk hw ty x ho y hx cs d hc hu hd hi h.out⟩
theorem neq (t:TypeId) (x y:Operand) (t2:TypeId) (ho:o.op=.binOp .neq t x y t2) (hk:ns.idxOf? k=none) (hw:Region.wanted o (yielded ops a.tmps)=true)
  (xs ys:Array Value) (hx:a.eval x=.agg xs) (hy:a.eval y=.agg ys) (hg:P.eqGuardType P.depth t=false) (b:Bool) (he:∀ w,(Op.equalIn 10000 t (.agg xs) (.agg ys)).run P w=.ok b w)
  (h:W P ops D ns Q (k+1) rest (a.put o.dst (.bool (!b)))):W P ops D ns Q k (o :: rest) a:=⟨Row.wpPh_neq t x y t2 ho hk hw xs ys hx hy hg b he h.out⟩
end
end Pw
namespace Same
open Go.ChangeShapes Go.WideShapes Go.ChangeAt Go.RowKit
open Tab Owned CodeAt
open May (ret_bool chain take_succ' infoP infoG infoD infoR infoB infoT row_new St)
theorem own2_alloc {B:Nat} {v:World} {L:List Blk} (h:Owned.Own B v L) (hB:B≤v.heap.size) (cs:List Value) (t:TypeId):Owned.Own B (v.alloc (.cells cs.toArray t)) (⟨v.heap.size,cs,t⟩ :: L) :=
 h.add ((Below.refl _ _).alloc (Nat.le_refl _) _) (heap_alloc_new v _) (Nat.le_refl _) hB
theorem wp_store_whole {P:Program} {o:Oper} {a:Act} {w:World} {K:Act→World→Prop} {Q:Exit→Act→World→Prop} (ty:TypeId) (x y:Operand) (ho:o.op=.store ty x y) (g:Nat) (cells:Array Value) (hx:a.eval x=.pointer (some ⟨g,0,none⟩)) (hy:a.eval y=.agg cells)
  (t:TypeId) (old:Array Value) (hg:w.heap[g]?=some (.cells old t (0,0))) (hi:(P.info? ty).map (·.size)=some cells.size) (hs:old.size=cells.size) (h1:cells.all (·.oneCell')=true) (hd:o.dst=none) (h:K a (w.setRow g cells)):o.wp P a w K Q:=by
 have hr:=Row.run_storeAt_at (P:=P) w g 0 t ty old cells hg hi (by omega) h1
 have e:(old.toList.take 0++cells.toList++old.toList.drop (0+cells.size)).toArray=cells:=by
  rw [List.drop_of_length_le (by simp;omega)];simp
 rw [e] at hr
 unfold Oper.wp execOp
 simp only [ho,hx,hy,Sem.run_bind,hr,Result.andThen_ok,Sem.run_pure]
 show K (a.put o.dst undef) _
 rw [hd]
 exact h
theorem boxes_rg {Q:Exit→Act→World→Prop} (hP:∀ c (a a':Act) w,a.defers=a'.defers→Q (.panic c) a w→Q (.panic c) a' w) (w wr:World) (q n n' c c':Nat) (x y:Addr) (v0 u0:Det) (hlt:q < n) (hlu:q < n') (K1:n≤c∧c≤2 ^ 63 - 1) (K2:n'≤c'∧c'≤2 ^ 63 - 1)
  (qq113:Hid (wr.cell? ⟨w.heap.size,113,none⟩=some (.slice (some x) n c))) (rr113:Hid (wr.cell? ⟨w.heap.size+1,113,none⟩=some (.slice (some y) n' c')))
  (HC:Hid (Lies wr (x.add (q*7)) v0.cells)) (HC':Hid (Lies wr (y.add (q*7)) u0.cells)) (f0 f1 f4 f5 f7 f8 f9 f10 f11 f12 f13 f14 f15 f16 f17 f18 f19 f20 f21 f22 f23 f24 f25 f26 f27 f28 f29 f30 f31 f32 f33 f34 f35 f36 f37 f38 f39 f40 f41 f42 f43 f44 f45 f46 f47 f48 f49 f50 f51 f52 f53 f54 f55 f56 f57 f58 f59 f60 f61 f62 f63 f64 f65 f66 f67 f68 f69 f70 f71 f72 f73 f74 f75 f76 f77 f78 f79 f80 f81 f82 f83 f84 f85 f86 f87 f88 f89 f90 f91 f92 f93 f94 f95 f96 f97 f98 f99 f100 f101 f102 f103 f104 f105 f106 f107 f108 f109 f110 f111 f112 f113 f114 f115 f116 f117 f118 f119 f120 f121 f122 f123 f124 f125 f126 f127 f128 f129 f130 f131 f132 f133 f134 f135 f136 f137 f138 f139 f140 f141 f142 f143 f144 f145 f146 f147 f148 f149 f150 f151 f152 f153 f154 f155 f156 f157 f158 f159 f160 f161 f162 f163 f164 f165 f166 f167 f168 f169 f170 f171 f172 f173 f174 f175 f176 f177 f178 f179 f180 f181 f182 f183 f184 f185 f186 f187 f188 f189 f190 f191 f192 f193 f194 f195 f196 f197 f198 f199 f200 f201 f202 f203 f204 f205 f206 f207 f208 f209 f210 f211 f212 f213 f214 f215 f216 f217 f218 f219 f220 f221 f222 f223 f224 f225 f226 f227 f228 f229 f230 f231 f232 f233 f234 f235 f236 f237 f238 f239 f240 f241 f242:Value)
  (HQ:Hid (∀ (x142 x143 x144 x145 x146 x147 x148 x149 x150 x151:Value) (g7 g8:Nat) (w':World),w'.heap[g7]?=some (.cells v0.cells.toArray 71 (0,0))→w'.heap[g8]?=some (.cells u0.cells.toArray 71 (0,0))→Below wr.heap.size wr w'→Q .normal ⟨#[f0,f1,Value.pointer (some ⟨w.heap.size,0,none⟩),Value.pointer (some ⟨w.heap.size+1,0,none⟩),f4,f5,Value.int .i64 (q:Int),Value.pointer (some ⟨g7,0,none⟩),Value.pointer (some ⟨g8,0,none⟩),f9,f10,f11,f12,f13,f14,f15,f16,f17,f18,f19,f20,f21,f22,f23,f24,f25,f26,f27,f28,f29,f30,f31,f32,f33,f34,f35,f36,f37,f38,f39,f40,f41,f42,f43,f44,f45,f46,f47,f48,f49,f50,f51,f52,f53,f54,f55,f56,f57,f58,f59,f60,f61,f62,f63,f64,f65,f66,f67,f68,f69,f70,f71,f72,f73,f74,f75,f76,f77,f78,f79,f80,f81,f82,f83,f84,f85,f86,f87,f88,f89,f90,f91,f92,f93,f94,f95,f96,f97,f98,f99,f100,f101,f102,f103,f104,f105,f106,f107,f108,f109,f110,f111,f112,f113,f114,f115,f116,f117,f118,f119,f120,f121,f122,f123,f124,f125,f126,f127,f128,f129,f130,f131,f132,f133,f134,f135,f136,f137,f138,f139,f140,f141,x142,x143,x144,x145,x146,x147,x148,x149,x150,x151,f152,f153,f154,f155,f156,f157,f158,f159,f160,f161,f162,f163,f164,f165,f166,f167,f168,f169,f170,f171,f172,f173,f174,f175,f176,f177,f178,f179,f180,f181,f182,f183,f184,f185,f186,f187,f188,f189,f190,f191,f192,f193,f194,f195,f196,f197,f198,f199,f200,f201,f202,f203,f204,f205,f206,f207,f208,f209,f210,f211,f212,f213,f214,f215,f216,f217,f218,f219,f220,f221,f222,f223,f224,f225,f226,f227,f228,f229,f230,f231,f232,f233,f234,f235,f236,f237,f238,f239,f240,f241,f242],[]⟩ w')) :
  (rg 13 Tryz.f9).wp Tryz.prog Q ⟨#[f0,f1,Value.pointer (some ⟨w.heap.size,0,none⟩),Value.pointer (some ⟨w.heap.size+1,0,none⟩),f4,f5,Value.int .i64 (q:Int),f7,f8,f9,f10,f11,f12,f13,f14,f15,f16,f17,f18,f19,f20,f21,f22,f23,f24,f25,f26,f27,f28,f29,f30,f31,f32,f33,f34,f35,f36,f37,f38,f39,f40,f41,f42,f43,f44,f45,f46,f47,f48,f49,f50,f51,f52,f53,f54,f55,f56,f57,f58,f59,f60,f61,f62,f63,f64,f65,f66,f67,f68,f69,f70,f71,f72,f73,f74,f75,f76,f77,f78,f79,f80,f81,f82,f83,f84,f85,f86,f87,f88,f89,f90,f91,f92,f93,f94,f95,f96,f97,f98,f99,f100,f101,f102,f103,f104,f105,f106,f107,f108,f109,f110,f111,f112,f113,f114,f115,f116,f117,f118,f119,f120,f121,f122,f123,f124,f125,f126,f127,f128,f129,f130,f131,f132,f133,f134,f135,f136,f137,f138,f139,f140,f141,f142,f143,f144,f145,f146,f147,f148,f149,f150,f151,f152,f153,f154,f155,f156,f157,f158,f159,f160,f161,f162,f163,f164,f165,f166,f167,f168,f169,f170,f171,f172,f173,f174,f175,f176,f177,f178,f179,f180,f181,f182,f183,f184,f185,f186,f187,f188,f189,f190,f191,f192,f193,f194,f195,f196,f197,f198,f199,f200,f201,f202,f203,f204,f205,f206,f207,f208,f209,f210,f211,f212,f213,f214,f215,f216,f217,f218,f219,f220,f221,f222,f223,f224,f225,f226,f227,f228,f229,f230,f231,f232,f233,f234,f235,f236,f237,f238,f239,f240,f241,f242],[]⟩ wr:=by
 conv=>arg 2;whnf
 refine wp_region_held (S:=fun w'=>Below wr.heap.size wr w') (by kernel_rfl) ?_
 have hS:Below wr.heap.size wr { wr with drawn:=wr.drawn+1 }:=(Below.refl _ _).drew
 have O:Hid (Owned.Own wr.heap.size { wr with drawn:=wr.drawn+1 } []):=Owned.Own.nil
 generalize ({ wr with drawn:=wr.drawn+1 }:World)=v at hS O ⊢
 refine Held.take (i:=0) (some 142) rfl (v:=?_) rfl (by kernel_rfl) (by kernel_rfl) (by kernel_rfl) (fun c a w h=>hP c _ a w (by rfl) h) (Or.inl ⟨by rfl,?_⟩) hS ?_
 rotate_left
 ·intro w' hw'
  go_simp
  try with_reducible rfl
 (try dsimp only [Act.put]);(try simp only [List.setIfInBounds_toArray,List.set_cons_zero,List.set_cons_succ])
 refine Held.take (i:=1) (some 143) rfl (v:=?_) rfl (by kernel_rfl) (by kernel_rfl) (by kernel_rfl) (fun c a w h=>hP c _ a w (by rfl) h) (Or.inl ⟨by rfl,?_⟩) hS ?_
 rotate_left
 ·intro w' hw'
  have e1:=(hw'.cell (World.block_lt_of_cell? wr _ qq113.out)).trans qq113.out
  go_simp
  try with_reducible rfl
 (try dsimp only [Act.put]);(try simp only [List.setIfInBounds_toArray,List.set_cons_zero,List.set_cons_succ])
 refine Held.take (i:=2) (some 144) rfl (v:=?_) rfl (by kernel_rfl) (by kernel_rfl) (by kernel_rfl) (fun c a w h=>hP c _ a w (by rfl) h) (Or.inl ⟨by rfl,?_⟩) hS ?_
 rotate_left
 ·intro w' hw'
  go_simp
  try with_reducible rfl
 (try dsimp only [Act.put]);(try simp only [List.setIfInBounds_toArray,List.set_cons_zero,List.set_cons_succ])
 refine Held.take (i:=3) (some 145) rfl (v:=?_) rfl (by kernel_rfl) (by kernel_rfl) (by kernel_rfl) (fun c a w h=>hP c _ a w (by rfl) h) (Or.inl ⟨by rfl,?_⟩) hS ?_
 rotate_left
 ·intro w' hw'
  go_simp
  try with_reducible rfl
 (try dsimp only [Act.put]);(try simp only [List.setIfInBounds_toArray,List.set_cons_zero,List.set_cons_succ])
 refine Held.take_load (i:=4) (some 146) rfl 71 _ (x.add (q*7)) v0.cells _ rfl rfl (by kernel_rfl) (by kernel_rfl) (by kernel_rfl) (fun c a w h=>hP c _ a w (by rfl) h) (by rfl) hS rfl (fun w' hw'=>HC.out.below hw') Tryz.underlying71 rfl infoD ?_
 (try dsimp only [Act.put]);(try simp only [List.setIfInBounds_toArray,List.set_cons_zero,List.set_cons_succ])
 refine Held.take (i:=5) (some 147) rfl (v:=?_) rfl (by kernel_rfl) (by kernel_rfl) (by kernel_rfl) (fun c a w h=>hP c _ a w (by rfl) h) (Or.inl ⟨by rfl,?_⟩) hS ?_
 rotate_left
 ·intro w' hw'
  go_simp
  try with_reducible rfl
 (try dsimp only [Act.put]);(try simp only [List.setIfInBounds_toArray,List.set_cons_zero,List.set_cons_succ])
 refine Held.take (i:=6) (some 148) rfl (v:=?_) rfl (by kernel_rfl) (by kernel_rfl) (by kernel_rfl) (fun c a w h=>hP c _ a w (by rfl) h) (Or.inl ⟨by rfl,?_⟩) hS ?_
 rotate_left
 ·intro w' hw'
  have e1:=(hw'.cell (World.block_lt_of_cell? wr _ rr113.out)).trans rr113.out
  go_simp
  try with_reducible rfl
 (try dsimp only [Act.put]);(try simp only [List.setIfInBounds_toArray,List.set_cons_zero,List.set_cons_succ])
 refine Held.take (i:=7) (some 149) rfl (v:=?_) rfl (by kernel_rfl) (by kernel_rfl) (by kernel_rfl) (fun c a w h=>hP c _ a w (by rfl) h) (Or.inl ⟨by rfl,?_⟩) hS ?_
 rotate_left
 ·intro w' hw'
  go_simp
  try with_reducible rfl
 (try dsimp only [Act.put]);(try simp only [List.setIfInBounds_toArray,List.set_cons_zero,List.set_cons_succ])
 refine Held.take (i:=8) (some 150) rfl (v:=?_) rfl (by kernel_rfl) (by kernel_rfl) (by kernel_rfl) (fun c a w h=>hP c _ a w (by rfl) h) (Or.inl ⟨by rfl,?_⟩) hS ?_
 rotate_left
 ·intro w' hw'
  go_simp
  try with_reducible rfl
 (try dsimp only [Act.put]);(try simp only [List.setIfInBounds_toArray,List.set_cons_zero,List.set_cons_succ])
 refine Held.take_load (i:=9) (some 151) rfl 71 _ (y.add (q*7)) u0.cells _ rfl rfl (by kernel_rfl) (by kernel_rfl) (by kernel_rfl) (fun c a w h=>hP c _ a w (by rfl) h) (by rfl) hS rfl (fun w' hw'=>HC'.out.below hw') Tryz.underlying71 rfl infoD ?_
 (try dsimp only [Act.put]);(try simp only [List.setIfInBounds_toArray,List.set_cons_zero,List.set_cons_succ])
 refine wpAnyH_ready (rs:=[10,11]) (by kernel_rfl) (by simp) (AllReadyH.cons rfl (fun K hK=>?_) (AllReadyH.cons rfl (fun K hK=>?_) AllReadyH.nil))
 ·go_simp
  have O2:=Lib.hid (own2_alloc O.out hS.size [.int .i64 0,.float .f64 0,.float .f64 0,.float .f64 0,.float .f64 0,.int .i64 0,.int .i64 0] 71)
  refine hK.out _ _ (hS.alloc (by exact hS.size) _) (fun hS=>?_)
  clear hK K O
  generalize v.heap.size=g10 at O2 ⊢
  generalize v.alloc _=v at hS O2 ⊢
  have O:=O2
  clear O2
  refine wpAnyH_ready (rs:=[11]) (by kernel_rfl) (by simp) (AllReadyH.cons rfl (fun K hK=>?_) AllReadyH.nil)
  ·go_simp
   have O2:=Lib.hid (own2_alloc O.out hS.size [.int .i64 0,.float .f64 0,.float .f64 0,.float .f64 0,.float .f64 0,.int .i64 0,.int .i64 0] 71)
   refine hK.out _ _ (hS.alloc (by exact hS.size) _) (fun hS=>?_)
   clear hK K O
   generalize v.heap.size=g11 at O2 ⊢
   generalize v.alloc _=v at hS O2 ⊢
   have O:=O2
   clear O2
   refine wpAnyH_ready (rs:=[12]) (by kernel_rfl) (by simp) (AllReadyH.cons rfl (fun K hK=>?_) AllReadyH.nil)
   ·rw [if_pos (by rfl)]
    refine wp_store_whole 71 _ _ rfl g10 v0.cells.toArray rfl rfl 71 _ (O.out.get (x:=⟨g10,[.int .i64 0,.float .f64 0,.float .f64 0,.float .f64 0,.float .f64 0,.int .i64 0,.int .i64 0],_⟩) (by simp only [List.mem_cons,true_or,or_true])) infoD rfl (Det.one _) rfl ?_
    have O2:=O.out.row_at (i:=1) rfl v0.cells
    dsimp only [List.set_cons_succ,List.set_cons_zero] at O2
    have hS2:=below_setRow hS (g:=g10) (O.out.base (x:=⟨g10,[.int .i64 0,.float .f64 0,.float .f64 0,.float .f64 0,.float .f64 0,.int .i64 0,.int .i64 0],71⟩) (by simp only [List.mem_cons,true_or,or_true])) v0.cells.toArray
    clear O hS
    generalize v.setRow _ _=v at hS2 O2 ⊢
    refine hK.out _ _ hS2 (fun hS=>?_)
    clear hK K hS2
    have O:=Lib.hid O2
    clear O2
    refine wpAnyH_ready (rs:=[13]) (by kernel_rfl) (by simp) (AllReadyH.cons rfl (fun K hK=>?_) AllReadyH.nil)
    ·rw [if_pos (by rfl)]
     refine wp_store_whole 71 _ _ rfl g11 u0.cells.toArray rfl rfl 71 _ (O.out.get (x:=⟨g11,[.int .i64 0,.float .f64 0,.float .f64 0,.float .f64 0,.float .f64 0,.int .i64 0,.int .i64 0],_⟩) (by simp only [List.mem_cons,true_or,or_true])) infoD rfl (Det.one _) rfl ?_
     have O2:=O.out.row_at (i:=0) rfl u0.cells
     dsimp only [List.set_cons_succ,List.set_cons_zero] at O2
     have hS2:=below_setRow hS (g:=g11) (O.out.base (x:=⟨g11,[.int .i64 0,.float .f64 0,.float .f64 0,.float .f64 0,.float .f64 0,.int .i64 0,.int .i64 0],71⟩) (by simp only [List.mem_cons,true_or,or_true])) u0.cells.toArray
     clear O hS
     generalize v.setRow _ _=v at hS2 O2 ⊢
     refine hK.out _ _ hS2 (fun hS=>?_)
     clear hK K hS2
     have O:=Lib.hid O2
     clear O2
     refine wpAnyH_done (by kernel_rfl) ?_ _
     exact HQ.out _ _ _ _ _ _ _ _ _ _ g10 g11 _ (O.out.get (x:=⟨g10,v0.cells,_⟩) (by simp only [List.mem_cons,true_or,or_true])) (O.out.get (x:=⟨g11,u0.cells,_⟩) (by simp only [List.mem_cons,true_or,or_true])) hS
 ·go_simp
  have O2:=Lib.hid (own2_alloc O.out hS.size [.int .i64 0,.float .f64 0,.float .f64 0,.float .f64 0,.float .f64 0,.int .i64 0,.int .i64 0] 71)
  refine hK.out _ _ (hS.alloc (by exact hS.size) _) (fun hS=>?_)
  clear hK K O
  generalize v.heap.size=g11 at O2 ⊢
  generalize v.alloc _=v at hS O2 ⊢
  have O:=O2
  clear O2
  refine wpAnyH_ready (rs:=[10]) (by kernel_rfl) (by simp) (AllReadyH.cons rfl (fun K hK=>?_) AllReadyH.nil)
  ·go_simp
   have O2:=Lib.hid (own2_alloc O.out hS.size [.int .i64 0,.float .f64 0,.float .f64 0,.float .f64 0,.float .f64 0,.int .i64 0,.int .i64 0] 71)
   refine hK.out _ _ (hS.alloc (by exact hS.size) _) (fun hS=>?_)
   clear hK K O
   generalize v.heap.size=g10 at O2 ⊢
   generalize v.alloc _=v at hS O2 ⊢
   have O:=O2
   clear O2
   refine wpAnyH_ready (rs:=[12]) (by kernel_rfl) (by simp) (AllReadyH.cons rfl (fun K hK=>?_) AllReadyH.nil)
   ·rw [if_pos (by rfl)]
    refine wp_store_whole 71 _ _ rfl g10 v0.cells.toArray rfl rfl 71 _ (O.out.get (x:=⟨g10,[.int .i64 0,.float .f64 0,.float .f64 0,.float .f64 0,.float .f64 0,.int .i64 0,.int .i64 0],_⟩) (by simp only [List.mem_cons,true_or,or_true])) infoD rfl (Det.one _) rfl ?_
    have O2:=O.out.row_at (i:=0) rfl v0.cells
    dsimp only [List.set_cons_succ,List.set_cons_zero] at O2
    have hS2:=below_setRow hS (g:=g10) (O.out.base (x:=⟨g10,[.int .i64 0,.float .f64 0,.float .f64 0,.float .f64 0,.float .f64 0,.int .i64 0,.int .i64 0],71⟩) (by simp only [List.mem_cons,true_or,or_true])) v0.cells.toArray
    clear O hS
    generalize v.setRow _ _=v at hS2 O2 ⊢
    refine hK.out _ _ hS2 (fun hS=>?_)
    clear hK K hS2
    have O:=Lib.hid O2
    clear O2
    refine wpAnyH_ready (rs:=[13]) (by kernel_rfl) (by simp) (AllReadyH.cons rfl (fun K hK=>?_) AllReadyH.nil)
    ·rw [if_pos (by rfl)]
     refine wp_store_whole 71 _ _ rfl g11 u0.cells.toArray rfl rfl 71 _ (O.out.get (x:=⟨g11,[.int .i64 0,.float .f64 0,.float .f64 0,.float .f64 0,.float .f64 0,.int .i64 0,.int .i64 0],_⟩) (by simp only [List.mem_cons,true_or,or_true])) infoD rfl (Det.one _) rfl ?_
     have O2:=O.out.row_at (i:=1) rfl u0.cells
     dsimp only [List.set_cons_succ,List.set_cons_zero] at O2
     have hS2:=below_setRow hS (g:=g11) (O.out.base (x:=⟨g11,[.int .i64 0,.float .f64 0,.float .f64 0,.float .f64 0,.float .f64 0,.int .i64 0,.int .i64 0],71⟩) (by simp only [List.mem_cons,true_or,or_true])) u0.cells.toArray
     clear O hS
     generalize v.setRow _ _=v at hS2 O2 ⊢
     refine hK.out _ _ hS2 (fun hS=>?_)
     clear hK K hS2
     have O:=Lib.hid O2
     clear O2
     refine wpAnyH_done (by kernel_rfl) ?_ _
     exact HQ.out _ _ _ _ _ _ _ _ _ _ g10 g11 _ (O.out.get (x:=⟨g10,v0.cells,_⟩) (by simp only [List.mem_cons,true_or,or_true])) (O.out.get (x:=⟨g11,u0.cells,_⟩) (by simp only [List.mem_cons,true_or,or_true])) hS
end Same
namespace Same
open Go.ChangeShapes Go.WideShapes Go.ChangeAt Go.RowKit
open Tab Owned CodeAt
open May (ret_bool chain take_succ' infoP infoG infoD infoR infoB infoT row_new St)
structure Two (w:World) (cs ds:Array Value) (h k:Hd) (T U:Tab) (W:World):Prop where
 t:St w w.heap.size cs h T W
 u:St w (w.heap.size+1) ds k U W
theorem Two.step {w W W':World} {cs ds:Array Value} {h k:Hd} {T U:Tab} (p:Two w cs ds h k T U W) (hb:Below W.heap.size W W'):Two w cs ds h k T U W':=⟨p.t.step hb,p.u.step hb⟩
theorem data_step {l m:List Gr} {k:Nat} {v u:Gr} (h:l[k]?=some v) (h':m[k]?=some u) (e:(l.take k).map Gr.data=(m.take k).map Gr.data) (hv:v.data=u.data):(l.take (k+1)).map Gr.data=(m.take (k+1)).map Gr.data:=by
 rw [take_succ' l k v h,take_succ' m k u h',List.map_append,List.map_append,e];simp [hv]
theorem data_break {l m:List Gr} {k:Nat} {v u:Gr} (h:l[k]?=some v) (h':m[k]?=some u) (hv:¬ v.data=u.data):¬ l.map Gr.data=m.map Gr.data:=fun e=>hv (by
 have h3:=congrArg (·[k]?) e
 simp only [List.getElem?_map,h,h',Option.map_some] at h3
 exact Option.some.inj h3)
structure Heads (T U:Tab):Prop where
 h1:T.phases=U.phases
 h2:T.conflict=U.conflict
 h3:T.flash=U.flash
 h4:T.groups.length=U.groups.length
 h5:T.dets.length=U.dets.length
 h6:T.rails.length=U.rails.length
 h7:T.buses.length=U.buses.length
theorem heads_rg {Q:Exit→Act→World→Prop} (T U:Tab) (h k:Hd) (w w1:World) (cs ds:Array Value) (L1:Hid (IsTab w h T)) (L2:Hid (IsTab w k U)) (C:Hid (CellsOk T h cs)) (D:Hid (CellsOk U k ds)) (SS:Hid (Two w cs ds h k T U w1)) (f0 f1 f4 f5 f6 f7 f8 f9 f10 f11 f12 f13 f14 f15 f16 f17 f18 f19 f20 f21 f22 f23 f24 f25 f26 f27 f28 f29 f30 f31 f32 f33 f34 f35 f36 f37 f38 f39 f40 f41 f42 f43 f44 f45 f46 f47 f48 f49 f50 f51 f52 f53 f54 f55 f56 f57 f58 f59 f60 f61 f62 f63 f64 f65 f66 f67 f68 f69 f70 f71 f72 f73 f74 f75 f76 f77 f78 f79 f80 f81 f82 f83 f84 f85 f86 f87 f88 f89 f90 f91 f92 f93 f94 f95 f96 f97 f98 f99 f100 f101 f102 f103 f104 f105 f106 f107 f108 f109 f110 f111 f112 f113 f114 f115 f116 f117 f118 f119 f120 f121 f122 f123 f124 f125 f126 f127 f128 f129 f130 f131 f132 f133 f134 f135 f136 f137 f138 f139 f140 f141 f142 f143 f144 f145 f146 f147 f148 f149 f150 f151 f152 f153 f154 f155 f156 f157 f158 f159 f160 f161 f162 f163 f164 f165 f166 f167 f168 f169 f170 f171 f172 f173 f174 f175 f176 f177 f178 f179 f180 f181 f182 f183 f184 f185 f186 f187 f188 f189 f190 f191 f192 f193 f194 f195 f196 f197 f198 f199 f200 f201 f202 f203 f204 f205 f206 f207 f208 f209 f210 f211 f212 f213 f214 f215 f216 f217 f218 f219 f220 f221 f222 f223 f224 f225 f226 f227 f228 f229 f230 f231 f232 f233 f234 f235 f236 f237 f238 f239 f240 f241 f242:Value)
  (HQ:Hid (∀ (x11 x12 x13 x14 x15 x16 x17 x18 x19 x20 x21 x22 x23 x24 x25 x26 x27 x28 x29 x30 x31 x32 x33 x34 x35 x36 x37 x38 x39 x40 x41 x42 x43 x44 x45 x46 x47 x48 x49 x50 x51 x52 x53 x54 x55 x56 x57 x58 x59 x60 x61 x62 x63 x64:Value) (b:Bool),(b=false ↔ Heads T U)→Q .normal ⟨#[f0,f1,Value.pointer (some ⟨w.heap.size,0,none⟩),Value.pointer (some ⟨w.heap.size+1,0,none⟩),f4,f5,f6,f7,f8,f9,f10,x11,x12,x13,x14,x15,x16,x17,x18,x19,x20,x21,x22,x23,x24,x25,x26,x27,x28,x29,x30,x31,x32,x33,x34,x35,x36,x37,x38,x39,x40,x41,x42,x43,x44,x45,x46,x47,x48,x49,x50,x51,x52,x53,x54,x55,x56,x57,x58,x59,x60,x61,x62,x63,x64,Value.bool b,f66,f67,f68,f69,f70,f71,f72,f73,f74,f75,f76,f77,f78,f79,f80,f81,f82,f83,f84,f85,f86,f87,f88,f89,f90,f91,f92,f93,f94,f95,f96,f97,f98,f99,f100,f101,f102,f103,f104,f105,f106,f107,f108,f109,f110,f111,f112,f113,f114,f115,f116,f117,f118,f119,f120,f121,f122,f123,f124,f125,f126,f127,f128,f129,f130,f131,f132,f133,f134,f135,f136,f137,f138,f139,f140,f141,f142,f143,f144,f145,f146,f147,f148,f149,f150,f151,f152,f153,f154,f155,f156,f157,f158,f159,f160,f161,f162,f163,f164,f165,f166,f167,f168,f169,f170,f171,f172,f173,f174,f175,f176,f177,f178,f179,f180,f181,f182,f183,f184,f185,f186,f187,f188,f189,f190,f191,f192,f193,f194,f195,f196,f197,f198,f199,f200,f201,f202,f203,f204,f205,f206,f207,f208,f209,f210,f211,f212,f213,f214,f215,f216,f217,f218,f219,f220,f221,f222,f223,f224,f225,f226,f227,f228,f229,f230,f231,f232,f233,f234,f235,f236,f237,f238,f239,f240,f241,f242],[]⟩ w1)) :
  (rg 1 Tryz.f9).wp Tryz.prog Q ⟨#[f0,f1,Value.pointer (some ⟨w.heap.size,0,none⟩),Value.pointer (some ⟨w.heap.size+1,0,none⟩),f4,f5,f6,f7,f8,f9,f10,f11,f12,f13,f14,f15,f16,f17,f18,f19,f20,f21,f22,f23,f24,f25,f26,f27,f28,f29,f30,f31,f32,f33,f34,f35,f36,f37,f38,f39,f40,f41,f42,f43,f44,f45,f46,f47,f48,f49,f50,f51,f52,f53,f54,f55,f56,f57,f58,f59,f60,f61,f62,f63,f64,f65,f66,f67,f68,f69,f70,f71,f72,f73,f74,f75,f76,f77,f78,f79,f80,f81,f82,f83,f84,f85,f86,f87,f88,f89,f90,f91,f92,f93,f94,f95,f96,f97,f98,f99,f100,f101,f102,f103,f104,f105,f106,f107,f108,f109,f110,f111,f112,f113,f114,f115,f116,f117,f118,f119,f120,f121,f122,f123,f124,f125,f126,f127,f128,f129,f130,f131,f132,f133,f134,f135,f136,f137,f138,f139,f140,f141,f142,f143,f144,f145,f146,f147,f148,f149,f150,f151,f152,f153,f154,f155,f156,f157,f158,f159,f160,f161,f162,f163,f164,f165,f166,f167,f168,f169,f170,f171,f172,f173,f174,f175,f176,f177,f178,f179,f180,f181,f182,f183,f184,f185,f186,f187,f188,f189,f190,f191,f192,f193,f194,f195,f196,f197,f198,f199,f200,f201,f202,f203,f204,f205,f206,f207,f208,f209,f210,f211,f212,f213,f214,f215,f216,f217,f218,f219,f220,f221,f222,f223,f224,f225,f226,f227,f228,f229,f230,f231,f232,f233,f234,f235,f236,f237,f238,f239,f240,f241,f242],[]⟩ w1:=by
 conv=>arg 2;whnf
 have E1:=Lib.hid (phases_eqs T.phases U.phases L1.out.ph L2.out.ph)
 have E3:=Lib.hid (eight_eqs T.conflict U.conflict L1.out.cf L2.out.cf)
 have E7:=Lib.hid (eight_eqs T.flash U.flash L1.out.fl L2.out.fl)
 have q104:=SS.out.t.cell C.out.g
 have q113:=SS.out.t.cell C.out.d
 have q114:=SS.out.t.cell C.out.r
 have q115:=SS.out.t.cell C.out.b
 have r104:=SS.out.u.cell D.out.g
 have r113:=SS.out.u.cell D.out.d
 have r114:=SS.out.u.cell D.out.r
 have r115:=SS.out.u.cell D.out.b
 have PA:Hid (Lies w1 ⟨w.heap.size,0,none⟩ (T.phases.flatMap Ph.cells)):=Lib.hid (lies_at SS.out.t.blk 0 104 _ (by rw [List.drop_zero];exact C.out.phases))
 have PB:Hid (Lies w1 ⟨w.heap.size+1,0,none⟩ (U.phases.flatMap Ph.cells)):=Lib.hid (lies_at SS.out.u.blk 0 104 _ (by rw [List.drop_zero];exact D.out.phases))
 have IA:Hid ((Tryz.prog.info? 26).map (·.size)=some (T.phases.flatMap Ph.cells).length):=Lib.hid (infoPs.trans (by rw [phases_len,L1.out.ph]))
 have IB:Hid ((Tryz.prog.info? 26).map (·.size)=some (U.phases.flatMap Ph.cells).length):=Lib.hid (infoPs.trans (by rw [phases_len,L2.out.ph]))
 generalize T.phases.flatMap Ph.cells=pa at PA IA E1
 generalize U.phases.flatMap Ph.cells=pb at PB IB E1
 have CA:Hid (Lies w1 ⟨w.heap.size,105,none⟩ (T.conflict.map I)):=Lib.hid (lies_at SS.out.t.blk 105 8 _ C.out.conflict)
 have CB:Hid (Lies w1 ⟨w.heap.size+1,105,none⟩ (U.conflict.map I)):=Lib.hid (lies_at SS.out.u.blk 105 8 _ D.out.conflict)
 have JA:Hid ((Tryz.prog.info? 28).map (·.size)=some (T.conflict.map I).length):=Lib.hid (by rw [List.length_map,L1.out.cf];exact info8)
 have JB:Hid ((Tryz.prog.info? 28).map (·.size)=some (U.conflict.map I).length):=Lib.hid (by rw [List.length_map,L2.out.cf];exact info8)
 generalize T.conflict.map I=ca at CA JA E3
 generalize U.conflict.map I=cb at CB JB E3
 have FA:Hid (Lies w1 ⟨w.heap.size,121,none⟩ (T.flash.map I)):=Lib.hid (lies_at SS.out.t.blk 121 8 _ C.out.flash)
 have FB:Hid (Lies w1 ⟨w.heap.size+1,121,none⟩ (U.flash.map I)):=Lib.hid (lies_at SS.out.u.blk 121 8 _ D.out.flash)
 have KA:Hid ((Tryz.prog.info? 28).map (·.size)=some (T.flash.map I).length):=Lib.hid (by rw [List.length_map,L1.out.fl];exact info8)
 have KB:Hid ((Tryz.prog.info? 28).map (·.size)=some (U.flash.map I).length):=Lib.hid (by rw [List.length_map,L2.out.fl];exact info8)
 generalize T.flash.map I=fa at FA KA E7
 generalize U.flash.map I=fb at FB KB E7
 go_step
 by_cases h1:T.phases=U.phases
 rotate_left
 ·rw [decide_eq_false h1] at E1
  have NE:Hid (¬ Heads T U):=fun e=>h1 e.h1
  clear h1
  refine wpList_plain rfl (fun K hK=>?_)
  go_simp
  refine hK _ _ ?_
  clear hK K
  (try dsimp only [Act.put]);(try simp only [List.setIfInBounds_toArray,List.set_cons_zero,List.set_cons_succ])
  refine Row.wpList_load_g 26 _ rfl (by rfl) ⟨w.heap.size,0,none⟩ rfl pa _ PA.out Tryz.underlying26 rfl IA.out ?_
  (try dsimp only [Act.put]);(try simp only [List.setIfInBounds_toArray,List.set_cons_zero,List.set_cons_succ])
  refine wpList_plain rfl (fun K hK=>?_)
  go_simp
  refine hK _ _ ?_
  clear hK K
  (try dsimp only [Act.put]);(try simp only [List.setIfInBounds_toArray,List.set_cons_zero,List.set_cons_succ])
  refine Row.wpList_load_g 26 _ rfl (by rfl) ⟨w.heap.size+1,0,none⟩ rfl pb _ PB.out Tryz.underlying26 rfl IB.out ?_
  (try dsimp only [Act.put]);(try simp only [List.setIfInBounds_toArray,List.set_cons_zero,List.set_cons_succ])
  refine Row.wpList_neq 26 _ _ _ rfl (by rfl) pa.toArray pb.toArray rfl rfl guardP false E1.out ?_
  simp only [Bool.not_false,Bool.not_true]
  (try dsimp only [Act.put]);(try simp only [List.setIfInBounds_toArray,List.set_cons_zero,List.set_cons_succ])
  go_wp2
  exact HQ.out _ _ _ _ _ _ _ _ _ _ _ _ _ _ _ _ _ _ _ _ _ _ _ _ _ _ _ _ _ _ _ _ _ _ _ _ _ _ _ _ _ _ _ _ _ _ _ _ _ _ _ _ _ _ true (by simp only [Bool.true_eq_false,false_iff];exact NE.out)
 rw [decide_eq_true h1] at E1
 have H1:=Lib.hid h1
 clear h1
 refine wpList_plain rfl (fun K hK=>?_)
 go_simp
 refine hK _ _ ?_
 clear hK K
 (try dsimp only [Act.put]);(try simp only [List.setIfInBounds_toArray,List.set_cons_zero,List.set_cons_succ])
 refine Row.wpList_load_g 26 _ rfl (by rfl) ⟨w.heap.size,0,none⟩ rfl pa _ PA.out Tryz.underlying26 rfl IA.out ?_
 (try dsimp only [Act.put]);(try simp only [List.setIfInBounds_toArray,List.set_cons_zero,List.set_cons_succ])
 refine wpList_plain rfl (fun K hK=>?_)
 go_simp
 refine hK _ _ ?_
 clear hK K
 (try dsimp only [Act.put]);(try simp only [List.setIfInBounds_toArray,List.set_cons_zero,List.set_cons_succ])
 refine Row.wpList_load_g 26 _ rfl (by rfl) ⟨w.heap.size+1,0,none⟩ rfl pb _ PB.out Tryz.underlying26 rfl IB.out ?_
 (try dsimp only [Act.put]);(try simp only [List.setIfInBounds_toArray,List.set_cons_zero,List.set_cons_succ])
 refine Row.wpList_neq 26 _ _ _ rfl (by rfl) pa.toArray pb.toArray rfl rfl guardP true E1.out ?_
 simp only [Bool.not_false,Bool.not_true]
 (try dsimp only [Act.put]);(try simp only [List.setIfInBounds_toArray,List.set_cons_zero,List.set_cons_succ])
 clear PA PB IA IB E1
 refine wpList_plain rfl (fun K hK=>?_)
 go_simp
 refine hK _ _ ?_
 clear hK K
 (try dsimp only [Act.put]);(try simp only [List.setIfInBounds_toArray,List.set_cons_zero,List.set_cons_succ])
 by_cases h2:T.conflict=U.conflict
 rotate_left
 ·rw [decide_eq_false h2] at E3
  have NE:Hid (¬ Heads T U):=fun e=>h2 e.h2
  clear h2
  refine BigFrame.wpList_want (by rfl) (fun K hK=>?_)
  go_simp
  refine hK _ _ ?_
  clear hK K
  (try dsimp only [Act.put]);(try simp only [List.setIfInBounds_toArray,List.set_cons_zero,List.set_cons_succ])
  refine Row.wpList_load_g 28 _ rfl (by rfl) ⟨w.heap.size,105,none⟩ rfl ca _ CA.out Tryz.underlying28 rfl JA.out ?_
  (try dsimp only [Act.put]);(try simp only [List.setIfInBounds_toArray,List.set_cons_zero,List.set_cons_succ])
  refine BigFrame.wpList_want (by rfl) (fun K hK=>?_)
  go_simp
  refine hK _ _ ?_
  clear hK K
  (try dsimp only [Act.put]);(try simp only [List.setIfInBounds_toArray,List.set_cons_zero,List.set_cons_succ])
  refine Row.wpList_load_g 28 _ rfl (by rfl) ⟨w.heap.size+1,105,none⟩ rfl cb _ CB.out Tryz.underlying28 rfl JB.out ?_
  (try dsimp only [Act.put]);(try simp only [List.setIfInBounds_toArray,List.set_cons_zero,List.set_cons_succ])
  refine Row.wpList_neq 28 _ _ _ rfl (by rfl) ca.toArray cb.toArray rfl rfl guard8 false E3.out ?_
  simp only [Bool.not_false,Bool.not_true]
  (try dsimp only [Act.put]);(try simp only [List.setIfInBounds_toArray,List.set_cons_zero,List.set_cons_succ])
  go_wp2
  exact HQ.out _ _ _ _ _ _ _ _ _ _ _ _ _ _ _ _ _ _ _ _ _ _ _ _ _ _ _ _ _ _ _ _ _ _ _ _ _ _ _ _ _ _ _ _ _ _ _ _ _ _ _ _ _ _ true (by simp only [Bool.true_eq_false,false_iff];exact NE.out)
 rw [decide_eq_true h2] at E3
 have H2:=Lib.hid h2
 clear h2
 refine BigFrame.wpList_want (by rfl) (fun K hK=>?_)
 go_simp
 refine hK _ _ ?_
 clear hK K
 (try dsimp only [Act.put]);(try simp only [List.setIfInBounds_toArray,List.set_cons_zero,List.set_cons_succ])
 refine Row.wpList_load_g 28 _ rfl (by rfl) ⟨w.heap.size,105,none⟩ rfl ca _ CA.out Tryz.underlying28 rfl JA.out ?_
 (try dsimp only [Act.put]);(try simp only [List.setIfInBounds_toArray,List.set_cons_zero,List.set_cons_succ])
 refine BigFrame.wpList_want (by rfl) (fun K hK=>?_)
 go_simp
 refine hK _ _ ?_
 clear hK K
 (try dsimp only [Act.put]);(try simp only [List.setIfInBounds_toArray,List.set_cons_zero,List.set_cons_succ])
 refine Row.wpList_load_g 28 _ rfl (by rfl) ⟨w.heap.size+1,105,none⟩ rfl cb _ CB.out Tryz.underlying28 rfl JB.out ?_
 (try dsimp only [Act.put]);(try simp only [List.setIfInBounds_toArray,List.set_cons_zero,List.set_cons_succ])
 refine Row.wpList_neq 28 _ _ _ rfl (by rfl) ca.toArray cb.toArray rfl rfl guard8 true E3.out ?_
 simp only [Bool.not_false,Bool.not_true]
 (try dsimp only [Act.put]);(try simp only [List.setIfInBounds_toArray,List.set_cons_zero,List.set_cons_succ])
 clear CA CB JA JB E3
 refine wpList_plain rfl (fun K hK=>?_)
 go_simp
 refine hK _ _ ?_
 clear hK K
 (try dsimp only [Act.put]);(try simp only [List.setIfInBounds_toArray,List.set_cons_zero,List.set_cons_succ])
 refine wpList_plain rfl (fun K hK=>?_)
 go_simp
 refine hK _ _ ?_
 clear hK K
 (try dsimp only [Act.put]);(try simp only [List.setIfInBounds_toArray,List.set_cons_zero,List.set_cons_succ])
 by_cases h3:T.flash=U.flash
 rotate_left
 ·rw [decide_eq_false h3] at E7
  have NE:Hid (¬ Heads T U):=fun e=>h3 e.h3
  clear h3
  refine BigFrame.wpList_want (by rfl) (fun K hK=>?_)
  go_simp
  refine hK _ _ ?_
  clear hK K
  (try dsimp only [Act.put]);(try simp only [List.setIfInBounds_toArray,List.set_cons_zero,List.set_cons_succ])
  refine Row.wpList_load_g 28 _ rfl (by rfl) ⟨w.heap.size,121,none⟩ rfl fa _ FA.out Tryz.underlying28 rfl KA.out ?_
  (try dsimp only [Act.put]);(try simp only [List.setIfInBounds_toArray,List.set_cons_zero,List.set_cons_succ])
  refine BigFrame.wpList_want (by rfl) (fun K hK=>?_)
  go_simp
  refine hK _ _ ?_
  clear hK K
  (try dsimp only [Act.put]);(try simp only [List.setIfInBounds_toArray,List.set_cons_zero,List.set_cons_succ])
  refine Row.wpList_load_g 28 _ rfl (by rfl) ⟨w.heap.size+1,121,none⟩ rfl fb _ FB.out Tryz.underlying28 rfl KB.out ?_
  (try dsimp only [Act.put]);(try simp only [List.setIfInBounds_toArray,List.set_cons_zero,List.set_cons_succ])
  refine Row.wpList_neq 28 _ _ _ rfl (by rfl) fa.toArray fb.toArray rfl rfl guard8 false E7.out ?_
  simp only [Bool.not_false,Bool.not_true]
  (try dsimp only [Act.put]);(try simp only [List.setIfInBounds_toArray,List.set_cons_zero,List.set_cons_succ])
  go_wp2
  exact HQ.out _ _ _ _ _ _ _ _ _ _ _ _ _ _ _ _ _ _ _ _ _ _ _ _ _ _ _ _ _ _ _ _ _ _ _ _ _ _ _ _ _ _ _ _ _ _ _ _ _ _ _ _ _ _ true (by simp only [Bool.true_eq_false,false_iff];exact NE.out)
 rw [decide_eq_true h3] at E7
 have H3:=Lib.hid h3
 clear h3
 refine BigFrame.wpList_want (by rfl) (fun K hK=>?_)
 go_simp
 refine hK _ _ ?_
 clear hK K
 (try dsimp only [Act.put]);(try simp only [List.setIfInBounds_toArray,List.set_cons_zero,List.set_cons_succ])
 refine Row.wpList_load_g 28 _ rfl (by rfl) ⟨w.heap.size,121,none⟩ rfl fa _ FA.out Tryz.underlying28 rfl KA.out ?_
 (try dsimp only [Act.put]);(try simp only [List.setIfInBounds_toArray,List.set_cons_zero,List.set_cons_succ])
 refine BigFrame.wpList_want (by rfl) (fun K hK=>?_)
 go_simp
 refine hK _ _ ?_
 clear hK K
 (try dsimp only [Act.put]);(try simp only [List.setIfInBounds_toArray,List.set_cons_zero,List.set_cons_succ])
 refine Row.wpList_load_g 28 _ rfl (by rfl) ⟨w.heap.size+1,121,none⟩ rfl fb _ FB.out Tryz.underlying28 rfl KB.out ?_
 (try dsimp only [Act.put]);(try simp only [List.setIfInBounds_toArray,List.set_cons_zero,List.set_cons_succ])
 refine Row.wpList_neq 28 _ _ _ rfl (by rfl) fa.toArray fb.toArray rfl rfl guard8 true E7.out ?_
 simp only [Bool.not_false,Bool.not_true]
 (try dsimp only [Act.put]);(try simp only [List.setIfInBounds_toArray,List.set_cons_zero,List.set_cons_succ])
 clear FA FB KA KB E7
 refine wpList_plain rfl (fun K hK=>?_)
 go_simp
 refine hK _ _ ?_
 clear hK K
 (try dsimp only [Act.put]);(try simp only [List.setIfInBounds_toArray,List.set_cons_zero,List.set_cons_succ])
 refine wpList_plain rfl (fun K hK=>?_)
 go_simp
 refine hK _ _ ?_
 clear hK K
 (try dsimp only [Act.put]);(try simp only [List.setIfInBounds_toArray,List.set_cons_zero,List.set_cons_succ])
 clear C D L1 L2 SS
 by_cases h4:T.groups.length=U.groups.length
 rotate_left
 ·have NE:Hid (¬ Heads T U):=fun e=>h4 (e.h4)
  have hn:((T.groups.length:Int) != (U.groups.length:Int))=true:=by rw [bne_iff_ne];omega
  clear h4
  go_wp2
  exact HQ.out _ _ _ _ _ _ _ _ _ _ _ _ _ _ _ _ _ _ _ _ _ _ _ _ _ _ _ _ _ _ _ _ _ _ _ _ _ _ _ _ _ _ _ _ _ _ _ _ _ _ _ _ _ _ true (by simp only [Bool.true_eq_false,false_iff];exact NE.out)
 have hn:((T.groups.length:Int) != (U.groups.length:Int))=false:=by rw [bne_eq_false_iff_eq];omega
 have H4:=Lib.hid h4
 clear h4
 refine BigFrame.wpList_want (by rfl) (fun K hK=>?_)
 go_simp
 refine hK _ _ ?_
 clear hK K
 (try dsimp only [Act.put]);(try simp only [List.setIfInBounds_toArray,List.set_cons_zero,List.set_cons_succ])
 refine BigFrame.wpList_want (by rfl) (fun K hK=>?_)
 go_simp
 refine hK _ _ ?_
 clear hK K
 (try dsimp only [Act.put]);(try simp only [List.setIfInBounds_toArray,List.set_cons_zero,List.set_cons_succ])
 refine BigFrame.wpList_want (by rfl) (fun K hK=>?_)
 go_simp
 refine hK _ _ ?_
 clear hK K
 (try dsimp only [Act.put]);(try simp only [List.setIfInBounds_toArray,List.set_cons_zero,List.set_cons_succ])
 refine BigFrame.wpList_want (by rfl) (fun K hK=>?_)
 go_simp
 refine hK _ _ ?_
 clear hK K
 (try dsimp only [Act.put]);(try simp only [List.setIfInBounds_toArray,List.set_cons_zero,List.set_cons_succ])
 refine BigFrame.wpList_want (by rfl) (fun K hK=>?_)
 go_simp
 refine hK _ _ ?_
 clear hK K
 (try dsimp only [Act.put]);(try simp only [List.setIfInBounds_toArray,List.set_cons_zero,List.set_cons_succ])
 refine BigFrame.wpList_want (by rfl) (fun K hK=>?_)
 go_simp
 refine hK _ _ ?_
 clear hK K
 (try dsimp only [Act.put]);(try simp only [List.setIfInBounds_toArray,List.set_cons_zero,List.set_cons_succ])
 refine BigFrame.wpList_want (by rfl) (fun K hK=>?_)
 go_simp
 refine hK _ _ ?_
 clear hK K
 (try dsimp only [Act.put]);(try simp only [List.setIfInBounds_toArray,List.set_cons_zero,List.set_cons_succ])
 refine wpList_plain rfl (fun K hK=>?_)
 go_simp
 refine hK _ _ ?_
 clear hK K
 (try dsimp only [Act.put]);(try simp only [List.setIfInBounds_toArray,List.set_cons_zero,List.set_cons_succ])
 refine wpList_plain rfl (fun K hK=>?_)
 go_simp
 refine hK _ _ ?_
 clear hK K
 (try dsimp only [Act.put]);(try simp only [List.setIfInBounds_toArray,List.set_cons_zero,List.set_cons_succ])
 by_cases h5:T.dets.length=U.dets.length
 rotate_left
 ·have NE:Hid (¬ Heads T U):=fun e=>h5 (by exact e.h5)
  have hn:((T.dets.length:Int) != (U.dets.length:Int))=true:=by rw [bne_iff_ne];omega
  clear h5
  go_wp2
  exact HQ.out _ _ _ _ _ _ _ _ _ _ _ _ _ _ _ _ _ _ _ _ _ _ _ _ _ _ _ _ _ _ _ _ _ _ _ _ _ _ _ _ _ _ _ _ _ _ _ _ _ _ _ _ _ _ true (by simp only [Bool.true_eq_false,false_iff];exact NE.out)
 have hn:((T.dets.length:Int) != (U.dets.length:Int))=false:=by rw [bne_eq_false_iff_eq];omega
 have H5:=Lib.hid h5
 clear h5
 refine BigFrame.wpList_want (by rfl) (fun K hK=>?_)
 go_simp
 refine hK _ _ ?_
 clear hK K
 (try dsimp only [Act.put]);(try simp only [List.setIfInBounds_toArray,List.set_cons_zero,List.set_cons_succ])
 refine BigFrame.wpList_want (by rfl) (fun K hK=>?_)
 go_simp
 refine hK _ _ ?_
 clear hK K
 (try dsimp only [Act.put]);(try simp only [List.setIfInBounds_toArray,List.set_cons_zero,List.set_cons_succ])
 refine BigFrame.wpList_want (by rfl) (fun K hK=>?_)
 go_simp
 refine hK _ _ ?_
 clear hK K
 (try dsimp only [Act.put]);(try simp only [List.setIfInBounds_toArray,List.set_cons_zero,List.set_cons_succ])
 refine BigFrame.wpList_want (by rfl) (fun K hK=>?_)
 go_simp
 refine hK _ _ ?_
 clear hK K
 (try dsimp only [Act.put]);(try simp only [List.setIfInBounds_toArray,List.set_cons_zero,List.set_cons_succ])
 refine BigFrame.wpList_want (by rfl) (fun K hK=>?_)
 go_simp
 refine hK _ _ ?_
 clear hK K
 (try dsimp only [Act.put]);(try simp only [List.setIfInBounds_toArray,List.set_cons_zero,List.set_cons_succ])
 refine BigFrame.wpList_want (by rfl) (fun K hK=>?_)
 go_simp
 refine hK _ _ ?_
 clear hK K
 (try dsimp only [Act.put]);(try simp only [List.setIfInBounds_toArray,List.set_cons_zero,List.set_cons_succ])
 refine BigFrame.wpList_want (by rfl) (fun K hK=>?_)
 go_simp
 refine hK _ _ ?_
 clear hK K
 (try dsimp only [Act.put]);(try simp only [List.setIfInBounds_toArray,List.set_cons_zero,List.set_cons_succ])
 refine wpList_plain rfl (fun K hK=>?_)
 go_simp
 refine hK _ _ ?_
 clear hK K
 (try dsimp only [Act.put]);(try simp only [List.setIfInBounds_toArray,List.set_cons_zero,List.set_cons_succ])
 refine wpList_plain rfl (fun K hK=>?_)
 go_simp
 refine hK _ _ ?_
 clear hK K
 (try dsimp only [Act.put]);(try simp only [List.setIfInBounds_toArray,List.set_cons_zero,List.set_cons_succ])
 by_cases h6:T.rails.length=U.rails.length
 rotate_left
 ·have NE:Hid (¬ Heads T U):=fun e=>h6 (by exact e.h6)
  have hn:((T.rails.length:Int) != (U.rails.length:Int))=true:=by rw [bne_iff_ne];omega
  clear h6
  go_wp2
  exact HQ.out _ _ _ _ _ _ _ _ _ _ _ _ _ _ _ _ _ _ _ _ _ _ _ _ _ _ _ _ _ _ _ _ _ _ _ _ _ _ _ _ _ _ _ _ _ _ _ _ _ _ _ _ _ _ true (by simp only [Bool.true_eq_false,false_iff];exact NE.out)
 have hn:((T.rails.length:Int) != (U.rails.length:Int))=false:=by rw [bne_eq_false_iff_eq];omega
 have H6:=Lib.hid h6
 clear h6
 refine BigFrame.wpList_want (by rfl) (fun K hK=>?_)
 go_simp
 refine hK _ _ ?_
 clear hK K
 (try dsimp only [Act.put]);(try simp only [List.setIfInBounds_toArray,List.set_cons_zero,List.set_cons_succ])
 refine BigFrame.wpList_want (by rfl) (fun K hK=>?_)
 go_simp
 refine hK _ _ ?_
 clear hK K
 (try dsimp only [Act.put]);(try simp only [List.setIfInBounds_toArray,List.set_cons_zero,List.set_cons_succ])
 refine BigFrame.wpList_want (by rfl) (fun K hK=>?_)
 go_simp
 refine hK _ _ ?_
 clear hK K
 (try dsimp only [Act.put]);(try simp only [List.setIfInBounds_toArray,List.set_cons_zero,List.set_cons_succ])
 refine BigFrame.wpList_want (by rfl) (fun K hK=>?_)
 go_simp
 refine hK _ _ ?_
 clear hK K
 (try dsimp only [Act.put]);(try simp only [List.setIfInBounds_toArray,List.set_cons_zero,List.set_cons_succ])
 refine BigFrame.wpList_want (by rfl) (fun K hK=>?_)
 go_simp
 refine hK _ _ ?_
 clear hK K
 (try dsimp only [Act.put]);(try simp only [List.setIfInBounds_toArray,List.set_cons_zero,List.set_cons_succ])
 refine BigFrame.wpList_want (by rfl) (fun K hK=>?_)
 go_simp
 refine hK _ _ ?_
 clear hK K
 (try dsimp only [Act.put]);(try simp only [List.setIfInBounds_toArray,List.set_cons_zero,List.set_cons_succ])
 refine BigFrame.wpList_want (by rfl) (fun K hK=>?_)
 go_simp
 refine hK _ _ ?_
 clear hK K
 (try dsimp only [Act.put]);(try simp only [List.setIfInBounds_toArray,List.set_cons_zero,List.set_cons_succ])
 refine wpList_plain rfl (fun K hK=>?_)
 go_simp
 refine hK _ _ ?_
 clear hK K
 (try dsimp only [Act.put]);(try simp only [List.setIfInBounds_toArray,List.set_cons_zero,List.set_cons_succ])
 refine wpList_plain rfl (fun K hK=>?_)
 go_simp
 refine hK _ _ ?_
 clear hK K
 (try dsimp only [Act.put]);(try simp only [List.setIfInBounds_toArray,List.set_cons_zero,List.set_cons_succ])
 by_cases h7:T.buses.length=U.buses.length
 rotate_left
 ·have NE:Hid (¬ Heads T U):=fun e=>h7 (by exact e.h7)
  have hn:((T.buses.length:Int) != (U.buses.length:Int))=true:=by rw [bne_iff_ne];omega
  clear h7
  go_wp2
  exact HQ.out _ _ _ _ _ _ _ _ _ _ _ _ _ _ _ _ _ _ _ _ _ _ _ _ _ _ _ _ _ _ _ _ _ _ _ _ _ _ _ _ _ _ _ _ _ _ _ _ _ _ _ _ _ _ true (by simp only [Bool.true_eq_false,false_iff];exact NE.out)
 have hn:((T.buses.length:Int) != (U.buses.length:Int))=false:=by rw [bne_eq_false_iff_eq];omega
 have H7:=Lib.hid h7
 clear h7
 go_wp2
 exact HQ.out _ _ _ _ _ _ _ _ _ _ _ _ _ _ _ _ _ _ _ _ _ _ _ _ _ _ _ _ _ _ _ _ _ _ _ _ _ _ _ _ _ _ _ _ _ _ _ _ _ _ _ _ _ _ false (by simp only [true_iff];exact ⟨H1.out,H2.out,H3.out,H4.out,H5.out,H6.out,H7.out⟩)
end Same
namespace Same
open Go.ChangeShapes Go.WideShapes Go.ChangeAt Go.RowKit
open Tab Owned CodeAt
open May (ret_bool chain take_succ' infoP infoG infoD infoR infoB infoT row_new St)
theorem groups_rg {Q:Exit→Act→World→Prop} (w wr:World) (q n n' c c':Nat) (x y:Addr) (a0 a1 b0 b1:Option Addr) (cap0 cap1 bap0 bap1:Nat) (l0 l1 m0 m1:List Int) (hlt:q < n) (hlu:q < n') (K1:n≤c∧c≤2 ^ 63 - 1) (K2:n'≤c'∧c'≤2 ^ 63 - 1)
  (qq104:Hid (wr.cell? ⟨w.heap.size,104,none⟩=some (.slice (some x) n c))) (rr104:Hid (wr.cell? ⟨w.heap.size+1,104,none⟩=some (.slice (some y) n' c')))
  (C0:Hid (wr.cell? (x.add (q*2))=some (.slice a0 l0.length cap0)∧wr.cell? ⟨(x.add (q*2)).block,(x.add (q*2)).off+1,none⟩=some (.slice a1 l1.length cap1)))
  (D0:Hid (wr.cell? (y.add (q*2))=some (.slice b0 m0.length bap0)∧wr.cell? ⟨(y.add (q*2)).block,(y.add (q*2)).off+1,none⟩=some (.slice b1 m1.length bap1)))
  (H0:Hid (IntRow wr ⟨a0,cap0⟩ l0)) (H1:Hid (IntRow wr ⟨a1,cap1⟩ l1)) (H2:Hid (IntRow wr ⟨b0,bap0⟩ m0)) (H3:Hid (IntRow wr ⟨b1,bap1⟩ m1)) (f0 f1 f4 f6 f7 f8 f9 f10 f11 f12 f13 f14 f15 f16 f17 f18 f19 f20 f21 f22 f23 f24 f25 f26 f27 f28 f29 f30 f31 f32 f33 f34 f35 f36 f37 f38 f39 f40 f41 f42 f43 f44 f45 f46 f47 f48 f49 f50 f51 f52 f53 f54 f55 f56 f57 f58 f59 f60 f61 f62 f63 f64 f65 f66 f67 f68 f69 f70 f71 f72 f73 f74 f75 f76 f77 f78 f79 f80 f81 f82 f83 f84 f85 f86 f87 f88 f89 f90 f91 f92 f93 f94 f95 f96 f97 f98 f99 f100 f101 f102 f103 f104 f105 f106 f107 f108 f109 f110 f111 f112 f113 f114 f115 f116 f117 f118 f119 f120 f121 f122 f123 f124 f125 f126 f127 f128 f129 f130 f131 f132 f133 f134 f135 f136 f137 f138 f139 f140 f141 f142 f143 f144 f145 f146 f147 f148 f149 f150 f151 f152 f153 f154 f155 f156 f157 f158 f159 f160 f161 f162 f163 f164 f165 f166 f167 f168 f169 f170 f171 f172 f173 f174 f175 f176 f177 f178 f179 f180 f181 f182 f183 f184 f185 f186 f187 f188 f189 f190 f191 f192 f193 f194 f195 f196 f197 f198 f199 f200 f201 f202 f203 f204 f205 f206 f207 f208 f209 f210 f211 f212 f213 f214 f215 f216 f217 f218 f219 f220 f221 f222 f223 f224 f225 f226 f227 f228 f229 f230 f231 f232 f233 f234 f235 f236 f237 f238 f239 f240 f241 f242:Value)
  (HQ:Hid (∀ (x105 x106 x107 x108 x109 x110 x111 x112 x113 x114 x115 x116 x117 x118 x119 x120 x121 x122 x123 x124 x125 x126 x127 x128 x129 x130 x131 x132 x133:Value) (b:Bool) (w':World),(b=false ↔ l0=m0∧l1=m1)→Below wr.heap.size wr w'→Q .normal ⟨#[f0,f1,Value.pointer (some ⟨w.heap.size,0,none⟩),Value.pointer (some ⟨w.heap.size+1,0,none⟩),f4,Value.int .i64 (q:Int),f6,f7,f8,f9,f10,f11,f12,f13,f14,f15,f16,f17,f18,f19,f20,f21,f22,f23,f24,f25,f26,f27,f28,f29,f30,f31,f32,f33,f34,f35,f36,f37,f38,f39,f40,f41,f42,f43,f44,f45,f46,f47,f48,f49,f50,f51,f52,f53,f54,f55,f56,f57,f58,f59,f60,f61,f62,f63,f64,f65,f66,f67,f68,f69,f70,f71,f72,f73,f74,f75,f76,f77,f78,f79,f80,f81,f82,f83,f84,f85,f86,f87,f88,f89,f90,f91,f92,f93,f94,f95,f96,f97,f98,f99,f100,f101,f102,f103,f104,x105,x106,x107,x108,x109,x110,x111,x112,x113,x114,x115,x116,x117,x118,x119,x120,x121,x122,x123,x124,x125,x126,x127,x128,x129,x130,x131,x132,x133,Value.bool b,f135,f136,f137,f138,f139,f140,f141,f142,f143,f144,f145,f146,f147,f148,f149,f150,f151,f152,f153,f154,f155,f156,f157,f158,f159,f160,f161,f162,f163,f164,f165,f166,f167,f168,f169,f170,f171,f172,f173,f174,f175,f176,f177,f178,f179,f180,f181,f182,f183,f184,f185,f186,f187,f188,f189,f190,f191,f192,f193,f194,f195,f196,f197,f198,f199,f200,f201,f202,f203,f204,f205,f206,f207,f208,f209,f210,f211,f212,f213,f214,f215,f216,f217,f218,f219,f220,f221,f222,f223,f224,f225,f226,f227,f228,f229,f230,f231,f232,f233,f234,f235,f236,f237,f238,f239,f240,f241,f242],[]⟩ w')) :
  (rg 8 Tryz.f9).wp Tryz.prog Q ⟨#[f0,f1,Value.pointer (some ⟨w.heap.size,0,none⟩),Value.pointer (some ⟨w.heap.size+1,0,none⟩),f4,Value.int .i64 (q:Int),f6,f7,f8,f9,f10,f11,f12,f13,f14,f15,f16,f17,f18,f19,f20,f21,f22,f23,f24,f25,f26,f27,f28,f29,f30,f31,f32,f33,f34,f35,f36,f37,f38,f39,f40,f41,f42,f43,f44,f45,f46,f47,f48,f49,f50,f51,f52,f53,f54,f55,f56,f57,f58,f59,f60,f61,f62,f63,f64,f65,f66,f67,f68,f69,f70,f71,f72,f73,f74,f75,f76,f77,f78,f79,f80,f81,f82,f83,f84,f85,f86,f87,f88,f89,f90,f91,f92,f93,f94,f95,f96,f97,f98,f99,f100,f101,f102,f103,f104,f105,f106,f107,f108,f109,f110,f111,f112,f113,f114,f115,f116,f117,f118,f119,f120,f121,f122,f123,f124,f125,f126,f127,f128,f129,f130,f131,f132,f133,f134,f135,f136,f137,f138,f139,f140,f141,f142,f143,f144,f145,f146,f147,f148,f149,f150,f151,f152,f153,f154,f155,f156,f157,f158,f159,f160,f161,f162,f163,f164,f165,f166,f167,f168,f169,f170,f171,f172,f173,f174,f175,f176,f177,f178,f179,f180,f181,f182,f183,f184,f185,f186,f187,f188,f189,f190,f191,f192,f193,f194,f195,f196,f197,f198,f199,f200,f201,f202,f203,f204,f205,f206,f207,f208,f209,f210,f211,f212,f213,f214,f215,f216,f217,f218,f219,f220,f221,f222,f223,f224,f225,f226,f227,f228,f229,f230,f231,f232,f233,f234,f235,f236,f237,f238,f239,f240,f241,f242],[]⟩ wr:=by
 conv=>arg 2;whnf
 have lift:Hid (∀ (p:Ph.S (Row.Old wr)) (z:Addr) (c:Value),wr.cell? z=some c→p.world.cell? z=some c):=Lib.hid (fun p z c hz=>(p.is.cell (World.block_lt_of_cell? wr _ hz)).trans hz)
 have f1:=fun p:Ph.S (Row.Old wr)=>lift.out p _ _ qq104.out
 have f2:=fun p:Ph.S (Row.Old wr)=>lift.out p _ _ rr104.out
 have f3:=fun p:Ph.S (Row.Old wr)=>lift.out p _ _ C0.out.1
 have f4:=fun p:Ph.S (Row.Old wr)=>lift.out p _ _ C0.out.2
 have f5:=fun p:Ph.S (Row.Old wr)=>lift.out p _ _ D0.out.1
 have f6:=fun p:Ph.S (Row.Old wr)=>lift.out p _ _ D0.out.2
 have hne:Nonempty (Ph.S (Row.Old wr)):=⟨⟨0,wr,Below.refl _ _⟩⟩
 refine Pw.region (Row.Old wr) [] (by kernel_rfl) (by kernel_rfl) (Row.Old.drew _) ?_
 iterate 12
  (refine Pw.calm rfl (fun K hK=>?_)
   go_simp
   refine hK _ ?_
   clear hK K)
 (refine Pw.calm rfl (fun K hK=>?_)
  go_simp
  refine ⟨_,fun p=>Row.Old.call (rints_any a0 b0 cap0 bap0 l0 m0 _ (H0.out.below p.is) (H2.out.below p.is)),hK _ ?_⟩
  clear hK K)
 by_cases hd0:l0=m0
 rotate_left
 ·rw [decide_eq_false hd0]
  iterate 2
   (refine Pw.calm rfl (fun K hK=>?_)
    go_simp
    refine hK _ ?_
    clear hK K)
  refine Pw.skips 14 (by kernel_rfl) ?_
  (try simp only [List.take_succ_cons,List.take_zero,List.drop_succ_cons,List.drop_zero,Pw.undefs])
  (try dsimp only [Act.put])
  (try simp only [List.setIfInBounds_toArray,List.set_cons_zero,List.set_cons_succ])
  iterate 1
   (refine Pw.calm rfl (fun K hK=>?_)
    go_simp
    refine hK _ ?_
    clear hK K)
  refine Pw.nil ?_
  intro w3 hb3
  exact HQ.out _ _ _ _ _ _ _ _ _ _ _ _ _ _ _ _ _ _ _ _ _ _ _ _ _ _ _ _ _ true w3 (by simp only [Bool.true_eq_false,false_iff];exact fun e=>hd0 e.1) hb3
 rw [decide_eq_true hd0]
 have HD0:=Lib.hid hd0
 clear hd0
 iterate 2
  (refine Pw.calm rfl (fun K hK=>?_)
   go_simp
   refine hK _ ?_
   clear hK K)
 iterate 12
  (refine Pw.calm rfl (fun K hK=>?_)
   go_simp
   refine hK _ ?_
   clear hK K)
 (refine Pw.calm rfl (fun K hK=>?_)
  go_simp
  refine ⟨_,fun p=>Row.Old.call (rints_any a1 b1 cap1 bap1 l1 m1 _ (H1.out.below p.is) (H3.out.below p.is)),hK _ ?_⟩
  clear hK K)
 by_cases hd1:l1=m1
 ·rw [decide_eq_true hd1]
  iterate 2
   (refine Pw.calm rfl (fun K hK=>?_)
    go_simp
    refine hK _ ?_
    clear hK K)
  refine Pw.nil ?_
  intro w3 hb3
  exact HQ.out _ _ _ _ _ _ _ _ _ _ _ _ _ _ _ _ _ _ _ _ _ _ _ _ _ _ _ _ _ false w3 (by simp only [true_iff];exact ⟨HD0.out,hd1⟩) hb3
 ·rw [decide_eq_false hd1]
  iterate 2
   (refine Pw.calm rfl (fun K hK=>?_)
    go_simp
    refine hK _ ?_
    clear hK K)
  refine Pw.nil ?_
  intro w3 hb3
  exact HQ.out _ _ _ _ _ _ _ _ _ _ _ _ _ _ _ _ _ _ _ _ _ _ _ _ _ _ _ _ _ true w3 (by simp only [Bool.true_eq_false,false_iff];exact fun e=>hd1 e.2) hb3
end Same
namespace Same
open Go.ChangeShapes Go.WideShapes Go.ChangeAt Go.RowKit
open Tab Owned CodeAt
open May (ret_bool chain take_succ' infoP infoG infoD infoR infoB infoT row_new St)
theorem dets_rg {Q:Exit→Act→World→Prop} (wc:World) (g7 g8:Nat) (v0 u0:Det) (hg7:wc.heap[g7]?=some (.cells v0.cells.toArray 71 (0,0))) (hg8:wc.heap[g8]?=some (.cells u0.cells.toArray 71 (0,0))) (f0 f1 f2 f3 f4 f5 f6 f9 f10 f11 f12 f13 f14 f15 f16 f17 f18 f19 f20 f21 f22 f23 f24 f25 f26 f27 f28 f29 f30 f31 f32 f33 f34 f35 f36 f37 f38 f39 f40 f41 f42 f43 f44 f45 f46 f47 f48 f49 f50 f51 f52 f53 f54 f55 f56 f57 f58 f59 f60 f61 f62 f63 f64 f65 f66 f67 f68 f69 f70 f71 f72 f73 f74 f75 f76 f77 f78 f79 f80 f81 f82 f83 f84 f85 f86 f87 f88 f89 f90 f91 f92 f93 f94 f95 f96 f97 f98 f99 f100 f101 f102 f103 f104 f105 f106 f107 f108 f109 f110 f111 f112 f113 f114 f115 f116 f117 f118 f119 f120 f121 f122 f123 f124 f125 f126 f127 f128 f129 f130 f131 f132 f133 f134 f135 f136 f137 f138 f139 f140 f141 f142 f143 f144 f145 f146 f147 f148 f149 f150 f151 f152 f153 f154 f155 f156 f157 f158 f159 f160 f161 f162 f163 f164 f165 f166 f167 f168 f169 f170 f171 f172 f173 f174 f175 f176 f177 f178 f179 f180 f181 f182 f183 f184 f185 f186 f187 f188 f189 f190 f191 f192 f193 f194 f195 f196 f197 f198 f199 f200 f201 f202 f203 f204 f205 f206 f207 f208 f209 f210 f211 f212 f213 f214 f215 f216 f217 f218 f219 f220 f221 f222 f223 f224 f225 f226 f227 f228 f229 f230 f231 f232 f233 f234 f235 f236 f237 f238 f239 f240 f241 f242:Value)
  (HQ:Hid (∀ (x152 x153 x154 x155 x156 x157 x158 x159 x160 x161 x162 x163 x164 x165 x166 x167 x168 x169 x170 x171 x172 x173 x174 x175 x176 x177 x178 x179 x180 x181 x182 x183 x184 x185 x186 x187 x188 x189 x190 x191 x192 x193 x194 x195 x196 x197 x198 x199 x200 x201 x202 x203 x204 x205:Value) (b:Bool) (w':World),(b=false ↔ v0=u0)→Below wc.heap.size wc w'→Q .normal ⟨#[f0,f1,f2,f3,f4,f5,f6,Value.pointer (some ⟨g7,0,none⟩),Value.pointer (some ⟨g8,0,none⟩),f9,f10,f11,f12,f13,f14,f15,f16,f17,f18,f19,f20,f21,f22,f23,f24,f25,f26,f27,f28,f29,f30,f31,f32,f33,f34,f35,f36,f37,f38,f39,f40,f41,f42,f43,f44,f45,f46,f47,f48,f49,f50,f51,f52,f53,f54,f55,f56,f57,f58,f59,f60,f61,f62,f63,f64,f65,f66,f67,f68,f69,f70,f71,f72,f73,f74,f75,f76,f77,f78,f79,f80,f81,f82,f83,f84,f85,f86,f87,f88,f89,f90,f91,f92,f93,f94,f95,f96,f97,f98,f99,f100,f101,f102,f103,f104,f105,f106,f107,f108,f109,f110,f111,f112,f113,f114,f115,f116,f117,f118,f119,f120,f121,f122,f123,f124,f125,f126,f127,f128,f129,f130,f131,f132,f133,f134,f135,f136,f137,f138,f139,f140,f141,f142,f143,f144,f145,f146,f147,f148,f149,f150,f151,x152,x153,x154,x155,x156,x157,x158,x159,x160,x161,x162,x163,x164,x165,x166,x167,x168,x169,x170,x171,x172,x173,x174,x175,x176,x177,x178,x179,x180,x181,x182,x183,x184,x185,x186,x187,x188,x189,x190,x191,x192,x193,x194,x195,x196,x197,x198,x199,x200,x201,x202,x203,x204,x205,Value.bool b,f207,f208,f209,f210,f211,f212,f213,f214,f215,f216,f217,f218,f219,f220,f221,f222,f223,f224,f225,f226,f227,f228,f229,f230,f231,f232,f233,f234,f235,f236,f237,f238,f239,f240,f241,f242],[]⟩ w')) :
  (rg 14 Tryz.f9).wp Tryz.prog Q ⟨#[f0,f1,f2,f3,f4,f5,f6,Value.pointer (some ⟨g7,0,none⟩),Value.pointer (some ⟨g8,0,none⟩),f9,f10,f11,f12,f13,f14,f15,f16,f17,f18,f19,f20,f21,f22,f23,f24,f25,f26,f27,f28,f29,f30,f31,f32,f33,f34,f35,f36,f37,f38,f39,f40,f41,f42,f43,f44,f45,f46,f47,f48,f49,f50,f51,f52,f53,f54,f55,f56,f57,f58,f59,f60,f61,f62,f63,f64,f65,f66,f67,f68,f69,f70,f71,f72,f73,f74,f75,f76,f77,f78,f79,f80,f81,f82,f83,f84,f85,f86,f87,f88,f89,f90,f91,f92,f93,f94,f95,f96,f97,f98,f99,f100,f101,f102,f103,f104,f105,f106,f107,f108,f109,f110,f111,f112,f113,f114,f115,f116,f117,f118,f119,f120,f121,f122,f123,f124,f125,f126,f127,f128,f129,f130,f131,f132,f133,f134,f135,f136,f137,f138,f139,f140,f141,f142,f143,f144,f145,f146,f147,f148,f149,f150,f151,f152,f153,f154,f155,f156,f157,f158,f159,f160,f161,f162,f163,f164,f165,f166,f167,f168,f169,f170,f171,f172,f173,f174,f175,f176,f177,f178,f179,f180,f181,f182,f183,f184,f185,f186,f187,f188,f189,f190,f191,f192,f193,f194,f195,f196,f197,f198,f199,f200,f201,f202,f203,f204,f205,f206,f207,f208,f209,f210,f211,f212,f213,f214,f215,f216,f217,f218,f219,f220,f221,f222,f223,f224,f225,f226,f227,f228,f229,f230,f231,f232,f233,f234,f235,f236,f237,f238,f239,f240,f241,f242],[]⟩ wc:=by
 conv=>arg 2;whnf
 have M1:Hid (Lies wc ⟨g7,0,none⟩ v0.cells):=Lib.hid (by have:=Row.lies_of_block hg7;simpa using this)
 have M2:Hid (Lies wc ⟨g8,0,none⟩ u0.cells):=Lib.hid (by have:=Row.lies_of_block hg8;simpa using this)
 clear hg7 hg8
 have hne:Nonempty (Ph.S (Row.Old wc)):=⟨⟨0,wc,Below.refl _ _⟩⟩
 refine Pw.region (Row.Old wc) [] (by kernel_rfl) (by kernel_rfl) (Row.Old.drew _) ?_
 by_cases h0:v0.phase=u0.phase
 rotate_left
 ·skip
  have NE:Hid (¬ v0=u0):=fun e=>h0 (by rw [e])
  have hb:((v0.phase:Int) != (u0.phase:Int))=true:=by rw [bne_iff_ne];omega
  clear h0
  have q7:∀ p:Ph.S (Row.Old wc),p.world.cell? ⟨g7,0,none⟩=some (I v0.phase):=fun p=>by have:=(M1.out.below p.is) 0 _ rfl;rwa [Addr.add_mid,Nat.zero_add] at this
  have q8:∀ p:Ph.S (Row.Old wc),p.world.cell? ⟨g8,0,none⟩=some (I u0.phase):=fun p=>by have:=(M2.out.below p.is) 0 _ rfl;rwa [Addr.add_mid,Nat.zero_add] at this
  iterate 5
   (refine Pw.calm rfl (fun K hK=>?_)
    go_simp
    refine hK _ ?_
    clear hK K)
  clear q7 q8
  iterate 1
   (refine Pw.calm rfl (fun K hK=>?_)
    go_simp
    refine hK _ ?_
    clear hK K)
  refine Pw.skips 5 (by kernel_rfl) ?_
  (try simp only [List.take_succ_cons,List.take_zero,List.drop_succ_cons,List.drop_zero,Pw.undefs])
  (try dsimp only [Act.put])
  (try simp only [List.setIfInBounds_toArray,List.set_cons_zero,List.set_cons_succ])
  iterate 2
   (refine Pw.calm rfl (fun K hK=>?_)
    go_simp
    refine hK _ ?_
    clear hK K)
  refine Pw.skips 5 (by kernel_rfl) ?_
  (try simp only [List.take_succ_cons,List.take_zero,List.drop_succ_cons,List.drop_zero,Pw.undefs])
  (try dsimp only [Act.put])
  (try simp only [List.setIfInBounds_toArray,List.set_cons_zero,List.set_cons_succ])
  iterate 2
   (refine Pw.calm rfl (fun K hK=>?_)
    go_simp
    refine hK _ ?_
    clear hK K)
  refine Pw.skips 7 (by kernel_rfl) ?_
  (try simp only [List.take_succ_cons,List.take_zero,List.drop_succ_cons,List.drop_zero,Pw.undefs])
  (try dsimp only [Act.put])
  (try simp only [List.setIfInBounds_toArray,List.set_cons_zero,List.set_cons_succ])
  iterate 2
   (refine Pw.calm rfl (fun K hK=>?_)
    go_simp
    refine hK _ ?_
    clear hK K)
  refine Pw.skips 7 (by kernel_rfl) ?_
  (try simp only [List.take_succ_cons,List.take_zero,List.drop_succ_cons,List.drop_zero,Pw.undefs])
  (try dsimp only [Act.put])
  (try simp only [List.setIfInBounds_toArray,List.set_cons_zero,List.set_cons_succ])
  iterate 2
   (refine Pw.calm rfl (fun K hK=>?_)
    go_simp
    refine hK _ ?_
    clear hK K)
  refine Pw.skips 7 (by kernel_rfl) ?_
  (try simp only [List.take_succ_cons,List.take_zero,List.drop_succ_cons,List.drop_zero,Pw.undefs])
  (try dsimp only [Act.put])
  (try simp only [List.setIfInBounds_toArray,List.set_cons_zero,List.set_cons_succ])
  iterate 2
   (refine Pw.calm rfl (fun K hK=>?_)
    go_simp
    refine hK _ ?_
    clear hK K)
  refine Pw.skips 7 (by kernel_rfl) ?_
  (try simp only [List.take_succ_cons,List.take_zero,List.drop_succ_cons,List.drop_zero,Pw.undefs])
  (try dsimp only [Act.put])
  (try simp only [List.setIfInBounds_toArray,List.set_cons_zero,List.set_cons_succ])
  iterate 1
   (refine Pw.calm rfl (fun K hK=>?_)
    go_simp
    refine hK _ ?_
    clear hK K)
  refine Pw.nil ?_
  intro w3 hb3
  exact HQ.out _ _ _ _ _ _ _ _ _ _ _ _ _ _ _ _ _ _ _ _ _ _ _ _ _ _ _ _ _ _ _ _ _ _ _ _ _ _ _ _ _ _ _ _ _ _ _ _ _ _ _ _ _ _ true w3 (by simp only [Bool.true_eq_false,false_iff];exact NE.out) hb3
 have hb0:((v0.phase:Int) != (u0.phase:Int))=false:=by rw [bne_eq_false_iff_eq];omega
 have E0:=Lib.hid h0
 clear h0
 have q7:∀ p:Ph.S (Row.Old wc),p.world.cell? ⟨g7,0,none⟩=some (I v0.phase):=fun p=>by have:=(M1.out.below p.is) 0 _ rfl;rwa [Addr.add_mid,Nat.zero_add] at this
 have q8:∀ p:Ph.S (Row.Old wc),p.world.cell? ⟨g8,0,none⟩=some (I u0.phase):=fun p=>by have:=(M2.out.below p.is) 0 _ rfl;rwa [Addr.add_mid,Nat.zero_add] at this
 iterate 5
  (refine Pw.calm rfl (fun K hK=>?_)
   go_simp
   refine hK _ ?_
   clear hK K)
 clear q7 q8
 iterate 1
  (refine Pw.calm rfl (fun K hK=>?_)
   go_simp
   refine hK _ ?_
   clear hK K)
 clear hb0
 by_cases h1:v0.maxOn=u0.maxOn
 rotate_left
 ·skip
  have NE:Hid (¬ v0=u0):=fun e=>h1 (by rw [e])
  have hb:((v0.maxOn:Int) != (u0.maxOn:Int))=true:=by rw [bne_iff_ne];omega
  clear h1
  have q7:∀ p:Ph.S (Row.Old wc),p.world.cell? ⟨g7,5,none⟩=some (I v0.maxOn):=fun p=>by have:=(M1.out.below p.is) 5 _ rfl;rwa [Addr.add_mid,Nat.zero_add] at this
  have q8:∀ p:Ph.S (Row.Old wc),p.world.cell? ⟨g8,5,none⟩=some (I u0.maxOn):=fun p=>by have:=(M2.out.below p.is) 5 _ rfl;rwa [Addr.add_mid,Nat.zero_add] at this
  iterate 5
   (refine Pw.calm rfl (fun K hK=>?_)
    go_simp
    refine hK _ ?_
    clear hK K)
  clear q7 q8
  iterate 2
   (refine Pw.calm rfl (fun K hK=>?_)
    go_simp
    refine hK _ ?_
    clear hK K)
  refine Pw.skips 5 (by kernel_rfl) ?_
  (try simp only [List.take_succ_cons,List.take_zero,List.drop_succ_cons,List.drop_zero,Pw.undefs])
  (try dsimp only [Act.put])
  (try simp only [List.setIfInBounds_toArray,List.set_cons_zero,List.set_cons_succ])
  iterate 2
   (refine Pw.calm rfl (fun K hK=>?_)
    go_simp
    refine hK _ ?_
    clear hK K)
  refine Pw.skips 7 (by kernel_rfl) ?_
  (try simp only [List.take_succ_cons,List.take_zero,List.drop_succ_cons,List.drop_zero,Pw.undefs])
  (try dsimp only [Act.put])
  (try simp only [List.setIfInBounds_toArray,List.set_cons_zero,List.set_cons_succ])
  iterate 2
   (refine Pw.calm rfl (fun K hK=>?_)
    go_simp
    refine hK _ ?_
    clear hK K)
  refine Pw.skips 7 (by kernel_rfl) ?_
  (try simp only [List.take_succ_cons,List.take_zero,List.drop_succ_cons,List.drop_zero,Pw.undefs])
  (try dsimp only [Act.put])
  (try simp only [List.setIfInBounds_toArray,List.set_cons_zero,List.set_cons_succ])
  iterate 2
   (refine Pw.calm rfl (fun K hK=>?_)
    go_simp
    refine hK _ ?_
    clear hK K)
  refine Pw.skips 7 (by kernel_rfl) ?_
  (try simp only [List.take_succ_cons,List.take_zero,List.drop_succ_cons,List.drop_zero,Pw.undefs])
  (try dsimp only [Act.put])
  (try simp only [List.setIfInBounds_toArray,List.set_cons_zero,List.set_cons_succ])
  iterate 2
   (refine Pw.calm rfl (fun K hK=>?_)
    go_simp
    refine hK _ ?_
    clear hK K)
  refine Pw.skips 7 (by kernel_rfl) ?_
  (try simp only [List.take_succ_cons,List.take_zero,List.drop_succ_cons,List.drop_zero,Pw.undefs])
  (try dsimp only [Act.put])
  (try simp only [List.setIfInBounds_toArray,List.set_cons_zero,List.set_cons_succ])
  iterate 1
   (refine Pw.calm rfl (fun K hK=>?_)
    go_simp
    refine hK _ ?_
    clear hK K)
  refine Pw.nil ?_
  intro w3 hb3
  exact HQ.out _ _ _ _ _ _ _ _ _ _ _ _ _ _ _ _ _ _ _ _ _ _ _ _ _ _ _ _ _ _ _ _ _ _ _ _ _ _ _ _ _ _ _ _ _ _ _ _ _ _ _ _ _ _ true w3 (by simp only [Bool.true_eq_false,false_iff];exact NE.out) hb3
 have hb1:((v0.maxOn:Int) != (u0.maxOn:Int))=false:=by rw [bne_eq_false_iff_eq];omega
 have E1:=Lib.hid h1
 clear h1
 have q7:∀ p:Ph.S (Row.Old wc),p.world.cell? ⟨g7,5,none⟩=some (I v0.maxOn):=fun p=>by have:=(M1.out.below p.is) 5 _ rfl;rwa [Addr.add_mid,Nat.zero_add] at this
 have q8:∀ p:Ph.S (Row.Old wc),p.world.cell? ⟨g8,5,none⟩=some (I u0.maxOn):=fun p=>by have:=(M2.out.below p.is) 5 _ rfl;rwa [Addr.add_mid,Nat.zero_add] at this
 iterate 5
  (refine Pw.calm rfl (fun K hK=>?_)
   go_simp
   refine hK _ ?_
   clear hK K)
 clear q7 q8
 iterate 2
  (refine Pw.calm rfl (fun K hK=>?_)
   go_simp
   refine hK _ ?_
   clear hK K)
 clear hb1
 by_cases h2:v0.maxOff=u0.maxOff
 rotate_left
 ·skip
  have NE:Hid (¬ v0=u0):=fun e=>h2 (by rw [e])
  have hb:((v0.maxOff:Int) != (u0.maxOff:Int))=true:=by rw [bne_iff_ne];omega
  clear h2
  have q7:∀ p:Ph.S (Row.Old wc),p.world.cell? ⟨g7,6,none⟩=some (I v0.maxOff):=fun p=>by have:=(M1.out.below p.is) 6 _ rfl;rwa [Addr.add_mid,Nat.zero_add] at this
  have q8:∀ p:Ph.S (Row.Old wc),p.world.cell? ⟨g8,6,none⟩=some (I u0.maxOff):=fun p=>by have:=(M2.out.below p.is) 6 _ rfl;rwa [Addr.add_mid,Nat.zero_add] at this
  iterate 5
   (refine Pw.calm rfl (fun K hK=>?_)
    go_simp
    refine hK _ ?_
    clear hK K)
  clear q7 q8
  iterate 2
   (refine Pw.calm rfl (fun K hK=>?_)
    go_simp
    refine hK _ ?_
    clear hK K)
  refine Pw.skips 7 (by kernel_rfl) ?_
  (try simp only [List.take_succ_cons,List.take_zero,List.drop_succ_cons,List.drop_zero,Pw.undefs])
  (try dsimp only [Act.put])
  (try simp only [List.setIfInBounds_toArray,List.set_cons_zero,List.set_cons_succ])
  iterate 2
   (refine Pw.calm rfl (fun K hK=>?_)
    go_simp
    refine hK _ ?_
    clear hK K)
  refine Pw.skips 7 (by kernel_rfl) ?_
  (try simp only [List.take_succ_cons,List.take_zero,List.drop_succ_cons,List.drop_zero,Pw.undefs])
  (try dsimp only [Act.put])
  (try simp only [List.setIfInBounds_toArray,List.set_cons_zero,List.set_cons_succ])
  iterate 2
   (refine Pw.calm rfl (fun K hK=>?_)
    go_simp
    refine hK _ ?_
    clear hK K)
  refine Pw.skips 7 (by kernel_rfl) ?_
  (try simp only [List.take_succ_cons,List.take_zero,List.drop_succ_cons,List.drop_zero,Pw.undefs])
  (try dsimp only [Act.put])
  (try simp only [List.setIfInBounds_toArray,List.set_cons_zero,List.set_cons_succ])
  iterate 2
   (refine Pw.calm rfl (fun K hK=>?_)
    go_simp
    refine hK _ ?_
    clear hK K)
  refine Pw.skips 7 (by kernel_rfl) ?_
  (try simp only [List.take_succ_cons,List.take_zero,List.drop_succ_cons,List.drop_zero,Pw.undefs])
  (try dsimp only [Act.put])
  (try simp only [List.setIfInBounds_toArray,List.set_cons_zero,List.set_cons_succ])
  iterate 1
   (refine Pw.calm rfl (fun K hK=>?_)
    go_simp
    refine hK _ ?_
    clear hK K)
  refine Pw.nil ?_
  intro w3 hb3
  exact HQ.out _ _ _ _ _ _ _ _ _ _ _ _ _ _ _ _ _ _ _ _ _ _ _ _ _ _ _ _ _ _ _ _ _ _ _ _ _ _ _ _ _ _ _ _ _ _ _ _ _ _ _ _ _ _ true w3 (by simp only [Bool.true_eq_false,false_iff];exact NE.out) hb3
 have hb2:((v0.maxOff:Int) != (u0.maxOff:Int))=false:=by rw [bne_eq_false_iff_eq];omega
 have E2:=Lib.hid h2
 clear h2
 have q7:∀ p:Ph.S (Row.Old wc),p.world.cell? ⟨g7,6,none⟩=some (I v0.maxOff):=fun p=>by have:=(M1.out.below p.is) 6 _ rfl;rwa [Addr.add_mid,Nat.zero_add] at this
 have q8:∀ p:Ph.S (Row.Old wc),p.world.cell? ⟨g8,6,none⟩=some (I u0.maxOff):=fun p=>by have:=(M2.out.below p.is) 6 _ rfl;rwa [Addr.add_mid,Nat.zero_add] at this
 iterate 5
  (refine Pw.calm rfl (fun K hK=>?_)
   go_simp
   refine hK _ ?_
   clear hK K)
 clear q7 q8
 iterate 2
  (refine Pw.calm rfl (fun K hK=>?_)
   go_simp
   refine hK _ ?_
   clear hK K)
 clear hb2
 by_cases h3:v0.on=u0.on
 rotate_left
 ·skip
  have NE:Hid (¬ v0=u0):=fun e=>h3 (by rw [e])
  have hb:((v0.on:Int) != (u0.on:Int))=true:=by rw [bne_iff_ne];omega
  clear h3
  have q7:∀ p:Ph.S (Row.Old wc),p.world.cell? ⟨g7,1,none⟩=some (F v0.on):=fun p=>by have:=(M1.out.below p.is) 1 _ rfl;rwa [Addr.add_mid,Nat.zero_add] at this
  have q8:∀ p:Ph.S (Row.Old wc),p.world.cell? ⟨g8,1,none⟩=some (F u0.on):=fun p=>by have:=(M2.out.below p.is) 1 _ rfl;rwa [Addr.add_mid,Nat.zero_add] at this
  iterate 2
   (refine Pw.calm rfl (fun K hK=>?_)
    go_simp
    refine hK _ ?_
    clear hK K)
  (refine Pw.calm rfl (fun K hK=>?_)
   go_simp
   refine ⟨_,fun p=>Row.Old.pure (MayF.bits_any _ _),hK _ ?_⟩
   clear hK K)
  iterate 2
   (refine Pw.calm rfl (fun K hK=>?_)
    go_simp
    refine hK _ ?_
    clear hK K)
  (refine Pw.calm rfl (fun K hK=>?_)
   go_simp
   refine ⟨_,fun p=>Row.Old.pure (MayF.bits_any _ _),hK _ ?_⟩
   clear hK K)
  iterate 1
   (refine Pw.calm rfl (fun K hK=>?_)
    go_simp
    refine hK _ ?_
    clear hK K)
  clear q7 q8
  iterate 2
   (refine Pw.calm rfl (fun K hK=>?_)
    go_simp
    refine hK _ ?_
    clear hK K)
  refine Pw.skips 7 (by kernel_rfl) ?_
  (try simp only [List.take_succ_cons,List.take_zero,List.drop_succ_cons,List.drop_zero,Pw.undefs])
  (try dsimp only [Act.put])
  (try simp only [List.setIfInBounds_toArray,List.set_cons_zero,List.set_cons_succ])
  iterate 2
   (refine Pw.calm rfl (fun K hK=>?_)
    go_simp
    refine hK _ ?_
    clear hK K)
  refine Pw.skips 7 (by kernel_rfl) ?_
  (try simp only [List.take_succ_cons,List.take_zero,List.drop_succ_cons,List.drop_zero,Pw.undefs])
  (try dsimp only [Act.put])
  (try simp only [List.setIfInBounds_toArray,List.set_cons_zero,List.set_cons_succ])
  iterate 2
   (refine Pw.calm rfl (fun K hK=>?_)
    go_simp
    refine hK _ ?_
    clear hK K)
  refine Pw.skips 7 (by kernel_rfl) ?_
  (try simp only [List.take_succ_cons,List.take_zero,List.drop_succ_cons,List.drop_zero,Pw.undefs])
  (try dsimp only [Act.put])
  (try simp only [List.setIfInBounds_toArray,List.set_cons_zero,List.set_cons_succ])
  iterate 1
   (refine Pw.calm rfl (fun K hK=>?_)
    go_simp
    refine hK _ ?_
    clear hK K)
  refine Pw.nil ?_
  intro w3 hb3
  exact HQ.out _ _ _ _ _ _ _ _ _ _ _ _ _ _ _ _ _ _ _ _ _ _ _ _ _ _ _ _ _ _ _ _ _ _ _ _ _ _ _ _ _ _ _ _ _ _ _ _ _ _ _ _ _ _ true w3 (by simp only [Bool.true_eq_false,false_iff];exact NE.out) hb3
 have hb3:((v0.on:Int) != (u0.on:Int))=false:=by rw [bne_eq_false_iff_eq];omega
 have E3:=Lib.hid h3
 clear h3
 have q7:∀ p:Ph.S (Row.Old wc),p.world.cell? ⟨g7,1,none⟩=some (F v0.on):=fun p=>by have:=(M1.out.below p.is) 1 _ rfl;rwa [Addr.add_mid,Nat.zero_add] at this
 have q8:∀ p:Ph.S (Row.Old wc),p.world.cell? ⟨g8,1,none⟩=some (F u0.on):=fun p=>by have:=(M2.out.below p.is) 1 _ rfl;rwa [Addr.add_mid,Nat.zero_add] at this
 iterate 2
  (refine Pw.calm rfl (fun K hK=>?_)
   go_simp
   refine hK _ ?_
   clear hK K)
 (refine Pw.calm rfl (fun K hK=>?_)
  go_simp
  refine ⟨_,fun p=>Row.Old.pure (MayF.bits_any _ _),hK _ ?_⟩
  clear hK K)
 iterate 2
  (refine Pw.calm rfl (fun K hK=>?_)
   go_simp
   refine hK _ ?_
   clear hK K)
 (refine Pw.calm rfl (fun K hK=>?_)
  go_simp
  refine ⟨_,fun p=>Row.Old.pure (MayF.bits_any _ _),hK _ ?_⟩
  clear hK K)
 iterate 1
  (refine Pw.calm rfl (fun K hK=>?_)
   go_simp
   refine hK _ ?_
   clear hK K)
 clear q7 q8
 iterate 2
  (refine Pw.calm rfl (fun K hK=>?_)
   go_simp
   refine hK _ ?_
   clear hK K)
 clear hb3
 by_cases h4:v0.off=u0.off
 rotate_left
 ·skip
  have NE:Hid (¬ v0=u0):=fun e=>h4 (by rw [e])
  have hb:((v0.off:Int) != (u0.off:Int))=true:=by rw [bne_iff_ne];omega
  clear h4
  have q7:∀ p:Ph.S (Row.Old wc),p.world.cell? ⟨g7,2,none⟩=some (F v0.off):=fun p=>by have:=(M1.out.below p.is) 2 _ rfl;rwa [Addr.add_mid,Nat.zero_add] at this
  have q8:∀ p:Ph.S (Row.Old wc),p.world.cell? ⟨g8,2,none⟩=some (F u0.off):=fun p=>by have:=(M2.out.below p.is) 2 _ rfl;rwa [Addr.add_mid,Nat.zero_add] at this
  iterate 2
   (refine Pw.calm rfl (fun K hK=>?_)
    go_simp
    refine hK _ ?_
    clear hK K)
  (refine Pw.calm rfl (fun K hK=>?_)
   go_simp
   refine ⟨_,fun p=>Row.Old.pure (MayF.bits_any _ _),hK _ ?_⟩
   clear hK K)
  iterate 2
   (refine Pw.calm rfl (fun K hK=>?_)
    go_simp
    refine hK _ ?_
    clear hK K)
  (refine Pw.calm rfl (fun K hK=>?_)
   go_simp
   refine ⟨_,fun p=>Row.Old.pure (MayF.bits_any _ _),hK _ ?_⟩
   clear hK K)
  iterate 1
   (refine Pw.calm rfl (fun K hK=>?_)
    go_simp
    refine hK _ ?_
    clear hK K)
  clear q7 q8
  iterate 2
   (refine Pw.calm rfl (fun K hK=>?_)
    go_simp
    refine hK _ ?_
    clear hK K)
  refine Pw.skips 7 (by kernel_rfl) ?_
  (try simp only [List.take_succ_cons,List.take_zero,List.drop_succ_cons,List.drop_zero,Pw.undefs])
  (try dsimp only [Act.put])
  (try simp only [List.setIfInBounds_toArray,List.set_cons_zero,List.set_cons_succ])
  iterate 2
   (refine Pw.calm rfl (fun K hK=>?_)
    go_simp
    refine hK _ ?_
    clear hK K)
  refine Pw.skips 7 (by kernel_rfl) ?_
  (try simp only [List.take_succ_cons,List.take_zero,List.drop_succ_cons,List.drop_zero,Pw.undefs])
  (try dsimp only [Act.put])
  (try simp only [List.setIfInBounds_toArray,List.set_cons_zero,List.set_cons_succ])
  iterate 1
   (refine Pw.calm rfl (fun K hK=>?_)
    go_simp
    refine hK _ ?_
    clear hK K)
  refine Pw.nil ?_
  intro w3 hb3
  exact HQ.out _ _ _ _ _ _ _ _ _ _ _ _ _ _ _ _ _ _ _ _ _ _ _ _ _ _ _ _ _ _ _ _ _ _ _ _ _ _ _ _ _ _ _ _ _ _ _ _ _ _ _ _ _ _ true w3 (by simp only [Bool.true_eq_false,false_iff];exact NE.out) hb3
 have hb4:((v0.off:Int) != (u0.off:Int))=false:=by rw [bne_eq_false_iff_eq];omega
 have E4:=Lib.hid h4
 clear h4
 have q7:∀ p:Ph.S (Row.Old wc),p.world.cell? ⟨g7,2,none⟩=some (F v0.off):=fun p=>by have:=(M1.out.below p.is) 2 _ rfl;rwa [Addr.add_mid,Nat.zero_add] at this
 have q8:∀ p:Ph.S (Row.Old wc),p.world.cell? ⟨g8,2,none⟩=some (F u0.off):=fun p=>by have:=(M2.out.below p.is) 2 _ rfl;rwa [Addr.add_mid,Nat.zero_add] at this
 iterate 2
  (refine Pw.calm rfl (fun K hK=>?_)
   go_simp
   refine hK _ ?_
   clear hK K)
 (refine Pw.calm rfl (fun K hK=>?_)
  go_simp
  refine ⟨_,fun p=>Row.Old.pure (MayF.bits_any _ _),hK _ ?_⟩
  clear hK K)
 iterate 2
  (refine Pw.calm rfl (fun K hK=>?_)
   go_simp
   refine hK _ ?_
   clear hK K)
 (refine Pw.calm rfl (fun K hK=>?_)
  go_simp
  refine ⟨_,fun p=>Row.Old.pure (MayF.bits_any _ _),hK _ ?_⟩
  clear hK K)
 iterate 1
  (refine Pw.calm rfl (fun K hK=>?_)
   go_simp
   refine hK _ ?_
   clear hK K)
 clear q7 q8
 iterate 2
  (refine Pw.calm rfl (fun K hK=>?_)
   go_simp
   refine hK _ ?_
   clear hK K)
 clear hb4
 by_cases h5:v0.delay=u0.delay
 rotate_left
 ·skip
  have NE:Hid (¬ v0=u0):=fun e=>h5 (by rw [e])
  have hb:((v0.delay:Int) != (u0.delay:Int))=true:=by rw [bne_iff_ne];omega
  clear h5
  have q7:∀ p:Ph.S (Row.Old wc),p.world.cell? ⟨g7,3,none⟩=some (F v0.delay):=fun p=>by have:=(M1.out.below p.is) 3 _ rfl;rwa [Addr.add_mid,Nat.zero_add] at this
  have q8:∀ p:Ph.S (Row.Old wc),p.world.cell? ⟨g8,3,none⟩=some (F u0.delay):=fun p=>by have:=(M2.out.below p.is) 3 _ rfl;rwa [Addr.add_mid,Nat.zero_add] at this
  iterate 2
   (refine Pw.calm rfl (fun K hK=>?_)
    go_simp
    refine hK _ ?_
    clear hK K)
  (refine Pw.calm rfl (fun K hK=>?_)
   go_simp
   refine ⟨_,fun p=>Row.Old.pure (MayF.bits_any _ _),hK _ ?_⟩
   clear hK K)
  iterate 2
   (refine Pw.calm rfl (fun K hK=>?_)
    go_simp
    refine hK _ ?_
    clear hK K)
  (refine Pw.calm rfl (fun K hK=>?_)
   go_simp
   refine ⟨_,fun p=>Row.Old.pure (MayF.bits_any _ _),hK _ ?_⟩
   clear hK K)
  iterate 1
   (refine Pw.calm rfl (fun K hK=>?_)
    go_simp
    refine hK _ ?_
    clear hK K)
  clear q7 q8
  iterate 2
   (refine Pw.calm rfl (fun K hK=>?_)
    go_simp
    refine hK _ ?_
    clear hK K)
  refine Pw.skips 7 (by kernel_rfl) ?_
  (try simp only [List.take_succ_cons,List.take_zero,List.drop_succ_cons,List.drop_zero,Pw.undefs])
  (try dsimp only [Act.put])
  (try simp only [List.setIfInBounds_toArray,List.set_cons_zero,List.set_cons_succ])
  iterate 1
   (refine Pw.calm rfl (fun K hK=>?_)
    go_simp
    refine hK _ ?_
    clear hK K)
  refine Pw.nil ?_
  intro w3 hb3
  exact HQ.out _ _ _ _ _ _ _ _ _ _ _ _ _ _ _ _ _ _ _ _ _ _ _ _ _ _ _ _ _ _ _ _ _ _ _ _ _ _ _ _ _ _ _ _ _ _ _ _ _ _ _ _ _ _ true w3 (by simp only [Bool.true_eq_false,false_iff];exact NE.out) hb3
 have hb5:((v0.delay:Int) != (u0.delay:Int))=false:=by rw [bne_eq_false_iff_eq];omega
 have E5:=Lib.hid h5
 clear h5
 have q7:∀ p:Ph.S (Row.Old wc),p.world.cell? ⟨g7,3,none⟩=some (F v0.delay):=fun p=>by have:=(M1.out.below p.is) 3 _ rfl;rwa [Addr.add_mid,Nat.zero_add] at this
 have q8:∀ p:Ph.S (Row.Old wc),p.world.cell? ⟨g8,3,none⟩=some (F u0.delay):=fun p=>by have:=(M2.out.below p.is) 3 _ rfl;rwa [Addr.add_mid,Nat.zero_add] at this
 iterate 2
  (refine Pw.calm rfl (fun K hK=>?_)
   go_simp
   refine hK _ ?_
   clear hK K)
 (refine Pw.calm rfl (fun K hK=>?_)
  go_simp
  refine ⟨_,fun p=>Row.Old.pure (MayF.bits_any _ _),hK _ ?_⟩
  clear hK K)
 iterate 2
  (refine Pw.calm rfl (fun K hK=>?_)
   go_simp
   refine hK _ ?_
   clear hK K)
 (refine Pw.calm rfl (fun K hK=>?_)
  go_simp
  refine ⟨_,fun p=>Row.Old.pure (MayF.bits_any _ _),hK _ ?_⟩
  clear hK K)
 iterate 1
  (refine Pw.calm rfl (fun K hK=>?_)
   go_simp
   refine hK _ ?_
   clear hK K)
 clear q7 q8
 iterate 2
  (refine Pw.calm rfl (fun K hK=>?_)
   go_simp
   refine hK _ ?_
   clear hK K)
 clear hb5
 by_cases h6:v0.extend=u0.extend
 rotate_left
 ·skip
  have NE:Hid (¬ v0=u0):=fun e=>h6 (by rw [e])
  have hb:((v0.extend:Int) != (u0.extend:Int))=true:=by rw [bne_iff_ne];omega
  clear h6
  have q7:∀ p:Ph.S (Row.Old wc),p.world.cell? ⟨g7,4,none⟩=some (F v0.extend):=fun p=>by have:=(M1.out.below p.is) 4 _ rfl;rwa [Addr.add_mid,Nat.zero_add] at this
  have q8:∀ p:Ph.S (Row.Old wc),p.world.cell? ⟨g8,4,none⟩=some (F u0.extend):=fun p=>by have:=(M2.out.below p.is) 4 _ rfl;rwa [Addr.add_mid,Nat.zero_add] at this
  iterate 2
   (refine Pw.calm rfl (fun K hK=>?_)
    go_simp
    refine hK _ ?_
    clear hK K)
  (refine Pw.calm rfl (fun K hK=>?_)
   go_simp
   refine ⟨_,fun p=>Row.Old.pure (MayF.bits_any _ _),hK _ ?_⟩
   clear hK K)
  iterate 2
   (refine Pw.calm rfl (fun K hK=>?_)
    go_simp
    refine hK _ ?_
    clear hK K)
  (refine Pw.calm rfl (fun K hK=>?_)
   go_simp
   refine ⟨_,fun p=>Row.Old.pure (MayF.bits_any _ _),hK _ ?_⟩
   clear hK K)
  iterate 1
   (refine Pw.calm rfl (fun K hK=>?_)
    go_simp
    refine hK _ ?_
    clear hK K)
  clear q7 q8
  iterate 1
   (refine Pw.calm rfl (fun K hK=>?_)
    go_simp
    refine hK _ ?_
    clear hK K)
  refine Pw.nil ?_
  intro w3 hb3
  exact HQ.out _ _ _ _ _ _ _ _ _ _ _ _ _ _ _ _ _ _ _ _ _ _ _ _ _ _ _ _ _ _ _ _ _ _ _ _ _ _ _ _ _ _ _ _ _ _ _ _ _ _ _ _ _ _ true w3 (by simp only [Bool.true_eq_false,false_iff];exact NE.out) hb3
 have hb6:((v0.extend:Int) != (u0.extend:Int))=false:=by rw [bne_eq_false_iff_eq];omega
 have E6:=Lib.hid h6
 clear h6
 have q7:∀ p:Ph.S (Row.Old wc),p.world.cell? ⟨g7,4,none⟩=some (F v0.extend):=fun p=>by have:=(M1.out.below p.is) 4 _ rfl;rwa [Addr.add_mid,Nat.zero_add] at this
 have q8:∀ p:Ph.S (Row.Old wc),p.world.cell? ⟨g8,4,none⟩=some (F u0.extend):=fun p=>by have:=(M2.out.below p.is) 4 _ rfl;rwa [Addr.add_mid,Nat.zero_add] at this
 iterate 2
  (refine Pw.calm rfl (fun K hK=>?_)
   go_simp
   refine hK _ ?_
   clear hK K)
 (refine Pw.calm rfl (fun K hK=>?_)
  go_simp
  refine ⟨_,fun p=>Row.Old.pure (MayF.bits_any _ _),hK _ ?_⟩
  clear hK K)
 iterate 2
  (refine Pw.calm rfl (fun K hK=>?_)
   go_simp
   refine hK _ ?_
   clear hK K)
 (refine Pw.calm rfl (fun K hK=>?_)
  go_simp
  refine ⟨_,fun p=>Row.Old.pure (MayF.bits_any _ _),hK _ ?_⟩
  clear hK K)
 iterate 1
  (refine Pw.calm rfl (fun K hK=>?_)
   go_simp
   refine hK _ ?_
   clear hK K)
 clear q7 q8
 iterate 1
  (refine Pw.calm rfl (fun K hK=>?_)
   go_simp
   refine hK _ ?_
   clear hK K)
 clear hb6
 refine Pw.nil ?_
 intro w3 hb3
 have EQ:Hid (v0=u0):=Lib.hid (by
  have e0:=E0.out;have e1:=E1.out;have e2:=E2.out;have e3:=E3.out;have e4:=E4.out;have e5:=E5.out;have e6:=E6.out
  obtain ⟨a0,a1,a2,a3,a4,a5,a6⟩:=v0
  obtain ⟨b0,b1,b2,b3,b4,b5,b6⟩:=u0
  simp only at e0 e1 e2 e3 e4 e5 e6
  subst e0 e1 e2 e3 e4 e5 e6
  rfl)
 exact HQ.out _ _ _ _ _ _ _ _ _ _ _ _ _ _ _ _ _ _ _ _ _ _ _ _ _ _ _ _ _ _ _ _ _ _ _ _ _ _ _ _ _ _ _ _ _ _ _ _ _ _ _ _ _ _ false w3 (by simp only [true_iff];exact EQ.out) hb3
end Same
namespace Same
open Go.ChangeShapes Go.WideShapes Go.ChangeAt Go.RowKit
open Tab Owned CodeAt
open May (ret_bool chain take_succ' infoP infoG infoD infoR infoB infoT row_new St)
theorem rsame_any (T U:Tab) (h k:Hd) (w:World) (ht:IsTab w h T) (hu:IsTab w k U) :
  Calls Tryz.prog 9 #[.agg (T.cells h).toArray,.agg (U.cells k).toArray] w fun e w'=>e=.returned (.bool (decide (T=U)))∧Below w.heap.size w w':=by
 have C:=Lib.hid (cells_ok ht)
 have D:=Lib.hid (cells_ok hu)
 generalize (T.cells h).toArray=cs at C ⊢
 generalize (U.cells k).toArray=ds at D ⊢
 obtain ⟨gs,hgd,hgr⟩:=ht.groups
 obtain ⟨us,hud,hur⟩:=hu.groups
 have Hgr:=Lib.hid hgr
 have Hur:=Lib.hid hur
 have Kg:=hgr.1.len
 have Ku:=hur.1.len
 have Kd:=ht.dets.len
 have Kd':=hu.dets.len
 have Kr:=ht.rails.len
 have Kr':=hu.rails.len
 have Kb:=ht.buses.len
 have Kb':=hu.buses.len
 unfold maxLen at Kg Ku Kd Kd' Kr Kr' Kb Kb'
 have Hgl:=Lib.hid (show T.groups.length=gs.length by rw [← hgd,List.length_map])
 have Hul:=Lib.hid (show U.groups.length=us.length by rw [← hud,List.length_map])
 have b1w:Below w.heap.size w ((w.alloc (.cells cs 33)).alloc (.cells ds 33)):=((Below.refl _ _).alloc (Nat.le_refl _) _).alloc (by simp) _
 have SS:Hid (Two w cs ds h k T U ((w.alloc (.cells cs 33)).alloc (.cells ds 33))):=⟨⟨b1w,heap_alloc2_old w _ _,ht.below b1w,Nat.le_refl _⟩,⟨b1w,heap_alloc2_new w _ _,hu.below b1w,by omega⟩⟩
 have E1:=Lib.hid (phases_eqs T.phases U.phases ht.ph hu.ph)
 have E3:=Lib.hid (eight_eqs T.conflict U.conflict ht.cf hu.cf)
 have E7:=Lib.hid (eight_eqs T.flash U.flash ht.fl hu.fl)
 have GD:Hid (gs.map Gr.data=us.map Gr.data ↔ T.groups=U.groups):=by rw [hgd,hud];exact Iff.rfl
 have L1:=Lib.hid ht
 have L2:=Lib.hid hu
 have hsz:=C.out.size
 have hsd:=D.out.size
 clear ht hu hgr hur b1w hgd hud
 go_enter Tryz.func9,Tryz.ntmps9
 go_upto_region 1 with fail
 generalize (w.alloc (.cells cs 33)).alloc (.cells ds 33)=w1 at SS ⊢
 clear hsz hsd
 clear E1 E3 E7
 refine heads_rg T U h k w w1 cs ds L1 L2 C D SS _ _ _ _ _ _ _ _ _ _ _ _ _ _ _ _ _ _ _ _ _ _ _ _ _ _ _ _ _ _ _ _ _ _ _ _ _ _ _ _ _ _ _ _ _ _ _ _ _ _ _ _ _ _ _ _ _ _ _ _ _ _ _ _ _ _ _ _ _ _ _ _ _ _ _ _ _ _ _ _ _ _ _ _ _ _ _ _ _ _ _ _ _ _ _ _ _ _ _ _ _ _ _ _ _ _ _ _ _ _ _ _ _ _ _ _ _ _ _ _ _ _ _ _ _ _ _ _ _ _ _ _ _ _ _ _ _ _ _ _ _ _ _ _ _ _ _ _ _ _ _ _ _ _ _ _ _ _ _ _ _ _ _ _ _ _ _ _ _ _ _ _ _ _ _ _ _ _ _ _ _ _ _ _ _ _ _ _ _ _ _ _ _ _ _ _ _ _ _ _ _ _ _ _ _ _ _ _ _ _ _ _ _ _ _ _ _ _ _ _ _ _ _ _ _ _ _ _ _ _ _ _ _ _ _ _ _ _ _ _ _ (Lib.hid ?_)
 intro x11 x12 x13 x14 x15 x16 x17 x18 x19 x20 x21 x22 x23 x24 x25 x26 x27 x28 x29 x30 x31 x32 x33 x34 x35 x36 x37 x38 x39 x40 x41 x42 x43 x44 x45 x46 x47 x48 x49 x50 x51 x52 x53 x54 x55 x56 x57 x58 x59 x60 x61 x62 x63 x64 b hb
 cases b
 rotate_left
 ·have NE:Hid (¬ T=U):=fun e=>by
   have h2:Heads T U:=by rw [e];exact ⟨rfl,rfl,rfl,rfl,rfl,rfl,rfl⟩
   have:=hb.2 h2
   simp at this
  clear hb
  go_wp2
  go_ret
  exact ⟨ret_bool (decide_eq_false NE.out).symm,SS.out.t.bel⟩
 have HH:=Lib.hid (hb.1 rfl)
 clear hb
 generalize w1=wc at SS ⊢
 go_upto_region 3 with fail
 have a0:=SS.out.t.cell C.out.extend
 have a1:=SS.out.t.cell C.out.budget
 have a2:=SS.out.t.cell C.out.start
 have a3:=SS.out.t.cell C.out.revert
 have a4:=SS.out.t.cell C.out.least
 have a5:=SS.out.t.cell C.out.window
 have a6:=SS.out.t.cell C.out.share
 have SB:=SS.out.step (show Below wc.heap.size wc (wc.alloc (.cells #[I T.extend,I T.budget,I T.start,I T.revert,I T.least,I T.window,I T.share] 3)) from (Below.refl _ _).alloc (Nat.le_refl _) _)
 have b0:=SB.u.cell D.out.extend
 have b1:=SB.u.cell D.out.budget
 have b2:=SB.u.cell D.out.start
 have b3:=SB.u.cell D.out.revert
 have b4:=SB.u.cell D.out.least
 have b5:=SB.u.cell D.out.window
 have b6:=SB.u.cell D.out.share
 clear SB
 go_wp2_with fail
 refine (rints_len (some ⟨wc.heap.size,0,none⟩) (some ⟨wc.heap.size+1,0,none⟩) 7 7 (single T) (single U) 7 7 rfl rfl _ ((row_new wc _ (single T) 7 rfl (by decide) _ rfl).below ((Below.refl _ _).alloc (Nat.le_refl _) _)) (row_new _ _ (single U) 7 rfl (by decide) (wc.heap.size+1) (by simp))).mono ?_
 rintro e w2 ⟨rfl,hb⟩
 have hb2:Below wc.heap.size wc w2:=Below.trans (Below.alloc (Below.alloc (Below.refl _ _) (Nat.le_refl _) _) (by simp) _) (hb.mono (by simp <;> omega))
 have S2:=Lib.hid (SS.out.step hb2)
 clear hb hb2 SS a0 a1 a2 a3 a4 a5 a6 b0 b1 b2 b3 b4 b5 b6
 by_cases h8:single T=single U
 rotate_left
 ·have NE:Hid (¬ T=U):=fun e=>h8 (by rw [e])
  rw [decide_eq_false h8]
  clear h8
  go_wp2
  go_ret
  exact ⟨ret_bool (decide_eq_false NE.out).symm,S2.out.t.bel⟩
 rw [decide_eq_true h8]
 have H8:=Lib.hid h8
 have HLg:Hid (gs.length=us.length):=Lib.hid (by rw [← Hgl.out,← Hul.out];exact HH.out.h4)
 have q104:=S2.out.t.cell C.out.g
 rw [Hgl.out] at q104
 clear h8
 go_wp2_with fail
 go_loopw [5] (fun i wr=>∃ q:Nat,q≤gs.length∧i=.int .i64 q∧(gs.take q).map Gr.data=(us.take q).map Gr.data∧Two w cs ds h k T U wr) (fun i _=>gs.length - (intOf i).toNat)
 case atStart=>exact ⟨0,by omega,rfl,rfl,S2.out⟩
 case round =>
  clear S2 q104
  obtain ⟨q,hq,rfl,hall,hs⟩:=hrel
  have S1:=Lib.hid hs
  have Hall:=Lib.hid hall
  clear hs hall
  have q104:=S1.out.t.cell C.out.g
  rw [Hgl.out] at q104
  by_cases hlt:q < gs.length
  ·have hlu:q < us.length:=by have:=HLg.out;omega
   have hv:=List.getElem?_eq_getElem hlt
   have hu:=List.getElem?_eq_getElem hlu
   generalize gs[q]=v at hv
   generalize us[q]=u at hu
   obtain ⟨x,hx,hc⟩:=(Hgr.out.1.below S1.out.t.bel).at hv
   obtain ⟨y,hy,hc'⟩:=(Hur.out.1.below S1.out.u.bel).at hu
   have ok1:=(Hgr.out.2 v (List.mem_of_getElem? hv)).below S1.out.t.bel
   have ok2:=(Hur.out.2 u (List.mem_of_getElem? hu)).below S1.out.u.bel
   have HV:=Lib.hid hv
   have HU:=Lib.hid hu
   obtain ⟨l0,l1,⟨a0,cap0⟩,⟨a1,cap1⟩⟩:=v
   obtain ⟨m0,m1,⟨b0,bap0⟩,⟨b1,bap1⟩⟩:=u
   have H0:=Lib.hid ok1.1
   have H1:=Lib.hid ok1.2
   have H2:=Lib.hid ok2.1
   have H3:=Lib.hid ok2.2
   have r104:=S1.out.u.cell D.out.g
   rw [Hul.out] at r104
   have qq104:Hid (wr.cell? ⟨w.heap.size,104,none⟩=some (.slice (some x) gs.length h.g.cap)):=by have:=q104;simp only [Sl.val,hx] at this;exact this
   have rr104:Hid (wr.cell? ⟨w.heap.size+1,104,none⟩=some (.slice (some y) us.length k.g.cap)):=by have:=r104;simp only [Sl.val,hy] at this;exact this
   have c0:=hc 0 _ rfl
   have c1:=hc 1 _ rfl
   have d0:=hc' 0 _ rfl
   have d1:=hc' 1 _ rfl
   rw [add_zero] at c0 d0
   rw [add_one] at c1 d1
   have C0:=Lib.hid (And.intro c0 c1)
   have D0:=Lib.hid (And.intro d0 d1)
   clear r104 hc hc' hv hu ok1 ok2 hx hy c0 c1 d0 d1
   go_wp2_with fail
   refine groups_rg w wr q gs.length us.length h.g.cap k.g.cap x y a0 a1 b0 b1 cap0 cap1 bap0 bap1 l0 l1 m0 m1 hlt hlu Kg Ku qq104 rr104 C0 D0 H0 H1 H2 H3 _ _ _ _ _ _ _ _ _ _ _ _ _ _ _ _ _ _ _ _ _ _ _ _ _ _ _ _ _ _ _ _ _ _ _ _ _ _ _ _ _ _ _ _ _ _ _ _ _ _ _ _ _ _ _ _ _ _ _ _ _ _ _ _ _ _ _ _ _ _ _ _ _ _ _ _ _ _ _ _ _ _ _ _ _ _ _ _ _ _ _ _ _ _ _ _ _ _ _ _ _ _ _ _ _ _ _ _ _ _ _ _ _ _ _ _ _ _ _ _ _ _ _ _ _ _ _ _ _ _ _ _ _ _ _ _ _ _ _ _ _ _ _ _ _ _ _ _ _ _ _ _ _ _ _ _ _ _ _ _ _ _ _ _ _ _ _ _ _ _ _ _ _ _ _ _ _ _ _ _ _ _ _ _ _ _ _ _ _ _ _ _ _ _ _ _ _ _ _ _ _ _ _ _ _ _ _ _ _ _ _ _ _ _ _ _ _ _ _ _ _ _ _ _ _ _ _ _ _ _ _ _ _ _ _ _ _ _ _ _ (Lib.hid ?_)
   intro x105 x106 x107 x108 x109 x110 x111 x112 x113 x114 x115 x116 x117 x118 x119 x120 x121 x122 x123 x124 x125 x126 x127 x128 x129 x130 x131 x132 x133 b w3 hbq hb3
   have S3:=Lib.hid (S1.out.step hb3)
   clear hb3 q104 qq104 rr104 C0 D0 H0 H1 H2 H3 S1
   cases b
   ·have HD:=Lib.hid (hbq.1 rfl)
    clear hbq
    go_wp2
    go_roundw
    case rel=>exact ⟨q+1,by omega,by go_num,data_step HV.out HU.out Hall.out (by simp only [Gr.data,HD.out.1,HD.out.2]),S3.out⟩
    case measure=>simp [intOf];omega
   ·have NE:Hid (¬ T=U):=fun e=>data_break HV.out HU.out (fun e=>by
     simp only [Gr.data,Prod.mk.injEq] at e
     have:=hbq.2 e
     simp at this) (GD.out.2 (by rw [e]))
    clear hbq
    go_wp2
    go_ret
    exact ⟨ret_bool (decide_eq_false NE.out).symm,S3.out.t.bel⟩
  ·have HG:Hid (T.groups=U.groups):=GD.out.1 (by
    have e:=Hall.out
    rwa [List.take_of_length_le (by omega),List.take_of_length_le (by have:=HLg.out;omega)] at e)
   have q113:=S1.out.t.cell C.out.d
   clear Hall
   go_wp2_with fail
   clear q104
   go_loopw [6] (fun i wr=>∃ q:Nat,q≤T.dets.length∧i=.int .i64 q∧T.dets.take q=U.dets.take q∧Two w cs ds h k T U wr) (fun i _=>T.dets.length - (intOf i).toNat)
   case atStart=>exact ⟨0,by omega,rfl,rfl,S1.out⟩
   case round =>
    clear S1 q113
    obtain ⟨q,hq,rfl,hall,hs⟩:=hrel
    have S1:=Lib.hid hs
    have Hall:=Lib.hid hall
    clear hs hall
    have q113:=S1.out.t.cell C.out.d
    by_cases hlt:q < T.dets.length
    ·have hlu:q < U.dets.length:=by have:=HH.out.h5;omega
     have hv:=List.getElem?_eq_getElem hlt
     have hu:=List.getElem?_eq_getElem hlu
     generalize T.dets[q]=v0 at hv
     generalize U.dets[q]=u0 at hu
     obtain ⟨x,hx,hc⟩:=S1.out.t.tab.dets.at hv
     obtain ⟨y,hy,hc'⟩:=S1.out.u.tab.dets.at hu
     have HV:=Lib.hid hv
     have HU:=Lib.hid hu
     have HC:=Lib.hid hc
     have HC':=Lib.hid hc'
     have r113:=S1.out.u.cell D.out.d
     have qq113:Hid (wr.cell? ⟨w.heap.size,113,none⟩=some (.slice (some x) T.dets.length h.d.cap)):=by have:=q113;simp only [Sl.val,hx] at this;exact this
     have rr113:Hid (wr.cell? ⟨w.heap.size+1,113,none⟩=some (.slice (some y) U.dets.length k.d.cap)):=by have:=r113;simp only [Sl.val,hy] at this;exact this
     clear r113 hc hc' hv hu hx hy
     go_upto_region 13 with fail
     refine boxes_rg (fun c a a' w e h=>by cases a;cases a';cases e;exact h) w wr q T.dets.length U.dets.length h.d.cap k.d.cap x y v0 u0 hlt hlu Kd Kd' qq113 rr113 HC HC' _ _ _ _ _ _ _ _ _ _ _ _ _ _ _ _ _ _ _ _ _ _ _ _ _ _ _ _ _ _ _ _ _ _ _ _ _ _ _ _ _ _ _ _ _ _ _ _ _ _ _ _ _ _ _ _ _ _ _ _ _ _ _ _ _ _ _ _ _ _ _ _ _ _ _ _ _ _ _ _ _ _ _ _ _ _ _ _ _ _ _ _ _ _ _ _ _ _ _ _ _ _ _ _ _ _ _ _ _ _ _ _ _ _ _ _ _ _ _ _ _ _ _ _ _ _ _ _ _ _ _ _ _ _ _ _ _ _ _ _ _ _ _ _ _ _ _ _ _ _ _ _ _ _ _ _ _ _ _ _ _ _ _ _ _ _ _ _ _ _ _ _ _ _ _ _ _ _ _ _ _ _ _ _ _ _ _ _ _ _ _ _ _ _ _ _ _ _ _ _ _ _ _ _ _ _ _ _ _ _ _ _ _ _ _ _ _ _ _ _ _ _ _ _ _ _ _ _ _ _ _ _ _ _ _ _ _ _ _ _ (Lib.hid ?_)
     intro x142 x143 x144 x145 x146 x147 x148 x149 x150 x151 g7 g8 wb hg7 hg8 hbx
     have S2:=Lib.hid (S1.out.step hbx)
     have G7:=Lib.hid hg7
     have G8:=Lib.hid hg8
     clear hg7 hg8 hbx q113 qq113 rr113 HC HC' S1
     go_upto_region 14 with fail
     refine dets_rg wb g7 g8 v0 u0 G7.out G8.out _ _ _ _ _ _ _ _ _ _ _ _ _ _ _ _ _ _ _ _ _ _ _ _ _ _ _ _ _ _ _ _ _ _ _ _ _ _ _ _ _ _ _ _ _ _ _ _ _ _ _ _ _ _ _ _ _ _ _ _ _ _ _ _ _ _ _ _ _ _ _ _ _ _ _ _ _ _ _ _ _ _ _ _ _ _ _ _ _ _ _ _ _ _ _ _ _ _ _ _ _ _ _ _ _ _ _ _ _ _ _ _ _ _ _ _ _ _ _ _ _ _ _ _ _ _ _ _ _ _ _ _ _ _ _ _ _ _ _ _ _ _ _ _ _ _ _ _ _ _ _ _ _ _ _ _ _ _ _ _ _ _ _ _ _ _ _ _ _ _ _ _ _ _ _ _ _ _ _ _ _ _ _ _ _ _ _ _ _ _ _ _ _ _ _ _ _ _ _ _ _ _ _ _ _ _ _ _ _ _ _ _ _ _ _ _ _ _ _ _ _ _ _ _ _ _ _ _ _ _ _ _ _ _ _ _ _ _ _ _ _ (Lib.hid ?_)
     intro x152 x153 x154 x155 x156 x157 x158 x159 x160 x161 x162 x163 x164 x165 x166 x167 x168 x169 x170 x171 x172 x173 x174 x175 x176 x177 x178 x179 x180 x181 x182 x183 x184 x185 x186 x187 x188 x189 x190 x191 x192 x193 x194 x195 x196 x197 x198 x199 x200 x201 x202 x203 x204 x205 b w3 hbq hb3
     have S3:=Lib.hid (S2.out.step hb3)
     clear hb3 G7 G8 S2
     cases b
     ·have EQ:=Lib.hid (hbq.1 rfl)
      clear hbq
      go_wp2
      go_roundw
      case rel=>exact ⟨q+1,by omega,by go_num,eq_step HV.out HU.out Hall.out EQ.out,S3.out⟩
      case measure=>simp [intOf];omega
     ·have NE:Hid (¬ T=U):=fun e=>eq_break HV.out HU.out (fun e=>by
       have:=hbq.2 e
       simp at this) (by rw [e])
      clear hbq
      go_wp2
      go_ret
      exact ⟨ret_bool (decide_eq_false NE.out).symm,S3.out.t.bel⟩
    ·have HD:Hid (T.dets=U.dets):=Lib.hid (eq_end Hall.out HH.out.h5 hlt)
     have q114:=S1.out.t.cell C.out.r
     clear Hall
     go_wp2_with fail
     clear q113
     go_loopw [9] (fun i wr=>∃ q:Nat,q≤T.rails.length∧i=.int .i64 q∧T.rails.take q=U.rails.take q∧Two w cs ds h k T U wr) (fun i _=>T.rails.length - (intOf i).toNat)
     case atStart=>exact ⟨0,by omega,rfl,rfl,S1.out⟩
     case round =>
      clear S1 q114
      obtain ⟨q,hq,rfl,hall,hs⟩:=hrel
      have S1:=Lib.hid hs
      have Hall:=Lib.hid hall
      clear hs hall
      have q114:=S1.out.t.cell C.out.r
      by_cases hlt:q < T.rails.length
      ·skip
       have hlu:q < U.rails.length:=by have:=HH.out.h6;omega
       have hv:=List.getElem?_eq_getElem hlt
       have hu:=List.getElem?_eq_getElem hlu
       generalize T.rails[q]=v at hv
       generalize U.rails[q]=u at hu
       obtain ⟨x,hx,hc⟩:=S1.out.t.tab.rails.at hv
       obtain ⟨y,hy,hc'⟩:=S1.out.u.tab.rails.at hu
       have HV:=Lib.hid hv
       have HU:=Lib.hid hu
       have HC:=Lib.hid hc
       have HC':=Lib.hid hc'
       have r:=S1.out.u.cell D.out.r
       have qq:Hid (wr.cell? ⟨w.heap.size,114,none⟩=some (.slice (some x) T.rails.length h.r.cap)):=by have:=q114;simp only [Sl.val,hx] at this;exact this
       have rr:Hid (wr.cell? ⟨w.heap.size+1,114,none⟩=some (.slice (some y) U.rails.length k.r.cap)):=by have:=r;simp only [Sl.val,hy] at this;exact this
       clear r hc hc' hv hu hx hy
       go_upto_region 19 with fail
       have f1:∀ p:Ph.S (Row.Old wr),p.world.cell? ⟨w.heap.size,114,none⟩=some (.slice (some x) T.rails.length h.r.cap):=fun p=>(p.is.cell (World.block_lt_of_cell? wr _ qq.out)).trans qq.out
       have f2:∀ p:Ph.S (Row.Old wr),p.world.cell? ⟨w.heap.size+1,114,none⟩=some (.slice (some y) U.rails.length k.r.cap):=fun p=>(p.is.cell (World.block_lt_of_cell? wr _ rr.out)).trans rr.out
       have hne:Nonempty (Ph.S (Row.Old wr)):=⟨⟨0,wr,Below.refl _ _⟩⟩
       clear q114
       refine Pw.region (Row.Old wr) [] (by kernel_rfl) (by kernel_rfl) (Row.Old.drew _) ?_
       iterate 4
        (refine Pw.calm rfl (fun K hK=>?_)
         go_simp
         refine hK _ ?_
         clear hK K)
       refine Pw.load rfl rfl 75 _ rfl (x.add (q*11)) rfl v.cells _ (fun p=>HC.out.below p.is) Tryz.underlying75 rfl infoR ?_
       (try dsimp only [Act.put]);(try simp only [List.setIfInBounds_toArray,List.set_cons_zero,List.set_cons_succ])
       iterate 4
        (refine Pw.calm rfl (fun K hK=>?_)
         go_simp
         refine hK _ ?_
         clear hK K)
       refine Pw.load rfl rfl 75 _ rfl (y.add (q*11)) rfl u.cells _ (fun p=>HC'.out.below p.is) Tryz.underlying75 rfl infoR ?_
       (try dsimp only [Act.put]);(try simp only [List.setIfInBounds_toArray,List.set_cons_zero,List.set_cons_succ])
       refine Pw.neq 75 _ _ _ rfl rfl rfl v.cells.toArray u.cells.toArray rfl rfl guardR _ (rail_eqs v u) ?_
       (try dsimp only [Act.put]);(try simp only [List.setIfInBounds_toArray,List.set_cons_zero,List.set_cons_succ])
       refine Pw.nil ?_
       intro w3 hb3
       have S3:=Lib.hid (S1.out.step hb3)
       clear hb3 hne f1 f2
       by_cases hvu:v=u
       ·have HE:=Lib.hid hvu
        rw [decide_eq_true hvu]
        clear hvu
        simp only [Bool.not_true]
        go_wp2
        go_roundw
        case rel=>exact ⟨q+1,by omega,by go_num,eq_step HV.out HU.out Hall.out HE.out,S3.out⟩
        case measure=>simp [intOf];omega
       ·have NE:Hid (¬ T=U):=fun e=>eq_break HV.out HU.out hvu (by rw [e])
        rw [decide_eq_false hvu]
        clear hvu
        simp only [Bool.not_false]
        go_wp2
        go_ret
        exact ⟨ret_bool (decide_eq_false NE.out).symm,S3.out.t.bel⟩
      ·have HErails:Hid (T.rails=U.rails):=Lib.hid (eq_end Hall.out HH.out.h6 hlt)
       clear Hall
       have q115:=S1.out.t.cell C.out.b
       go_wp2_with fail
       clear q114
       go_loopw [10] (fun i wr=>∃ q:Nat,q≤T.buses.length∧i=.int .i64 q∧T.buses.take q=U.buses.take q∧Two w cs ds h k T U wr) (fun i _=>T.buses.length - (intOf i).toNat)
       case atStart=>exact ⟨0,by omega,rfl,rfl,S1.out⟩
       case round =>
        clear S1 q115
        obtain ⟨q,hq,rfl,hall,hs⟩:=hrel
        have S1:=Lib.hid hs
        have Hall:=Lib.hid hall
        clear hs hall
        have q115:=S1.out.t.cell C.out.b
        by_cases hlt:q < T.buses.length
        ·skip
         have hlu:q < U.buses.length:=by have:=HH.out.h7;omega
         have hv:=List.getElem?_eq_getElem hlt
         have hu:=List.getElem?_eq_getElem hlu
         generalize T.buses[q]=v at hv
         generalize U.buses[q]=u at hu
         obtain ⟨x,hx,hc⟩:=S1.out.t.tab.buses.at hv
         obtain ⟨y,hy,hc'⟩:=S1.out.u.tab.buses.at hu
         have HV:=Lib.hid hv
         have HU:=Lib.hid hu
         have HC:=Lib.hid hc
         have HC':=Lib.hid hc'
         have r:=S1.out.u.cell D.out.b
         have qq:Hid (wr.cell? ⟨w.heap.size,115,none⟩=some (.slice (some x) T.buses.length h.b.cap)):=by have:=q115;simp only [Sl.val,hx] at this;exact this
         have rr:Hid (wr.cell? ⟨w.heap.size+1,115,none⟩=some (.slice (some y) U.buses.length k.b.cap)):=by have:=r;simp only [Sl.val,hy] at this;exact this
         clear r hc hc' hv hu hx hy
         go_upto_region 24 with fail
         have f1:∀ p:Ph.S (Row.Old wr),p.world.cell? ⟨w.heap.size,115,none⟩=some (.slice (some x) T.buses.length h.b.cap):=fun p=>(p.is.cell (World.block_lt_of_cell? wr _ qq.out)).trans qq.out
         have f2:∀ p:Ph.S (Row.Old wr),p.world.cell? ⟨w.heap.size+1,115,none⟩=some (.slice (some y) U.buses.length k.b.cap):=fun p=>(p.is.cell (World.block_lt_of_cell? wr _ rr.out)).trans rr.out
         have hne:Nonempty (Ph.S (Row.Old wr)):=⟨⟨0,wr,Below.refl _ _⟩⟩
         clear q115
         refine Pw.region (Row.Old wr) [] (by kernel_rfl) (by kernel_rfl) (Row.Old.drew _) ?_
         iterate 4
          (refine Pw.calm rfl (fun K hK=>?_)
           go_simp
           refine hK _ ?_
           clear hK K)
         refine Pw.load rfl rfl 77 _ rfl (x.add (q*2)) rfl v.cells _ (fun p=>HC.out.below p.is) Tryz.underlying77 rfl infoB ?_
         (try dsimp only [Act.put]);(try simp only [List.setIfInBounds_toArray,List.set_cons_zero,List.set_cons_succ])
         iterate 4
          (refine Pw.calm rfl (fun K hK=>?_)
           go_simp
           refine hK _ ?_
           clear hK K)
         refine Pw.load rfl rfl 77 _ rfl (y.add (q*2)) rfl u.cells _ (fun p=>HC'.out.below p.is) Tryz.underlying77 rfl infoB ?_
         (try dsimp only [Act.put]);(try simp only [List.setIfInBounds_toArray,List.set_cons_zero,List.set_cons_succ])
         refine Pw.neq 77 _ _ _ rfl rfl rfl v.cells.toArray u.cells.toArray rfl rfl guardB _ (bus_eqs v u) ?_
         (try dsimp only [Act.put]);(try simp only [List.setIfInBounds_toArray,List.set_cons_zero,List.set_cons_succ])
         refine Pw.nil ?_
         intro w3 hb3
         have S3:=Lib.hid (S1.out.step hb3)
         clear hb3 hne f1 f2
         by_cases hvu:v=u
         ·have HE:=Lib.hid hvu
          rw [decide_eq_true hvu]
          clear hvu
          simp only [Bool.not_true]
          go_wp2
          go_roundw
          case rel=>exact ⟨q+1,by omega,by go_num,eq_step HV.out HU.out Hall.out HE.out,S3.out⟩
          case measure=>simp [intOf];omega
         ·have NE:Hid (¬ T=U):=fun e=>eq_break HV.out HU.out hvu (by rw [e])
          rw [decide_eq_false hvu]
          clear hvu
          simp only [Bool.not_false]
          go_wp2
          go_ret
          exact ⟨ret_bool (decide_eq_false NE.out).symm,S3.out.t.bel⟩
        ·have HEbuses:Hid (T.buses=U.buses):=Lib.hid (eq_end Hall.out HH.out.h7 hlt)
         clear Hall
         go_wp2
         go_ret
         exact ⟨ret_bool (decide_eq_true (tab_eq HH.out.h1 HG.out HH.out.h2 HD.out HErails.out HEbuses.out HH.out.h3 H8.out)).symm,S1.out.t.bel⟩
end Same
namespace TabArg
open Go Go.ChangeShapes Go.WideShapes Go.Deep Flat Tab
section
variable {H:Type} {enc:TypeId × Value→H} {P:Program} {w:World} {base:Nat} {spare:Nat→Bool} {held:Bool}
abbrev Tr (enc:TypeId × Value→H) (P:Program) (w:World) (base:Nat) (spare:Nat→Bool) (held:Bool) (t:TypeId) (v:Value):Prop:=∃ n y,DataW.trod enc P w base spare held n t [v]=some y
theorem tr_row {α:Type} [Inhabited α] {t e:TypeId} {k:Nat} {f:α→List Value} {p:α→Prop} {v:Value} (ht:P.underlying t=some (.slice e)) (hC:P.cellsOf e=k)
  (hel:∀ n cs x,DataW.trod enc P w base spare held n e cs=some x→∃ v,cs=f v∧p v) (h:Tr enc P w base spare held t v) :
  ∃ (s:Sl) (l:List α),v=s.val l.length∧RowOf k f w s l∧∀ u ∈ l,p u:=by
 obtain ⟨n,y,h⟩:=h
 rcases Deep.open_slice ht h with ⟨h0,_⟩ | ⟨a,len,cap,m,n',D,Pl,hcs,_,hl,hm,hmm,_,hx⟩
 ·simp only [List.cons.injEq,and_true] at h0
  exact ⟨⟨none,0⟩,[],h0,RowOf.nil w,by simp⟩
 ·simp only [List.cons.injEq,and_true] at hcs
  have hlm:len≤m:=by rw [hmm];split <;> omega
  have each:∀ i,∃ u:α,i < len→Lies w (a.add (i*k)) (f u)∧p u:=by
   intro i
   by_cases hi:i < len
   ·obtain ⟨cs',h1,h2⟩:=hx i (by omega)
    rw [hC] at h1
    obtain ⟨_,hlen,hcell⟩:=World.cells?_some h1
    obtain ⟨u,rfl,hp⟩:=hel _ _ _ h2
    refine ⟨u,fun _=>⟨fun j v hv=>?_,hp⟩⟩
    have hj:j < k:=by rw [← hlen];exact (List.getElem?_eq_some_iff.1 hv).1
    rw [hcell j hj,hv]
   ·exact ⟨default,fun h=>absurd h hi⟩
  refine ⟨⟨some a,cap⟩,(List.range len).map fun i=>Classical.choose (each i),?_,.inr ⟨a,rfl,by simpa using hl,hm,?_⟩,?_⟩
  ·rw [hcs];simp
  ·intro i u hu
   rw [List.getElem?_map] at hu
   by_cases hi:i < len
   ·rw [List.getElem?_range hi] at hu
    obtain rfl:=Option.some.inj hu
    exact (Classical.choose_spec (each i) hi).1
   ·simp [List.getElem?_eq_none (l:=List.range len) (i:=i) (by simpa using hi)] at hu
  ·intro u hu
   obtain ⟨i,hi,rfl⟩:=List.mem_map.1 hu
   exact (Classical.choose_spec (each i) (List.mem_range.1 hi)).2
instance:Inhabited Gr:=⟨⟨[],[],⟨none,0⟩,⟨none,0⟩⟩⟩
end
end TabArg
end Go.Proofs.YtjdeemmaaiecnaaGreat
