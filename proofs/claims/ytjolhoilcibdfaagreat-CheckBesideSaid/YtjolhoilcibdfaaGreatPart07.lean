/- 13 texts in one file, in build order. -/
import Derived.Test.YtjolhoilcibdfaaGreatPart01
import Derived.Test.YtjolhoilcibdfaaGreatRows
import Derived.Test.YtjolhoilcibdfaaGreatPart05
import Derived.Deep.Cut
import Derived.LoopTactic
import Derived.Great.BuildSlice
import Derived.Test.YtjolhoilcibdfaaGreatPart06
import Derived.Test.YtjolhoilcibdfaaGreatPart04
import Derived.Test.YtjolhoilcibdfaaGreatPart02
import Derived.WalkKit
import Derived.ProofKit
import Derived.IntWalk
import Derived.Lib.Hide
import Derived.Below
import Derived.WalkMore
import Derived.RangeFuncCalls
import Derived.OrdersIn
import Derived.TacticsIn
import Derived.RangeFuncNested
import Derived.RangeFuncBound
import Derived.RangeFuncLeaves
import Derived.RangeFuncBox
import Derived.Shelf.Abstract
import Derived.Shelf.RegionOpen
import Derived.OwnWalkIn
import Derived.TacticsInMore
import Derived.LoopNIn
import Derived.LoopIn
import Derived.Maps.AppendAt
set_option linter.unusedVariables false
set_option linter.unusedSimpArgs false
set_option linter.unusedSectionVars false
set_option maxHeartbeats 8000000
set_option maxRecDepth 100000
namespace Go.Proofs.YtjolhoilcibdfaaGreat
namespace GenT
open Zip
open Go.ChangeShapes Go.WideShapes Go.ChangeAt Go.RowKit
open Tab Gath GenG Clone PlaceM CodeAt
open RefS (num num_range from_any)
theorem built_bus (x y:Int):Tryz.prog.built 49 [(0,I x),(1,I y)]=some #[I x,I y]:=by kernel_rfl
theorem infoBz3:(Tryz.prog.info? 49).map (fun i=>(i.zero,i.size,i.bytes))=some (some (.agg #[I 0,I 0]),2,16):=by kernel_rfl
theorem loop_buses {Q:Exit→Act→World→Prop} (a:Option Addr) (cap:Nat) (L:List Int) (w W0:World) (hd:Hd) (T:Tab) (n:Nat) (hn:n≤8) (n0:0 < n) (k:Nat) (hk:k≤20) {f1 f5 f6 f7 f8 f9 f10 f12 f13 f14 f15 f16 f17 f18 f19 f20 f21 f22 f23 f24 f25 f26 f27 f28 f29 f30 f31 f32 f33 f34 f35 f36 f37 f38 f39 f40 f41 f42 f43 f44 f45 f46 f47 f48 f49 f50 f51 f52 f53 f54 f55 f56 f57 f58 f59 f60 f61 f62 f63 f64 f65 f66 f67 f68 f69 f70 f71 f72 f73 f74 f75 f76 f77 f78 f79 f80 f81 f82 f83 f84 f85 f86 f87 f88 f89 f90 f91 f92 f93 f94 f95 f96 f97 f98 f99 f100 f101 f102 f103 f104 f105 f106 f107 f108 f109 f110 f111 f112 f113 f114 f115 f116 f117 f118 f119 f120 f121 f122 f123 f124 f125 f126 f127 f128 f129 f130 f131 f132 f133 f134 f135 f136 f137 f138 f139 f140 f141 f142 f143 f144 f145 f146 f147 f148 f149 f150 f151 f152 f153 f154 f155 f156 f157 f158 f159 f160 f161 f162 f163 f164 f165 f166 f167 f168 f169 f170 f171 f172 f173 f174 f175 f176 f177 f178 f179 f180 f181 f182 f183 f184 f185:Value}
  (HL:Hid (∀ W,Below w.heap.size w W→IntRow W ⟨a,cap⟩ L)) (s0:Sl) (BX:Hid (Bx w ⟨hd.g,hd.d,hd.r,s0⟩ { T with buses:=[] } W0))
  (HP:∀ c a d v w,Q (.panic c) (a.put d v) w→Q (.panic c) a w) (HQ:Hid (∀ (x11 x122 x123 x124 x125 x126 x127 x128 x129 x130 x131 x132 x133 x134 x135 x136 x137 x138 x139 x140 x141 x142 x143 x144 x145 x146 x147 x148:Value) (W':World) (s1:Sl),Bx w ⟨hd.g,hd.d,hd.r,s1⟩ { T with buses:=down (fun i:Nat=>genBs L i n) k k } W'→Q (.exit 10) ⟨#[Value.slice a L.length cap,f1,Value.pointer (some ⟨w.heap.size,0,none⟩),Value.pointer (some ⟨w.heap.size+1,0,none⟩),Value.int .i64 (n:Nat),f5,f6,f7,f8,f9,f10,x11,f12,f13,f14,f15,f16,f17,f18,f19,f20,f21,f22,f23,f24,f25,f26,f27,f28,f29,f30,f31,f32,f33,f34,f35,f36,f37,f38,f39,f40,f41,f42,f43,f44,f45,f46,f47,f48,f49,f50,f51,f52,f53,f54,f55,f56,f57,f58,f59,f60,f61,f62,f63,f64,f65,f66,f67,f68,f69,f70,f71,f72,f73,f74,f75,f76,f77,f78,f79,f80,f81,f82,f83,f84,f85,f86,f87,f88,f89,f90,f91,f92,f93,f94,f95,f96,f97,f98,f99,f100,f101,f102,f103,f104,f105,f106,f107,f108,f109,f110,f111,f112,f113,f114,f115,f116,f117,f118,f119,f120,f121,x122,x123,x124,x125,x126,x127,x128,x129,x130,x131,x132,x133,x134,x135,x136,x137,x138,x139,x140,x141,x142,x143,x144,x145,x146,x147,x148,f149,f150,f151,f152,f153,f154,f155,f156,f157,f158,f159,f160,f161,f162,f163,f164,f165,f166,f167,f168,f169,f170,f171,f172,f173,f174,f175,f176,f177,f178,f179,f180,f181,f182,f183,f184,f185],[]⟩ W')) :
  (lp 29 Tryz.f12).wp Tryz.prog Q ⟨#[Value.slice a L.length cap,f1,Value.pointer (some ⟨w.heap.size,0,none⟩),Value.pointer (some ⟨w.heap.size+1,0,none⟩),Value.int .i64 (n:Nat),f5,f6,f7,f8,f9,f10,Value.int .i64 (k:Nat),f12,f13,f14,f15,f16,f17,f18,f19,f20,f21,f22,f23,f24,f25,f26,f27,f28,f29,f30,f31,f32,f33,f34,f35,f36,f37,f38,f39,f40,f41,f42,f43,f44,f45,f46,f47,f48,f49,f50,f51,f52,f53,f54,f55,f56,f57,f58,f59,f60,f61,f62,f63,f64,f65,f66,f67,f68,f69,f70,f71,f72,f73,f74,f75,f76,f77,f78,f79,f80,f81,f82,f83,f84,f85,f86,f87,f88,f89,f90,f91,f92,f93,f94,f95,f96,f97,f98,f99,f100,f101,f102,f103,f104,f105,f106,f107,f108,f109,f110,f111,f112,f113,f114,f115,f116,f117,f118,f119,f120,f121,f122,f123,f124,f125,f126,f127,f128,f129,f130,f131,f132,f133,f134,f135,f136,f137,f138,f139,f140,f141,f142,f143,f144,f145,f146,f147,f148,f149,f150,f151,f152,f153,f154,f155,f156,f157,f158,f159,f160,f161,f162,f163,f164,f165,f166,f167,f168,f169,f170,f171,f172,f173,f174,f175,f176,f177,f178,f179,f180,f181,f182,f183,f184,f185],[]⟩ W0:=by
 conv=>arg 2;whnf
 dsimp only
 obtain ⟨j0,hj,hy0,hy1,hy2⟩:=info_parts infoBz3
 go_loopw [11] (fun i wr=>∃ j:Nat,j≤k∧i=.int .i64 (k - j:Nat)∧∃ s,Bx w ⟨hd.g,hd.d,hd.r,s⟩ { T with buses:=down (fun i:Nat=>genBs L i n) k j } wr) (fun i _=>(intOf i).toNat)
 case atStart=>exact ⟨0,by omega,by go_num,s0,BX.out⟩
 case round =>
  obtain ⟨j,hjk,rfl,⟨da,dc⟩,hbx⟩:=hrel
  have HB:=hJJ hbx
  clear hbx BX
  by_cases hlt:j < k
  ·obtain ⟨i,hi⟩:∃ i:Nat,i=k - j:=⟨_,rfl⟩
   have NX:Hid (down (fun i:Nat=>genBs L i n) k (j+1)=down (fun i:Nat=>genBs L i n) k j++[(genBs L i n)]):=hJJ (by rw [down,← hi])
   have DL:Hid ((down (fun i:Nat=>genBs L i n) k j).length=j):=hJJ (down_len _ _ _)
   generalize down (fun i:Nat=>genBs L i n) k j=D at *
   have HI:=hJJ hi
   have hi0:0 < i:=by omega
   have hi9:i≤20:=by omega
   rw [← hi]
   clear hi
   have e1:IntKind.i64.wrap (2*(i:Int))=2*i:=by rw [IntKind.wrap_i64];omega
   have e2:IntKind.i64.wrap (330+2*(i:Int))=330+2*i:=by rw [IntKind.wrap_i64];omega
   have e3:IntKind.i64.wrap (331+2*(i:Int))=331+2*i:=by rw [IntKind.wrap_i64];omega
   obtain ⟨x1,hx1,F1⟩:∃ x:Int,x=num L (330+2*i) 256∧Hid (∀ W,Below w.heap.size w W→Calls Tryz.prog 43 #[.slice a L.length cap,.int .i64 (330+2*i),.int .i64 256] W fun e w'=>e=.returned (.int .i64 x)∧w'=W):=⟨_,rfl,hJJ (fun W hb=>(from_any a cap L _ _ W (HL.out _ hb) (by omega) (by omega) (by omega)).mono fun _ _ ⟨e,q⟩=>⟨e,q.symm⟩)⟩
   obtain ⟨x2,hx2,⟨r2,s2⟩,F2⟩:∃ x:Int,x=num L (331+2*i) 30∧(0≤x∧x < 30)∧Hid (∀ W,Below w.heap.size w W→Calls Tryz.prog 43 #[.slice a L.length cap,.int .i64 (331+2*i),.int .i64 30] W fun e w'=>e=.returned (.int .i64 x)∧w'=W):=⟨_,rfl,num_range _ _ _ (by omega),hJJ (fun W hb=>(from_any a cap L _ _ W (HL.out _ hb) (by omega) (by omega) (by omega)).mono fun _ _ ⟨e,q⟩=>⟨e,q.symm⟩)⟩
   have HX:Hid ([I (max 1 (bits .and .i64 x1 (GenR.maskV n))),I (1+x2)]=(genBs L i n).cells):=hJJ (by rw [hx1,hx2];rfl)
   have e4:IntKind.i64.wrap (1+x2)=1+x2:=by rw [IntKind.wrap_i64];omega
   clear hx1 hx2
   generalize genBs L i n=X at NX HX
   go_upto_region 31 with fail
   refine wp_region_held (S:=fun _=>True) (by kernel_rfl) ?_
   have hS:True:=trivial
   have hb:Bx w ⟨hd.g,hd.d,hd.r,⟨da,dc⟩⟩ { T with buses:=D } { wr with drawn:=wr.drawn+1 }:=HB.out.step (Below.refl _ _).drew
   generalize ({ wr with drawn:=wr.drawn+1 }:World)=v at hb ⊢
   clear HB
   refine tqZ 0 126 ?_ rfl (fun _ _ _ h=>HP _ _ _ _ _ h) ?_ hS ?_
   rotate_left
   ·intro w' hw'
    go_simp
    try with_reducible rfl
   (try dsimp only [Act.put]);(try simp only [zA,zB,zC])
   refine tqZ 2 128 ?_ rfl (fun _ _ _ h=>HP _ _ _ _ _ h) ?_ hS ?_
   rotate_left
   ·intro w' hw'
    go_simp
    try with_reducible rfl
   (try dsimp only [Act.put]);(try simp only [zA,zB,zC])
   refine tqZ 3 129 ?_ rfl (fun _ _ _ h=>HP _ _ _ _ _ h) ?_ hS ?_
   rotate_left
   ·intro w' hw'
    go_simp
    try with_reducible rfl
   (try dsimp only [Act.put]);(try simp only [zA,zB,zC])
   refine tqZ 4 130 ?_ rfl (fun _ _ _ h=>HP _ _ _ _ _ h) ?_ hS ?_
   rotate_left
   ·intro w' hw'
    go_simp
    try with_reducible rfl
   (try dsimp only [Act.put]);(try simp only [zA,zB,zC])
   refine tqZ 5 131 ?_ rfl (fun _ _ _ h=>HP _ _ _ _ _ h) ?_ hS ?_
   rotate_left
   ·intro w' hw'
    go_simp
    try with_reducible rfl
   (try dsimp only [Act.put]);(try simp only [zA,zB,zC])
   refine tqZ 7 133 ?_ rfl (fun _ _ _ h=>HP _ _ _ _ _ h) ?_ hS ?_
   rotate_left
   ·intro w' hw'
    go_simp
    try with_reducible rfl
   (try dsimp only [Act.put]);(try simp only [zA,zB,zC])
   refine tqZ 8 134 ?_ rfl (fun _ _ _ h=>HP _ _ _ _ _ h) ?_ hS ?_
   rotate_left
   ·intro w' hw'
    go_simp
    try with_reducible rfl
   (try dsimp only [Act.put]);(try simp only [zA,zB,zC])
   refine tqZ 9 135 ?_ rfl (fun _ _ _ h=>HP _ _ _ _ _ h) ?_ hS ?_
   rotate_left
   ·intro w' hw'
    go_simp
    try with_reducible rfl
   (try dsimp only [Act.put]);(try simp only [zA,zB,zC])
   refine tqZ 10 136 (.int .i64 (GenR.maskV n)) rfl (fun _ _ _ h=>HP _ _ _ _ _ h) ?_ hS ?_
   ·intro w' hw'
    go_simp
    try (first | rfl | (simp only [Int.max_def];split <;> split <;> omega))
   (try dsimp only [Act.put]);(try simp only [zA,zB,zC])
   refine tqZ 13 139 ?_ rfl (fun _ _ _ h=>HP _ _ _ _ _ h) ?_ hS ?_
   rotate_left
   ·intro w' hw'
    go_simp
    try with_reducible rfl
   (try dsimp only [Act.put]);(try simp only [zA,zB,zC])
   refine tqZ 14 140 ?_ rfl (fun _ _ _ h=>HP _ _ _ _ _ h) ?_ hS ?_
   rotate_left
   ·intro w' hw'
    go_simp
    try with_reducible rfl
   (try dsimp only [Act.put]);(try simp only [zA,zB,zC])
   refine tqZ 15 141 ?_ rfl (fun _ _ _ h=>HP _ _ _ _ _ h) ?_ hS ?_
   rotate_left
   ·intro w' hw'
    go_simp
    try with_reducible rfl
   (try dsimp only [Act.put]);(try simp only [zA,zB,zC])
   refine tqZ 16 142 ?_ rfl (fun _ _ _ h=>HP _ _ _ _ _ h) ?_ hS ?_
   rotate_left
   ·intro w' hw'
    go_simp
    try with_reducible rfl
   (try dsimp only [Act.put]);(try simp only [zA,zB,zC])
   refine rd2Z 1 6 rfl rfl (fun K hK=>?_) (fun K hK=>?_)
   ·have c4:v.cell? ⟨w.heap.size+1,115,none⟩=some (.slice da D.length dc):=by rw [hb.cell,← List.getElem?_toArray];exact (cells_ok hb.tab).b
    go_simp
    refine hK.out _ _ trivial (fun _=>?_)
    clear hK K
    clear c4
    refine rdZ 6 rfl (fun K hK=>?_)
    go_simp
    refine (F1.out _ hb.bel).mono ?_
    rintro e w' ⟨rfl,hq⟩
    subst w'
    go_simp
    refine hK.out _ _ trivial (fun _=>?_)
    clear hK K
    refine tqZ 11 137 (.int .i64 (bits .and .i64 x1 (GenR.maskV n))) rfl (fun _ _ _ h=>HP _ _ _ _ _ h) ?_ hS ?_
    ·intro w' hw'
     go_simp
     try (first | rfl | (simp only [Int.max_def];split <;> split <;> omega))
    (try dsimp only [Act.put]);(try simp only [zA,zB,zC])
    refine tqZ 12 138 (.int .i64 (max 1 (bits .and .i64 x1 (GenR.maskV n)))) rfl (fun _ _ _ h=>HP _ _ _ _ _ h) ?_ hS ?_
    ·intro w' hw'
     go_simp
     try (first | rfl | (simp only [Int.max_def];split <;> split <;> omega))
    (try dsimp only [Act.put]);(try simp only [zA,zB,zC])
    refine rdZ 17 rfl (fun K hK=>?_)
    go_simp
    refine (F2.out _ hb.bel).mono ?_
    rintro e w' ⟨rfl,hq⟩
    subst w'
    go_simp
    refine hK.out _ _ trivial (fun _=>?_)
    clear hK K
    refine tqZ 18 144 (.int .i64 (1+x2)) rfl (fun _ _ _ h=>HP _ _ _ _ _ h) ?_ hS ?_
    ·intro w' hw'
     go_simp
     try (first | rfl | (simp only [Int.max_def];split <;> split <;> omega))
    (try dsimp only [Act.put]);(try simp only [zA,zB,zC])
    refine Held.take_build (i:=19) (some 145) rfl 49 _ #[I (max 1 (bits .and .i64 x1 (GenR.maskV n))),I (1+x2)] rfl rfl (by kernel_rfl) (by kernel_rfl) (by kernel_rfl) (fun _ _ _ h=>HP _ _ _ _ _ h) (by rfl) hS (by simp only [List.map_toArray,List.map_cons,List.map_nil];exact built_bus _ _) ?_
    (try dsimp only [Act.put]);(try simp only [zA,zB,zC])
    refine rdZ 20 rfl (fun K hK=>?_)
    go_simp
    have hbw:Below v.heap.size v (v.alloc (.cells #[I (max 1 (bits .and .i64 x1 (GenR.maskV n))),I (1+x2)] 49)):=(Below.refl _ _).alloc (Nat.le_refl _) _
    have hN:=heap_alloc_new v (.cells #[I (max 1 (bits .and .i64 x1 (GenR.maskV n))),I (1+x2)] 49)
    replace hb:=hb.step hbw
    clear hbw
    generalize hbn:v.heap.size=bn at hN ⊢
    clear hbn
    generalize World.alloc v (.cells #[I (max 1 (bits .and .i64 x1 (GenR.maskV n))),I (1+x2)] 49)=v at hb hN ⊢
    refine hK.out _ _ trivial (fun _=>?_)
    clear hK K
    refine rdZ 21 rfl (fun K hK=>?_)
    rw [if_pos (by rfl)]
    have hown2:v.ownsRow w.heap.size 49 2 (.slice da D.length dc) D.length (D.flatMap Bs.cells):=hb.buses
    refine wp_append_own _ _ _ _ rfl w.heap.size 49 j0 (.agg #[I 0,I 0]) 2 16 Tryz.underlying30 hj hy0 hy1 hy2 rfl (by decide) (.slice da D.length dc) D.length _ rfl hown2 ⟨bn,0,none⟩ 1 1 [I (max 1 (bits .and .i64 x1 (GenR.maskV n))),I (1+x2)] rfl rfl ?c1 ?c2 ?c3 ?c4 hb.bel.size ?_
    case c1 =>
     intro j e hj
     exact Row.lies_of_block hN j e hj
    case c2=>intro e he;have h1:=(show (#[I (max 1 (bits .and .i64 x1 (GenR.maskV n))),I (1+x2)]:Array Value).all (·.oneCell')=true from by simp [Value.oneCell']);exact (Array.all_eq_true_iff_forall_mem.1 h1) e (by simpa using he)
    case c3=>unfold maxLen;have:=DL.out;omega
    case c4=>have:=DL.out;omega
    intro v' w5 hown' hgrow hnil'
    rw [HX.out] at hown'
    obtain ⟨hbk,a',c',rfl,hG⟩:=hb.put_buses X hgrow hown'
    have c5:w5.cell? ⟨w.heap.size+1,115,none⟩=some (.slice da D.length dc):=by rw [cell_of_row _ _ _ _ _ _ hbk];exact (cells_ok hb.tab).b
    have f5:w5.frozen? ⟨w.heap.size+1,115,none⟩=false:=frozen_of_row _ _ _ _ _ hbk
    have HG:=hJJ hG
    clear hown' hgrow hown2 hnil' hbk hG hb hN
    refine hK.out _ _ trivial (fun _=>?_)
    clear hK K
    refine tqZ 22 148 ?_ rfl (fun _ _ _ h=>HP _ _ _ _ _ h) ?_ hS ?_
    rotate_left
    ·intro w' hw'
     go_simp
     try with_reducible rfl
    (try dsimp only [Act.put]);(try simp only [zA,zB,zC])
    refine rdZ 23 rfl (fun K hK=>?_)
    go_simp
    refine hK.out _ _ trivial (fun _=>?_)
    clear hK K
    refine wpAnyH_done (by kernel_rfl) ?_ _
    clear hS c5 f5
    go_wp2
    go_roundw
    case rel=>exact ⟨j+1,by omega,by have:=HI.out;go_num,_,by rw [NX.out];exact HG.out⟩
    case measure=>simp [intOf];have:=HI.out;omega
   ·go_simp
    refine (F1.out _ hb.bel).mono ?_
    rintro e w' ⟨rfl,hq⟩
    subst w'
    go_simp
    refine hK.out _ _ trivial (fun _=>?_)
    clear hK K
    refine tqZ 11 137 (.int .i64 (bits .and .i64 x1 (GenR.maskV n))) rfl (fun _ _ _ h=>HP _ _ _ _ _ h) ?_ hS ?_
    ·intro w' hw'
     go_simp
     try (first | rfl | (simp only [Int.max_def];split <;> split <;> omega))
    (try dsimp only [Act.put]);(try simp only [zA,zB,zC])
    refine tqZ 12 138 (.int .i64 (max 1 (bits .and .i64 x1 (GenR.maskV n)))) rfl (fun _ _ _ h=>HP _ _ _ _ _ h) ?_ hS ?_
    ·intro w' hw'
     go_simp
     try (first | rfl | (simp only [Int.max_def];split <;> split <;> omega))
    (try dsimp only [Act.put]);(try simp only [zA,zB,zC])
    refine rd2Z 1 17 rfl rfl (fun K hK=>?_) (fun K hK=>?_)
    ·have c4:v.cell? ⟨w.heap.size+1,115,none⟩=some (.slice da D.length dc):=by rw [hb.cell,← List.getElem?_toArray];exact (cells_ok hb.tab).b
     go_simp
     refine hK.out _ _ trivial (fun _=>?_)
     clear hK K
     clear c4
     refine rdZ 17 rfl (fun K hK=>?_)
     go_simp
     refine (F2.out _ hb.bel).mono ?_
     rintro e w' ⟨rfl,hq⟩
     subst w'
     go_simp
     refine hK.out _ _ trivial (fun _=>?_)
     clear hK K
     refine tqZ 18 144 (.int .i64 (1+x2)) rfl (fun _ _ _ h=>HP _ _ _ _ _ h) ?_ hS ?_
     ·intro w' hw'
      go_simp
      try (first | rfl | (simp only [Int.max_def];split <;> split <;> omega))
     (try dsimp only [Act.put]);(try simp only [zA,zB,zC])
     refine Held.take_build (i:=19) (some 145) rfl 49 _ #[I (max 1 (bits .and .i64 x1 (GenR.maskV n))),I (1+x2)] rfl rfl (by kernel_rfl) (by kernel_rfl) (by kernel_rfl) (fun _ _ _ h=>HP _ _ _ _ _ h) (by rfl) hS (by simp only [List.map_toArray,List.map_cons,List.map_nil];exact built_bus _ _) ?_
     (try dsimp only [Act.put]);(try simp only [zA,zB,zC])
     refine rdZ 20 rfl (fun K hK=>?_)
     go_simp
     have hbw:Below v.heap.size v (v.alloc (.cells #[I (max 1 (bits .and .i64 x1 (GenR.maskV n))),I (1+x2)] 49)):=(Below.refl _ _).alloc (Nat.le_refl _) _
     have hN:=heap_alloc_new v (.cells #[I (max 1 (bits .and .i64 x1 (GenR.maskV n))),I (1+x2)] 49)
     replace hb:=hb.step hbw
     clear hbw
     generalize hbn:v.heap.size=bn at hN ⊢
     clear hbn
     generalize World.alloc v (.cells #[I (max 1 (bits .and .i64 x1 (GenR.maskV n))),I (1+x2)] 49)=v at hb hN ⊢
     refine hK.out _ _ trivial (fun _=>?_)
     clear hK K
     refine rdZ 21 rfl (fun K hK=>?_)
     rw [if_pos (by rfl)]
     have hown2:v.ownsRow w.heap.size 49 2 (.slice da D.length dc) D.length (D.flatMap Bs.cells):=hb.buses
     refine wp_append_own _ _ _ _ rfl w.heap.size 49 j0 (.agg #[I 0,I 0]) 2 16 Tryz.underlying30 hj hy0 hy1 hy2 rfl (by decide) (.slice da D.length dc) D.length _ rfl hown2 ⟨bn,0,none⟩ 1 1 [I (max 1 (bits .and .i64 x1 (GenR.maskV n))),I (1+x2)] rfl rfl ?c1 ?c2 ?c3 ?c4 hb.bel.size ?_
     case c1 =>
      intro j e hj
      exact Row.lies_of_block hN j e hj
     case c2=>intro e he;have h1:=(show (#[I (max 1 (bits .and .i64 x1 (GenR.maskV n))),I (1+x2)]:Array Value).all (·.oneCell')=true from by simp [Value.oneCell']);exact (Array.all_eq_true_iff_forall_mem.1 h1) e (by simpa using he)
     case c3=>unfold maxLen;have:=DL.out;omega
     case c4=>have:=DL.out;omega
     intro v' w5 hown' hgrow hnil'
     rw [HX.out] at hown'
     obtain ⟨hbk,a',c',rfl,hG⟩:=hb.put_buses X hgrow hown'
     have c5:w5.cell? ⟨w.heap.size+1,115,none⟩=some (.slice da D.length dc):=by rw [cell_of_row _ _ _ _ _ _ hbk];exact (cells_ok hb.tab).b
     have f5:w5.frozen? ⟨w.heap.size+1,115,none⟩=false:=frozen_of_row _ _ _ _ _ hbk
     have HG:=hJJ hG
     clear hown' hgrow hown2 hnil' hbk hG hb hN
     refine hK.out _ _ trivial (fun _=>?_)
     clear hK K
     refine tqZ 22 148 ?_ rfl (fun _ _ _ h=>HP _ _ _ _ _ h) ?_ hS ?_
     rotate_left
     ·intro w' hw'
      go_simp
      try with_reducible rfl
     (try dsimp only [Act.put]);(try simp only [zA,zB,zC])
     refine rdZ 23 rfl (fun K hK=>?_)
     go_simp
     refine hK.out _ _ trivial (fun _=>?_)
     clear hK K
     refine wpAnyH_done (by kernel_rfl) ?_ _
     clear hS c5 f5
     go_wp2
     go_roundw
     case rel=>exact ⟨j+1,by omega,by have:=HI.out;go_num,_,by rw [NX.out];exact HG.out⟩
     case measure=>simp [intOf];have:=HI.out;omega
    ·go_simp
     refine (F2.out _ hb.bel).mono ?_
     rintro e w' ⟨rfl,hq⟩
     subst w'
     go_simp
     refine hK.out _ _ trivial (fun _=>?_)
     clear hK K
     refine tqZ 18 144 (.int .i64 (1+x2)) rfl (fun _ _ _ h=>HP _ _ _ _ _ h) ?_ hS ?_
     ·intro w' hw'
      go_simp
      try (first | rfl | (simp only [Int.max_def];split <;> split <;> omega))
     (try dsimp only [Act.put]);(try simp only [zA,zB,zC])
     refine Held.take_build (i:=19) (some 145) rfl 49 _ #[I (max 1 (bits .and .i64 x1 (GenR.maskV n))),I (1+x2)] rfl rfl (by kernel_rfl) (by kernel_rfl) (by kernel_rfl) (fun _ _ _ h=>HP _ _ _ _ _ h) (by rfl) hS (by simp only [List.map_toArray,List.map_cons,List.map_nil];exact built_bus _ _) ?_
     (try dsimp only [Act.put]);(try simp only [zA,zB,zC])
     refine rd2Z 1 20 rfl rfl (fun K hK=>?_) (fun K hK=>?_)
     ·have c4:v.cell? ⟨w.heap.size+1,115,none⟩=some (.slice da D.length dc):=by rw [hb.cell,← List.getElem?_toArray];exact (cells_ok hb.tab).b
      go_simp
      refine hK.out _ _ trivial (fun _=>?_)
      clear hK K
      clear c4
      refine rdZ 20 rfl (fun K hK=>?_)
      go_simp
      have hbw:Below v.heap.size v (v.alloc (.cells #[I (max 1 (bits .and .i64 x1 (GenR.maskV n))),I (1+x2)] 49)):=(Below.refl _ _).alloc (Nat.le_refl _) _
      have hN:=heap_alloc_new v (.cells #[I (max 1 (bits .and .i64 x1 (GenR.maskV n))),I (1+x2)] 49)
      replace hb:=hb.step hbw
      clear hbw
      generalize hbn:v.heap.size=bn at hN ⊢
      clear hbn
      generalize World.alloc v (.cells #[I (max 1 (bits .and .i64 x1 (GenR.maskV n))),I (1+x2)] 49)=v at hb hN ⊢
      refine hK.out _ _ trivial (fun _=>?_)
      clear hK K
      refine rdZ 21 rfl (fun K hK=>?_)
      rw [if_pos (by rfl)]
      have hown2:v.ownsRow w.heap.size 49 2 (.slice da D.length dc) D.length (D.flatMap Bs.cells):=hb.buses
      refine wp_append_own _ _ _ _ rfl w.heap.size 49 j0 (.agg #[I 0,I 0]) 2 16 Tryz.underlying30 hj hy0 hy1 hy2 rfl (by decide) (.slice da D.length dc) D.length _ rfl hown2 ⟨bn,0,none⟩ 1 1 [I (max 1 (bits .and .i64 x1 (GenR.maskV n))),I (1+x2)] rfl rfl ?c1 ?c2 ?c3 ?c4 hb.bel.size ?_
      case c1 =>
       intro j e hj
       exact Row.lies_of_block hN j e hj
      case c2=>intro e he;have h1:=(show (#[I (max 1 (bits .and .i64 x1 (GenR.maskV n))),I (1+x2)]:Array Value).all (·.oneCell')=true from by simp [Value.oneCell']);exact (Array.all_eq_true_iff_forall_mem.1 h1) e (by simpa using he)
      case c3=>unfold maxLen;have:=DL.out;omega
      case c4=>have:=DL.out;omega
      intro v' w5 hown' hgrow hnil'
      rw [HX.out] at hown'
      obtain ⟨hbk,a',c',rfl,hG⟩:=hb.put_buses X hgrow hown'
      have c5:w5.cell? ⟨w.heap.size+1,115,none⟩=some (.slice da D.length dc):=by rw [cell_of_row _ _ _ _ _ _ hbk];exact (cells_ok hb.tab).b
      have f5:w5.frozen? ⟨w.heap.size+1,115,none⟩=false:=frozen_of_row _ _ _ _ _ hbk
      have HG:=hJJ hG
      clear hown' hgrow hown2 hnil' hbk hG hb hN
      refine hK.out _ _ trivial (fun _=>?_)
      clear hK K
      refine tqZ 22 148 ?_ rfl (fun _ _ _ h=>HP _ _ _ _ _ h) ?_ hS ?_
      rotate_left
      ·intro w' hw'
       go_simp
       try with_reducible rfl
      (try dsimp only [Act.put]);(try simp only [zA,zB,zC])
      refine rdZ 23 rfl (fun K hK=>?_)
      go_simp
      refine hK.out _ _ trivial (fun _=>?_)
      clear hK K
      refine wpAnyH_done (by kernel_rfl) ?_ _
      clear hS c5 f5
      go_wp2
      go_roundw
      case rel=>exact ⟨j+1,by omega,by have:=HI.out;go_num,_,by rw [NX.out];exact HG.out⟩
      case measure=>simp [intOf];have:=HI.out;omega
     ·go_simp
      have hbw:Below v.heap.size v (v.alloc (.cells #[I (max 1 (bits .and .i64 x1 (GenR.maskV n))),I (1+x2)] 49)):=(Below.refl _ _).alloc (Nat.le_refl _) _
      have hN:=heap_alloc_new v (.cells #[I (max 1 (bits .and .i64 x1 (GenR.maskV n))),I (1+x2)] 49)
      replace hb:=hb.step hbw
      clear hbw
      generalize hbn:v.heap.size=bn at hN ⊢
      clear hbn
      generalize World.alloc v (.cells #[I (max 1 (bits .and .i64 x1 (GenR.maskV n))),I (1+x2)] 49)=v at hb hN ⊢
      refine hK.out _ _ trivial (fun _=>?_)
      clear hK K
      refine rdZ 1 rfl (fun K hK=>?_)
      have c4:v.cell? ⟨w.heap.size+1,115,none⟩=some (.slice da D.length dc):=by rw [hb.cell,← List.getElem?_toArray];exact (cells_ok hb.tab).b
      go_simp
      refine hK.out _ _ trivial (fun _=>?_)
      clear hK K
      clear c4
      refine rdZ 21 rfl (fun K hK=>?_)
      rw [if_pos (by rfl)]
      have hown2:v.ownsRow w.heap.size 49 2 (.slice da D.length dc) D.length (D.flatMap Bs.cells):=hb.buses
      refine wp_append_own _ _ _ _ rfl w.heap.size 49 j0 (.agg #[I 0,I 0]) 2 16 Tryz.underlying30 hj hy0 hy1 hy2 rfl (by decide) (.slice da D.length dc) D.length _ rfl hown2 ⟨bn,0,none⟩ 1 1 [I (max 1 (bits .and .i64 x1 (GenR.maskV n))),I (1+x2)] rfl rfl ?c1 ?c2 ?c3 ?c4 hb.bel.size ?_
      case c1 =>
       intro j e hj
       exact Row.lies_of_block hN j e hj
      case c2=>intro e he;have h1:=(show (#[I (max 1 (bits .and .i64 x1 (GenR.maskV n))),I (1+x2)]:Array Value).all (·.oneCell')=true from by simp [Value.oneCell']);exact (Array.all_eq_true_iff_forall_mem.1 h1) e (by simpa using he)
      case c3=>unfold maxLen;have:=DL.out;omega
      case c4=>have:=DL.out;omega
      intro v' w5 hown' hgrow hnil'
      rw [HX.out] at hown'
      obtain ⟨hbk,a',c',rfl,hG⟩:=hb.put_buses X hgrow hown'
      have c5:w5.cell? ⟨w.heap.size+1,115,none⟩=some (.slice da D.length dc):=by rw [cell_of_row _ _ _ _ _ _ hbk];exact (cells_ok hb.tab).b
      have f5:w5.frozen? ⟨w.heap.size+1,115,none⟩=false:=frozen_of_row _ _ _ _ _ hbk
      have HG:=hJJ hG
      clear hown' hgrow hown2 hnil' hbk hG hb hN
      refine hK.out _ _ trivial (fun _=>?_)
      clear hK K
      refine tqZ 22 148 ?_ rfl (fun _ _ _ h=>HP _ _ _ _ _ h) ?_ hS ?_
      rotate_left
      ·intro w' hw'
       go_simp
       try with_reducible rfl
      (try dsimp only [Act.put]);(try simp only [zA,zB,zC])
      refine rdZ 23 rfl (fun K hK=>?_)
      go_simp
      refine hK.out _ _ trivial (fun _=>?_)
      clear hK K
      refine wpAnyH_done (by kernel_rfl) ?_ _
      clear hS c5 f5
      go_wp2
      go_roundw
      case rel=>exact ⟨j+1,by omega,by have:=HI.out;go_num,_,by rw [NX.out];exact HG.out⟩
      case measure=>simp [intOf];have:=HI.out;omega
  ·have hje:j=k:=by omega
   subst hje
   rw [show ((j - j:Nat):Int)=(0:Int) by omega]
   go_wp2
   exact HQ.out _ _ _ _ _ _ _ _ _ _ _ _ _ _ _ _ _ _ _ _ _ _ _ _ _ _ _ _ _ _ HB.out
end GenT
namespace GenT
open Zip
open Go.ChangeShapes Go.WideShapes Go.ChangeAt Go.RowKit
open Tab Gath GenG Clone PlaceM CodeAt
open RefS (num num_range from_any)
theorem wait_win (T:Tab) (x p:Int):WaitS.waitS { T with window:=x } p=WaitS.waitS T p:=rfl
theorem loop_win {Q:Exit→Act→World→Prop} (a:Option Addr) (cap:Nat) (L:List Int) (w W0:World) (hd:Hd) (T:Tab) (n:Nat) (hn:n≤8) (sm:Few T) (few:T.rails.length≤1000) {f1 f5 f6 f7 f8 f9 f10 f11 f13 f14 f15 f16 f17 f18 f19 f20 f21 f22 f23 f24 f25 f26 f27 f28 f29 f30 f31 f32 f33 f34 f35 f36 f37 f38 f39 f40 f41 f42 f43 f44 f45 f46 f47 f48 f49 f50 f51 f52 f53 f54 f55 f56 f57 f58 f59 f60 f61 f62 f63 f64 f65 f66 f67 f68 f69 f70 f71 f72 f73 f74 f75 f76 f77 f78 f79 f80 f81 f82 f83 f84 f85 f86 f87 f88 f89 f90 f91 f92 f93 f94 f95 f96 f97 f98 f99 f100 f101 f102 f103 f104 f105 f106 f107 f108 f109 f110 f111 f112 f113 f114 f115 f116 f117 f118 f119 f120 f121 f122 f123 f124 f125 f126 f127 f128 f129 f130 f131 f132 f133 f134 f135 f136 f137 f138 f139 f140 f141 f142 f143 f144 f145 f146 f147 f148 f149 f150 f151 f152 f153 f154 f155 f156 f157 f158 f159 f160 f161 f162 f163 f164 f165 f166 f167 f168 f169 f170 f171 f172 f173 f174 f175 f176 f177 f178 f179 f180 f181 f182 f183 f184 f185:Value}
  (HL:Hid (∀ W,Below w.heap.size w W→IntRow W ⟨a,cap⟩ L)) (BX:Hid (Bx w hd { T with window:=0 } W0))
  (HP:∀ c a d v w,Q (.panic c) (a.put d v) w→Q (.panic c) a w) (HQ:Hid (∀ (x12 x167 x168 x169 x170 x171 x172 x173 x174 x175 x176 x177 x178 x179 x180 x181 x182 x183 x184:Value) (W':World),Bx w hd { T with window:=if T.rails.length=0 then 0 else maxW T n } W'→Q (.exit 12) ⟨#[Value.slice a L.length cap,f1,Value.pointer (some ⟨w.heap.size,0,none⟩),Value.pointer (some ⟨w.heap.size+1,0,none⟩),Value.int .i64 (n:Nat),f5,f6,f7,f8,f9,f10,f11,x12,f13,f14,f15,f16,f17,f18,f19,f20,f21,f22,f23,f24,f25,f26,f27,f28,f29,f30,f31,f32,f33,f34,f35,f36,f37,f38,f39,f40,f41,f42,f43,f44,f45,f46,f47,f48,f49,f50,f51,f52,f53,f54,f55,f56,f57,f58,f59,f60,f61,f62,f63,f64,f65,f66,f67,f68,f69,f70,f71,f72,f73,f74,f75,f76,f77,f78,f79,f80,f81,f82,f83,f84,f85,f86,f87,f88,f89,f90,f91,f92,f93,f94,f95,f96,f97,f98,f99,f100,f101,f102,f103,f104,f105,f106,f107,f108,f109,f110,f111,f112,f113,f114,f115,f116,f117,f118,f119,f120,f121,f122,f123,f124,f125,f126,f127,f128,f129,f130,f131,f132,f133,f134,f135,f136,f137,f138,f139,f140,f141,f142,f143,f144,f145,f146,f147,f148,f149,f150,f151,f152,f153,f154,f155,f156,f157,f158,f159,f160,f161,f162,f163,f164,f165,f166,x167,x168,x169,x170,x171,x172,x173,x174,x175,x176,x177,x178,x179,x180,x181,x182,x183,x184,f185],[]⟩ W')) :
  (lp 39 Tryz.f12).wp Tryz.prog Q ⟨#[Value.slice a L.length cap,f1,Value.pointer (some ⟨w.heap.size,0,none⟩),Value.pointer (some ⟨w.heap.size+1,0,none⟩),Value.int .i64 (n:Nat),f5,f6,f7,f8,f9,f10,f11,Value.int .i64 0,f13,f14,f15,f16,f17,f18,f19,f20,f21,f22,f23,f24,f25,f26,f27,f28,f29,f30,f31,f32,f33,f34,f35,f36,f37,f38,f39,f40,f41,f42,f43,f44,f45,f46,f47,f48,f49,f50,f51,f52,f53,f54,f55,f56,f57,f58,f59,f60,f61,f62,f63,f64,f65,f66,f67,f68,f69,f70,f71,f72,f73,f74,f75,f76,f77,f78,f79,f80,f81,f82,f83,f84,f85,f86,f87,f88,f89,f90,f91,f92,f93,f94,f95,f96,f97,f98,f99,f100,f101,f102,f103,f104,f105,f106,f107,f108,f109,f110,f111,f112,f113,f114,f115,f116,f117,f118,f119,f120,f121,f122,f123,f124,f125,f126,f127,f128,f129,f130,f131,f132,f133,f134,f135,f136,f137,f138,f139,f140,f141,f142,f143,f144,f145,f146,f147,f148,f149,f150,f151,f152,f153,f154,f155,f156,f157,f158,f159,f160,f161,f162,f163,f164,f165,f166,f167,f168,f169,f170,f171,f172,f173,f174,f175,f176,f177,f178,f179,f180,f181,f182,f183,f184,f185],[]⟩ W0:=by
 conv=>arg 2;whnf
 dsimp only
 have SMC:Hid (∀ x:Int,Few { T with window:=x }):=hJJ (fun x=>⟨sm.groups,sm.rows⟩)
 go_loopw [12] (fun i wr=>∃ q:Nat,q≤n∧i=.int .i64 q∧(T.rails.length=0→q=0)∧Bx w hd { T with window:=maxW T q } wr) (fun i _=>n - (intOf i).toNat)
 case atStart=>exact ⟨0,by omega,rfl,fun _=>rfl,BX.out⟩
 case round =>
  obtain ⟨q,hq,rfl,hq0,hbx⟩:=hrel
  have HB:=hJJ hbx
  clear hbx BX
  have NX:Hid (maxW T (q+1)=max (maxW T q) (WaitS.waitS T q)):=hJJ rfl
  obtain ⟨sg,sd,⟨ra,rc⟩,sb⟩:=hd
  have c114:wr.cell? ⟨w.heap.size+1,114,none⟩=some (.slice ra T.rails.length rc):=by rw [HB.out.cell,← List.getElem?_toArray];exact (cells_ok HB.out.tab).r
  by_cases hlt:q < n
  ·by_cases hr:T.rails.length=0
   ·have hq1:=hq0 hr
    have HQ2:Hid ((if T.rails.length=0 then 0 else maxW T n)=maxW T q):=hJJ (by rw [if_pos hr,hq1];rfl)
    have HB2:Hid (Bx w ⟨sg,sd,⟨ra,rc⟩,sb⟩ { T with window:=if T.rails.length=0 then 0 else maxW T n } wr):=hJJ (by rw [HQ2.out];exact HB.out)
    clear HQ2 HB NX hq0
    go_wp2
    exact HQ.out _ _ _ _ _ _ _ _ _ _ _ _ _ _ _ _ _ _ _ _ HB2.out
   ·generalize maxW T q=m at *
    have WC:Hid (∀ W,Bx w ⟨sg,sd,⟨ra,rc⟩,sb⟩ { T with window:=m } W→Calls Tryz.prog 36 #[.agg (({ T with window:=m }:Tab).cells ⟨sg,sd,⟨ra,rc⟩,sb⟩).toArray,.int .i64 q] W fun e w'=>e=.returned (.int .i64 (WaitS.waitS T q))∧Below W.heap.size W w'):=hJJ (fun W hb=>by
     have:=WaitS.wait_any { T with window:=m } ⟨sg,sd,⟨ra,rc⟩,sb⟩ q W hb.tab (SMC.out m) few
     rw [wait_win] at this
     exact this)
    have IA:Hid ((Tryz.prog.info? 32).map (·.size)=some (({ T with window:=m }:Tab).cells ⟨sg,sd,⟨ra,rc⟩,sb⟩).length):=hJJ (by rw [cells_cut _ HB.out.ph HB.out.cf HB.out.fl];exact May.infoT)
    generalize WaitS.waitS T q=z at NX WC
    generalize hcs:({ T with window:=m }:Tab).cells ⟨sg,sd,⟨ra,rc⟩,sb⟩=cs at WC IA
    go_upto_region 41 with fail
    clear c114
    refine wp_region_held (S:=fun _=>True) (by kernel_rfl) ?_
    have hS:True:=trivial
    have hb:Bx w ⟨sg,sd,⟨ra,rc⟩,sb⟩ { T with window:=m } { wr with drawn:=wr.drawn+1 }:=HB.out.step (Below.refl _ _).drew
    generalize ({ wr with drawn:=wr.drawn+1 }:World)=v at hb ⊢
    clear HB
    refine tqZ 0 178 ?_ rfl (fun _ _ _ h=>HP _ _ _ _ _ h) ?_ hS ?_
    rotate_left
    ·intro w' hw'
     go_simp
     try with_reducible rfl
    (try dsimp only [Act.put]);(try simp only [zA,zB,zC])
    refine tqZ 3 181 ?_ rfl (fun _ _ _ h=>HP _ _ _ _ _ h) ?_ hS ?_
    rotate_left
    ·intro w' hw'
     go_simp
     try with_reducible rfl
    (try dsimp only [Act.put]);(try simp only [zA,zB,zC])
    refine rd2Z 1 2 rfl rfl (fun K hK=>?_) (fun K hK=>?_)
    ·have c4:v.cell? ⟨w.heap.size+1,129,none⟩=some (.int .i64 m):=by rw [hb.cell,← List.getElem?_toArray];exact (cells_ok hb.tab).window
     go_simp
     refine hK.out _ _ trivial (fun _=>?_)
     clear hK K
     clear c4
     refine rdZ 2 rfl (fun K hK=>?_)
     rw [if_pos (by rfl)]
     have LT:Lies v ⟨w.heap.size+1,0,none⟩ cs:=by have:=Row.lies_of_block hb.blk;rw [hcs] at this;simpa using this
     refine Row.wp_load_lies 32 _ rfl ⟨w.heap.size+1,0,none⟩ rfl cs _ LT Tryz.underlying32 rfl IA.out ?_
     (try dsimp only [Act.put]);(try simp only [zA,zB,zC])
     refine hK.out _ _ trivial (fun _=>?_)
     clear hK K
     clear LT
     refine rdZ 4 rfl (fun K hK=>?_)
     go_simp
     refine (WC.out _ hb).mono ?_
     rintro e v2 ⟨rfl,hbb⟩
     replace hb:=hb.step hbb
     clear hbb
     rename World=>v
     go_simp
     refine hK.out _ _ trivial (fun _=>?_)
     clear hK K
     refine tqZ 5 183 (.int .i64 (max m z)) rfl (fun _ _ _ h=>HP _ _ _ _ _ h) ?_ hS ?_
     ·intro w' hw'
      go_simp
      try (first | rfl | (simp only [Int.max_def];split <;> split <;> omega))
     (try dsimp only [Act.put]);(try simp only [zA,zB,zC])
     refine tqZ 6 184 ?_ rfl (fun _ _ _ h=>HP _ _ _ _ _ h) ?_ hS ?_
     rotate_left
     ·intro w' hw'
      go_simp
      try with_reducible rfl
     (try dsimp only [Act.put]);(try simp only [zA,zB,zC])
     refine rdZ 7 rfl (fun K hK=>?_)
     have c5:v.cell? ⟨w.heap.size+1,129,none⟩=some (.int .i64 m):=by rw [hb.cell,← List.getElem?_toArray];exact (cells_ok hb.tab).window
     have f5:=hb.frozen 129
     have HG:=hJJ (hb.set 129 (I (max m z)) (cells_window ⟨sg,sd,⟨ra,rc⟩,sb⟩ hb.ph hb.cf hb.fl (max m z)) hb.ph hb.cf hb.fl rfl rfl rfl rfl)
     clear hb
     go_simp
     refine hK.out _ _ trivial (fun _=>?_)
     clear hK K
     refine wpAnyH_done (by kernel_rfl) ?_ _
     clear hS c5 f5
     go_wp2
     go_roundw
     case rel=>exact ⟨q+1,by omega,by go_num,fun e=>(hr e).elim,by rw [NX.out];exact HG.out⟩
     case measure=>simp [intOf];omega
    ·rw [if_pos (by rfl)]
     have LT:Lies v ⟨w.heap.size+1,0,none⟩ cs:=by have:=Row.lies_of_block hb.blk;rw [hcs] at this;simpa using this
     refine Row.wp_load_lies 32 _ rfl ⟨w.heap.size+1,0,none⟩ rfl cs _ LT Tryz.underlying32 rfl IA.out ?_
     (try dsimp only [Act.put]);(try simp only [zA,zB,zC])
     refine hK.out _ _ trivial (fun _=>?_)
     clear hK K
     clear LT
     refine rd2Z 1 4 rfl rfl (fun K hK=>?_) (fun K hK=>?_)
     ·have c4:v.cell? ⟨w.heap.size+1,129,none⟩=some (.int .i64 m):=by rw [hb.cell,← List.getElem?_toArray];exact (cells_ok hb.tab).window
      go_simp
      refine hK.out _ _ trivial (fun _=>?_)
      clear hK K
      clear c4
      refine rdZ 4 rfl (fun K hK=>?_)
      go_simp
      refine (WC.out _ hb).mono ?_
      rintro e v2 ⟨rfl,hbb⟩
      replace hb:=hb.step hbb
      clear hbb
      rename World=>v
      go_simp
      refine hK.out _ _ trivial (fun _=>?_)
      clear hK K
      refine tqZ 5 183 (.int .i64 (max m z)) rfl (fun _ _ _ h=>HP _ _ _ _ _ h) ?_ hS ?_
      ·intro w' hw'
       go_simp
       try (first | rfl | (simp only [Int.max_def];split <;> split <;> omega))
      (try dsimp only [Act.put]);(try simp only [zA,zB,zC])
      refine tqZ 6 184 ?_ rfl (fun _ _ _ h=>HP _ _ _ _ _ h) ?_ hS ?_
      rotate_left
      ·intro w' hw'
       go_simp
       try with_reducible rfl
      (try dsimp only [Act.put]);(try simp only [zA,zB,zC])
      refine rdZ 7 rfl (fun K hK=>?_)
      have c5:v.cell? ⟨w.heap.size+1,129,none⟩=some (.int .i64 m):=by rw [hb.cell,← List.getElem?_toArray];exact (cells_ok hb.tab).window
      have f5:=hb.frozen 129
      have HG:=hJJ (hb.set 129 (I (max m z)) (cells_window ⟨sg,sd,⟨ra,rc⟩,sb⟩ hb.ph hb.cf hb.fl (max m z)) hb.ph hb.cf hb.fl rfl rfl rfl rfl)
      clear hb
      go_simp
      refine hK.out _ _ trivial (fun _=>?_)
      clear hK K
      refine wpAnyH_done (by kernel_rfl) ?_ _
      clear hS c5 f5
      go_wp2
      go_roundw
      case rel=>exact ⟨q+1,by omega,by go_num,fun e=>(hr e).elim,by rw [NX.out];exact HG.out⟩
      case measure=>simp [intOf];omega
     ·go_simp
      refine (WC.out _ hb).mono ?_
      rintro e v2 ⟨rfl,hbb⟩
      replace hb:=hb.step hbb
      clear hbb
      rename World=>v
      go_simp
      refine hK.out _ _ trivial (fun _=>?_)
      clear hK K
      refine rdZ 1 rfl (fun K hK=>?_)
      have c4:v.cell? ⟨w.heap.size+1,129,none⟩=some (.int .i64 m):=by rw [hb.cell,← List.getElem?_toArray];exact (cells_ok hb.tab).window
      go_simp
      refine hK.out _ _ trivial (fun _=>?_)
      clear hK K
      clear c4
      refine tqZ 5 183 (.int .i64 (max m z)) rfl (fun _ _ _ h=>HP _ _ _ _ _ h) ?_ hS ?_
      ·intro w' hw'
       go_simp
       try (first | rfl | (simp only [Int.max_def];split <;> split <;> omega))
      (try dsimp only [Act.put]);(try simp only [zA,zB,zC])
      refine tqZ 6 184 ?_ rfl (fun _ _ _ h=>HP _ _ _ _ _ h) ?_ hS ?_
      rotate_left
      ·intro w' hw'
       go_simp
       try with_reducible rfl
      (try dsimp only [Act.put]);(try simp only [zA,zB,zC])
      refine rdZ 7 rfl (fun K hK=>?_)
      have c5:v.cell? ⟨w.heap.size+1,129,none⟩=some (.int .i64 m):=by rw [hb.cell,← List.getElem?_toArray];exact (cells_ok hb.tab).window
      have f5:=hb.frozen 129
      have HG:=hJJ (hb.set 129 (I (max m z)) (cells_window ⟨sg,sd,⟨ra,rc⟩,sb⟩ hb.ph hb.cf hb.fl (max m z)) hb.ph hb.cf hb.fl rfl rfl rfl rfl)
      clear hb
      go_simp
      refine hK.out _ _ trivial (fun _=>?_)
      clear hK K
      refine wpAnyH_done (by kernel_rfl) ?_ _
      clear hS c5 f5
      go_wp2
      go_roundw
      case rel=>exact ⟨q+1,by omega,by go_num,fun e=>(hr e).elim,by rw [NX.out];exact HG.out⟩
      case measure=>simp [intOf];omega
  ·have hqe:q=n:=by omega
   by_cases hr:T.rails.length=0
   ·have hq1:=hq0 hr
    have HB2:Hid (Bx w ⟨sg,sd,⟨ra,rc⟩,sb⟩ { T with window:=if T.rails.length=0 then 0 else maxW T n } wr):=hJJ (by rw [if_pos hr];have:=HB.out;rw [hq1] at this;exact this)
    clear HB NX hq0 hq1
    subst hqe
    go_wp2
    exact HQ.out _ _ _ _ _ _ _ _ _ _ _ _ _ _ _ _ _ _ _ _ HB2.out
   ·have HB2:Hid (Bx w ⟨sg,sd,⟨ra,rc⟩,sb⟩ { T with window:=if T.rails.length=0 then 0 else maxW T n } wr):=hJJ (by rw [if_neg hr];have:=HB.out;rw [hqe] at this;exact this)
    clear HB NX hq0
    subst hqe
    go_wp2
    exact HQ.out _ _ _ _ _ _ _ _ _ _ _ _ _ _ _ _ _ _ _ _ HB2.out
end GenT
namespace GenT
open Zip
open Go.ChangeShapes Go.WideShapes Go.ChangeAt Go.RowKit
open Tab Gath GenG Clone PlaceM CodeAt
open RefS (num num_range from_any)
theorem tail_any (a:Option Addr) (cap:Nat) (L:List Int) (w W0:World) (hd0:Hd) (T0:Tab) (n8:genN L≤8) (HL:Hid (∀ W,Below w.heap.size w W→IntRow W ⟨a,cap⟩ L)) (BX:Hid (Bx w hd0 T0 W0))
  (TS:{ T0 with extend:=num L 178 12,budget:=num L 179 40,start:=num L 180 8,revert:=num L 181 8,least:=num L 182 12,share:=num L 183 4 }=tabS L) (kR:Nat) (lR:kR≤20) (LR:Hid ((tabS L).rails.length=kR)) (GT2:Hid (genTab L=if kR=0 then tabS L else { tabS L with window:=maxW (tabS L) (genN L) })) {f1 f5 f6 f7 f8 f9 f10 f11 f12 f13 f14 f15 f16 f17 f18 f19 f20 f21 f22 f23 f24 f25 f26 f27 f28 f29 f30 f31 f32 f33 f34 f35 f36 f37 f38 f39 f40 f41 f42 f43 f44 f45 f46 f47 f48 f49 f50 f51 f52 f53 f54 f55 f56 f57 f58 f59 f60 f61 f62 f63 f64 f65 f66 f67 f68 f69 f70 f71 f72 f73 f74 f75 f76 f77 f78 f79 f80 f81 f82 f83 f84 f85 f86 f87 f88 f89 f90 f91 f92 f93 f94 f95 f96 f97 f98 f99 f100 f101 f102 f103 f104 f105 f106 f107 f108 f109 f110 f111 f112 f113 f114 f115 f116 f117 f118 f119 f120 f121 f122 f123 f124 f125 f126 f127 f128 f129 f130 f131 f132 f133 f134 f135 f136 f137 f138 f139 f140 f141 f142 f143 f144 f145 f146 f147 f148 f149 f150 f151 f152 f153 f154 f155 f156 f157 f158 f159 f160 f161 f162 f163 f164 f165 f166 f167 f168 f169 f170 f171 f172 f173 f174 f175 f176 f177 f178 f179 f180 f181 f182 f183 f184 f185:Value} :
  (sq 32 Tryz.f12).wp Tryz.prog (bodyPost Tryz.prog Tryz.f12 fun e w'=>∃ hd,e=.returned (.agg ((genTab L).cells hd).toArray)∧IsTab w' hd (genTab L)∧Own3 w.heap.size w' hd (genTab L)∧Below w.heap.size w w') ⟨#[Value.slice a L.length cap,f1,Value.pointer (some ⟨w.heap.size,0,none⟩),Value.pointer (some ⟨w.heap.size+1,0,none⟩),Value.int .i64 (genN L:Nat),f5,f6,f7,f8,f9,f10,f11,f12,f13,f14,f15,f16,f17,f18,f19,f20,f21,f22,f23,f24,f25,f26,f27,f28,f29,f30,f31,f32,f33,f34,f35,f36,f37,f38,f39,f40,f41,f42,f43,f44,f45,f46,f47,f48,f49,f50,f51,f52,f53,f54,f55,f56,f57,f58,f59,f60,f61,f62,f63,f64,f65,f66,f67,f68,f69,f70,f71,f72,f73,f74,f75,f76,f77,f78,f79,f80,f81,f82,f83,f84,f85,f86,f87,f88,f89,f90,f91,f92,f93,f94,f95,f96,f97,f98,f99,f100,f101,f102,f103,f104,f105,f106,f107,f108,f109,f110,f111,f112,f113,f114,f115,f116,f117,f118,f119,f120,f121,f122,f123,f124,f125,f126,f127,f128,f129,f130,f131,f132,f133,f134,f135,f136,f137,f138,f139,f140,f141,f142,f143,f144,f145,f146,f147,f148,f149,f150,f151,f152,f153,f154,f155,f156,f157,f158,f159,f160,f161,f162,f163,f164,f165,f166,f167,f168,f169,f170,f171,f172,f173,f174,f175,f176,f177,f178,f179,f180,f181,f182,f183,f184,f185],[]⟩ W0:=by
 conv=>arg 2;whnf
 dsimp only
 obtain ⟨n0,hn0,F0⟩:∃ x:Int,x=num L 178 12∧Hid (∀ W,Below w.heap.size w W→Calls Tryz.prog 43 #[.slice a L.length cap,.int .i64 178,.int .i64 12] W fun e w'=>e=.returned (.int .i64 x)∧w'=W):=⟨_,rfl,hJJ (fun W hb=>(from_any a cap L _ _ W (HL.out _ hb) (by omega) (by omega) (by omega)).mono fun _ _ ⟨e,q⟩=>⟨e,q.symm⟩)⟩
 obtain ⟨n1,hn1,F1⟩:∃ x:Int,x=num L 179 40∧Hid (∀ W,Below w.heap.size w W→Calls Tryz.prog 43 #[.slice a L.length cap,.int .i64 179,.int .i64 40] W fun e w'=>e=.returned (.int .i64 x)∧w'=W):=⟨_,rfl,hJJ (fun W hb=>(from_any a cap L _ _ W (HL.out _ hb) (by omega) (by omega) (by omega)).mono fun _ _ ⟨e,q⟩=>⟨e,q.symm⟩)⟩
 obtain ⟨n2,hn2,F2⟩:∃ x:Int,x=num L 180 8∧Hid (∀ W,Below w.heap.size w W→Calls Tryz.prog 43 #[.slice a L.length cap,.int .i64 180,.int .i64 8] W fun e w'=>e=.returned (.int .i64 x)∧w'=W):=⟨_,rfl,hJJ (fun W hb=>(from_any a cap L _ _ W (HL.out _ hb) (by omega) (by omega) (by omega)).mono fun _ _ ⟨e,q⟩=>⟨e,q.symm⟩)⟩
 obtain ⟨n3,hn3,F3⟩:∃ x:Int,x=num L 181 8∧Hid (∀ W,Below w.heap.size w W→Calls Tryz.prog 43 #[.slice a L.length cap,.int .i64 181,.int .i64 8] W fun e w'=>e=.returned (.int .i64 x)∧w'=W):=⟨_,rfl,hJJ (fun W hb=>(from_any a cap L _ _ W (HL.out _ hb) (by omega) (by omega) (by omega)).mono fun _ _ ⟨e,q⟩=>⟨e,q.symm⟩)⟩
 obtain ⟨n4,hn4,F4⟩:∃ x:Int,x=num L 182 12∧Hid (∀ W,Below w.heap.size w W→Calls Tryz.prog 43 #[.slice a L.length cap,.int .i64 182,.int .i64 12] W fun e w'=>e=.returned (.int .i64 x)∧w'=W):=⟨_,rfl,hJJ (fun W hb=>(from_any a cap L _ _ W (HL.out _ hb) (by omega) (by omega) (by omega)).mono fun _ _ ⟨e,q⟩=>⟨e,q.symm⟩)⟩
 obtain ⟨n5,hn5,F5⟩:∃ x:Int,x=num L 183 4∧Hid (∀ W,Below w.heap.size w W→Calls Tryz.prog 43 #[.slice a L.length cap,.int .i64 183,.int .i64 4] W fun e w'=>e=.returned (.int .i64 x)∧w'=W):=⟨_,rfl,hJJ (fun W hb=>(from_any a cap L _ _ W (HL.out _ hb) (by omega) (by omega) (by omega)).mono fun _ _ ⟨e,q⟩=>⟨e,q.symm⟩)⟩
 have TS2:Hid (scal T0 [n0,n1,n2,n3,n4,n5]=tabS L):=hJJ (by rw [hn0,hn1,hn2,hn3,hn4,hn5,← TS];rfl)
 have BY0:Hid (Bx w hd0 (scal T0 []) W0):=BX
 clear hn0 hn1 hn2 hn3 hn4 hn5 TS BX
 go_wp2_with fail
 refine (F0.out _ BY0.out.bel).mono ?_
 rintro e w' ⟨rfl,hq⟩
 subst w'
 obtain ⟨⟨old,c0⟩,f0,hs⟩:=scal_set BY0.out n0 116 0 rfl (by omega)
 have BY1:Hid (Bx w hd0 (scal T0 [n0]) _):=hJJ hs
 clear hs BY0 F0
 go_upto_region 33 with fail
 clear c0 f0
 go_wp2_with fail
 refine (F1.out _ BY1.out.bel).mono ?_
 rintro e w' ⟨rfl,hq⟩
 subst w'
 obtain ⟨⟨old,c0⟩,f0,hs⟩:=scal_set BY1.out n1 117 1 rfl (by omega)
 have BY2:Hid (Bx w hd0 (scal T0 [n0,n1]) _):=hJJ hs
 clear hs BY1 F1
 go_upto_region 34 with fail
 clear c0 f0
 go_wp2_with fail
 refine (F2.out _ BY2.out.bel).mono ?_
 rintro e w' ⟨rfl,hq⟩
 subst w'
 obtain ⟨⟨old,c0⟩,f0,hs⟩:=scal_set BY2.out n2 118 2 rfl (by omega)
 have BY3:Hid (Bx w hd0 (scal T0 [n0,n1,n2]) _):=hJJ hs
 clear hs BY2 F2
 go_upto_region 35 with fail
 clear c0 f0
 go_wp2_with fail
 refine (F3.out _ BY3.out.bel).mono ?_
 rintro e w' ⟨rfl,hq⟩
 subst w'
 obtain ⟨⟨old,c0⟩,f0,hs⟩:=scal_set BY3.out n3 119 3 rfl (by omega)
 have BY4:Hid (Bx w hd0 (scal T0 [n0,n1,n2,n3]) _):=hJJ hs
 clear hs BY3 F3
 go_upto_region 36 with fail
 clear c0 f0
 go_wp2_with fail
 refine (F4.out _ BY4.out.bel).mono ?_
 rintro e w' ⟨rfl,hq⟩
 subst w'
 obtain ⟨⟨old,c0⟩,f0,hs⟩:=scal_set BY4.out n4 120 4 rfl (by omega)
 have BY5:Hid (Bx w hd0 (scal T0 [n0,n1,n2,n3,n4]) _):=hJJ hs
 clear hs BY4 F4
 go_upto_region 37 with fail
 clear c0 f0
 go_wp2_with fail
 refine (F5.out _ BY5.out.bel).mono ?_
 rintro e w' ⟨rfl,hq⟩
 subst w'
 obtain ⟨⟨old,c0⟩,f0,hs⟩:=scal_set BY5.out n5 130 5 rfl (by omega)
 have BY6:Hid (Bx w hd0 (scal T0 [n0,n1,n2,n3,n4,n5]) _):=hJJ hs
 clear hs BY5 F5
 go_upto_region 38 with fail
 clear c0 f0
 have BZ:Hid (Bx w hd0 (tabS L) _):=hJJ (by rw [← TS2.out];exact BY6.out)
 clear TS2 BY6
 go_wp2_with fail
 refine loop_win a cap L w _ hd0 (tabS L) (genN L) n8 (tabS_few L) (by rw [LR.out];omega) HL (hJJ (by rw [tabS_window];exact BZ.out)) (fun _ _ d _ _ h=>by cases d <;> exact h) (hJJ ?_)
 intro v6_12 v6_167 v6_168 v6_169 v6_170 v6_171 v6_172 v6_173 v6_174 v6_175 v6_176 v6_177 v6_178 v6_179 v6_180 v6_181 v6_182 v6_183 v6_184 w7 hb7
 have BE:Hid (Bx w hd0 (genTab L) w7):=hJJ (by
  rw [GT2.out]
  rw [LR.out] at hb7
  by_cases e:kR=0
  ·rw [if_pos e] at hb7 ⊢
   rw [tabS_window] at hb7
   exact hb7
  ·rw [if_neg e] at hb7 ⊢
   exact hb7)
 clear hb7 BZ LR GT2
 dsimp only
 obtain ⟨w8,hst,hbk,htab,hown,hbel⟩:=BE.out.store_own
 have IA:Hid ((Tryz.prog.info? 32).map (·.size)=some ((genTab L).cells hd0).length):=hJJ (by rw [cells_cut _ BE.out.ph BE.out.cf BE.out.fl];exact May.infoT)
 have LT:Hid (Lies w7 ⟨w.heap.size+1,0,none⟩ ((genTab L).cells hd0)):=hJJ (by have:=Row.lies_of_block BE.out.blk;simpa using this)
 have FIN:Hid (∃ hd,Ending.returned (.agg ((genTab L).cells hd0).toArray)=.returned (.agg ((genTab L).cells hd).toArray)∧IsTab w8 hd (genTab L)∧Own3 w.heap.size w8 hd (genTab L)∧Below w.heap.size w w8):=hJJ ⟨hd0,rfl,htab,hown,hbel⟩
 have HK:=hJJ hbk
 have csl:=cells_cut hd0 BE.out.ph BE.out.cf BE.out.fl
 clear hbk htab hown hbel BE
 generalize (genTab L).cells hd0=cs at *
 go_wp2_with (refine lgZ 32 ⟨w.heap.size+1,0,none⟩ cs rfl LT.out Tryz.underlying32 IA.out ?_)
 (try simp only [Exit.inBlock,Exit.then])
 refine bodyPost_ret (v:=.agg cs.toArray) ?_ rfl FIN.out
 exact results_cell_row rfl _ _ w.heap.size 32 _ (0,0) _ rfl HK.out Tryz.underlying32 rfl (by have:=IA.out;simpa using this)
end GenT
namespace GenT
open Zip
open Go.ChangeShapes Go.WideShapes Go.ChangeAt Go.RowKit
open Tab Gath GenG Clone PlaceM CodeAt
open RefS (num num_range from_any)
theorem table_own (a:Option Addr) (cap:Nat) (L:List Int) (w:World) (h:IntRow w ⟨a,cap⟩ L) :
  Calls Tryz.prog 12 #[.slice a L.length cap] w fun e w'=>∃ hd,e=.returned (.agg ((genTab L).cells hd).toArray)∧IsTab w' hd (genTab L)∧Own3 w.heap.size w' hd (genTab L)∧Below w.heap.size w w':=by
 have HL:Hid (∀ W,Below w.heap.size w W→IntRow W ⟨a,cap⟩ L):=hJJ (fun W hb=>h.below hb)
 have SM1:=hJJ (tab1_few L)
 have GT:Hid (genTab L=if (num L 176 4 % 3).toNat=0 then tabS L else { tabS L with window:=maxW (tabS L) (genN L) }):=hJJ rfl
 have TF:Hid (tabF L=if num L 174 ((genN L:Int)+1) < genN L then { tabC L with flash:=(tabC L).flash.set (num L 174 ((genN L:Int)+1)).toNat 2 } else tabC L):=hJJ rfl
 have TC0:Hid ({ tabP L (genN L) with conflict:=call L (tabP L (genN L)) (tabP L (genN L)).conflict (genN L) }=tabC L):=hJJ (by rw [call_same (T:=tabP L (genN L)) (U:=tab1 L) rfl];rfl)
 have n8:=genN_range L
 have n1:=genN_pos L
 have hz:=(zero_of_info infoTz).1
 have Z104:(zTab.cells zHd)[104]?=some (.slice none 0 0):=rfl
 have ZL:(zTab.cells zHd).length=131:=rfl
 have B0:Hid (Below w.heap.size w ((w.alloc (.cells (zTab.cells zHd).toArray 32)).alloc (.cells (zTab.cells zHd).toArray 32))):=hJJ (((Below.refl _ _).alloc (Nat.le_refl _) _).alloc (by simp) _)
 have S0:Hid (((w.alloc (.cells (zTab.cells zHd).toArray 32)).alloc (.cells (zTab.cells zHd).toArray 32)).heap.size=w.heap.size+2):=hJJ (by simp)
 have R0:Hid (((w.alloc (.cells (zTab.cells zHd).toArray 32)).alloc (.cells (zTab.cells zHd).toArray 32)).heap[w.heap.size]?=some (.cells (zTab.cells zHd).toArray 32 (0,0))):=hJJ (heap_alloc2_old w _ _)
 have R1:Hid (((w.alloc (.cells (zTab.cells zHd).toArray 32)).alloc (.cells (zTab.cells zHd).toArray 32)).heap[w.heap.size+1]?=some (.cells (zTab.cells zHd).toArray 32 (0,0))):=hJJ (heap_alloc2_new w _ _)
 have FST:Hid (∀ (W0 W:World) (ga:Option Addr) (gc:Nat) (gs:List Gr),Below w.heap.size w W0→W0.heap.size=w.heap.size+2→W0.heap[w.heap.size]?=some (.cells (zTab.cells zHd).toArray 32 (0,0))→gs.map Gr.data=genGs L→GS W0 (w.heap.size+1) (zTab.cells zHd) ga gc (genG L) gs W→Bx w ⟨⟨ga,gc⟩,⟨none,0⟩,⟨none,0⟩,⟨none,0⟩⟩ (tab1 L) W):=hJJ (fun W0 W ga gc gs=>Bx.first)
 generalize hZ:zTab.cells zHd=Z at *
 clear hZ
 go_enter Tryz.func12,Tryz.ntmps12
 go_upto_region 2 with fail
 generalize (w.alloc (.cells Z.toArray 32)).alloc (.cells Z.toArray 32)=W0 at B0 S0 R0 R1 ⊢
 go_wp2_with fail
 refine (rows_any (w.heap.size+1) a cap L Z W0 R1.out ZL Z104 (hJJ (fun W hg=>HL.out W ⟨hg.os.trans B0.out.os,hg.tape.trans B0.out.tape,hg.output.trans B0.out.output,by have:=hg.size;have:=S0.out;omega,fun j hj=>(hg.block j (by have:=S0.out;omega) (fun e=>by simp at e;omega)).trans (B0.out.block j hj)⟩))).mono ?_
 rintro e w1 ⟨ga,gc,gs,rfl,hdt,hgs⟩
 have BX:=hJJ (FST.out W0 w1 ga gc gs B0.out S0.out R0.out hdt hgs)
 clear hdt hgs hz Z104 ZL B0 S0 R0 R1 FST h
 go_wp2_with fail
 refine loop_ph a cap L w w1 _ (tab1 L) (genN L) n8 HL BX (fun _ _ d _ _ h=>by cases d <;> exact h) (hJJ ?_)
 intro y5 y15 y16 y17 y18 y19 y20 y21 y22 y23 y24 y25 y26 y27 y28 y29 y30 w2 hb2
 have BX2:Hid (Bx w _ (tabP L (genN L)) w2):=hJJ hb2
 clear hb2 BX
 dsimp only
 go_wp2_with fail
 refine loop_cf a cap L w w2 _ (tabP L (genN L)) (genN L) n8 ⟨SM1.out.groups,SM1.out.rows⟩ HL BX2 (fun _ _ d _ _ h=>by cases d <;> exact h) (hJJ ?_)
 intro z6 z7 z31 z32 z33 z34 z35 z36 z37 z38 z39 z40 z41 z42 z43 z44 z45 z46 z47 z48 z49 z50 z51 z52 z53 z54 z55 z56 z57 z58 z59 z60 z61 z62 z63 z64 z65 z66 z67 z68 z69 z70 z71 z72 z73 w3 hb3
 have BX3:Hid (Bx w _ (tabC L) w3):=hJJ (by rw [TC0.out] at hb3;exact hb3)
 clear hb3 BX2 TC0
 dsimp only
 have hp:=num_range L 174 ((genN L:Int)+1) (by omega)
 go_upto_region 17 with fail
 go_wp2_with fail
 refine (from_any a cap L _ _ w3 (HL.out _ BX3.out.bel) (by omega) (by omega) (by omega)).mono ?_
 rintro e w' ⟨rfl,rfl⟩
 go_upto_if 80 with fail
 go_cut [8] from 74 (fun t8 wx=>Bx w ⟨⟨ga,gc⟩,⟨none,0⟩,⟨none,0⟩,⟨none,0⟩⟩ (tabF L) wx)
 case first =>
  generalize num L 174 ((genN L:Int)+1)=p at *
  by_cases hlt:p < (genN L:Int)
  ·obtain ⟨k,rfl⟩:=Int.eq_ofNat_of_zero_le hp.1
   have TE:Hid (tabF L={ tabC L with flash:=(tabC L).flash.set k 2 }):=hJJ (by rw [TF.out,if_pos hlt];rfl)
   have hs:=BX3.out.set (121+k) (I 2) (cells_flash _ BX3.out.ph BX3.out.cf BX3.out.fl k (by omega) 2) BX3.out.ph BX3.out.cf (by simp [BX3.out.fl]) rfl rfl rfl rfl
   have c7:w3.cell? ⟨w.heap.size+1,121+k,none⟩=some (I ((tabC L).flash.getD k 0)):=(range_of BX3.out.blk 121 8 _ (cells_ok BX3.out.tab).flash) k _ (by rw [List.getElem?_map,List.getD_eq_getElem?_getD,List.getElem?_eq_getElem (show k < (tabC L).flash.length by rw [BX3.out.fl];omega)];rfl)
   have f7:=BX3.out.frozen (121+k)
   rw [← TE.out] at hs
   have HS:=hJJ hs
   generalize (tabC L).flash.getD k 0=old at c7
   clear hs BX3 TE TF
   go_wp2_with fail
   go_meet
   exact HS.out
  ·have HS:Hid (Bx w ⟨⟨ga,gc⟩,⟨none,0⟩,⟨none,0⟩,⟨none,0⟩⟩ (tabF L) w3):=hJJ (by rw [TF.out,if_neg hlt];exact BX3.out)
   clear BX3 TF
   go_wp2_with fail
   go_meet
   exact HS.out
 case rest =>
  have BX4:=hJJ hcut
  clear hcut BX3 TF hp
  obtain ⟨kd0,kd1⟩:=num_range L 175 9 (by omega)
  obtain ⟨kr0,kr1⟩:=num_range L 176 4 (by omega)
  obtain ⟨kb0,kb1⟩:=num_range L 177 3 (by omega)
  obtain ⟨kD,hkD⟩:∃ k,k=(num L 175 9).toNat:=⟨_,rfl⟩
  obtain ⟨kR,hkR⟩:∃ k,k=(num L 176 4 % 3).toNat:=⟨_,rfl⟩
  obtain ⟨kB,hkB⟩:∃ k,k=(num L 177 3).toNat:=⟨_,rfl⟩
  have ED:Hid (num L 175 9=(kD:Int)):=hJJ (by omega)
  have ER:Hid ((num L 176 4).tmod 3=(kR:Int)):=hJJ (by rw [Int.tmod_eq_emod_of_nonneg kr0];omega)
  have EB:Hid (num L 177 3=(kB:Int)):=hJJ (by omega)
  have lD:kD≤20:=by omega
  have lR:kR≤20:=by omega
  have lB:kB≤20:=by omega
  have TD:Hid ({ tabF L with dets:=down (fun i:Nat=>GenD.genDet L (180+8*i) (genN L)) kD kD }=tabD L kD):=hJJ (by rw [hkD];rfl)
  have TR:Hid ({ tabD L kD with rails:=down (fun i:Nat=>GenR.genRl (tabD L kD) L (260+16*i) (genN L)) kR kR }=tabR L kR):=hJJ (by
   rw [down_same (g:=fun i:Nat=>GenR.genRl (tab1 L) L (260+16*i) (genN L)) (fun i=>genRl_same (T:=tabD L kD) (U:=tab1 L) (tabF_groups L) L _ _),hkR,hkD];rfl)
  have TB:Hid ({ tabR L kR with buses:=down (fun i:Nat=>genBs L i (genN L)) kB kB }=tabB L kB):=hJJ (by rw [hkB,hkR];rfl)
  have TS:Hid ({ tabB L kB with extend:=num L 178 12,budget:=num L 179 40,start:=num L 180 8,revert:=num L 181 8,least:=num L 182 12,share:=num L 183 4 }=tabS L):=hJJ (by rw [hkB];rfl)
  have LR:Hid ((tabS L).rails.length=kR):=hJJ (by rw [tabS_rails,hkR])
  have GT2:Hid (genTab L=if kR=0 then tabS L else { tabS L with window:=maxW (tabS L) (genN L) }):=hJJ (by rw [GT.out,hkR])
  clear hkD hkR hkB GT kd0 kd1 kr0 kr1 kb0 kb1
  go_wp2_with fail
  refine (from_any a cap L _ _ _ (HL.out _ BX4.out.bel) (by omega) (by omega) (by omega)).mono ?_
  rintro e w' ⟨rfl,rfl⟩
  rw [ED.out]
  go_wp2_with fail
  refine loop_dets a cap L w _ ⟨⟨ga,gc⟩,⟨none,0⟩,⟨none,0⟩,⟨none,0⟩⟩ (tabF L) (genN L) n8 n1 kD lD HL ⟨none,0⟩ (hJJ (by rw [tabF_dets];exact BX4.out)) (fun _ _ d _ _ h=>by cases d <;> exact h) (hJJ ?_)
  intro v3_9 v3_86 v3_87 v3_88 v3_89 v3_90 v3_91 v3_92 v3_93 v3_94 v3_95 v3_96 v3_97 v3_98 v3_99 v3_100 w4 s1 hb4
  have BX5:Hid (Bx w _ (tabD L kD) w4):=hJJ (by rw [TD.out] at hb4;exact hb4)
  clear hb4 BX4
  dsimp only
  go_wp2_with fail
  refine (from_any a cap L _ _ _ (HL.out _ BX5.out.bel) (by omega) (by omega) (by omega)).mono ?_
  rintro e w' ⟨rfl,rfl⟩
  go_upto_region 25 with fail
  rw [ER.out]
  go_wp2_with fail
  refine loop_rails a cap L w _ ⟨⟨ga,gc⟩,s1,⟨none,0⟩,⟨none,0⟩⟩ (tabD L kD) (genN L) n8 n1 kR lR ⟨by rw [show (tabD L kD).groups=genGs L from tabF_groups L];exact SM1.out.groups,by rw [show (tabD L kD).groups=genGs L from tabF_groups L];exact SM1.out.rows⟩ HL ⟨none,0⟩ (hJJ (by rw [tabD_rails];exact BX5.out)) (fun _ _ d _ _ h=>by cases d <;> exact h) (hJJ ?_)
  intro v4_10 v4_104 v4_105 v4_106 v4_107 v4_108 v4_109 v4_110 v4_111 v4_112 v4_113 v4_114 v4_115 v4_116 v4_117 v4_118 v4_119 w5 s2 hb5
  have BX6:Hid (Bx w _ (tabR L kR) w5):=hJJ (by rw [TR.out] at hb5;exact hb5)
  clear hb5 BX5 TR
  dsimp only
  go_wp2_with fail
  refine (from_any a cap L _ _ _ (HL.out _ BX6.out.bel) (by omega) (by omega) (by omega)).mono ?_
  rintro e w' ⟨rfl,rfl⟩
  rw [EB.out]
  go_wp2_with fail
  refine loop_buses a cap L w _ ⟨⟨ga,gc⟩,s1,s2,⟨none,0⟩⟩ (tabR L kR) (genN L) n8 n1 kB lB HL ⟨none,0⟩ (hJJ (by rw [tabR_buses];exact BX6.out)) (fun _ _ d _ _ h=>by cases d <;> exact h) (hJJ ?_)
  intro v5_11 v5_122 v5_123 v5_124 v5_125 v5_126 v5_127 v5_128 v5_129 v5_130 v5_131 v5_132 v5_133 v5_134 v5_135 v5_136 v5_137 v5_138 v5_139 v5_140 v5_141 v5_142 v5_143 v5_144 v5_145 v5_146 v5_147 v5_148 w6 s3 hb6
  have BX7:Hid (Bx w _ (tabB L kB) w6):=hJJ (by rw [TB.out] at hb6;exact hb6)
  clear hb6 BX6 TB
  dsimp only
  simp only [Exit.inBlock,Exit.then,if_true]
  apply_assumption
  exact tail_any a cap L w _ _ (tabB L kB) n8 HL BX7 TS.out kR lR LR GT2
end GenT
namespace SetM
theorem has_of (m:Nat) (h:m < 256) (p:Int):has (m:Int) p=(decide (0≤p) && m.testBit p.toNat):=by unfold has;rw [low_nat m h]
theorem has_with (s p q:Int):has (withN s p:Nat) q=(has s q || (bit p != 0 && q == p)):=by
 rw [has_of _ (with_lt s p)]
 unfold withN
 by_cases h0:0≤q
 ·obtain ⟨k,rfl⟩:=Int.eq_ofNat_of_zero_le h0
  rw [decide_eq_true h0,Bool.true_and,Nat.testBit_or,Int.toNat_natCast,has_nat,test_bit]
  congr 1
  rw [Bool.eq_iff_iff,decide_eq_true_iff,Bool.and_eq_true,bne_iff_ne,beq_iff_eq]
  constructor
  ·rintro ⟨e,h8⟩
   rw [← e,bit_in k h8]
   exact ⟨Nat.ne_of_gt (Nat.two_pow_pos k),rfl⟩
  ·rintro ⟨h1,e⟩
   refine ⟨e,?_⟩
   by_cases h8:k < 8
   ·exact h8
   ·exact absurd (bit_out (p:=p) (by omega)) h1
 ·rw [decide_eq_false h0,Bool.false_and,has_neg s q (by omega),Bool.false_or]
  symm
  rw [Bool.and_eq_false_iff]
  by_cases e:q=p
  ·left;rw [bit_out (by omega)];rfl
  ·right;simpa using e
theorem has_without (s p q:Int):has (withoutN s p:Nat) q=(has s q && !(q == p)):=by
 have h1:has (withoutN s p:Nat) q=decide (q ∈ (list s).filter fun q=>q != p):=by
  rw [← of_without,has_of _ (of_lt _)]
  by_cases h0:0≤q
  ·obtain ⟨k,rfl⟩:=Int.eq_ofNat_of_zero_le h0
   rw [decide_eq_true h0,Bool.true_and,Int.toNat_natCast,of_test,Bool.eq_iff_iff,decide_eq_true_iff,decide_eq_true_iff]
   refine ⟨fun h=>h.1,fun h=>⟨h,?_⟩⟩
   have:=list_bd s k (List.mem_filter.1 h).1
   omega
  ·rw [decide_eq_false h0,Bool.false_and]
   symm
   rw [decide_eq_false_iff_not]
   intro h
   have:=list_bd s q (List.mem_filter.1 h).1
   omega
 rw [h1,Bool.eq_iff_iff,decide_eq_true_iff,List.mem_filter,mem_list,Bool.and_eq_true]
 rfl
theorem has_ext {m m':Nat} (h:m < 256) (h':m' < 256) (e:∀ q:Int,has (m:Int) q=has (m':Int) q):m=m':=by
 refine eq_of h h' fun k _=>?_
 have:=e (k:Int)
 rwa [has_nat,has_nat,low_nat m h,low_nat m' h'] at this
end SetM
namespace GenT
open Go Tab GenG PlaceM OnS Clone
open RefS (num num_range)
theorem genTab_groups (L:List Int):(genTab L).groups=genGs L:=by
 unfold genTab;split <;> exact tabF_groups L
theorem genTab_few (L:List Int):Few (genTab L):=⟨by rw [genTab_groups];exact (tab1_few L).groups,by rw [genTab_groups];exact (tab1_few L).rows⟩
theorem beside_symm (T:Tab) (p q:Int):beside T p q=beside T q p:=by
 unfold beside
 cases where_ T p with
 | none=>cases where_ T q <;> rfl
 | some a =>
  cases where_ T q with
  | none=>rfl
  | some b =>
   show (a.g == b.g && a.k != b.k)=(b.g == a.g && b.k != a.k)
   rw [Bool.beq_comm,bne_comm]
end GenT
namespace ChkM
open Go Tab PlaceM PlanM OnS May
def ons (T:Tab):List Int:=SetM.list (onS T:Nat)
def phAt (T:Tab) (p:Int):Ph:=T.phases.getD p.toNat default
def cfAt (T:Tab) (p:Int):Int:=T.conflict.getD p.toNat 0
def flAt (T:Tab) (p:Int):Int:=T.flash.getD p.toNat 0
def phBad (u:Ph):Bool:=decide (u.min < 1) || (decide (u.yellow < 10) || (decide (u.max < u.min) || (decide (u.top < u.max) || ((decide (u.step < 1) && decide (u.max < u.top)) || (((u.walk == 0) != (u.blinks == 0)) || (u.recall == 3 && u.walk == 0))))))
def phOk (u:Ph):Bool:=decide (1≤u.min) && (decide (10≤u.yellow) && (decide (u.min≤u.max) && (decide (u.max≤u.top) && ((decide (1≤u.step) || u.top == u.max) && ((decide (0 < u.walk) == decide (0 < u.blinks)) && (u.recall != 3 || decide (0 < u.walk)))))))
def allOn (T:Tab) (s:Int):Bool:=bits .andNot .i64 s (onS T:Nat) == 0
def inR (a b:Int):Bool:=bits .and .i64 (bits .andNot .i64 a b) 255 == 0
def clashC (T:Tab) (s:Int):Bool:=(SetM.list s).any fun p=>bits .and .i64 (cfAt T p) s != 0
def clashR (T:Tab) (a b:Int):Bool:=(SetM.list a).any fun p=>(SetM.list b).any fun q=>SetM.has (cfAt T p) q || SetM.has (cfAt T q) p
def abreast (T:Tab) (s:Int):Bool:=(SetM.list s).all fun p=>(SetM.list (SetM.withoutN s p:Nat)).all fun q=>beside T p q
def pairs (T:Tab) (l:List Int):Bool:=(List.range l.length).all fun i=>(List.range i).all fun k=>beside T (l.getD i 0) (l.getD k 0)
def yel (T:Tab) (p:Int):Bool:=flAt T p == 2
def yellows (T:Tab):Nat:=SetM.of ((ons T).filter (yel T))
def confBad (T:Tab) (p:Int):Bool:=SetM.has (cfAt T p) p || (ons T).any fun q=>(SetM.has (cfAt T p) q != SetM.has (cfAt T q) p) || (SetM.has (cfAt T p) q && beside T p q)
def confR (T:Tab) (p q:Int):Bool:=(SetM.has (cfAt T p) q && q == p) || ((SetM.has (cfAt T p) q != SetM.has (cfAt T q) p) || (SetM.has (cfAt T p) q && beside T p q))
def confOk (T:Tab) (p:Int):Bool:=!(ons T).any (confR T p)
def flashBad (T:Tab) (p:Int):Bool:=flAt T p == 0 || (flAt T p == 2 && bits .and .i64 (cfAt T p) (yellows T:Nat) != 0)
def flashR (T:Tab) (p q:Int):Bool:=flAt T p == 2 && (flAt T q == 2 && SetM.has (cfAt T p) q)
def flashOk (T:Tab) (p:Int):Bool:=flAt T p != 0 && !(ons T).any (flashR T p)
def gtF (a b:Nat):Bool:=decide (Go.Proofs.Fl.key b < Go.Proofs.Fl.key a)
def detBad (T:Tab) (d:Det):Bool:=gtF d.off d.on || !(phAt T d.phase).on
def detR (T:Tab) (d:Det):Bool:=gtF d.off d.on || !SetM.has (onS T:Nat) d.phase
def timesBad (r:Rl):Bool:=((r.hold == 0) != (r.clear == 0)) || (decide (r.green < 1) || (decide (r.stay < 1) || ((decide (0 < r.most) && decide (r.most < r.stay)) || decide (r.limit≤r.delay))))
def or4 (r:Rl):Int:=bits .or .i64 (bits .or .i64 (bits .or .i64 r.bars r.clear) r.dwell) r.exit
def railBad (T:Tab) (r:Rl):Bool:=!allOn T (or4 r) || (r.dwell == 0 || (r.exit == 0 || (bits .and .i64 r.dwell r.bars != 0 || (clashC T r.clear || (clashC T r.dwell || (clashC T r.exit || (!abreast T r.exit || timesBad r)))))))
def exitR (T:Tab) (s:Int):Bool:=pairs T (SetM.list s) && decide (0 < (SetM.list s).length)
def railOk (T:Tab) (r:Rl):Bool:=(inR (or4 r) (onS T:Nat) && (r.dwell != 0 && (bits .and .i64 r.dwell r.bars == 0 && exitR T r.exit))) && (!clashR T r.clear r.clear && (!clashR T r.dwell r.dwell && (!clashR T r.exit r.exit && ((decide (0 < r.hold) == (r.clear != 0)) && (decide (1≤r.green) && (decide (1≤r.stay) && ((r.most == 0 || decide (r.stay≤r.most)) && decide (r.delay < r.limit))))))))
def busBad (T:Tab) (b:Bs):Bool:=b.set == 0 || (!allOn T b.set || decide (b.lock < 1))
def busR (T:Tab) (b:Bs):Bool:=b.set == 0 || (!inR b.set (onS T:Nat) || decide (b.lock < 1))
def at0 (o:Option Spt):Nat × Nat × Nat:=match o with | some x=>(x.g,x.k,x.i) | none=>(0,0,0)
def repRow (T:Tab) (g k:Nat) (l:List Int):Bool:=(List.range l.length).any fun i=>at0 (where_ T (l.getD i 0)) != (g,k,i)
def repeats (T:Tab) (g:Nat):Bool:=repRow T g 0 (rowsAt T g).1 || repRow T g 1 (rowsAt T g).2
def groupBad (T:Tab) (g:Nat):Bool:=membS T g == 0 || (!allOn T (membS T g:Nat) || repeats T g)
def placed (T:Tab):Nat→Nat
 | 0=>0
 | g+1=>placed T g ||| membS T g
def ringsC (T:Tab):Option Int :=
 if T.groups.length=0 then some 0 else
 match (List.range T.groups.length).find? (groupBad T) with
 | some g=>some (g:Int)
 | none=>if bits .andNot .i64 (onS T:Nat) (placed T T.groups.length:Nat)=0 then none else some 0
def foldR (on:Int) (g:Nat):List Spt→Nat × Nat→Option (Nat × Nat)
 | [],s=>some s
 | x :: l,(n,s)=>if x.g=g then (if !SetM.has on x.p || SetM.has (s:Nat) x.p then none else foldR on g l (n+1,SetM.withN (s:Nat) x.p)) else foldR on g l (n,s)
def loopR (T:Tab):Nat→Nat→Nat→Option Int
 | 0,_,seen=>if seen=onS T then none else some 0
 | m+1,g,seen=>match foldR (onS T:Nat) g (spots T) (0,seen) with
  | none=>some (g:Int)
  | some (n,s)=>if n=0 then some (g:Int) else loopR T m (g+1) s
def ringsR (T:Tab):Option Int:=if T.groups.length=0 then some 0 else loopR T T.groups.length 0 0
def firstF:List (Int × Option Int)→Int × Int
 | []=>(0,0)
 | (c,some p) :: _=>(c,p)
 | (_,none) :: l=>firstF l
def idx {α:Type} (f:α→Bool) (l:List α):Option Int:=(l.findIdx? f).map Int.ofNat
def mayF (T:Tab):Option Int:=if tabMay T then none else some 0
def rulesC (T:Tab):List (Int × Option Int):=[(4,mayF T),(7,(ons T).find? fun p=>phBad (phAt T p)),(8,ringsC T),(9,(ons T).find? (confBad T)),(10,idx (detBad T) T.dets),(11,idx (railBad T) T.rails),(12,idx (busBad T) T.buses),(13,(ons T).find? (flashBad T))]
def rulesR (T:Tab):List (Int × Option Int):=[(4,mayF T),(7,(ons T).find? fun p=>!phOk (phAt T p)),(8,ringsR T),(9,(ons T).find? fun p=>!confOk T p),(10,idx (detR T) T.dets),(11,idx (fun r=>!railOk T r) T.rails),(12,idx (busR T) T.buses),(13,(ons T).find? fun p=>!flashOk T p)]
def chkC (T:Tab):Int × Int:=firstF (rulesC T)
def chkR (T:Tab):Int × Int:=firstF (rulesR T)
def fcells (x:Int × Int):Array Value:=#[I x.1,I x.2]
theorem first_hit {c p:Int}:∀ {l:List (Int × Option Int)} {q:Nat},l[q]?=some (c,some p)→(∀ j x,j < q→l[j]?=some x→x.2=none)→firstF l=(c,p)
 | [],q,h,_=>by simp at h
 | (d,o) :: l,0,h,_=>by
  obtain ⟨rfl,rfl⟩:d=c∧o=some p:=by simpa using h
  rfl
 | (d,o) :: l,q+1,h,hn=>by
  have h0:o=none:=hn 0 (d,o) (by omega) rfl
  subst h0
  exact first_hit (l:=l) (q:=q) (by simpa using h) (fun j x hj hx=>hn (j+1) x (by omega) (by simpa using hx))
theorem first_miss:∀ {l:List (Int × Option Int)},(∀ x ∈ l,x.2=none)→firstF l=(0,0)
 | [],_=>rfl
 | (d,o) :: l,h=>by
  have h0:o=none:=h (d,o) (List.mem_cons_self ..)
  subst h0
  exact first_miss (l:=l) (fun x hx=>h x (List.mem_cons_of_mem _ hx))
end ChkM
namespace SetP
open Zip
open Go.ChangeShapes Go.WideShapes Go.ChangeAt Go.RowKit
open Go.Proofs.YtjolhoilcibdfaaGreat
theorem ret_int {k:IntKind} {a b:Int} (h:a=b):Ending.returned (.int k a)=.returned (.int k b):=by rw [h]
theorem ret_bool {a b:Bool} (h:a=b):Ending.returned (.bool a)=.returned (.bool b):=by rw [h]
theorem eight {p:Int} (h:0≤p) (h':p < 8):p=0∨p=1∨p=2∨p=3∨p=4∨p=5∨p=6∨p=7:=by omega
theorem bit_any (p:Int) (w:World):Calls Tryz.prog 123 #[.int .i64 p] w fun e w'=>e=.returned (.int .i64 (SetM.bit p))∧w=w':=by
 by_cases h1:p < 0
 ·have HB:=hJJ (SetM.bit_out (p:=p) (by omega))
  go_enter Tryz.func123,Tryz.ntmps123
  go_wp2
  go_ret
  exact ⟨ret_int (by rw [HB.out];rfl),rfl⟩
 by_cases h2:8≤p
 ·have HB:=hJJ (SetM.bit_out (p:=p) (by omega))
  go_enter Tryz.func123,Tryz.ntmps123
  go_wp2
  go_ret
  exact ⟨ret_int (by rw [HB.out];rfl),rfl⟩
 rcases eight (p:=p) (by omega) (by omega) with rfl | rfl | rfl | rfl | rfl | rfl | rfl | rfl
 all_goals
  clear h1 h2
  go_enter Tryz.func123,Tryz.ntmps123
  go_wp2
  go_ret
  exact ⟨ret_int (by decide),rfl⟩
theorem ne_has (s p:Int):(bits .and .i64 s (SetM.bit p) != 0)=SetM.has s p:=by
 have h:=SetM.has_and s p
 cases hb:SetM.has s p
 ·rw [h.2 hb];rfl
 ·rw [bne_iff_ne];intro e;rw [h.1 e] at hb;cases hb
theorem has_any (s p:Int) (w:World):Calls Tryz.prog 95 #[.int .i64 s,.int .i64 p] w fun e w'=>e=.returned (.bool (SetM.has s p))∧w=w':=by
 have HB:=hJJ (ne_has s p)
 go_enter Tryz.func95,Tryz.ntmps95
 go_wp2_with (go_at_call 123;refine (bit_any _ _).mono ?_;rintro e w' ⟨rfl,rfl⟩)
 go_ret
 exact ⟨ret_bool HB.out,rfl⟩
theorem with_any (s p:Int) (w:World):Calls Tryz.prog 124 #[.int .i64 s,.int .i64 p] w fun e w'=>e=.returned (.int .i64 (SetM.withN s p))∧w=w':=by
 have HB:=hJJ (SetM.with_bits s p)
 go_enter Tryz.func124,Tryz.ntmps124
 go_wp2_with (go_at_call 123;refine (bit_any _ _).mono ?_;rintro e w' ⟨rfl,rfl⟩)
 go_ret
 exact ⟨ret_int HB.out,rfl⟩
theorem with_take (l:List Int) (k:Nat) (h:k < l.length):SetM.withN (SetM.of (l.take k):Nat) (l.getD k 0)=SetM.of (l.take (k+1)):=by
 rw [RefS.take_succ l k h,SetM.with_of]
theorem of_any (a:Option Addr) (cap:Nat) (l:List Int) (w:World) (h:RefS.Row w a l) :
  Calls Tryz.prog 100 #[.slice a l.length cap] w fun e w'=>e=.returned (.int .i64 (SetM.of l:Nat))∧w=w':=by
 have h1:=h.1
 unfold maxLen at h1
 have Hr:=hJJ h
 clear h
 go_enter Tryz.func100,Tryz.ntmps100
 go_wp2
 go_loop [3,8] (fun t i=>∃ k:Nat,k≤l.length∧i=.int .i64 k∧t=.int .i64 (SetM.of (l.take k):Nat)) (fun _ i=>l.length - (intOf i).toNat)
 case atStart=>exact ⟨0,Nat.zero_le _,rfl,rfl⟩
 case round =>
  obtain ⟨k,hk,rfl,rfl⟩:=hrel
  by_cases hlt:k < l.length
  ·have HS:=with_take l k hlt
   obtain ⟨x,rfl,hc⟩:=Hr.out.cells hlt
   have hcell:=hc k hlt
   clear hc
   generalize l.getD k 0=y at HS hcell
   have HS2:=hJJ HS
   clear HS
   go_wp2_with (go_at_call 124;refine (SetP.with_any _ _ _).mono ?_;rintro e w' ⟨rfl,rfl⟩)
   go_round
   case rel=>exact ⟨k+1,by omega,by go_num,by rw [HS2.out]⟩
   case measure=>simp [intOf];omega
  ·go_wp2
   go_ret
   have:k=l.length:=by omega
   subst this
   exact ⟨by rw [List.take_of_length_le (Nat.le_refl _)];rfl,rfl⟩
end SetP
namespace PlanW
open Zip
open Go.ChangeShapes Go.WideShapes Go.ChangeAt Go.RowKit
open Tab PlaceM PlanM
open May (ret_bool chain infoP infoG St)
open SetP (of_any has_any)
theorem info2:(Tryz.prog.info? 41).map (·.size)=some 2:=by kernel_rfl
theorem infoT:(Tryz.prog.info? 32).map (·.size)=some 131:=by kernel_rfl
theorem row_one (w:World) (p:Int) (t:TypeId) (b:Nat) (hb:w.heap.size=b):RefS.Row (w.alloc (.cells #[.int .i64 p] t)) (some ⟨b,0,none⟩) [p]:=by
 subst hb
 refine ⟨by simp [maxLen],.inr ⟨_,rfl,fun i hi=>?_⟩⟩
 obtain rfl:i=0:=by simpa using hi
 rw [RefS.add_zero,cell_of_row _ _ _ _ _ _ (heap_alloc_new w _)]
 rfl
theorem idx0 (v0 v1:Value) (w:World):Sem.run Tryz.prog (Instr.index 41 (.agg #[v0,v1]) (.int .i64 0)) w=.ok v0 w:=by kernel_rfl
theorem idx1 (v0 v1:Value) (w:World):Sem.run Tryz.prog (Instr.index 41 (.agg #[v0,v1]) (.int .i64 1)) w=.ok v1 w:=by kernel_rfl
theorem has_one (p q:Int):SetM.has ((SetM.of [p]:Nat):Int) q=(decide (0≤p∧p < 8) && decide (q=p)):=by
 unfold SetM.has
 rw [SetM.low_nat _ (SetM.of_lt _),SetM.of_test]
 by_cases h0:0≤q
 ·obtain ⟨k,rfl⟩:=Int.eq_ofNat_of_zero_le h0
  simp only [Int.toNat_natCast,List.mem_singleton,h0,decide_true,Bool.true_and]
  rw [Bool.eq_iff_iff]
  simp only [Bool.and_eq_true,decide_eq_true_eq]
  omega
 ·rw [decide_eq_false h0,Bool.false_and]
  symm
  rw [Bool.and_eq_false_iff,decide_eq_false_iff_not,decide_eq_false_iff_not]
  omega
theorem results_tmp4 {P:Program} {fn:Func} {t u v x:Tmp} (h:fn.results=#[.tmp t,.tmp u,.tmp v,.tmp x]) (tmps:Array Value) (w:World) :
  (results fn tmps).run P w=.ok (.tuple #[tmps.getD t undef,tmps.getD u undef,tmps.getD v undef,tmps.getD x undef]) w:=by
 simp [results,h]
def wG:Option Spt→Int | some x=>x.g | none=>0
def wK:Option Spt→Int | some x=>x.k | none=>0
def wI:Option Spt→Int | some x=>x.i | none=>0
theorem where_none {T:Tab} {p:Int} (h:∀ x ∈ spots T,x.p ≠ p):where_ T p=none:=find_none h
theorem where_some {T:Tab} {p:Int} {x:Spt} (hx:x ∈ spots T) (hp:x.p=p) (hn:∀ y ∈ spots T,Lt y x→y.p ≠ p):where_ T p=some x:=by
 unfold where_ find
 exact find_hit (spots_sorted T) hx (by simpa using hp) (fun y hy hl=>by simpa using hn y hy hl)
theorem pwhere_any (T:Tab) (h:Hd) (p:Int) (w:World) (ht:IsTab w h T) :
  Calls Tryz.prog 63 #[.agg (T.cells h).toArray,.int .i64 p] w fun e w'=>e=.returned (.tuple #[I (wG (where_ T p)),I (wK (where_ T p)),I (wI (where_ T p)),.bool (where_ T p).isSome])∧Below w.heap.size w w':=by
 obtain ⟨⟨ga,gcap⟩,sd,sr,sb⟩:=h
 have C:=hJJ (cells_ok ht)
 generalize (T.cells ⟨⟨ga,gcap⟩,sd,sr,sb⟩).toArray=cs at C ⊢
 obtain ⟨gs,hgd,hgr⟩:=ht.groups
 have Hgr:=hJJ hgr
 have Hgd:=hJJ hgd
 have hsz:=C.out.size
 have S0:=hJJ (St.box (cs:=cs) ht)
 have Hgl:=hJJ (show T.groups.length=gs.length by rw [← hgd,List.length_map])
 have Kg:=hgr.1.len
 unfold maxLen at Kg
 have HS:Hid (∀ q,SetM.has ((SetM.of [p]:Nat):Int) q=(decide (0≤p∧p < 8) && decide (q=p))):=hJJ (has_one p)
 have WN:Hid ((∀ x ∈ spots T,x.p ≠ p)→where_ T p=none):=hJJ where_none
 have WS:Hid (∀ x,x ∈ spots T→x.p=p→(∀ y ∈ spots T,Lt y x→y.p ≠ p)→where_ T p=some x):=hJJ (fun x=>where_some)
 generalize where_ T p=o at WN WS ⊢
 clear ht hgr hgd
 go_enter Tryz.func63,Tryz.ntmps63
 go_upto_region 1 with fail
 generalize w.alloc (.cells cs 32)=w1 at S0 ⊢
 clear hsz
 go_step3
 go_wp2_with fail
 have hb1:Below w1.heap.size w1 (w1.alloc (.cells #[.int .i64 p] 3)):=(Below.refl _ _).alloc (Nat.le_refl _) _
 have hr:=row_one w1 p 3 _ rfl
 have S2:=hJJ (S0.out.step hb1)
 have HR:=hJJ hr
 clear hb1 hr S0
 generalize w1.alloc (.cells #[.int .i64 p] 3)=w2 at S2 HR ⊢
 refine (of_any _ _ [p] _ HR.out).mono ?_
 rintro e w' ⟨rfl,rfl⟩
 generalize ((SetM.of [p]:Nat):Int)=s0 at HS ⊢
 clear HR
 have q104:=S2.out.cell C.out.g
 rw [Hgl.out] at q104
 have Q104:Hid (w2.cell? ⟨w.heap.size,104,none⟩=some (.slice ga gs.length gcap)):=hJJ q104
 clear q104
 have q104:=Q104.out
 have LIFT:Hid (∀ W,Below w2.heap.size w2 W→∀ (z:Addr) (c:Value),w2.cell? z=some c→W.cell? z=some c):=hJJ (fun W hb z c hc=>(hb.cell (World.block_lt_of_cell? w2 _ hc)).trans hc)
 go_wp2_with fail
 go_step3
 go_wp2_with fail
 clear q104
 go_loopw [4,5,6,7,21] (fun a b c d g wr=>∃ q:Nat,q≤gs.length∧a=.int .i64 0∧b=.int .i64 0∧c=.int .i64 0∧d=.bool false∧g=.int .i64 q∧(∀ x ∈ spots T,x.g < q→x.p ≠ p)∧Below w2.heap.size w2 wr) (fun _ _ _ _ g _=>gs.length - (intOf g).toNat)
 case atStart=>exact ⟨0,by omega,rfl,rfl,rfl,rfl,rfl,(fun x _ h=>by omega),Below.refl _ _⟩
 case round =>
  obtain ⟨q,hq,rfl,rfl,rfl,rfl,rfl,hall,hbel⟩:=hrel
  have HA:=hJJ hall
  have HB:=hJJ hbel
  clear hall hbel
  by_cases hlt:q < gs.length
  ·have hv:=List.getElem?_eq_getElem hlt
   generalize gs[q]=u at hv
   obtain ⟨x,hx,hc⟩:=(Hgr.out.1.below (S2.out.bel.trans (HB.out.mono S2.out.bel.size))).at hv
   have hok:=(Hgr.out.2 u (List.mem_of_getElem? hv)).below (S2.out.bel.trans (HB.out.mono S2.out.bel.size))
   have HD:Hid (T.groups[q]?=some u.data):=hJJ (by rw [← Hgd.out,List.getElem?_map,hv];rfl)
   obtain rfl:ga=some x:=hx
   obtain ⟨l0,l1,⟨a0,cap0⟩,⟨a1,cap1⟩⟩:=u
   have HC:Hid (Lies wr (x.add (q*2)) [.slice a0 l0.length cap0,.slice a1 l1.length cap1]):=hJJ hc
   have HO:=hJJ hok
   clear hv hc hok
   have hwr:=HB.out.size
   go_upto_region 5 with (first | (refine Row.wpList_load_g 41 _ rfl (by first | rfl | go_simp) (x.add (q*2)) rfl [.slice a0 l0.length cap0,.slice a1 l1.length cap1] _ HC.out Tryz.underlying41 rfl info2 ?_) | (refine Row.wpList_store_new rfl 41 _ _ rfl wr #[.slice none 0 0,.slice none 0 0] #[.slice a0 l0.length cap0,.slice a1 l1.length cap1] rfl rfl rfl info2 rfl (by simp [Value.oneCell']) ?_))
   have hbn:Below w2.heap.size w2 (wr.alloc (.cells #[.slice a0 l0.length cap0,.slice a1 l1.length cap1] 41)):=HB.out.alloc hwr _
   have hbo:Below wr.heap.size wr (wr.alloc (.cells #[.slice a0 l0.length cap0,.slice a1 l1.length cap1] 41)):=(Below.refl _ _).alloc (Nat.le_refl _) _
   have hg:=Row.lies_of_block (heap_alloc_new wr (.cells #[.slice a0 l0.length cap0,.slice a1 l1.length cap1] 41))
   have HL:=hJJ hg
   have HO2:=hJJ (HO.out.below hbo)
   have HN:=hJJ hbn
   clear hg hbn hbo HC HO
   generalize wr.alloc (.cells #[.slice a0 l0.length cap0,.slice a1 l1.length cap1] 41)=w4 at HL HO2 HN ⊢
   generalize wr.heap.size=b4 at HL ⊢
   go_wp2_with (first | (refine lgZ 41 ⟨b4,0,none⟩ [.slice a0 l0.length cap0,.slice a1 l1.length cap1] rfl HL.out Tryz.underlying41 info2 ?_))
   go_loopw [4,5,6,7,27] (fun a b c d k wk=>∃ r:Nat,r≤2∧a=.int .i64 0∧b=.int .i64 0∧c=.int .i64 0∧d=.bool false∧k=.int .i64 r∧(∀ x ∈ spots T,x.g=q→x.k < r→x.p ≠ p)∧wk=w4) (fun _ _ _ _ k _=>2 - (intOf k).toNat)
   case atStart=>exact ⟨0,by omega,rfl,rfl,rfl,rfl,rfl,(fun x _ _ h=>by omega),rfl⟩
   case round =>
    obtain ⟨r,hr,rfl,rfl,rfl,rfl,rfl,hall,rfl⟩:=hrel
    have HA2:=hJJ hall
    clear hall
    by_cases hr2:r < 2
    ·obtain ⟨l,a,cap,hidx,hrow,hring⟩:∃ (l:List Int) (a:Option Addr) (cap:Nat),(∀ W,Sem.run Tryz.prog (Instr.index 41 (.agg #[.slice a0 l0.length cap0,.slice a1 l1.length cap1]) (.int .i64 r)) W=.ok (.slice a l.length cap) W)∧IntRow wr ⟨a,cap⟩ l∧ringOf (l0,l1) r=l:=by
      have:r=0∨r=1:=by omega
      rcases this with rfl | rfl
      ·exact ⟨l0,a0,cap0,fun W=>idx0 _ _ W,HO2.out.1,rfl⟩
      ·exact ⟨l1,a1,cap1,fun W=>idx1 _ _ W,HO2.out.2,rfl⟩
     have HROW:=hJJ hrow
     have HRING:=hJJ hring
     have K:=hrow.len
     unfold maxLen at K
     clear hrow hring
     go_wp2_with fail
     clear hidx
     go_loopw [4,5,6,7,33] (fun a0' b c d k wk=>∃ j:Nat,j≤l.length∧a0'=.int .i64 0∧b=.int .i64 0∧c=.int .i64 0∧d=.bool false∧k=.int .i64 j∧(∀ i,i < j→SetM.has s0 (l.getD i 0)=false)∧wk=wr) (fun _ _ _ _ k _=>l.length - (intOf k).toNat)
     case atStart=>exact ⟨0,by omega,rfl,rfl,rfl,rfl,rfl,(fun i h=>by omega),rfl⟩
     case round =>
      obtain ⟨j,hj,rfl,rfl,rfl,rfl,rfl,hall,rfl⟩:=hrel
      have HA3:=hJJ hall
      clear hall
      by_cases hjl:j < l.length
      ·have hv:=List.getElem?_eq_getElem hjl
       generalize hz:l[j]=z at hv
       obtain ⟨y,hy,hp⟩:=IntRow.at HROW.out hv
       obtain rfl:a=some y:=hy
       have HV:=hJJ hv
       have hgd:l.getD j 0=z:=by rw [List.getD_eq_getElem?_getD,hv];rfl
       have HGD:=hJJ hgd
       clear hv hz hgd
       cases hh:SetM.has s0 z with
       | true =>
        have HF:Hid (o=some ⟨q,r,j,p⟩):=hJJ (by
         have h1:=HS.out z
         rw [hh] at h1
         simp only [Eq.comm (a:=true),Bool.and_eq_true,decide_eq_true_eq] at h1
         obtain ⟨⟨p0,p8⟩,rfl⟩:=h1
         refine WS.out _ (mem_spots.2 ⟨(l0,l1),HD.out,by rw [HRING.out];exact HV.out,p0,p8⟩) rfl fun y hy hl=>?_
         unfold Lt at hl
         simp only at hl
         rcases hl with hl | ⟨hl,hl2 | ⟨hl2,hl3⟩⟩
         ·exact HA.out y hy hl
         ·exact HA2.out y hy hl hl2
         ·intro e
          obtain ⟨z,h2,h3,_⟩:=mem_spots.1 hy
          rw [hl,HD.out] at h2
          obtain rfl:=Option.some.inj h2
          have h4:l[y.i]?=some y.p:=by have:=h3;rw [hl2] at this;rw [← HRING.out];exact this
          have h5:=HA3.out y.i hl3
          rw [List.getD_eq_getElem?_getD,h4] at h5
          have h6:=HS.out y.p
          rw [show SetM.has s0 y.p=false from h5,e] at h6
          simp [p0,p8] at h6)
        go_wp2_with (go_at_call 95;refine (has_any _ _ _).mono ?_;rintro e w' ⟨rfl,rfl⟩;rw [hh])
        (try rw [Exit.noGoto_ret])
        (try simp only [Exit.inBlock,Exit.then])
        refine bodyPost_ret (v:=.tuple #[I q,I r,I j,.bool true]) ?_ rfl ⟨?_,?_⟩
        ·exact results_tmp4 (fn:=Tryz.f63) (t:=4) (u:=5) (v:=6) (x:=7) rfl _ _
        ·rw [HF.out];rfl
        ·exact S2.out.bel.trans (HN.out.mono S2.out.bel.size)
       | false =>
        go_wp2_with (go_at_call 95;refine (has_any _ _ _).mono ?_;rintro e w' ⟨rfl,rfl⟩;rw [hh])
        go_roundw
        case rel=>exact ⟨j+1,by omega,rfl,rfl,rfl,rfl,by go_num,(fun i hi=>by
         by_cases e:i=j
         ·subst e;rw [HGD.out];exact hh
         ·exact HA3.out i (by omega)),trivial⟩
        case measure=>simp [intOf];omega
      ·have HN:Hid (∀ x ∈ spots T,x.g=q→x.k < r+1→x.p ≠ p):=hJJ (fun y hy h1 h2 e=>by
        by_cases h3:y.k < r
        ·exact HA2.out y hy h1 h3 e
        ·obtain ⟨z,h4,h5,h6,h7⟩:=mem_spots.1 hy
         rw [h1,HD.out] at h4
         obtain rfl:=Option.some.inj h4
         have hk:y.k=r:=by omega
         have h8:l[y.i]?=some y.p:=by rw [hk] at h5;rw [← HRING.out];exact h5
         have h9:=HA3.out y.i (by have:=(List.getElem?_eq_some_iff.1 h8).1;omega)
         rw [List.getD_eq_getElem?_getD,h8] at h9
         have h10:=HS.out y.p
         rw [show SetM.has s0 y.p=false from h9,e] at h10
         rw [e] at h6 h7
         simp [h6,h7] at h10)
       go_wp2
       go_roundw
       case rel=>exact ⟨r+1,by omega,rfl,rfl,rfl,rfl,by go_num,HN.out,trivial⟩
       case measure=>simp [intOf];omega
    ·have HN3:Hid (∀ x ∈ spots T,x.g < q+1→x.p ≠ p):=hJJ (fun y hy h1 e=>by
      by_cases h3:y.g < q
      ·exact HA.out y hy h3 e
      ·obtain ⟨z,h4,h5,_⟩:=mem_spots.1 hy
       refine HA2.out y hy (by omega) ?_ e
       unfold ringOf at h5
       by_cases h6:y.k=0
       ·omega
       ·by_cases h7:y.k=1
        ·omega
        ·rw [if_neg h6,if_neg h7] at h5;simp at h5)
     go_wp2
     go_roundw
     case rel=>exact ⟨q+1,by omega,rfl,rfl,rfl,rfl,by go_num,HN3.out,HN.out⟩
     case measure=>simp [intOf];omega
  ·have HF:Hid (o=none):=hJJ (WN.out (fun y hy=>by
    refine HA.out y hy ?_
    obtain ⟨z,h4,_⟩:=mem_spots.1 hy
    have:=(List.getElem?_eq_some_iff.1 h4).1
    rw [Hgl.out] at this
    omega))
   go_wp2
   (try rw [Exit.noGoto_ret])
   (try simp only [Exit.inBlock,Exit.then])
   refine bodyPost_ret (v:=.tuple #[I 0,I 0,I 0,.bool false]) ?_ rfl ⟨?_,?_⟩
   ·exact results_tmp4 (fn:=Tryz.f63) (t:=4) (u:=5) (v:=6) (x:=7) rfl _ _
   ·rw [HF.out];rfl
   ·exact S2.out.bel.trans (HB.out.mono S2.out.bel.size)
theorem pbeside_raw (c:List Value) (p q g1 k1 i1 g2 k2 i2:Int) (ok1 ok2:Bool) (w:World) (hc:c.length=131)
  (V1:Hid (∀ W,Below w.heap.size w W→Calls Tryz.prog 63 #[.agg c.toArray,.int .i64 p] W fun e w'=>e=.returned (.tuple #[I g1,I k1,I i1,.bool ok1])∧Below W.heap.size W w'))
  (V2:Hid (∀ W,Below w.heap.size w W→Calls Tryz.prog 63 #[.agg c.toArray,.int .i64 q] W fun e w'=>e=.returned (.tuple #[I g2,I k2,I i2,.bool ok2])∧Below W.heap.size W w')) :
  Calls Tryz.prog 112 #[.agg c.toArray,.int .i64 p,.int .i64 q] w fun e w'=>e=.returned (.bool (ok1 && ok2 && g1 == g2 && k1 != k2))∧Below w.heap.size w w':=by
 have hsz:c.toArray.size=131:=by simpa using hc
 have IA:Hid ((Tryz.prog.info? 32).map (·.size)=some c.length):=hJJ (by rw [hc];exact infoT)
 have A0:Hid (Below w.heap.size w (w.alloc (.cells c.toArray 32))):=hJJ ((Below.refl _ _).alloc (Nat.le_refl _) _)
 have A1:Hid (Lies (w.alloc (.cells c.toArray 32)) ⟨w.heap.size,0,none⟩ c):=hJJ (Row.lies_new w _ _)
 generalize hr:(ok1 && ok2 && g1 == g2 && k1 != k2)=r
 have HR:=hJJ hr
 clear hr hc
 go_enter Tryz.func112,Tryz.ntmps112
 go_upto_region 1 with fail
 generalize w.alloc (.cells c.toArray 32)=u at A0 A1 ⊢
 clear hsz
 go_wp2_with (refine lgZ 32 ⟨w.heap.size,0,none⟩ c rfl A1.out Tryz.underlying32 IA.out ?_)
 refine (V1.out _ A0.out).mono ?_
 rintro e u1 ⟨rfl,hb⟩
 have B0:Hid (Below w.heap.size w u1):=hJJ (A0.out.trans (hb.mono A0.out.size))
 have B1:=hJJ (A1.out.below hb)
 clear hb A0 A1 V1
 go_wp2_with (refine lgZ 32 ⟨w.heap.size,0,none⟩ c rfl B1.out Tryz.underlying32 IA.out ?_)
 refine (V2.out _ B0.out).mono ?_
 rintro e u3 ⟨rfl,hb⟩
 have HF:Hid (Below w.heap.size w u3):=hJJ (B0.out.trans (hb.mono B0.out.size))
 clear hb B0 B1 V2 IA
 cases ok1
 ·go_wp2
  go_ret
  exact ⟨ret_bool (by rw [← HR.out];simp),HF.out⟩
 cases ok2
 ·go_wp2
  go_ret
  exact ⟨ret_bool (by rw [← HR.out];simp),HF.out⟩
 by_cases hg:g1=g2
 ·have e1:(g1 == g2)=true:=by simpa using hg
  have E1:=hJJ e1
  clear hg
  go_wp2
  go_ret
  exact ⟨ret_bool (by rw [← HR.out,E1.out];simp),HF.out⟩
 ·have e1:(g1 == g2)=false:=by simpa using hg
  have E1:=hJJ e1
  clear hg
  go_wp2
  go_ret
  exact ⟨ret_bool (by rw [← HR.out,E1.out];simp),HF.out⟩
theorem pbeside_any (T:Tab) (h:Hd) (p q:Int) (w:World) (ht:IsTab w h T) :
  Calls Tryz.prog 112 #[.agg (T.cells h).toArray,.int .i64 p,.int .i64 q] w fun e w'=>e=.returned (.bool (beside T p q))∧Below w.heap.size w w':=by
 have hsz:=(cells_ok ht).size
 rw [List.size_toArray] at hsz
 have V:=fun r W (hb:Below w.heap.size w W)=>pwhere_any T h r W (ht.below hb)
 have V1:=V p
 have V2:=V q
 have hB:beside T p q=match where_ T p,where_ T q with
  | some a,some b=>a.g == b.g && a.k != b.k
  | _,_=>false:=rfl
 rw [hB]
 generalize where_ T p=o1 at V1 ⊢
 generalize where_ T q=o2 at V2 ⊢
 have e0:∀ a b:Nat,((a:Int) == (b:Int))=(a == b):=fun a b=>by
  by_cases h:a=b
  ·subst h;simp
  ·rw [beq_eq_false_iff_ne.2 h,beq_eq_false_iff_ne.2 (by omega)]
 have e1:∀ a b:Nat,((a:Int) != (b:Int))=(a != b):=fun a b=>by unfold bne;rw [e0]
 cases o1 with
 | none =>
  cases o2 with
  | none=>exact pbeside_raw _ p q 0 0 0 0 0 0 false false w hsz (hJJ V1) (hJJ V2)
  | some b=>exact pbeside_raw _ p q 0 0 0 b.g b.k b.i false true w hsz (hJJ V1) (hJJ V2)
 | some a =>
  cases o2 with
  | none=>exact pbeside_raw _ p q a.g a.k a.i 0 0 0 true false w hsz (hJJ V1) (hJJ V2)
  | some b =>
   have:=pbeside_raw _ p q a.g a.k a.i b.g b.k b.i true true w hsz (hJJ V1) (hJJ V2)
   rw [e0,e1] at this
   simpa using this
end PlanW
namespace ChkX
open Go Tab PlaceM PlanM OnS May ChkM
theorem low_in {a:Int} (h:0≤a∧a≤255):((SetM.low a:Nat):Int)=a:=by unfold SetM.low;omega
theorem has_bits {a q:Int}:SetM.has a q=true ↔ 0≤q∧q < 8∧(SetM.low a).testBit q.toNat=true:=by
 unfold SetM.has
 rw [Bool.and_eq_true,decide_eq_true_eq]
 constructor
 ·rintro ⟨h1,h2⟩
  refine ⟨h1,?_,h2⟩
  by_cases h8:q < 8
  ·exact h8
  ·rw [SetM.test_high _ _ (SetM.low_lt a) (by omega)] at h2;cases h2
 ·rintro ⟨h1,_,h2⟩;exact ⟨h1,h2⟩
theorem low_ne {m:Nat} (hm:m < 256):m ≠ 0 ↔ ∃ q:Int,SetM.has (m:Int) q=true:=by
 constructor
 ·intro h
  refine Classical.byContradiction fun hn=>h ?_
  refine Nat.eq_of_testBit_eq fun k=>?_
  rw [Nat.zero_testBit]
  cases ht:m.testBit k with
  | false=>rfl
  | true =>
   exfalso
   refine hn ⟨(k:Int),has_bits.2 ⟨by omega,?_,?_⟩⟩
   ·by_cases h8:k < 8
    ·omega
    ·rw [SetM.test_high _ _ hm (by omega)] at ht;cases ht
   ·rw [SetM.low_nat _ hm,Int.toNat_natCast];exact ht
 ·rintro ⟨q,hq⟩ rfl
  have:=(has_bits.1 hq).2.2
  rw [SetM.low_nat _ hm,Nat.zero_testBit] at this
  cases this
theorem and_ne {a b:Int} (hb:0≤b∧b≤255):bits .and .i64 a b ≠ 0 ↔ ∃ q:Int,SetM.has a q=true∧SetM.has b q=true:=by
 have e:bits .and .i64 a b=((SetM.low a &&& SetM.low b:Nat):Int):=by
  have:=SetM.and_low a (SetM.low b) (SetM.low_lt b)
  rwa [low_in hb] at this
 have hlt:SetM.low a &&& SetM.low b < 256:=Nat.lt_of_le_of_lt Nat.and_le_left (SetM.low_lt a)
 rw [e]
 have:((SetM.low a &&& SetM.low b:Nat):Int) ≠ 0 ↔ (SetM.low a &&& SetM.low b) ≠ 0:=by omega
 rw [this,low_ne hlt]
 constructor
 ·rintro ⟨q,hq⟩
  obtain ⟨h1,h2,h3⟩:=has_bits.1 hq
  rw [SetM.low_nat _ hlt,Nat.testBit_and,Bool.and_eq_true] at h3
  exact ⟨q,has_bits.2 ⟨h1,h2,h3.1⟩,has_bits.2 ⟨h1,h2,h3.2⟩⟩
 ·rintro ⟨q,h1,h2⟩
  obtain ⟨h3,h4,h5⟩:=has_bits.1 h1
  obtain ⟨_,_,h6⟩:=has_bits.1 h2
  refine ⟨q,has_bits.2 ⟨h3,h4,?_⟩⟩
  rw [SetM.low_nat _ hlt,Nat.testBit_and,h5,h6];rfl
theorem andNot_eq {a:Int} (ha:0≤a∧a≤255) {m:Nat} (hm:m < 256):bits .andNot .i64 a (m:Int)=((SetM.low a &&& (255 - m):Nat):Int):=by
 obtain ⟨k,rfl⟩:=Int.eq_ofNat_of_zero_le ha.1
 have hk:k < 256:=by omega
 have h1:=SetM.andNot_low (k:Int) m hm
 have e:bits .andNot .i64 (k:Int) (m:Int)=IntKind.i64.wrap (((BitVec.ofInt 64 (k:Int) &&& ~~~ BitVec.ofInt 64 (m:Int)).toNat:Nat):Int):=rfl
 have hlt:(BitVec.ofInt 64 (k:Int) &&& ~~~ BitVec.ofInt 64 (m:Int)).toNat < 256:=by
  rw [BitVec.toNat_and,SetM.toNat_ofNat k hk]
  exact Nat.lt_of_le_of_lt Nat.and_le_left hk
 rw [e,SetM.wrap_small _ hlt] at h1 ⊢
 rw [← h1,SetM.low_nat _ hlt]
theorem not_bit {m k:Nat} (hm:m < 256) (hk:k < 8):(255 - m).testBit k=!m.testBit k:=by
 have:∀ m:Fin 256,∀ k:Fin 8,(255 - m.val).testBit k.val=!m.val.testBit k.val:=by decide +kernel
 exact this ⟨m,hm⟩ ⟨k,hk⟩
theorem andNot_zero {a:Int} (ha:0≤a∧a≤255) {m:Nat} (hm:m < 256):bits .andNot .i64 a (m:Int)=0 ↔ ∀ q,SetM.has a q=true→SetM.has (m:Int) q=true:=by
 rw [andNot_eq ha hm]
 have hlt:SetM.low a &&& (255 - m) < 256:=Nat.lt_of_le_of_lt Nat.and_le_left (SetM.low_lt a)
 have h0:((SetM.low a &&& (255 - m):Nat):Int)=0 ↔ ¬ (SetM.low a &&& (255 - m)) ≠ 0:=by omega
 rw [h0,low_ne hlt]
 constructor
 ·intro h q hq
  obtain ⟨h1,h2,h3⟩:=has_bits.1 hq
  refine Classical.byContradiction fun hn=>h ⟨q,has_bits.2 ⟨h1,h2,?_⟩⟩
  rw [SetM.low_nat _ hlt,Nat.testBit_and,h3,not_bit hm (by omega),Bool.true_and]
  cases ht:m.testBit q.toNat with
  | false=>rfl
  | true=>exact absurd (has_bits.2 ⟨h1,h2,by rw [SetM.low_nat _ hm];exact ht⟩) hn
 ·rintro h ⟨q,hq⟩
  obtain ⟨h1,h2,h3⟩:=has_bits.1 hq
  rw [SetM.low_nat _ hlt,Nat.testBit_and,not_bit hm (by omega),Bool.and_eq_true] at h3
  have h4:=(has_bits.1 (h q (has_bits.2 ⟨h1,h2,h3.1⟩))).2.2
  rw [SetM.low_nat _ hm] at h4
  rw [h4] at h3
  cases h3.2
theorem allOn_iff {T:Tab} {s:Int} (hs:0≤s∧s≤255):allOn T s=true ↔ ∀ q,SetM.has s q=true→SetM.has (onS T:Nat) q=true:=by
 unfold allOn
 rw [beq_iff_eq,andNot_zero hs (show onS T < 256 from SetM.of_lt _)]
theorem inR_eq {T:Tab} {s:Int} (hs:0≤s∧s≤255):inR s (onS T:Nat)=allOn T s:=by
 unfold inR allOn
 rw [SetM.and_255,andNot_eq hs (show onS T < 256 from SetM.of_lt _),SetM.low_nat _ (Nat.lt_of_le_of_lt Nat.and_le_left (SetM.low_lt s))]
theorem has_of {l:List Int} {q:Int}:SetM.has ((SetM.of l:Nat):Int) q=true ↔ 0≤q∧q < 8∧q ∈ l:=by
 rw [has_bits,SetM.low_nat _ (SetM.of_lt _),SetM.of_test,decide_eq_true_eq]
 constructor
 ·rintro ⟨h1,h2,h3,_⟩;exact ⟨h1,h2,by rwa [Int.toNat_of_nonneg h1] at h3⟩
 ·rintro ⟨h1,h2,h3⟩;exact ⟨h1,h2,by rwa [Int.toNat_of_nonneg h1],by omega⟩
theorem mem_onTo {x:Int}:∀ {i:Nat} {l:List Ph},x ∈ onTo i l ↔ ∃ j u,l[j]?=some u∧u.on=true∧x=((i+j:Nat):Int)
 | i,[]=>by simp [onTo]
 | i,p :: l=>by
  rw [onTo,List.mem_append,mem_onTo (i:=i+1) (l:=l)]
  constructor
  ·rintro (h | ⟨j,u,h1,h2,h3⟩)
   ·by_cases hp:p.on
    ·rw [if_pos hp] at h
     exact ⟨0,p,rfl,hp,by simpa using h⟩
    ·rw [if_neg hp] at h;cases h
   ·exact ⟨j+1,u,by simpa using h1,h2,by rw [h3];congr 1;omega⟩
  ·rintro ⟨j,u,h1,h2,h3⟩
   cases j with
   | zero =>
    obtain rfl:p=u:=by simpa using h1
    exact .inl (by rw [if_pos h2];simpa using h3)
   | succ j=>exact .inr ⟨j,u,by simpa using h1,h2,by rw [h3];congr 1;omega⟩
theorem has_on {T:Tab} (h8:T.phases.length=8) {p:Int} (h0:0≤p) (hp:p < 8):SetM.has (onS T:Nat) p=(phAt T p).on:=by
 obtain ⟨k,rfl⟩:=Int.eq_ofNat_of_zero_le h0
 have hk:k < T.phases.length:=by omega
 have e:phAt T k=T.phases[k]:=by unfold phAt;rw [Int.toNat_natCast,List.getD_eq_getElem?_getD,List.getElem?_eq_getElem hk];rfl
 rw [Bool.eq_iff_iff]
 unfold onS onL
 rw [has_of,mem_onTo,e]
 constructor
 ·rintro ⟨_,_,j,u,h1,h2,h3⟩
  obtain rfl:k=j:=by omega
  rw [List.getElem?_eq_getElem hk] at h1
  obtain rfl:=Option.some.inj h1
  exact h2
 ·intro h
  exact ⟨h0,hp,k,_,List.getElem?_eq_getElem hk,h,by simp⟩
theorem mem_ons {T:Tab} {q:Int}:q ∈ ons T ↔ SetM.has (onS T:Nat) q=true:=SetM.mem_list _ _
theorem allIn_iff {m:Int} {l:List Int}:allIn m l=true ↔ ∀ x ∈ l,0≤x∧x≤m:=by
 unfold allIn inB
 rw [List.all_eq_true]
 constructor
 ·intro h x hx;have:=h x hx;simpa using this
 ·intro h x hx;have:=h x hx;simpa using this
structure InR (T:Tab):Prop where
 ph:∀ u ∈ T.phases,Ph.may u=true
 gr:∀ g ∈ T.groups,groupMay g=true
 cf:∀ x ∈ T.conflict,0≤x∧x≤255
 dt:∀ d ∈ T.dets,Det.may d=true
 rl:∀ r ∈ T.rails,Rl.may r=true
 bs:∀ b ∈ T.buses,Bs.may b=true
theorem in_ranges {T:Tab} (h:tabMay T=true):InR T:=by
 unfold tabMay listMay at h
 simp only [Bool.and_eq_true,List.all_eq_true] at h
 obtain ⟨⟨_,h1⟩,⟨_,h2⟩,h3,⟨_,h4⟩,⟨_,h5⟩,⟨_,h6⟩,_⟩:=h
 exact ⟨h1,h2,allIn_iff.1 h3,h4,h5,h6⟩
theorem lt_dec (a b:Int):decide (a < b)=!decide (b≤a):=by rw [Bool.eq_iff_iff];simp
theorem ph_eq {u:Ph} (h:Ph.may u=true):phOk u=!phBad u:=by
 unfold Ph.may at h
 rw [Bool.and_eq_true,allIn_iff,allIn_iff] at h
 have hw:=h.1 u.walk (by simp)
 have hb:=h.1 u.blinks (by simp)
 obtain ⟨on,min,gap,max,top,step,yellow,red,walk,blinks,recall,lock,rest⟩:=u
 clear h
 unfold phOk phBad
 simp only at *
 have e0:(walk == 0)=!decide (0 < walk):=by rw [Bool.eq_iff_iff];simp;omega
 have e1:(blinks == 0)=!decide (0 < blinks):=by rw [Bool.eq_iff_iff];simp;omega
 rw [e0,e1,lt_dec min 1,lt_dec yellow 10,lt_dec max min,lt_dec top max,lt_dec step 1]
 have e2:(recall != 3)=!(recall == 3):=rfl
 rw [e2]
 generalize decide (0 < walk)=b0
 generalize decide (0 < blinks)=b1
 generalize decide (1≤min)=b2
 generalize decide (10≤yellow)=b3
 generalize decide (min≤max)=b4
 generalize decide (1≤step)=b5
 generalize (recall == 3)=b6
 by_cases h4:max≤top
 ·have e3:(top == max)=!decide (max < top):=by rw [Bool.eq_iff_iff];simp;omega
  rw [e3,decide_eq_true h4]
  generalize decide (max < top)=b7
  revert b0 b1 b2 b3 b4 b5 b6 b7
  decide
 ·rw [decide_eq_false h4]
  generalize decide (max < top)=b7
  generalize (top == max)=b8
  revert b0 b1 b2 b3 b4 b5 b6 b7 b8
  decide
theorem ph_at {T:Tab} (h:InR T) (h8:T.phases.length=8) {p:Int} (h0:0≤p) (hp:p < 8):Ph.may (phAt T p)=true:=by
 refine h.ph _ ?_
 unfold phAt
 rw [List.getD_eq_getElem?_getD,List.getElem?_eq_getElem (show p.toNat < T.phases.length by omega)]
 exact List.getElem_mem _
theorem conf_eq {T:Tab} {p:Int} (hp:p ∈ ons T):confOk T p=!confBad T p:=by
 unfold confOk
 congr 1
 rw [Bool.eq_iff_iff]
 unfold confBad
 rw [List.any_eq_true,Bool.or_eq_true,List.any_eq_true]
 constructor
 ·rintro ⟨q,hq,h⟩
  unfold confR at h
  rw [Bool.or_eq_true,Bool.and_eq_true,beq_iff_eq] at h
  rcases h with ⟨h1,rfl⟩ | h
  ·exact .inl h1
  ·exact .inr ⟨q,hq,h⟩
 ·rintro (h | ⟨q,hq,h⟩)
  ·exact ⟨p,hp,by unfold confR;rw [h];simp⟩
  ·refine ⟨q,hq,?_⟩
   unfold confR
   rw [h];simp
theorem det_eq {T:Tab} (h8:T.phases.length=8) {d:Det} (h0:0≤d.phase) (hp:d.phase < 8):detBad T d=detR T d:=by
 unfold detBad detR;rw [has_on h8 h0 hp]
theorem mem_yel {T:Tab} {q:Int}:SetM.has (yellows T:Nat) q=true ↔ q ∈ ons T∧flAt T q=2:=by
 unfold yellows
 rw [has_of,List.mem_filter]
 unfold yel
 rw [beq_iff_eq]
 constructor
 ·rintro ⟨_,_,h⟩;exact h
 ·intro h;have:=SetM.list_bd _ _ h.1;exact ⟨this.1,this.2,h⟩
theorem flash_eq {T:Tab} {p:Int}:flashOk T p=!flashBad T p:=by
 have hy:0≤((yellows T:Nat):Int)∧((yellows T:Nat):Int)≤255:=by have:yellows T < 256:=SetM.of_lt _;omega
 have e:(bits .and .i64 (cfAt T p) (yellows T:Nat) != 0)=(ons T).any fun q=>flAt T q == 2 && SetM.has (cfAt T p) q:=by
  rw [Bool.eq_iff_iff,bne_iff_ne,and_ne hy,List.any_eq_true]
  constructor
  ·rintro ⟨q,h1,h2⟩;obtain ⟨h3,h4⟩:=mem_yel.1 h2;exact ⟨q,h3,by rw [h4,h1];rfl⟩
  ·rintro ⟨q,h1,h2⟩
   rw [Bool.and_eq_true,beq_iff_eq] at h2
   exact ⟨q,h2.2,mem_yel.2 ⟨h1,h2.1⟩⟩
 unfold flashOk flashBad
 rw [e]
 unfold flashR
 by_cases h0:flAt T p=0
 ·rw [h0];rfl
 by_cases h2:flAt T p=2
 ·rw [h2];simp
 ·have e2:(flAt T p == 2)=false:=beq_eq_false_iff_ne.2 h2
  have e0:(flAt T p == 0)=false:=beq_eq_false_iff_ne.2 h0
  have e1:(flAt T p != 0)=true:=bne_iff_ne.2 h0
  rw [e0,e1]
  simp only [e2,Bool.false_and]
  simp
theorem bus_eq {T:Tab} {b:Bs} (h:Bs.may b=true):busBad T b=busR T b:=by
 unfold Bs.may at h
 rw [Bool.and_eq_true,allIn_iff] at h
 unfold busBad busR
 rw [inR_eq (h.1 b.set (by simp))]
theorem clash_eq {T:Tab} (h:InR T) (hc:T.conflict.length=8) {s:Int} (hs:0≤s∧s≤255):clashC T s=clashR T s s:=by
 rw [Bool.eq_iff_iff]
 unfold clashC clashR
 rw [List.any_eq_true,List.any_eq_true]
 constructor
 ·rintro ⟨p,hp,h1⟩
  rw [bne_iff_ne,and_ne hs] at h1
  obtain ⟨q,h2,h3⟩:=h1
  exact ⟨p,hp,List.any_eq_true.2 ⟨q,(SetM.mem_list _ _).2 h3,by rw [h2];rfl⟩⟩
 ·rintro ⟨p,hp,h1⟩
  obtain ⟨q,hq,h2⟩:=List.any_eq_true.1 h1
  rw [Bool.or_eq_true] at h2
  rcases h2 with h2 | h2
  ·exact ⟨p,hp,bne_iff_ne.2 ((and_ne hs).2 ⟨q,h2,(SetM.mem_list _ _).1 hq⟩)⟩
  ·exact ⟨q,hq,bne_iff_ne.2 ((and_ne hs).2 ⟨p,h2,(SetM.mem_list _ _).1 hp⟩)⟩
theorem beside_symm (T:Tab) (p q:Int):beside T p q=beside T q p:=by
 unfold beside
 cases where_ T p with
 | none=>cases where_ T q <;> rfl
 | some a =>
  cases where_ T q with
  | none=>rfl
  | some b =>
   show (a.g == b.g && a.k != b.k)=(b.g == a.g && b.k != a.k)
   rw [Bool.beq_comm,bne_comm]
theorem list_nodup (s:Int):(SetM.list s).Nodup:=by
 unfold SetM.list SetM.upto List.Nodup
 rw [List.pairwise_map]
 exact (List.nodup_range.sublist List.filter_sublist).imp (fun h e=>h (Int.ofNat.inj e))
theorem abreast_eq {T:Tab} {s:Int}:abreast T s=pairs T (SetM.list s):=by
 have hn:=list_nodup s
 have hm:∀ p q,q ∈ SetM.list (SetM.withoutN s p:Nat) ↔ q ∈ SetM.list s∧q ≠ p:=by
  intro p q
  rw [SetM.mem_list,SetM.mem_list,SetM.has_without,Bool.and_eq_true]
  simp
 rw [Bool.eq_iff_iff]
 unfold abreast pairs
 simp only [List.all_eq_true,List.mem_range,hm]
 generalize SetM.list s=L at *
 constructor
 ·intro h i hi k hk
  have e1:L.getD i 0=L[i]:=by rw [List.getD_eq_getElem?_getD,List.getElem?_eq_getElem hi];rfl
  have e2:L.getD k 0=L[k]'(by omega):=by rw [List.getD_eq_getElem?_getD,List.getElem?_eq_getElem (by omega)];rfl
  rw [e1,e2]
  refine h _ (List.getElem_mem _) _ ⟨List.getElem_mem _,fun e=>?_⟩
  have:=List.pairwise_iff_getElem.1 hn k i (by omega) hi hk
  exact this e
 ·rintro h p hp q ⟨hq,hne⟩
  obtain ⟨i,hi,rfl⟩:=List.getElem_of_mem hp
  obtain ⟨k,hk,rfl⟩:=List.getElem_of_mem hq
  have e:∀ (j:Nat) (hj:j < L.length),L.getD j 0=L[j]:=fun j hj=>by rw [List.getD_eq_getElem?_getD,List.getElem?_eq_getElem hj];rfl
  rcases Nat.lt_trichotomy k i with h1 | h1 | h1
  ·have:=h i hi k h1;rwa [e i hi,e k hk] at this
  ·subst h1;exact absurd rfl hne
  ·have:=h k hk i h1;rw [e i hi,e k hk] at this;rw [beside_symm];exact this
theorem or_in {a b:Int} (ha:0≤a∧a≤255) (hb:0≤b∧b≤255):0≤bits .or .i64 a b∧bits .or .i64 a b≤255:=by
 obtain ⟨m,rfl⟩:=Int.eq_ofNat_of_zero_le ha.1
 obtain ⟨n,rfl⟩:=Int.eq_ofNat_of_zero_le hb.1
 rw [RefS.or_small m n (by omega) (by omega)]
 have:=Nat.or_lt_two_pow (n:=8) (show m < 2 ^ 8 by omega) (show n < 2 ^ 8 by omega)
 omega
theorem exit_eq {T:Tab} {s:Int} (hs:0≤s∧s≤255):exitR T s=(s != 0 && abreast T s):=by
 unfold exitR
 rw [abreast_eq,Bool.and_comm]
 congr 1
 rw [Bool.eq_iff_iff,decide_eq_true_eq,bne_iff_ne,List.length_pos_iff_exists_mem]
 have:=low_ne (SetM.low_lt s)
 rw [low_in hs] at this
 constructor
 ·rintro ⟨q,hq⟩ rfl
  rw [SetM.mem_list] at hq
  exact (this.2 ⟨q,hq⟩) rfl
 ·intro h
  obtain ⟨q,hq⟩:=this.1 (fun e=>h (by rw [← low_in hs,e];rfl))
  exact ⟨q,(SetM.mem_list _ _).2 hq⟩
theorem rail_eq {T:Tab} (h:InR T) (hc:T.conflict.length=8) {r:Rl} (hr:Rl.may r=true):railOk T r=!railBad T r:=by
 unfold Rl.may at hr
 rw [Bool.and_eq_true,Bool.and_eq_true,allIn_iff,allIn_iff,allIn_iff] at hr
 obtain ⟨h1,h2,h3⟩:=hr
 have hb:=h1 r.bars (by simp)
 have hcl:=h1 r.clear (by simp)
 have hd:=h1 r.dwell (by simp)
 have he:=h1 r.exit (by simp)
 have hho:=h2 r.hold (by simp)
 have hmo:=h2 r.most (by simp)
 have ho:0≤or4 r∧or4 r≤255:=or_in (or_in (or_in hb hcl) hd) he
 unfold railOk railBad timesBad
 rw [inR_eq ho,← clash_eq h hc hcl,← clash_eq h hc hd,← clash_eq h hc he,exit_eq he]
 generalize allOn T (or4 r)=a
 generalize clashC T r.clear=c1
 generalize clashC T r.dwell=c2
 generalize clashC T r.exit=c3
 generalize abreast T r.exit=b
 generalize bits .and .i64 r.dwell r.bars=x
 obtain ⟨bars,clear,dwell,exit,delay,green,foot,hold,stay,most,limit⟩:=r
 simp only at *
 clear h1 h2 h3 ho
 have e0:(hold == 0)=!decide (0 < hold):=by rw [Bool.eq_iff_iff];simp;omega
 have e1:decide (0 < most)=!(most == 0):=by rw [Bool.eq_iff_iff];simp;omega
 rw [e0,e1,lt_dec green 1,lt_dec stay 1,lt_dec most stay,lt_dec delay limit]
 simp only [bne]
 generalize decide (0 < hold)=g0
 generalize (clear == 0)=g1
 generalize decide (1≤green)=g2
 generalize decide (1≤stay)=g3
 generalize (most == 0)=g4
 generalize decide (stay≤most)=g5
 generalize decide (limit≤delay)=g6
 generalize (dwell == 0)=g7
 generalize (exit == 0)=g8
 generalize (x == 0)=g9
 have e2:(g0 == !g1)=((!g0) == g1):=by revert g0 g1;decide
 rw [e2]
 generalize ((!g0) == g1)=k
 simp only [Bool.not_or,Bool.not_and,Bool.not_not]
 ac_rfl
end ChkX
namespace Up
open Go Go.RowKit
def noDefer (l:List Oper):Bool:=l.all fun o=>match o.op with | .defer _=>false | _=>true
theorem not_defer {l:List Oper} (h:noDefer l=true) {o:Oper} (ho:o ∈ l):∀ c,o.op ≠ .defer c:=by
 intro c e
 have:=List.all_eq_true.1 h o ho
 rw [e] at this
 cases this
section
variable {P:Program} {l n:Nat} {Q:Exit→Act→World→Prop}
theorem op_up {o:Oper} {a:Act} {w:World} {K K':Act→World→Prop} (hn:∀ a w,K a w→K' a w) (hd:∀ c,o.op ≠ .defer c) (h:o.wp P a w K Q):o.wpIn (Fence.wide.inRound l) n P a w K' Q:=by
 refine ⟨fun _ _=>trivial,?_⟩
 rw [show (Fence.wide.inRound l).round=some l from rfl,Oper.semAt_some l _ _ hd]
 unfold Oper.wp at h
 generalize (execOp a.eval o).run P w=r at h
 cases r with
 | ok nx w' =>
  cases nx with
  | value v=>exact hn _ _ h
  | skip=>exact hn _ _ h
  | defer d=>exact hn _ _ h
  | enter f args =>
   refine ⟨fun h=>(by cases h),CallsIn.inRound l (callsIn_wide.2 (Calls.mono h ?_))⟩
   intro e w'' he
   cases e with
   | returned v=>exact hn _ _ he
   | panicked c=>exact he
   | outgrown=>exact he
  | row row args=>exact ⟨fun h=>(by cases h),fun c cs _=>let ⟨v,w',r,s⟩:=h c cs;⟨v,w',hn _ _ r,stepsIn_wide.2 s⟩⟩
  | _=>exact h.elim
 | halt e w' =>
  cases e with
  | panic v=>exact h
  | _=>exact h.elim
theorem list_up (hQ:¬ LetsOut Q) {ops:Array Oper}:∀ (m:List Oper) (a:Act) (w:World),noDefer m=true→wpList P ops Q m a w→wpListIn (Fence.wide.inRound l) n P ops Q m a w
 | [],a,w,_,h=>h
 | o :: rest,a,w,hd,h=>by
  have hr:noDefer rest=true:=by unfold noDefer at hd ⊢;rw [List.all_cons,Bool.and_eq_true] at hd;exact hd.2
  unfold wpList at h
  unfold wpListIn
  split at h
  ·rename_i hw
   rw [if_pos hw]
   rcases h with h | h
   ·exact op_up (fun a w h=>list_up hQ rest a w hr h) (not_defer hd (List.mem_cons_self ..)) h
   ·exact absurd h.2 hQ
  ·rename_i hw
   rw [if_neg hw]
   exact ⟨fun _ _=>trivial,list_up hQ rest _ _ hr h⟩
theorem any_up (hQ:¬ LetsOut Q) {md:Region.Mode} {ops:Array Oper} (hd:noDefer ops.toList=true):∀ (fuel:Nat) (listed:Array Bool) (a:Act) (w:World),wpAny P md ops Q fuel listed a w→wpAnyIn (Fence.wide.inRound l) n P md ops Q fuel listed a w
 | 0,_,_,_,h=>h
 | fuel+1,listed,a,w,h=>by
  refine ⟨h.1,fun i hi=>?_⟩
  have h1:=h.2 i hi
  unfold wpOp at h1
  unfold wpOpIn
  cases ho:ops[i]? with
  | none=>rw [ho] at h1;exact any_up hQ hd fuel _ _ _ h1
  | some o =>
   rw [ho] at h1
   have hm:o ∈ ops.toList:=List.mem_of_getElem? (by rw [Array.getElem?_toList];exact ho)
   dsimp only at h1 ⊢
   split at h1
   ·rename_i hw
    rw [if_pos hw]
    rcases h1 with h1 | h1
    ·exact op_up (fun a w h=>any_up hQ hd fuel _ a w h) (not_defer hd hm) h1
    ·exact absurd h1.2 hQ
   ·rename_i hw
    rw [if_neg hw]
    exact ⟨fun _ _=>trivial,any_up hQ hd fuel _ _ _ h1⟩
theorem region_list {id:Nat} {m:List Oper} {a:Act} {w:World} (hQ:¬ LetsOut Q) (hd:noDefer m=true) (h:wpList P m.toArray Q m a w):(Code.region id m.toArray false).wpIn (Fence.wide.inRound l) n P Q a w :=
 wpIn_region_lit (list_up hQ m a w hd h)
theorem region_ph {id:Nat} {a:Act} {w:World} {m:List Oper} (D:Nat→World→Prop) (cs:List Nat) (hQ:¬ LetsOut Q) (hd:noDefer m=true) (hm:P.follows .mixedOrders=true) (hB:Ph.okB .any m.toArray cs=true) (hD:D 0 w.drew)
  (h:Pw.W P m.toArray D cs (fun a'=>∀ w',D cs.length w'→Q .normal a' w') 0 m a):(Code.region id m.toArray true).wpIn (Fence.wide.inRound l) n P Q a w:=by
 have h:=h.out
 simp only [Ph.okB,Bool.and_eq_true] at hB
 obtain ⟨⟨hs,hc⟩,hlex⟩:=hB
 have h1:=Ph.wpAnyP_lex (md:=.any) hs hc m 0 (Array.replicate m.toArray.size false) a (by simp) (by simpa using hlex) h
 refine wpIn_region_any hm (any_up hQ (by simpa using hd) _ _ _ _ ?_)
 refine Ph.wpAny_of_ph (D:=D) (cs:=cs) (Q:=fun L a=>(cs.all fun c=>L.getD c false)=true∧∀ w',D cs.length w'→Q .normal a w') (fun L a w ⟨p,hp,hat,hd⟩ ⟨hall,hq⟩=>?_) _ _ _ _ (by simp) ⟨0,Nat.zero_le _,fun q c _=>by rw [getD_replicate_false];simp,hD⟩ (by simpa using h1)
 have hpe:p=cs.length:=by
  rcases Nat.lt_or_ge p cs.length with h2 | h2
  ·have h3:=hat p _ (List.getElem?_eq_getElem h2)
   have h4:=List.all_eq_true.1 hall _ (List.getElem_mem h2)
   rw [h4] at h3
   have:=of_decide_eq_true h3.symm
   omega
  ·omega
 subst hpe
 exact hq w hd
end
end Up
namespace Each
open Zip
open Go.RowKit Go.Shelf
open Go.Proofs.YtjolhoilcibdfaaGreat
attribute [local go_sem] Oper.semAt_some
def Kept (B:Nat) (W W':World):Prop:=W'.heap[B]?=W.heap[B]?
theorem Kept.refl (B:Nat) (W:World):Kept B W W:=rfl
theorem Kept.trans {B:Nat} {A C D:World} (h:Kept B A C) (k:Kept B C D):Kept B A D:=Eq.trans k h
theorem Kept.cell {B o:Nat} {A C:World} (h:Kept B A C):C.cell? ⟨B,o,none⟩=A.cell? ⟨B,o,none⟩:=by
 simp only [World.cell?,show C.heap[B]?=A.heap[B]? from h]
theorem Kept.below {n₀ B:Nat} {A C:World} (h:Below n₀ A C) (hB:B < n₀):Kept B A C:=h.block B hB
theorem Kept.setCell {B b o:Nat} (W:World) (v:Value) (h:B ≠ b):Kept B W (W.setCell ⟨b,o,none⟩ v):=Below.heap_setCell _ _ _ B h
theorem kept_b {B:Nat} {w:World} (hB:B < w.heap.size) (W:World) (l:Nat) (o o':Obj) (hl:w.heap.size≤l) (_:W.heap[l]?=some o) (_:o.isCells=false) (_:o.isWalk=false):Kept B W (W.putObj l o') :=
 World.putObj_heap_other (by omega)
theorem each1_in (n:Nat) (hn:1≤n) (l Bs:Nat) (s:Int) (J Jx:List Int→World→Prop)
  (hY:∀ pre (x:Int) W,J pre W→pre++[x] <+: SetM.list s→YieldAt Fence.wide (n - 1) Tryz.prog l #[.int .i64 x] W fun e W' =>
   (e=.returned (.bool true)∧J (pre++[x]) W'∧Kept Bs W W')∨(e=.returned (.bool false)∧Jx (pre++[x]) W'))
  (W:World) (hc:W.cell? ⟨Bs,0,none⟩=some (.int .i64 s)) (h0:J [] W) :
  CallsIn Fence.wide n Tryz.prog 127 #[.func (.yield l) #[] #[],.pointer (some ⟨Bs,0,none⟩)] W fun e W'=>(∃ v,e=.returned v) ∧
   ((∃ ys,ys=SetM.list s∧J ys W')∨(∃ pre,pre <+: SetM.list s∧Jx pre W')):=by
 refine callsIn_of_wp Tryz.func127 rfl trivial ?_ rfl
 simp only [Tryz.ntmps127,List.size_toArray,List.length_cons,List.length_nil,Nat.reduceAdd,Nat.reduceSub,Array.replicate_succ,Array.replicate_zero,List.push_toArray,List.append_toArray,List.nil_append,List.cons_append]
 gi_wp2
 gi_loopw [4] (fun i wr=>∃ k:Nat,k≤8∧i=.int .i64 k∧J (SetM.upto s k) wr∧Kept Bs W wr)
  (fun i _=>8 - (intOf i).toNat)
 case atStart=>exact ⟨0,Nat.zero_le _,rfl,h0,Kept.refl _ _⟩
 case round =>
  obtain ⟨k,hk,rfl,hJs,hnx⟩:=hrel
  have hcx:=(hnx.cell (o:=0)).trans hc
  by_cases hlt:k < 8
  ·by_cases hh:SetM.has s k=true
   ·obtain ⟨fn,tmps,assign,body,hy,hR⟩:=hY _ (k:Int) wr hJs (by rw [← SetM.upto_hit s k hh];exact SetM.upto_list s (k+1) (by omega))
    have Hs:=hJJ (SetM.upto_hit s k hh)
    have Hp:=hJJ (SetM.upto_list s (k+1) (by omega))
    gi_wp2_with (refine ⟨trivial,?_⟩;gi_at_call 95;refine (callsIn_wide.2 (SetP.has_any _ _ _)).mono ?_;rintro e w' ⟨rfl,rfl⟩;rw [hh])
    refine hR.mono ?_
    rintro e W3 (⟨rfl,hJ3,hk3⟩ | ⟨rfl,hJx3⟩)
    ·gi_wp2
     go_roundw
     case rel=>exact ⟨k+1,by omega,by go_num,by rw [Hs.out];exact hJ3,hnx.trans hk3⟩
     case measure=>simp [intOf];omega
    ·gi_wp2
     refine bodyPost_ret (results_none rfl _ _ _) rfl ?_
     exact ⟨⟨_,rfl⟩,.inr ⟨_,by rw [← Hs.out];exact Hp.out,hJx3⟩⟩
   ·have hh':SetM.has s k=false:=by simpa using hh
    have Hs:=hJJ (SetM.upto_miss s k hh')
    clear hh
    gi_wp2_with (refine ⟨trivial,?_⟩;gi_at_call 95;refine (callsIn_wide.2 (SetP.has_any _ _ _)).mono ?_;rintro e w' ⟨rfl,rfl⟩;rw [hh'])
    refine ⟨fun _ h=>(by cases h),?_⟩
    gi_wp2
    go_roundw
    case rel=>exact ⟨k+1,by omega,by go_num,by rw [Hs.out];exact hJs,hnx⟩
    case measure=>simp [intOf];omega
  ·obtain rfl:k=8:=by omega
   gi_wp2
   go_end0
   exact ⟨⟨_,rfl⟩,.inl ⟨_,rfl,hJs⟩⟩
theorem each_in (n:Nat) (s:Int) (w:World) :
  CallsIn Fence.wide n Tryz.prog 104 #[.int .i64 s] w fun e w'=>e=.returned (.func (.func 127) #[] #[.pointer (some ⟨w.heap.size,0,none⟩)])∧w'=w.alloc (.cells #[.int .i64 s] 3):=by
 refine callsIn_of_wp Tryz.func104 rfl trivial ?_ rfl
 simp only [Tryz.ntmps104,List.size_toArray,List.length_cons,List.length_nil,Nat.reduceAdd,Nat.reduceSub,Array.replicate_succ,Array.replicate_zero,List.push_toArray,List.append_toArray,List.nil_append,List.cons_append]
 gi_wp2
 go_ret
 exact ⟨rfl,rfl⟩
abbrev Mem (s:Int):={ x:Int // x ∈ SetM.list s }
theorem each_mem (n:Nat) (hn:1≤n) (Bs:Nat) (s:Int) (w:World) (hBs:Bs < w.heap.size) (hc:w.cell? ⟨Bs,0,none⟩=some (.int .i64 s)) :
  SeqStopsK Fence.wide n Tryz.prog 127 #[.pointer (some ⟨Bs,0,none⟩)] (fun x:Mem s=>#[Value.int .i64 x.1]) (Kept Bs) (fun ys=>ys.map Subtype.val=SetM.list s) (fun pre=>pre.map Subtype.val <+: SetM.list s) (SetM.list s).length w:=fun l J Jx W hW _ _ hY h0=>by
 refine (each1_in n hn l Bs s (fun pre W=>∃ m:List (Mem s),m.map Subtype.val=pre∧J m W) (fun pre W=>∃ m:List (Mem s),m.map Subtype.val=pre∧Jx m W) ?_ W ((hW.cell (p:=⟨Bs,0,none⟩) hBs).trans hc) ⟨[],rfl,h0⟩).mono ?_
 ·rintro pre x W1 ⟨m,rfl,hJ⟩ hp
  have hx:x ∈ SetM.list s:=hp.subset (by simp)
  have hl:m.length < (SetM.list s).length:=by have:=hp.length_le;simp at this;omega
  obtain ⟨fn,tmps,assign,body,hy,hR⟩:=hY m ⟨x,hx⟩ W1 hJ hl
  refine ⟨fn,tmps,assign,body,hy,hR.mono ?_⟩
  rintro e W' (⟨h1,h2,h3⟩ | ⟨h1,h2⟩)
  ·exact .inl ⟨h1,⟨_,by simp,h2⟩,h3⟩
  ·exact .inr ⟨h1,⟨_,by simp,h2⟩⟩
 ·rintro e W' ⟨hv,h⟩
  refine ⟨hv,?_⟩
  rcases h with ⟨ys,rfl,m,hm,hJ⟩ | ⟨pre,hp,m,rfl,hJ⟩
  ·exact .inl ⟨m,hm,hJ⟩
  ·exact .inr ⟨m,hp,hJ⟩
end Each
namespace Search
open Go.RowKit Go.Shelf
open Each
def post (R:Nat) (o:Int→Obj) (bad:Int→Bool) (x:Int) (W:World):Exit→Act→World→Prop
 | .normal,_,W'=>bad x=false∧Below W.heap.size W W'
 | .ret,_,W'=>bad x=true∧W.grownBy W' (some R)∧W'.heap[R]?=some (o x)
 | _,_,_=>False
theorem keeps_below {B:Nat} {W W':World} (h:Below W.heap.size W W'):KeepsFrom B W W':=⟨h.size,fun k o _ hk _=>(h.block k (Array.getElem?_eq_some_iff.1 hk).1).trans hk⟩
theorem grown_of_below {W W':World} {row:Option Nat} (h:Below W.heap.size W W'):W.grownBy W' row:=⟨h.os,h.tape,h.output,h.size,fun j hj _=>h.block j hj⟩
theorem grown_trans {A B C:World} {R:Nat} (h:A.grownBy B (some R)) (k:B.grownBy C (some R)):A.grownBy C (some R) :=
 ⟨k.os.trans h.os,k.tape.trans h.tape,k.output.trans h.output,Nat.le_trans h.size k.size,fun j hj hne=>(k.block j (Nat.lt_of_lt_of_le hj h.size) hne).trans (h.block j hj hne)⟩
theorem grown_from {A B C:World} {R:Nat} {row:Option Nat} (h:A.grownBy B (some R)) (k:B.grownBy C row) (hr:∀ r,row=some r→A.heap.size≤r):A.grownBy C (some R) :=
 ⟨k.os.trans h.os,k.tape.trans h.tape,k.output.trans h.output,Nat.le_trans h.size k.size,fun j hj hne=>(k.block j (Nat.lt_of_lt_of_le hj h.size) (fun e=>by have:=hr j e.symm;omega)).trans (h.block j hj hne)⟩
theorem find_pre {f:Int→Bool} {l p:List Int} {x:Int} (hp:p++[x] <+: l) (hn:∀ y ∈ p,f y=false) (hx:f x=true):l.find? f=some x:=by
 obtain ⟨t,rfl⟩:=hp
 rw [List.append_assoc,List.find?_append,List.find?_eq_none.2 (fun y hy=>by simp [hn y hy])]
 simp [hx]
theorem search {n:Nat} {g:Operand} {ps:Array Tmp} {assign body:Code} {Q:Exit→Act→World→Prop} {a:Act} {W0:World} (bad:Int→Bool) (o:Int→Obj) (Bs R:Nat) (s:Int)
  (hn:3≤n) (hg:a.eval g=.func (.func 127) #[] #[.pointer (some ⟨Bs,0,none⟩)]) (hps:ps.size=1) (hBs:Bs < W0.heap.size) (hR:R < W0.heap.size) (hc:W0.cell? ⟨Bs,0,none⟩=some (.int .i64 s)) (a₁:Int→Act)
  (hassign:∀ (l:Nat) (x:Int) (W:World) (K:Act→World→Prop),K (a₁ x) W→assign.wpIn (Fence.wide.inRound l) (n - 1 - 1) Tryz.prog (Exit.then K (fun _ _ _=>False)) { tmps:=(ps.zip #[Value.int .i64 x]).foldl (fun t (p,v)=>t.setIfInBounds p v) a.tmps,defers:=[] } W)
  (hbody:∀ (l:Nat) (x:Int) (W:World),x ∈ SetM.list s→Below W0.heap.size W0 W→body.wpIn (Fence.wide.inRound l) (n - 1 - 1) Tryz.prog (post R o bad x W) (a₁ x) W)
  (hdone:∀ (D:Nat) (W:World),W0.heap.size≤D→(∀ x ∈ SetM.list s,bad x=false)→Below W0.heap.size W0 W→W.heap[D]?=some (.deferred (some []))→Q .normal { a with defers:={ target:=.collected D,args:=#[] } :: a.defers } W)
  (hstop:∀ (D:Nat) (x:Int) (W:World),W0.heap.size≤D→(SetM.list s).find? bad=some x→bad x=true→W0.grownBy W (some R)→W.heap[R]?=some (o x)→W.heap[D]?=some (.deferred (some []))→Code.ret.wpIn Fence.wide n Tryz.prog Q { a with defers:={ target:=.collected D,args:=#[] } :: a.defers } W) :
  (Code.rangeFunc g ps assign body).wpIn Fence.wide n Tryz.prog Q a W0:=by
 refine wpIn_rangeFunc_ownG rfl (by omega) (gf:=127) (lb:=#[.pointer (some ⟨Bs,0,none⟩)]) hg trivial (enters_of Tryz.func127 (by kernel_rfl) rfl)
  (each_mem _ (by omega) Bs s W0 hBs hc) Kept.trans (kept_b hBs) (Below.refl _ _) (fun _=>hps.symm)
  (fun pre W=>(∀ y ∈ pre,bad y.1=false)∧Below W0.heap.size W0 W)
  (fun c pre W=>(c=.ret∧∃ p0 x,pre=p0++[x]∧(∀ y ∈ p0,bad y.1=false)∧bad x.1=true∧W.heap[R]?=some (o x.1))∧W0.grownBy W (some R))
  (OwnFrom.and (ownFrom_pure _ _) (ownFrom_below (Nat.le_refl _) (Nat.le_refl _)))
  ?own ⟨by simp,Below.refl _ _⟩ (fun x=>a₁ x.1) (fun l x W K h=>hassign l x.1 W K h) ?body ?done ?stop
 case own =>
  rintro c pre W W' row ⟨⟨h1,p0,x,h2,h3,h4,h5⟩,hg⟩ hgr hr
  have hlt:R < W.heap.size:=(Array.getElem?_eq_some_iff.1 h5).1
  exact ⟨⟨h1,p0,x,h2,h3,h4,(hgr.block R hlt (fun e=>by have:=(hr R e.symm).1;omega)).trans h5⟩,grown_from hg hgr (fun r e=>(hr r e).1)⟩
 case body =>
  rintro l pre x W ⟨hp,hB⟩ _
  refine wpIn_mono (hbody l x.1 W x.2 hB) ?_
  intro e a' W' h
  cases e with
  | normal =>
   obtain ⟨h1,h2⟩:=h
   refine ⟨keeps_below h2,Kept.below h2 (by have:=hB.size;omega),?_,hB.trans (h2.mono hB.size)⟩
   intro y hy
   rcases List.mem_append.1 hy with hy | hy
   ·exact hp y hy
   ·obtain rfl:y=x:=by simpa using hy
    exact h1
  | ret =>
   obtain ⟨h1,h2,h3⟩:=h
   exact ⟨KeepsFrom.of_grownBy h2 (fun j e=>by cases e;exact hR),⟨rfl,pre,x,rfl,hp,h1,h3⟩,grown_trans (grown_of_below (hB.mono (Nat.le_refl _))) h2⟩
  | _=>exact h.elim
 case done =>
  rintro D xs W hD hS ⟨hp,hB⟩ hK
  refine hdone D W hD ?_ hB hK
  rw [← hS]
  intro x hx
  obtain ⟨y,hy,rfl⟩:=List.mem_map.1 hx
  exact hp y hy
 case stop =>
  rintro D c pre W hD hS ⟨⟨rfl,p0,x,rfl,h3,h4,h5⟩,hg⟩ hK
  refine hstop D x.1 W hD (find_pre (p:=p0.map Subtype.val) (by simpa using hS) ?_ h4) h4 hg h5 hK
  intro y hy
  obtain ⟨z,hz,rfl⟩:=List.mem_map.1 hy
  exact h3 z hz
end Search
end Go.Proofs.YtjolhoilcibdfaaGreat
